/- Contracts and lemmas (nothing is claimed here). -/
import Derived.Test.YtkcnjnccdafbfaaGreatDoorJ28
import Derived.Test.YtkcnjnccdafbfaaGreatDoorJ11
import Derived.Test.YtkcnjnccdafbfaaGreatDoorJ27
namespace Go.Proofs.YtkcnjnccdafbfaaGreatDoor
open Go.RowKit Go.Vf Go.Maps
def BothOk (w' : World) (m e : List UInt8) (L : List Mk) (F : Int → List Int) (E : List Ent) (bd T : Nat) : Prop := loadR m = .ok (L, F) ∧ loadT e = .ok E ∧ DataAt w' bd L F ∧ ∃ me ml val, TabAt w' T me ml val E
def BothPost (m e : List UInt8) (w : World) (r : Ending) (w' : World) : Prop := Below w.heap.size w w' ∧
  ((∃ L F E bd T, r = .returned (.tuple #[.pointer (some ⟨bd, 0, none⟩), .pointer (some ⟨T, 0, none⟩), .bool true]) ∧ BothOk w' m e L F E bd T) ∨
   (∃ d t, r = .returned (.tuple #[.pointer d, .pointer t, .bool false]) ∧ ∀ L F E, ¬ (loadR m = .ok (L, F) ∧ loadT e = .ok E)))
theorem results6_run {tmps : Array Value} {w : World} {a b c : Value} (t2 : tmps[2]?.getD undef = a) (t3 : tmps[3]?.getD undef = b) (t4 : tmps[4]?.getD undef = c) : (results Tryz.f6 tmps).run Tryz.prog w = .ok (.tuple #[a, b, c]) w := by
  simp [results, Tryz.results6, go_sem, t2, t3, t4]
theorem tabL_why : ∀ (C : List (List UInt8)) (n : Int) (acc : List Ent) (why line : Int), tabL C n acc = .error (why, line) → why ≠ 0 := by
  intro C
  induction C with
  | nil => intro n acc why line h; simp [tabL] at h
  | cons s r ih =>
    intro n acc why line h
    unfold tabL at h
    split at h
    · exact ih _ _ _ _ h
    · split at h
      · cases h; decide
      · split at h
        · split at h
          · cases h; decide
          · split at h
            · cases h; decide
            · exact ih _ _ _ _ h
        · cases h; decide
theorem loadT_why {s : List UInt8} {why line : Int} (h : loadT s = .error (why, line)) : why ≠ 0 := by
  unfold loadT at h
  split at h
  · cases h; decide
  · exact tabL_why _ _ _ _ _ h
theorem loadT_glob (s : ByteArray) (w : World) (hg : Glob w) (hbig : s.size ≤ 281474976710656) : Calls Tryz.prog 23 #[.string s] w fun e w' => LoadPost6 (loadT s.data.toList) w e w' := by
  obtain ⟨m, hm⟩ := hg
  exact load_any6 s m w hm hbig
set_option maxHeartbeats 2000000 in
theorem both_any (m e : ByteArray) (hm : m.size ≤ 281474976710656) (he : e.size ≤ 281474976710656) (w : World) (hg : Glob w) : Calls Tryz.prog 6 #[.agg #[.string m, .string e]] w fun r w' => BothPost m.data.toList e.data.toList w r w' := by
  have hb0 := (Below.refl w.heap.size w).alloc (Nat.le_refl _) (.cells #[.string m, .string e] 23)
  have hn0 := Blk.new w 23 #[.string m, .string e]
  have hg0 := hg.below hb0
  have c0 : (w.alloc (.cells #[.string m, .string e] 23)).cell? ⟨w.heap.size, 0, none⟩ = some (.string m) := hn0.cell 0
  have hl1 := load_glob m _ hg0 hm
  have hszA : (w.alloc (.cells #[.string m, .string e] 23)).heap.size = w.heap.size + 1 := by simp
  go_enter Tryz.func6, Tryz.ntmps6
  go_wp2_with fail
  generalize w.alloc (.cells #[.string m, .string e] 23) = w0 at *
  refine hl1.mono ?_
  rintro r w1 ⟨hb1, hp1⟩
  have c1 : w1.cell? ⟨w.heap.size, 1, none⟩ = some (.string e) := (hb1.cell (p := ⟨w.heap.size, 1, none⟩) (show w.heap.size < w0.heap.size by omega)).trans (hn0.cell 1)
  have hb01 := hb0.trans (hb1.mono hb0.size)
  have hl2 := loadT_glob e w1 (hg.below hb01) he
  clear hl1
  cases h1 : loadR m.data.toList with
  | error q =>
    obtain ⟨why, line⟩ := q
    rw [h1] at hp1
    obtain rfl : r = _ := hp1
    have hy0 := load_why h1
    have hy1 : (why == 0) = false := by simpa using hy0
    go_wp2_with fail
    refine hl2.mono ?_
    rintro r w2 ⟨hb2, hp2⟩
    have hb02 := hb01.trans (hb2.mono hb01.size)
    cases h2 : loadT e.data.toList with
    | error q2 =>
      obtain ⟨why2, line2⟩ := q2
      rw [h2] at hp2
      obtain rfl : r = _ := hp2
      go_wp2_with fail
      refine bodyPost_ret (results6_run rfl rfl rfl) rfl ?_
      exact ⟨hb02, .inr ⟨_, _, rfl, fun L F E h => by rw [h1] at h; cases h.1⟩⟩
    | ok E =>
      rw [h2] at hp2
      obtain ⟨T, me, ml, val, rfl, _⟩ := hp2
      go_wp2_with fail
      refine bodyPost_ret (results6_run rfl rfl rfl) rfl ?_
      exact ⟨hb02, .inr ⟨_, _, rfl, fun L F E h => by rw [h1] at h; cases h.1⟩⟩
  | ok q =>
    obtain ⟨L, F⟩ := q
    rw [h1] at hp1
    obtain ⟨bd, rfl, hd⟩ := hp1
    go_wp2_with fail
    refine hl2.mono ?_
    rintro r w2 ⟨hb2, hp2⟩
    have hb02 := hb01.trans (hb2.mono hb01.size)
    cases h2 : loadT e.data.toList with
    | error q2 =>
      obtain ⟨why2, line2⟩ := q2
      rw [h2] at hp2
      obtain rfl : r = _ := hp2
      have hy0 := loadT_why h2
      have hy1 : (why2 == 0) = false := by simpa using hy0
      go_wp2_with fail
      refine bodyPost_ret (results6_run rfl rfl rfl) rfl ?_
      exact ⟨hb02, .inr ⟨_, _, rfl, fun L F E h => by rw [h2] at h; cases h.2⟩⟩
    | ok E =>
      rw [h2] at hp2
      obtain ⟨T, me, ml, val, rfl, ht⟩ := hp2
      go_wp2_with fail
      refine bodyPost_ret (results6_run rfl rfl rfl) rfl ?_
      exact ⟨hb02, .inl ⟨L, F, E, bd, T, rfl, h1, h2, hd.below hb2, me, ml, val, ht⟩⟩
structure Lst (w : World) (a : Option Addr) (k c : Nat) (zs : List Int) : Prop where
  ints : Ints w.heap.size w (.slice a k c) zs
  len : k = zs.length
  int : ∀ q ∈ zs, InI q
  few : zs.length ≤ 17592186044416
theorem Lst.below {w w' : World} {a : Option Addr} {k c : Nat} {zs : List Int} (h : Lst w a k c zs) (hb : Below w.heap.size w w') : Lst w' a k c zs := ⟨(h.ints.below hb (Nat.le_refl _)).mono hb.size, h.len, h.int, h.few⟩
theorem Lst.numb {w : World} {a : Option Addr} {k c : Nat} {zs : List Int} (h : Lst w a k c zs) (hf : zs.length ≤ 1000000000) : Numb w a k c zs := ⟨h.ints, h.len, h.int, hf⟩
set_option maxHeartbeats 4000000 in
set_option maxRecDepth 20000 in
theorem few_any {bd : Nat} {L : List Mk} {F : Int → List Int} {a : Option Addr} {k c : Nat} {zs : List Int} {w : World} (hd : DataAt w bd L F) (hn : Lst w a k c zs) :
    Calls Tryz.prog 10 #[.pointer (some ⟨bd, 0, none⟩), .slice a k c] w fun e w' => e = .returned (.bool (decide ((flatR F zs).length ≤ 1000))) ∧ Below w.heap.size w w' := by
  have hlen := hn.len
  have hk : k ≤ 17592186044416 := by have := hn.few; omega
  have HLEN : Hid (k = zs.length) := hlen
  generalize hB : decide ((flatR F zs).length ≤ 1000) = bb
  have HB : Hid (decide (0 + (flatR F (zs.drop 0)).length ≤ 1000) = bb) := by show _ = _; simpa using hB
  clear hB hlen
  go_enter Tryz.func10, Tryz.ntmps10
  go_wp2_with fail
  go_loopw [5, 6] (fun nv iv wr => ∃ (n i : Nat), nv = .int .i64 n ∧ iv = .int .i64 i ∧ i ≤ k ∧ n ≤ 1057 ∧ Hid (decide (n + (flatR F (zs.drop i)).length ≤ 1000) = bb) ∧ Below w.heap.size w wr) (fun _ iv _ => k - (intOf iv).toNat)
  case atStart => exact ⟨0, 0, rfl, rfl, by omega, by omega, HB, Below.refl _ _⟩
  case round =>
    clear HB
    obtain ⟨n, i, rfl, rfl, hi, hn1, HB, hbr⟩ := hrel
    by_cases hlt : i < k
    · by_cases hn2 : n ≤ 1000
      · have hltp : i < zs.length := by rw [← HLEN.out]; exact hlt
        have hdr : zs.drop i = zs[i] :: zs.drop (i + 1) := List.drop_eq_getElem_cons hltp
        obtain ⟨bp, op, hao, hnk, hblt, hcell⟩ := (hn.ints.below hbr (Nat.le_refl _)).cell (fun e => by rw [e] at hltp; simp at hltp)
        have hcj := hcell i hltp
        rw [show zs[i]?.getD 0 = zs[i] by simp [List.getElem?_eq_getElem hltp]] at hcj
        have hqI := hn.int _ (List.getElem_mem hltp)
        have HB2 : Hid (decide (n + (partsR' F zs[i]).length + (flatR F (zs.drop (i + 1))).length ≤ 1000) = bb) := by
          show _ = _
          rw [← HB.out, hdr, show flatR F (zs[i] :: zs.drop (i + 1)) = partsR' F zs[i] ++ flatR F (zs.drop (i + 1)) from rfl, List.length_append, Nat.add_assoc]
        have hddr := hd.below hbr
        have hpl := hddr.plen zs[i]
        generalize zs[i] = q at hcj hqI HB2 hpl
        subst hao
        clear hcell HB hdr hnk hltp
        go_wp2_with fail
        refine (parts_any bd L F q _ hqI hddr).mono ?_
        rintro e w3 ⟨a3, k3, c3, rfl, hown3, hb3⟩
        have hk3 := hown3.form1
        generalize partsR' F q = pp at hk3 HB2 hpl hown3
        subst hk3
        go_wp2_with fail
        go_roundw
        case rel => exact ⟨n + pp.length, i + 1, by simp, by simp, by omega, by omega, HB2, hbr.trans (hb3.mono hbr.size)⟩
        case measure => simp only [intOf]; omega
      · have hbb : bb = false := by rw [← HB.out]; simp; omega
        have hd2 : decide ((n : Int) ≤ 1000) = false := by simp; omega
        clear HB
        subst hbb
        go_wp2_with fail
        go_ret
        exact ⟨rfl, hbr⟩
    · have hbb : decide ((n : Int) ≤ 1000) = bb := by
        rw [← HB.out, List.drop_of_length_le (by rw [← HLEN.out]; omega)]
        simp [flatR]
        omega
      have hltz : ¬ ((i : Int) < (k : Int)) := by omega
      clear HB
      go_wp2_with fail
      go_ret
      exact ⟨by first | rfl | rw [hbb] | simp, hbr⟩
def RIn (W : World) (v : Value) (rs : List (List Int)) : Prop := ∃ a c, v = .slice a rs.length c ∧ ∀ i (h : i < rs.length), ∃ b o ra rc, a = some ⟨b, o, none⟩ ∧ W.cell? ⟨b, o + i, none⟩ = some (.slice ra rs[i].length rc) ∧ Ints W.heap.size W (.slice ra rs[i].length rc) rs[i]
theorem RowsAt.rin {W : World} {base : Nat} {v : Value} {rs : List (List Int)} (h : RowsAt W base v rs) : RIn W v rs := by
  obtain ⟨vs, hrow, hvs⟩ := h
  obtain ⟨ra, rc, rfl⟩ := row_val hrow
  refine ⟨ra, rc, rfl, fun i hi => ?_⟩
  obtain ⟨u, hu, hiu⟩ := hvs i hi
  obtain ⟨ua, uc, rfl⟩ := hiu.val
  rcases hrow.2 with ⟨e, h0⟩ | ⟨g, cap, cur, e, _, hh, _, _, _, htk⟩
  · omega
  · cases e
    refine ⟨g, 0, ua, uc, rfl, ?_, hiu.ints⟩
    have hB : Blk W g 24 cur := hh
    rw [hB.cell, Nat.zero_add, ← Array.getElem?_toList, ← List.getElem?_take_of_lt (show i < rs.length * 1 by omega), htk]
    exact hu
theorem RIn.go {W W' : World} {v : Value} {rs : List (List Int)} (h : RIn W v rs) (hb : Below W.heap.size W W') : RIn W' v rs := by
  obtain ⟨a, c, rfl, h⟩ := h
  refine ⟨a, c, rfl, fun i hi => ?_⟩
  obtain ⟨b, o, ra, rc, rfl, h1, h2⟩ := h i hi
  exact ⟨b, o, ra, rc, rfl, (hb.cell (p := ⟨b, o + i, none⟩) (World.block_lt_of_cell? W _ h1)).trans h1, (h2.below hb (Nat.le_refl _)).mono hb.size⟩
set_option maxHeartbeats 4000000 in
set_option maxRecDepth 20000 in
theorem rows_any {va vb : Value} {rs ss : List (List Int)} {w : World} (ha : RIn w va rs) (hb : RIn w vb ss) (hla : rs.length ≤ 4611686018427387904) (_hlb : ss.length ≤ 4611686018427387904) (hr : ∀ r ∈ rs, r.length ≤ 4611686018427387904) (hs : ∀ r ∈ ss, r.length ≤ 4611686018427387904) :
    Calls Tryz.prog 15 #[va, vb] w fun e w' => e = .returned (.bool (decide (rs = ss))) ∧ Below w.heap.size w w' := by
  have ha0 := ha
  have hb0 := hb
  obtain ⟨a, c, rfl, ha⟩ := ha
  obtain ⟨b, d, rfl, hb⟩ := hb
  generalize hB : decide (rs = ss) = bb
  by_cases hl : rs.length = ss.length
  · have HB : Hid (decide (rs.drop 0 = ss.drop 0) = bb) := by show _ = _; simpa using hB
    have hne : ((rs.length : Int) != (ss.length : Int)) = false := by simp [hl]
    have HL : Hid (rs.length = ss.length) := hl
    clear hB hl
    go_enter Tryz.func15, Tryz.ntmps15
    go_wp2_with fail
    go_loopw [5] (fun iv wr => ∃ i : Nat, iv = .int .i64 i ∧ i ≤ rs.length ∧ Hid (decide (rs.drop i = ss.drop i) = bb) ∧ Below w.heap.size w wr) (fun iv _ => rs.length - (intOf iv).toNat)
    case atStart => exact ⟨0, rfl, by omega, HB, Below.refl _ _⟩
    case round =>
      clear HB
      obtain ⟨i, rfl, hi, HB, hbr⟩ := hrel
      by_cases hlt : i < rs.length
      · have hlt2 : i < ss.length := by rw [← HL.out]; exact hlt
        obtain ⟨ab, ao, ra, rc, rfl, d1, d2⟩ := ha i hlt
        obtain ⟨bb2, bo, sa, sc, rfl, e1, e2⟩ := hb i hlt2
        have c1 := (hbr.cell (p := ⟨ab, ao + i, none⟩) (World.block_lt_of_cell? w _ d1)).trans d1
        have c2 := (hbr.cell (p := ⟨bb2, bo + i, none⟩) (World.block_lt_of_cell? w _ e1)).trans e1
        have HB2 : Hid (decide (rs[i] = ss[i] ∧ rs.drop (i + 1) = ss.drop (i + 1)) = bb) := by
          show _ = _
          rw [← HB.out, List.drop_eq_getElem_cons hlt, List.drop_eq_getElem_cons hlt2]
          simp only [List.cons.injEq]
        have g1 := (d2.below hbr (Nat.le_refl _)).mono hbr.size
        have g2 := (e2.below hbr (Nat.le_refl _)).mono hbr.size
        have l1 := hr _ (List.getElem_mem hlt)
        have l2 := hs _ (List.getElem_mem hlt2)
        generalize rs[i] = r at c1 HB2 g1 l1
        generalize ss[i] = s at c2 HB2 g2 l2
        have hbd : Below wr.heap.size wr wr.drew := (Below.refl _ wr).drew
        have hsa := sameInts_any _ _ r s _ _ wr.drew (g1.below hbd (Nat.le_refl _)) (g2.below hbd (Nat.le_refl _)) l1 l2
        have hltz : (i : Int) < (rs.length : Int) := by omega
        clear d1 d2 e1 e2 HB g1 g2
        go_upto_region 6 with fail
        go_cut [26] from 11 to 26 (fun v wx => v = .bool (!decide (r = s)) ∧ Aside (Below wr.heap.size wr wx))
        case first =>
          go_region_with (first | (go_at_call 17; with_reducible refine hsa.mono ?_; rintro e w2 ⟨rfl, hb2⟩))
          all_goals
            go_wp2_with fail
            go_meet
            exact ⟨by simp, hbd.trans hb2⟩
        case rest =>
          obtain ⟨rfl, HW⟩ := hcut
          have hbc := hbr.trans (HW.out.mono hbr.size)
          by_cases hrs : r = s
          · have HB3 : Hid (decide (rs.drop (i + 1) = ss.drop (i + 1)) = bb) := by
              show _ = _
              rw [← HB2.out]
              simp [hrs]
            have hd1 : decide (r = s) = true := by simpa using hrs
            rw [hd1]
            clear HB2 hsa hrs hd1
            go_wp2_with fail
            go_roundw
            case rel => exact ⟨i + 1, by simp, by omega, HB3, hbc⟩
            case measure => simp only [intOf]; omega
          · have hbb : bb = false := by rw [← HB2.out]; simp [hrs]
            have hd1 : decide (r = s) = false := by simpa using hrs
            rw [hd1]
            clear HB2 hsa hrs hd1
            subst hbb
            go_wp2_with fail
            go_ret
            exact ⟨rfl, hbc⟩
      · have hbb : bb = true := by
          rw [← HB.out, List.drop_of_length_le (by omega), List.drop_of_length_le (by rw [← HL.out]; omega)]
          rfl
        have hltz : ¬ ((i : Int) < (rs.length : Int)) := by omega
        clear HB
        subst hbb
        go_wp2_with fail
        go_ret
        exact ⟨rfl, hbr⟩
  · have hbb : bb = false := by rw [← hB]; simp; intro e; exact hl (by rw [e])
    have hne : ((rs.length : Int) != (ss.length : Int)) = true := by simp; omega
    clear hB
    subst hbb
    go_enter Tryz.func15, Tryz.ntmps15
    go_wp2_with fail
    go_ret
    exact ⟨rfl, Below.refl _ _⟩
def aw1 : List UInt8 := [48, 51, 48, 49, 59, 50, 51, 48, 59, 10, 48, 51, 48, 54, 59, 50, 51, 48, 59, 10, 48, 51, 50, 51, 59, 50, 50, 48, 59, 10, 48, 51, 50, 52, 59, 50, 50, 48, 59]
def aw2 : List UInt8 := [48, 48, 54, 49, 59, 91, 46, 49, 48, 48, 48, 46, 48, 48, 50, 48, 46, 48, 48, 48, 50, 93, 10, 48, 48, 54, 49, 32, 48, 51, 48, 49, 59, 91, 46, 49, 48, 48, 49, 46, 48, 48, 50, 48, 46, 48, 48, 48, 50, 93, 10, 48, 51, 50, 52, 59, 91, 46, 48, 48, 48, 48, 46, 48, 48, 50, 49, 46, 48, 48, 48, 50, 93, 10, 48, 51, 48, 54, 59, 91, 46, 48, 48, 48, 48, 46, 48, 48, 50, 50, 46, 48, 48, 48, 50, 93, 10, 48, 51, 48, 49, 59, 91, 46, 48, 48, 48, 48, 46, 48, 48, 50, 51, 46, 48, 48, 48, 50, 93]
def awTest (r : Except (Int × Int) (List Mk × (Int → List Int))) (e : Except (Int × Int) (List Ent)) : Bool :=
  match r, e with
  | .ok (L, F), .ok E => (classAt L 97 == 0) && (classAt L 804 == 220) && (classAt L 774 == 230) && (classAt L 769 == 230) && (partsR' F 97 == [97]) && (partsR' F 804 == [804]) && (partsR' F 774 == [774]) && (partsR' F 769 == [769]) && (stepsD (classAt L) (fndT E) [97, 804, 769] == [[97, 769], [804]]) && (stepsD (classAt L) (fndT E) [97, 774, 769] == [[97], [774], [769]]) && decide (elsOf E [[97, 769], [804]] = [⟨false, 4097, 32, 2⟩, ⟨false, 0, 33, 2⟩])
  | _, _ => false
set_option maxRecDepth 100000 in
theorem aw_one : awTest (loadR aw1) (loadT aw2) = true := by kernel_rfl
structure AwOk (L : List Mk) (F : Int → List Int) (E : List Ent) : Prop where
  load : loadR aw1 = .ok (L, F)
  loadT : loadT aw2 = .ok E
  one : IsForm L F [97, 804, 769] [97, 804, 769]
  two : IsForm L F [97, 774, 769] [97, 774, 769]
  st1 : stepsD (classAt L) (fndT E) [97, 804, 769] = [[97, 769], [804]]
  st2 : stepsD (classAt L) (fndT E) [97, 774, 769] = [[97], [774], [769]]
  els : elsOf E [[97, 769], [804]] = [⟨false, 4097, 32, 2⟩, ⟨false, 0, 33, 2⟩]
theorem aw_ok : ∃ L F E, AwOk L F E := by
  have h := aw_one
  cases hl : loadR aw1 with
  | error e => rw [hl] at h; cases h
  | ok p =>
    cases ht : loadT aw2 with
    | error e => rw [hl, ht] at h; cases h
    | ok E =>
      obtain ⟨L, F⟩ := p
      rw [hl, ht] at h
      unfold awTest at h
      simp only [Bool.and_eq_true, beq_iff_eq, decide_eq_true_eq] at h
      obtain ⟨⟨⟨⟨⟨⟨⟨⟨⟨⟨h0, h1⟩, h2⟩, h3⟩, h4⟩, h5⟩, h6⟩, h7⟩, h8⟩, h9⟩, h10⟩ := h
      have f1 : flatR F [97, 804, 769] = [97, 804, 769] := by simp [flatR, h4, h5, h7]
      have f2 : flatR F [97, 774, 769] = [97, 774, 769] := by simp [flatR, h4, h6, h7]
      have c1 : CO (classAt L) [97, 804, 769] := ⟨fun _ => by rw [h0, h1]; omega, fun _ => by rw [h1, h3]; omega, trivial⟩
      have c2 : CO (classAt L) [97, 774, 769] := ⟨fun _ => by rw [h0, h2]; omega, fun _ => by rw [h2, h3]; omega, trivial⟩
      exact ⟨L, F, E, hl, ht, ⟨c1, by rw [f1]; exact Alike0.refl _⟩, ⟨c2, by rw [f2]; exact Alike0.refl _⟩, h8, h9, h10⟩
theorem rin_of {W : World} {b c : Nat} {rs : List (List Int)} {cs : Array Value} (hB : Blk W b 24 cs) (h : ∀ i (h : i < rs.length), ∃ ra rc, cs[i]? = some (.slice ra rs[i].length rc) ∧ Ints W.heap.size W (.slice ra rs[i].length rc) rs[i]) : RIn W (.slice (some ⟨b, 0, none⟩) rs.length c) rs :=
  ⟨_, c, rfl, fun i hi => by
    obtain ⟨ra, rc, h1, h2⟩ := h i hi
    exact ⟨b, 0, ra, rc, rfl, by rw [hB.cell, Nat.zero_add]; exact h1, h2⟩⟩
theorem size_alloc (W : World) (o : Obj) : (W.alloc o).heap.size = W.heap.size + 1 := by simp
theorem lit_ints {W : World} {B : Nat} {zs : List Int} {cs : Array Value} (hB : Blk W B 3 cs) (h : cs = (zs.map (Value.int .i64)).toArray) (c : Nat) : Ints W.heap.size W (.slice (some ⟨B, 0, none⟩) zs.length c) zs := by
  subst h
  refine .inr ⟨_, 0, c, rfl, hB.lt, fun j hj => ?_⟩
  rw [Nat.zero_add, hB.cell j]
  simp [hj]
theorem lit_two (W : World) : ∃ W', W' = ((W.alloc (.cells #[.int .i64 97, .int .i64 769] 3)).alloc (.cells #[.int .i64 804] 3)).alloc (.cells #[.slice (some ⟨W.heap.size, 0, none⟩) 2 2, .slice (some ⟨W.heap.size + 1, 0, none⟩) 1 1] 24) ∧ Below W.heap.size W W' ∧ RIn W' (.slice (some ⟨W.heap.size + 1 + 1, 0, none⟩) 2 2) [[97, 769], [804]] := by
  obtain ⟨W1, hW1⟩ : ∃ W1, W1 = W.alloc (.cells #[.int .i64 97, .int .i64 769] 3) := ⟨_, rfl⟩
  obtain ⟨W2, hW2⟩ : ∃ W2, W2 = W1.alloc (.cells #[.int .i64 804] 3) := ⟨_, rfl⟩
  have s1 : W1.heap.size = W.heap.size + 1 := by rw [hW1]; exact size_alloc _ _
  have s2 : W2.heap.size = W.heap.size + 1 + 1 := by rw [hW2, size_alloc, s1]
  have b1 : Below W.heap.size W W1 := by rw [hW1]; exact (Below.refl _ W).alloc (Nat.le_refl _) _
  have b2 : Below W1.heap.size W1 W2 := by rw [hW2]; exact (Below.refl _ W1).alloc (Nat.le_refl _) _
  have B1 : Blk W1 W.heap.size 3 #[.int .i64 97, .int .i64 769] := by rw [hW1]; exact Blk.new _ _ _
  have B2 : Blk W2 (W.heap.size + 1) 3 #[.int .i64 804] := by rw [hW2, ← s1]; exact Blk.new _ _ _
  have b3 := (Below.refl W2.heap.size W2).alloc (Nat.le_refl _) (.cells #[.slice (some ⟨W.heap.size, 0, none⟩) 2 2, .slice (some ⟨W.heap.size + 1, 0, none⟩) 1 1] 24)
  have hn := Blk.new W2 24 #[.slice (some ⟨W.heap.size, 0, none⟩) 2 2, .slice (some ⟨W.heap.size + 1, 0, none⟩) 1 1]
  refine ⟨_, by rw [← hW1, ← hW2], (b1.trans (b2.mono (by omega))).trans (b3.mono (by omega)), ?_⟩
  rw [s2] at hn
  refine rin_of (rs := [[97, 769], [804]]) (c := 2) hn fun i hi => ?_
  match i, hi with
  | 0, _ => exact ⟨_, _, rfl, lit_ints (zs := [97, 769]) ((B1.below b2 (by omega)).below b3 (by omega)) rfl 2⟩
  | 1, _ => exact ⟨_, _, rfl, lit_ints (zs := [804]) (B2.below b3 (by omega)) rfl 1⟩
theorem lit_three (W : World) : ∃ W', W' = (((W.alloc (.cells #[.int .i64 97] 3)).alloc (.cells #[.int .i64 774] 3)).alloc (.cells #[.int .i64 769] 3)).alloc (.cells #[.slice (some ⟨W.heap.size, 0, none⟩) 1 1, .slice (some ⟨W.heap.size + 1, 0, none⟩) 1 1, .slice (some ⟨W.heap.size + 1 + 1, 0, none⟩) 1 1] 24) ∧ Below W.heap.size W W' ∧ RIn W' (.slice (some ⟨W.heap.size + 1 + 1 + 1, 0, none⟩) 3 3) [[97], [774], [769]] := by
  obtain ⟨W1, hW1⟩ : ∃ W1, W1 = W.alloc (.cells #[.int .i64 97] 3) := ⟨_, rfl⟩
  obtain ⟨W2, hW2⟩ : ∃ W2, W2 = W1.alloc (.cells #[.int .i64 774] 3) := ⟨_, rfl⟩
  obtain ⟨W3, hW3⟩ : ∃ W3, W3 = W2.alloc (.cells #[.int .i64 769] 3) := ⟨_, rfl⟩
  have s1 : W1.heap.size = W.heap.size + 1 := by rw [hW1]; exact size_alloc _ _
  have s2 : W2.heap.size = W.heap.size + 1 + 1 := by rw [hW2, size_alloc, s1]
  have s3 : W3.heap.size = W.heap.size + 1 + 1 + 1 := by rw [hW3, size_alloc, s2]
  have b1 : Below W.heap.size W W1 := by rw [hW1]; exact (Below.refl _ W).alloc (Nat.le_refl _) _
  have b2 : Below W1.heap.size W1 W2 := by rw [hW2]; exact (Below.refl _ W1).alloc (Nat.le_refl _) _
  have b3 : Below W2.heap.size W2 W3 := by rw [hW3]; exact (Below.refl _ W2).alloc (Nat.le_refl _) _
  have B1 : Blk W1 W.heap.size 3 #[.int .i64 97] := by rw [hW1]; exact Blk.new _ _ _
  have B2 : Blk W2 (W.heap.size + 1) 3 #[.int .i64 774] := by rw [hW2, ← s1]; exact Blk.new _ _ _
  have B3 : Blk W3 (W.heap.size + 1 + 1) 3 #[.int .i64 769] := by rw [hW3, ← s2]; exact Blk.new _ _ _
  have b4 := (Below.refl W3.heap.size W3).alloc (Nat.le_refl _) (.cells #[.slice (some ⟨W.heap.size, 0, none⟩) 1 1, .slice (some ⟨W.heap.size + 1, 0, none⟩) 1 1, .slice (some ⟨W.heap.size + 1 + 1, 0, none⟩) 1 1] 24)
  have hn := Blk.new W3 24 #[.slice (some ⟨W.heap.size, 0, none⟩) 1 1, .slice (some ⟨W.heap.size + 1, 0, none⟩) 1 1, .slice (some ⟨W.heap.size + 1 + 1, 0, none⟩) 1 1]
  refine ⟨_, by rw [← hW1, ← hW2, ← hW3], ((b1.trans (b2.mono (by omega))).trans (b3.mono (by omega))).trans (b4.mono (by omega)), ?_⟩
  rw [s3] at hn
  refine rin_of (rs := [[97], [774], [769]]) (c := 3) hn fun i hi => ?_
  match i, hi with
  | 0, _ => exact ⟨_, _, rfl, lit_ints (zs := [97]) (((B1.below b2 (by omega)).below b3 (by omega)).below b4 (by omega)) rfl 1⟩
  | 1, _ => exact ⟨_, _, rfl, lit_ints (zs := [774]) ((B2.below b3 (by omega)).below b4 (by omega)) rfl 1⟩
  | 2, _ => exact ⟨_, _, rfl, lit_ints (zs := [769]) (B3.below b4 (by omega)) rfl 1⟩
set_option maxHeartbeats 8000000 in
set_option maxRecDepth 20000 in
theorem awake_any (w : World) (hg : Glob w) : Calls Tryz.prog 9 #[] w fun e w' => e = .returned (.bool true) ∧ Below w.heap.size w w' := by
  obtain ⟨L, F, E, hA⟩ := aw_ok
  have HA : Aside (AwOk L F E) := hA
  go_enter Tryz.func9, Tryz.ntmps9
  go_wp2_with fail
  refine (load_glob ⟨aw1.toArray⟩ w hg (by decide)).mono ?_
  rintro e w1 ⟨hb1, hpost⟩
  rw [show loadR (⟨aw1.toArray⟩ : ByteArray).data.toList = .ok (L, F) from hA.load] at hpost
  obtain ⟨bd, rfl, hd1⟩ := hpost
  have hg1 := hg.below hb1
  go_wp2_with fail
  refine (loadT_glob ⟨aw2.toArray⟩ w1 hg1 (by decide)).mono ?_
  rintro e w2 ⟨hb2, hpost⟩
  rw [show loadT (⟨aw2.toArray⟩ : ByteArray).data.toList = .ok E from hA.loadT] at hpost
  obtain ⟨T, me, ml, val, rfl, ht2⟩ := hpost
  have hd2 := hd1.below hb2
  have HB2 : Below w.heap.size w w2 := hb1.trans (hb2.mono hb1.size)
  clear hd1 hg1 hb1 hb2 hA
  go_wp2_with fail
  have hba := (Below.refl w2.heap.size w2).alloc (Nat.le_refl _) (.cells #[.int .i64 97, .int .i64 804, .int .i64 769] 3)
  have hna := numb_new w2 [97, 804, 769] #[.int .i64 97, .int .i64 804, .int .i64 769] rfl 3 3 rfl (by intro q hq; simp at hq; rcases hq with rfl | rfl | rfl <;> (unfold InI; omega)) (by simp)
  generalize w2.alloc (.cells #[.int .i64 97, .int .i64 804, .int .i64 769] 3) = wa at hba hna ⊢
  refine (steps_any HA.out.load (hd2.below hba) (ht2.below hba) hna HA.out.one (by simp)).mono ?_
  rintro e w3 ⟨v3, rfl, hr3, hb3⟩
  rw [HA.out.st1] at hr3
  have hb23 := hba.trans (hb3.mono hba.size)
  have hd3 := hd2.below hb23
  have ht3 := ht2.below hb23
  have hr3' := hr3.rin
  have HB3 := HB2.trans (hb23.mono HB2.size)
  clear hd2 ht2 hba hna hr3 hb23 hb3 HB2
  go_wp2_with fail
  have hba := (Below.refl w3.heap.size w3).alloc (Nat.le_refl _) (.cells #[.int .i64 97, .int .i64 774, .int .i64 769] 3)
  have hna := numb_new w3 [97, 774, 769] #[.int .i64 97, .int .i64 774, .int .i64 769] rfl 3 3 rfl (by intro q hq; simp at hq; rcases hq with rfl | rfl | rfl <;> (unfold InI; omega)) (by simp)
  generalize w3.alloc (.cells #[.int .i64 97, .int .i64 774, .int .i64 769] 3) = wa at hba hna ⊢
  refine (steps_any HA.out.load (hd3.below hba) (ht3.below hba) hna HA.out.two (by simp)).mono ?_
  rintro e w4 ⟨v4, rfl, hr4, hb4⟩
  rw [HA.out.st2] at hr4
  have hb34 := hba.trans (hb4.mono hba.size)
  have hd4 := hd3.below hb34
  have ht4 := ht3.below hb34
  have hr4' := hr4.rin
  have hr3'' := hr3'.go hb34
  have HB4 := HB3.trans (hb34.mono HB3.size)
  clear hd3 ht3 hba hna hr4 hb34 hb4 HB3 hr3'
  go_wp2_with fail
  have hba := (Below.refl w4.heap.size w4).alloc (Nat.le_refl _) (.cells #[.int .i64 97, .int .i64 804, .int .i64 769] 3)
  have hna := numb_new w4 [97, 804, 769] #[.int .i64 97, .int .i64 804, .int .i64 769] rfl 3 3 rfl (by intro q hq; simp at hq; rcases hq with rfl | rfl | rfl <;> (unfold InI; omega)) (by simp)
  generalize w4.alloc (.cells #[.int .i64 97, .int .i64 804, .int .i64 769] 3) = wa at hba hna ⊢
  refine (elements_any HA.out.load (hd4.below hba) (ht4.below hba) hna HA.out.one (by simp) (by simp)).mono ?_
  rintro e w5 ⟨v5, rfl, hr5, hb5⟩
  rw [HA.out.st1, HA.out.els] at hr5
  have hb45 := hba.trans (hb5.mono hba.size)
  have q3 := hr3''.go hb45
  have q4 := hr4'.go hb45
  have HB5 := HB4.trans (hb45.mono HB4.size)
  obtain ⟨a5, c5, rfl, hc5⟩ := hr5.cap
  have he5 : ∃ g, a5 = some ⟨g, 0, none⟩ ∧ w5.cell? ⟨g, 1, none⟩ = some (.int .i64 4097) := by
    rcases hr5.form with ⟨_, e⟩ | ⟨g, cap, e, _, _, hc, _⟩
    · cases e
    · cases e; exact ⟨g, rfl, hc 1 _ rfl⟩
  obtain ⟨g5, rfl, hcell5⟩ := he5
  clear hd4 ht4 hba hna hb45 hb5 HB4 hr3'' hr4' hr5
  have Q3 : Aside (RIn w5 v3 [[97, 769], [804]]) := q3
  have Q4 : Aside (RIn w5 v4 [[97], [774], [769]]) := q4
  clear q3 q4
  have hl5 : ([⟨false, 4097, 32, 2⟩, ⟨false, 0, 33, 2⟩] : List El).length = 2 := rfl
  rw [hl5] at *
  go_wp2_with fail
  obtain ⟨W6, hW6, b6, r6⟩ := lit_two w5
  rw [← hW6]
  refine (rows_any (Q3.out.go b6) r6 (by simp) (by simp) (by simp) (by simp)).mono ?_
  rintro e w7 ⟨rfl, hb7⟩
  have hb57 := b6.trans (hb7.mono b6.size)
  rw [show decide (([[97, 769], [804]] : List (List Int)) = [[97, 769], [804]]) = true by decide]
  have hc7 := (hb57.cell (p := ⟨g5, 1, none⟩) (World.block_lt_of_cell? w5 _ hcell5)).trans hcell5
  have Q47 : Aside (RIn w7 v4 [[97], [774], [769]]) := Q4.out.go hb57
  clear hW6 r6 hb7 b6 Q3 Q4 hcell5
  go_wp2_with fail
  obtain ⟨W8, hW8, b8, r8⟩ := lit_three w7
  rw [← hW8]
  refine (rows_any (Q47.out.go b8) r8 (by simp) (by simp) (by simp) (by simp)).mono ?_
  rintro e w9 ⟨rfl, hb9⟩
  have hb79 := b8.trans (hb9.mono b8.size)
  rw [show decide (([[97], [774], [769]] : List (List Int)) = [[97], [774], [769]]) = true by decide]
  have hc9 := (hb79.cell (p := ⟨g5, 1, none⟩) (World.block_lt_of_cell? w7 _ hc7)).trans hc7
  have hfin : Below w.heap.size w w9 := HB5.trans ((hb57.trans (hb79.mono hb57.size)).mono HB5.size)
  clear hW8 r8 hb9 b8 Q47 hc7
  go_wp2
  go_ret
  exact ⟨rfl, hfin⟩
end Go.Proofs.YtkcnjnccdafbfaaGreatDoor
namespace Go.Vf
def pick (cls : Int → Int) (l : List Int) : Nat → List Int
  | 0 => []
  | c + 1 => pick cls l c ++ l.filter (fun x => cls x == ((c + 1 : Nat) : Int))
theorem pick_mem {cls : Int → Int} {l : List Int} : ∀ {c : Nat} {x : Int}, x ∈ pick cls l c ↔ x ∈ l ∧ 1 ≤ cls x ∧ cls x ≤ c := by
  intro c
  induction c with
  | zero => intro x; simp [pick]; omega
  | succ c ih =>
    intro x
    rw [pick, List.mem_append, ih, List.mem_filter]
    simp only [beq_iff_eq]
    constructor
    · rintro (⟨h1, h2, h3⟩ | ⟨h1, h2⟩)
      · exact ⟨h1, h2, by omega⟩
      · exact ⟨h1, by omega, by omega⟩
    · rintro ⟨h1, h2, h3⟩
      by_cases h : cls x ≤ c
      · exact .inl ⟨h1, h2, h⟩
      · exact .inr ⟨h1, by omega⟩
theorem pick_sorted {cls : Int → Int} {l : List Int} : ∀ c, SortedK cls (pick cls l c) := by
  intro c
  induction c with
  | zero => exact SortedK.nil
  | succ c ih =>
    refine SortedK.append ih ?_ (fun x hx y hy => ?_)
    · refine List.pairwise_of_forall_mem_list (fun x hx y hy => ?_)
      have h1 := (List.mem_filter.1 hx).2
      have h2 := (List.mem_filter.1 hy).2
      simp only [beq_iff_eq] at h1 h2
      omega
    · have h1 := (pick_mem.1 hx).2.2
      have h2 := (List.mem_filter.1 hy).2
      simp only [beq_iff_eq] at h2
      omega
theorem pick_filter {cls : Int → Int} {l : List Int} (k : Int) : ∀ c : Nat, (pick cls l c).filter (fun x => cls x == k) = if 1 ≤ k ∧ k ≤ c then l.filter (fun x => cls x == k) else [] := by
  intro c
  induction c with
  | zero => rw [if_neg (by omega)]; rfl
  | succ c ih =>
    rw [pick, List.filter_append, ih, List.filter_filter]
    by_cases h1 : k = ((c + 1 : Nat) : Int)
    · rw [if_neg (by omega), if_pos (by omega), List.nil_append]
      refine List.filter_congr (fun x _ => ?_)
      rw [h1]; simp
    · have e : l.filter (fun x => cls x == k && cls x == ((c + 1 : Nat) : Int)) = [] := by
        rw [List.filter_eq_nil_iff]
        intro x _ h
        simp only [Bool.and_eq_true, beq_iff_eq] at h
        exact h1 (h.1.symm.trans h.2)
      rw [e, List.append_nil]
      by_cases h2 : 1 ≤ k ∧ k ≤ c
      · rw [if_pos h2, if_pos (by omega)]
      · rw [if_neg h2, if_neg (by omega)]
theorem pick_alike {cls : Int → Int} {l : List Int} {c : Nat} (h : ∀ x ∈ l, 1 ≤ cls x ∧ cls x ≤ c) : AlikeK cls l (pick cls l c) := fun k => by
  rw [pick_filter]
  by_cases hk : 1 ≤ k ∧ k ≤ c
  · rw [if_pos hk]
  · rw [if_neg hk, List.filter_eq_nil_iff]
    intro x hx e
    simp only [beq_iff_eq] at e
    exact hk (e ▸ h x hx)
theorem pick_perm {cls : Int → Int} {l : List Int} : ∀ c : Nat, (pick cls l c).Perm (l.filter (fun x => decide (1 ≤ cls x ∧ cls x ≤ c))) := by
  intro c
  induction c with
  | zero =>
    rw [show l.filter (fun x => decide (1 ≤ cls x ∧ cls x ≤ ((0 : Nat) : Int))) = [] by rw [List.filter_eq_nil_iff]; intro x _ h; simp at h; omega]
    exact List.Perm.refl _
  | succ c ih =>
    rw [pick]
    refine (ih.append_right _).trans ?_
    clear ih
    induction l with
    | nil => exact List.Perm.refl _
    | cons x t ih =>
      by_cases a : (1 ≤ cls x ∧ cls x ≤ c)
      · rw [List.filter_cons_of_pos (by simpa using a), List.filter_cons_of_neg (by simp; omega), List.filter_cons_of_pos (by simp; omega)]
        exact ih.cons x
      · by_cases b : cls x = ((c + 1 : Nat) : Int)
        · rw [List.filter_cons_of_neg (by simpa using a), List.filter_cons_of_pos (by simpa using b), List.filter_cons_of_pos (by simp; omega)]
          exact List.perm_middle.trans (ih.cons x)
        · rw [List.filter_cons_of_neg (by simpa using a), List.filter_cons_of_neg (by simpa using b), List.filter_cons_of_neg (by simp; omega)]
          exact ih
theorem pick_len {cls : Int → Int} {l : List Int} {c : Nat} : (pick cls l c).length ≤ l.length := by
  rw [(pick_perm c).length_eq]
  exact List.length_filter_le _ _
theorem pick_full {cls : Int → Int} {l : List Int} {c : Nat} (h : l.length ≤ (pick cls l c).length) : ∀ x ∈ l, 1 ≤ cls x ∧ cls x ≤ c := by
  rw [(pick_perm c).length_eq] at h
  have he : l.filter (fun x => decide (1 ≤ cls x ∧ cls x ≤ c)) = l := List.filter_eq_self.2 (fun x hx => by
    have := List.length_filter_eq_length_iff.1 (Nat.le_antisymm (List.length_filter_le _ _) h) x hx
    exact this)
  intro x hx
  rw [← he] at hx
  simpa using (List.mem_filter.1 hx).2
end Go.Vf
