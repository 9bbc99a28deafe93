/- Contracts and lemmas (nothing is claimed here). -/
import Derived.Test.YtfeppbiodbhpcaaDoorLdI
import Derived.Test.YtfeppbiodbhpcaaDoorLaid
import Derived.Test.YtfeppbiodbhpcaaDoorEntsI
namespace Go.Proofs.YtfeppbiodbhpcaaDoor
open Go.RowKit Go.Vf Go.Maps

theorem tabL_why : ∀ (C : List (List UInt8)) (n : Int) (acc : List Ent) (why line : Int), tabL C n acc = .error (why, line) → why ≠ 0 := by
  intro C
  induction C with
  | nil => intro n acc why line h; simp [tabL] at h
  | cons s r ih =>
    intro n acc why line h
    unfold tabL at h
    split at h
    · exact ih _ _ _ _ h
    · split at h
      · cases h; decide
      · split at h
        · split at h
          · cases h; decide
          · split at h
            · cases h; decide
            · exact ih _ _ _ _ h
        · cases h; decide
theorem loadT_why {s : List UInt8} {why line : Int} (h : loadT s = .error (why, line)) : why ≠ 0 := by
  unfold loadT at h
  split at h
  · cases h; decide
  · exact tabL_why _ _ _ _ _ h

def RowsI (n₀ : Nat) (w : World) (v : Value) (L : List (List Int)) : Prop := (∃ a c, v = .slice a 0 c ∧ L = []) ∨ ∃ b off c, v = .slice (some ⟨b, off, none⟩) L.length c ∧ b < n₀ ∧ ∀ j (hj : j < L.length), ∃ u, w.cell? ⟨b, off + j, none⟩ = some u ∧ Ints n₀ w u L[j]
theorem RowsI.val {n₀ : Nat} {w : World} {v : Value} {L : List (List Int)} (h : RowsI n₀ w v L) : ∃ a c, v = .slice a L.length c := by
  rcases h with ⟨a, c, rfl, rfl⟩ | ⟨b, off, c, rfl, _⟩
  · exact ⟨_, _, rfl⟩
  · exact ⟨_, _, rfl⟩
theorem RowsI.at {n₀ : Nat} {w : World} {a : Option Addr} {k c : Nat} {L : List (List Int)} (h : RowsI n₀ w (.slice a k c) L) {j : Nat} (hj : j < L.length) : ∃ b off u, a = some ⟨b, off, none⟩ ∧ b < n₀ ∧ w.cell? ⟨b, off + j, none⟩ = some u ∧ Ints n₀ w u L[j] := by
  rcases h with ⟨a', c', e, rfl⟩ | ⟨b, off, c', e, hb, hc⟩
  · simp at hj
  · cases (Value.slice.inj e).1
    obtain ⟨u, h1, h2⟩ := hc j hj
    exact ⟨b, off, u, rfl, hb, h1, h2⟩
theorem rowB_in {p : List Int} (h : rowB p = true) : ∀ z ∈ p, InI z := fun z hz => by
  unfold rowB at h
  simp only [Bool.and_eq_true, List.all_eq_true] at h
  have := h.2 z hz
  unfold isPtB at this
  simp only [Bool.and_eq_true, decide_eq_true_eq] at this
  unfold InI
  omega
theorem RowsI.below {n₀ n : Nat} {w w' : World} {v : Value} {L : List (List Int)} (h : RowsI n₀ w v L) (hb : Below n w w') (hn : n₀ ≤ n) : RowsI n₀ w' v L := by
  rcases h with h | ⟨b, off, c, rfl, hlt, hc⟩
  · exact .inl h
  · refine .inr ⟨b, off, c, rfl, hlt, fun j hj => ?_⟩
    obtain ⟨u, h1, h2⟩ := hc j hj
    exact ⟨u, (hb.cell (p := ⟨b, off + j, none⟩) (show b < n by omega)).trans h1, h2.below hb hn⟩
theorem NOwn.caps {W : World} {base n c : Nat} {a : Option Addr} {l : List Ent} (h : NOwn W base (.slice a n c) l) {j : Nat} (hj : j < l.length) : ∃ g pv, a = some ⟨g, 0, none⟩ ∧ W.cell? ⟨g, j * 2, none⟩ = some pv ∧ IOwn W base pv l[j].1 ∧ g < W.heap.size := by
  obtain ⟨ps, h1, h2, hl⟩ := h
  have hll : l.length = ps.length := by rw [← hl, List.length_map]
  rcases h1.2 with ⟨e, h0⟩ | ⟨g, cap, cur, e, hb, hg, hc, hm, hs, htk⟩
  · omega
  · cases e
    have hjp : j < ps.length := by omega
    obtain ⟨f1, f2⟩ := flatE_at ps j hjp
    have hall : ∀ j u, (flatE ps)[j]? = some u → W.cell? ⟨g, j, none⟩ = some u := fun j u hu => by
      rw [← htk] at hu
      have hj := (List.getElem?_eq_some_iff.1 hu).1
      rw [List.getElem?_take_of_lt (by rw [List.length_take] at hj; omega)] at hu
      simp only [World.cell?, hg]
      simpa using hu
    have he : l[j] = (ps[j]).1 := by subst hl; simp
    exact ⟨g, (ps[j]).2.1, rfl, hall _ _ f1, by rw [he]; exact (h2 _ (List.getElem_mem hjp)).1, (Array.getElem?_eq_some_iff.1 hg).1⟩
theorem ints_tail {W : World} {n₀ b pk pc : Nat} {p : List Int} (hp : p.length = pk + 1) (hb : b < n₀) (hc : ∀ j (hj : j < p.length), W.cell? ⟨b, j, none⟩ = some (.int .i64 p[j])) : Ints n₀ W (.slice (some ⟨b, 1, none⟩) pk (pc - 1)) p.tail := by
  refine .inr ⟨b, 1, pc - 1, by rw [List.length_tail, hp]; rfl, hb, fun j hj => ?_⟩
  rw [List.length_tail, hp] at hj
  rw [Nat.add_comm 1 j, hc (j + 1) (by omega), List.getElem?_tail, List.getElem?_eq_getElem (by omega)]
  rfl
set_option maxHeartbeats 8000000 in
set_option maxRecDepth 20000 in
theorem loads_walk (s : ByteArray) (hbig : s.size ≤ 281474976710656) (av : Value) (L : List (List Int)) (hLL : L.length ≤ 281474976710656) (hL : ∀ zs ∈ L, zs.length ≤ 17592186044416 ∧ ∀ z ∈ zs, InI z) (w : World) (hg : Glob w) (hin : RowsI w.heap.size w av L) : Calls Tryd.prog 3 #[.string s, av] w fun e w' => e = .returned (.bool true) ∧ Below w.heap.size w w' := by
  obtain ⟨aa, ac, rfl⟩ := hin.val
  have HG : Hid (Glob w) := hg
  obtain ⟨m, hm⟩ := hg
  have hc := load_any s m w hm hbig
  have HR : Hid (∀ x, Calls Tryd.prog 8 #[.string s] x fun e w' => RefLoadPostE s.data.toList x e w') := fun x => refLoadE_any s hbig x
  have HL : Hid (∀ zs ∈ L, zs.length ≤ 17592186044416 ∧ ∀ z ∈ zs, InI z) := hL
  obtain ⟨Ln, hLn⟩ : ∃ Ln, L.length = Ln := ⟨_, rfl⟩
  rw [hLn] at hin hLL ⊢
  have HIN : Hid (RowsI w.heap.size w (.slice aa Ln ac) L) := hin
  have HLn : Hid (L.length = Ln) := hLn
  clear hin hLn hL hm hbig
  go_enter Tryd.func3, Tryd.ntmps3
  generalize hrr : loadT s.data.toList = R at hc
  cases R with
  | error q =>
    obtain ⟨why, line⟩ := q
    have hy := loadT_why hrr
    have HY : Hid (why ≠ 0) := hy
    have h0 : (why == 0) = false := by simpa using hy
    have h1 : (why != 0) = true := by simpa using hy
    have hc2 : ∀ x, Calls Tryd.prog 8 #[.string s] x fun e w' => e = .returned (.tuple #[.agg #[.slice none 0 0], .int .i64 why, .int .i64 line]) ∧ Below x.heap.size x w' := fun x => by
      refine (HR.out x).mono fun e w' h => ?_
      obtain ⟨hb, ⟨y, ln, h1, h2⟩ | ⟨E, l, a, n, c, h1, _⟩⟩ := h
      · rw [hrr] at h1
        cases h1
        exact ⟨h2, hb⟩
      · rw [hrr] at h1
        cases h1
    have HC2 : Hid (∀ x, Calls Tryd.prog 8 #[.string s] x fun e w' => e = .returned (.tuple #[.agg #[.slice none 0 0], .int .i64 why, .int .i64 line]) ∧ Below x.heap.size x w') := hc2
    clear hc2 hrr hy HR
    go_wp2_with fail
    refine hc.mono ?_
    clear hc
    rintro e w1 ⟨hb1, rfl⟩
    have hc := HC2.out w1
    go_wp2_with fail
    refine hc.mono ?_
    clear hc
    rintro e w2 ⟨rfl, hb2⟩
    have hb3 : Below w.heap.size w (w2.alloc (.cells #[.slice none 0 0] 29)) := (hb1.trans (hb2.mono hb1.size)).alloc (Nat.le_trans hb1.size hb2.size) _
    have HB3 : Hid (Below w.heap.size w (w2.alloc (.cells #[.slice none 0 0] 29))) := hb3
    have hc := awake_glob _ (HG.out.below hb3)
    have t1 : (why == why) = true := by simp
    have t2 : (line == line) = true := by simp
    clear hb1 hb2 hb3
    go_wp2_with fail
    refine hc.mono ?_
    clear hc
    rintro e w4 ⟨rfl, hb4⟩
    go_wp2_with fail
    go_ret
    exact ⟨rfl, HB3.out.trans (hb4.mono HB3.out.size)⟩
  | ok E =>
    obtain ⟨hok, hnd, hfew⟩ := loadT_ok hrr
    have HOK : Hid (∀ x ∈ E, EntOk x) := hok
    have HFW : Hid (E.length ≤ 4096) := hfew
    have HC2 : Hid (∀ x, Calls Tryd.prog 8 #[.string s] x fun e w' => Below x.heap.size x w' ∧ ∃ l a c, RiseF l ∧ l.Perm E ∧ e = .returned (.tuple #[.agg #[.slice a l.length c], .int .i64 0, .int .i64 0]) ∧ NOwn w' x.heap.size (.slice a l.length c) l) := fun x => by
      refine (HR.out x).mono fun e w' h => ?_
      obtain ⟨hb, ⟨y, ln, h1, h2⟩ | ⟨E', l, a, n, c, h1, h2, h3, h4, h5⟩⟩ := h
      · rw [hrr] at h1
        cases h1
      · rw [hrr] at h1
        cases h1
        have h6 := h5.min
        obtain ⟨a', c', e'⟩ := h6.val
        cases e'
        exact ⟨hb, l, a, c, h2, h3, h4, h5⟩
    clear hrr hok hnd hfew HR
    go_wp2_with fail
    refine hc.mono ?_
    clear hc
    rintro e w1 ⟨hb1, T, me, ml, val, rfl, ht⟩
    have HT1 : Hid (TabAt w1 T me ml val E) := ht
    have hc := HC2.out w1
    clear ht
    go_wp2_with fail
    refine hc.mono ?_
    clear hc HC2
    rintro e w2 ⟨hb2, l, a, c, hri, hpe, rfl, hni⟩
    have HNI : Hid (NOwn w2 w1.heap.size (.slice a l.length c) l) := hni
    have HRI : Hid (RiseF l) := hri
    have HPE : Hid (l.Perm E) := hpe
    obtain ⟨ln, hln⟩ : ∃ ln, l.length = ln := ⟨_, rfl⟩
    have HLN : Hid (l.length = ln) := hln
    rw [hln]
    have HB2 : Hid (Below w.heap.size w w2) := hb1.trans (hb2.mono hb1.size)
    have HB12 : Hid (Below w1.heap.size w1 w2) := hb2
    clear hb1 hb2 hni hri hpe hln
    go_upto_region 3 with fail
    have hbn := Blk.new w2 29 #[.slice a ln c]
    have hb22 : Below w2.heap.size w2 (w2.alloc (.cells #[.slice a ln c] 29)) := (Below.refl w2.heap.size w2).alloc (Nat.le_refl _) _
    generalize w2.alloc (.cells #[.slice a ln c] 29) = W at hbn hb22 ⊢
    have HBW : Hid (Below w.heap.size w W) := HB2.out.trans (hb22.mono HB2.out.size)
    have HBT : Hid (Both W W.heap.size T a c l E) := ⟨⟨me, ml, val, (HT1.out.below HB12.out).below hb22⟩, (HNI.out.min.below hb22 (Nat.le_refl _)).mono hb22.size, HRI.out, HPE.out, HOK.out, HFW.out⟩
    have HBX : Hid (∀ x, Below W.heap.size W x → x.cell? ⟨w2.heap.size, 0, none⟩ = some (.slice a ln c)) := fun x hx => (hx.cell (p := ⟨w2.heap.size, 0, none⟩) hbn.lt).trans (hbn.cell 0)
    have HCP : Hid (∀ j (hj : j < l.length), ∃ g pv, a = some ⟨g, 0, none⟩ ∧ IOwn W w1.heap.size pv l[j].1 ∧ g < W.heap.size ∧ ∀ x, Below W.heap.size W x → x.cell? ⟨g, j * 2, none⟩ = some pv) := fun j hj => by
      obtain ⟨g, pv, h1, h2, h3, h4⟩ := HNI.out.caps hj
      have h5 : g < W.heap.size := Nat.lt_of_lt_of_le h4 hb22.size
      exact ⟨g, pv, h1, own_after h3 hb22, h5, fun x hx => ((hx.cell (p := ⟨g, j * 2, none⟩) h5).trans (hb22.cell (p := ⟨g, j * 2, none⟩) h4)).trans h2⟩
    have HAL : Hid (∀ x, Below W.heap.size W x → Calls Tryd.prog 10 #[.pointer (some ⟨T, 0, none⟩), .agg #[.slice a ln c]] x fun e w' => e = .returned (.bool true) ∧ Below x.heap.size x w') := fun x hx => by
      have h := all_any T a c W.heap.size l E x hx.size (HBT.out.below hx (Nat.le_refl _))
      rw [HLN.out] at h
      exact h
    have HFI : Hid (∀ (x : World) (pv : Value) (zs : List Int), Below W.heap.size W x → zs.length ≤ 17592186044416 → Ints W.heap.size x pv zs → Calls Tryd.prog 11 #[.pointer (some ⟨T, 0, none⟩), .agg #[.slice a ln c], pv] x fun e w' => e = .returned (.bool true) ∧ Below x.heap.size x w') := fun x pv zs hx hz hi => by
      have h := finds_any T a c W.heap.size l E pv zs hz x hx.size (HBT.out.below hx (Nat.le_refl _)) hi
      rw [HLN.out] at h
      exact h
    have HL1 : Hid (∀ (x : World) (z : Int), Below W.heap.size W x → InI z → Calls Tryd.prog 12 #[.pointer (some ⟨T, 0, none⟩), .int .i64 z] x fun e w' => e = .returned (.int .i64 (longT E z : Int)) ∧ Below x.heap.size x w') := fun x z hx hz => by
      obtain ⟨me', ml', val', ht⟩ := (HBT.out.below hx (Nat.le_refl _)).tab
      refine (longest_any T me' ml' val' E z hz x ht).mono fun e w' h => ?_
      obtain ⟨rfl, rfl⟩ := h
      exact ⟨rfl, Below.refl _ _⟩
    have HL2 : Hid (∀ (x : World) (z : Int), Below W.heap.size W x → Calls Tryd.prog 13 #[.agg #[.slice a ln c], .int .i64 z] x fun e w' => e = .returned (.int .i64 (longT E z : Int)) ∧ Below x.heap.size x w') := fun x z hx => by
      have h := refLongest_any l (fun y hy => HOK.out y (HPE.out.mem_iff.1 hy)) (by rw [HPE.out.length_eq]; have := HFW.out; omega) (.slice a l.length c) z W.heap.size x hx.size (HBT.out.doc.below hx (Nat.le_refl _))
      rw [HLN.out, longT_perm HPE.out] at h
      exact h
    have HAS : Hid (∀ x, Below W.heap.size W x → RowsI W.heap.size x (.slice aa Ln ac) L) := fun x hx => by
      have h := HIN.out.below (HBW.out.trans (hx.mono HBW.out.size)) (Nat.le_refl _)
      rcases h with h | ⟨b, off, c', e, hb, hc'⟩
      · exact .inl h
      · exact .inr ⟨b, off, c', e, Nat.lt_of_lt_of_le hb HBW.out.size, fun j hj => by
          obtain ⟨u, h1, h2⟩ := hc' j hj
          exact ⟨u, h1, h2.mono HBW.out.size⟩⟩
    clear hbn hb22
    have hc := awake_glob W (HG.out.below HBW.out)
    go_wp2_with fail
    refine hc.mono ?_
    clear hc
    rintro e w4 ⟨rfl, hb4⟩
    have HW4 : Hid (Below W.heap.size W w4) := hb4
    have e0 := HBX.out w4 hb4
    have hc := HAL.out w4 hb4
    clear hb4
    go_wp2_with fail
    refine hc.mono ?_
    clear hc e0
    rintro e w5 ⟨rfl, hb5⟩
    have hlb : ln ≤ 4096 := by rw [← HLN.out, HPE.out.length_eq]; exact HFW.out
    have HW5 : Hid (Below W.heap.size W w5) := HW4.out.trans (hb5.mono HW4.out.size)
    clear hb5 HW4
    have e0 := HBX.out w5 HW5.out
    go_upto_region 10 with fail
    clear e0
    go_loopw [11, 12] (fun iv _ wr => ∃ i : Nat, i ≤ ln ∧ iv = .int .i64 (i : Int) ∧ Hid (Below W.heap.size W wr)) (fun iv _ _ => ln - (intOf iv).toNat)
    case atStart => exact ⟨0, Nat.zero_le _, rfl, HW5.out⟩
    case round =>
      clear HW5
      obtain ⟨i, hi, rfl, HW⟩ := hrel
      have e0 := HBX.out wr HW.out
      by_cases hlt : i < ln
      · have hi2 : i < l.length := by rw [HLN.out]; exact hlt
        obtain ⟨g, pv, rfl, hI, hgl, hcp⟩ := HCP.out i hi2
        have e1 := hcp wr HW.out
        have hro := (HOK.out _ (HPE.out.mem_iff.1 (List.getElem_mem hi2))).row
        generalize l[i].1 = p at hI hro
        have hin := rowB_in hro
        obtain ⟨hl1, hl8⟩ := rowB_lenE hro
        obtain ⟨pk, hpk⟩ : ∃ pk, p.length = pk + 1 := ⟨p.length - 1, by omega⟩
        obtain ⟨pb, pc, rfl⟩ : ∃ pb pc, pv = .slice (some ⟨pb, 0, none⟩) (pk + 1) pc := by
          rcases hI.form with ⟨_, e⟩ | ⟨pb, pc, e, _⟩
          · rw [e] at hpk
            simp at hpk
          · exact ⟨pb, pc, by rw [e, hpk]⟩
        obtain ⟨-, hpc, hpb, hcs⟩ := iown_at hI
        obtain ⟨z0, hz0⟩ : ∃ z, z = p[0]'(by omega) := ⟨_, rfl⟩
        obtain ⟨z1, hz1⟩ : ∃ z, z = p[pk]'(by omega) := ⟨_, rfl⟩
        obtain ⟨q0, hq0⟩ : ∃ q : Int, q = (longT E z0 : Int) := ⟨_, rfl⟩
        obtain ⟨q1, hq1⟩ : ∃ q : Int, q = (longT E z1 : Int) := ⟨_, rfl⟩
        have HCE : Hid (∀ x, Below W.heap.size W x → x.cell? ⟨w2.heap.size, 0, none⟩ = some (.slice (some ⟨g, 0, none⟩) ln c) ∧ x.cell? ⟨pb, 0, none⟩ = some (.int .i64 z0) ∧ x.cell? ⟨pb, pk, none⟩ = some (.int .i64 z1)) := fun x hx => ⟨HBX.out x hx, by rw [hz0]; exact (hx.cell (p := ⟨pb, 0, none⟩) hpb).trans (hcs 0 (by omega)), by rw [hz1]; exact (hx.cell (p := ⟨pb, pk, none⟩) hpb).trans (hcs pk (by omega))⟩
        have HF1 : Hid (∀ x, Below W.heap.size W x → Calls Tryd.prog 11 #[.pointer (some ⟨T, 0, none⟩), .agg #[.slice (some ⟨g, 0, none⟩) ln c], .slice (some ⟨pb, 0, none⟩) (pk + 1) pc] x fun e w' => e = .returned (.bool true) ∧ Below x.heap.size x w') := fun x hx => HFI.out x _ p hx (by omega) (Ints.below hx (Nat.le_refl _) hI.ints)
        have HZA : Hid (∀ x, Below W.heap.size W x → Calls Tryd.prog 12 #[.pointer (some ⟨T, 0, none⟩), .int .i64 z0] x fun e w' => e = .returned (.int .i64 q0) ∧ Below x.heap.size x w') := fun x hx => by rw [hq0]; exact HL1.out x z0 hx (by rw [hz0]; exact hin _ (List.getElem_mem _))
        have HZB : Hid (∀ x, Below W.heap.size W x → Calls Tryd.prog 13 #[.agg #[.slice (some ⟨g, 0, none⟩) ln c], .int .i64 z0] x fun e w' => e = .returned (.int .i64 q0) ∧ Below x.heap.size x w') := fun x hx => by rw [hq0]; exact HL2.out x z0 hx
        have HZC : Hid (∀ x, Below W.heap.size W x → Calls Tryd.prog 12 #[.pointer (some ⟨T, 0, none⟩), .int .i64 z1] x fun e w' => e = .returned (.int .i64 q1) ∧ Below x.heap.size x w') := fun x hx => by rw [hq1]; exact HL1.out x z1 hx (by rw [hz1]; exact hin _ (List.getElem_mem _))
        have HZD : Hid (∀ x, Below W.heap.size W x → Calls Tryd.prog 13 #[.agg #[.slice (some ⟨g, 0, none⟩) ln c], .int .i64 z1] x fun e w' => e = .returned (.int .i64 q1) ∧ Below x.heap.size x w') := fun x hx => by rw [hq1]; exact HL2.out x z1 hx
        have t0 : (q0 == q0) = true := by simp
        have t1 : (q1 == q1) = true := by simp
        have hp2 : pk + 1 ≤ pc := hpc
        have s4 : (pk : Int) < (pk : Int) + 1 := by omega
        have s3 : IntKind.i64.wrap (pk : Int) = (pk : Int) := IntWalk.i64_in _ ⟨by omega, by omega⟩
        rcases Nat.lt_or_ge 1 pc with hp1 | hp1
        · have s1 : (1 : Int) ≤ (pk : Int) + 1 := by omega
          have s2 : ¬ pc = 1 := by omega
          have HF2 : Hid (∀ x, Below W.heap.size W x → Calls Tryd.prog 11 #[.pointer (some ⟨T, 0, none⟩), .agg #[.slice (some ⟨g, 0, none⟩) ln c], .slice (some ⟨pb, 1, none⟩) pk (pc - 1)] x fun e w' => e = .returned (.bool true) ∧ Below x.heap.size x w') := fun x hx => HFI.out x _ p.tail hx (by rw [List.length_tail]; omega) (Ints.below hx (Nat.le_refl _) (ints_tail hpk hpb hcs))
          clear hz0 hz1 hq0 hq1 hcs hI hin hro hcp hpc hl1 hl8 hpk
          go_upto_region 13 with fail
          refine wp_region_held_drew (S := fun x => Below W.heap.size W x) (by kernel_rfl) (HW.out.drew) (fun hHelda => ?_)
          refine wpAnyH_takeD (i := 0) (some 65) (v := ?va0) rfl rfl (by kernel_rfl) (by kernel_rfl) (by kernel_rfl) (fun _ _ _ h => h) (Or.inl ⟨by kernel_rfl, ?hya0⟩) (by assumption) ?resta0
          case hya0 => (intro x hSx; (try dsimp only at hSx); go_simp; first | done | with_reducible rfl)
          try simp only [Act.put, List.setIfInBounds_toArray, List.set_cons_zero, List.set_cons_succ]
          refine wpAnyH_takeD (i := 1) (some 66) (v := ?va1) rfl rfl (by kernel_rfl) (by kernel_rfl) (by kernel_rfl) (fun _ _ _ h => h) (Or.inl ⟨by kernel_rfl, ?hya1⟩) (by assumption) ?resta1
          case hya1 => (intro x hSx; (try dsimp only at hSx); obtain ⟨x0, x1, x2⟩ := HCE.out x hSx; go_simp; first | done | with_reducible rfl)
          try simp only [Act.put, List.setIfInBounds_toArray, List.set_cons_zero, List.set_cons_succ]
          refine wpAnyH_takeD (i := 2) (some 67) (v := ?va2) rfl rfl (by kernel_rfl) (by kernel_rfl) (by kernel_rfl) (fun _ _ _ h => h) (Or.inl ⟨by kernel_rfl, ?hya2⟩) (by assumption) ?resta2
          case hya2 => (intro x hSx; (try dsimp only at hSx); go_simp; first | done | with_reducible rfl)
          try simp only [Act.put, List.setIfInBounds_toArray, List.set_cons_zero, List.set_cons_succ]
          refine wpAnyH_ready (rs := [3]) (by kernel_rfl) (by simp) ?_
          refine AllReadyH.cons rfl (fun K hK => ?_) AllReadyH.nil
          go_simp
          go_wp2_with (go_at_call 11; refine (HF1.out _ hHelda).mono ?_; rintro e ya3 ⟨rfl, hqa3⟩)
          refine hK.out _ _ (hHelda.trans (hqa3.mono hHelda.size)) (fun hHelda3 => ?_)
          clear hK K
          try simp only [Act.put, List.setIfInBounds_toArray, List.set_cons_zero, List.set_cons_succ]
          refine wpAnyH_takeD (i := 4) (some 69) (v := ?va4) rfl rfl (by kernel_rfl) (by kernel_rfl) (by kernel_rfl) (fun _ _ _ h => h) (Or.inl ⟨by kernel_rfl, ?hya4⟩) (by assumption) ?resta4
          case hya4 => (intro x hSx; (try dsimp only at hSx); go_simp; first | done | with_reducible rfl)
          try simp only [Act.put, List.setIfInBounds_toArray, List.set_cons_zero, List.set_cons_succ]
          refine wpAnyH_takeD (i := 5) (some 70) (v := ?va5) rfl rfl (by kernel_rfl) (by kernel_rfl) (by kernel_rfl) (fun _ _ _ h => h) (Or.inl ⟨by kernel_rfl, ?hya5⟩) (by assumption) ?resta5
          case hya5 => (intro x hSx; (try dsimp only at hSx); go_simp; first | done | with_reducible rfl)
          try simp only [Act.put, List.setIfInBounds_toArray, List.set_cons_zero, List.set_cons_succ]
          refine wpAnyH_takeD (i := 6) (some 71) (v := ?va6) rfl rfl (by kernel_rfl) (by kernel_rfl) (by kernel_rfl) (fun _ _ _ h => h) (Or.inl ⟨by kernel_rfl, ?hya6⟩) (by assumption) ?resta6
          case hya6 => (intro x hSx; (try dsimp only at hSx); go_simp; first | done | with_reducible rfl)
          try simp only [Act.put, List.setIfInBounds_toArray, List.set_cons_zero, List.set_cons_succ]
          refine wpAnyH_takeD (i := 7) (some 72) (v := ?va7) rfl rfl (by kernel_rfl) (by kernel_rfl) (by kernel_rfl) (fun _ _ _ h => h) (Or.inl ⟨by kernel_rfl, ?hya7⟩) (by assumption) ?resta7
          case hya7 => (intro x hSx; (try dsimp only at hSx); obtain ⟨x0, x1, x2⟩ := HCE.out x hSx; go_simp; first | done | with_reducible rfl)
          try simp only [Act.put, List.setIfInBounds_toArray, List.set_cons_zero, List.set_cons_succ]
          refine wpAnyH_takeD (i := 8) (some 73) (v := ?va8) rfl rfl (by kernel_rfl) (by kernel_rfl) (by kernel_rfl) (fun _ _ _ h => h) (Or.inl ⟨by kernel_rfl, ?hya8⟩) (by assumption) ?resta8
          case hya8 => (intro x hSx; (try dsimp only at hSx); go_simp; first | done | with_reducible rfl)
          try simp only [Act.put, List.setIfInBounds_toArray, List.set_cons_zero, List.set_cons_succ]
          refine wpAnyH_takeD (i := 9) (some 74) (v := ?va9) rfl rfl (by kernel_rfl) (by kernel_rfl) (by kernel_rfl) (fun _ _ _ h => h) (Or.inl ⟨by kernel_rfl, ?hya9⟩) (by assumption) ?resta9
          case hya9 => (intro x hSx; (try dsimp only at hSx); go_simp; first | done | with_reducible rfl)
          try simp only [Act.put, List.setIfInBounds_toArray, List.set_cons_zero, List.set_cons_succ]
          refine wpAnyH_ready (rs := [10]) (by kernel_rfl) (by simp) ?_
          refine AllReadyH.cons rfl (fun K hK => ?_) AllReadyH.nil
          go_simp
          go_wp2_with (go_at_call 11; refine (HF2.out _ hHelda3).mono ?_; rintro e ya10 ⟨rfl, hqa10⟩)
          refine hK.out _ _ (hHelda3.trans (hqa10.mono hHelda3.size)) (fun hHelda10 => ?_)
          clear hK K
          try simp only [Act.put, List.setIfInBounds_toArray, List.set_cons_zero, List.set_cons_succ]
          refine wpAnyH_takeD (i := 11) (some 76) (v := ?va11) rfl rfl (by kernel_rfl) (by kernel_rfl) (by kernel_rfl) (fun _ _ _ h => h) (Or.inl ⟨by kernel_rfl, ?hya11⟩) (by assumption) ?resta11
          case hya11 => (intro x hSx; (try dsimp only at hSx); go_simp; first | done | with_reducible rfl)
          try simp only [Act.put, List.setIfInBounds_toArray, List.set_cons_zero, List.set_cons_succ]
          refine wpAnyH_takeD (i := 12) (some 77) (v := ?va12) rfl rfl (by kernel_rfl) (by kernel_rfl) (by kernel_rfl) (fun _ _ _ h => h) (Or.inl ⟨by kernel_rfl, ?hya12⟩) (by assumption) ?resta12
          case hya12 => (intro x hSx; (try dsimp only at hSx); go_simp; first | done | with_reducible rfl)
          try simp only [Act.put, List.setIfInBounds_toArray, List.set_cons_zero, List.set_cons_succ]
          refine wpAnyH_takeD (i := 13) (some 78) (v := ?va13) rfl rfl (by kernel_rfl) (by kernel_rfl) (by kernel_rfl) (fun _ _ _ h => h) (Or.inl ⟨by kernel_rfl, ?hya13⟩) (by assumption) ?resta13
          case hya13 => (intro x hSx; (try dsimp only at hSx); go_simp; first | done | with_reducible rfl)
          try simp only [Act.put, List.setIfInBounds_toArray, List.set_cons_zero, List.set_cons_succ]
          refine wpAnyH_takeD (i := 14) (some 79) (v := ?va14) rfl rfl (by kernel_rfl) (by kernel_rfl) (by kernel_rfl) (fun _ _ _ h => h) (Or.inl ⟨by kernel_rfl, ?hya14⟩) (by assumption) ?resta14
          case hya14 => (intro x hSx; (try dsimp only at hSx); go_simp; first | done | with_reducible rfl)
          try simp only [Act.put, List.setIfInBounds_toArray, List.set_cons_zero, List.set_cons_succ]
          refine wpAnyH_takeD (i := 15) (some 80) (v := ?va15) rfl rfl (by kernel_rfl) (by kernel_rfl) (by kernel_rfl) (fun _ _ _ h => h) (Or.inl ⟨by kernel_rfl, ?hya15⟩) (by assumption) ?resta15
          case hya15 => (intro x hSx; (try dsimp only at hSx); go_simp; first | done | with_reducible rfl)
          try simp only [Act.put, List.setIfInBounds_toArray, List.set_cons_zero, List.set_cons_succ]
          refine wpAnyH_takeD (i := 16) (some 81) (v := ?va16) rfl rfl (by kernel_rfl) (by kernel_rfl) (by kernel_rfl) (fun _ _ _ h => h) (Or.inl ⟨by kernel_rfl, ?hya16⟩) (by assumption) ?resta16
          case hya16 => (intro x hSx; (try dsimp only at hSx); go_simp; first | done | with_reducible rfl)
          try simp only [Act.put, List.setIfInBounds_toArray, List.set_cons_zero, List.set_cons_succ]
          refine wpAnyH_takeD (i := 17) (some 82) (v := ?va17) rfl rfl (by kernel_rfl) (by kernel_rfl) (by kernel_rfl) (fun _ _ _ h => h) (Or.inl ⟨by kernel_rfl, ?hya17⟩) (by assumption) ?resta17
          case hya17 => (intro x hSx; (try dsimp only at hSx); obtain ⟨x0, x1, x2⟩ := HCE.out x hSx; go_simp; first | done | with_reducible rfl)
          try simp only [Act.put, List.setIfInBounds_toArray, List.set_cons_zero, List.set_cons_succ]
          refine wpAnyH_takeD (i := 19) (some 84) (v := ?va19) rfl rfl (by kernel_rfl) (by kernel_rfl) (by kernel_rfl) (fun _ _ _ h => h) (Or.inl ⟨by kernel_rfl, ?hya19⟩) (by assumption) ?resta19
          case hya19 => (intro x hSx; (try dsimp only at hSx); obtain ⟨x0, x1, x2⟩ := HCE.out x hSx; go_simp; first | done | with_reducible rfl)
          try simp only [Act.put, List.setIfInBounds_toArray, List.set_cons_zero, List.set_cons_succ]
          refine wpAnyH_takeD (i := 20) (some 85) (v := ?va20) rfl rfl (by kernel_rfl) (by kernel_rfl) (by kernel_rfl) (fun _ _ _ h => h) (Or.inl ⟨by kernel_rfl, ?hya20⟩) (by assumption) ?resta20
          case hya20 => (intro x hSx; (try dsimp only at hSx); go_simp; first | done | with_reducible rfl)
          try simp only [Act.put, List.setIfInBounds_toArray, List.set_cons_zero, List.set_cons_succ]
          refine wpAnyH_takeD (i := 21) (some 86) (v := ?va21) rfl rfl (by kernel_rfl) (by kernel_rfl) (by kernel_rfl) (fun _ _ _ h => h) (Or.inl ⟨by kernel_rfl, ?hya21⟩) (by assumption) ?resta21
          case hya21 => (intro x hSx; (try dsimp only at hSx); go_simp; first | done | with_reducible rfl)
          try simp only [Act.put, List.setIfInBounds_toArray, List.set_cons_zero, List.set_cons_succ]
          refine wpAnyH_takeD (i := 22) (some 87) (v := ?va22) rfl rfl (by kernel_rfl) (by kernel_rfl) (by kernel_rfl) (fun _ _ _ h => h) (Or.inl ⟨by kernel_rfl, ?hya22⟩) (by assumption) ?resta22
          case hya22 => (intro x hSx; (try dsimp only at hSx); obtain ⟨x0, x1, x2⟩ := HCE.out x hSx; go_simp; first | done | with_reducible rfl)
          try simp only [Act.put, List.setIfInBounds_toArray, List.set_cons_zero, List.set_cons_succ]
          refine wpAnyH_ready (rs := [18]) (by kernel_rfl) (by simp) ?_
          refine AllReadyH.cons rfl (fun K hK => ?_) AllReadyH.nil
          go_simp
          go_wp2_with (go_at_call 12; refine (HZA.out _ hHelda10).mono ?_; rintro e ya18 ⟨rfl, hqa18⟩)
          refine hK.out _ _ (hHelda10.trans (hqa18.mono hHelda10.size)) (fun hHelda18 => ?_)
          clear hK K
          try simp only [Act.put, List.setIfInBounds_toArray, List.set_cons_zero, List.set_cons_succ]
          refine wpAnyH_ready (rs := [23]) (by kernel_rfl) (by simp) ?_
          refine AllReadyH.cons rfl (fun K hK => ?_) AllReadyH.nil
          go_simp
          go_wp2_with (go_at_call 13; refine (HZB.out _ hHelda18).mono ?_; rintro e ya23 ⟨rfl, hqa23⟩)
          refine hK.out _ _ (hHelda18.trans (hqa23.mono hHelda18.size)) (fun hHelda23 => ?_)
          clear hK K
          try simp only [Act.put, List.setIfInBounds_toArray, List.set_cons_zero, List.set_cons_succ]
          refine wpAnyH_takeD (i := 24) (some 89) (v := ?va24) rfl rfl (by kernel_rfl) (by kernel_rfl) (by kernel_rfl) (fun _ _ _ h => h) (Or.inl ⟨by kernel_rfl, ?hya24⟩) (by assumption) ?resta24
          case hya24 => (intro x hSx; (try dsimp only at hSx); go_simp; first | done | with_reducible rfl)
          try simp only [Act.put, List.setIfInBounds_toArray, List.set_cons_zero, List.set_cons_succ]
          refine wpAnyH_takeD (i := 25) (some 90) (v := ?va25) rfl rfl (by kernel_rfl) (by kernel_rfl) (by kernel_rfl) (fun _ _ _ h => h) (Or.inl ⟨by kernel_rfl, ?hya25⟩) (by assumption) ?resta25
          case hya25 => (intro x hSx; (try dsimp only at hSx); go_simp; first | done | with_reducible rfl)
          try simp only [Act.put, List.setIfInBounds_toArray, List.set_cons_zero, List.set_cons_succ]
          refine wpAnyH_takeD (i := 26) (some 91) (v := ?va26) rfl rfl (by kernel_rfl) (by kernel_rfl) (by kernel_rfl) (fun _ _ _ h => h) (Or.inl ⟨by kernel_rfl, ?hya26⟩) (by assumption) ?resta26
          case hya26 => (intro x hSx; (try dsimp only at hSx); go_simp; first | done | with_reducible rfl)
          try simp only [Act.put, List.setIfInBounds_toArray, List.set_cons_zero, List.set_cons_succ]
          refine wpAnyH_takeD (i := 27) (some 92) (v := ?va27) rfl rfl (by kernel_rfl) (by kernel_rfl) (by kernel_rfl) (fun _ _ _ h => h) (Or.inl ⟨by kernel_rfl, ?hya27⟩) (by assumption) ?resta27
          case hya27 => (intro x hSx; (try dsimp only at hSx); go_simp; first | done | with_reducible rfl)
          try simp only [Act.put, List.setIfInBounds_toArray, List.set_cons_zero, List.set_cons_succ]
          refine wpAnyH_takeD (i := 28) (some 93) (v := ?va28) rfl rfl (by kernel_rfl) (by kernel_rfl) (by kernel_rfl) (fun _ _ _ h => h) (Or.inl ⟨by kernel_rfl, ?hya28⟩) (by assumption) ?resta28
          case hya28 => (intro x hSx; (try dsimp only at hSx); go_simp; first | done | with_reducible rfl)
          try simp only [Act.put, List.setIfInBounds_toArray, List.set_cons_zero, List.set_cons_succ]
          refine wpAnyH_takeD (i := 29) (some 94) (v := ?va29) rfl rfl (by kernel_rfl) (by kernel_rfl) (by kernel_rfl) (fun _ _ _ h => h) (Or.inl ⟨by kernel_rfl, ?hya29⟩) (by assumption) ?resta29
          case hya29 => (intro x hSx; (try dsimp only at hSx); go_simp; first | done | with_reducible rfl)
          try simp only [Act.put, List.setIfInBounds_toArray, List.set_cons_zero, List.set_cons_succ]
          refine wpAnyH_takeD (i := 30) (some 95) (v := ?va30) rfl rfl (by kernel_rfl) (by kernel_rfl) (by kernel_rfl) (fun _ _ _ h => h) (Or.inl ⟨by kernel_rfl, ?hya30⟩) (by assumption) ?resta30
          case hya30 => (intro x hSx; (try dsimp only at hSx); go_simp; first | done | with_reducible rfl)
          try simp only [Act.put, List.setIfInBounds_toArray, List.set_cons_zero, List.set_cons_succ]
          refine wpAnyH_takeD (i := 31) (some 96) (v := ?va31) rfl rfl (by kernel_rfl) (by kernel_rfl) (by kernel_rfl) (fun _ _ _ h => h) (Or.inl ⟨by kernel_rfl, ?hya31⟩) (by assumption) ?resta31
          case hya31 => (intro x hSx; (try dsimp only at hSx); go_simp; first | done | with_reducible rfl)
          try simp only [Act.put, List.setIfInBounds_toArray, List.set_cons_zero, List.set_cons_succ]
          refine wpAnyH_takeD (i := 32) (some 97) (v := ?va32) rfl rfl (by kernel_rfl) (by kernel_rfl) (by kernel_rfl) (fun _ _ _ h => h) (Or.inl ⟨by kernel_rfl, ?hya32⟩) (by assumption) ?resta32
          case hya32 => (intro x hSx; (try dsimp only at hSx); go_simp; first | done | with_reducible rfl)
          try simp only [Act.put, List.setIfInBounds_toArray, List.set_cons_zero, List.set_cons_succ]
          refine wpAnyH_takeD (i := 33) (some 98) (v := ?va33) rfl rfl (by kernel_rfl) (by kernel_rfl) (by kernel_rfl) (fun _ _ _ h => h) (Or.inl ⟨by kernel_rfl, ?hya33⟩) (by assumption) ?resta33
          case hya33 => (intro x hSx; (try dsimp only at hSx); obtain ⟨x0, x1, x2⟩ := HCE.out x hSx; go_simp; first | done | with_reducible rfl)
          try simp only [Act.put, List.setIfInBounds_toArray, List.set_cons_zero, List.set_cons_succ]
          refine wpAnyH_takeD (i := 35) (some 100) (v := ?va35) rfl rfl (by kernel_rfl) (by kernel_rfl) (by kernel_rfl) (fun _ _ _ h => h) (Or.inl ⟨by kernel_rfl, ?hya35⟩) (by assumption) ?resta35
          case hya35 => (intro x hSx; (try dsimp only at hSx); obtain ⟨x0, x1, x2⟩ := HCE.out x hSx; go_simp; first | done | with_reducible rfl)
          try simp only [Act.put, List.setIfInBounds_toArray, List.set_cons_zero, List.set_cons_succ]
          refine wpAnyH_takeD (i := 36) (some 101) (v := ?va36) rfl rfl (by kernel_rfl) (by kernel_rfl) (by kernel_rfl) (fun _ _ _ h => h) (Or.inl ⟨by kernel_rfl, ?hya36⟩) (by assumption) ?resta36
          case hya36 => (intro x hSx; (try dsimp only at hSx); go_simp; first | done | with_reducible rfl)
          try simp only [Act.put, List.setIfInBounds_toArray, List.set_cons_zero, List.set_cons_succ]
          refine wpAnyH_takeD (i := 37) (some 102) (v := ?va37) rfl rfl (by kernel_rfl) (by kernel_rfl) (by kernel_rfl) (fun _ _ _ h => h) (Or.inl ⟨by kernel_rfl, ?hya37⟩) (by assumption) ?resta37
          case hya37 => (intro x hSx; (try dsimp only at hSx); go_simp; first | done | with_reducible rfl)
          try simp only [Act.put, List.setIfInBounds_toArray, List.set_cons_zero, List.set_cons_succ]
          refine wpAnyH_takeD (i := 38) (some 103) (v := ?va38) rfl rfl (by kernel_rfl) (by kernel_rfl) (by kernel_rfl) (fun _ _ _ h => h) (Or.inl ⟨by kernel_rfl, ?hya38⟩) (by assumption) ?resta38
          case hya38 => (intro x hSx; (try dsimp only at hSx); go_simp; first | done | with_reducible rfl)
          try simp only [Act.put, List.setIfInBounds_toArray, List.set_cons_zero, List.set_cons_succ]
          refine wpAnyH_takeD (i := 39) (some 104) (v := ?va39) rfl rfl (by kernel_rfl) (by kernel_rfl) (by kernel_rfl) (fun _ _ _ h => h) (Or.inl ⟨by kernel_rfl, ?hya39⟩) (by assumption) ?resta39
          case hya39 => (intro x hSx; (try dsimp only at hSx); go_simp; first | done | with_reducible rfl)
          try simp only [Act.put, List.setIfInBounds_toArray, List.set_cons_zero, List.set_cons_succ]
          refine wpAnyH_takeD (i := 40) (some 105) (v := ?va40) rfl rfl (by kernel_rfl) (by kernel_rfl) (by kernel_rfl) (fun _ _ _ h => h) (Or.inl ⟨by kernel_rfl, ?hya40⟩) (by assumption) ?resta40
          case hya40 => (intro x hSx; (try dsimp only at hSx); go_simp; first | done | with_reducible rfl)
          try simp only [Act.put, List.setIfInBounds_toArray, List.set_cons_zero, List.set_cons_succ]
          refine wpAnyH_takeD (i := 41) (some 106) (v := ?va41) rfl rfl (by kernel_rfl) (by kernel_rfl) (by kernel_rfl) (fun _ _ _ h => h) (Or.inl ⟨by kernel_rfl, ?hya41⟩) (by assumption) ?resta41
          case hya41 => (intro x hSx; (try dsimp only at hSx); obtain ⟨x0, x1, x2⟩ := HCE.out x hSx; go_simp; first | done | with_reducible rfl)
          try simp only [Act.put, List.setIfInBounds_toArray, List.set_cons_zero, List.set_cons_succ]
          refine wpAnyH_ready (rs := [34]) (by kernel_rfl) (by simp) ?_
          refine AllReadyH.cons rfl (fun K hK => ?_) AllReadyH.nil
          go_simp
          go_wp2_with (go_at_call 12; refine (HZC.out _ hHelda23).mono ?_; rintro e ya34 ⟨rfl, hqa34⟩)
          refine hK.out _ _ (hHelda23.trans (hqa34.mono hHelda23.size)) (fun hHelda34 => ?_)
          clear hK K
          try simp only [Act.put, List.setIfInBounds_toArray, List.set_cons_zero, List.set_cons_succ]
          refine wpAnyH_ready (rs := [42]) (by kernel_rfl) (by simp) ?_
          refine AllReadyH.cons rfl (fun K hK => ?_) AllReadyH.nil
          go_simp
          go_wp2_with (go_at_call 13; refine (HZD.out _ hHelda34).mono ?_; rintro e ya42 ⟨rfl, hqa42⟩)
          refine hK.out _ _ (hHelda34.trans (hqa42.mono hHelda34.size)) (fun hHelda42 => ?_)
          clear hK K
          try simp only [Act.put, List.setIfInBounds_toArray, List.set_cons_zero, List.set_cons_succ]
          refine wpAnyH_takeD (i := 43) (some 108) (v := ?va43) rfl rfl (by kernel_rfl) (by kernel_rfl) (by kernel_rfl) (fun _ _ _ h => h) (Or.inl ⟨by kernel_rfl, ?hya43⟩) (by assumption) ?resta43
          case hya43 => (intro x hSx; (try dsimp only at hSx); go_simp; first | done | with_reducible rfl)
          try simp only [Act.put, List.setIfInBounds_toArray, List.set_cons_zero, List.set_cons_succ]
          refine wpAnyH_takeD (i := 44) (some 109) (v := ?va44) rfl rfl (by kernel_rfl) (by kernel_rfl) (by kernel_rfl) (fun _ _ _ h => h) (Or.inl ⟨by kernel_rfl, ?hya44⟩) (by assumption) ?resta44
          case hya44 => (intro x hSx; (try dsimp only at hSx); go_simp; first | done | with_reducible rfl)
          try simp only [Act.put, List.setIfInBounds_toArray, List.set_cons_zero, List.set_cons_succ]
          refine wpAnyH_done (by kernel_rfl) ?_ _
          go_wp2_with fail
          go_roundw
          case rel => exact ⟨i + 1, by omega, by simp, hHelda42⟩
          case measure => simp only [intOf]; omega
        · obtain rfl : pk = 0 := by omega
          obtain rfl : pc = 1 := by omega
          obtain rfl : z1 = z0 := hz1.trans hz0.symm
          have s5 : IntKind.i64.wrap 0 = 0 := IntWalk.i64_in _ ⟨by omega, by omega⟩
          have HF2 : Hid (∀ x, Below W.heap.size W x → Calls Tryd.prog 11 #[.pointer (some ⟨T, 0, none⟩), .agg #[.slice (some ⟨g, 0, none⟩) ln c], .slice (some ⟨pb, 0, none⟩) 0 0] x fun e w' => e = .returned (.bool true) ∧ Below x.heap.size x w') := fun x hx => HFI.out x _ p.tail hx (by rw [List.length_tail]; omega) (.inl ⟨_, _, rfl, List.eq_nil_of_length_eq_zero (by rw [List.length_tail]; omega)⟩)
          clear hz0 hz1 hq0 hq1 hcs hI hin hro hcp hpc hl1 hl8 hpk
          go_upto_region 13 with fail
          refine wp_region_held_drew (S := fun x => Below W.heap.size W x) (by kernel_rfl) (HW.out.drew) (fun hHeldb => ?_)
          refine wpAnyH_takeD (i := 0) (some 65) (v := ?vb0) rfl rfl (by kernel_rfl) (by kernel_rfl) (by kernel_rfl) (fun _ _ _ h => h) (Or.inl ⟨by kernel_rfl, ?hyb0⟩) (by assumption) ?restb0
          case hyb0 => (intro x hSx; (try dsimp only at hSx); go_simp; first | done | with_reducible rfl)
          try simp only [Act.put, List.setIfInBounds_toArray, List.set_cons_zero, List.set_cons_succ]
          refine wpAnyH_takeD (i := 1) (some 66) (v := ?vb1) rfl rfl (by kernel_rfl) (by kernel_rfl) (by kernel_rfl) (fun _ _ _ h => h) (Or.inl ⟨by kernel_rfl, ?hyb1⟩) (by assumption) ?restb1
          case hyb1 => (intro x hSx; (try dsimp only at hSx); obtain ⟨x0, x1, x2⟩ := HCE.out x hSx; go_simp; first | done | with_reducible rfl)
          try simp only [Act.put, List.setIfInBounds_toArray, List.set_cons_zero, List.set_cons_succ]
          refine wpAnyH_takeD (i := 2) (some 67) (v := ?vb2) rfl rfl (by kernel_rfl) (by kernel_rfl) (by kernel_rfl) (fun _ _ _ h => h) (Or.inl ⟨by kernel_rfl, ?hyb2⟩) (by assumption) ?restb2
          case hyb2 => (intro x hSx; (try dsimp only at hSx); go_simp; first | done | with_reducible rfl)
          try simp only [Act.put, List.setIfInBounds_toArray, List.set_cons_zero, List.set_cons_succ]
          refine wpAnyH_ready (rs := [3]) (by kernel_rfl) (by simp) ?_
          refine AllReadyH.cons rfl (fun K hK => ?_) AllReadyH.nil
          go_simp
          go_wp2_with (go_at_call 11; refine (HF1.out _ hHeldb).mono ?_; rintro e yb3 ⟨rfl, hqb3⟩)
          refine hK.out _ _ (hHeldb.trans (hqb3.mono hHeldb.size)) (fun hHeldb3 => ?_)
          clear hK K
          try simp only [Act.put, List.setIfInBounds_toArray, List.set_cons_zero, List.set_cons_succ]
          refine wpAnyH_takeD (i := 4) (some 69) (v := ?vb4) rfl rfl (by kernel_rfl) (by kernel_rfl) (by kernel_rfl) (fun _ _ _ h => h) (Or.inl ⟨by kernel_rfl, ?hyb4⟩) (by assumption) ?restb4
          case hyb4 => (intro x hSx; (try dsimp only at hSx); go_simp; first | done | with_reducible rfl)
          try simp only [Act.put, List.setIfInBounds_toArray, List.set_cons_zero, List.set_cons_succ]
          refine wpAnyH_takeD (i := 5) (some 70) (v := ?vb5) rfl rfl (by kernel_rfl) (by kernel_rfl) (by kernel_rfl) (fun _ _ _ h => h) (Or.inl ⟨by kernel_rfl, ?hyb5⟩) (by assumption) ?restb5
          case hyb5 => (intro x hSx; (try dsimp only at hSx); go_simp; first | done | with_reducible rfl)
          try simp only [Act.put, List.setIfInBounds_toArray, List.set_cons_zero, List.set_cons_succ]
          refine wpAnyH_takeD (i := 6) (some 71) (v := ?vb6) rfl rfl (by kernel_rfl) (by kernel_rfl) (by kernel_rfl) (fun _ _ _ h => h) (Or.inl ⟨by kernel_rfl, ?hyb6⟩) (by assumption) ?restb6
          case hyb6 => (intro x hSx; (try dsimp only at hSx); go_simp; first | done | with_reducible rfl)
          try simp only [Act.put, List.setIfInBounds_toArray, List.set_cons_zero, List.set_cons_succ]
          refine wpAnyH_takeD (i := 7) (some 72) (v := ?vb7) rfl rfl (by kernel_rfl) (by kernel_rfl) (by kernel_rfl) (fun _ _ _ h => h) (Or.inl ⟨by kernel_rfl, ?hyb7⟩) (by assumption) ?restb7
          case hyb7 => (intro x hSx; (try dsimp only at hSx); obtain ⟨x0, x1, x2⟩ := HCE.out x hSx; go_simp; first | done | with_reducible rfl)
          try simp only [Act.put, List.setIfInBounds_toArray, List.set_cons_zero, List.set_cons_succ]
          refine wpAnyH_takeD (i := 8) (some 73) (v := ?vb8) rfl rfl (by kernel_rfl) (by kernel_rfl) (by kernel_rfl) (fun _ _ _ h => h) (Or.inl ⟨by kernel_rfl, ?hyb8⟩) (by assumption) ?restb8
          case hyb8 => (intro x hSx; (try dsimp only at hSx); go_simp; first | done | with_reducible rfl)
          try simp only [Act.put, List.setIfInBounds_toArray, List.set_cons_zero, List.set_cons_succ]
          refine wpAnyH_takeD (i := 9) (some 74) (v := ?vb9) rfl rfl (by kernel_rfl) (by kernel_rfl) (by kernel_rfl) (fun _ _ _ h => h) (Or.inl ⟨by kernel_rfl, ?hyb9⟩) (by assumption) ?restb9
          case hyb9 => (intro x hSx; (try dsimp only at hSx); go_simp; first | done | with_reducible rfl)
          try simp only [Act.put, List.setIfInBounds_toArray, List.set_cons_zero, List.set_cons_succ]
          refine wpAnyH_ready (rs := [10]) (by kernel_rfl) (by simp) ?_
          refine AllReadyH.cons rfl (fun K hK => ?_) AllReadyH.nil
          go_simp
          go_wp2_with (go_at_call 11; refine (HF2.out _ hHeldb3).mono ?_; rintro e yb10 ⟨rfl, hqb10⟩)
          refine hK.out _ _ (hHeldb3.trans (hqb10.mono hHeldb3.size)) (fun hHeldb10 => ?_)
          clear hK K
          try simp only [Act.put, List.setIfInBounds_toArray, List.set_cons_zero, List.set_cons_succ]
          refine wpAnyH_takeD (i := 11) (some 76) (v := ?vb11) rfl rfl (by kernel_rfl) (by kernel_rfl) (by kernel_rfl) (fun _ _ _ h => h) (Or.inl ⟨by kernel_rfl, ?hyb11⟩) (by assumption) ?restb11
          case hyb11 => (intro x hSx; (try dsimp only at hSx); go_simp; first | done | with_reducible rfl)
          try simp only [Act.put, List.setIfInBounds_toArray, List.set_cons_zero, List.set_cons_succ]
          refine wpAnyH_takeD (i := 12) (some 77) (v := ?vb12) rfl rfl (by kernel_rfl) (by kernel_rfl) (by kernel_rfl) (fun _ _ _ h => h) (Or.inl ⟨by kernel_rfl, ?hyb12⟩) (by assumption) ?restb12
          case hyb12 => (intro x hSx; (try dsimp only at hSx); go_simp; first | done | with_reducible rfl)
          try simp only [Act.put, List.setIfInBounds_toArray, List.set_cons_zero, List.set_cons_succ]
          refine wpAnyH_takeD (i := 13) (some 78) (v := ?vb13) rfl rfl (by kernel_rfl) (by kernel_rfl) (by kernel_rfl) (fun _ _ _ h => h) (Or.inl ⟨by kernel_rfl, ?hyb13⟩) (by assumption) ?restb13
          case hyb13 => (intro x hSx; (try dsimp only at hSx); go_simp; first | done | with_reducible rfl)
          try simp only [Act.put, List.setIfInBounds_toArray, List.set_cons_zero, List.set_cons_succ]
          refine wpAnyH_takeD (i := 14) (some 79) (v := ?vb14) rfl rfl (by kernel_rfl) (by kernel_rfl) (by kernel_rfl) (fun _ _ _ h => h) (Or.inl ⟨by kernel_rfl, ?hyb14⟩) (by assumption) ?restb14
          case hyb14 => (intro x hSx; (try dsimp only at hSx); go_simp; first | done | with_reducible rfl)
          try simp only [Act.put, List.setIfInBounds_toArray, List.set_cons_zero, List.set_cons_succ]
          refine wpAnyH_takeD (i := 15) (some 80) (v := ?vb15) rfl rfl (by kernel_rfl) (by kernel_rfl) (by kernel_rfl) (fun _ _ _ h => h) (Or.inl ⟨by kernel_rfl, ?hyb15⟩) (by assumption) ?restb15
          case hyb15 => (intro x hSx; (try dsimp only at hSx); go_simp; first | done | with_reducible rfl)
          try simp only [Act.put, List.setIfInBounds_toArray, List.set_cons_zero, List.set_cons_succ]
          refine wpAnyH_takeD (i := 16) (some 81) (v := ?vb16) rfl rfl (by kernel_rfl) (by kernel_rfl) (by kernel_rfl) (fun _ _ _ h => h) (Or.inl ⟨by kernel_rfl, ?hyb16⟩) (by assumption) ?restb16
          case hyb16 => (intro x hSx; (try dsimp only at hSx); go_simp; first | done | with_reducible rfl)
          try simp only [Act.put, List.setIfInBounds_toArray, List.set_cons_zero, List.set_cons_succ]
          refine wpAnyH_takeD (i := 17) (some 82) (v := ?vb17) rfl rfl (by kernel_rfl) (by kernel_rfl) (by kernel_rfl) (fun _ _ _ h => h) (Or.inl ⟨by kernel_rfl, ?hyb17⟩) (by assumption) ?restb17
          case hyb17 => (intro x hSx; (try dsimp only at hSx); obtain ⟨x0, x1, x2⟩ := HCE.out x hSx; go_simp; first | done | with_reducible rfl)
          try simp only [Act.put, List.setIfInBounds_toArray, List.set_cons_zero, List.set_cons_succ]
          refine wpAnyH_takeD (i := 19) (some 84) (v := ?vb19) rfl rfl (by kernel_rfl) (by kernel_rfl) (by kernel_rfl) (fun _ _ _ h => h) (Or.inl ⟨by kernel_rfl, ?hyb19⟩) (by assumption) ?restb19
          case hyb19 => (intro x hSx; (try dsimp only at hSx); obtain ⟨x0, x1, x2⟩ := HCE.out x hSx; go_simp; first | done | with_reducible rfl)
          try simp only [Act.put, List.setIfInBounds_toArray, List.set_cons_zero, List.set_cons_succ]
          refine wpAnyH_takeD (i := 20) (some 85) (v := ?vb20) rfl rfl (by kernel_rfl) (by kernel_rfl) (by kernel_rfl) (fun _ _ _ h => h) (Or.inl ⟨by kernel_rfl, ?hyb20⟩) (by assumption) ?restb20
          case hyb20 => (intro x hSx; (try dsimp only at hSx); go_simp; first | done | with_reducible rfl)
          try simp only [Act.put, List.setIfInBounds_toArray, List.set_cons_zero, List.set_cons_succ]
          refine wpAnyH_takeD (i := 21) (some 86) (v := ?vb21) rfl rfl (by kernel_rfl) (by kernel_rfl) (by kernel_rfl) (fun _ _ _ h => h) (Or.inl ⟨by kernel_rfl, ?hyb21⟩) (by assumption) ?restb21
          case hyb21 => (intro x hSx; (try dsimp only at hSx); go_simp; first | done | with_reducible rfl)
          try simp only [Act.put, List.setIfInBounds_toArray, List.set_cons_zero, List.set_cons_succ]
          refine wpAnyH_takeD (i := 22) (some 87) (v := ?vb22) rfl rfl (by kernel_rfl) (by kernel_rfl) (by kernel_rfl) (fun _ _ _ h => h) (Or.inl ⟨by kernel_rfl, ?hyb22⟩) (by assumption) ?restb22
          case hyb22 => (intro x hSx; (try dsimp only at hSx); obtain ⟨x0, x1, x2⟩ := HCE.out x hSx; go_simp; first | done | with_reducible rfl)
          try simp only [Act.put, List.setIfInBounds_toArray, List.set_cons_zero, List.set_cons_succ]
          refine wpAnyH_ready (rs := [18]) (by kernel_rfl) (by simp) ?_
          refine AllReadyH.cons rfl (fun K hK => ?_) AllReadyH.nil
          go_simp
          go_wp2_with (go_at_call 12; refine (HZA.out _ hHeldb10).mono ?_; rintro e yb18 ⟨rfl, hqb18⟩)
          refine hK.out _ _ (hHeldb10.trans (hqb18.mono hHeldb10.size)) (fun hHeldb18 => ?_)
          clear hK K
          try simp only [Act.put, List.setIfInBounds_toArray, List.set_cons_zero, List.set_cons_succ]
          refine wpAnyH_ready (rs := [23]) (by kernel_rfl) (by simp) ?_
          refine AllReadyH.cons rfl (fun K hK => ?_) AllReadyH.nil
          go_simp
          go_wp2_with (go_at_call 13; refine (HZB.out _ hHeldb18).mono ?_; rintro e yb23 ⟨rfl, hqb23⟩)
          refine hK.out _ _ (hHeldb18.trans (hqb23.mono hHeldb18.size)) (fun hHeldb23 => ?_)
          clear hK K
          try simp only [Act.put, List.setIfInBounds_toArray, List.set_cons_zero, List.set_cons_succ]
          refine wpAnyH_takeD (i := 24) (some 89) (v := ?vb24) rfl rfl (by kernel_rfl) (by kernel_rfl) (by kernel_rfl) (fun _ _ _ h => h) (Or.inl ⟨by kernel_rfl, ?hyb24⟩) (by assumption) ?restb24
          case hyb24 => (intro x hSx; (try dsimp only at hSx); go_simp; first | done | with_reducible rfl)
          try simp only [Act.put, List.setIfInBounds_toArray, List.set_cons_zero, List.set_cons_succ]
          refine wpAnyH_takeD (i := 25) (some 90) (v := ?vb25) rfl rfl (by kernel_rfl) (by kernel_rfl) (by kernel_rfl) (fun _ _ _ h => h) (Or.inl ⟨by kernel_rfl, ?hyb25⟩) (by assumption) ?restb25
          case hyb25 => (intro x hSx; (try dsimp only at hSx); go_simp; first | done | with_reducible rfl)
          try simp only [Act.put, List.setIfInBounds_toArray, List.set_cons_zero, List.set_cons_succ]
          refine wpAnyH_takeD (i := 26) (some 91) (v := ?vb26) rfl rfl (by kernel_rfl) (by kernel_rfl) (by kernel_rfl) (fun _ _ _ h => h) (Or.inl ⟨by kernel_rfl, ?hyb26⟩) (by assumption) ?restb26
          case hyb26 => (intro x hSx; (try dsimp only at hSx); go_simp; first | done | with_reducible rfl)
          try simp only [Act.put, List.setIfInBounds_toArray, List.set_cons_zero, List.set_cons_succ]
          refine wpAnyH_takeD (i := 27) (some 92) (v := ?vb27) rfl rfl (by kernel_rfl) (by kernel_rfl) (by kernel_rfl) (fun _ _ _ h => h) (Or.inl ⟨by kernel_rfl, ?hyb27⟩) (by assumption) ?restb27
          case hyb27 => (intro x hSx; (try dsimp only at hSx); go_simp; first | done | with_reducible rfl)
          try simp only [Act.put, List.setIfInBounds_toArray, List.set_cons_zero, List.set_cons_succ]
          refine wpAnyH_takeD (i := 28) (some 93) (v := ?vb28) rfl rfl (by kernel_rfl) (by kernel_rfl) (by kernel_rfl) (fun _ _ _ h => h) (Or.inl ⟨by kernel_rfl, ?hyb28⟩) (by assumption) ?restb28
          case hyb28 => (intro x hSx; (try dsimp only at hSx); go_simp; first | done | with_reducible rfl)
          try simp only [Act.put, List.setIfInBounds_toArray, List.set_cons_zero, List.set_cons_succ]
          refine wpAnyH_takeD (i := 29) (some 94) (v := ?vb29) rfl rfl (by kernel_rfl) (by kernel_rfl) (by kernel_rfl) (fun _ _ _ h => h) (Or.inl ⟨by kernel_rfl, ?hyb29⟩) (by assumption) ?restb29
          case hyb29 => (intro x hSx; (try dsimp only at hSx); go_simp; first | done | with_reducible rfl)
          try simp only [Act.put, List.setIfInBounds_toArray, List.set_cons_zero, List.set_cons_succ]
          refine wpAnyH_takeD (i := 30) (some 95) (v := ?vb30) rfl rfl (by kernel_rfl) (by kernel_rfl) (by kernel_rfl) (fun _ _ _ h => h) (Or.inl ⟨by kernel_rfl, ?hyb30⟩) (by assumption) ?restb30
          case hyb30 => (intro x hSx; (try dsimp only at hSx); go_simp; first | done | with_reducible rfl)
          try simp only [Act.put, List.setIfInBounds_toArray, List.set_cons_zero, List.set_cons_succ]
          refine wpAnyH_takeD (i := 31) (some 96) (v := ?vb31) rfl rfl (by kernel_rfl) (by kernel_rfl) (by kernel_rfl) (fun _ _ _ h => h) (Or.inl ⟨by kernel_rfl, ?hyb31⟩) (by assumption) ?restb31
          case hyb31 => (intro x hSx; (try dsimp only at hSx); go_simp; first | done | with_reducible rfl)
          try simp only [Act.put, List.setIfInBounds_toArray, List.set_cons_zero, List.set_cons_succ]
          refine wpAnyH_takeD (i := 32) (some 97) (v := ?vb32) rfl rfl (by kernel_rfl) (by kernel_rfl) (by kernel_rfl) (fun _ _ _ h => h) (Or.inl ⟨by kernel_rfl, ?hyb32⟩) (by assumption) ?restb32
          case hyb32 => (intro x hSx; (try dsimp only at hSx); go_simp; first | done | with_reducible rfl)
          try simp only [Act.put, List.setIfInBounds_toArray, List.set_cons_zero, List.set_cons_succ]
          refine wpAnyH_takeD (i := 33) (some 98) (v := ?vb33) rfl rfl (by kernel_rfl) (by kernel_rfl) (by kernel_rfl) (fun _ _ _ h => h) (Or.inl ⟨by kernel_rfl, ?hyb33⟩) (by assumption) ?restb33
          case hyb33 => (intro x hSx; (try dsimp only at hSx); obtain ⟨x0, x1, x2⟩ := HCE.out x hSx; go_simp; first | done | with_reducible rfl)
          try simp only [Act.put, List.setIfInBounds_toArray, List.set_cons_zero, List.set_cons_succ]
          refine wpAnyH_takeD (i := 35) (some 100) (v := ?vb35) rfl rfl (by kernel_rfl) (by kernel_rfl) (by kernel_rfl) (fun _ _ _ h => h) (Or.inl ⟨by kernel_rfl, ?hyb35⟩) (by assumption) ?restb35
          case hyb35 => (intro x hSx; (try dsimp only at hSx); obtain ⟨x0, x1, x2⟩ := HCE.out x hSx; go_simp; first | done | with_reducible rfl)
          try simp only [Act.put, List.setIfInBounds_toArray, List.set_cons_zero, List.set_cons_succ]
          refine wpAnyH_takeD (i := 36) (some 101) (v := ?vb36) rfl rfl (by kernel_rfl) (by kernel_rfl) (by kernel_rfl) (fun _ _ _ h => h) (Or.inl ⟨by kernel_rfl, ?hyb36⟩) (by assumption) ?restb36
          case hyb36 => (intro x hSx; (try dsimp only at hSx); go_simp; first | done | with_reducible rfl)
          try simp only [Act.put, List.setIfInBounds_toArray, List.set_cons_zero, List.set_cons_succ]
          refine wpAnyH_takeD (i := 37) (some 102) (v := ?vb37) rfl rfl (by kernel_rfl) (by kernel_rfl) (by kernel_rfl) (fun _ _ _ h => h) (Or.inl ⟨by kernel_rfl, ?hyb37⟩) (by assumption) ?restb37
          case hyb37 => (intro x hSx; (try dsimp only at hSx); go_simp; first | done | with_reducible rfl)
          try simp only [Act.put, List.setIfInBounds_toArray, List.set_cons_zero, List.set_cons_succ]
          refine wpAnyH_takeD (i := 38) (some 103) (v := ?vb38) rfl rfl (by kernel_rfl) (by kernel_rfl) (by kernel_rfl) (fun _ _ _ h => h) (Or.inl ⟨by kernel_rfl, ?hyb38⟩) (by assumption) ?restb38
          case hyb38 => (intro x hSx; (try dsimp only at hSx); go_simp; first | done | with_reducible rfl)
          try simp only [Act.put, List.setIfInBounds_toArray, List.set_cons_zero, List.set_cons_succ]
          refine wpAnyH_takeD (i := 39) (some 104) (v := ?vb39) rfl rfl (by kernel_rfl) (by kernel_rfl) (by kernel_rfl) (fun _ _ _ h => h) (Or.inl ⟨by kernel_rfl, ?hyb39⟩) (by assumption) ?restb39
          case hyb39 => (intro x hSx; (try dsimp only at hSx); go_simp; first | done | with_reducible rfl)
          try simp only [Act.put, List.setIfInBounds_toArray, List.set_cons_zero, List.set_cons_succ]
          refine wpAnyH_takeD (i := 40) (some 105) (v := ?vb40) rfl rfl (by kernel_rfl) (by kernel_rfl) (by kernel_rfl) (fun _ _ _ h => h) (Or.inl ⟨by kernel_rfl, ?hyb40⟩) (by assumption) ?restb40
          case hyb40 => (intro x hSx; (try dsimp only at hSx); go_simp; first | done | with_reducible rfl)
          try simp only [Act.put, List.setIfInBounds_toArray, List.set_cons_zero, List.set_cons_succ]
          refine wpAnyH_takeD (i := 41) (some 106) (v := ?vb41) rfl rfl (by kernel_rfl) (by kernel_rfl) (by kernel_rfl) (fun _ _ _ h => h) (Or.inl ⟨by kernel_rfl, ?hyb41⟩) (by assumption) ?restb41
          case hyb41 => (intro x hSx; (try dsimp only at hSx); obtain ⟨x0, x1, x2⟩ := HCE.out x hSx; go_simp; first | done | with_reducible rfl)
          try simp only [Act.put, List.setIfInBounds_toArray, List.set_cons_zero, List.set_cons_succ]
          refine wpAnyH_ready (rs := [34]) (by kernel_rfl) (by simp) ?_
          refine AllReadyH.cons rfl (fun K hK => ?_) AllReadyH.nil
          go_simp
          go_wp2_with (go_at_call 12; refine (HZC.out _ hHeldb23).mono ?_; rintro e yb34 ⟨rfl, hqb34⟩)
          refine hK.out _ _ (hHeldb23.trans (hqb34.mono hHeldb23.size)) (fun hHeldb34 => ?_)
          clear hK K
          try simp only [Act.put, List.setIfInBounds_toArray, List.set_cons_zero, List.set_cons_succ]
          refine wpAnyH_ready (rs := [42]) (by kernel_rfl) (by simp) ?_
          refine AllReadyH.cons rfl (fun K hK => ?_) AllReadyH.nil
          go_simp
          go_wp2_with (go_at_call 13; refine (HZD.out _ hHeldb34).mono ?_; rintro e yb42 ⟨rfl, hqb42⟩)
          refine hK.out _ _ (hHeldb34.trans (hqb42.mono hHeldb34.size)) (fun hHeldb42 => ?_)
          clear hK K
          try simp only [Act.put, List.setIfInBounds_toArray, List.set_cons_zero, List.set_cons_succ]
          refine wpAnyH_takeD (i := 43) (some 108) (v := ?vb43) rfl rfl (by kernel_rfl) (by kernel_rfl) (by kernel_rfl) (fun _ _ _ h => h) (Or.inl ⟨by kernel_rfl, ?hyb43⟩) (by assumption) ?restb43
          case hyb43 => (intro x hSx; (try dsimp only at hSx); go_simp; first | done | with_reducible rfl)
          try simp only [Act.put, List.setIfInBounds_toArray, List.set_cons_zero, List.set_cons_succ]
          refine wpAnyH_takeD (i := 44) (some 109) (v := ?vb44) rfl rfl (by kernel_rfl) (by kernel_rfl) (by kernel_rfl) (fun _ _ _ h => h) (Or.inl ⟨by kernel_rfl, ?hyb44⟩) (by assumption) ?restb44
          case hyb44 => (intro x hSx; (try dsimp only at hSx); go_simp; first | done | with_reducible rfl)
          try simp only [Act.put, List.setIfInBounds_toArray, List.set_cons_zero, List.set_cons_succ]
          refine wpAnyH_done (by kernel_rfl) ?_ _
          go_wp2_with fail
          go_roundw
          case rel => exact ⟨i + 1, by omega, by simp, hHeldb42⟩
          case measure => simp only [intOf]; omega
      · go_wp2_with fail
        clear hlt e0
        go_loopw [13, 14] (fun jv _ wr => ∃ j : Nat, j ≤ Ln ∧ jv = .int .i64 (j : Int) ∧ Hid (Below W.heap.size W wr)) (fun jv _ _ => Ln - (intOf jv).toNat)
        case atStart => exact ⟨0, Nat.zero_le _, rfl, HW.out⟩
        case round =>
          clear HW
          obtain ⟨j, hj, rfl, HW⟩ := hrel
          have e0 := HBX.out wr HW.out
          by_cases hlt : j < Ln
          · have hj2 : j < L.length := by rw [HLn.out]; exact hlt
            obtain ⟨b, off, u, rfl, hb, -, -⟩ := (HAS.out wr HW.out).at hj2
            have hrow : ∀ x, Below W.heap.size W x → ∃ u, x.cell? ⟨b, off + j, none⟩ = some u ∧ Ints W.heap.size x u L[j] := fun x hx => by
              obtain ⟨b', off', u', e, -, h1, h2⟩ := (HAS.out x hx).at hj2
              cases e
              exact ⟨u', h1, h2⟩
            obtain ⟨hz, hzi⟩ := HL.out _ (List.getElem_mem hj2)
            generalize L[j] = zs at hrow hz hzi
            obtain ⟨v, hv, hiv⟩ := hrow W (Below.refl _ _)
            obtain ⟨ua, uc, rfl⟩ := ints_val hiv
            obtain ⟨zn, hzn⟩ : ∃ zn, zs.length = zn := ⟨_, rfl⟩
            rw [hzn] at hv hiv
            have HZN : Hid (zs.length = zn) := hzn
            have HZI : Hid (∀ z ∈ zs, InI z) := hzi
            have HIV : Hid (Ints W.heap.size W (.slice ua zn uc) zs) := hiv
            have HCA : Hid (∀ x, Below W.heap.size W x → x.cell? ⟨w2.heap.size, 0, none⟩ = some (.slice a ln c) ∧ x.cell? ⟨b, off + j, none⟩ = some (.slice ua zn uc)) := fun x hx => ⟨HBX.out x hx, (hx.cell (p := ⟨b, off + j, none⟩) hb).trans hv⟩
            have HF3 : Hid (∀ x, Below W.heap.size W x → Calls Tryd.prog 11 #[.pointer (some ⟨T, 0, none⟩), .agg #[.slice a ln c], .slice ua zn uc] x fun e w' => e = .returned (.bool true) ∧ Below x.heap.size x w') := fun x hx => HFI.out x _ zs hx hz (Ints.below hx (Nat.le_refl _) hiv)
            clear hrow hz hzi hv hiv hzn hj2
            go_upto_region 18 with fail
            refine wp_region_held_drew (S := fun x => Below W.heap.size W x) (by kernel_rfl) (HW.out.drew) (fun hHeldc => ?_)
            refine wpAnyH_takeD (i := 0) (some 116) (v := ?vc0) rfl rfl (by kernel_rfl) (by kernel_rfl) (by kernel_rfl) (fun _ _ _ h => h) (Or.inl ⟨by kernel_rfl, ?hyc0⟩) (by assumption) ?restc0
            case hyc0 => (intro x hSx; (try dsimp only at hSx); go_simp; first | done | with_reducible rfl)
            try simp only [Act.put, List.setIfInBounds_toArray, List.set_cons_zero, List.set_cons_succ]
            refine wpAnyH_takeD (i := 1) (some 117) (v := ?vc1) rfl rfl (by kernel_rfl) (by kernel_rfl) (by kernel_rfl) (fun _ _ _ h => h) (Or.inl ⟨by kernel_rfl, ?hyc1⟩) (by assumption) ?restc1
            case hyc1 => (intro x hSx; (try dsimp only at hSx); obtain ⟨x0, x1⟩ := HCA.out x hSx; go_simp; first | done | with_reducible rfl)
            try simp only [Act.put, List.setIfInBounds_toArray, List.set_cons_zero, List.set_cons_succ]
            refine wpAnyH_takeD (i := 2) (some 118) (v := ?vc2) rfl rfl (by kernel_rfl) (by kernel_rfl) (by kernel_rfl) (fun _ _ _ h => h) (Or.inl ⟨by kernel_rfl, ?hyc2⟩) (by assumption) ?restc2
            case hyc2 => (intro x hSx; (try dsimp only at hSx); go_simp; first | done | with_reducible rfl)
            try simp only [Act.put, List.setIfInBounds_toArray, List.set_cons_zero, List.set_cons_succ]
            refine wpAnyH_takeD (i := 3) (some 119) (v := ?vc3) rfl rfl (by kernel_rfl) (by kernel_rfl) (by kernel_rfl) (fun _ _ _ h => h) (Or.inl ⟨by kernel_rfl, ?hyc3⟩) (by assumption) ?restc3
            case hyc3 => (intro x hSx; (try dsimp only at hSx); go_simp; first | done | with_reducible rfl)
            try simp only [Act.put, List.setIfInBounds_toArray, List.set_cons_zero, List.set_cons_succ]
            refine wpAnyH_takeD (i := 4) (some 120) (v := ?vc4) rfl rfl (by kernel_rfl) (by kernel_rfl) (by kernel_rfl) (fun _ _ _ h => h) (Or.inl ⟨by kernel_rfl, ?hyc4⟩) (by assumption) ?restc4
            case hyc4 => (intro x hSx; (try dsimp only at hSx); go_simp; first | done | with_reducible rfl)
            try simp only [Act.put, List.setIfInBounds_toArray, List.set_cons_zero, List.set_cons_succ]
            refine wpAnyH_takeD (i := 5) (some 121) (v := ?vc5) rfl rfl (by kernel_rfl) (by kernel_rfl) (by kernel_rfl) (fun _ _ _ h => h) (Or.inl ⟨by kernel_rfl, ?hyc5⟩) (by assumption) ?restc5
            case hyc5 => (intro x hSx; (try dsimp only at hSx); obtain ⟨x0, x1⟩ := HCA.out x hSx; go_simp; first | done | with_reducible rfl)
            try simp only [Act.put, List.setIfInBounds_toArray, List.set_cons_zero, List.set_cons_succ]
            refine wpAnyH_ready (rs := [6]) (by kernel_rfl) (by simp) ?_
            refine AllReadyH.cons rfl (fun K hK => ?_) AllReadyH.nil
            go_simp
            go_wp2_with (go_at_call 11; refine (HF3.out _ hHeldc).mono ?_; rintro e yc6 ⟨rfl, hqc6⟩)
            refine hK.out _ _ (hHeldc.trans (hqc6.mono hHeldc.size)) (fun hHeldc6 => ?_)
            clear hK K
            try simp only [Act.put, List.setIfInBounds_toArray, List.set_cons_zero, List.set_cons_succ]
            refine wpAnyH_takeD (i := 7) (some 123) (v := ?vc7) rfl rfl (by kernel_rfl) (by kernel_rfl) (by kernel_rfl) (fun _ _ _ h => h) (Or.inl ⟨by kernel_rfl, ?hyc7⟩) (by assumption) ?restc7
            case hyc7 => (intro x hSx; (try dsimp only at hSx); go_simp; first | done | with_reducible rfl)
            try simp only [Act.put, List.setIfInBounds_toArray, List.set_cons_zero, List.set_cons_succ]
            refine wpAnyH_done (by kernel_rfl) ?_ _
            go_wp2_with fail
            clear e0
            go_loopw [14] (fun kv wr => ∃ k : Nat, k ≤ zn ∧ k ≤ 9 ∧ kv = .int .i64 (k : Int) ∧ Hid (Below W.heap.size W wr)) (fun kv _ => 9 - (intOf kv).toNat)
            case atStart => exact ⟨0, Nat.zero_le _, Nat.zero_le _, rfl, hHeldc6⟩
            case round =>
              clear HW
              obtain ⟨k, hkz, hk9, rfl, HW⟩ := hrel
              have e1 := (HCA.out wr HW.out).2
              by_cases hk1 : k < zn
              · by_cases hk2 : k < 9
                · obtain ⟨ub, uo, rfl, hub, hcz⟩ : ∃ ub uo, ua = some ⟨ub, uo, none⟩ ∧ ub < W.heap.size ∧ ∀ j, j < zs.length → W.cell? ⟨ub, uo + j, none⟩ = some (.int .i64 (zs[j]?.getD 0)) := by
                    rcases HIV.out with ⟨_, _, e, h0⟩ | ⟨ub, uo, cap, e, h1, h2⟩
                    · have := HZN.out
                      rw [h0] at this
                      simp at this
                      omega
                    · cases e
                      exact ⟨ub, uo, rfl, h1, h2⟩
                  have hkl : k < zs.length := by rw [HZN.out]; exact hk1
                  obtain ⟨z, hz⟩ : ∃ z, z = zs[k]?.getD 0 := ⟨_, rfl⟩
                  have hzI : InI z := by
                    rw [hz, List.getElem?_eq_getElem hkl]
                    exact HZI.out _ (List.getElem_mem hkl)
                  obtain ⟨q, hq⟩ : ∃ q : Int, q = (longT E z : Int) := ⟨_, rfl⟩
                  have HCZ : Hid (∀ x, Below W.heap.size W x → x.cell? ⟨w2.heap.size, 0, none⟩ = some (.slice a ln c) ∧ x.cell? ⟨b, off + j, none⟩ = some (.slice (some ⟨ub, uo, none⟩) zn uc) ∧ x.cell? ⟨ub, uo + k, none⟩ = some (.int .i64 z)) := fun x hx => ⟨(HCA.out x hx).1, (HCA.out x hx).2, by rw [hz]; exact (hx.cell (p := ⟨ub, uo + k, none⟩) hub).trans (hcz k hkl)⟩
                  have HZA : Hid (∀ x, Below W.heap.size W x → Calls Tryd.prog 12 #[.pointer (some ⟨T, 0, none⟩), .int .i64 z] x fun e w' => e = .returned (.int .i64 q) ∧ Below x.heap.size x w') := fun x hx => by rw [hq]; exact HL1.out x z hx hzI
                  have HZB : Hid (∀ x, Below W.heap.size W x → Calls Tryd.prog 13 #[.agg #[.slice a ln c], .int .i64 z] x fun e w' => e = .returned (.int .i64 q) ∧ Below x.heap.size x w') := fun x hx => by rw [hq]; exact HL2.out x z hx
                  have t0 : (q == q) = true := by simp
                  clear hcz hkl hz hzI hq
                  go_upto_region 23 with fail
                  refine wp_region_held_drew (S := fun x => Below W.heap.size W x) (by kernel_rfl) (HW.out.drew) (fun hHeldd => ?_)
                  refine wpAnyH_takeD (i := 0) (some 137) (v := ?vd0) rfl rfl (by kernel_rfl) (by kernel_rfl) (by kernel_rfl) (fun _ _ _ h => h) (Or.inl ⟨by kernel_rfl, ?hyd0⟩) (by assumption) ?restd0
                  case hyd0 => (intro x hSx; (try dsimp only at hSx); go_simp; first | done | with_reducible rfl)
                  try simp only [Act.put, List.setIfInBounds_toArray, List.set_cons_zero, List.set_cons_succ]
                  refine wpAnyH_takeD (i := 1) (some 138) (v := ?vd1) rfl rfl (by kernel_rfl) (by kernel_rfl) (by kernel_rfl) (fun _ _ _ h => h) (Or.inl ⟨by kernel_rfl, ?hyd1⟩) (by assumption) ?restd1
                  case hyd1 => (intro x hSx; (try dsimp only at hSx); go_simp; first | done | with_reducible rfl)
                  try simp only [Act.put, List.setIfInBounds_toArray, List.set_cons_zero, List.set_cons_succ]
                  refine wpAnyH_takeD (i := 2) (some 139) (v := ?vd2) rfl rfl (by kernel_rfl) (by kernel_rfl) (by kernel_rfl) (fun _ _ _ h => h) (Or.inl ⟨by kernel_rfl, ?hyd2⟩) (by assumption) ?restd2
                  case hyd2 => (intro x hSx; (try dsimp only at hSx); go_simp; first | done | with_reducible rfl)
                  try simp only [Act.put, List.setIfInBounds_toArray, List.set_cons_zero, List.set_cons_succ]
                  refine wpAnyH_takeD (i := 3) (some 140) (v := ?vd3) rfl rfl (by kernel_rfl) (by kernel_rfl) (by kernel_rfl) (fun _ _ _ h => h) (Or.inl ⟨by kernel_rfl, ?hyd3⟩) (by assumption) ?restd3
                  case hyd3 => (intro x hSx; (try dsimp only at hSx); go_simp; first | done | with_reducible rfl)
                  try simp only [Act.put, List.setIfInBounds_toArray, List.set_cons_zero, List.set_cons_succ]
                  refine wpAnyH_takeD (i := 4) (some 141) (v := ?vd4) rfl rfl (by kernel_rfl) (by kernel_rfl) (by kernel_rfl) (fun _ _ _ h => h) (Or.inl ⟨by kernel_rfl, ?hyd4⟩) (by assumption) ?restd4
                  case hyd4 => (intro x hSx; (try dsimp only at hSx); obtain ⟨x0, x1, x2⟩ := HCZ.out x hSx; go_simp; first | done | with_reducible rfl)
                  try simp only [Act.put, List.setIfInBounds_toArray, List.set_cons_zero, List.set_cons_succ]
                  refine wpAnyH_takeD (i := 5) (some 142) (v := ?vd5) rfl rfl (by kernel_rfl) (by kernel_rfl) (by kernel_rfl) (fun _ _ _ h => h) (Or.inl ⟨by kernel_rfl, ?hyd5⟩) (by assumption) ?restd5
                  case hyd5 => (intro x hSx; (try dsimp only at hSx); go_simp; first | done | with_reducible rfl)
                  try simp only [Act.put, List.setIfInBounds_toArray, List.set_cons_zero, List.set_cons_succ]
                  refine wpAnyH_takeD (i := 6) (some 143) (v := ?vd6) rfl rfl (by kernel_rfl) (by kernel_rfl) (by kernel_rfl) (fun _ _ _ h => h) (Or.inl ⟨by kernel_rfl, ?hyd6⟩) (by assumption) ?restd6
                  case hyd6 => (intro x hSx; (try dsimp only at hSx); go_simp; first | done | with_reducible rfl)
                  try simp only [Act.put, List.setIfInBounds_toArray, List.set_cons_zero, List.set_cons_succ]
                  refine wpAnyH_takeD (i := 7) (some 144) (v := ?vd7) rfl rfl (by kernel_rfl) (by kernel_rfl) (by kernel_rfl) (fun _ _ _ h => h) (Or.inl ⟨by kernel_rfl, ?hyd7⟩) (by assumption) ?restd7
                  case hyd7 => (intro x hSx; (try dsimp only at hSx); obtain ⟨x0, x1, x2⟩ := HCZ.out x hSx; go_simp; first | done | with_reducible rfl)
                  try simp only [Act.put, List.setIfInBounds_toArray, List.set_cons_zero, List.set_cons_succ]
                  refine wpAnyH_takeD (i := 9) (some 146) (v := ?vd9) rfl rfl (by kernel_rfl) (by kernel_rfl) (by kernel_rfl) (fun _ _ _ h => h) (Or.inl ⟨by kernel_rfl, ?hyd9⟩) (by assumption) ?restd9
                  case hyd9 => (intro x hSx; (try dsimp only at hSx); obtain ⟨x0, x1, x2⟩ := HCZ.out x hSx; go_simp; first | done | with_reducible rfl)
                  try simp only [Act.put, List.setIfInBounds_toArray, List.set_cons_zero, List.set_cons_succ]
                  refine wpAnyH_takeD (i := 10) (some 147) (v := ?vd10) rfl rfl (by kernel_rfl) (by kernel_rfl) (by kernel_rfl) (fun _ _ _ h => h) (Or.inl ⟨by kernel_rfl, ?hyd10⟩) (by assumption) ?restd10
                  case hyd10 => (intro x hSx; (try dsimp only at hSx); go_simp; first | done | with_reducible rfl)
                  try simp only [Act.put, List.setIfInBounds_toArray, List.set_cons_zero, List.set_cons_succ]
                  refine wpAnyH_takeD (i := 11) (some 148) (v := ?vd11) rfl rfl (by kernel_rfl) (by kernel_rfl) (by kernel_rfl) (fun _ _ _ h => h) (Or.inl ⟨by kernel_rfl, ?hyd11⟩) (by assumption) ?restd11
                  case hyd11 => (intro x hSx; (try dsimp only at hSx); go_simp; first | done | with_reducible rfl)
                  try simp only [Act.put, List.setIfInBounds_toArray, List.set_cons_zero, List.set_cons_succ]
                  refine wpAnyH_takeD (i := 12) (some 149) (v := ?vd12) rfl rfl (by kernel_rfl) (by kernel_rfl) (by kernel_rfl) (fun _ _ _ h => h) (Or.inl ⟨by kernel_rfl, ?hyd12⟩) (by assumption) ?restd12
                  case hyd12 => (intro x hSx; (try dsimp only at hSx); go_simp; first | done | with_reducible rfl)
                  try simp only [Act.put, List.setIfInBounds_toArray, List.set_cons_zero, List.set_cons_succ]
                  refine wpAnyH_takeD (i := 13) (some 150) (v := ?vd13) rfl rfl (by kernel_rfl) (by kernel_rfl) (by kernel_rfl) (fun _ _ _ h => h) (Or.inl ⟨by kernel_rfl, ?hyd13⟩) (by assumption) ?restd13
                  case hyd13 => (intro x hSx; (try dsimp only at hSx); obtain ⟨x0, x1, x2⟩ := HCZ.out x hSx; go_simp; first | done | with_reducible rfl)
                  try simp only [Act.put, List.setIfInBounds_toArray, List.set_cons_zero, List.set_cons_succ]
                  refine wpAnyH_takeD (i := 14) (some 151) (v := ?vd14) rfl rfl (by kernel_rfl) (by kernel_rfl) (by kernel_rfl) (fun _ _ _ h => h) (Or.inl ⟨by kernel_rfl, ?hyd14⟩) (by assumption) ?restd14
                  case hyd14 => (intro x hSx; (try dsimp only at hSx); go_simp; first | done | with_reducible rfl)
                  try simp only [Act.put, List.setIfInBounds_toArray, List.set_cons_zero, List.set_cons_succ]
                  refine wpAnyH_takeD (i := 15) (some 152) (v := ?vd15) rfl rfl (by kernel_rfl) (by kernel_rfl) (by kernel_rfl) (fun _ _ _ h => h) (Or.inl ⟨by kernel_rfl, ?hyd15⟩) (by assumption) ?restd15
                  case hyd15 => (intro x hSx; (try dsimp only at hSx); go_simp; first | done | with_reducible rfl)
                  try simp only [Act.put, List.setIfInBounds_toArray, List.set_cons_zero, List.set_cons_succ]
                  refine wpAnyH_takeD (i := 16) (some 153) (v := ?vd16) rfl rfl (by kernel_rfl) (by kernel_rfl) (by kernel_rfl) (fun _ _ _ h => h) (Or.inl ⟨by kernel_rfl, ?hyd16⟩) (by assumption) ?restd16
                  case hyd16 => (intro x hSx; (try dsimp only at hSx); obtain ⟨x0, x1, x2⟩ := HCZ.out x hSx; go_simp; first | done | with_reducible rfl)
                  try simp only [Act.put, List.setIfInBounds_toArray, List.set_cons_zero, List.set_cons_succ]
                  refine wpAnyH_ready (rs := [8]) (by kernel_rfl) (by simp) ?_
                  refine AllReadyH.cons rfl (fun K hK => ?_) AllReadyH.nil
                  go_simp
                  go_wp2_with (go_at_call 12; refine (HZA.out _ hHeldd).mono ?_; rintro e yd8 ⟨rfl, hqd8⟩)
                  refine hK.out _ _ (hHeldd.trans (hqd8.mono hHeldd.size)) (fun hHeldd8 => ?_)
                  clear hK K
                  try simp only [Act.put, List.setIfInBounds_toArray, List.set_cons_zero, List.set_cons_succ]
                  refine wpAnyH_ready (rs := [17]) (by kernel_rfl) (by simp) ?_
                  refine AllReadyH.cons rfl (fun K hK => ?_) AllReadyH.nil
                  go_simp
                  go_wp2_with (go_at_call 13; refine (HZB.out _ hHeldd8).mono ?_; rintro e yd17 ⟨rfl, hqd17⟩)
                  refine hK.out _ _ (hHeldd8.trans (hqd17.mono hHeldd8.size)) (fun hHeldd17 => ?_)
                  clear hK K
                  try simp only [Act.put, List.setIfInBounds_toArray, List.set_cons_zero, List.set_cons_succ]
                  refine wpAnyH_takeD (i := 18) (some 155) (v := ?vd18) rfl rfl (by kernel_rfl) (by kernel_rfl) (by kernel_rfl) (fun _ _ _ h => h) (Or.inl ⟨by kernel_rfl, ?hyd18⟩) (by assumption) ?restd18
                  case hyd18 => (intro x hSx; (try dsimp only at hSx); go_simp; first | done | with_reducible rfl)
                  try simp only [Act.put, List.setIfInBounds_toArray, List.set_cons_zero, List.set_cons_succ]
                  refine wpAnyH_done (by kernel_rfl) ?_ _
                  go_wp2_with fail
                  go_roundw
                  case rel => exact ⟨k + 1, by omega, by omega, by simp, hHeldd17⟩
                  case measure => simp only [intOf]; omega
                · go_wp2_with fail
                  go_roundw
                  case rel => exact ⟨j + 1, by omega, by simp, HW.out⟩
                  case measure => simp only [intOf]; omega
              · go_wp2_with fail
                go_roundw
                case rel => exact ⟨j + 1, by omega, by simp, HW.out⟩
                case measure => simp only [intOf]; omega
          · have hc := HAL.out wr HW.out
            go_wp2_with fail
            refine hc.mono ?_
            clear hc
            rintro e w6 ⟨rfl, hb6⟩
            go_wp2_with fail
            go_ret
            exact ⟨rfl, HBW.out.trans ((HW.out.trans (hb6.mono HW.out.size)).mono HBW.out.size)⟩
end Go.Proofs.YtfeppbiodbhpcaaDoor

namespace Go.Proofs.YtfeppbiodbhpcaaDoor
open Go.ChangeShapes Go.WideShapes Go.ChangeAt Go.RowKit Go.Deep Go.Vf

theorem bytes34' : Tryd.prog.bytesOf 34 = 24 := by kernel_rfl
set_option maxRecDepth 20000 in
theorem rows_open {H : Type} {enc : TypeId × Value → H} {base : Nat} {W : World} (v : Value) (d : DataW H) (pl : List MemPlace) (hok : Value.okWide Tryd.prog W .any base 22 v)
    (h : DataW.Trod enc Tryd.prog W 0 (fun _ => true) true 22 v d pl) (hw : ∀ n ∈ d.weights Tryd.prog 22, n ≤ reachBytes) : ∃ L : List (List Int), RowsI W.heap.size W v L ∧ L.length ≤ 281474976710656 ∧ ∀ zs ∈ L, zs.length ≤ 17592186044416 ∧ ∀ z ∈ zs, InI z := by
  obtain ⟨a0, len0, cap0, rfl⟩ := okWide_slice Tryd.underlying22 hok
  obtain ⟨fuel, hf⟩ := h
  rcases open_slice Tryd.underlying22 hf with ⟨hcs, _⟩ | ⟨a, len, cap, m, n, D, Pl, hcs, _, hl, hm, hmm, hd, hx⟩
  · simp [Value.cells] at hcs
    obtain ⟨rfl, rfl, rfl⟩ := hcs
    exact ⟨[], .inl ⟨_, _, rfl, rfl⟩, by simp, by simp⟩
  · simp [Value.cells] at hcs
    obtain ⟨rfl, rfl, rfl⟩ := hcs
    simp only [Prod.mk.injEq] at hd
    obtain ⟨hd, _⟩ := hd
    subst hd
    have hwl : len0 ≤ 17592186044416 := by
      have := hw ((((List.range len0).map D).length + ((List.range (m - len0)).map fun j => D (len0 + j)).length) * Tryd.prog.bytesOf 34) (by simp [DataW.weights, Tryd.underlying22])
      rw [bytes34', reach_eq] at this
      simp at this
      omega
    have hwd : ∀ i, i < len0 → ∀ q ∈ (D i).weights Tryd.prog 34, q ≤ reachBytes := fun i hi q hq => hw q (by
      simp only [DataW.weights, Tryd.underlying22, List.mem_cons, List.mem_append]
      exact .inr (.inl (weightsAll_mem (List.mem_map.2 ⟨i, List.mem_range.2 hi, rfl⟩) q hq)))
    simp at hmm
    rw [hmm] at hx
    clear hmm hw
    rcases Nat.eq_zero_or_pos len0 with h0 | h0
    · subst h0
      exact ⟨[], .inl ⟨_, _, rfl, rfl⟩, by simp, by simp⟩
    obtain ⟨b, off, spot⟩ := a
    have hspot : spot = none := by
      obtain ⟨cs', h1, _⟩ := hx 0 (by omega)
      rw [cells34'] at h1
      obtain ⟨_, hlen, hcell⟩ := World.cells?_some h1
      obtain ⟨c0, rfl⟩ : ∃ c0, cs' = [c0] := List.length_eq_one_iff.1 hlen
      have := World.cell?_spot (hcell 0 (by simp))
      simpa [Addr.add] using this
    subst hspot
    have each : ∀ i, i < len0 → ∃ zs : List Int, (zs.length ≤ 17592186044416 ∧ ∀ z ∈ zs, InI z) ∧ ∃ u, W.cell? ⟨b, off + i, none⟩ = some u ∧ Ints W.heap.size W u zs := by
      intro i hi
      obtain ⟨cs', h1, h2⟩ := hx i (by omega)
      rw [cells34', Go.WideShapes.add_plain] at h1
      obtain ⟨_, hlen, hcell⟩ := World.cells?_some h1
      obtain ⟨pa, pk, pc, e0, zs, i1, i2, i3⟩ := ints_trod h2 (hwd i hi)
      subst e0
      have k0 := hcell 0 (by simp)
      rw [Go.WideShapes.add_plain] at k0
      exact ⟨zs, ⟨i2, i3⟩, _, by simpa using k0, i1⟩
    obtain ⟨L, hll, hlz⟩ := choose_list len0 each
    refine ⟨L, ?_, by omega, fun x hx => ?_⟩
    · obtain ⟨_, u, q0, _⟩ := hlz 0 (by omega)
      exact .inr ⟨b, off, cap0, by rw [hll], World.block_lt_of_cell? W _ q0, fun j hj => (hlz j hj).2⟩
    · obtain ⟨i, hi, rfl⟩ := List.mem_iff_getElem.1 hx
      exact (hlz i hi).1
set_option maxRecDepth 20000 in
theorem loads_open {H : Type} {enc : TypeId × Value → H} {base : Nat} {W : World} (s : ByteArray) (hbig : s.size ≤ 281474976710656) (v : Value) (d : DataW H) (pl : List MemPlace) (hok : Value.okWide Tryd.prog W .any base 22 v)
    (h : DataW.Trod enc Tryd.prog W 0 (fun _ => true) true 22 v d pl) (hw : ∀ n ∈ d.weights Tryd.prog 22, n ≤ reachBytes) (W' : World) (hg : Glob W') (hW : W' = W) :
    Calls Tryd.prog 3 #[.string s, v] W' fun e w' => e = .returned (.bool true) ∧ Below W'.heap.size W' w' := by
  subst hW
  obtain ⟨L, h1, h2, h3⟩ := rows_open v d pl hok h hw
  exact loads_walk s hbig v L h2 h3 W' hg h1
end Go.Proofs.YtfeppbiodbhpcaaDoor
