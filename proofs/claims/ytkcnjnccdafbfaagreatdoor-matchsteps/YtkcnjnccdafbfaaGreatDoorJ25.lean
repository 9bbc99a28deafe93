/- Contracts and lemmas (nothing is claimed here). -/
import Derived.Test.YtkcnjnccdafbfaaGreatDoorTTab1
import Derived.Lib.SliceRun
import Derived.Lib.Walk
namespace Go.Proofs.YtkcnjnccdafbfaaGreatDoor
open Go.RowKit Go.Vf Go.Maps
def takeR (E : List Ent) : Option Ent → Int × List Ent
  | none => (60, E)
  | some x => if x.2.all rightB then if hasT E x.1 then (61, E) else if 4096 ≤ E.length then (2, E) else (0, E ++ [x]) else (62, E)
theorem tabL_take (s : List UInt8) (r : List (List UInt8)) (n : Int) (acc : List Ent) (h : silentL s = false) : tabL (s :: r) n acc = if (takeR acc (entR s)).1 = 0 then tabL r (n + 1) (takeR acc (entR s)).2 else .error ((takeR acc (entR s)).1, n + 1) := by
  rw [tabL]
  rw [if_neg (by rw [h]; simp)]
  cases entR s with
  | none => rfl
  | some x =>
    simp only [takeR]
    split
    · split
      · rfl
      · split
        · rfl
        · rfl
    · rfl
set_option maxHeartbeats 2000000 in
set_option maxRecDepth 20000 in
theorem take_any (base T me ml : Nat) (val : List Int → Value) (E : List Ent) (hE : E.length ≤ 4096) (s : ByteArray) (m : Int) (w : World) (hs : s.size ≤ 65536) (hm : w.cell? ⟨0, 0, none⟩ = some (.int .i64 m)) (hbm : base ≤ me) (hbl : base ≤ ml) (ht : TabAt w T me ml val E) :
    Calls Tryz.prog 59 #[.pointer (some ⟨T, 0, none⟩), .string s] w fun e w' => e = .returned (.int .i64 (takeR E (entR s.data.toList)).1) ∧ (∃ val', TabAt w' T me ml val' (takeR E (entR s.data.toList)).2) ∧ Below base w w' ∧ KC w w' := by
  have hre := readEntry_any s m w hs hm
  have hok : ∀ x, entR s.data.toList = some x → rowB x.1 = true ∧ 1 ≤ x.2.length ∧ x.2.length ≤ 16 := fun x hx => entR_ok hx
  have hmw := ht.ents.lt
  have hbw : base ≤ w.heap.size := by omega
  generalize entR s.data.toList = R at hre hok ⊢
  cases R with
  | none =>
    have hR : takeR E none = (60, E) := rfl
    rw [hR]
    clear hR hok
    go_enter Tryz.func59, Tryz.ntmps59
    go_wp2_with fail
    refine hre.mono ?_
    rintro _ w1 ⟨hb1, a0, a1, a2, a3, a4, a5, a6, a7, rfl⟩
    have hb2 := hb1.alloc hb1.size (.cells #[.int .i64 a0, .int .i64 a1, .int .i64 a2, .int .i64 a3, .int .i64 a4, .int .i64 a5, .int .i64 a6, .int .i64 a7] 96)
    have ht2 := ht.below hb2
    go_wp2
    go_ret
    exact ⟨rfl, ⟨val, ht2⟩, hb2.mono hbw, KC.of_below hb2⟩
  | some x =>
    obtain ⟨p, l⟩ := x
    obtain ⟨hp, hl0, hl16⟩ := hok (p, l) rfl
    simp only at hp hl0 hl16
    obtain ⟨a0, a1, a2, a3, a4, a5, a6, a7, hp8⟩ := eight (padL_len (rowB_len hp).2)
    have hrow : rowA (padL p) = .agg #[.int .i64 a0, .int .i64 a1, .int .i64 a2, .int .i64 a3, .int .i64 a4, .int .i64 a5, .int .i64 a6, .int .i64 a7] := by rw [hp8]; rfl
    have hallB : allB l = l.all rightB := by
      unfold allB
      rw [show decide (1 ≤ l.length) = true by simp; omega, show decide (l.length ≤ 16) = true by simp; omega]
      rfl
    have hTR : takeR E (some (p, l)) = if l.all rightB then if hasT E p then (61, E) else if 4096 ≤ E.length then (2, E) else (0, E ++ [(p, l)]) else (62, E) := rfl
    generalize hq : takeR E (some (p, l)) = q at hTR ⊢
    have HTR : Hid (q = if l.all rightB then if hasT E p then (61, E) else if 4096 ≤ E.length then (2, E) else (0, E ++ [(p, l)]) else (62, E)) := hTR
    clear hTR hq hok
    go_enter Tryz.func59, Tryz.ntmps59
    go_wp2_with fail
    refine hre.mono ?_
    rintro _ w1 ⟨hb1, ae, ne, ce, rfl, hown⟩
    simp only [hrow]
    have hb2 := hb1.alloc hb1.size (.cells #[.int .i64 a0, .int .i64 a1, .int .i64 a2, .int .i64 a3, .int .i64 a4, .int .i64 a5, .int .i64 a6, .int .i64 a7] 96)
    have ht2 := ht.below hb2
    have hB2 := Blk.new w1 96 #[.int .i64 a0, .int .i64 a1, .int .i64 a2, .int .i64 a3, .int .i64 a4, .int .i64 a5, .int .i64 a6, .int .i64 a7]
    have hel2 : Els (w1.alloc (.cells #[.int .i64 a0, .int .i64 a1, .int .i64 a2, .int .i64 a3, .int .i64 a4, .int .i64 a5, .int .i64 a6, .int .i64 a7] 96)).heap.size (w1.alloc (.cells #[.int .i64 a0, .int .i64 a1, .int .i64 a2, .int .i64 a3, .int .i64 a4, .int .i64 a5, .int .i64 a6, .int .i64 a7] 96)) (.slice ae ne ce) l := (hown.els.below ((Below.refl w1.heap.size w1).alloc (Nat.le_refl _) _) (Nat.le_refl _)).mono (by simp)
    clear hre ht
    go_upto_region 4 with fail
    generalize hW : (w1.alloc (.cells #[.int .i64 a0, .int .i64 a1, .int .i64 a2, .int .i64 a3, .int .i64 a4, .int .i64 a5, .int .i64 a6, .int .i64 a7] 96)) = W at hb2 ht2 hB2 hel2 ⊢
    clear hW hown hb1
    have har := allRight_any W.heap.size (.slice ae ne ce) l W (Nat.le_refl _) hel2 (by omega)
    rw [hallB] at har
    have hlt2 := hB2.lt
    cases hall : l.all rightB with
    | false =>
      have hQ : q = (62, E) := by rw [HTR.out, hall]; rfl
      rw [hall] at har
      subst hQ
      clear HTR hallB hall
      go_wp2_with fail
      refine har.mono ?_
      rintro _ w3 ⟨rfl, hb3⟩
      have ht3 := ht2.below hb3
      go_wp2
      go_ret
      exact ⟨rfl, ⟨val, ht3⟩, (hb2.trans (hb3.mono hb2.size)).mono hbw, KC.of_below (hb2.trans (hb3.mono hb2.size))⟩
    | true =>
      rw [hall] at har
      have hTR2 : q = if hasT E p then (61, E) else if 4096 ≤ E.length then (2, E) else (0, E ++ [(p, l)]) := by rw [HTR.out, hall]; rfl
      have hx : EntOk (p, l) := ⟨hp, hl0, hl16, hall⟩
      have HX : Hid (EntOk (p, l)) := hx
      have HTR2 : Hid (q = if hasT E p then (61, E) else if 4096 ≤ E.length then (2, E) else (0, E ++ [(p, l)])) := hTR2
      clear HTR hallB hall hTR2 hx
      go_wp2_with fail
      refine har.mono ?_
      rintro _ w3 ⟨rfl, hb3⟩
      have ht3 := ht2.below hb3
      have hel3 := (hel2.below hb3 (Nat.le_refl _)).mono hb3.size
      have hB3 := hB2.below hb3 hlt2
      have hbw3 := (hb2.trans (hb3.mono hb2.size)).mono hbw
      have hkc3 : KC w w3.drew := KC.of_below (hb2.trans (hb3.mono hb2.size)).drew
      have HKC : Hid (KC w w3.drew) := hkc3
      clear hkc3
      have hlk := (show MapR w3.drew me E.length (entF val E) from ht3.ents.block rfl).look_ok (zero35 _) (row_in hp)
      rw [hrow] at hlk
      have hef : entF val E (padL p) = if hasT E p then some (val (padL p)) else none := by unfold entF; rw [entF_find ht3.ok hp]
      rw [hef] at hlk
      have t0 : w3.cell? ⟨T, 0, none⟩ = some (.map (some me)) := ht3.blk.cell 0
      obtain ⟨c0, c1, c2, c3, c4, c5, c6, c7, _⟩ := hB3.c8
      clear hb3 hel2 hB2 ht2 hb2 har
      go_upto_region 6 with fail
      cases hh : hasT E p with
      | true =>
        have hQ : q = (61, E) := by rw [HTR2.out, hh]; rfl
        rw [hh] at hlk
        simp only [if_true, Option.getD, Option.isSome] at hlk
        generalize val (padL p) = vv at hlk
        subst hQ
        have ht4 : TabAt w3.drew T me ml val E := ⟨ht3.blk, ht3.ents.block rfl, ht3.longs.block rfl, ht3.ne, ht3.els, ht3.ok⟩
        clear HTR2 hh hef ht3
        go_region
        go_wp2
        go_ret
        exact ⟨rfl, ⟨val, ht4⟩, hbw3.drew, HKC.out⟩
      | false =>
        have hTR3 : q = if 4096 ≤ E.length then (2, E) else (0, E ++ [(p, l)]) := by rw [HTR2.out, hh]; rfl
        have HTR3 : Hid (q = if 4096 ≤ E.length then (2, E) else (0, E ++ [(p, l)])) := hTR3
        have HH : Hid (hasT E p = false) := hh
        rw [hh] at hlk
        simp only [Bool.false_eq_true, if_false, Option.getD, Option.isSome] at hlk
        clear HTR2 hh hef hTR3
        have ht4 : TabAt w3.drew T me ml val E := ⟨ht3.blk, ht3.ents.block rfl, ht3.longs.block rfl, ht3.ne, ht3.els, ht3.ok⟩
        have hel4 : Els w3.drew.heap.size w3.drew (.slice ae ne ce) l := hel3
        have hbw4 : Below base w w3.drew := hbw3.drew
        have hB4 : Blk w3.drew w1.heap.size 96 #[.int .i64 a0, .int .i64 a1, .int .i64 a2, .int .i64 a3, .int .i64 a4, .int .i64 a5, .int .i64 a6, .int .i64 a7] := hB3
        go_region
        go_upto_region 9 with fail
        clear hlk t0 c0 c1 c2 c3 c4 c5 c6 c7 hB3 hbw3 hel3 ht3
        generalize w3.drew = W4 at ht4 hel4 hbw4 hB4 HKC ⊢
        have t0 : W4.cell? ⟨T, 0, none⟩ = some (.map (some me)) := ht4.blk.cell 0
        obtain ⟨c0, c1, c2, c3, c4, c5, c6, c7, _⟩ := hB4.c8
        have hlen := fun ty => ht4.ents.len ty
        by_cases hbig : 4096 ≤ E.length
        · have hQ : q = (2, E) := by rw [HTR3.out, if_pos hbig]
          subst hQ
          go_wp2
          go_ret
          exact ⟨rfl, ⟨val, ht4⟩, hbw4, HKC.out⟩
        · have hQ : q = (0, E ++ [(p, l)]) := by rw [HTR3.out, if_neg hbig]
          subst hQ
          have hadd := add_any base T me ml val E p l HX.out HH.out (by omega) a0 a1 a2 a3 a4 a5 a6 a7 hp8 ae ne ce W4 hbm hbl ht4 hel4
          clear hp8 hrow
          go_wp2_with fail
          refine hadd.mono ?_
          rintro _ w5 ⟨rfl, ht5, hb5, hk5⟩
          go_wp2
          go_ret
          exact ⟨rfl, ht5, hbw4.trans hb5, HKC.out.trans hk5⟩
def LoadPost6 (r : Except (Int × Int) (List Ent)) (w : World) (e : Ending) (w' : World) : Prop :=
  Below w.heap.size w w' ∧ match r with
    | .error (why, line) => e = .returned (.tuple #[.pointer none, .int .i64 why, .int .i64 line])
    | .ok E => ∃ T me ml val, e = .returned (.tuple #[.pointer (some ⟨T, 0, none⟩), .int .i64 0, .int .i64 0]) ∧ TabAt w' T me ml val E
theorem results7_run {tmps : Array Value} {w : World} {a b c : Value} (t2 : tmps[2]?.getD undef = a) (t3 : tmps[3]?.getD undef = b) (t4 : tmps[4]?.getD undef = c) : (results Tryz.f23 tmps).run Tryz.prog w = .ok (.tuple #[a, b, c]) w := by
  simp [results, Tryz.results23, go_sem, t2, t3, t4]
theorem entF_nil (val : List Int → Value) : entF val [] = fun _ => none := by funext l; simp [entF]
theorem longF_nil : longF [] = fun _ => none := by funext x; simp [longF, longT]
theorem takeR_len (E : List Ent) (o : Option Ent) (h : E.length ≤ 4096) : (takeR E o).2.length ≤ 4096 := by
  unfold takeR
  split
  · exact h
  · split
    · split
      · exact h
      · split
        · exact h
        · simp; omega
    · exact h
theorem tab_new (w : World) : TabAt (((w.alloc (.map #[] 0)).alloc (.map #[] 0)).alloc (.cells #[.map (some w.heap.size), .map (some (w.heap.size + 1))] 103)) (w.heap.size + 1 + 1) w.heap.size (w.heap.size + 1) (fun _ => .slice none 0 0) [] := by
  have h1 := MapR.made w
  have h2 := MapAt.made (w.alloc (.map #[] 0))
  have h3 := Blk.new ((w.alloc (.map #[] 0)).alloc (.map #[] 0)) 103 #[.map (some w.heap.size), .map (some (w.heap.size + 1))]
  rw [show (w.alloc (.map #[] 0)).heap.size = w.heap.size + 1 by simp] at h2
  rw [show ((w.alloc (.map #[] 0)).alloc (.map #[] 0)).heap.size = w.heap.size + 1 + 1 by simp] at h3
  refine ⟨h3, ?_, ?_, by omega, by simp, by simp⟩
  · rw [entF_nil]
    exact (h1.block (w' := (w.alloc (.map #[] 0)).alloc (.map #[] 0)) (Below.heap_alloc _ _ _ (by simp))).block (Below.heap_alloc _ _ _ (by simp; omega))
  · rw [longF_nil]
    exact h2.alloc _
set_option maxHeartbeats 2000000 in
set_option maxRecDepth 20000 in
theorem load_any6 (s : ByteArray) (m : Int) (w : World) (hm : w.cell? ⟨0, 0, none⟩ = some (.int .i64 m)) (hbig : s.size ≤ 281474976710656) :
    Calls Tryz.prog 23 #[.string s] w fun e w' => LoadPost6 (loadT s.data.toList) w e w' := by
  have hmm := @run_makeMap Tryz.prog
  have hsl : s.data.toList.length = s.size := (Lib.size_eq s).symm
  have hlt0 : 0 < w.heap.size := World.block_lt_of_cell? w _ hm
  by_cases hlong : 65536 < s.size
  · have hR : loadT s.data.toList = .error (2, 0) := by unfold loadT; rw [if_pos (by omega)]
    rw [hR]
    clear hR
    go_enter Tryz.func23, Tryz.ntmps23
    go_wp2_with fail
    refine bodyPost_ret (results7_run rfl rfl rfl) rfl ?_
    exact ⟨Below.refl _ _, rfl⟩
  · have hs : s.size ≤ 65536 := by omega
    have hR : loadT s.data.toList = tabL (cutL 10 s.data.toList) 0 [] := by unfold loadT; rw [if_neg (by omega)]
    have hcs := cutL_sizes 10 s.data.toList
    have hcl := cutL_len_le 10 s.data.toList
    have hsp := fun (W : World) => split_any 10 s m W hs
    rw [hR]
    generalize cutL 10 s.data.toList = C at hcs hcl hsp
    generalize hQ : tabL C 0 [] = R
    have HR : Hid (tabL C 0 [] = R) := hQ
    clear hR hQ
    have htn := tab_new w
    have hbn : Below w.heap.size w (((w.alloc (.map #[] 0)).alloc (.map #[] 0)).alloc (.cells #[.map (some w.heap.size), .map (some (w.heap.size + 1))] 103)) := (((Below.refl w.heap.size w).alloc (Nat.le_refl _) _).alloc (by simp) _).alloc (by simp; omega) _
    have hm1 := (hbn.cell (p := ⟨0, 0, none⟩) hlt0).trans hm
    go_enter Tryz.func23, Tryz.ntmps23
    go_upto_region 4 with fail
    generalize ((w.alloc (.map #[] 0)).alloc (.map #[] 0)).alloc (.cells #[.map (some w.heap.size), .map (some (w.heap.size + 1))] 103) = W at htn hbn hm1 ⊢
    have HBm : Hid (w.heap.size ≤ w.heap.size + 1) := Nat.le_succ _
    generalize hml : w.heap.size + 1 = ml at htn HBm
    generalize hT : ml + 1 = T at htn
    try rw [hml]
    try rw [hT]
    clear hml hT
    go_wp2_with fail
    refine (hsp W hm1).mono ?_
    rintro _ w1 ⟨rfl, hst, hb1, hsz1⟩
    have ht1 := htn.below hb1
    have hbw1 : Below w.heap.size w w1 := hbn.trans (hb1.mono hbn.size)
    have hlt1 : W.heap.size < w1.heap.size := by omega
    clear hsz1 hb1 htn hsp hbn hm1
    go_wp2_with fail
    go_loopw [19] (fun i wr => ∃ (k : Nat) (acc : List Ent) (val : List Int → Value), k ≤ C.length ∧ i = .int .i64 k ∧ TabAt wr T w.heap.size ml val acc ∧ acc.length ≤ 4096 ∧ Hid (tabL (C.drop k) (k : Int) acc = R) ∧ Strs wr W.heap.size C ∧ Below w.heap.size w wr) (fun i _ => C.length - (intOf i).toNat)
    case atStart => exact ⟨0, [], _, by omega, rfl, ht1, by simp, HR, hst, hbw1⟩
    case round =>
      clear HR ht1 hst hbw1
      obtain ⟨k, acc, val, hk, rfl, htk, hacc, HK, hstk, hbel⟩ := hrel
      by_cases hlt : k < C.length
      · have hd : C.drop k = C[k] :: C.drop (k + 1) := List.drop_eq_getElem_cons hlt
        have hck := hstk.cell hlt
        have hkl := hcs C[k] (List.getElem_mem hlt)
        have hszk : (bsz C[k]).size ≤ 65536 := by simp [ByteArray.size]; omega
        have hdat : C[k] = (bsz C[k]).data.toList := by simp
        generalize bsz C[k] = t at hck hszk hdat
        rw [hdat] at hd
        cases hsil : silentL t.data.toList with
        | true =>
          have HK2 : Hid (tabL (C.drop (k + 1)) ((k : Int) + 1) acc = R) := by show _ = _; rw [← HK.out, hd, tabL, if_pos hsil]
          clear HK hd hdat
          by_cases hemp : t.data.toList = []
          · have hemp' : t.toList.isEmpty = true := by rw [ByteArray.toList_eq]; simpa using hemp
            clear hsil hemp
            go_wp2_with fail
            go_roundw
            case rel => exact ⟨k + 1, acc, val, by omega, by simp, htk, hacc, by simpa using HK2, hstk, hbel⟩
            case measure => simp only [intOf]; omega
          · have hemp' : t.toList.isEmpty = false := by rw [ByteArray.toList_eq]; simpa using hemp
            have hpos : 0 < t.size := by rw [Lib.size_eq]; exact List.length_pos_iff.2 hemp
            have he' : (t[0].toNat : Int) = 35 := by
              unfold silentL at hsil
              rw [head_at t hpos] at hsil
              have hne : t.data.toList.isEmpty = false := by simpa using hemp
              rw [hne] at hsil
              simp at hsil
              rw [hsil]; rfl
            have he : ((t[0].toNat : Int) == 35) = true := by simpa using he'
            clear hsil hemp
            go_wp2_with fail
            go_roundw
            case rel => exact ⟨k + 1, acc, val, by omega, by simp, htk, hacc, by simpa using HK2, hstk, hbel⟩
            case measure => simp only [intOf]; omega
        | false =>
          have hemp : t.data.toList ≠ [] := fun e => by simp [silentL, e] at hsil
          have hemp' : t.toList.isEmpty = false := by rw [ByteArray.toList_eq]; simpa using hemp
          have hpos : 0 < t.size := by rw [Lib.size_eq]; exact List.length_pos_iff.2 hemp
          have he' : ¬ (t[0].toNat : Int) = 35 := by
            unfold silentL at hsil
            rw [head_at t hpos] at hsil
            have hne : t.data.toList.isEmpty = false := by simpa using hemp
            rw [hne] at hsil
            simp at hsil
            intro e
            exact hsil (UInt8.toNat_inj.1 (by have : t[0].toNat = 35 := by omega
                                              simpa using this))
          have he : ((t[0].toNat : Int) == 35) = false := by simpa using he'
          have HK1 : Hid (R = if (takeR acc (entR t.data.toList)).1 = 0 then tabL (C.drop (k + 1)) ((k : Int) + 1) (takeR acc (entR t.data.toList)).2 else .error ((takeR acc (entR t.data.toList)).1, (k : Int) + 1)) := by show _ = _; rw [← HK.out, hd, tabL_take _ _ _ _ hsil]
          have hmw := (hbel.cell (p := ⟨0, 0, none⟩) hlt0).trans hm
          have htk2 := take_any w.heap.size T w.heap.size ml val acc hacc t m wr hszk hmw (Nat.le_refl _) HBm.out htk
          have hac2 := takeR_len acc (entR t.data.toList) hacc
          generalize takeR acc (entR t.data.toList) = q at HK1 htk2 hac2
          obtain ⟨q1, q2⟩ := q
          simp only at HK1 htk2 hac2
          clear HK hd hsil hemp hdat he' htk
          go_wp2_with fail
          refine htk2.mono ?_
          rintro _ w2 ⟨rfl, ⟨val', ht2⟩, hb2, hk2⟩
          have hst2 : Strs w2 W.heap.size C := hk2 _ _ _ hstk
          have hbel2 := hbel.trans hb2
          by_cases h0 : q1 = 0
          · have HK2 : Hid (tabL (C.drop (k + 1)) ((k : Int) + 1) q2 = R) := by show _ = _; rw [HK1.out, if_pos h0]
            have b0 : (q1 != 0) = false := by rw [h0]; rfl
            clear HK1 h0
            go_wp2_with fail
            go_roundw
            case rel => exact ⟨k + 1, q2, val', by omega, by simp, ht2, hac2, by simpa using HK2, hst2, hbel2⟩
            case measure => simp only [intOf]; omega
          · have hRe : R = .error (q1, (k : Int) + 1) := by rw [HK1.out, if_neg h0]
            have b0 : (q1 != 0) = true := by rw [bne_iff_ne]; exact h0
            clear HK1 h0
            go_wp2_with fail
            refine bodyPost_ret (results7_run rfl rfl rfl) rfl ?_
            exact ⟨hbel2, by rw [hRe]; rfl⟩
      · have hRs : R = .ok acc := by rw [← HK.out, List.drop_of_length_le (by omega)]; rfl
        clear HK
        go_wp2_with fail
        refine bodyPost_ret (results7_run rfl rfl rfl) rfl ?_
        exact ⟨hbel, by rw [hRs]; exact ⟨T, _, _, _, rfl, htk⟩⟩
theorem els_flat {n₀ : Nat} {w : World} {b off n c : Nat} {l : List El} (h : Els n₀ w (.slice (some ⟨b, off, none⟩) n c) l) (j : Nat) (u : Value) (hu : (elsV l)[j]? = some u) : w.cell? ⟨b, off + j, none⟩ = some u := by
  have hj : j < (elsV l).length := (List.getElem?_eq_some_iff.1 hu).1
  rw [elsV_len] at hj
  have hq : j / 4 < l.length := by omega
  rcases h with ⟨a, cap, e, rfl⟩ | ⟨b', off', cap, e, hlt, hc⟩
  · simp at hq
  · cases e
    obtain ⟨h0, h1, h2, h3⟩ := hc (j / 4) hq
    obtain ⟨g0, g1, g2, g3⟩ := elsV_at l (j / 4) hq
    have hm : j % 4 = 0 ∨ j % 4 = 1 ∨ j % 4 = 2 ∨ j % 4 = 3 := by omega
    rcases hm with hm | hm | hm | hm
    · have e1 : j = j / 4 * 4 := by omega
      rw [e1] at hu
      rw [show off + j = off + j / 4 * 4 by omega, h0, ← hu, g0]
    · have e1 : j = j / 4 * 4 + 1 := by omega
      rw [e1] at hu
      rw [show off + j = off + j / 4 * 4 + 1 by omega, h1, ← hu, g1]
    · have e1 : j = j / 4 * 4 + 2 := by omega
      rw [e1] at hu
      rw [show off + j = off + j / 4 * 4 + 2 by omega, h2, ← hu, g2]
    · have e1 : j = j / 4 * 4 + 3 := by omega
      rw [e1] at hu
      rw [show off + j = off + j / 4 * 4 + 3 by omega, h3, ← hu, g3]
theorem elsV_one (l : List El) : ∀ u ∈ elsV l, u.oneCell' = true := by
  intro u hu
  unfold elsV at hu
  obtain ⟨e, _, he⟩ := List.mem_flatMap.1 hu
  simp [elV] at he
  rcases he with rfl | rfl | rfl | rfl <;> rfl
set_option maxHeartbeats 2000000 in
set_option maxRecDepth 100000 in
theorem cloneE_any (n₀ b off c : Nat) (l : List El) (w : World) (hl : l.length ≤ 1048576) (h : Els n₀ w (.slice (some ⟨b, off, none⟩) l.length c) l) :
    Calls Tryz.prog 46 #[.slice (some ⟨b, off, none⟩) l.length c] w fun e w' => ∃ v', e = .returned v' ∧ EOwn w' w.heap.size v' l ∧ Below w.heap.size w w' := by
  obtain ⟨i0, hi, hz0, hz1, hz2⟩ := info_parts info49
  have A : Aside (∀ j u, (elsV l)[j]? = some u → w.cell? ⟨b, off + j, none⟩ = some u) := els_flat h
  clear h
  have q35 : ∀ (w : World) (a : Option Addr) (n c n' c' : Nat), (binOp .eql 43 (.slice a n c) (.slice none n' c')).run Tryz.prog w = .ok (.bool a.isNone) w := fun w a n c n' c' => Lib.run_eql_slice_nil w _ _ a n c n' c' Tryz.underlying43
  have u35 : ∀ w, Sem.run Tryz.prog (underlying 43) w = .ok (TypeDesc.slice 54) w := run_underlying Tryz.underlying43
  go_enter Tryz.func46, Tryz.ntmps46
  go_wp2_with (at_builtin; refine wpList_append_own _ rfl _ _ 43 rfl w.heap.size 54 i0 _ 4 32 Tryz.underlying43 hi hz0 hz1 hz2 rfl (by decide) _ _ _ rfl (World.ownsRow_made w #[] 0 (Nat.le_refl _) (Nat.zero_le _) rfl) ⟨b, off, none⟩ l.length c (elsV l) rfl ?qc1 ?qc2 ?qc3 ?qc4 ?qc5 ?qc6 ?_)
  case qc1 => simp [elsV_len]
  case qc2 =>
    intro j u hj
    rw [Addr.add_lit]
    exact Lib.cell?_alloc_some _ (A.out j u hj)
  case qc3 => exact elsV_one l
  case qc4 => unfold maxLen; omega
  case qc5 => omega
  case qc6 => simp
  intro v' w1 hown hgrow hnil
  go_wp2
  go_ret
  refine ⟨v', rfl, by simpa [EOwn] using hown, ?_⟩
  exact ((Below.refl _ w).alloc (Nat.le_refl _) _).grown hgrow (by simp) (by intro k hk; simp [Value.ownBlock] at hk; omega)
set_option maxHeartbeats 1000000 in
set_option maxRecDepth 100000 in
theorem cloneE_nil (w : World) : Calls Tryz.prog 46 #[.slice none 0 0] w fun e w' => e = .returned (.slice none 0 0) ∧ w' = w := by
  have q35 : ∀ (w : World) (a : Option Addr) (n c n' c' : Nat), (binOp .eql 43 (.slice a n c) (.slice none n' c')).run Tryz.prog w = .ok (.bool a.isNone) w := fun w a n c n' c' => Lib.run_eql_slice_nil w _ _ a n c n' c' Tryz.underlying43
  have u35 : ∀ w, Sem.run Tryz.prog (underlying 43) w = .ok (TypeDesc.slice 54) w := run_underlying Tryz.underlying43
  go_enter Tryz.func46, Tryz.ntmps46
  go_wp2
  go_ret
  exact ⟨rfl, rfl⟩
def FindPost (w : World) (r : Option (List El)) (e : Ending) (w' : World) : Prop :=
  Below w.heap.size w w' ∧ match r with
    | none => e = .returned (.tuple #[.slice none 0 0, .bool false])
    | some l => ∃ a n c, e = .returned (.tuple #[.slice a n c, .bool true]) ∧ EOwn w' w.heap.size (.slice a n c) l
theorem findT_row {E : List Ent} (hok : ∀ e ∈ E, EntOk e) {p : List Int} (hp : rowB p = false) : findT E p = none := by
  unfold findT
  rw [Option.map_eq_none_iff, List.find?_eq_none]
  intro e he h
  have := (hok e he).row
  rw [beq_iff_eq.1 h, hp] at this
  cases this
theorem findT_some {E : List Ent} {p : List Int} {l : List El} (h : findT E p = some l) : (p, l) ∈ E := by
  unfold findT at h
  obtain ⟨e, he, rfl⟩ := Option.map_eq_some_iff.1 h
  have h1 := List.mem_of_find?_eq_some he
  have h2 := List.find?_some he
  rw [beq_iff_eq] at h2
  obtain ⟨a, b⟩ := e
  simp only at h2
  subst h2
  exact h1
set_option maxHeartbeats 2000000 in
set_option maxRecDepth 20000 in
theorem find_any (T me ml n₀ : Nat) (val : List Int → Value) (E : List Ent) (v : Value) (zs : List Int) (w : World) (ht : TabAt w T me ml val E) (hn₀ : n₀ ≤ w.heap.size) (hin : Ints n₀ w v zs) (hll : zs.length ≤ 4611686018427387904) :
    Calls Tryz.prog 20 #[.pointer (some ⟨T, 0, none⟩), v] w fun e w' => FindPost w (findT E zs) e w' := by
  obtain ⟨a, cap, hv⟩ : ∃ a cap, v = .slice a zs.length cap := by
    rcases hin with ⟨a, cap, rfl, rfl⟩ | ⟨b, off, cap, rfl, _⟩
    · exact ⟨_, _, rfl⟩
    · exact ⟨_, _, rfl⟩
  subst hv
  have hro := rowOf_any n₀ _ zs w hn₀ hin hll
  unfold gotR at hro
  cases hp : rowB zs with
  | false =>
    rw [hp] at hro
    rw [findT_row ht.ok hp]
    simp only [Bool.false_eq_true, if_false] at hro
    rw [show rowA zero8 = .agg #[.int .i64 0, .int .i64 0, .int .i64 0, .int .i64 0, .int .i64 0, .int .i64 0, .int .i64 0, .int .i64 0] from rfl] at hro
    clear hin hp
    go_enter Tryz.func20, Tryz.ntmps20
    go_wp2_with fail
    refine hro.mono ?_
    rintro _ w1 ⟨rfl, hb1⟩
    have hb2 := hb1.alloc hb1.size (.cells #[.int .i64 0, .int .i64 0, .int .i64 0, .int .i64 0, .int .i64 0, .int .i64 0, .int .i64 0, .int .i64 0] 96)
    go_wp2
    go_ret2
    exact ⟨hb2, rfl⟩
  | true =>
    rw [hp] at hro
    simp only [if_true] at hro
    obtain ⟨a0, a1, a2, a3, a4, a5, a6, a7, hp8⟩ := eight (padL_len (rowB_len hp).2)
    have hrow : rowA (padL zs) = .agg #[.int .i64 a0, .int .i64 a1, .int .i64 a2, .int .i64 a3, .int .i64 a4, .int .i64 a5, .int .i64 a6, .int .i64 a7] := by rw [hp8]; rfl
    rw [hrow] at hro
    have hfs : ∀ l, findT E zs = some l → (zs, l) ∈ E := fun l h => findT_some h
    have hhf := hasT_find E zs
    generalize findT E zs = R at hfs hhf ⊢
    clear hin hp8
    go_enter Tryz.func20, Tryz.ntmps20
    go_wp2_with fail
    refine hro.mono ?_
    rintro _ w1 ⟨rfl, hb1⟩
    have hb2 := hb1.alloc hb1.size (.cells #[.int .i64 a0, .int .i64 a1, .int .i64 a2, .int .i64 a3, .int .i64 a4, .int .i64 a5, .int .i64 a6, .int .i64 a7] 96)
    have ht2 := ht.below hb2
    have hB2 := Blk.new w1 96 #[.int .i64 a0, .int .i64 a1, .int .i64 a2, .int .i64 a3, .int .i64 a4, .int .i64 a5, .int .i64 a6, .int .i64 a7]
    go_upto_region 6 with fail
    generalize (w1.alloc (.cells #[.int .i64 a0, .int .i64 a1, .int .i64 a2, .int .i64 a3, .int .i64 a4, .int .i64 a5, .int .i64 a6, .int .i64 a7] 96)) = W at hb2 ht2 hB2 ⊢
    have hlk := (show MapR W.drew me E.length (entF val E) from ht2.ents.block rfl).look_ok (zero35 _) (row_in hp)
    rw [hrow] at hlk
    have hef : entF val E (padL zs) = if hasT E zs then some (val (padL zs)) else none := by unfold entF; rw [entF_find ht2.ok hp]
    rw [hef, hhf] at hlk
    have t0 : W.cell? ⟨T, 0, none⟩ = some (.map (some me)) := ht2.blk.cell 0
    obtain ⟨c0, c1, c2, c3, c4, c5, c6, c7, _⟩ := hB2.c8
    clear hef hhf hrow hro
    cases R with
    | none =>
      simp only [Option.isSome, Bool.false_eq_true, if_false, Option.getD] at hlk
      go_region
      go_wp2_with fail
      refine (cloneE_nil _).mono ?_
      rintro _ w3 ⟨rfl, rfl⟩
      go_wp2
      go_ret2
      exact ⟨hb2.drew, rfl⟩
    | some l =>
      simp only [Option.isSome, if_true, Option.getD] at hlk
      have hmem := hfs l rfl
      have hel := ht2.els (zs, l) hmem
      have hok := ht2.ok (zs, l) hmem
      simp only at hel
      have hl0 : 1 ≤ l.length := hok.n0
      have hl1 : l.length ≤ 16 := hok.n1
      generalize val (padL zs) = vv at hlk hel
      obtain ⟨b, off, cv, rfl⟩ : ∃ b off cv, vv = .slice (some ⟨b, off, none⟩) l.length cv := by
        rcases hel with ⟨_, _, _, rfl⟩ | ⟨b, off, cv, rfl, _⟩
        · simp at hl0
        · exact ⟨b, off, cv, rfl⟩
      have hcl := cloneE_any W.heap.size b off cv l W.drew (by omega) hel
      have hlw : w.heap.size ≤ W.heap.size := hb2.size
      clear hfs hmem hel hok ht2 hB2
      go_region
      go_wp2_with fail
      refine hcl.mono ?_
      rintro _ w3 ⟨v', rfl, hown, hb3⟩
      obtain ⟨av, cv', rfl⟩ := row_val hown
      have hbz : Below w.heap.size w w3 := hb2.trans ((show Below W.heap.size W w3 from ((Below.refl _ W).drew).trans hb3).mono hlw)
      go_wp2
      go_ret2
      exact ⟨hbz, _, _, _, rfl, ownsRow_mono hown hlw⟩
set_option maxHeartbeats 1000000 in
theorem longest_any (T me ml : Nat) (val : List Int → Value) (E : List Ent) (x : Int) (hx : InI x) (w : World) (ht : TabAt w T me ml val E) :
    Calls Tryz.prog 101 #[.pointer (some ⟨T, 0, none⟩), .int .i64 x] w fun e w' => e = .returned (.int .i64 (longT E x : Int)) ∧ w = w' := by
  have t1 : w.cell? ⟨T, 1, none⟩ = some (.map (some ml)) := ht.blk.cell 1
  have hl := ht.longs.look Tryz.underlying101 (zero57 w) hx
  rw [longF_get] at hl
  generalize longT E x = L at hl ⊢
  go_enter Tryz.func101, Tryz.ntmps101
  go_wp2
  go_ret
  exact ⟨rfl, rfl⟩
end Go.Proofs.YtkcnjnccdafbfaaGreatDoor
