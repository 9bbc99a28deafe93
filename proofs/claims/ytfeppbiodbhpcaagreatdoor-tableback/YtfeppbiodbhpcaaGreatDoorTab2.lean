/- What table's take does (a contract; nothing is claimed here). -/
import Derived.Test.YtfeppbiodbhpcaaGreatDoorTab1
namespace Go.Proofs.YtfeppbiodbhpcaaGreatDoor
open Go.RowKit Go.Vf Go.Maps

def takeR (E : List Ent) : Option Ent → Int × List Ent
  | none => (60, E)
  | some x => if x.2.all rightB then if hasT E x.1 then (61, E) else if 4096 ≤ E.length then (2, E) else (0, E ++ [x]) else (62, E)
theorem tabL_take (s : List UInt8) (r : List (List UInt8)) (n : Int) (acc : List Ent) (h : silentL s = false) : tabL (s :: r) n acc = if (takeR acc (entR s)).1 = 0 then tabL r (n + 1) (takeR acc (entR s)).2 else .error ((takeR acc (entR s)).1, n + 1) := by
  rw [tabL]
  rw [if_neg (by rw [h]; simp)]
  cases entR s with
  | none => rfl
  | some x =>
    simp only [takeR]
    split
    · split
      · rfl
      · split
        · rfl
        · rfl
    · rfl
theorem pre_base {base : Nat} {w w1 : World} (hb : base ≤ w.heap.size) (h : Below w.heap.size w w1) : Below base w w1 := h.mono hb

set_option maxHeartbeats 2000000 in
set_option maxRecDepth 20000 in
theorem take_any (base T me ml : Nat) (val : List Int → Value) (E : List Ent) (hE : E.length ≤ 4096) (s : ByteArray) (m : Int) (w : World) (hs : s.size ≤ 65536) (hm : w.cell? ⟨0, 0, none⟩ = some (.int .i64 m)) (hbm : base ≤ me) (hbl : base ≤ ml) (ht : TabAt w T me ml val E) :
    Calls Tryz.prog 16 #[.pointer (some ⟨T, 0, none⟩), .string s] w fun e w' => e = .returned (.int .i64 (takeR E (entR s.data.toList)).1) ∧ (∃ val', TabAt w' T me ml val' (takeR E (entR s.data.toList)).2) ∧ Below base w w' ∧ KC w w' := by
  have hre := readEntry_any s m w hs hm
  have hok : ∀ x, entR s.data.toList = some x → rowB x.1 = true ∧ 1 ≤ x.2.length ∧ x.2.length ≤ 16 := fun x hx => entR_ok hx
  have hmw := ht.ents.lt
  have hbw : base ≤ w.heap.size := by omega
  generalize entR s.data.toList = R at hre hok ⊢
  cases R with
  | none =>
    have hR : takeR E none = (60, E) := rfl
    rw [hR]
    clear hR hok
    go_enter Tryz.func16, Tryz.ntmps16
    go_wp2_with fail
    refine hre.mono ?_
    rintro _ w1 ⟨hb1, a0, a1, a2, a3, a4, a5, a6, a7, rfl⟩
    have hb2 := hb1.alloc hb1.size (.cells #[.int .i64 a0, .int .i64 a1, .int .i64 a2, .int .i64 a3, .int .i64 a4, .int .i64 a5, .int .i64 a6, .int .i64 a7] 56)
    have ht2 := ht.below hb2
    go_wp2
    go_ret
    exact ⟨rfl, ⟨val, ht2⟩, hb2.mono hbw, KC.of_below hb2⟩
  | some x =>
    obtain ⟨p, l⟩ := x
    obtain ⟨hp, hl0, hl16⟩ := hok (p, l) rfl
    simp only at hp hl0 hl16
    obtain ⟨a0, a1, a2, a3, a4, a5, a6, a7, hp8⟩ := eight (padL_len (rowB_len hp).2)
    have hrow : rowA (padL p) = .agg #[.int .i64 a0, .int .i64 a1, .int .i64 a2, .int .i64 a3, .int .i64 a4, .int .i64 a5, .int .i64 a6, .int .i64 a7] := by rw [hp8]; rfl
    have hallB : allB l = l.all rightB := by
      unfold allB
      rw [show decide (1 ≤ l.length) = true by simp; omega, show decide (l.length ≤ 16) = true by simp; omega]
      rfl
    have hTR : takeR E (some (p, l)) = if l.all rightB then if hasT E p then (61, E) else if 4096 ≤ E.length then (2, E) else (0, E ++ [(p, l)]) else (62, E) := rfl
    generalize hq : takeR E (some (p, l)) = q at hTR ⊢
    have HTR : Hid (q = if l.all rightB then if hasT E p then (61, E) else if 4096 ≤ E.length then (2, E) else (0, E ++ [(p, l)]) else (62, E)) := hTR
    clear hTR hq hok
    go_enter Tryz.func16, Tryz.ntmps16
    go_wp2_with fail
    refine hre.mono ?_
    rintro _ w1 ⟨hb1, ae, ne, ce, rfl, hown⟩
    simp only [hrow]
    have hb2 := hb1.alloc hb1.size (.cells #[.int .i64 a0, .int .i64 a1, .int .i64 a2, .int .i64 a3, .int .i64 a4, .int .i64 a5, .int .i64 a6, .int .i64 a7] 56)
    have ht2 := ht.below hb2
    have hB2 := Blk.new w1 56 #[.int .i64 a0, .int .i64 a1, .int .i64 a2, .int .i64 a3, .int .i64 a4, .int .i64 a5, .int .i64 a6, .int .i64 a7]
    have hel2 : Els (w1.alloc (.cells #[.int .i64 a0, .int .i64 a1, .int .i64 a2, .int .i64 a3, .int .i64 a4, .int .i64 a5, .int .i64 a6, .int .i64 a7] 56)).heap.size (w1.alloc (.cells #[.int .i64 a0, .int .i64 a1, .int .i64 a2, .int .i64 a3, .int .i64 a4, .int .i64 a5, .int .i64 a6, .int .i64 a7] 56)) (.slice ae ne ce) l := (hown.els.below ((Below.refl w1.heap.size w1).alloc (Nat.le_refl _) _) (Nat.le_refl _)).mono (by simp)
    clear hre ht
    go_upto_region 4 with fail
    generalize hW : (w1.alloc (.cells #[.int .i64 a0, .int .i64 a1, .int .i64 a2, .int .i64 a3, .int .i64 a4, .int .i64 a5, .int .i64 a6, .int .i64 a7] 56)) = W at hb2 ht2 hB2 hel2 ⊢
    clear hW hown hb1
    have har := allRight_any W.heap.size (.slice ae ne ce) l W (Nat.le_refl _) hel2 (by omega)
    rw [hallB] at har
    have hlt2 := hB2.lt
    cases hall : l.all rightB with
    | false =>
      have hQ : q = (62, E) := by rw [HTR.out, hall]; rfl
      rw [hall] at har
      subst hQ
      clear HTR hallB hall
      go_wp2_with fail
      refine har.mono ?_
      rintro _ w3 ⟨rfl, hb3⟩
      have ht3 := ht2.below hb3
      go_wp2
      go_ret
      exact ⟨rfl, ⟨val, ht3⟩, (hb2.trans (hb3.mono hb2.size)).mono hbw, KC.of_below (hb2.trans (hb3.mono hb2.size))⟩
    | true =>
      rw [hall] at har
      have hTR2 : q = if hasT E p then (61, E) else if 4096 ≤ E.length then (2, E) else (0, E ++ [(p, l)]) := by rw [HTR.out, hall]; rfl
      have hx : EntOk (p, l) := ⟨hp, hl0, hl16, hall⟩
      have HX : Hid (EntOk (p, l)) := hx
      have HTR2 : Hid (q = if hasT E p then (61, E) else if 4096 ≤ E.length then (2, E) else (0, E ++ [(p, l)])) := hTR2
      clear HTR hallB hall hTR2 hx
      go_wp2_with fail
      refine har.mono ?_
      rintro _ w3 ⟨rfl, hb3⟩
      have ht3 := ht2.below hb3
      have hel3 := (hel2.below hb3 (Nat.le_refl _)).mono hb3.size
      have hB3 := hB2.below hb3 hlt2
      have hbw3 := (hb2.trans (hb3.mono hb2.size)).mono hbw
      have hkc3 : KC w w3.drew := KC.of_below (hb2.trans (hb3.mono hb2.size)).drew
      have HKC : Hid (KC w w3.drew) := hkc3
      clear hkc3
      have hlk := (show MapR w3.drew me E.length (entF val E) from ht3.ents.block rfl).look_ok (zero35 _) (row_in hp)
      rw [hrow] at hlk
      have hef : entF val E (padL p) = if hasT E p then some (val (padL p)) else none := by unfold entF; rw [entF_find ht3.ok hp]
      rw [hef] at hlk
      have t0 : w3.cell? ⟨T, 0, none⟩ = some (.map (some me)) := ht3.blk.cell 0
      obtain ⟨c0, c1, c2, c3, c4, c5, c6, c7, _⟩ := hB3.c8
      clear hb3 hel2 hB2 ht2 hb2 har
      go_upto_region 6 with fail
      cases hh : hasT E p with
      | true =>
        have hQ : q = (61, E) := by rw [HTR2.out, hh]; rfl
        rw [hh] at hlk
        simp only [if_true, Option.getD, Option.isSome] at hlk
        generalize val (padL p) = vv at hlk
        subst hQ
        have ht4 : TabAt w3.drew T me ml val E := ⟨ht3.blk, ht3.ents.block rfl, ht3.longs.block rfl, ht3.ne, ht3.els, ht3.ok⟩
        clear HTR2 hh hef ht3
        go_region
        go_wp2
        go_ret
        exact ⟨rfl, ⟨val, ht4⟩, hbw3.drew, HKC.out⟩
      | false =>
        have hTR3 : q = if 4096 ≤ E.length then (2, E) else (0, E ++ [(p, l)]) := by rw [HTR2.out, hh]; rfl
        have HTR3 : Hid (q = if 4096 ≤ E.length then (2, E) else (0, E ++ [(p, l)])) := hTR3
        have HH : Hid (hasT E p = false) := hh
        rw [hh] at hlk
        simp only [Bool.false_eq_true, if_false, Option.getD, Option.isSome] at hlk
        clear HTR2 hh hef hTR3
        have ht4 : TabAt w3.drew T me ml val E := ⟨ht3.blk, ht3.ents.block rfl, ht3.longs.block rfl, ht3.ne, ht3.els, ht3.ok⟩
        have hel4 : Els w3.drew.heap.size w3.drew (.slice ae ne ce) l := hel3
        have hbw4 : Below base w w3.drew := hbw3.drew
        have hB4 : Blk w3.drew w1.heap.size 56 #[.int .i64 a0, .int .i64 a1, .int .i64 a2, .int .i64 a3, .int .i64 a4, .int .i64 a5, .int .i64 a6, .int .i64 a7] := hB3
        go_region
        go_upto_region 9 with fail
        clear hlk t0 c0 c1 c2 c3 c4 c5 c6 c7 hB3 hbw3 hel3 ht3
        generalize w3.drew = W4 at ht4 hel4 hbw4 hB4 HKC ⊢
        have t0 : W4.cell? ⟨T, 0, none⟩ = some (.map (some me)) := ht4.blk.cell 0
        obtain ⟨c0, c1, c2, c3, c4, c5, c6, c7, _⟩ := hB4.c8
        have hlen := fun ty => ht4.ents.len ty
        by_cases hbig : 4096 ≤ E.length
        · have hQ : q = (2, E) := by rw [HTR3.out, if_pos hbig]
          subst hQ
          go_wp2
          go_ret
          exact ⟨rfl, ⟨val, ht4⟩, hbw4, HKC.out⟩
        · have hQ : q = (0, E ++ [(p, l)]) := by rw [HTR3.out, if_neg hbig]
          subst hQ
          have hadd := add_any base T me ml val E p l HX.out HH.out (by omega) a0 a1 a2 a3 a4 a5 a6 a7 hp8 ae ne ce W4 hbm hbl ht4 hel4
          clear hp8 hrow
          go_wp2_with fail
          refine hadd.mono ?_
          rintro _ w5 ⟨rfl, ht5, hb5, hk5⟩
          go_wp2
          go_ret
          exact ⟨rfl, ht5, hbw4.trans hb5, HKC.out.trans hk5⟩

end Go.Proofs.YtfeppbiodbhpcaaGreatDoor
