/- What slices.Clone of elements, Find and Longest do (contracts; nothing is claimed here). -/
import Derived.Test.YtfeppbiodbhpcaaDoorJ4
import Derived.Lib.SliceRun
import Derived.Lib.Walk
namespace Go.Proofs.YtfeppbiodbhpcaaDoor
open Go.RowKit Go.Vf Go.Maps

theorem els_flat {n₀ : Nat} {w : World} {b off n c : Nat} {l : List El} (h : Els n₀ w (.slice (some ⟨b, off, none⟩) n c) l) (j : Nat) (u : Value) (hu : (elsV l)[j]? = some u) : w.cell? ⟨b, off + j, none⟩ = some u := by
  have hj : j < (elsV l).length := (List.getElem?_eq_some_iff.1 hu).1
  rw [elsV_len] at hj
  have hq : j / 4 < l.length := by omega
  rcases h with ⟨a, cap, e, rfl⟩ | ⟨b', off', cap, e, hlt, hc⟩
  · simp at hq
  · cases e
    obtain ⟨h0, h1, h2, h3⟩ := hc (j / 4) hq
    obtain ⟨g0, g1, g2, g3⟩ := elsV_at l (j / 4) hq
    have hm : j % 4 = 0 ∨ j % 4 = 1 ∨ j % 4 = 2 ∨ j % 4 = 3 := by omega
    rcases hm with hm | hm | hm | hm
    · have e1 : j = j / 4 * 4 := by omega
      rw [e1] at hu
      rw [show off + j = off + j / 4 * 4 by omega, h0, ← hu, g0]
    · have e1 : j = j / 4 * 4 + 1 := by omega
      rw [e1] at hu
      rw [show off + j = off + j / 4 * 4 + 1 by omega, h1, ← hu, g1]
    · have e1 : j = j / 4 * 4 + 2 := by omega
      rw [e1] at hu
      rw [show off + j = off + j / 4 * 4 + 2 by omega, h2, ← hu, g2]
    · have e1 : j = j / 4 * 4 + 3 := by omega
      rw [e1] at hu
      rw [show off + j = off + j / 4 * 4 + 3 by omega, h3, ← hu, g3]
theorem elsV_one (l : List El) : ∀ u ∈ elsV l, u.oneCell' = true := by
  intro u hu
  unfold elsV at hu
  obtain ⟨e, _, he⟩ := List.mem_flatMap.1 hu
  simp [elV] at he
  rcases he with rfl | rfl | rfl | rfl <;> rfl

set_option maxHeartbeats 2000000 in
set_option maxRecDepth 100000 in
theorem cloneE_any (n₀ b off c : Nat) (l : List El) (w : World) (hl : l.length ≤ 1048576) (h : Els n₀ w (.slice (some ⟨b, off, none⟩) l.length c) l) :
    Calls Tryd.prog 46 #[.slice (some ⟨b, off, none⟩) l.length c] w fun e w' => ∃ v', e = .returned v' ∧ EOwn w' w.heap.size v' l ∧ Below w.heap.size w w' := by
  obtain ⟨i0, hi, hz0, hz1, hz2⟩ := info_parts info49
  have A : Aside (∀ j u, (elsV l)[j]? = some u → w.cell? ⟨b, off + j, none⟩ = some u) := els_flat h
  clear h
  have q35 : ∀ (w : World) (a : Option Addr) (n c n' c' : Nat), (binOp .eql 35 (.slice a n c) (.slice none n' c')).run Tryd.prog w = .ok (.bool a.isNone) w := fun w a n c n' c' => Lib.run_eql_slice_nil w _ _ a n c n' c' Tryd.underlying35
  have u35 : ∀ w, Sem.run Tryd.prog (underlying 35) w = .ok (TypeDesc.slice 49) w := run_underlying Tryd.underlying35
  go_enter Tryd.func46, Tryd.ntmps46
  go_wp2_with (at_builtin; refine wpList_append_own _ rfl _ _ 35 rfl w.heap.size 49 i0 _ 4 32 Tryd.underlying35 hi hz0 hz1 hz2 rfl (by decide) _ _ _ rfl (World.ownsRow_made w #[] 0 (Nat.le_refl _) (Nat.zero_le _) rfl) ⟨b, off, none⟩ l.length c (elsV l) rfl ?qc1 ?qc2 ?qc3 ?qc4 ?qc5 ?qc6 ?_)
  case qc1 => simp [elsV_len]
  case qc2 =>
    intro j u hj
    rw [Addr.add_lit]
    exact Lib.cell?_alloc_some _ (A.out j u hj)
  case qc3 => exact elsV_one l
  case qc4 => unfold maxLen; omega
  case qc5 => omega
  case qc6 => simp
  intro v' w1 hown hgrow hnil
  go_wp2
  go_ret
  refine ⟨v', rfl, by simpa [EOwn] using hown, ?_⟩
  exact ((Below.refl _ w).alloc (Nat.le_refl _) _).grown hgrow (by simp) (by intro k hk; simp [Value.ownBlock] at hk; omega)
set_option maxHeartbeats 1000000 in
set_option maxRecDepth 100000 in
theorem cloneE_nil (w : World) : Calls Tryd.prog 46 #[.slice none 0 0] w fun e w' => e = .returned (.slice none 0 0) ∧ w' = w := by
  have q35 : ∀ (w : World) (a : Option Addr) (n c n' c' : Nat), (binOp .eql 35 (.slice a n c) (.slice none n' c')).run Tryd.prog w = .ok (.bool a.isNone) w := fun w a n c n' c' => Lib.run_eql_slice_nil w _ _ a n c n' c' Tryd.underlying35
  have u35 : ∀ w, Sem.run Tryd.prog (underlying 35) w = .ok (TypeDesc.slice 49) w := run_underlying Tryd.underlying35
  go_enter Tryd.func46, Tryd.ntmps46
  go_wp2
  go_ret
  exact ⟨rfl, rfl⟩

def FindPost (w : World) (r : Option (List El)) (e : Ending) (w' : World) : Prop :=
  Below w.heap.size w w' ∧ match r with
    | none => e = .returned (.tuple #[.slice none 0 0, .bool false])
    | some l => ∃ a n c, e = .returned (.tuple #[.slice a n c, .bool true]) ∧ EOwn w' w.heap.size (.slice a n c) l
theorem findT_row {E : List Ent} (hok : ∀ e ∈ E, EntOk e) {p : List Int} (hp : rowB p = false) : findT E p = none := by
  unfold findT
  rw [Option.map_eq_none_iff, List.find?_eq_none]
  intro e he h
  have := (hok e he).row
  rw [beq_iff_eq.1 h, hp] at this
  cases this
theorem findT_some {E : List Ent} {p : List Int} {l : List El} (h : findT E p = some l) : (p, l) ∈ E := by
  unfold findT at h
  obtain ⟨e, he, rfl⟩ := Option.map_eq_some_iff.1 h
  have h1 := List.mem_of_find?_eq_some he
  have h2 := List.find?_some he
  rw [beq_iff_eq] at h2
  obtain ⟨a, b⟩ := e
  simp only at h2
  subst h2
  exact h1

set_option maxHeartbeats 2000000 in
set_option maxRecDepth 20000 in
theorem find_any (T me ml n₀ : Nat) (val : List Int → Value) (E : List Ent) (v : Value) (zs : List Int) (w : World) (ht : TabAt w T me ml val E) (hn₀ : n₀ ≤ w.heap.size) (hin : Ints n₀ w v zs) (hll : zs.length ≤ 4611686018427387904) :
    Calls Tryd.prog 23 #[.pointer (some ⟨T, 0, none⟩), v] w fun e w' => FindPost w (findT E zs) e w' := by
  obtain ⟨a, cap, hv⟩ : ∃ a cap, v = .slice a zs.length cap := by
    rcases hin with ⟨a, cap, rfl, rfl⟩ | ⟨b, off, cap, rfl, _⟩
    · exact ⟨_, _, rfl⟩
    · exact ⟨_, _, rfl⟩
  subst hv
  have hro := rowOf_any n₀ _ zs w hn₀ hin hll
  unfold gotR at hro
  cases hp : rowB zs with
  | false =>
    rw [hp] at hro
    rw [findT_row ht.ok hp]
    simp only [Bool.false_eq_true, if_false] at hro
    rw [show rowA zero8 = .agg #[.int .i64 0, .int .i64 0, .int .i64 0, .int .i64 0, .int .i64 0, .int .i64 0, .int .i64 0, .int .i64 0] from rfl] at hro
    clear hin hp
    go_enter Tryd.func23, Tryd.ntmps23
    go_wp2_with fail
    refine hro.mono ?_
    rintro _ w1 ⟨rfl, hb1⟩
    have hb2 := hb1.alloc hb1.size (.cells #[.int .i64 0, .int .i64 0, .int .i64 0, .int .i64 0, .int .i64 0, .int .i64 0, .int .i64 0, .int .i64 0] 73)
    go_wp2
    go_ret2
    exact ⟨hb2, rfl⟩
  | true =>
    rw [hp] at hro
    simp only [if_true] at hro
    obtain ⟨a0, a1, a2, a3, a4, a5, a6, a7, hp8⟩ := eight (padL_len (rowB_len hp).2)
    have hrow : rowA (padL zs) = .agg #[.int .i64 a0, .int .i64 a1, .int .i64 a2, .int .i64 a3, .int .i64 a4, .int .i64 a5, .int .i64 a6, .int .i64 a7] := by rw [hp8]; rfl
    rw [hrow] at hro
    have hfs : ∀ l, findT E zs = some l → (zs, l) ∈ E := fun l h => findT_some h
    have hhf := hasT_find E zs
    generalize findT E zs = R at hfs hhf ⊢
    clear hin hp8
    go_enter Tryd.func23, Tryd.ntmps23
    go_wp2_with fail
    refine hro.mono ?_
    rintro _ w1 ⟨rfl, hb1⟩
    have hb2 := hb1.alloc hb1.size (.cells #[.int .i64 a0, .int .i64 a1, .int .i64 a2, .int .i64 a3, .int .i64 a4, .int .i64 a5, .int .i64 a6, .int .i64 a7] 73)
    have ht2 := ht.below hb2
    have hB2 := Blk.new w1 73 #[.int .i64 a0, .int .i64 a1, .int .i64 a2, .int .i64 a3, .int .i64 a4, .int .i64 a5, .int .i64 a6, .int .i64 a7]
    go_upto_region 6 with fail
    generalize (w1.alloc (.cells #[.int .i64 a0, .int .i64 a1, .int .i64 a2, .int .i64 a3, .int .i64 a4, .int .i64 a5, .int .i64 a6, .int .i64 a7] 73)) = W at hb2 ht2 hB2 ⊢
    have hlk := (show MapR W.drew me E.length (entF val E) from ht2.ents.block rfl).look_ok (zero35 _) (row_in hp)
    rw [hrow] at hlk
    have hef : entF val E (padL zs) = if hasT E zs then some (val (padL zs)) else none := by unfold entF; rw [entF_find ht2.ok hp]
    rw [hef, hhf] at hlk
    have t0 : W.cell? ⟨T, 0, none⟩ = some (.map (some me)) := ht2.blk.cell 0
    obtain ⟨c0, c1, c2, c3, c4, c5, c6, c7, _⟩ := hB2.c8
    clear hef hhf hrow hro
    cases R with
    | none =>
      simp only [Option.isSome, Bool.false_eq_true, if_false, Option.getD] at hlk
      go_region
      go_wp2_with fail
      refine (cloneE_nil _).mono ?_
      rintro _ w3 ⟨rfl, rfl⟩
      go_wp2
      go_ret2
      exact ⟨hb2.drew, rfl⟩
    | some l =>
      simp only [Option.isSome, if_true, Option.getD] at hlk
      have hmem := hfs l rfl
      have hel := ht2.els (zs, l) hmem
      have hok := ht2.ok (zs, l) hmem
      simp only at hel
      have hl0 : 1 ≤ l.length := hok.n0
      have hl1 : l.length ≤ 16 := hok.n1
      generalize val (padL zs) = vv at hlk hel
      obtain ⟨b, off, cv, rfl⟩ : ∃ b off cv, vv = .slice (some ⟨b, off, none⟩) l.length cv := by
        rcases hel with ⟨_, _, _, rfl⟩ | ⟨b, off, cv, rfl, _⟩
        · simp at hl0
        · exact ⟨b, off, cv, rfl⟩
      have hcl := cloneE_any W.heap.size b off cv l W.drew (by omega) hel
      have hlw : w.heap.size ≤ W.heap.size := hb2.size
      clear hfs hmem hel hok ht2 hB2
      go_region
      go_wp2_with fail
      refine hcl.mono ?_
      rintro _ w3 ⟨v', rfl, hown, hb3⟩
      obtain ⟨av, cv', rfl⟩ := row_val hown
      have hbz : Below w.heap.size w w3 := hb2.trans ((show Below W.heap.size W w3 from ((Below.refl _ W).drew).trans hb3).mono hlw)
      go_wp2
      go_ret2
      exact ⟨hbz, _, _, _, rfl, ownsRow_mono hown hlw⟩

set_option maxHeartbeats 1000000 in
theorem longest_any (T me ml : Nat) (val : List Int → Value) (E : List Ent) (x : Int) (hx : InI x) (w : World) (ht : TabAt w T me ml val E) :
    Calls Tryd.prog 12 #[.pointer (some ⟨T, 0, none⟩), .int .i64 x] w fun e w' => e = .returned (.int .i64 (longT E x : Int)) ∧ w = w' := by
  have t1 : w.cell? ⟨T, 1, none⟩ = some (.map (some ml)) := ht.blk.cell 1
  have hl := ht.longs.look Tryd.underlying57 (zero57 w) hx
  rw [longF_get] at hl
  generalize longT E x = L at hl ⊢
  go_enter Tryd.func12, Tryd.ntmps12
  go_wp2
  go_ret
  exact ⟨rfl, rfl⟩
theorem findNil (v : Value) (w : World) : Calls Tryd.prog 23 #[.pointer none, v] w fun e w' => e = .returned (.tuple #[.slice none 0 0, .bool false]) ∧ w = w' := by
  go_enter Tryd.func23, Tryd.ntmps23
  go_wp2
  go_ret2
  exact ⟨rfl, rfl⟩
theorem longestNil (x : Int) (w : World) : Calls Tryd.prog 12 #[.pointer none, .int .i64 x] w fun e w' => e = .returned (.int .i64 0) ∧ w = w' := by
  go_enter Tryd.func12, Tryd.ntmps12
  go_wp2
  go_ret
  exact ⟨rfl, rfl⟩
theorem entriesNil (w : World) : Calls Tryd.prog 24 #[.pointer none] w fun e w' => e = .returned (.slice none 0 0) ∧ w = w' := by
  go_enter Tryd.func24, Tryd.ntmps24
  go_wp2
  go_ret
  exact ⟨rfl, rfl⟩

end Go.Proofs.YtfeppbiodbhpcaaDoor
