/- FitChecks, proved: what the program says of a schema and a value, what is wrong, where and why, is what the document says, of the whole and of each field; an error that was handed out and is written over changes no other one, and what is handed in stays as it was. For every schema and every part. -/
import Derived.Test.YtkjoomdglealmaaGreatDoorRows
import Derived.Test.YtkjoomdglealmaaGreatDoorCards
import Derived.Test.YtkjoomdglealmaaGreatDoorTie
import Derived.Test.YtkjoomdglealmaaGreatDoorJ31
import Derived.Test.YtkjoomdglealmaaGreatDoorFChw
import Derived.Test.YtkjoomdglealmaaGreatDoorSchO
import Derived.Test.YtkjoomdglealmaaGreatDoorFChF
import Derived.Lay
import Derived.WalkKit
import Derived.ProofKit
import Derived.OpenShut
import Derived.ShutString
import Derived.ChangeOld
import Derived.Below
import Derived.Stop.Joined
import Derived.SevenTiedAt
namespace Go.Proofs.YtkjoomdglealmaaGreatDoor
open Go.ChangeShapes Go.WideShapes Go.ChangeAt Go.RowKit
open Go.ChangeMaps (open_string shut_string)

set_option maxRecDepth 20000 in
theorem checks_open {H : Type} {enc : TypeId × Value → H} {base : Nat} {W : World} (v0 : Value) (d0 : DataW H) (p0 : List MemPlace) (hok0 : Value.okWide Tryz.prog W .any base 24 v0)
    (h0 : DataW.Trod enc Tryz.prog W 0 (fun _ => true) true 24 v0 d0 p0) (hw0 : ∀ n ∈ d0.weights Tryz.prog 24, n ≤ reachBytes) (v1 : Value) (d1 : DataW H) (p1 : List MemPlace) (hok1 : Value.okWide Tryz.prog W .any base 30 v1)
    (h1 : DataW.Trod enc Tryz.prog W 0 (fun _ => true) true 30 v1 d1 p1) (hw1 : ∀ n ∈ d1.weights Tryz.prog 30, n ≤ reachBytes) (hT : Tabs W) (hE : ErrT W) :
    Calls Tryz.prog 3 #[v0, v1] W fun e w' => e = .returned (.bool true) ∧ Below W.heap.size W w' := by
  obtain ⟨z, l, a, c, rfl, hc, hin, hf, hll⟩ := schema_open v0 d0 p0 hok0 h0 hw0
  obtain ⟨p, pa, pc, rfl, hp, hfp⟩ := part_open v1 d1 p1 hok1 h1 hw1
  exact fitChecks_any z l p a pa c pc 0 W.heap.size W hf hll hfp hc (Nat.le_refl _) hin hp hT hE

theorem fitChecks_own : ownKnob Tryz.prog.godebug = none := by kernel_rfl
theorem fitChecks_laidOut : laidOutB Tryz.prog = true := by kernel_rfl

set_option maxRecDepth 100000 in
theorem fitChecks_lifted (os : Os) (started : os.Started) (H : Type) (enc : TypeId × Value → H) :
    ReturnsInHanded {} Tryz.checked os 3 .any (fun w args => (Rows.fitChecksSpec.pre enc Tryz.prog Tryz.f3 [] false w args ∧ laidMetH Tryz.prog laidF w) ∧ sizedMet enc Tryz.prog Tryz.f3 (OpenSpec.ofChange Rows.fitChecksSpec) false w args) (Rows.fitChecksSpec.post enc Tryz.prog Tryz.f3 false true false false) := by
  refine returnsInHanded_both (C := Tryz.checked) (X := fun w _ => laidMetH Tryz.prog laidF w) (fun _ _ _ hh h => h.of_heap hh) fitChecks_own started (by kernel_rfl) Tryz.func3
    (ChangeSpec.witness_shaped (enc := enc) (C := Tryz.checked) (os := os) (X := fun w _ => laidMetH Tryz.prog laidF w) false (laidWorld os) #[.agg #[.int .i64 0, .slice none 0 0], .agg #[.int .u8 0, .bool false, .bool false, .string ByteArray.empty, .string ByteArray.empty, .slice none 0 0]] 8 rfl (laid_shaped os _) (by kernel_rfl) (by kernel_rfl) (by kernel_rfl) (laid_met os _)) ?_
  intro W base args ds gs before hval0 hW hwt hL hS
  have hval : ∀ (j : Nat) t v, Tryz.f3.params[j]? = some t → args[j]? = some v → Value.okWide Tryz.prog W .any base t v := hval0
  have hW' := hW
  obtain ⟨p, q, hA0, hV, rfl, hfz, hnd⟩ := hW
  have hA : DataW.TrodAll enc Tryz.prog W 0 (fun _ => true) true Tryz.f3.params.toList args.toList ds p := hA0
  rw [Tryz.params3] at hA hval
  obtain ⟨v0, vs0, d0, ds0, p0, q0, hargs, rfl, rfl, h0, r0⟩ := trodAll_cons hA
  obtain ⟨v1, vs1, d1, ds1, p1, q1, rfl, rfl, rfl, h1, r1⟩ := trodAll_cons r0
  obtain ⟨rfl, rfl, rfl⟩ := trodAll_nil r1
  obtain rfl : args = #[v0, v1] := by cases args; simp_all
  obtain ⟨rfl, rfl⟩ := trodVars_none hV
  have k0 := h0
  have k1 := h1
  have lt0 : ∀ x ∈ p0, x.block < W.heap.size := by obtain ⟨m, hm⟩ := k0; exact DataW.trod_lt m _ _ _ hm
  have lt1 : ∀ x ∈ p1, x.block < W.heap.size := by obtain ⟨m, hm⟩ := k1; exact DataW.trod_lt m _ _ _ hm
  have y0 : ∀ n ∈ d0.weights Tryz.prog 24, n ≤ reachBytes := fun n hn => of_decide_eq_true (List.all_eq_true.1 hwt _ (DataW.weights_mem_each (j := 0) (t := 24) (by kernel_rfl) rfl n hn))
  have y1 : ∀ n ∈ d1.weights Tryz.prog 30, n ≤ reachBytes := fun n hn => of_decide_eq_true (List.all_eq_true.1 hwt _ (DataW.weights_mem_each (j := 1) (t := 30) (by kernel_rfl) rfl n hn))
  clear hA0 hval0 hwt
  refine (checks_open v0 d0 p0 (hval 0 24 v0 rfl rfl) h0 y0 v1 d1 p1 (hval 1 30 v1 rfl rfl) h1 y1 (tabs_of_laidF (laid_parts hL).1) (err_of_laid (laid_parts hL).2)).mono fun e W' ⟨he, bel⟩ => ?_
  subst he
  exact ⟨_, rfl, _, _, _, [], _, [], hW', trodAll_mk1 (shut_bool Tryz.underlying4 _), (trodAll_cons_mk (Below.trod fitChecks_laidOut (by kernel_rfl) (of_decide_eq_true (by kernel_rfl)) k0 bel lt0) (trodAll_cons_mk (Below.trod fitChecks_laidOut (by kernel_rfl) (of_decide_eq_true (by kernel_rfl)) k1 bel lt1) trodAll_mk0)), rfl, bel.frame _, fun h => by cases h⟩

theorem fitChecks_holds : Rows.FitChecksSaid :=
  OpenClaim.holds_of_wide 3 Tryz.f3 rfl rfl rfl rfl rfl rfl rfl ⟨rfl, rfl, rfl, rfl, rfl⟩ rfl rfl rfl rfl rfl (by kernel_rfl) Tryz.func3 fitChecks_facts
    (of_decide_eq_true (by kernel_rfl)) (by unfold Func.isWrapper; first | (rw [if_pos (by decide +kernel)]; kernel_rfl) | (rw [if_neg (by decide +kernel)]; exact ⟨rfl, rfl⟩))
    (fun os started H enc _ => fitChecks_lifted os started H enc)

theorem fitChecks_card : Rows.FitChecksCardSaid :=
  Claim7.holds_tied_plain_at .later [] [.data, .data, .data, .handle, .data, .data] true (true, "ef21646d26e29200c66eebd18f59c8dfc77d8e335b5933329824049803449cea") true
    fitChecks_holds (fun _ h => by cases h) (by kernel_rfl) (fun _ h => by cases h) fitChecks_row_tie rfl ⟨rfl, rfl⟩ (by kernel_rfl) rfl
    (fun f fn hf hfn => by
      obtain rfl : f = 3 := Option.some.inj ((show Tryz.prog.funcNamed Rows.fitChecksRow.func = some 3 by kernel_rfl).symm.trans hf) |>.symm
      obtain rfl : fn = Tryz.f3 := (Option.some.inj (Tryz.func3.symm.trans hfn)).symm
      exact ⟨by kernel_rfl, fun j t ht => by
        rw [Tryz.params3] at ht
        have hm : t ∈ [24, 30] := by simpa using Array.mem_of_getElem? ht
        have hall : ([24, 30].all fun u => !Tryz.prog.wantsStandIn u) = true := by kernel_rfl
        exact (show Tryz.prog.wantsStandIn t = false by simpa using List.all_eq_true.1 hall t hm)⟩)
    (by kernel_rfl)

#print axioms fitChecks_card
end Go.Proofs.YtkjoomdglealmaaGreatDoor
