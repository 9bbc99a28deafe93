/- OrderNames, proved: the numbers beside the layer's words are as the document says, and order.Field answers as the document's examples. A closed sentence; its listed tables are as their initialisers lay them. -/
import Derived.Test.YtkjoomdglealmaaGreatDoorRows
import Derived.Test.YtkjoomdglealmaaGreatDoorCards
import Derived.Test.YtkjoomdglealmaaGreatDoorTie
import Derived.Test.YtkjoomdglealmaaGreatDoorOLay
import Derived.Test.YtkjoomdglealmaaGreatDoorONam
import Derived.Lay
import Derived.WalkKit
import Derived.ProofKit
import Derived.OpenShut
import Derived.ShutString
import Derived.ChangeOld
import Derived.Below
import Derived.Test.YtkjoomdglealmaaGreatDoorONmF
import Derived.Stop.Joined
import Derived.SevenTiedAt
namespace Go.Proofs.YtkjoomdglealmaaGreatDoor
open Go.ChangeShapes Go.WideShapes Go.ChangeAt Go.RowKit
open Go.ChangeMaps (open_string shut_string)

theorem orderNames_own : ownKnob Tryz.prog.godebug = none := by kernel_rfl
theorem orderNames_laidOut : laidOutB Tryz.prog = true := by kernel_rfl

set_option maxRecDepth 100000 in
theorem orderNames_lifted (os : Os) (started : os.Started) (H : Type) (enc : TypeId × Value → H) :
    ReturnsInHanded {} Tryz.checked os 6 .any (fun w args => (Rows.orderNamesSpec.pre enc Tryz.prog Tryz.f6 [] false w args ∧ laidMetH Tryz.prog laidO w) ∧ sizedMet enc Tryz.prog Tryz.f6 (OpenSpec.ofChange Rows.orderNamesSpec) false w args) (Rows.orderNamesSpec.post enc Tryz.prog Tryz.f6 false true false false) := by
  refine returnsInHanded_both (C := Tryz.checked) (X := fun w _ => laidMetH Tryz.prog laidO w) (fun _ _ _ hh h => h.of_heap hh) orderNames_own started (by kernel_rfl) Tryz.func6
    (ChangeSpec.witness_shaped (enc := enc) (C := Tryz.checked) (os := os) (X := fun w _ => laidMetH Tryz.prog laidO w) false (laidWorldO os) #[] 8 rfl (laid_shapedO os _) (by kernel_rfl) (by kernel_rfl) (by kernel_rfl) (laid_metO os _)) ?_
  intro W base args ds gs before hval0 hW hwt hL hS
  have hW' := hW
  obtain ⟨p, q, hA0, hV, rfl, hfz, hnd⟩ := hW
  have hA : DataW.TrodAll enc Tryz.prog W 0 (fun _ => true) true Tryz.f6.params.toList args.toList ds p := hA0
  rw [Tryz.params6] at hA
  obtain ⟨hargs, rfl, rfl⟩ := trodAll_nil hA
  obtain rfl : args = #[] := by cases args; simp_all
  obtain ⟨rfl, rfl⟩ := trodVars_none hV
  clear hA0 hval0 hwt
  simp only [List.append_nil] at hW'
  refine (orderNames_any W (tabs_of_laidO (laid_partsO hL).1) (err_of_laid (laid_partsO hL).2)).mono fun e W' ⟨he, bel⟩ => ?_
  subst he
  exact ⟨_, rfl, _, _, _, [], [], [], hW', trodAll_mk1 (shut_bool Tryz.underlying4 _), trodAll_mk0, rfl, bel.frame _, fun h => by cases h⟩

theorem orderNames_holds : Rows.OrderNamesSaid :=
  OpenClaim.holds_of_wide 6 Tryz.f6 rfl rfl rfl rfl rfl rfl rfl ⟨rfl, rfl, rfl, rfl, rfl⟩ rfl rfl rfl rfl rfl (by kernel_rfl) Tryz.func6 orderNames_facts
    (of_decide_eq_true (by kernel_rfl)) (by unfold Func.isWrapper; first | (rw [if_pos (by decide +kernel)]; kernel_rfl) | (rw [if_neg (by decide +kernel)]; exact ⟨rfl, rfl⟩))
    (fun os started H enc _ => orderNames_lifted os started H enc)

theorem orderNames_card : Rows.OrderNamesCardSaid :=
  Claim7.holds_tied_plain_at .later [] [.data, .data, .data, .data, .handle, .data, .data, .pinned] true (true, "ef21646d26e29200c66eebd18f59c8dfc77d8e335b5933329824049803449cea") true
    orderNames_holds (fun _ h => by cases h) (by kernel_rfl) (fun _ h => by cases h) orderNames_row_tie rfl ⟨rfl, rfl⟩ (by kernel_rfl) rfl
    (fun f fn hf hfn => by
      obtain rfl : f = 6 := Option.some.inj ((show Tryz.prog.funcNamed Rows.orderNamesRow.func = some 6 by kernel_rfl).symm.trans hf) |>.symm
      obtain rfl : fn = Tryz.f6 := (Option.some.inj (Tryz.func6.symm.trans hfn)).symm
      exact ⟨by kernel_rfl, fun j t ht => by
        rw [Tryz.params6] at ht
        simp at ht⟩)
    (by kernel_rfl)

#print axioms orderNames_card
end Go.Proofs.YtkjoomdglealmaaGreatDoor
