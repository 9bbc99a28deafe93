/- SpanMeets, proved: of any two spans Meet, Empty and Has answer as the document says, at any keys. Its listed tables are as their initialisers lay them. -/
import Derived.Test.YtgefbgpfjbbeaaaGreatDoorRows
import Derived.Test.YtgefbgpfjbbeaaaGreatDoorCards
import Derived.Test.YtgefbgpfjbbeaaaGreatDoorTie
import Derived.Test.YtgefbgpfjbbeaaaGreatDoorSLyS
import Derived.Test.YtgefbgpfjbbeaaaGreatDoorSMtO
import Derived.Lay
import Derived.WalkKit
import Derived.ProofKit
import Derived.OpenShut
import Derived.ShutString
import Derived.ChangeOld
import Derived.Below
import Derived.Test.YtgefbgpfjbbeaaaGreatDoorSMtF
import Derived.Stop.Joined
import Derived.SevenTiedAt
namespace Go.Proofs.YtgefbgpfjbbeaaaGreatDoor
open Go.ChangeShapes Go.WideShapes Go.ChangeAt Go.RowKit
open Go.ChangeMaps (open_string shut_string)

theorem spanMeets_own : ownKnob Tryz.prog.godebug = none := by kernel_rfl
theorem spanMeets_laidOut : laidOutB Tryz.prog = true := by kernel_rfl

set_option maxRecDepth 20000 in
theorem spanMeets_open {H : Type} {enc : TypeId × Value → H} {base : Nat} {W : World} (v0 v1 v2 : Value) (d0 d1 d2 : DataW H) (p0 p1 p2 : List MemPlace) (hok0 : Value.okWide Tryz.prog W .any base 24 v0) (hok1 : Value.okWide Tryz.prog W .any base 24 v1) (hok2 : Value.okWide Tryz.prog W .any base 25 v2)
    (h0 : DataW.Trod enc Tryz.prog W 0 (fun _ => true) true 24 v0 d0 p0) (hw0 : ∀ n ∈ d0.weights Tryz.prog 24, n ≤ reachBytes)
    (h1 : DataW.Trod enc Tryz.prog W 0 (fun _ => true) true 24 v1 d1 p1) (hw1 : ∀ n ∈ d1.weights Tryz.prog 24, n ≤ reachBytes)
    (h2 : DataW.Trod enc Tryz.prog W 0 (fun _ => true) true 25 v2 d2 p2) (hw2 : ∀ n ∈ d2.weights Tryz.prog 25, n ≤ reachBytes) :
    Calls Tryz.prog 4 #[v0, v1, v2] W fun e w' => e = .returned (.bool true) ∧ Below W.heap.size W w' := by
  obtain ⟨a, rfl, a1, a2⟩ := span_open v0 d0 p0 hok0 h0 hw0
  obtain ⟨b, rfl, b1, b2⟩ := span_open v1 d1 p1 hok1 h1 hw1
  obtain ⟨ka, ks, kc, rfl, k1, k2, k3⟩ := strs_open v2 d2 p2 hok2 h2 hw2
  exact spanMeets_any a b ka kc ks W k1 k2 a1 a2 b1 b2 k3

set_option maxRecDepth 100000 in
theorem spanMeets_lifted (os : Os) (started : os.Started) (H : Type) (enc : TypeId × Value → H) :
    ReturnsInHanded {} Tryz.checked os 4 .any (fun w args => (Rows.spanMeetsSpec.pre enc Tryz.prog Tryz.f4 [] false w args ∧ laidMetH Tryz.prog laidO w) ∧ sizedMet enc Tryz.prog Tryz.f4 (OpenSpec.ofChange Rows.spanMeetsSpec) false w args) (Rows.spanMeetsSpec.post enc Tryz.prog Tryz.f4 false true false false) := by
  refine returnsInHanded_both (C := Tryz.checked) (X := fun w _ => laidMetH Tryz.prog laidO w) (fun _ _ _ hh h => h.of_heap hh) spanMeets_own started (by kernel_rfl) Tryz.func4
    (ChangeSpec.witness_shaped (enc := enc) (C := Tryz.checked) (os := os) (X := fun w _ => laidMetH Tryz.prog laidO w) false (laidWorldO os) #[.agg #[.string ⟨#[]⟩, .string ⟨#[]⟩, .bool false], .agg #[.string ⟨#[]⟩, .string ⟨#[]⟩, .bool false], .slice none 0 0] 8 rfl (laid_shapedO os _) (by kernel_rfl) (by kernel_rfl) (by kernel_rfl) (laid_metO os _)) ?_
  intro W base args ds gs before hval0 hW hwt _ _
  have hval : ∀ (j : Nat) t v, Tryz.f4.params[j]? = some t → args[j]? = some v → Value.okWide Tryz.prog W .any base t v := hval0
  have hW' := hW
  obtain ⟨p, q, hA0, hV, rfl, hfz, hnd⟩ := hW
  have hA : DataW.TrodAll enc Tryz.prog W 0 (fun _ => true) true Tryz.f4.params.toList args.toList ds p := hA0
  rw [Tryz.params4] at hA hval
  obtain ⟨v0, vs0, d0, ds0, p0, q0, hargs, rfl, rfl, h0, r0⟩ := trodAll_cons hA
  obtain ⟨v1, vs1, d1, ds1, p1, q1, rfl, rfl, rfl, h1, r1⟩ := trodAll_cons r0
  obtain ⟨v2, vs2, d2, ds2, p2, q2, rfl, rfl, rfl, h2, r2⟩ := trodAll_cons r1
  obtain ⟨rfl, rfl, rfl⟩ := trodAll_nil r2
  obtain rfl : args = #[v0, v1, v2] := by cases args; simp_all
  obtain ⟨rfl, rfl⟩ := trodVars_none hV
  have k0 := h0
  have k1 := h1
  have k2 := h2
  have lt0 : ∀ x ∈ p0, x.block < W.heap.size := by obtain ⟨m, hm⟩ := k0; exact DataW.trod_lt m _ _ _ hm
  have lt1 : ∀ x ∈ p1, x.block < W.heap.size := by obtain ⟨m, hm⟩ := k1; exact DataW.trod_lt m _ _ _ hm
  have lt2 : ∀ x ∈ p2, x.block < W.heap.size := by obtain ⟨m, hm⟩ := k2; exact DataW.trod_lt m _ _ _ hm
  have y0 : ∀ n ∈ d0.weights Tryz.prog 24, n ≤ reachBytes := fun n hn => of_decide_eq_true (List.all_eq_true.1 hwt _ (DataW.weights_mem_each (j := 0) (t := 24) (by kernel_rfl) rfl n hn))
  have y1 : ∀ n ∈ d1.weights Tryz.prog 24, n ≤ reachBytes := fun n hn => of_decide_eq_true (List.all_eq_true.1 hwt _ (DataW.weights_mem_each (j := 1) (t := 24) (by kernel_rfl) rfl n hn))
  have y2 : ∀ n ∈ d2.weights Tryz.prog 25, n ≤ reachBytes := fun n hn => of_decide_eq_true (List.all_eq_true.1 hwt _ (DataW.weights_mem_each (j := 2) (t := 25) (by kernel_rfl) rfl n hn))
  clear hA0 hval0 hwt
  refine (spanMeets_open v0 v1 v2 d0 d1 d2 p0 p1 p2 (hval 0 24 v0 rfl rfl) (hval 1 24 v1 rfl rfl) (hval 2 25 v2 rfl rfl) h0 y0 h1 y1 h2 y2).mono fun e W' ⟨he, bel⟩ => ?_
  subst he
  exact ⟨_, rfl, _, _, _, [], _, [], hW', trodAll_mk1 (shut_bool Tryz.underlying4 _), (trodAll_cons_mk (Below.trod spanMeets_laidOut (by kernel_rfl) (of_decide_eq_true (by kernel_rfl)) k0 bel lt0) (trodAll_cons_mk (Below.trod spanMeets_laidOut (by kernel_rfl) (of_decide_eq_true (by kernel_rfl)) k1 bel lt1) (trodAll_cons_mk (Below.trod spanMeets_laidOut (by kernel_rfl) (of_decide_eq_true (by kernel_rfl)) k2 bel lt2) trodAll_mk0))), rfl, bel.frame _, fun h => by cases h⟩

theorem spanMeets_holds : Rows.SpanMeetsSaid :=
  OpenClaim.holds_of_wide 4 Tryz.f4 rfl rfl rfl rfl rfl rfl rfl ⟨rfl, rfl, rfl, rfl, rfl⟩ rfl rfl rfl rfl rfl (by kernel_rfl) Tryz.func4 spanMeets_facts
    (of_decide_eq_true (by kernel_rfl)) (by unfold Func.isWrapper; first | (rw [if_pos (by decide +kernel)]; kernel_rfl) | (rw [if_neg (by decide +kernel)]; exact ⟨rfl, rfl⟩))
    (fun os started H enc _ => spanMeets_lifted os started H enc)

theorem spanMeets_card : Rows.SpanMeetsCardSaid :=
  Claim7.holds_tied_plain_at .later [] [.data, .data, .data, .data, .handle, .data, .data, .pinned] true (true, "ac7709d1cb50e6bf195385ef1090a43ab54092073287d8d64ab2cdaa92c2fc79") true
    spanMeets_holds (fun _ h => by cases h) (by kernel_rfl) (fun _ h => by cases h) spanMeets_row_tie rfl ⟨rfl, rfl⟩ (by kernel_rfl) rfl
    (fun f fn hf hfn => by
      obtain rfl : f = 4 := Option.some.inj ((show Tryz.prog.funcNamed Rows.spanMeetsRow.func = some 4 by kernel_rfl).symm.trans hf) |>.symm
      obtain rfl : fn = Tryz.f4 := (Option.some.inj (Tryz.func4.symm.trans hfn)).symm
      exact ⟨by kernel_rfl, fun j t ht => by
        rw [Tryz.params4] at ht
        have hm : t ∈ [24, 24, 25] := by simpa using Array.mem_of_getElem? ht
        have hall : ([24, 24, 25].all fun u => !Tryz.prog.wantsStandIn u) = true := by kernel_rfl
        exact (show Tryz.prog.wantsStandIn t = false by simpa using List.all_eq_true.1 hall t hm)⟩)
    (by kernel_rfl)

#print axioms spanMeets_card
end Go.Proofs.YtgefbgpfjbbeaaaGreatDoor
