/- RekeyGoes, proved: the sources 0, 1, 2 .. change nothing, and two mappings are one, for all sources, numbers and parts that come in; the listed variables are as their initialisers lay them. -/
import Derived.Test.YtnjfkijekohdkaaDoorRows
import Derived.Test.YtnjfkijekohdkaaDoorCards
import Derived.Test.YtnjfkijekohdkaaDoorTie
import Derived.Test.YtnjfkijekohdkaaDoorKLay
import Derived.Test.YtnjfkijekohdkaaDoorKGoW
import Derived.Test.YtnjfkijekohdkaaDoorKEnv
import Derived.Lay
import Derived.WalkKit
import Derived.ProofKit
import Derived.OpenShut
import Derived.ShutString
import Derived.ChangeOld
import Derived.Below
import Derived.Test.YtnjfkijekohdkaaDoorKGoF
import Derived.Stop.Joined
import Derived.SevenTiedAt
namespace Go.Proofs.YtnjfkijekohdkaaDoor
open Go.ChangeShapes Go.WideShapes Go.ChangeAt Go.RowKit
open Go.ChangeMaps (open_string shut_string)

set_option maxRecDepth 20000 in
theorem goes_open {H : Type} {enc : TypeId × Value → H} {base : Nat} {W : World} (v0 v1 v2 : Value) (d0 d1 d2 : DataW H) (p0 p1 p2 : List MemPlace)
    (o0 : Value.okWide Tryd.prog W .any base 23 v0) (h0 : DataW.Trod enc Tryd.prog W 0 (fun _ => true) true 23 v0 d0 p0) (y0 : ∀ n ∈ d0.weights Tryd.prog 23, n ≤ reachBytes)
    (o1 : Value.okWide Tryd.prog W .any base 38 v1) (h1 : DataW.Trod enc Tryd.prog W 0 (fun _ => true) true 38 v1 d1 p1) (y1 : ∀ n ∈ d1.weights Tryd.prog 38, n ≤ reachBytes)
    (o2 : Value.okWide Tryd.prog W .any base 29 v2) (h2 : DataW.Trod enc Tryd.prog W 0 (fun _ => true) true 29 v2 d2 p2) (y2 : ∀ n ∈ d2.weights Tryd.prog 29, n ≤ reachBytes) (hE : ∃ en, EnvK W en) :
    Calls Tryd.prog 5 #[v0, v1, v2] W fun e w' => e = .returned (.bool true) ∧ Below W.heap.size W w' := by
  obtain ⟨l, al, cl, rfl, hsr, hfl, hl⟩ := sources_open v0 d0 p0 o0 h0 y0
  obtain ⟨m, am, cm, rfl, hmi, hm, hml⟩ := ints_open v1 d1 p1 o1 h1 y1
  obtain ⟨p, a, c, rfl, hp, hf⟩ := part_open v2 d2 p2 o2 h2 y2
  obtain ⟨en, hE⟩ := hE
  exact goes_any l m p hl hml hm hf hfl al am a cl cm c en W hE hp hsr hmi
theorem rekeyGoes_own : ownKnob Tryd.prog.godebug = none := by kernel_rfl
theorem rekeyGoes_laidOut : laidOutB Tryd.prog = true := by kernel_rfl
set_option maxRecDepth 100000 in
theorem rekeyGoes_lifted (os : Os) (started : os.Started) (H : Type) (enc : TypeId × Value → H) :
    ReturnsInHanded {} Tryd.checked os 5 .any (fun w args => (Rows.rekeyGoesSpec.pre enc Tryd.prog Tryd.f5 [] false w args ∧ laidMetH Tryd.prog laidK w) ∧ sizedMet enc Tryd.prog Tryd.f5 (OpenSpec.ofChange Rows.rekeyGoesSpec) false w args) (Rows.rekeyGoesSpec.post enc Tryd.prog Tryd.f5 false true false false) := by
  refine returnsInHanded_both (C := Tryd.checked) (X := fun w _ => laidMetH Tryd.prog laidK w) (fun _ _ _ hh h => h.of_heap hh) rekeyGoes_own started (by kernel_rfl) Tryd.func5
    (ChangeSpec.witness_shaped (enc := enc) (C := Tryd.checked) (os := os) (X := fun w _ => laidMetH Tryd.prog laidK w) false (laidWorld os) #[.slice none 0 0, .slice none 0 0, .agg #[.int .u8 0, .bool false, .bool false, .string ByteArray.empty, .string ByteArray.empty, .slice none 0 0]] 8 rfl (laid_shaped os _) (by kernel_rfl) (by kernel_rfl) (by kernel_rfl) (laid_met os _)) ?_
  intro W base args ds gs before hval0 hW hwt hL _
  have hval : ∀ (j : Nat) t v, Tryd.f5.params[j]? = some t → args[j]? = some v → Value.okWide Tryd.prog W .any base t v := hval0
  have hW' := hW
  obtain ⟨p, q, hA0, hV, rfl, hfz, hnd⟩ := hW
  have hA : DataW.TrodAll enc Tryd.prog W 0 (fun _ => true) true Tryd.f5.params.toList args.toList ds p := hA0
  rw [Tryd.params5] at hA hval
  obtain ⟨v0, vs0, d0, ds0, p0, q0, hargs, rfl, rfl, h0, r0⟩ := trodAll_cons hA
  obtain ⟨v1, vs1, d1, ds1, p1, q1, rfl, rfl, rfl, h1, r1⟩ := trodAll_cons r0
  obtain ⟨v2, vs2, d2, ds2, p2, q2, rfl, rfl, rfl, h2, r2⟩ := trodAll_cons r1
  obtain ⟨rfl, rfl, rfl⟩ := trodAll_nil r2
  obtain rfl : args = #[v0, v1, v2] := by cases args; simp_all
  obtain ⟨rfl, rfl⟩ := trodVars_none hV
  have k0 := h0
  have lt0 : ∀ x ∈ p0, x.block < W.heap.size := by obtain ⟨m, hm⟩ := k0; exact DataW.trod_lt m _ _ _ hm
  have k1 := h1
  have lt1 : ∀ x ∈ p1, x.block < W.heap.size := by obtain ⟨m, hm⟩ := k1; exact DataW.trod_lt m _ _ _ hm
  have k2 := h2
  have lt2 : ∀ x ∈ p2, x.block < W.heap.size := by obtain ⟨m, hm⟩ := k2; exact DataW.trod_lt m _ _ _ hm
  have y0 : ∀ n ∈ d0.weights Tryd.prog 23, n ≤ reachBytes := fun n hn => of_decide_eq_true (List.all_eq_true.1 hwt _ (DataW.weights_mem_each (j := 0) (t := 23) (by kernel_rfl) rfl n hn))
  have y1 : ∀ n ∈ d1.weights Tryd.prog 38, n ≤ reachBytes := fun n hn => of_decide_eq_true (List.all_eq_true.1 hwt _ (DataW.weights_mem_each (j := 1) (t := 38) (by kernel_rfl) rfl n hn))
  have y2 : ∀ n ∈ d2.weights Tryd.prog 29, n ≤ reachBytes := fun n hn => of_decide_eq_true (List.all_eq_true.1 hwt _ (DataW.weights_mem_each (j := 2) (t := 29) (by kernel_rfl) rfl n hn))
  clear hA0 hval0 hwt
  refine (goes_open v0 v1 v2 d0 d1 d2 p0 p1 p2 (hval 0 23 v0 rfl rfl) h0 y0 (hval 1 38 v1 rfl rfl) h1 y1 (hval 2 29 v2 rfl rfl) h2 y2 (env_of_laid hL)).mono fun e W' ⟨he, bel⟩ => ?_
  subst he
  exact ⟨_, rfl, _, _, _, [], _, [], hW', trodAll_mk1 (shut_bool Tryd.underlying4 _), (trodAll_cons_mk (Below.trod rekeyGoes_laidOut (by kernel_rfl) (of_decide_eq_true (by kernel_rfl)) k0 bel lt0) (trodAll_cons_mk (Below.trod rekeyGoes_laidOut (by kernel_rfl) (of_decide_eq_true (by kernel_rfl)) k1 bel lt1) (trodAll_cons_mk (Below.trod rekeyGoes_laidOut (by kernel_rfl) (of_decide_eq_true (by kernel_rfl)) k2 bel lt2) trodAll_mk0))), rfl, bel.frame _, fun h => by cases h⟩

theorem rekeyGoes_holds : Rows.RekeyGoesSaid :=
  OpenClaim.holds_of_wide 5 Tryd.f5 rfl rfl rfl rfl rfl rfl rfl ⟨rfl, rfl, rfl, rfl, rfl⟩ rfl rfl rfl rfl rfl (by kernel_rfl) Tryd.func5 rekeyGoes_facts
    (of_decide_eq_true (by kernel_rfl)) (by unfold Func.isWrapper; first | (rw [if_pos (by decide +kernel)]; kernel_rfl) | (rw [if_neg (by decide +kernel)]; exact ⟨rfl, rfl⟩))
    (fun os started H enc _ => rekeyGoes_lifted os started H enc)

theorem rekeyGoes_card : Rows.RekeyGoesCardSaid :=
  Claim7.holds_tied_plain_at .later [] [.handle, .sentinel] true (true, "eb0c486ca9a2c6a5d7daf2c012591324935d380294ade0ead957e44f91b6df72") true
    rekeyGoes_holds (fun _ h => by cases h) (by kernel_rfl) (fun _ h => by cases h) rekeyGoes_row_tie rfl ⟨rfl, rfl⟩ (by kernel_rfl) rfl
    (fun f fn hf hfn => by
      obtain rfl : f = 5 := Option.some.inj ((show Tryd.prog.funcNamed Rows.rekeyGoesRow.func = some 5 by kernel_rfl).symm.trans hf) |>.symm
      obtain rfl : fn = Tryd.f5 := (Option.some.inj (Tryd.func5.symm.trans hfn)).symm
      exact ⟨by kernel_rfl, fun j t ht => by
        rw [Tryd.params5] at ht
        have hm : t ∈ [23, 38, 29] := by simpa using Array.mem_of_getElem? ht
        have hall : ([23, 38, 29].all fun u => !Tryd.prog.wantsStandIn u) = true := by kernel_rfl
        exact (show Tryd.prog.wantsStandIn t = false by simpa using List.all_eq_true.1 hall t hm)⟩)
    (by kernel_rfl)

#print axioms rekeyGoes_card
end Go.Proofs.YtnjfkijekohdkaaDoor
