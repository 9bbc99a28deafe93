/- RekeyMaps, proved: rekey.Map tells the tuple, or what is wrong with the sources and what it comes of, as the document's words do, for all sources and parts that come in, asked twice; what was handed in stays and may be written over; the listed variables are as their initialisers lay them. -/
import Derived.Test.YtnjfkijekohdkaaDoorRows
import Derived.Test.YtnjfkijekohdkaaDoorCards
import Derived.Test.YtnjfkijekohdkaaDoorTie
import Derived.Test.YtnjfkijekohdkaaDoorKLay
import Derived.Test.YtnjfkijekohdkaaDoorKMpw
import Derived.Test.YtnjfkijekohdkaaDoorKSrO
import Derived.Lay
import Derived.WalkKit
import Derived.ProofKit
import Derived.OpenShut
import Derived.ShutString
import Derived.ChangeOld
import Derived.Below
import Derived.Test.YtnjfkijekohdkaaDoorKMpF
import Derived.Stop.Joined
import Derived.SevenTiedAt
namespace Go.Proofs.YtnjfkijekohdkaaDoor
open Go.ChangeShapes Go.WideShapes Go.ChangeAt Go.RowKit
open Go.ChangeMaps (open_string shut_string)

set_option maxRecDepth 20000 in
theorem maps_open {H : Type} {enc : TypeId × Value → H} {base : Nat} {W : World} (v0 v1 : Value) (d0 d1 : DataW H) (p0 p1 : List MemPlace)
    (o0 : Value.okWide Tryd.prog W .any base 23 v0) (h0 : DataW.Trod enc Tryd.prog W 0 (fun _ => true) true 23 v0 d0 p0) (y0 : ∀ n ∈ d0.weights Tryd.prog 23, n ≤ reachBytes)
    (o1 : Value.okWide Tryd.prog W .any base 29 v1) (h1 : DataW.Trod enc Tryd.prog W 0 (fun _ => true) true 29 v1 d1 p1) (y1 : ∀ n ∈ d1.weights Tryd.prog 29, n ≤ reachBytes) (hE : ∃ en, EnvK W en) :
    Calls Tryd.prog 4 #[v0, v1] W fun e w' => e = .returned (.bool true) ∧ Below W.heap.size W w' := by
  obtain ⟨l, al, cl, rfl, hsr, hfl, hl⟩ := sources_open v0 d0 p0 o0 h0 y0
  obtain ⟨p, a, c, rfl, hp, hf⟩ := part_open v1 d1 p1 o1 h1 y1
  obtain ⟨en, hE⟩ := hE
  exact maps_any l p hl hf hfl al a cl c en W hE hp hsr
theorem rekeyMaps_own : ownKnob Tryd.prog.godebug = none := by kernel_rfl
theorem rekeyMaps_laidOut : laidOutB Tryd.prog = true := by kernel_rfl
set_option maxRecDepth 100000 in
theorem rekeyMaps_lifted (os : Os) (started : os.Started) (H : Type) (enc : TypeId × Value → H) :
    ReturnsInHanded {} Tryd.checked os 4 .any (fun w args => (Rows.rekeyMapsSpec.pre enc Tryd.prog Tryd.f4 [] false w args ∧ laidMetH Tryd.prog laidK w) ∧ sizedMet enc Tryd.prog Tryd.f4 (OpenSpec.ofChange Rows.rekeyMapsSpec) false w args) (Rows.rekeyMapsSpec.post enc Tryd.prog Tryd.f4 false true false false) := by
  refine returnsInHanded_both (C := Tryd.checked) (X := fun w _ => laidMetH Tryd.prog laidK w) (fun _ _ _ hh h => h.of_heap hh) rekeyMaps_own started (by kernel_rfl) Tryd.func4
    (ChangeSpec.witness_shaped (enc := enc) (C := Tryd.checked) (os := os) (X := fun w _ => laidMetH Tryd.prog laidK w) false (laidWorld os) #[.slice none 0 0, .agg #[.int .u8 0, .bool false, .bool false, .string ByteArray.empty, .string ByteArray.empty, .slice none 0 0]] 8 rfl (laid_shaped os _) (by kernel_rfl) (by kernel_rfl) (by kernel_rfl) (laid_met os _)) ?_
  intro W base args ds gs before hval0 hW hwt hL _
  have hval : ∀ (j : Nat) t v, Tryd.f4.params[j]? = some t → args[j]? = some v → Value.okWide Tryd.prog W .any base t v := hval0
  have hW' := hW
  obtain ⟨p, q, hA0, hV, rfl, hfz, hnd⟩ := hW
  have hA : DataW.TrodAll enc Tryd.prog W 0 (fun _ => true) true Tryd.f4.params.toList args.toList ds p := hA0
  rw [Tryd.params4] at hA hval
  obtain ⟨v0, vs0, d0, ds0, p0, q0, hargs, rfl, rfl, h0, r0⟩ := trodAll_cons hA
  obtain ⟨v1, vs1, d1, ds1, p1, q1, rfl, rfl, rfl, h1, r1⟩ := trodAll_cons r0
  obtain ⟨rfl, rfl, rfl⟩ := trodAll_nil r1
  obtain rfl : args = #[v0, v1] := by cases args; simp_all
  obtain ⟨rfl, rfl⟩ := trodVars_none hV
  have k0 := h0
  have lt0 : ∀ x ∈ p0, x.block < W.heap.size := by obtain ⟨m, hm⟩ := k0; exact DataW.trod_lt m _ _ _ hm
  have k1 := h1
  have lt1 : ∀ x ∈ p1, x.block < W.heap.size := by obtain ⟨m, hm⟩ := k1; exact DataW.trod_lt m _ _ _ hm
  have y0 : ∀ n ∈ d0.weights Tryd.prog 23, n ≤ reachBytes := fun n hn => of_decide_eq_true (List.all_eq_true.1 hwt _ (DataW.weights_mem_each (j := 0) (t := 23) (by kernel_rfl) rfl n hn))
  have y1 : ∀ n ∈ d1.weights Tryd.prog 29, n ≤ reachBytes := fun n hn => of_decide_eq_true (List.all_eq_true.1 hwt _ (DataW.weights_mem_each (j := 1) (t := 29) (by kernel_rfl) rfl n hn))
  clear hA0 hval0 hwt
  refine (maps_open v0 v1 d0 d1 p0 p1 (hval 0 23 v0 rfl rfl) h0 y0 (hval 1 29 v1 rfl rfl) h1 y1 (env_of_laid hL)).mono fun e W' ⟨he, bel⟩ => ?_
  subst he
  exact ⟨_, rfl, _, _, _, [], _, [], hW', trodAll_mk1 (shut_bool Tryd.underlying4 _), (trodAll_cons_mk (Below.trod rekeyMaps_laidOut (by kernel_rfl) (of_decide_eq_true (by kernel_rfl)) k0 bel lt0) (trodAll_cons_mk (Below.trod rekeyMaps_laidOut (by kernel_rfl) (of_decide_eq_true (by kernel_rfl)) k1 bel lt1) trodAll_mk0)), rfl, bel.frame _, fun h => by cases h⟩

theorem rekeyMaps_holds : Rows.RekeyMapsSaid :=
  OpenClaim.holds_of_wide 4 Tryd.f4 rfl rfl rfl rfl rfl rfl rfl ⟨rfl, rfl, rfl, rfl, rfl⟩ rfl rfl rfl rfl rfl (by kernel_rfl) Tryd.func4 rekeyMaps_facts
    (of_decide_eq_true (by kernel_rfl)) (by unfold Func.isWrapper; first | (rw [if_pos (by decide +kernel)]; kernel_rfl) | (rw [if_neg (by decide +kernel)]; exact ⟨rfl, rfl⟩))
    (fun os started H enc _ => rekeyMaps_lifted os started H enc)

theorem rekeyMaps_card : Rows.RekeyMapsCardSaid :=
  Claim7.holds_tied_plain_at .later [] [.handle, .sentinel] true (true, "eb0c486ca9a2c6a5d7daf2c012591324935d380294ade0ead957e44f91b6df72") true
    rekeyMaps_holds (fun _ h => by cases h) (by kernel_rfl) (fun _ h => by cases h) rekeyMaps_row_tie rfl ⟨rfl, rfl⟩ (by kernel_rfl) rfl
    (fun f fn hf hfn => by
      obtain rfl : f = 4 := Option.some.inj ((show Tryd.prog.funcNamed Rows.rekeyMapsRow.func = some 4 by kernel_rfl).symm.trans hf) |>.symm
      obtain rfl : fn = Tryd.f4 := (Option.some.inj (Tryd.func4.symm.trans hfn)).symm
      exact ⟨by kernel_rfl, fun j t ht => by
        rw [Tryd.params4] at ht
        have hm : t ∈ [23, 29] := by simpa using Array.mem_of_getElem? ht
        have hall : ([23, 29].all fun u => !Tryd.prog.wantsStandIn u) = true := by kernel_rfl
        exact (show Tryd.prog.wantsStandIn t = false by simpa using List.all_eq_true.1 hall t hm)⟩)
    (by kernel_rfl)

#print axioms rekeyMaps_card
end Go.Proofs.YtnjfkijekohdkaaDoor
