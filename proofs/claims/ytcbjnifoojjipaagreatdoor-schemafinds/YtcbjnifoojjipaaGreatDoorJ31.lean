/- Contracts and lemmas (nothing is claimed here). -/
import Derived.Test.YtcbjnifoojjipaaGreatDoorJ2
import Derived.Test.YtcbjnifoojjipaaGreatDoorJ27
import Derived.Test.YtcbjnifoojjipaaGreatDoorRows
import Derived.Lay
import Derived.ProofKit
import Derived.OpenShut
import Derived.Stop.Joined
import Derived.Test.YtcbjnifoojjipaaGreatDoorCards
import Derived.Test.YtcbjnifoojjipaaGreatDoorTie
import Derived.Test.YtcbjnifoojjipaaGreatDoorSLay
import Derived.Test.YtcbjnifoojjipaaGreatDoorFnW
import Derived.WalkKit
import Derived.ChangeOld
import Derived.Below
import Derived.SevenTiedAt
namespace Go.Proofs.YtcbjnifoojjipaaGreatDoor
open Go.ChangeShapes Go.WideShapes Go.ChangeAt Go.RowKit Go.Deep Go.Vf
theorem cells3' : Tryz.prog.cellsOf 3 = 1 := by kernel_rfl
theorem cells29' : Tryz.prog.cellsOf 29 = 1 := by kernel_rfl
theorem bytes3' : Tryz.prog.bytesOf 3 = 8 := by kernel_rfl
set_option maxRecDepth 20000 in
theorem ints_trod {H : Type} {enc : TypeId × Value → H} {W : World} {fuel : Nat} {cs : List Value} {x : DataW H × List MemPlace} (h : DataW.trod enc Tryz.prog W 0 (fun _ => true) true fuel 29 cs = some x) (hw : ∀ n ∈ x.1.weights Tryz.prog 29, n ≤ reachBytes) :
    ∃ a len cap, cs = [.slice a len cap] ∧ ∃ zs : List Int, Ints W.heap.size W (.slice a len cap) zs ∧ zs.length ≤ 17592186044416 := by
  rcases open_slice Tryz.underlying29 h with ⟨hcs, _⟩ | ⟨a, len, cap, m, n, D, Pl, hcs, _, hl, hm, hmm, hd, hx⟩
  · exact ⟨_, _, _, hcs, [], .inl ⟨_, _, rfl, rfl⟩, by simp⟩
  · subst hd
    have hwl : len ≤ 17592186044416 := by
      have := hw ((((List.range len).map D).length + ((List.range (m - len)).map fun j => D (len + j)).length) * Tryz.prog.bytesOf 3) (by simp [DataW.weights, Tryz.underlying29])
      rw [bytes3', reach_eq] at this
      simp at this
      omega
    simp at hmm
    rw [hmm] at hx
    clear hmm
    have each : ∀ i, i < len → ∃ z : Int, W.cell? (a.add i) = some (.int .i64 z) := by
      intro i hi
      obtain ⟨cs', h1, h2⟩ := hx i (by omega)
      rw [cells3'] at h1
      obtain ⟨_, hlen, hcell⟩ := World.cells?_some h1
      obtain ⟨z, e, _, _⟩ := DataW.trod_int Tryz.underlying3 h2
      have := hcell 0 (by omega)
      subst e
      exact ⟨z, by simpa [Addr.add] using this⟩
    obtain ⟨zs, hzl, hz⟩ := choose_list len each
    refine ⟨_, _, _, hcs, zs, ?_, by omega⟩
    · rcases Nat.eq_zero_or_pos len with h0 | h0
      · subst h0
        exact .inl ⟨_, _, rfl, List.eq_nil_of_length_eq_zero hzl⟩
      · obtain ⟨b, off, spot⟩ := a
        have hspot : spot = none := by simpa [Addr.add] using World.cell?_spot (hz 0 (by omega))
        subst hspot
        refine .inr ⟨b, off, cap, by rw [hzl], ?_, fun j hj => ?_⟩
        · have := World.block_lt_of_cell? W _ (hz 0 (by omega))
          simpa [Addr.add] using this
        · have := hz j hj
          rw [Go.WideShapes.add_plain] at this
          rw [this]
          simp [hj]
theorem ints_open {H : Type} {enc : TypeId × Value → H} {W : World} (v : Value) (d : DataW H) (pl : List MemPlace)
    (h : DataW.Trod enc Tryz.prog W 0 (fun _ => true) true 29 v d pl) (hok : ∃ a len cap, v = .slice a len cap) (hw : ∀ n ∈ d.weights Tryz.prog 29, n ≤ reachBytes) : ∃ zs : List Int, Ints W.heap.size W v zs ∧ zs.length ≤ 17592186044416 := by
  obtain ⟨a0, len0, cap0, rfl⟩ := hok
  obtain ⟨fuel, hf⟩ := h
  obtain ⟨a, len, cap, hcs, zs, h1, h2⟩ := ints_trod hf hw
  simp [Value.cells] at hcs
  obtain ⟨rfl, rfl, rfl⟩ := hcs
  exact ⟨zs, h1, h2⟩
end Go.Proofs.YtcbjnifoojjipaaGreatDoor
namespace Go.Proofs.YtcbjnifoojjipaaGreatDoor
open Go.ChangeShapes Go.WideShapes Go.ChangeAt Go.RowKit
theorem schemaFinds_facts : joinedFacts Tryz.pinned.checked.prog 5 Tryz.f5 Rows.schemaFindsSpec Rows.schemaFindsRow = true := by kernel_rfl
set_option maxRecDepth 20000 in
theorem schemaFinds_open {H : Type} {enc : TypeId × Value → H} {base : Nat} {W : World} (v0 v1 : Value) (d0 d1 : DataW H) (p0 p1 : List MemPlace) (hok0 : Value.okWide Tryz.prog W .any base 25 v0) (hok1 : Value.okWide Tryz.prog W .any base 29 v1)
    (h0 : DataW.Trod enc Tryz.prog W 0 (fun _ => true) true 25 v0 d0 p0) (hw0 : ∀ n ∈ d0.weights Tryz.prog 25, n ≤ reachBytes)
    (h1 : DataW.Trod enc Tryz.prog W 0 (fun _ => true) true 29 v1 d1 p1) (hw1 : ∀ n ∈ d1.weights Tryz.prog 29, n ≤ reachBytes) (hE : Env W) :
    Calls Tryz.prog 5 #[v0, v1] W fun e w' => e = .returned (.bool true) ∧ Below W.heap.size W w' := by
  obtain ⟨z, l, a, c, rfl, hc, hin, hf, hll⟩ := schema_open v0 d0 p0 hok0 h0 hw0
  obtain ⟨pa, pk, pc, rfl⟩ := okWide_slice Tryz.underlying29 hok1
  obtain ⟨zs, k1, k2⟩ := ints_open _ d1 p1 h1 ⟨pa, pk, pc, rfl⟩ hw1
  obtain rfl : pk = zs.length := by
    rcases k1 with ⟨_, _, e, e2⟩ | ⟨_, _, _, e, _⟩
    · cases e; rw [e2]; rfl
    · exact (Value.slice.inj e).2.1
  exact schemaFinds_any z l a c W.heap.size W hE hll hf (Nat.le_refl _) hin hc pa pc zs (by omega) k1
theorem schemaFinds_own : ownKnob Tryz.prog.godebug = none := by kernel_rfl
theorem schemaFinds_laidOut : laidOutB Tryz.prog = true := by kernel_rfl
set_option maxRecDepth 100000 in
theorem schemaFinds_lifted (os : Os) (started : os.Started) (H : Type) (enc : TypeId × Value → H) :
    ReturnsInHanded {} Tryz.checked os 5 .any (fun w args => (Rows.schemaFindsSpec.pre enc Tryz.prog Tryz.f5 [] false w args ∧ laidMetH Tryz.prog laidN w) ∧ sizedMet enc Tryz.prog Tryz.f5 (OpenSpec.ofChange Rows.schemaFindsSpec) false w args) (Rows.schemaFindsSpec.post enc Tryz.prog Tryz.f5 false true false false) := by
  refine returnsInHanded_both (C := Tryz.checked) (X := fun w _ => laidMetH Tryz.prog laidN w) (fun _ _ _ hh h => h.of_heap hh) schemaFinds_own started (by kernel_rfl) Tryz.func5
    (ChangeSpec.witness_shaped (enc := enc) (C := Tryz.checked) (os := os) (X := fun w _ => laidMetH Tryz.prog laidN w) false (World.laidAll Tryz.prog os laidN) #[.agg #[.int .i64 0, .slice none 0 0], .slice none 0 0] 8 (World.laidAll_os _ _ _) (laid_shaped os _) (by kernel_rfl) (by kernel_rfl) (by kernel_rfl) (laid_met os _)) ?_
  intro W base args ds gs before hval0 hW hwt hL hS
  have hval : ∀ (j : Nat) t v, Tryz.f5.params[j]? = some t → args[j]? = some v → Value.okWide Tryz.prog W .any base t v := hval0
  have hW' := hW
  obtain ⟨p, q, hA0, hV, rfl, hfz, hnd⟩ := hW
  have hA : DataW.TrodAll enc Tryz.prog W 0 (fun _ => true) true Tryz.f5.params.toList args.toList ds p := hA0
  rw [Tryz.params5] at hA hval
  obtain ⟨v0, vs0, d0, ds0, p0, q0, hargs, rfl, rfl, h0, r0⟩ := trodAll_cons hA
  obtain ⟨v1, vs1, d1, ds1, p1, q1, rfl, rfl, rfl, h1, r1⟩ := trodAll_cons r0
  obtain ⟨rfl, rfl, rfl⟩ := trodAll_nil r1
  obtain rfl : args = #[v0, v1] := by cases args; simp_all
  obtain ⟨rfl, rfl⟩ := trodVars_none hV
  have k0 := h0
  have k1 := h1
  have lt0 : ∀ x ∈ p0, x.block < W.heap.size := by obtain ⟨m, hm⟩ := k0; exact DataW.trod_lt m _ _ _ hm
  have lt1 : ∀ x ∈ p1, x.block < W.heap.size := by obtain ⟨m, hm⟩ := k1; exact DataW.trod_lt m _ _ _ hm
  have y0 : ∀ n ∈ d0.weights Tryz.prog 25, n ≤ reachBytes := fun n hn => of_decide_eq_true (List.all_eq_true.1 hwt _ (DataW.weights_mem_each (j := 0) (t := 25) (by kernel_rfl) rfl n hn))
  have y1 : ∀ n ∈ d1.weights Tryz.prog 29, n ≤ reachBytes := fun n hn => of_decide_eq_true (List.all_eq_true.1 hwt _ (DataW.weights_mem_each (j := 1) (t := 29) (by kernel_rfl) rfl n hn))
  clear hA0 hval0 hwt
  rw [MakeChecks.laidMetH_plain _ _ _ (by kernel_rfl)] at hL
  refine (schemaFinds_open v0 v1 d0 d1 p0 p1 (hval 0 25 v0 rfl rfl) (hval 1 29 v1 rfl rfl) h0 y0 h1 y1 (env_of_laid hL hS)).mono fun e W' ⟨he, bel⟩ => ?_
  subst he
  exact ⟨_, rfl, _, _, _, [], _, [], hW', trodAll_mk1 (shut_bool Tryz.underlying4 _), (trodAll_cons_mk (Below.trod schemaFinds_laidOut (by kernel_rfl) (of_decide_eq_true (by kernel_rfl)) k0 bel lt0) (trodAll_cons_mk (Below.trod schemaFinds_laidOut (by kernel_rfl) (of_decide_eq_true (by kernel_rfl)) k1 bel lt1) trodAll_mk0)), rfl, bel.frame _, fun h => by cases h⟩
theorem schemaFinds_holds : Rows.SchemaFindsSaid :=
  OpenClaim.holds_of_wide 5 Tryz.f5 rfl rfl rfl rfl rfl rfl rfl ⟨rfl, rfl, rfl, rfl, rfl⟩ rfl rfl rfl rfl rfl (by kernel_rfl) Tryz.func5 schemaFinds_facts
    (of_decide_eq_true (by kernel_rfl)) (by unfold Func.isWrapper; first | (rw [if_pos (by decide +kernel)]; kernel_rfl) | (rw [if_neg (by decide +kernel)]; exact ⟨rfl, rfl⟩))
    (fun os started H enc _ => schemaFinds_lifted os started H enc)
theorem schemaFinds_card : Rows.SchemaFindsCardSaid :=
  Claim7.holds_tied_plain_at .later [] [.data, .data, .data] true (true, "c7b6a3c8e96ce949febecdc545727cb706928357abda12ec3292788f8e5e8008") true
    schemaFinds_holds (fun _ h => by cases h) (by kernel_rfl) (fun _ h => by cases h) schemaFinds_row_tie rfl ⟨rfl, rfl⟩ (by kernel_rfl) rfl
    (fun f fn hf hfn => by
      obtain rfl : f = 5 := Option.some.inj ((show Tryz.prog.funcNamed Rows.schemaFindsRow.func = some 5 by kernel_rfl).symm.trans hf) |>.symm
      obtain rfl : fn = Tryz.f5 := (Option.some.inj (Tryz.func5.symm.trans hfn)).symm
      exact ⟨by kernel_rfl, fun j t ht => by
        rw [Tryz.params5] at ht
        have hm : t ∈ [25, 29] := by simpa using Array.mem_of_getElem? ht
        have hall : ([25, 29].all fun u => !Tryz.prog.wantsStandIn u) = true := by kernel_rfl
        exact (show Tryz.prog.wantsStandIn t = false by simpa using List.all_eq_true.1 hall t hm)⟩)
    (by kernel_rfl)
#print axioms schemaFinds_card
end Go.Proofs.YtcbjnifoojjipaaGreatDoor
