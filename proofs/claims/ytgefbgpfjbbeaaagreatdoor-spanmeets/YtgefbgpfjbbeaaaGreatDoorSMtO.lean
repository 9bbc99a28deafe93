/- A span, a list of texts that came in, opened (nothing is claimed here). -/
import Derived.Test.YtgefbgpfjbbeaaaGreatDoorMtE
import Derived.ProofKit
import Derived.OpenShut
import Derived.Deep.Slices
import Derived.SizedLaws
namespace Go.Proofs.YtgefbgpfjbbeaaaGreatDoor
open Go.ChangeShapes Go.WideShapes Go.ChangeAt Go.RowKit Go.Deep Go.Vf

theorem co4 : Tryz.prog.cellsOf 4 = 1 := by kernel_rfl
theorem co9 : Tryz.prog.cellsOf 9 = 1 := by kernel_rfl
theorem co24 : Tryz.prog.cellsOf 24 = 3 := by kernel_rfl
theorem by9 : Tryz.prog.bytesOf 9 = 16 := by kernel_rfl
theorem reach_eq : reachBytes = 140737488351232 := rfl
theorem choose_list {α : Type} {P : Nat → α → Prop} : ∀ n, (∀ i, i < n → ∃ z, P i z) → ∃ zs : List α, zs.length = n ∧ ∀ i (h : i < zs.length), P i zs[i]
  | 0, _ => ⟨[], rfl, fun i h => absurd h (by simp)⟩
  | n + 1, h => by
    obtain ⟨zs, hl, hz⟩ := choose_list n (fun i hi => h i (by omega))
    obtain ⟨z, hzn⟩ := h n (by omega)
    refine ⟨zs ++ [z], by simp [hl], fun i hi => ?_⟩
    by_cases hin : i < n
    · rw [List.getElem_append_left (by omega)]; exact hz i (by omega)
    · obtain rfl : i = n := by simp [hl] at hi; omega
      rw [List.getElem_append_right (by omega)]
      simpa [hl] using hzn
theorem weightsAll_mem {H : Type} {P : Program} {e : TypeId} : ∀ {l : List (DataW H)} {d : DataW H}, d ∈ l → ∀ n ∈ d.weights P e, n ∈ DataW.weightsAll P e l
  | d' :: r, d, hd, n, hn => by
    simp only [DataW.weightsAll, List.mem_append]
    rcases List.mem_cons.1 hd with rfl | h
    · exact Or.inl hn
    · exact Or.inr (weightsAll_mem h n hn)
theorem list_three {α : Type} {l : List α} (h : l.length = 3) : ∃ a b c, l = [a, b, c] := by
  match l, h with
  | [a, b, c], _ => exact ⟨a, b, c, rfl⟩
set_option maxRecDepth 20000 in
theorem span_open {H : Type} {enc : TypeId × Value → H} {base : Nat} {W : World} (v : Value) (d : DataW H) (pl : List MemPlace) (hok : Value.okWide Tryz.prog W .any base 24 v)
    (h : DataW.Trod enc Tryz.prog W 0 (fun _ => true) true 24 v d pl) (hw : ∀ n ∈ d.weights Tryz.prog 24, n ≤ reachBytes) : ∃ a : Sp, v = spV a ∧ a.f.size ≤ 140737488355328 ∧ a.t.size ≤ 140737488355328 := by
  obtain ⟨cs, rfl, _⟩ := okWide_struct Tryz.underlying24 hok
  obtain ⟨fuel, hf0⟩ := h
  obtain ⟨xs, n', hfu, hxe, hcl, hxl, hf⟩ := DataW.trod_struct Tryz.underlying24 hf0
  have hD : d = .agg (xs.map (·.1)) := congrArg Prod.fst hxe
  simp only [Value.cells] at hcl hf
  rw [co24] at hcl
  obtain ⟨c0, c1, c2, hcs⟩ := list_three hcl
  obtain ⟨x0, x1, x2, rfl⟩ := list_three hxl
  rw [hcs] at hf
  have g0 : DataW.trod enc Tryz.prog W 0 (fun _ => true) true n' 9 (([c0, c1, c2].drop 0).take (Tryz.prog.cellsOf 9)) = some x0 := hf 0 _ rfl
  have g1 : DataW.trod enc Tryz.prog W 0 (fun _ => true) true n' 9 (([c0, c1, c2].drop 1).take (Tryz.prog.cellsOf 9)) = some x1 := hf 1 _ rfl
  have g2 : DataW.trod enc Tryz.prog W 0 (fun _ => true) true n' 4 (([c0, c1, c2].drop 2).take (Tryz.prog.cellsOf 4)) = some x2 := hf 2 _ rfl
  rw [co9] at g0 g1
  rw [co4] at g2
  have hwi : ∀ (j : Nat) (t : TypeId) (y : DataW H), ([9, 9, 4] : List TypeId)[j]? = some t → ([x0.1, x1.1, x2.1] : List (DataW H))[j]? = some y → ∀ q ∈ y.weights Tryz.prog t, q ≤ reachBytes := fun j t y hj hy q hq => hw q (by
    rw [hD]
    simp only [DataW.weights, Tryz.underlying24]
    exact DataW.weights_mem_each (j := j) (t := t) hj hy q hq)
  obtain ⟨s0, e0, d0, _⟩ := DataW.trod_string Tryz.underlying9 (show DataW.trod enc Tryz.prog W 0 (fun _ => true) true n' 9 [c0] = some x0 from g0)
  obtain ⟨s1, e1, d1, _⟩ := DataW.trod_string Tryz.underlying9 (show DataW.trod enc Tryz.prog W 0 (fun _ => true) true n' 9 [c1] = some x1 from g1)
  obtain ⟨z2, e2, _⟩ := DataW.trod_bool Tryz.underlying4 (show DataW.trod enc Tryz.prog W 0 (fun _ => true) true n' 4 [c2] = some x2 from g2)
  simp only [List.cons.injEq, and_true] at e0 e1 e2
  have hs0 : s0.size ≤ 140737488355328 := by
    have := hwi 0 9 x0.1 rfl rfl s0.data.toList.length (by rw [d0]; simp [DataW.weights])
    rw [reach_eq] at this
    rw [Lib.size_eq]; omega
  have hs1 : s1.size ≤ 140737488355328 := by
    have := hwi 1 9 x1.1 rfl rfl s1.data.toList.length (by rw [d1]; simp [DataW.weights])
    rw [reach_eq] at this
    rw [Lib.size_eq]; omega
  subst e0 e1 e2
  obtain ⟨q⟩ := cs
  simp only at hcs
  subst hcs
  exact ⟨⟨s0, s1, z2⟩, rfl, hs0, hs1⟩
set_option maxRecDepth 20000 in
theorem strs_open {H : Type} {enc : TypeId × Value → H} {base : Nat} {W : World} (v : Value) (d : DataW H) (pl : List MemPlace) (hok : Value.okWide Tryz.prog W .any base 25 v)
    (h : DataW.Trod enc Tryz.prog W 0 (fun _ => true) true 25 v d pl) (hw : ∀ n ∈ d.weights Tryz.prog 25, n ≤ reachBytes) : ∃ (ka : Option Addr) (ks : List ByteArray) (kc : Nat), v = .slice ka ks.length kc ∧ Strs W.heap.size W ka ks ∧ ks.length ≤ 17592186044416 ∧ ∀ j (hj : j < ks.length), ks[j].size ≤ 140737488355328 := by
  obtain ⟨ka, kn, kc, rfl⟩ := okWide_slice Tryz.underlying25 hok
  obtain ⟨fuel, hf⟩ := h
  simp only [Value.cells] at hf
  rcases DataW.trod_slice Tryz.underlying25 hf with ⟨hcs, _⟩ | ⟨a, len, cap, elems, rest, n, hfn, hcs, hd, _, hl, hm, hlen, hel, hsp, hns⟩
  · simp at hcs
    obtain ⟨rfl, rfl, rfl⟩ := hcs
    exact ⟨none, [], 0, rfl, .inl rfl, by simp, fun j hj => absurd hj (by simp)⟩
  · simp at hcs
    obtain ⟨rfl, rfl, rfl⟩ := hcs
    have hd1 : d = .slice (elems.map (·.1)) (rest.map (·.1)) := congrArg Prod.fst hd
    have hwl : kn ≤ 17592186044416 := by
      have := hw (((elems.map (·.1)).length + (rest.map (·.1)).length) * Tryz.prog.bytesOf 9) (by rw [hd1]; simp [DataW.weights, Tryz.underlying25])
      rw [by9, reach_eq] at this
      simp at this
      omega
    have hwd : ∀ i (hi : i < elems.length), ∀ q ∈ (elems[i].1).weights Tryz.prog 9, q ≤ reachBytes := fun i hi q hq => hw q (by
      rw [hd1]
      simp only [DataW.weights, Tryz.underlying25, List.mem_cons, List.mem_append]
      exact .inr (.inl (weightsAll_mem (List.mem_map.2 ⟨elems[i], List.getElem_mem hi, rfl⟩) q hq)))
    have each : ∀ i, i < kn → ∃ z : ByteArray, W.cell? (a.add i) = some (.string z) ∧ z.size ≤ 140737488355328 := by
      intro i hi
      have hie : i < elems.length := by omega
      have h1 := hel i hi
      rw [co9, List.getElem?_eq_getElem hie] at h1
      obtain ⟨cs', q1, q2⟩ := Option.bind_eq_some_iff.1 h1
      obtain ⟨_, hlen', hcell⟩ := World.cells?_some q1
      obtain ⟨z, e, dz, _⟩ := DataW.trod_string Tryz.underlying9 q2
      have hc := hcell 0 (by omega)
      subst e
      refine ⟨z, by simpa [Addr.add] using hc, ?_⟩
      have := hwd i hie z.data.toList.length (by rw [dz]; simp [DataW.weights])
      rw [reach_eq] at this
      rw [Lib.size_eq]; omega
    obtain ⟨zs, hzl, hz⟩ := choose_list kn each
    refine ⟨some a, zs, kc, by rw [hzl], ?_, by omega, fun j hj => (hz j hj).2⟩
    rcases Nat.eq_zero_or_pos kn with h0 | h0
    · exact .inl (List.eq_nil_of_length_eq_zero (by omega))
    · obtain ⟨b, off, spot⟩ := a
      have hspot : spot = none := by simpa [Addr.add] using World.cell?_spot (hz 0 (by omega)).1
      subst hspot
      refine .inr ⟨b, off, rfl, ?_, fun j hj => ?_⟩
      · have := World.block_lt_of_cell? W _ (hz 0 (by omega)).1
        simpa [Addr.add] using this
      · have := (hz j hj).1
        rw [Go.WideShapes.add_plain] at this
        exact this

end Go.Proofs.YtgefbgpfjbbeaaaGreatDoor
