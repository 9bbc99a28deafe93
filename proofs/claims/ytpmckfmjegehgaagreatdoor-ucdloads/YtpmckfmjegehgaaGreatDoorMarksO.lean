/- Lists of ints and of marks that came in, opened: their cells (nothing is claimed here). -/
import Derived.Test.YtpmckfmjegehgaaGreatDoorPrint
import Derived.ProofKit
import Derived.OpenShut
import Derived.Deep.Slices
import Derived.SizedLaws
namespace Go.Proofs.YtpmckfmjegehgaaGreatDoor
open Go.ChangeShapes Go.WideShapes Go.ChangeAt Go.RowKit Go.Deep Go.Vf

theorem cells3' : Tryz.prog.cellsOf 3 = 1 := by kernel_rfl
theorem cells22' : Tryz.prog.cellsOf 22 = 1 := by kernel_rfl
theorem cells36' : Tryz.prog.cellsOf 36 = 3 := by kernel_rfl
theorem bytes3' : Tryz.prog.bytesOf 3 = 8 := by kernel_rfl
theorem bytes36' : Tryz.prog.bytesOf 36 = 40 := by kernel_rfl
theorem reach_eq : reachBytes = 140737488351232 := rfl

theorem choose_list {α : Type} {P : Nat → α → Prop} : ∀ n, (∀ i, i < n → ∃ z, P i z) → ∃ zs : List α, zs.length = n ∧ ∀ i (h : i < zs.length), P i zs[i]
  | 0, _ => ⟨[], rfl, fun i h => absurd h (by simp)⟩
  | n + 1, h => by
    obtain ⟨zs, hl, hz⟩ := choose_list n (fun i hi => h i (by omega))
    obtain ⟨z, hzn⟩ := h n (by omega)
    refine ⟨zs ++ [z], by simp [hl], fun i hi => ?_⟩
    by_cases hin : i < n
    · rw [List.getElem_append_left (by omega)]; exact hz i (by omega)
    · obtain rfl : i = n := by simp [hl] at hi; omega
      rw [List.getElem_append_right (by omega)]
      simpa [hl] using hzn

set_option maxRecDepth 20000 in
theorem ints_trod {H : Type} {enc : TypeId × Value → H} {W : World} {fuel : Nat} {cs : List Value} {x : DataW H × List MemPlace} (h : DataW.trod enc Tryz.prog W 0 (fun _ => true) true fuel 22 cs = some x) (hw : ∀ n ∈ x.1.weights Tryz.prog 22, n ≤ reachBytes) :
    ∃ a len cap, cs = [.slice a len cap] ∧ ∃ zs : List Int, Ints W.heap.size W (.slice a len cap) zs ∧ zs.length ≤ 17592186044416 ∧ ∀ z ∈ zs, InI z := by
  rcases open_slice Tryz.underlying22 h with ⟨hcs, _⟩ | ⟨a, len, cap, m, n, D, Pl, hcs, _, hl, hm, hmm, hd, hx⟩
  · exact ⟨_, _, _, hcs, [], .inl ⟨_, _, rfl, rfl⟩, by simp, by simp⟩
  · subst hd
    have hwl : len ≤ 17592186044416 := by
      have := hw ((((List.range len).map D).length + ((List.range (m - len)).map fun j => D (len + j)).length) * Tryz.prog.bytesOf 3) (by simp [DataW.weights, Tryz.underlying22])
      rw [bytes3', reach_eq] at this
      simp at this
      omega
    simp at hmm
    rw [hmm] at hx
    clear hmm
    have each : ∀ i, i < len → ∃ z : Int, W.cell? (a.add i) = some (.int .i64 z) ∧ InI z := by
      intro i hi
      obtain ⟨cs', h1, h2⟩ := hx i (by omega)
      rw [cells3'] at h1
      obtain ⟨_, hlen, hcell⟩ := World.cells?_some h1
      obtain ⟨z, e, _, hwf⟩ := DataW.trod_int Tryz.underlying3 h2
      have := hcell 0 (by omega)
      subst e
      refine ⟨z, by simpa [Addr.add] using this, ?_⟩
      have := bounds_i64 hwf
      unfold InI
      omega
    obtain ⟨zs, hzl, hz⟩ := choose_list len each
    refine ⟨_, _, _, hcs, zs, ?_, by omega, fun z hzm => ?_⟩
    · rcases Nat.eq_zero_or_pos len with h0 | h0
      · subst h0
        exact .inl ⟨_, _, rfl, List.eq_nil_of_length_eq_zero hzl⟩
      · obtain ⟨b, off, spot⟩ := a
        have hspot : spot = none := by simpa [Addr.add] using World.cell?_spot (hz 0 (by omega)).1
        subst hspot
        refine .inr ⟨b, off, cap, by rw [hzl], ?_, fun j hj => ?_⟩
        · have := World.block_lt_of_cell? W _ (hz 0 (by omega)).1
          simpa [Addr.add] using this
        · have := (hz j hj).1
          rw [Go.WideShapes.add_plain] at this
          rw [this]
          simp [hj]
    · obtain ⟨i, hi, rfl⟩ := List.mem_iff_getElem.1 hzm
      exact (hz i hi).2

theorem ints_open {H : Type} {enc : TypeId × Value → H} {W : World} (v : Value) (d : DataW H) (pl : List MemPlace)
    (h : DataW.Trod enc Tryz.prog W 0 (fun _ => true) true 22 v d pl) (hok : ∃ a len cap, v = .slice a len cap) (hw : ∀ n ∈ d.weights Tryz.prog 22, n ≤ reachBytes) : ∃ zs : List Int, Ints W.heap.size W v zs ∧ zs.length ≤ 17592186044416 ∧ ∀ z ∈ zs, InI z := by
  obtain ⟨a0, len0, cap0, rfl⟩ := hok
  obtain ⟨fuel, hf⟩ := h
  obtain ⟨a, len, cap, hcs, zs, h1, h2, h3⟩ := ints_trod hf hw
  simp [Value.cells] at hcs
  obtain ⟨rfl, rfl, rfl⟩ := hcs
  exact ⟨zs, h1, h2, h3⟩

def PMIn (m : PM) : Prop := InI m.point ∧ InI m.cls ∧ (∀ z ∈ m.parts, InI z) ∧ m.parts.length ≤ 17592186044416
theorem weightsAll_mem {H : Type} {P : Program} {e : TypeId} : ∀ {l : List (DataW H)} {d : DataW H}, d ∈ l → ∀ n ∈ d.weights P e, n ∈ DataW.weightsAll P e l
  | d' :: r, d, hd, n, hn => by
    simp only [DataW.weightsAll, List.mem_append]
    rcases List.mem_cons.1 hd with rfl | h
    · exact Or.inl hn
    · exact Or.inr (weightsAll_mem h n hn)

theorem list_three {α : Type} {l : List α} (h : l.length = 3) : ∃ a b c, l = [a, b, c] := by
  match l, h with
  | [a, b, c], _ => exact ⟨a, b, c, rfl⟩

set_option maxRecDepth 20000 in
theorem marks_open {H : Type} {enc : TypeId × Value → H} {base : Nat} {W : World} (v : Value) (d : DataW H) (pl : List MemPlace) (hok : Value.okWide Tryz.prog W .any base 27 v)
    (h : DataW.Trod enc Tryz.prog W 0 (fun _ => true) true 27 v d pl) (hw : ∀ n ∈ d.weights Tryz.prog 27, n ≤ reachBytes) : ∃ l : List PM, MIn W.heap.size W v l ∧ l.length ≤ 17592186044416 ∧ ∀ m ∈ l, PMIn m := by
  obtain ⟨a0, len0, cap0, rfl⟩ := okWide_slice Tryz.underlying27 hok
  obtain ⟨fuel, hf⟩ := h
  rcases open_slice Tryz.underlying27 hf with ⟨hcs, _⟩ | ⟨a, len, cap, m, n, D, Pl, hcs, _, hl, hm, hmm, hd, hx⟩
  · simp [Value.cells] at hcs
    obtain ⟨rfl, rfl, rfl⟩ := hcs
    exact ⟨[], .inl ⟨_, _, rfl, rfl⟩, by simp, by simp⟩
  · simp [Value.cells] at hcs
    obtain ⟨rfl, rfl, rfl⟩ := hcs
    simp only [Prod.mk.injEq] at hd
    obtain ⟨hd, _⟩ := hd
    subst hd
    have hwl : len0 ≤ 17592186044416 := by
      have := hw ((((List.range len0).map D).length + ((List.range (m - len0)).map fun j => D (len0 + j)).length) * Tryz.prog.bytesOf 36) (by simp [DataW.weights, Tryz.underlying27])
      rw [bytes36', reach_eq] at this
      simp at this
      omega
    have hwd : ∀ i, i < len0 → ∀ q ∈ (D i).weights Tryz.prog 36, q ≤ reachBytes := fun i hi q hq => hw q (by
      simp only [DataW.weights, Tryz.underlying27, List.mem_cons, List.mem_append]
      exact .inr (.inl (weightsAll_mem (List.mem_map.2 ⟨i, List.mem_range.2 hi, rfl⟩) q hq)))
    simp at hmm
    rw [hmm] at hx
    clear hmm hw
    rcases Nat.eq_zero_or_pos len0 with h0 | h0
    · subst h0
      exact ⟨[], .inl ⟨_, _, rfl, rfl⟩, by simp, by simp⟩
    obtain ⟨b, off, spot⟩ := a
    have hspot : spot = none := by
      obtain ⟨cs', h1, _⟩ := hx 0 (by omega)
      rw [cells36'] at h1
      obtain ⟨_, hlen, hcell⟩ := World.cells?_some h1
      have hc := hcell 0 (by omega)
      obtain ⟨c0, c1, c2, rfl⟩ := list_three hlen
      have := World.cell?_spot hc
      simpa [Addr.add] using this
    subst hspot
    have each : ∀ i, i < len0 → ∃ x : PM, PMIn x ∧ ∃ pa pk pc, W.cell? ⟨b, off + i * 3, none⟩ = some (.int .i64 x.point) ∧ W.cell? ⟨b, off + i * 3 + 1, none⟩ = some (.int .i64 x.cls) ∧ W.cell? ⟨b, off + i * 3 + 2, none⟩ = some (.slice pa pk pc) ∧ Ints W.heap.size W (.slice pa pk pc) x.parts := by
      intro i hi
      obtain ⟨cs', h1, h2⟩ := hx i (by omega)
      rw [cells36', Go.WideShapes.add_plain] at h1
      obtain ⟨_, hlen, hcell⟩ := World.cells?_some h1
      obtain ⟨xs, n', _, hxe, _, hxl, hf⟩ := DataW.trod_struct Tryz.underlying36 h2
      have hDi : D i = .agg (xs.map (·.1)) := congrArg Prod.fst hxe
      obtain ⟨c0, c1, c2, rfl⟩ := list_three hlen
      obtain ⟨x0, x1, x2, rfl⟩ := list_three hxl
      have g0 : DataW.trod enc Tryz.prog W 0 (fun _ => true) true n' 3 (([c0, c1, c2].drop 0).take (Tryz.prog.cellsOf 3)) = some x0 := hf 0 _ rfl
      have g1 : DataW.trod enc Tryz.prog W 0 (fun _ => true) true n' 3 (([c0, c1, c2].drop 1).take (Tryz.prog.cellsOf 3)) = some x1 := hf 1 _ rfl
      have g2 : DataW.trod enc Tryz.prog W 0 (fun _ => true) true n' 22 (([c0, c1, c2].drop 2).take (Tryz.prog.cellsOf 22)) = some x2 := hf 2 _ rfl
      rw [cells3'] at g0 g1
      rw [cells22'] at g2
      obtain ⟨z0, e0, _, w0⟩ := DataW.trod_int Tryz.underlying3 (show DataW.trod enc Tryz.prog W 0 (fun _ => true) true n' 3 [c0] = some x0 from g0)
      obtain ⟨z1, e1, _, w1⟩ := DataW.trod_int Tryz.underlying3 (show DataW.trod enc Tryz.prog W 0 (fun _ => true) true n' 3 [c1] = some x1 from g1)
      have hwx : ∀ q ∈ x2.1.weights Tryz.prog 22, q ≤ reachBytes := fun q hq => hwd i hi q (by
        rw [hDi]
        simp only [DataW.weights, Tryz.underlying36]
        exact DataW.weights_mem_each (j := 2) (t := 22) rfl rfl q hq)
      obtain ⟨pa, pk, pc, e2, zs, i1, i2, i3⟩ := ints_trod (show DataW.trod enc Tryz.prog W 0 (fun _ => true) true n' 22 [c2] = some x2 from g2) hwx
      simp only [List.cons.injEq, and_true] at e0 e1 e2
      have k0 := hcell 0 (by simp)
      have k1 := hcell 1 (by simp)
      have k2 := hcell 2 (by simp)
      rw [Go.WideShapes.add_plain] at k0 k1 k2
      subst e0 e1 e2
      have v0 := bounds_i64 w0
      have v1 := bounds_i64 w1
      refine ⟨⟨z0, z1, zs⟩, ⟨by unfold InI; simp only; omega, by unfold InI; simp only; omega, i3, i2⟩, pa, pk, pc, ?_, ?_, ?_, i1⟩
      · simpa using k0
      · simpa using k1
      · simpa using k2
    obtain ⟨l, hll, hlz⟩ := choose_list len0 each
    refine ⟨l, ?_, by omega, fun x hx => ?_⟩
    · obtain ⟨_, pa, pk, pc, q0, q1, q2, q3⟩ := hlz 0 (by omega)
      refine .inr ⟨b, off, cap0, by rw [hll], World.block_lt_of_cell? W _ q0, fun j hj => ?_⟩
      obtain ⟨_, pa, pk, pc, q0, q1, q2, q3⟩ := hlz j hj
      exact ⟨pa, pk, pc, q0, q1, q2, q3⟩
    · obtain ⟨i, hi, rfl⟩ := List.mem_iff_getElem.1 hx
      exact (hlz i hi).1

end Go.Proofs.YtpmckfmjegehgaaGreatDoor
