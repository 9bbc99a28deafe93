/- Lists of ints, of elements and of entries that came in, opened: their cells (nothing is claimed here). -/
import Derived.Test.YtfeppbiodbhpcaaDoorEntA
import Derived.ProofKit
import Derived.OpenShut
import Derived.Deep.Slices
import Derived.SizedLaws
namespace Go.Proofs.YtfeppbiodbhpcaaDoor
open Go.ChangeShapes Go.WideShapes Go.ChangeAt Go.RowKit Go.Deep Go.Vf

theorem cells34' : Tryd.prog.cellsOf 34 = 1 := by kernel_rfl
theorem cells35' : Tryd.prog.cellsOf 35 = 1 := by kernel_rfl
theorem cells37' : Tryd.prog.cellsOf 37 = 2 := by kernel_rfl
theorem cells49' : Tryd.prog.cellsOf 49 = 4 := by kernel_rfl
theorem cells4' : Tryd.prog.cellsOf 4 = 1 := by kernel_rfl
theorem bytes3' : Tryd.prog.bytesOf 3 = 8 := by kernel_rfl
theorem bytes37' : Tryd.prog.bytesOf 37 = 48 := by kernel_rfl
theorem bytes49' : Tryd.prog.bytesOf 49 = 32 := by kernel_rfl
theorem reach_eq : reachBytes = 140737488351232 := rfl

theorem choose_list {α : Type} {P : Nat → α → Prop} : ∀ n, (∀ i, i < n → ∃ z, P i z) → ∃ zs : List α, zs.length = n ∧ ∀ i (h : i < zs.length), P i zs[i]
  | 0, _ => ⟨[], rfl, fun i h => absurd h (by simp)⟩
  | n + 1, h => by
    obtain ⟨zs, hl, hz⟩ := choose_list n (fun i hi => h i (by omega))
    obtain ⟨z, hzn⟩ := h n (by omega)
    refine ⟨zs ++ [z], by simp [hl], fun i hi => ?_⟩
    by_cases hin : i < n
    · rw [List.getElem_append_left (by omega)]; exact hz i (by omega)
    · obtain rfl : i = n := by simp [hl] at hi; omega
      rw [List.getElem_append_right (by omega)]
      simpa [hl] using hzn

set_option maxRecDepth 20000 in
theorem ints_trod {H : Type} {enc : TypeId × Value → H} {W : World} {fuel : Nat} {cs : List Value} {x : DataW H × List MemPlace} (h : DataW.trod enc Tryd.prog W 0 (fun _ => true) true fuel 34 cs = some x) (hw : ∀ n ∈ x.1.weights Tryd.prog 34, n ≤ reachBytes) :
    ∃ a len cap, cs = [.slice a len cap] ∧ ∃ zs : List Int, Ints W.heap.size W (.slice a len cap) zs ∧ zs.length ≤ 17592186044416 ∧ ∀ z ∈ zs, InI z := by
  rcases open_slice Tryd.underlying34 h with ⟨hcs, _⟩ | ⟨a, len, cap, m, n, D, Pl, hcs, _, hl, hm, hmm, hd, hx⟩
  · exact ⟨_, _, _, hcs, [], .inl ⟨_, _, rfl, rfl⟩, by simp, by simp⟩
  · subst hd
    have hwl : len ≤ 17592186044416 := by
      have := hw ((((List.range len).map D).length + ((List.range (m - len)).map fun j => D (len + j)).length) * Tryd.prog.bytesOf 3) (by simp [DataW.weights, Tryd.underlying34])
      rw [bytes3', reach_eq] at this
      simp at this
      omega
    simp at hmm
    rw [hmm] at hx
    clear hmm
    have each : ∀ i, i < len → ∃ z : Int, W.cell? (a.add i) = some (.int .i64 z) ∧ InI z := by
      intro i hi
      obtain ⟨cs', h1, h2⟩ := hx i (by omega)
      rw [cells3] at h1
      obtain ⟨_, hlen, hcell⟩ := World.cells?_some h1
      obtain ⟨z, e, _, hwf⟩ := DataW.trod_int Tryd.underlying3 h2
      have := hcell 0 (by omega)
      subst e
      refine ⟨z, by simpa [Addr.add] using this, ?_⟩
      have := bounds_i64 hwf
      unfold InI
      omega
    obtain ⟨zs, hzl, hz⟩ := choose_list len each
    refine ⟨_, _, _, hcs, zs, ?_, by omega, fun z hzm => ?_⟩
    · rcases Nat.eq_zero_or_pos len with h0 | h0
      · subst h0
        exact .inl ⟨_, _, rfl, List.eq_nil_of_length_eq_zero hzl⟩
      · obtain ⟨b, off, spot⟩ := a
        have hspot : spot = none := by simpa [Addr.add] using World.cell?_spot (hz 0 (by omega)).1
        subst hspot
        refine .inr ⟨b, off, cap, by rw [hzl], ?_, fun j hj => ?_⟩
        · have := World.block_lt_of_cell? W _ (hz 0 (by omega)).1
          simpa [Addr.add] using this
        · have := (hz j hj).1
          rw [Go.WideShapes.add_plain] at this
          rw [this]
          simp [hj]
    · obtain ⟨i, hi, rfl⟩ := List.mem_iff_getElem.1 hzm
      exact (hz i hi).2

theorem weightsAll_mem {H : Type} {P : Program} {e : TypeId} : ∀ {l : List (DataW H)} {d : DataW H}, d ∈ l → ∀ n ∈ d.weights P e, n ∈ DataW.weightsAll P e l
  | d' :: r, d, hd, n, hn => by
    simp only [DataW.weightsAll, List.mem_append]
    rcases List.mem_cons.1 hd with rfl | h
    · exact Or.inl hn
    · exact Or.inr (weightsAll_mem h n hn)
theorem list_two {α : Type} {l : List α} (h : l.length = 2) : ∃ a b, l = [a, b] := by
  match l, h with
  | [a, b], _ => exact ⟨a, b, rfl⟩
theorem list_four {α : Type} {l : List α} (h : l.length = 4) : ∃ a b c d, l = [a, b, c, d] := by
  match l, h with
  | [a, b, c, d], _ => exact ⟨a, b, c, d, rfl⟩
def ElIn (e : El) : Prop := InI e.pr ∧ InI e.se ∧ InI e.te

set_option maxRecDepth 20000 in
theorem els_trod {H : Type} {enc : TypeId × Value → H} {W : World} {fuel : Nat} {cs : List Value} {x : DataW H × List MemPlace} (h : DataW.trod enc Tryd.prog W 0 (fun _ => true) true fuel 35 cs = some x) (hw : ∀ n ∈ x.1.weights Tryd.prog 35, n ≤ reachBytes) :
    ∃ a len cap, cs = [.slice a len cap] ∧ ∃ l : List El, Els W.heap.size W (.slice a len cap) l ∧ l.length ≤ 17592186044416 ∧ ∀ e ∈ l, ElIn e := by
  rcases open_slice Tryd.underlying35 h with ⟨hcs, _⟩ | ⟨a, len, cap, m, n, D, Pl, hcs, _, hl, hm, hmm, hd, hx⟩
  · exact ⟨_, _, _, hcs, [], .inl ⟨_, _, rfl, rfl⟩, by simp, by simp⟩
  · subst hd
    have hwl : len ≤ 17592186044416 := by
      have := hw ((((List.range len).map D).length + ((List.range (m - len)).map fun j => D (len + j)).length) * Tryd.prog.bytesOf 49) (by simp [DataW.weights, Tryd.underlying35])
      rw [bytes49', reach_eq] at this
      simp at this
      omega
    simp at hmm
    rw [hmm] at hx
    clear hmm
    rcases Nat.eq_zero_or_pos len with h0 | h0
    · subst h0
      exact ⟨_, _, _, hcs, [], .inl ⟨_, _, rfl, rfl⟩, by simp, by simp⟩
    obtain ⟨b, off, spot⟩ := a
    have hspot : spot = none := by
      obtain ⟨cs', h1, _⟩ := hx 0 (by omega)
      rw [cells49'] at h1
      obtain ⟨_, hlen, hcell⟩ := World.cells?_some h1
      have hc := hcell 0 (by omega)
      obtain ⟨c0, c1, c2, c3, rfl⟩ := list_four hlen
      have := World.cell?_spot hc
      simpa [Addr.add] using this
    subst hspot
    have each : ∀ i, i < len → ∃ x : El, ElIn x ∧ W.cell? ⟨b, off + i * 4, none⟩ = some (.bool x.va) ∧ W.cell? ⟨b, off + i * 4 + 1, none⟩ = some (.int .i64 x.pr) ∧ W.cell? ⟨b, off + i * 4 + 2, none⟩ = some (.int .i64 x.se) ∧ W.cell? ⟨b, off + i * 4 + 3, none⟩ = some (.int .i64 x.te) := by
      intro i hi
      obtain ⟨cs', h1, h2⟩ := hx i (by omega)
      rw [cells49', Go.WideShapes.add_plain] at h1
      obtain ⟨_, hlen, hcell⟩ := World.cells?_some h1
      obtain ⟨xs, n', _, hxe, _, hxl, hf⟩ := DataW.trod_struct Tryd.underlying49 h2
      obtain ⟨c0, c1, c2, c3, rfl⟩ := list_four hlen
      obtain ⟨x0, x1, x2, x3, rfl⟩ := list_four hxl
      have g0 : DataW.trod enc Tryd.prog W 0 (fun _ => true) true n' 4 (([c0, c1, c2, c3].drop 0).take (Tryd.prog.cellsOf 4)) = some x0 := hf 0 _ rfl
      have g1 : DataW.trod enc Tryd.prog W 0 (fun _ => true) true n' 3 (([c0, c1, c2, c3].drop 1).take (Tryd.prog.cellsOf 3)) = some x1 := hf 1 _ rfl
      have g2 : DataW.trod enc Tryd.prog W 0 (fun _ => true) true n' 3 (([c0, c1, c2, c3].drop 2).take (Tryd.prog.cellsOf 3)) = some x2 := hf 2 _ rfl
      have g3 : DataW.trod enc Tryd.prog W 0 (fun _ => true) true n' 3 (([c0, c1, c2, c3].drop 3).take (Tryd.prog.cellsOf 3)) = some x3 := hf 3 _ rfl
      rw [cells3] at g1 g2 g3
      rw [cells4'] at g0
      obtain ⟨z0, e0, _⟩ := DataW.trod_bool Tryd.underlying4 (show DataW.trod enc Tryd.prog W 0 (fun _ => true) true n' 4 [c0] = some x0 from g0)
      obtain ⟨z1, e1, _, w1⟩ := DataW.trod_int Tryd.underlying3 (show DataW.trod enc Tryd.prog W 0 (fun _ => true) true n' 3 [c1] = some x1 from g1)
      obtain ⟨z2, e2, _, w2⟩ := DataW.trod_int Tryd.underlying3 (show DataW.trod enc Tryd.prog W 0 (fun _ => true) true n' 3 [c2] = some x2 from g2)
      obtain ⟨z3, e3, _, w3⟩ := DataW.trod_int Tryd.underlying3 (show DataW.trod enc Tryd.prog W 0 (fun _ => true) true n' 3 [c3] = some x3 from g3)
      simp only [List.cons.injEq, and_true] at e0 e1 e2 e3
      have k0 := hcell 0 (by simp)
      have k1 := hcell 1 (by simp)
      have k2 := hcell 2 (by simp)
      have k3 := hcell 3 (by simp)
      rw [Go.WideShapes.add_plain] at k0 k1 k2 k3
      subst e0 e1 e2 e3
      have v1 := bounds_i64 w1
      have v2 := bounds_i64 w2
      have v3 := bounds_i64 w3
      refine ⟨⟨z0, z1, z2, z3⟩, ⟨by unfold InI; simp only; omega, by unfold InI; simp only; omega, by unfold InI; simp only; omega⟩, ?_, ?_, ?_, ?_⟩
      · simpa using k0
      · simpa using k1
      · simpa using k2
      · simpa using k3
    obtain ⟨l, hll, hlz⟩ := choose_list len each
    refine ⟨_, _, _, hcs, l, ?_, by omega, fun x hx => ?_⟩
    · obtain ⟨_, q0, _⟩ := hlz 0 (by omega)
      exact .inr ⟨b, off, cap, by rw [hll], World.block_lt_of_cell? W _ q0, fun j hj => (hlz j hj).2⟩
    · obtain ⟨i, hi, rfl⟩ := List.mem_iff_getElem.1 hx
      exact (hlz i hi).1

def EntIn (x : Ent) : Prop := (∀ z ∈ x.1, InI z) ∧ (∀ e ∈ x.2, ElIn e) ∧ x.1.length ≤ 17592186044416 ∧ x.2.length ≤ 17592186044416
set_option maxRecDepth 20000 in
theorem ents_open {H : Type} {enc : TypeId × Value → H} {base : Nat} {W : World} (v : Value) (d : DataW H) (pl : List MemPlace) (hok : Value.okWide Tryd.prog W .any base 27 v)
    (h : DataW.Trod enc Tryd.prog W 0 (fun _ => true) true 27 v d pl) (hw : ∀ n ∈ d.weights Tryd.prog 27, n ≤ reachBytes) : ∃ l : List Ent, EIn W.heap.size W v l ∧ l.length ≤ 17592186044416 ∧ ∀ x ∈ l, EntIn x := by
  obtain ⟨a0, len0, cap0, rfl⟩ := okWide_slice Tryd.underlying27 hok
  obtain ⟨fuel, hf⟩ := h
  rcases open_slice Tryd.underlying27 hf with ⟨hcs, _⟩ | ⟨a, len, cap, m, n, D, Pl, hcs, _, hl, hm, hmm, hd, hx⟩
  · simp [Value.cells] at hcs
    obtain ⟨rfl, rfl, rfl⟩ := hcs
    exact ⟨[], .inl ⟨_, _, rfl, rfl⟩, by simp, by simp⟩
  · simp [Value.cells] at hcs
    obtain ⟨rfl, rfl, rfl⟩ := hcs
    simp only [Prod.mk.injEq] at hd
    obtain ⟨hd, _⟩ := hd
    subst hd
    have hwl : len0 ≤ 17592186044416 := by
      have := hw ((((List.range len0).map D).length + ((List.range (m - len0)).map fun j => D (len0 + j)).length) * Tryd.prog.bytesOf 37) (by simp [DataW.weights, Tryd.underlying27])
      rw [bytes37', reach_eq] at this
      simp at this
      omega
    have hwd : ∀ i, i < len0 → ∀ q ∈ (D i).weights Tryd.prog 37, q ≤ reachBytes := fun i hi q hq => hw q (by
      simp only [DataW.weights, Tryd.underlying27, List.mem_cons, List.mem_append]
      exact .inr (.inl (weightsAll_mem (List.mem_map.2 ⟨i, List.mem_range.2 hi, rfl⟩) q hq)))
    simp at hmm
    rw [hmm] at hx
    clear hmm hw
    rcases Nat.eq_zero_or_pos len0 with h0 | h0
    · subst h0
      exact ⟨[], .inl ⟨_, _, rfl, rfl⟩, by simp, by simp⟩
    obtain ⟨b, off, spot⟩ := a
    have hspot : spot = none := by
      obtain ⟨cs', h1, _⟩ := hx 0 (by omega)
      rw [cells37'] at h1
      obtain ⟨_, hlen, hcell⟩ := World.cells?_some h1
      have hc := hcell 0 (by omega)
      obtain ⟨c0, c1, rfl⟩ := list_two hlen
      have := World.cell?_spot hc
      simpa [Addr.add] using this
    subst hspot
    have each : ∀ i, i < len0 → ∃ x : Ent, EntIn x ∧ ∃ pa pc ea ec, W.cell? ⟨b, off + i * 2, none⟩ = some (.slice pa x.1.length pc) ∧ W.cell? ⟨b, off + i * 2 + 1, none⟩ = some (.slice ea x.2.length ec) ∧ Ints W.heap.size W (.slice pa x.1.length pc) x.1 ∧ Els W.heap.size W (.slice ea x.2.length ec) x.2 := by
      intro i hi
      obtain ⟨cs', h1, h2⟩ := hx i (by omega)
      rw [cells37', Go.WideShapes.add_plain] at h1
      obtain ⟨_, hlen, hcell⟩ := World.cells?_some h1
      obtain ⟨xs, n', _, hxe, _, hxl, hf⟩ := DataW.trod_struct Tryd.underlying37 h2
      have hDi : D i = .agg (xs.map (·.1)) := congrArg Prod.fst hxe
      obtain ⟨c0, c1, rfl⟩ := list_two hlen
      obtain ⟨x0, x1, rfl⟩ := list_two hxl
      have g0 : DataW.trod enc Tryd.prog W 0 (fun _ => true) true n' 34 (([c0, c1].drop 0).take (Tryd.prog.cellsOf 34)) = some x0 := hf 0 _ rfl
      have g1 : DataW.trod enc Tryd.prog W 0 (fun _ => true) true n' 35 (([c0, c1].drop 1).take (Tryd.prog.cellsOf 35)) = some x1 := hf 1 _ rfl
      rw [cells34'] at g0
      rw [cells35'] at g1
      have hw0 : ∀ q ∈ x0.1.weights Tryd.prog 34, q ≤ reachBytes := fun q hq => hwd i hi q (by
        rw [hDi]
        simp only [DataW.weights, Tryd.underlying37]
        exact DataW.weights_mem_each (j := 0) (t := 34) rfl rfl q hq)
      have hw1 : ∀ q ∈ x1.1.weights Tryd.prog 35, q ≤ reachBytes := fun q hq => hwd i hi q (by
        rw [hDi]
        simp only [DataW.weights, Tryd.underlying37]
        exact DataW.weights_mem_each (j := 1) (t := 35) rfl rfl q hq)
      obtain ⟨pa, pk, pc, e0, zs, i1, i2, i3⟩ := ints_trod (show DataW.trod enc Tryd.prog W 0 (fun _ => true) true n' 34 [c0] = some x0 from g0) hw0
      obtain ⟨ea, ek, ec, e1, l, j1, j2, j3⟩ := els_trod (show DataW.trod enc Tryd.prog W 0 (fun _ => true) true n' 35 [c1] = some x1 from g1) hw1
      simp only [List.cons.injEq, and_true] at e0 e1
      have k0 := hcell 0 (by simp)
      have k1 := hcell 1 (by simp)
      rw [Go.WideShapes.add_plain] at k0 k1
      subst e0 e1
      obtain ⟨a', c', q0⟩ := ints_val i1
      obtain ⟨a2, c2, q1⟩ := j1.val
      simp only [Value.slice.injEq] at q0 q1
      obtain ⟨_, rfl, _⟩ := q0
      obtain ⟨_, rfl, _⟩ := q1
      refine ⟨(zs, l), ⟨i3, j3, i2, j2⟩, pa, pc, ea, ec, ?_, ?_, i1, j1⟩
      · simpa using k0
      · simpa using k1
    obtain ⟨l, hll, hlz⟩ := choose_list len0 each
    refine ⟨l, ?_, by omega, fun x hx => ?_⟩
    · obtain ⟨_, pa, pc, ea, ec, q0, q1, q2, q3⟩ := hlz 0 (by omega)
      exact .inr ⟨b, off, cap0, by rw [hll], World.block_lt_of_cell? W _ q0, fun j hj => (hlz j hj).2⟩
    · obtain ⟨i, hi, rfl⟩ := List.mem_iff_getElem.1 hx
      exact (hlz i hi).1
end Go.Proofs.YtfeppbiodbhpcaaDoor
