/- A schema that came in, opened: its cells (nothing is claimed here). -/
import Derived.Test.YtkjoomdglealmaaGreatDoorFldO
namespace Go.Proofs.YtkjoomdglealmaaGreatDoor
open Go.ChangeShapes Go.WideShapes Go.ChangeAt Go.RowKit Go.Deep Go.Vf

theorem so24 : Tryz.prog.cellsOf 24 = 2 := by kernel_rfl
set_option maxHeartbeats 2000000 in
set_option maxRecDepth 20000 in
theorem schema_trod {H : Type} {enc : TypeId × Value → H} {W : World} (fuel : Nat) (cs : List Value) (x : DataW H × List MemPlace) (h : DataW.trod enc Tryz.prog W 0 (fun _ => true) true fuel 24 cs = some x) (hw : ∀ n ∈ x.1.weights Tryz.prog 24, n ≤ reachBytes) :
    ∃ (z : Int) (l : List Fld) (a : Option Addr) (c : Nat), cs = [.int .i64 z, .slice a l.length c] ∧ l.length ≤ c ∧ FIn W 0 W.heap.size l a ∧ (∀ x ∈ l, FitsF 281474976710656 x) ∧ l.length ≤ 281474976710656 := by
  obtain ⟨xs, n', hfu, hxe, hcl, hxl, hf⟩ := DataW.trod_struct Tryz.underlying24 h
  have hD : x.1 = .agg (xs.map (·.1)) := congrArg Prod.fst hxe
  rw [so24] at hcl
  obtain ⟨c0, c1, rfl⟩ := list_two hcl
  obtain ⟨x0, x1, rfl⟩ := list_two hxl
  have g0 : DataW.trod enc Tryz.prog W 0 (fun _ => true) true n' 3 (([c0, c1].drop 0).take (Tryz.prog.cellsOf 3)) = some x0 := hf 0 _ rfl
  have g1 : DataW.trod enc Tryz.prog W 0 (fun _ => true) true n' 22 (([c0, c1].drop 1).take (Tryz.prog.cellsOf 22)) = some x1 := hf 1 _ rfl
  rw [fo3] at g0
  rw [fo22] at g1
  have hwi : ∀ (j : Nat) (t : TypeId) (y : DataW H), ([3, 22] : List TypeId)[j]? = some t → ([x0.1, x1.1] : List (DataW H))[j]? = some y → ∀ q ∈ y.weights Tryz.prog t, q ≤ reachBytes := fun j t y hj hy q hq => hw q (by
    rw [hD]
    simp only [DataW.weights, Tryz.underlying24]
    exact DataW.weights_mem_each (j := j) (t := t) hj hy q hq)
  obtain ⟨z0, e0, _, _⟩ := DataW.trod_int Tryz.underlying3 (show DataW.trod enc Tryz.prog W 0 (fun _ => true) true n' 3 [c0] = some x0 from g0)
  simp only [List.cons.injEq, and_true] at e0
  subst e0
  have g1 : DataW.trod enc Tryz.prog W 0 (fun _ => true) true n' 22 [c1] = some x1 := g1
  rcases DataW.trod_slice Tryz.underlying22 g1 with ⟨hcs, _⟩ | ⟨a, len, cap, elems, rest, n, hfn, hcs, hd, _, hl, hm, hlen, hel, hsp, hns⟩
  · simp only [List.cons.injEq, and_true] at hcs
    subst hcs
    exact ⟨z0, [], none, 0, rfl, Nat.le_refl _, .nil, (fun x hx => by cases hx), by simp⟩
  · simp only [List.cons.injEq, and_true] at hcs
    subst hcs
    have hd1 : x1.1 = .slice (elems.map (·.1)) (rest.map (·.1)) := congrArg Prod.fst hd
    have hwl : len ≤ 281474976710656 := by
      have := hwi 1 22 x1.1 rfl rfl (((elems.map (·.1)).length + (rest.map (·.1)).length) * Tryz.prog.bytesOf 57) (by
        rw [hd1]; simp [DataW.weights, Tryz.underlying22])
      rw [by57, reach_eq] at this
      simp at this
      omega
    have hwd : ∀ i (hi : i < elems.length), ∀ q ∈ (elems[i].1).weights Tryz.prog 57, q ≤ reachBytes := fun i hi q hq => hwi 1 22 x1.1 rfl rfl q (by
      rw [hd1]
      simp only [DataW.weights, Tryz.underlying22, List.mem_cons, List.mem_append]
      exact .inr (.inl (weightsAll_mem (List.mem_map.2 ⟨elems[i], List.getElem_mem hi, rfl⟩) q hq)))
    have hx : ∀ i, i < len → ∃ cs', W.cells? 0 (a.add (i * 14)) 14 = some cs' ∧ ∃ hi : i < elems.length, DataW.trod enc Tryz.prog W 0 (fun _ => true) true n 57 cs' = some elems[i] := by
      intro i hi
      have hie : i < elems.length := by omega
      have h1 := hel i hi
      rw [fo57, List.getElem?_eq_getElem hie] at h1
      obtain ⟨cs', q1, q2⟩ := Option.bind_eq_some_iff.1 h1
      exact ⟨cs', q1, hie, q2⟩
    rcases Nat.eq_zero_or_pos len with h0 | h0
    · subst h0
      exact ⟨z0, [], some a, cap, rfl, Nat.zero_le _, .nil, (fun x hx => by cases hx), by simp⟩
    obtain ⟨b, off, spot⟩ := a
    have hspot : spot = none := by
      obtain ⟨cs', h1, _⟩ := hx 0 (by omega)
      obtain ⟨_, hlen', hcell⟩ := World.cells?_some h1
      have hc := hcell 0 (by omega)
      obtain ⟨c0, c1, c2, c3, c4, c5, c6, c7, c8, c9, c10, c11, c12, c13, rfl⟩ := list_14 hlen'
      have := World.cell?_spot hc
      simpa [Addr.add] using this
    subst hspot
    have each : ∀ i, i < len → ∃ y : Fld × Option Addr × Nat, RowF W b (off + i * 14) y.1.own y.2.1 y.1.fields.length y.2.2 ∧ y.1.fields.length ≤ y.2.2 ∧ FIn W 0 W.heap.size y.1.fields y.2.1 ∧ FitsF 281474976710656 y.1 := by
      intro i hi
      obtain ⟨cs', h1, hie, h2⟩ := hx i (by omega)
      rw [Go.WideShapes.add_plain] at h1
      obtain ⟨_, hlen', hcell⟩ := World.cells?_some h1
      obtain ⟨o', l', a', c', e, hp1, hp, hfp⟩ := field_trod n n (Nat.le_refl _) cs' elems[i] h2 (hwd i hie)
      subst e
      have k : ∀ j (hj : j < 14), W.cell? ⟨b, off + i * 14 + j, none⟩ = (cellsF o' a' l'.length c').toList[j]? := fun j hj => by
        have q := hcell j (by simpa [cellsF] using hj)
        rw [Go.WideShapes.add_plain] at q
        rw [q]
      exact ⟨(.mk o' l', a', c'), ⟨k 0 (by omega), k 1 (by omega), k 2 (by omega), k 3 (by omega), k 4 (by omega), k 5 (by omega), k 6 (by omega), k 7 (by omega), k 8 (by omega), k 9 (by omega), k 10 (by omega), k 11 (by omega), k 12 (by omega), k 13 (by omega)⟩, hp1, hp, hfp⟩
    obtain ⟨L, hLl, hLz⟩ := choose_list len each
    refine ⟨z0, L.map (·.1), some ⟨b, off, none⟩, cap, ?_, by simp [hLl]; exact hl, ?_, (fun x hx => ?_), by simp [hLl]; omega⟩
    · simp [hLl]
    · have hq := (hLz 0 (by omega)).1.c0
      have hblk := World.block_lt_of_cell? W _ hq
      refine .cons (fun j => ((L[j]?).map (·.2.1)).getD none) (fun j => ((L[j]?).map (·.2.2)).getD 0) (by omega) hblk (fun j hj => ?_) (fun j hj => ?_) (fun j hj => ?_)
      · have hj' : j < L.length := by simpa using hj
        have := (hLz j hj').1
        simpa [hj'] using this
      · have hj' : j < L.length := by simpa using hj
        have := (hLz j hj').2.1
        simpa [hj'] using this
      · have hj' : j < L.length := by simpa using hj
        have := (hLz j hj').2.2.1
        simpa [hj'] using this
    · simp only [List.mem_map] at hx
      obtain ⟨y, hy, rfl⟩ := hx
      obtain ⟨i, hi, rfl⟩ := List.mem_iff_getElem.1 hy
      exact (hLz i hi).2.2.2


set_option maxRecDepth 20000 in
theorem schema_open {H : Type} {enc : TypeId × Value → H} {base : Nat} {W : World} (v : Value) (d : DataW H) (pl : List MemPlace) (hok : Value.okWide Tryz.prog W .any base 24 v)
    (h : DataW.Trod enc Tryz.prog W 0 (fun _ => true) true 24 v d pl) (hw : ∀ n ∈ d.weights Tryz.prog 24, n ≤ reachBytes) : ∃ (z : Int) (l : List Fld) (a : Option Addr) (c : Nat), v = .agg #[.int .i64 z, .slice a l.length c] ∧ l.length ≤ c ∧ FIn W 0 W.heap.size l a ∧ (∀ x ∈ l, FitsF 281474976710656 x) ∧ l.length ≤ 281474976710656 := by
  obtain ⟨cs, rfl, _⟩ := okWide_struct Tryz.underlying24 hok
  obtain ⟨fuel, hf⟩ := h
  obtain ⟨z, l, a, c, e, h1⟩ := schema_trod fuel _ _ hf hw
  refine ⟨z, l, a, c, ?_, h1⟩
  simp only [Value.cells] at e
  obtain ⟨q⟩ := cs
  simp only at e
  rw [e]
end Go.Proofs.YtkjoomdglealmaaGreatDoor
