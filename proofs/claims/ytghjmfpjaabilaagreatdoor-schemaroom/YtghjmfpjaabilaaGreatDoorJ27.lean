/- Contracts and lemmas (nothing is claimed here). -/
import Derived.Test.YtghjmfpjaabilaaGreatDoorJ8
import Derived.Test.YtghjmfpjaabilaaGreatDoorJ2
import Derived.Test.YtghjmfpjaabilaaGreatDoorJ22
import Derived.Lib.ItoaLen
import Derived.Test.YtghjmfpjaabilaaGreatDoorJ25
import Derived.Test.YtghjmfpjaabilaaGreatDoorJ12
namespace Go.Proofs.YtghjmfpjaabilaaGreatDoor
open Go.ChangeShapes Go.WideShapes Go.ChangeAt Go.RowKit Go.Deep Go.Vf

theorem fo57 : Tryz.prog.cellsOf 49 = 14 := by kernel_rfl
theorem fo9 : Tryz.prog.cellsOf 9 = 1 := by kernel_rfl
theorem fo25 : Tryz.prog.cellsOf 42 = 1 := by kernel_rfl
theorem fo4 : Tryz.prog.cellsOf 4 = 1 := by kernel_rfl
theorem fo53 : Tryz.prog.cellsOf 43 = 1 := by kernel_rfl
theorem fo27 : Tryz.prog.cellsOf 45 = 2 := by kernel_rfl
theorem fo3 : Tryz.prog.cellsOf 3 = 1 := by kernel_rfl
theorem fo55 : Tryz.prog.cellsOf 47 = 3 := by kernel_rfl
theorem fo22 : Tryz.prog.cellsOf 22 = 1 := by kernel_rfl
theorem by57 : Tryz.prog.bytesOf 49 = 120 := by kernel_rfl
theorem list_ten {α : Type} {l : List α} (h : l.length = 10) : ∃ a b c d e f g h i j, l = [a, b, c, d, e, f, g, h, i, j] := by
  match l, h with
  | [a, b, c, d, e, f, g, h, i, j], _ => exact ⟨a, b, c, d, e, f, g, h, i, j, rfl⟩
theorem list_14 {α : Type} {l : List α} (h : l.length = 14) : ∃ a b c d e f g h i j k m n o, l = [a, b, c, d, e, f, g, h, i, j, k, m, n, o] := by
  match l, h with
  | [a, b, c, d, e, f, g, h, i, j, k, m, n, o], _ => exact ⟨a, b, c, d, e, f, g, h, i, j, k, m, n, o, rfl⟩
theorem list_three {α : Type} {l : List α} (h : l.length = 3) : ∃ a b c, l = [a, b, c] := by
  match l, h with
  | [a, b, c], _ => exact ⟨a, b, c, rfl⟩
section
variable {H : Type} {enc : TypeId × Value → H} {W : World} {n : Nat}
theorem num_trod {c d : Value} {x : DataW H × List MemPlace} (h : DataW.trod enc Tryz.prog W 0 (fun _ => true) true n 45 [c, d] = some x) (hw : ∀ q ∈ x.1.weights Tryz.prog 45, q ≤ reachBytes) : ∃ z s, c = .bool z ∧ d = .string s ∧ s.size ≤ 281474976710656 := by
  obtain ⟨ys, n2, _, hye, _, hyl, hy⟩ := DataW.trod_struct Tryz.underlying45 h
  obtain ⟨y0, y1, rfl⟩ := list_two hyl
  have k0 : DataW.trod enc Tryz.prog W 0 (fun _ => true) true n2 4 (([c, d].drop 0).take (Tryz.prog.cellsOf 4)) = some y0 := hy 0 _ rfl
  have k1 : DataW.trod enc Tryz.prog W 0 (fun _ => true) true n2 9 (([c, d].drop 1).take (Tryz.prog.cellsOf 9)) = some y1 := hy 1 _ rfl
  rw [fo4] at k0
  rw [fo9] at k1
  obtain ⟨z2, e2, _⟩ := DataW.trod_bool Tryz.underlying4 (show DataW.trod enc Tryz.prog W 0 (fun _ => true) true n2 4 [c] = some y0 from k0)
  obtain ⟨s3, e3, d3, _⟩ := DataW.trod_string Tryz.underlying9 (show DataW.trod enc Tryz.prog W 0 (fun _ => true) true n2 9 [d] = some y1 from k1)
  simp only [List.cons.injEq, and_true] at e2 e3
  refine ⟨z2, s3, e2, e3, ?_⟩
  have := hw s3.data.toList.length (by
    rw [show x.1 = .agg ([y0, y1].map (·.1)) from congrArg Prod.fst hye]
    simp only [DataW.weights, Tryz.underlying45]
    refine DataW.weights_mem_each (j := 1) (t := 9) rfl rfl _ ?_
    rw [d3]; simp [DataW.weights])
  rw [reach_eq] at this
  rw [Lib.size_eq]; omega
theorem col_trod {c d e : Value} {x : DataW H × List MemPlace} (h : DataW.trod enc Tryz.prog W 0 (fun _ => true) true n 47 [c, d, e] = some x) : ∃ z s b, c = .int .i64 z ∧ d = .bool s ∧ e = .bool b ∧ (Lit.int .i64 z).wf = true := by
  obtain ⟨ys, n2, _, hye, _, hyl, hy⟩ := DataW.trod_struct Tryz.underlying47 h
  obtain ⟨y0, y1, y2, rfl⟩ := list_three hyl
  have k0 : DataW.trod enc Tryz.prog W 0 (fun _ => true) true n2 3 (([c, d, e].drop 0).take (Tryz.prog.cellsOf 3)) = some y0 := hy 0 _ rfl
  have k1 : DataW.trod enc Tryz.prog W 0 (fun _ => true) true n2 4 (([c, d, e].drop 1).take (Tryz.prog.cellsOf 4)) = some y1 := hy 1 _ rfl
  have k2 : DataW.trod enc Tryz.prog W 0 (fun _ => true) true n2 4 (([c, d, e].drop 2).take (Tryz.prog.cellsOf 4)) = some y2 := hy 2 _ rfl
  rw [fo3] at k0
  rw [fo4] at k1 k2
  obtain ⟨z0, e0, _, w0⟩ := DataW.trod_int Tryz.underlying3 (show DataW.trod enc Tryz.prog W 0 (fun _ => true) true n2 3 [c] = some y0 from k0)
  obtain ⟨z1, e1, _⟩ := DataW.trod_bool Tryz.underlying4 (show DataW.trod enc Tryz.prog W 0 (fun _ => true) true n2 4 [d] = some y1 from k1)
  obtain ⟨z2, e2, _⟩ := DataW.trod_bool Tryz.underlying4 (show DataW.trod enc Tryz.prog W 0 (fun _ => true) true n2 4 [e] = some y2 from k2)
  simp only [List.cons.injEq, and_true] at e0 e1 e2
  exact ⟨z0, z1, z2, e0, e1, e2, w0⟩
end

set_option maxHeartbeats 2000000 in
set_option maxRecDepth 20000 in
theorem field_trod {H : Type} {enc : TypeId × Value → H} {W : World} : ∀ (N fuel : Nat), fuel ≤ N → ∀ (cs : List Value) (x : DataW H × List MemPlace), DataW.trod enc Tryz.prog W 0 (fun _ => true) true fuel 49 cs = some x → (∀ n ∈ x.1.weights Tryz.prog 49, n ≤ reachBytes) →
    ∃ (o : Go.Vf.Own) (l : List Fld) (a : Option Addr) (c : Nat), cs = (cellsF o a l.length c).toList ∧ l.length ≤ c ∧ FIn W 0 W.heap.size l a ∧ FitsF 281474976710656 (.mk o l) := by
  intro N
  induction N with
  | zero =>
    intro fuel hN cs x h _
    obtain rfl : fuel = 0 := by omega
    simp [DataW.trod] at h
  | succ N ih =>
    intro fuel hN cs x h hw
    obtain ⟨xs, n', hfu, hxe, hcl, hxl, hf⟩ := DataW.trod_struct Tryz.underlying49 h
    have hD : x.1 = .agg (xs.map (·.1)) := congrArg Prod.fst hxe
    rw [fo57] at hcl
    obtain ⟨c0, c1, c2, c3, c4, c5, c6, c7, c8, c9, c10, c11, c12, c13, rfl⟩ := list_14 hcl
    obtain ⟨x0, x1, x2, x3, x4, x5, x6, x7, x8, x9, rfl⟩ := list_ten hxl
    have g0 : DataW.trod enc Tryz.prog W 0 (fun _ => true) true n' 9 (([c0, c1, c2, c3, c4, c5, c6, c7, c8, c9, c10, c11, c12, c13].drop 0).take (Tryz.prog.cellsOf 9)) = some x0 := hf 0 _ rfl
    have g1 : DataW.trod enc Tryz.prog W 0 (fun _ => true) true n' 42 (([c0, c1, c2, c3, c4, c5, c6, c7, c8, c9, c10, c11, c12, c13].drop 1).take (Tryz.prog.cellsOf 42)) = some x1 := hf 1 _ rfl
    have g2 : DataW.trod enc Tryz.prog W 0 (fun _ => true) true n' 4 (([c0, c1, c2, c3, c4, c5, c6, c7, c8, c9, c10, c11, c12, c13].drop 2).take (Tryz.prog.cellsOf 4)) = some x2 := hf 2 _ rfl
    have g3 : DataW.trod enc Tryz.prog W 0 (fun _ => true) true n' 43 (([c0, c1, c2, c3, c4, c5, c6, c7, c8, c9, c10, c11, c12, c13].drop 3).take (Tryz.prog.cellsOf 43)) = some x3 := hf 3 _ rfl
    have g4 : DataW.trod enc Tryz.prog W 0 (fun _ => true) true n' 4 (([c0, c1, c2, c3, c4, c5, c6, c7, c8, c9, c10, c11, c12, c13].drop 4).take (Tryz.prog.cellsOf 4)) = some x4 := hf 4 _ rfl
    have g5 : DataW.trod enc Tryz.prog W 0 (fun _ => true) true n' 45 (([c0, c1, c2, c3, c4, c5, c6, c7, c8, c9, c10, c11, c12, c13].drop 5).take (Tryz.prog.cellsOf 45)) = some x5 := hf 5 _ rfl
    have g6 : DataW.trod enc Tryz.prog W 0 (fun _ => true) true n' 45 (([c0, c1, c2, c3, c4, c5, c6, c7, c8, c9, c10, c11, c12, c13].drop 7).take (Tryz.prog.cellsOf 45)) = some x6 := hf 6 _ rfl
    have g7 : DataW.trod enc Tryz.prog W 0 (fun _ => true) true n' 3 (([c0, c1, c2, c3, c4, c5, c6, c7, c8, c9, c10, c11, c12, c13].drop 9).take (Tryz.prog.cellsOf 3)) = some x7 := hf 7 _ rfl
    have g8 : DataW.trod enc Tryz.prog W 0 (fun _ => true) true n' 47 (([c0, c1, c2, c3, c4, c5, c6, c7, c8, c9, c10, c11, c12, c13].drop 10).take (Tryz.prog.cellsOf 47)) = some x8 := hf 8 _ rfl
    have g9 : DataW.trod enc Tryz.prog W 0 (fun _ => true) true n' 22 (([c0, c1, c2, c3, c4, c5, c6, c7, c8, c9, c10, c11, c12, c13].drop 13).take (Tryz.prog.cellsOf 22)) = some x9 := hf 9 _ rfl
    rw [fo9] at g0
    rw [fo25] at g1
    rw [fo4] at g2
    rw [fo53] at g3
    rw [fo4] at g4
    rw [fo27] at g5
    rw [fo27] at g6
    rw [fo3] at g7
    rw [fo55] at g8
    rw [fo22] at g9
    have hwi : ∀ (j : Nat) (t : TypeId) (y : DataW H), ([9, 42, 4, 43, 4, 45, 45, 3, 47, 22] : List TypeId)[j]? = some t → ([x0.1, x1.1, x2.1, x3.1, x4.1, x5.1, x6.1, x7.1, x8.1, x9.1] : List (DataW H))[j]? = some y → ∀ q ∈ y.weights Tryz.prog t, q ≤ reachBytes := fun j t y hj hy q hq => hw q (by
      rw [hD]
      simp only [DataW.weights, Tryz.underlying49]
      exact DataW.weights_mem_each (j := j) (t := t) hj hy q hq)
    obtain ⟨s0, e0, d0, _⟩ := DataW.trod_string Tryz.underlying9 (show DataW.trod enc Tryz.prog W 0 (fun _ => true) true n' 9 [c0] = some x0 from g0)
    obtain ⟨z1, e1, _, w1⟩ := DataW.trod_int Tryz.underlying42 (show DataW.trod enc Tryz.prog W 0 (fun _ => true) true n' 42 [c1] = some x1 from g1)
    obtain ⟨z2, e2, _⟩ := DataW.trod_bool Tryz.underlying4 (show DataW.trod enc Tryz.prog W 0 (fun _ => true) true n' 4 [c2] = some x2 from g2)
    obtain ⟨z3, e3, _, w3⟩ := DataW.trod_int Tryz.underlying43 (show DataW.trod enc Tryz.prog W 0 (fun _ => true) true n' 43 [c3] = some x3 from g3)
    obtain ⟨z4, e4, _⟩ := DataW.trod_bool Tryz.underlying4 (show DataW.trod enc Tryz.prog W 0 (fun _ => true) true n' 4 [c4] = some x4 from g4)
    obtain ⟨z5, s6, e5, e6, hs6⟩ := num_trod (show DataW.trod enc Tryz.prog W 0 (fun _ => true) true n' 45 [c5, c6] = some x5 from g5) (hwi 5 45 x5.1 rfl rfl)
    obtain ⟨z7, s8, e7, e8, hs8⟩ := num_trod (show DataW.trod enc Tryz.prog W 0 (fun _ => true) true n' 45 [c7, c8] = some x6 from g6) (hwi 6 45 x6.1 rfl rfl)
    obtain ⟨z9, e9, _, w9⟩ := DataW.trod_int Tryz.underlying3 (show DataW.trod enc Tryz.prog W 0 (fun _ => true) true n' 3 [c9] = some x7 from g7)
    obtain ⟨z10, z11, z12, e10, e11, e12, w10⟩ := col_trod (show DataW.trod enc Tryz.prog W 0 (fun _ => true) true n' 47 [c10, c11, c12] = some x8 from g8)
    simp only [List.cons.injEq, and_true] at e0 e1 e2 e3 e4 e9
    have hs0 : s0.size ≤ 281474976710656 := by
      have := hwi 0 9 x0.1 rfl rfl s0.data.toList.length (by rw [d0]; simp [DataW.weights])
      rw [reach_eq] at this
      rw [Lib.size_eq]; omega
    have b1 := bounds_u8 w1
    have b3 := bounds_u8 w3
    have b9 := bounds_i64 w9
    have b10 := bounds_i64 w10
    subst e0 e1 e2 e3 e4 e5 e6 e7 e8 e9 e10 e11 e12
    have hown : OwnFits 281474976710656 ⟨s0, z1, z2, z3, z4, z5, s6, z7, s8, z9, z10, z11, z12⟩ := ⟨by show 0 ≤ z1; omega, by show z1 < 256; omega, by show 0 ≤ z3; omega, by show z3 < 256; omega, hs0, hs6, hs8, b9.1, by show z9 < _; omega, b10.1, by show z10 < _; omega⟩
    have g9' : DataW.trod enc Tryz.prog W 0 (fun _ => true) true n' 22 [c13] = some x9 := g9
    rcases DataW.trod_slice Tryz.underlying22 g9' with ⟨hcs, _⟩ | ⟨a, len, cap, elems, rest, n, hfn, hcs, hd, _, hl, hm, hlen, hel, hsp, hns⟩
    · simp only [List.cons.injEq, and_true] at hcs
      subst hcs
      exact ⟨⟨s0, z1, z2, z3, z4, z5, s6, z7, s8, z9, z10, z11, z12⟩, [], none, 0, rfl, Nat.le_refl _, .nil, .mk hown (by simp [Fld.fields]) (fun x hx => by cases hx)⟩
    · simp only [List.cons.injEq, and_true] at hcs
      subst hcs
      have hd1 : x9.1 = .slice (elems.map (·.1)) (rest.map (·.1)) := congrArg Prod.fst hd
      have hwl : len ≤ 281474976710656 := by
        have := hwi 9 22 x9.1 rfl rfl (((elems.map (·.1)).length + (rest.map (·.1)).length) * Tryz.prog.bytesOf 49) (by
          rw [hd1]; simp [DataW.weights, Tryz.underlying22])
        rw [by57, reach_eq] at this
        simp at this
        omega
      have hwd : ∀ i (hi : i < elems.length), ∀ q ∈ (elems[i].1).weights Tryz.prog 49, q ≤ reachBytes := fun i hi q hq => hwi 9 22 x9.1 rfl rfl q (by
        rw [hd1]
        simp only [DataW.weights, Tryz.underlying22, List.mem_cons, List.mem_append]
        exact .inr (.inl (weightsAll_mem (List.mem_map.2 ⟨elems[i], List.getElem_mem hi, rfl⟩) q hq)))
      have hx : ∀ i, i < len → ∃ cs', W.cells? 0 (a.add (i * 14)) 14 = some cs' ∧ ∃ hi : i < elems.length, DataW.trod enc Tryz.prog W 0 (fun _ => true) true n 49 cs' = some elems[i] := by
        intro i hi
        have hie : i < elems.length := by omega
        have h1 := hel i hi
        rw [fo57, List.getElem?_eq_getElem hie] at h1
        obtain ⟨cs', q1, q2⟩ := Option.bind_eq_some_iff.1 h1
        exact ⟨cs', q1, hie, q2⟩
      rcases Nat.eq_zero_or_pos len with h0 | h0
      · subst h0
        exact ⟨⟨s0, z1, z2, z3, z4, z5, s6, z7, s8, z9, z10, z11, z12⟩, [], some a, cap, rfl, Nat.zero_le _, .nil, .mk hown (by simp [Fld.fields]) (fun x hx => by cases hx)⟩
      obtain ⟨b, off, spot⟩ := a
      have hspot : spot = none := by
        obtain ⟨cs', h1, _⟩ := hx 0 (by omega)
        obtain ⟨_, hlen', hcell⟩ := World.cells?_some h1
        have hc := hcell 0 (by omega)
        obtain ⟨c0, c1, c2, c3, c4, c5, c6, c7, c8, c9, c10, c11, c12, c13, rfl⟩ := list_14 hlen'
        have := World.cell?_spot hc
        simpa [Addr.add] using this
      subst hspot
      have each : ∀ i, i < len → ∃ y : Fld × Option Addr × Nat, RowF W b (off + i * 14) y.1.own y.2.1 y.1.fields.length y.2.2 ∧ y.1.fields.length ≤ y.2.2 ∧ FIn W 0 W.heap.size y.1.fields y.2.1 ∧ FitsF 281474976710656 y.1 := by
        intro i hi
        obtain ⟨cs', h1, hie, h2⟩ := hx i (by omega)
        rw [Go.WideShapes.add_plain] at h1
        obtain ⟨_, hlen', hcell⟩ := World.cells?_some h1
        obtain ⟨o', l', a', c', e, hp1, hp, hfp⟩ := ih n (by omega) cs' elems[i] h2 (hwd i hie)
        subst e
        have k : ∀ j (hj : j < 14), W.cell? ⟨b, off + i * 14 + j, none⟩ = (cellsF o' a' l'.length c').toList[j]? := fun j hj => by
          have q := hcell j (by simpa [cellsF] using hj)
          rw [Go.WideShapes.add_plain] at q
          rw [q]
        exact ⟨(.mk o' l', a', c'), ⟨k 0 (by omega), k 1 (by omega), k 2 (by omega), k 3 (by omega), k 4 (by omega), k 5 (by omega), k 6 (by omega), k 7 (by omega), k 8 (by omega), k 9 (by omega), k 10 (by omega), k 11 (by omega), k 12 (by omega), k 13 (by omega)⟩, hp1, hp, hfp⟩
      obtain ⟨L, hLl, hLz⟩ := choose_list len each
      refine ⟨⟨s0, z1, z2, z3, z4, z5, s6, z7, s8, z9, z10, z11, z12⟩, L.map (·.1), some ⟨b, off, none⟩, cap, ?_, by simp [hLl]; exact hl, ?_, .mk hown (by simp [Fld.fields, hLl]; omega) (fun x hx => ?_)⟩
      · simp [cellsF, hLl]
      · have hq := (hLz 0 (by omega)).1.c0
        have hblk := World.block_lt_of_cell? W _ hq
        refine .cons (fun j => ((L[j]?).map (·.2.1)).getD none) (fun j => ((L[j]?).map (·.2.2)).getD 0) (by omega) hblk (fun j hj => ?_) (fun j hj => ?_) (fun j hj => ?_)
        · have hj' : j < L.length := by simpa using hj
          have := (hLz j hj').1
          simpa [hj'] using this
        · have hj' : j < L.length := by simpa using hj
          have := (hLz j hj').2.1
          simpa [hj'] using this
        · have hj' : j < L.length := by simpa using hj
          have := (hLz j hj').2.2.1
          simpa [hj'] using this
      · simp only [Fld.fields, List.mem_map] at hx
        obtain ⟨y, hy, rfl⟩ := hx
        obtain ⟨i, hi, rfl⟩ := List.mem_iff_getElem.1 hy
        exact (hLz i hi).2.2.2

set_option maxRecDepth 20000 in
theorem field_open {H : Type} {enc : TypeId × Value → H} {base : Nat} {W : World} (v : Value) (d : DataW H) (pl : List MemPlace) (hok : Value.okWide Tryz.prog W .any base 49 v)
    (h : DataW.Trod enc Tryz.prog W 0 (fun _ => true) true 49 v d pl) (hw : ∀ n ∈ d.weights Tryz.prog 49, n ≤ reachBytes) : ∃ (o : Go.Vf.Own) (l : List Fld) (a : Option Addr) (c : Nat), v = fV o a l.length c ∧ l.length ≤ c ∧ FIn W 0 W.heap.size l a ∧ FitsF 281474976710656 (.mk o l) := by
  obtain ⟨cs, rfl, _⟩ := okWide_struct Tryz.underlying49 hok
  obtain ⟨fuel, hf⟩ := h
  obtain ⟨o, l, a, c, e, h1, h2, h3⟩ := field_trod fuel fuel (Nat.le_refl _) _ _ hf hw
  refine ⟨o, l, a, c, ?_, h1, h2, h3⟩
  simp only [Value.cells] at e
  unfold fV
  obtain ⟨q⟩ := cs
  simp only [cellsF] at e
  rw [e]
end Go.Proofs.YtghjmfpjaabilaaGreatDoor

namespace Go.Proofs.YtghjmfpjaabilaaGreatDoor
open Go.ChangeShapes Go.WideShapes Go.ChangeAt Go.RowKit Go.Deep Go.Vf

theorem so24 : Tryz.prog.cellsOf 24 = 2 := by kernel_rfl
set_option maxHeartbeats 2000000 in
set_option maxRecDepth 20000 in
theorem schema_trod {H : Type} {enc : TypeId × Value → H} {W : World} (fuel : Nat) (cs : List Value) (x : DataW H × List MemPlace) (h : DataW.trod enc Tryz.prog W 0 (fun _ => true) true fuel 24 cs = some x) (hw : ∀ n ∈ x.1.weights Tryz.prog 24, n ≤ reachBytes) :
    ∃ (z : Int) (l : List Fld) (a : Option Addr) (c : Nat), cs = [.int .i64 z, .slice a l.length c] ∧ l.length ≤ c ∧ FIn W 0 W.heap.size l a ∧ (∀ x ∈ l, FitsF 281474976710656 x) ∧ l.length ≤ 281474976710656 := by
  obtain ⟨xs, n', hfu, hxe, hcl, hxl, hf⟩ := DataW.trod_struct Tryz.underlying24 h
  have hD : x.1 = .agg (xs.map (·.1)) := congrArg Prod.fst hxe
  rw [so24] at hcl
  obtain ⟨c0, c1, rfl⟩ := list_two hcl
  obtain ⟨x0, x1, rfl⟩ := list_two hxl
  have g0 : DataW.trod enc Tryz.prog W 0 (fun _ => true) true n' 3 (([c0, c1].drop 0).take (Tryz.prog.cellsOf 3)) = some x0 := hf 0 _ rfl
  have g1 : DataW.trod enc Tryz.prog W 0 (fun _ => true) true n' 22 (([c0, c1].drop 1).take (Tryz.prog.cellsOf 22)) = some x1 := hf 1 _ rfl
  rw [fo3] at g0
  rw [fo22] at g1
  have hwi : ∀ (j : Nat) (t : TypeId) (y : DataW H), ([3, 22] : List TypeId)[j]? = some t → ([x0.1, x1.1] : List (DataW H))[j]? = some y → ∀ q ∈ y.weights Tryz.prog t, q ≤ reachBytes := fun j t y hj hy q hq => hw q (by
    rw [hD]
    simp only [DataW.weights, Tryz.underlying24]
    exact DataW.weights_mem_each (j := j) (t := t) hj hy q hq)
  obtain ⟨z0, e0, _, _⟩ := DataW.trod_int Tryz.underlying3 (show DataW.trod enc Tryz.prog W 0 (fun _ => true) true n' 3 [c0] = some x0 from g0)
  simp only [List.cons.injEq, and_true] at e0
  subst e0
  have g1 : DataW.trod enc Tryz.prog W 0 (fun _ => true) true n' 22 [c1] = some x1 := g1
  rcases DataW.trod_slice Tryz.underlying22 g1 with ⟨hcs, _⟩ | ⟨a, len, cap, elems, rest, n, hfn, hcs, hd, _, hl, hm, hlen, hel, hsp, hns⟩
  · simp only [List.cons.injEq, and_true] at hcs
    subst hcs
    exact ⟨z0, [], none, 0, rfl, Nat.le_refl _, .nil, (fun x hx => by cases hx), by simp⟩
  · simp only [List.cons.injEq, and_true] at hcs
    subst hcs
    have hd1 : x1.1 = .slice (elems.map (·.1)) (rest.map (·.1)) := congrArg Prod.fst hd
    have hwl : len ≤ 281474976710656 := by
      have := hwi 1 22 x1.1 rfl rfl (((elems.map (·.1)).length + (rest.map (·.1)).length) * Tryz.prog.bytesOf 49) (by
        rw [hd1]; simp [DataW.weights, Tryz.underlying22])
      rw [by57, reach_eq] at this
      simp at this
      omega
    have hwd : ∀ i (hi : i < elems.length), ∀ q ∈ (elems[i].1).weights Tryz.prog 49, q ≤ reachBytes := fun i hi q hq => hwi 1 22 x1.1 rfl rfl q (by
      rw [hd1]
      simp only [DataW.weights, Tryz.underlying22, List.mem_cons, List.mem_append]
      exact .inr (.inl (weightsAll_mem (List.mem_map.2 ⟨elems[i], List.getElem_mem hi, rfl⟩) q hq)))
    have hx : ∀ i, i < len → ∃ cs', W.cells? 0 (a.add (i * 14)) 14 = some cs' ∧ ∃ hi : i < elems.length, DataW.trod enc Tryz.prog W 0 (fun _ => true) true n 49 cs' = some elems[i] := by
      intro i hi
      have hie : i < elems.length := by omega
      have h1 := hel i hi
      rw [fo57, List.getElem?_eq_getElem hie] at h1
      obtain ⟨cs', q1, q2⟩ := Option.bind_eq_some_iff.1 h1
      exact ⟨cs', q1, hie, q2⟩
    rcases Nat.eq_zero_or_pos len with h0 | h0
    · subst h0
      exact ⟨z0, [], some a, cap, rfl, Nat.zero_le _, .nil, (fun x hx => by cases hx), by simp⟩
    obtain ⟨b, off, spot⟩ := a
    have hspot : spot = none := by
      obtain ⟨cs', h1, _⟩ := hx 0 (by omega)
      obtain ⟨_, hlen', hcell⟩ := World.cells?_some h1
      have hc := hcell 0 (by omega)
      obtain ⟨c0, c1, c2, c3, c4, c5, c6, c7, c8, c9, c10, c11, c12, c13, rfl⟩ := list_14 hlen'
      have := World.cell?_spot hc
      simpa [Addr.add] using this
    subst hspot
    have each : ∀ i, i < len → ∃ y : Fld × Option Addr × Nat, RowF W b (off + i * 14) y.1.own y.2.1 y.1.fields.length y.2.2 ∧ y.1.fields.length ≤ y.2.2 ∧ FIn W 0 W.heap.size y.1.fields y.2.1 ∧ FitsF 281474976710656 y.1 := by
      intro i hi
      obtain ⟨cs', h1, hie, h2⟩ := hx i (by omega)
      rw [Go.WideShapes.add_plain] at h1
      obtain ⟨_, hlen', hcell⟩ := World.cells?_some h1
      obtain ⟨o', l', a', c', e, hp1, hp, hfp⟩ := field_trod n n (Nat.le_refl _) cs' elems[i] h2 (hwd i hie)
      subst e
      have k : ∀ j (hj : j < 14), W.cell? ⟨b, off + i * 14 + j, none⟩ = (cellsF o' a' l'.length c').toList[j]? := fun j hj => by
        have q := hcell j (by simpa [cellsF] using hj)
        rw [Go.WideShapes.add_plain] at q
        rw [q]
      exact ⟨(.mk o' l', a', c'), ⟨k 0 (by omega), k 1 (by omega), k 2 (by omega), k 3 (by omega), k 4 (by omega), k 5 (by omega), k 6 (by omega), k 7 (by omega), k 8 (by omega), k 9 (by omega), k 10 (by omega), k 11 (by omega), k 12 (by omega), k 13 (by omega)⟩, hp1, hp, hfp⟩
    obtain ⟨L, hLl, hLz⟩ := choose_list len each
    refine ⟨z0, L.map (·.1), some ⟨b, off, none⟩, cap, ?_, by simp [hLl]; exact hl, ?_, (fun x hx => ?_), by simp [hLl]; omega⟩
    · simp [hLl]
    · have hq := (hLz 0 (by omega)).1.c0
      have hblk := World.block_lt_of_cell? W _ hq
      refine .cons (fun j => ((L[j]?).map (·.2.1)).getD none) (fun j => ((L[j]?).map (·.2.2)).getD 0) (by omega) hblk (fun j hj => ?_) (fun j hj => ?_) (fun j hj => ?_)
      · have hj' : j < L.length := by simpa using hj
        have := (hLz j hj').1
        simpa [hj'] using this
      · have hj' : j < L.length := by simpa using hj
        have := (hLz j hj').2.1
        simpa [hj'] using this
      · have hj' : j < L.length := by simpa using hj
        have := (hLz j hj').2.2.1
        simpa [hj'] using this
    · simp only [List.mem_map] at hx
      obtain ⟨y, hy, rfl⟩ := hx
      obtain ⟨i, hi, rfl⟩ := List.mem_iff_getElem.1 hy
      exact (hLz i hi).2.2.2


set_option maxRecDepth 20000 in
theorem schema_open {H : Type} {enc : TypeId × Value → H} {base : Nat} {W : World} (v : Value) (d : DataW H) (pl : List MemPlace) (hok : Value.okWide Tryz.prog W .any base 24 v)
    (h : DataW.Trod enc Tryz.prog W 0 (fun _ => true) true 24 v d pl) (hw : ∀ n ∈ d.weights Tryz.prog 24, n ≤ reachBytes) : ∃ (z : Int) (l : List Fld) (a : Option Addr) (c : Nat), v = .agg #[.int .i64 z, .slice a l.length c] ∧ l.length ≤ c ∧ FIn W 0 W.heap.size l a ∧ (∀ x ∈ l, FitsF 281474976710656 x) ∧ l.length ≤ 281474976710656 := by
  obtain ⟨cs, rfl, _⟩ := okWide_struct Tryz.underlying24 hok
  obtain ⟨fuel, hf⟩ := h
  obtain ⟨z, l, a, c, e, h1⟩ := schema_trod fuel _ _ hf hw
  refine ⟨z, l, a, c, ?_, h1⟩
  simp only [Value.cells] at e
  obtain ⟨q⟩ := cs
  simp only at e
  rw [e]
end Go.Proofs.YtghjmfpjaabilaaGreatDoor

namespace Go.Proofs.YtghjmfpjaabilaaGreatDoor
open Go.RowKit Go.Vf

theorem maySay_good {o : Go.Vf.Own} {n : Nat} (h : maySayO (bndQ o) o n = true) : 1 ≤ o.kind ∧ o.kind ≤ 7 ∧ 0 ≤ o.nulls + 2 - o.nulls ∧ (o.bnd = true → o.kind = 2 ∧ bndQ o = true) ∧ (o.kind = 7 ∨ n = 0) := by
  unfold maySayO at h
  simp only [Bool.and_eq_true, decide_eq_true_eq] at h
  obtain ⟨⟨⟨⟨⟨⟨h1, h2⟩, h3⟩, h4⟩, h5⟩, h6⟩, h7⟩ := h
  refine ⟨h1, h2, by omega, ?_, by simpa using h7⟩
  intro hb
  by_cases hk : o.kind = 2
  · rw [if_pos hk, if_pos hb] at h4; exact ⟨hk, h4⟩
  · rw [if_neg hk, hb] at h4; simp at h4
theorem bndQ_chk {o : Go.Vf.Own} (h : bndQ o = true) : chk o.ln o.lm.data.toList = 0 ∧ chk o.hn o.hm.data.toList = 0 ∧ cmpN o.ln o.lm.data.toList o.hn o.hm.data.toList ≤ 0 := by
  unfold bndQ at h
  simp only [Bool.and_eq_true, decide_eq_true_eq] at h
  exact ⟨h.1.1, h.1.2, h.2⟩
theorem seeF_may {Q : Go.Vf.Own → Bool} {n c : Nat} {ah : List Fld} {f : Fld} (h : seeF Q n c ah f = 0) : c ≤ 64 ∧ n ≤ 16 ∧ isNameS f.own.name = true ∧ maySayO (Q f.own) f.own f.fields.length = true ∧ ¬(f.own.kind = 7 ∧ f.fields = []) := by
  unfold seeF at h
  split at h; · cases h
  split at h; · cases h
  split at h; · cases h
  split at h; · cases h
  split at h; · cases h
  split at h; · cases h
  rename_i h1 h2 h3 _ h5 h6
  exact ⟨by omega, by omega, by simpa using h3, by simpa using h5, h6⟩
theorem tour_bad {Q : Go.Vf.Own → Bool} : ∀ (k : Nat) (l : List Fld), SizeOf.sizeOf l ≤ k → ∀ (P : List Int) (ah : List Fld) (n : Nat) (c : Int) (p : List Int) (m : Nat), tourL Q P ah n l = .bad c p m → c ≠ 0 := by
  intro k
  induction k with
  | zero => intro l hk; cases l <;> simp at hk
  | succ k ih =>
    intro l hk P ah n c p m h
    cases l with
    | nil => rw [tourL_nil] at h; cases h
    | cons f r =>
      obtain ⟨o, g⟩ := f
      have s1 : SizeOf.sizeOf g ≤ k := by simp at hk; omega
      have s2 : SizeOf.sizeOf r ≤ k := by simp at hk; omega
      by_cases he : seeF Q (P.length + 1) (n + 1) ah (.mk o g) = 0
      · cases hb : tourL Q (P ++ [(ah.length : Int)]) [] (n + 1) g with
        | bad c' p' q => rw [tourL_in Q P ah n (.mk o g) r he hb] at h; cases h; exact ih g s1 _ _ _ _ _ _ hb
        | ok q => rw [tourL_on Q P ah n (.mk o g) r he hb] at h; exact ih r s2 _ _ _ _ _ _ h
      · rw [tourL_bad Q P ah n (.mk o g) r he] at h; cases h; exact he
theorem chkS_tour {Q : Go.Vf.Own → Bool} {limit : Int} {l : List Fld} (h : (chkS Q limit l).1 = 0) : ∃ m, tourL Q [] [] 0 l = .ok m := by
  unfold chkS at h
  split at h; · cases h
  split at h; · cases h
  cases ht : tourL Q [] [] 0 l with
  | ok m => exact ⟨m, rfl⟩
  | bad c p n => rw [ht] at h; exact absurd h (tour_bad _ l (Nat.le_refl _) _ _ _ _ _ _ ht)
/-- All that stands within a field may be said. -/
inductive GodF : Fld → Prop where
  | mk {f : Fld} : isNameS f.own.name = true → maySayO (bndQ f.own) f.own f.fields.length = true → (∀ x ∈ f.fields, GodF x) → GodF f
theorem GodF.ok : ∀ {f : Fld}, GodF f → OkP f := by
  intro f
  induction f using Fld.ind with
  | h o l ih =>
    intro h
    cases h with
    | mk h1 h2 h3 => exact .mk (maySay_good h2).1 (maySay_good h2).2.1 fun x hx => ih x hx (h3 x hx)
theorem nat_len {b : Bool} {m : List UInt8} (h : chk b m = 0) : (natS b m).length ≤ 766 := by
  have h1 := decD_bound (chk_zero h).1
  rw [natS, if_pos h, printL]
  split
  · simp
  · split
    · simp; omega
    · simp; omega
theorem word_len (k : Nat) : (wordK k).length ≤ 5 := by
  unfold wordK
  split; · simp
  split; · simp
  split; · simp
  split; · simp
  split; · simp
  split; · simp
  simp
theorem sp_len (b : Bool) (l : List UInt8) : (spIf b l).length ≤ l.length + 1 := by
  cases b
  · simp [spIf]
  · simp [spIf]
theorem name_len {s : ByteArray} (h : isNameS s = true) : s.data.toList.length ≤ 16 := by
  unfold isNameS at h
  cases hs : s.data.toList with
  | nil => simp
  | cons c r => rw [hs] at h; simp only [isNameL, Bool.and_eq_true, decide_eq_true_eq] at h; exact h.1.1
theorem maySay_num {o : Go.Vf.Own} {n : Nat} (h : maySayO (bndQ o) o n = true) : 0 ≤ o.most ∧ o.most ≤ 65536 ∧ 0 ≤ o.str ∧ o.str ≤ 4 := by
  unfold maySayO at h
  simp only [Bool.and_eq_true, decide_eq_true_eq] at h
  obtain ⟨⟨⟨⟨⟨⟨h1, h2⟩, h3⟩, h4⟩, h5⟩, h6⟩, h7⟩ := h
  have a : 0 ≤ o.most ∧ o.most ≤ 65536 := by
    split at h5
    · simp only [Bool.and_eq_true, decide_eq_true_eq] at h5; exact h5
    · have := eq_of_beq h5; omega
  have b : 0 ≤ o.str ∧ o.str ≤ 4 := by
    split at h6
    · simp only [Bool.and_eq_true, decide_eq_true_eq] at h6; omega
    · simp only [Bool.and_eq_true, beq_iff_eq] at h6; omega
  exact ⟨a.1, a.2, b.1, b.2⟩
theorem told_len {o : Go.Vf.Own} {n : Nat} (hn : isNameS o.name = true) (h : maySayO (bndQ o) o n = true) : (toldF o).length ≤ 1800 := by
  obtain ⟨a1, a2, b1, b2⟩ := maySay_num h
  have i1 := Lib.itoa_length_le o.most (by omega) (by omega)
  have i2 := Lib.itoa_length_le o.str (by omega) (by omega)
  have hk : (toldK o).length ≤ 1650 := by
    unfold toldK
    split
    · rename_i hk
      split
      · rename_i hb
        have hq := ((maySay_good h).2.2.2.1 hb).2
        have q1 := nat_len (bndQ_chk hq).1
        have q2 := nat_len (bndQ_chk hq).2.1
        simp only [List.length_append, List.length_cons, List.length_nil]; omega
      · simp
    split
    · simp only [List.length_append, List.length_cons, List.length_nil]; omega
    split
    · have s1 := sp_len o.shf [115, 104, 105, 102, 116, 101, 100]
      have s2 := sp_len o.bck [98, 97, 99, 107]
      simp only [List.length_append, List.length_cons, List.length_nil] at s1 s2 ⊢; omega
    · simp
  have h1 := name_len hn
  have h2 := word_len o.kind.toNat
  have h3 := sp_len o.down [100, 111, 119, 110]
  have h4 := sp_len (o.nulls == 1) [110, 117, 108, 108, 45, 102, 105, 114, 115, 116]
  have h5 := sp_len (o.nulls == 2) [110, 117, 108, 108, 45, 108, 97, 115, 116]
  unfold toldF
  simp only [List.length_append, List.length_cons, List.length_nil] at h3 h4 h5 ⊢
  omega
theorem tour_god : ∀ (k : Nat) (l : List Fld), SizeOf.sizeOf l ≤ k → ∀ (P : List Int) (ah : List Fld) (n m : Nat), tourL bndQ P ah n l = .ok m → ∀ ahead : List UInt8, ahead.length ≤ 2 * P.length → (fieldsL l ahead).length + 2000 * n ≤ 2000 * m ∧ ∀ x ∈ l, GodF x := by
  intro k
  induction k with
  | zero => intro l hk; cases l <;> simp at hk
  | succ k ih =>
    intro l hk P ah n m h ahead hah
    cases l with
    | nil => rw [tourL_nil] at h; cases h; exact ⟨by simp [fieldsL], fun x hx => by cases hx⟩
    | cons f r =>
      obtain ⟨o, g⟩ := f
      have s1 : SizeOf.sizeOf g ≤ k := by simp at hk; omega
      have s2 : SizeOf.sizeOf r ≤ k := by simp at hk; omega
      by_cases he : seeF bndQ (P.length + 1) (n + 1) ah (.mk o g) = 0
      · cases hb : tourL bndQ (P ++ [(ah.length : Int)]) [] (n + 1) g with
        | bad c p q => rw [tourL_in bndQ P ah n (.mk o g) r he hb] at h; cases h
        | ok q =>
          rw [tourL_on bndQ P ah n (.mk o g) r he hb] at h
          obtain ⟨e1, e2, e3, e4, _⟩ := seeF_may he
          obtain ⟨a1, a2⟩ := ih g s1 _ _ _ _ hb (ahead ++ [32, 32]) (by simp; omega)
          obtain ⟨b1, b2⟩ := ih r s2 _ _ _ _ h ahead hah
          have ht := told_len e3 e4
          refine ⟨?_, fun x hx => ?_⟩
          · rw [fieldsL, fieldL_eq]
            have hx : (if (Fld.mk o g).own.kind = 7 then fieldsL (Fld.mk o g).fields (ahead ++ [32, 32]) ++ (ahead ++ [101, 110, 100] ++ [10]) else []).length ≤ (fieldsL g (ahead ++ [32, 32])).length + ahead.length + 4 := by
              split
              · simp only [List.length_append, List.length_cons, List.length_nil, Fld.fields]; omega
              · simp
            simp only [List.length_append, List.length_cons, List.length_nil] at hx ht ⊢
            omega
          · rcases List.mem_cons.1 hx with rfl | hx
            · exact .mk e3 e4 a2
            · exact b2 x hx
      · rw [tourL_bad bndQ P ah n (.mk o g) r he] at h; cases h
/-- A right schema: its fields, its limit, how long its text is. -/
theorem chkS_god {limit : Int} {l : List Fld} (h : (chkS bndQ limit l).1 = 0) : (∀ x ∈ l, GodF x) ∧ 1 ≤ limit ∧ limit ≤ 65536 ∧ (prnS limit l).length ≤ 400000 := by
  obtain ⟨m, hm⟩ := chkS_tour h
  have hlim : 1 ≤ limit ∧ limit ≤ 65536 := by
    unfold chkS at h
    split at h; · cases h
    omega
  have h64 := tourL_le bndQ _ l (Nat.le_refl _) _ _ _ _ (by omega) hm
  obtain ⟨a1, a2⟩ := tour_god _ l (Nat.le_refl _) [] [] 0 m hm [] (by simp)
  have i1 := Lib.itoa_length_le limit (by omega) (by omega)
  refine ⟨a2, hlim.1, hlim.2, ?_⟩
  unfold prnS
  simp only [List.length_append, List.length_cons, List.length_nil]
  omega
theorem chkS_good {limit : Int} {l : List Fld} (h : (chkS bndQ limit l).1 = 0) : (∀ x ∈ l, OkP x) ∧ (prnS limit l).length ≤ 400000 := by
  obtain ⟨a, _, _, b⟩ := chkS_god h
  exact ⟨fun x hx => (a x hx).ok, b⟩
end Go.Proofs.YtghjmfpjaabilaaGreatDoor

namespace Go.Proofs.YtghjmfpjaabilaaGreatDoor
open Go.RowKit Go.Vf

theorem flip_flip (l : List UInt8) : flipL (flipL l) = l := by
  have h : ∀ x : UInt8, 255 - (255 - x) = x := fun x => by
    refine UInt8.toNat_inj.1 ?_
    have h1 := flip_toNat x
    have h2 := flip_toNat (255 - x)
    omega
  induction l with
  | nil => rfl
  | cons x r ih =>
    show (255 - (255 - x)) :: flipL (flipL r) = x :: r
    rw [h, ih]
theorem turn_turn (b : Bool) (l : List UInt8) : turnB b (turnB b l) = l := by unfold turnB; cases b <;> simp [flip_flip]
theorem turn_length (b : Bool) (l : List UInt8) : (turnB b l).length = l.length := by unfold turnB; cases b <;> simp [flipL_length]
theorem turn_append (b : Bool) (l r : List UInt8) : turnB b (l ++ r) = turnB b l ++ turnB b r := by unfold turnB; cases b <;> simp [flipL]
theorem ofNat_toNat (x : UInt8) : UInt8.ofNat x.toNat = x := by simp

theorem tkMag_turn {m : List UInt8} (hh : m.head? ≠ some 0) (h0 : m ≠ []) (b : Bool) (y : List UInt8) : tkMag (turnB b m ++ y) m.length b = .ok m := by
  obtain ⟨x, r, rfl⟩ : ∃ x r, m = x :: r := by
    cases m with
    | nil => exact absurd rfl h0
    | cons x r => exact ⟨x, r, rfl⟩
  have hx : x.toNat ≠ 0 := fun h => hh (by rw [show x = 0 from UInt8.toNat_inj.1 h]; rfl)
  obtain ⟨u, t, hu, hut⟩ : ∃ u t, turnB b (x :: r) = u :: t ∧ u.toNat ≠ (if b then 255 else 0) := by
    cases b
    · exact ⟨x, r, rfl, by simpa using hx⟩
    · refine ⟨255 - x, flipL r, rfl, ?_⟩
      have := flip_toNat x
      simp only [if_true]
      omega
  have hlen := turn_length b (x :: r)
  have htake : (turnB b (x :: r) ++ y).take (x :: r).length = turnB b (x :: r) := by rw [← hlen]; simp
  have hge : (x :: r).length ≤ (turnB b (x :: r) ++ y).length := by rw [List.length_append, hlen]; omega
  rw [hu, List.cons_append] at htake hge ⊢
  simp only [tkMag, hut, if_false, hge, if_true, htake]
  rw [← hu, turn_turn]

theorem tkHead_head {b : Bool} {k : Nat} (hk : k ≤ 255) (hb : b = true → 0 < k) (r : List UInt8) : tkHead (headL b k ++ r) = .ok (b, k, (headL b k).length) := by
  unfold headL
  by_cases h : 126 < k
  · rw [if_pos h]
    cases b
    · simp only [Bool.false_eq_true, if_false, List.cons_append, List.nil_append, tkHead]
      rw [if_pos (by decide), ofNat_nat (by omega), if_pos h]
      rfl
    · simp only [if_true, List.cons_append, List.nil_append, tkHead]
      rw [if_neg (by decide), if_pos (by decide), ofNat_nat (by omega), if_pos (by omega), show 255 - (255 - k) = k by omega]
      rfl
  · rw [if_neg h]
    cases b
    · simp only [Bool.false_eq_true, if_false, List.cons_append, List.nil_append, tkHead]
      rw [ofNat_nat (by omega), if_neg (by omega), if_neg (by omega), if_pos (by omega), if_neg (by omega), show 128 + k - 128 = k by omega]
      rfl
    · have := hb rfl
      simp only [if_true, List.cons_append, List.nil_append, tkHead]
      rw [ofNat_nat (by omega), if_neg (by omega), if_neg (by omega), if_pos (by omega), if_pos (by omega), show 128 - (128 - k) = k by omega]
      rfl

/-- P2.7: bytes. -/
theorem tk_put {p : Bool} {a : List UInt8} (hp : chk p a = 0) (y : List UInt8) : tk (putL p a ++ y) = ((putL p a).length, some (p, a)) := by
  obtain ⟨h1, h2, h3⟩ := chk_zero hp
  unfold tk putL
  rw [List.append_assoc, tkHead_head h1 (fun hb => List.length_pos_iff.2 (fun e => by rw [h3 e] at hb; cases hb))]
  simp only
  by_cases h0 : a = []
  · rw [h3 h0, h0]
    rfl
  · have : ¬ a.length = 0 := fun e => h0 (List.eq_nil_of_length_eq_zero e)
    rw [if_neg this, List.drop_left, tkMag_turn h2 h0]
    simp only [List.length_append, turn_length]

theorem tkHead_inv {l : List UInt8} {b : Bool} {k h : Nat} (hh : tkHead l = .ok (b, k, h)) : ∃ r, l = headL b k ++ r ∧ h = (headL b k).length ∧ k ≤ 255 ∧ (b = true → 0 < k) := by
  unfold tkHead at hh
  split at hh
  · cases hh
  · rename_i x r
    have hx := x.toNat_lt
    split at hh
    · rename_i hF
      split at hh
      · cases hh
      · rename_i y r'
        have hy := y.toNat_lt
        split at hh
        · rename_i hgt
          simp only [Except.ok.injEq, Prod.mk.injEq] at hh
          obtain ⟨rfl, rfl, rfl⟩ := hh
          refine ⟨r', ?_, ?_, by omega, by simp⟩
          · rw [headL, if_pos hgt, ofNat_toNat, show x = 255 from UInt8.toNat_inj.1 hF]; rfl
          · rw [headL, if_pos hgt]; rfl
        · cases hh
    · split at hh
      · rename_i hF hO
        split at hh
        · cases hh
        · rename_i y r'
          have hy := y.toNat_lt
          split at hh
          · rename_i hlt
            simp only [Except.ok.injEq, Prod.mk.injEq] at hh
            obtain ⟨rfl, rfl, rfl⟩ := hh
            refine ⟨r', ?_, ?_, by omega, by omega⟩
            · rw [headL, if_pos (by omega), show 255 - (255 - y.toNat) = y.toNat by omega, ofNat_toNat, show x = 1 from UInt8.toNat_inj.1 hO]; rfl
            · rw [headL, if_pos (by omega)]; rfl
          · cases hh
      · split at hh
        · split at hh
          · rename_i hF hO h1 hlt
            simp only [Except.ok.injEq, Prod.mk.injEq] at hh
            obtain ⟨rfl, rfl, rfl⟩ := hh
            refine ⟨r, ?_, ?_, by omega, by omega⟩
            · rw [headL, if_neg (by omega), show 128 - (128 - x.toNat) = x.toNat by omega, ofNat_toNat]; rfl
            · rw [headL, if_neg (by omega)]; rfl
          · rename_i hF hO h1 hlt
            simp only [Except.ok.injEq, Prod.mk.injEq] at hh
            obtain ⟨rfl, rfl, rfl⟩ := hh
            refine ⟨r, ?_, ?_, by omega, by simp⟩
            · rw [headL, if_neg (by omega), show 128 + (x.toNat - 128) = x.toNat by omega, ofNat_toNat]; rfl
            · rw [headL, if_neg (by omega)]; rfl
        · cases hh
theorem tkMag_inv {l m : List UInt8} {k : Nat} {b : Bool} (hk : 0 < k) (h : tkMag l k b = .ok m) : ∃ r, l = turnB b m ++ r ∧ m.length = k ∧ m.head? ≠ some 0 := by
  cases l with
  | nil => cases h
  | cons x t =>
    simp only [tkMag] at h
    by_cases hne : x.toNat = (if b then 255 else 0)
    · rw [if_pos hne] at h; cases h
    · rw [if_neg hne] at h
      by_cases hle : k ≤ (x :: t).length
      · rw [if_pos hle] at h
        simp only [Except.ok.injEq] at h
        subst h
        refine ⟨(x :: t).drop k, by rw [turn_turn, List.take_append_drop], by rw [turn_length, List.length_take]; omega, ?_⟩
        obtain ⟨j, rfl⟩ : ∃ j, k = j + 1 := ⟨k - 1, by omega⟩
        rw [List.take_succ_cons]
        cases b
        · intro h1
          have : x = 0 := by simpa [turnB] using h1
          exact hne (by rw [this]; rfl)
        · intro h1
          have h2 : (255 - x) = 0 := by simpa [turnB, flipL] using h1
          have := flip_toNat x
          rw [h2] at this
          exact hne (by simp only [if_true]; have : (0 : UInt8).toNat = 0 := rfl; omega)
      · rw [if_neg hle] at h; cases h
theorem tk_inv {l : List UInt8} {n : Nat} {b : Bool} {m : List UInt8} (h : tk l = (n, some (b, m))) : chk b m = 0 ∧ ∃ r, l = putL b m ++ r ∧ n = (putL b m).length := by
  unfold tk at h
  split at h
  · simp at h
  · rename_i b' k hd hh
    obtain ⟨r, hl, hd', hk, hb⟩ := tkHead_inv hh
    split at h
    · rename_i h0
      subst h0
      simp only [Prod.mk.injEq, Option.some.injEq] at h
      obtain ⟨rfl, rfl, rfl⟩ := h
      have : b' = false := by
        cases b'
        · rfl
        · exact absurd (hb rfl) (by decide)
      subst this
      exact ⟨by decide, r, by rw [hl]; rfl, by rw [hd']; rfl⟩
    · rename_i h0
      split at h
      · simp at h
      · rename_i m' hm
        simp only [Prod.mk.injEq, Option.some.injEq] at h
        obtain ⟨rfl, rfl, rfl⟩ := h
        obtain ⟨r2, hr2, hml, hmh⟩ := tkMag_inv (by omega) hm
        rw [hl, hd', List.drop_left] at hr2
        refine ⟨chk_ok (by omega) hmh (fun e => by rw [e] at hml; exact absurd hml.symm h0), r2, ?_, ?_⟩
        · rw [putL, hml, hl, hr2, List.append_assoc]
        · rw [putL, hml, List.length_append, turn_length, hml, hd']
theorem tkHead_err {l : List UInt8} {n : Nat} (h : tkHead l = .error n) : n ≤ l.length := by
  unfold tkHead at h
  split at h
  · simp only [Except.error.injEq] at h; omega
  · repeat' (first | (simp only [Except.error.injEq] at h; simp only [List.length_cons]; omega) | cases h | split at h)
theorem tk_le (l : List UInt8) : (tk l).1 ≤ l.length := by
  obtain ⟨⟨n, o⟩, h⟩ : ∃ z, tk l = z := ⟨_, rfl⟩
  rw [h]
  show n ≤ l.length
  cases o with
  | some z =>
    obtain ⟨b, m⟩ := z
    obtain ⟨_, r, hl, hn⟩ := tk_inv h
    rw [hl, hn, List.length_append]; omega
  | none =>
    unfold tk at h
    split at h
    · rename_i k hh
      have := tkHead_err hh
      simp only [Prod.mk.injEq] at h
      omega
    · rename_i b k hd hh
      obtain ⟨hh1, _, _⟩ := tkHead_ok hh
      split at h
      · simp at h
      · split at h
        · rename_i k' hm
          simp only [Prod.mk.injEq] at h
          have : k' ≤ (l.drop hd).length := by
            unfold tkMag at hm
            split at hm
            · simp only [Except.error.injEq] at hm; omega
            · rename_i x t hx
              by_cases hne : x.toNat = (if b then 255 else 0)
              · rw [if_pos hne] at hm
                simp only [Except.error.injEq] at hm; omega
              · rw [if_neg hne] at hm
                by_cases hle : k ≤ (x :: t).length
                · rw [if_pos hle] at hm; cases hm
                · rw [if_neg hle] at hm
                  simp only [Except.error.injEq] at hm; rw [hx]; omega
          rw [List.length_drop] at this
          omega
        · simp at h

/-- P2.7: digits. -/
theorem digit_not_minus {x : UInt8} (h : isDig x = true) : x ≠ 45 := by
  rintro rfl
  exact absurd h (by decide)
theorem parse_digits {D : List UInt8} (b : Bool) (hD : D.head? ≠ some 45) : parseB (if b then 45 :: D else D) = b ∧ parseD (if b then 45 :: D else D) = D := by
  cases b
  · have : parseB D = false := by
      cases D with
      | nil => rfl
      | cons x r =>
        have : x ≠ 45 := fun h => hD (by rw [h]; rfl)
        have e : ((45 : UInt8) == x) = false := by simpa using Ne.symm this
        simp only [parseB, List.isPrefixOf, e, Bool.false_and]
    simp only [Bool.false_eq_true, if_false]
    exact ⟨this, by rw [parseD, this]; rfl⟩
  · have : parseB (45 :: D) = true := by simp [parseB]
    simp only [if_true]
    exact ⟨this, by rw [parseD, this]; rfl⟩
theorem head_rev_digs {n : Nat} (b : Bool) (h : n ≠ 0) : digOK (decD n).reverse b = true ∧ (decD n).reverse.head? ≠ some 45 := by
  have h1 := decD_digs n
  have h2 := decD_last n
  have h3 : decD n ≠ [] := fun e => h (decD_nil.1 e)
  constructor
  · unfold digOK
    rw [List.head?_reverse]
    have e1 : ((decD n).getLast? == some 48) = false := by simpa using h2
    rw [e1]
    simp only [Bool.false_and, Bool.not_false, Bool.and_true, Bool.and_eq_true, List.all_eq_true]
    refine ⟨by simpa using h3, fun x hx => h1 x (by simpa using hx)⟩
  · rw [List.head?_reverse]
    intro h4
    have := List.mem_of_getLast? h4
    exact digit_not_minus (h1 _ this) rfl
theorem parse_print {p : Bool} {a : List UInt8} (hp : chk p a = 0) : parseR (printL p a) = .ok (p, a) := by
  obtain ⟨h1, h2, h3⟩ := chk_zero hp
  by_cases h0 : a = []
  · rw [h3 h0, h0]
    have e1 : digOK (parseD [48]) (parseB [48]) = true := by decide
    have e2 : dval (parseD [48]) = 0 := by decide
    have e3 : parseB [48] = false := by decide
    show parseR [48] = _
    rw [parseR, e1, e2, lowD_zero, e3]
    rfl
  · have hM := hvl_pos h2 h0
    obtain ⟨hok, h45⟩ := head_rev_digs p hM
    have hpr : printL p a = if p then 45 :: (decD (hvl a)).reverse else (decD (hvl a)).reverse := by
      rw [printL, if_neg (by simpa using h0)]
    obtain ⟨hB, hD⟩ := parse_digits p h45
    have hdv : dval (decD (hvl a)).reverse = hvl a := by rw [dval, List.reverse_reverse, tval_decD]
    have hmag := magOf_hvl h2
    unfold magOf at hmag
    rw [hpr, parseR, hB, hD, if_pos hok, hdv, if_pos (by rw [← List.length_reverse, hmag]; exact h1), hmag]
theorem print_parse {l : List UInt8} {b : Bool} {m : List UInt8} (h : parseR l = .ok (b, m)) : chk b m = 0 ∧ printL b m = l := by
  unfold parseR at h
  by_cases hok : digOK (parseD l) (parseB l) = true
  · rw [if_pos hok] at h
    by_cases hlen : (lowD (dval (parseD l))).length ≤ 255
    · rw [if_pos hlen] at h
      simp only [Except.ok.injEq, Prod.mk.injEq] at h
      obtain ⟨hb, hm⟩ := h
      have hl : l = if parseB l then 45 :: parseD l else parseD l := by
        by_cases h1 : parseB l = true
        · rw [if_pos h1, parseD, if_pos h1]
          unfold parseB at h1
          cases l with
          | nil => cases h1
          | cons x r =>
            simp only [List.isPrefixOf, Bool.and_true] at h1
            rw [← beq_iff_eq.1 h1]; rfl
        · rw [if_neg h1, parseD, if_neg h1]
      rw [hb] at hl hok
      generalize parseD l = D at hl hok hm hlen
      have hm' : m = magOf (dval D) := hm.symm
      unfold digOK at hok
      simp only [Bool.and_eq_true, Bool.not_eq_true', List.all_eq_true] at hok
      obtain ⟨⟨hne, hhd⟩, hdig⟩ := hok
      have hne' : D ≠ [] := by simpa using hne
      have hlast : D.head? ≠ some 48 → dval D ≠ 0 ∧ decD (dval D) = D.reverse := by
        intro h48
        have h1 : D.reverse.getLast? ≠ some 48 := by rw [List.getLast?_reverse]; exact h48
        exact ⟨tval_pos (fun x hx => hdig x (by simpa using hx)) h1 (by simpa using hne'), decD_tval (fun x hx => hdig x (by simpa using hx)) h1⟩
      have hval : hvl m = dval D := by rw [hm', magOf_val]
      by_cases h48 : D.head? = some 48
      · rw [h48] at hhd
        simp at hhd
        obtain ⟨hbf, hD1⟩ := hhd
        obtain rfl : D = [48] := by
          cases D with
          | nil => exact absurd rfl hne'
          | cons x r =>
            have : r = [] := List.eq_nil_of_length_eq_zero (by simp only [List.length_cons] at hD1; omega)
            rw [this] at h48 ⊢
            have : x = 48 := by simpa using h48
            rw [this]
        have hm0 : m = [] := by rw [hm', magOf_nil]; decide
        subst hbf
        rw [hm0]
        exact ⟨by decide, by rw [hl]; rfl⟩
      · obtain ⟨hpos, hdec⟩ := hlast h48
        have hm0 : m ≠ [] := fun e => hpos (magOf_nil.1 (by rw [← hm', e]))
        refine ⟨chk_ok (by rw [hm', magOf_length]; exact hlen) (by rw [hm']; exact magOf_head _) (fun e => absurd e hm0), ?_⟩
        rw [printL, if_neg (by simpa using hm0), hval, hdec, List.reverse_reverse, hl]
    · rw [if_neg hlen] at h; cases h
  · rw [if_neg hok] at h; cases h
theorem parse_err {l : List UInt8} {e : Int} (h : parseR l = .error e) : e = 20 ∨ e = 21 := by
  unfold parseR at h
  split at h
  · split at h
    · cases h
    · simp only [Except.error.injEq] at h; exact .inr h.symm
  · simp only [Except.error.injEq] at h; exact .inl h.symm
end Go.Proofs.YtghjmfpjaabilaaGreatDoor
