/- Contracts and lemmas (nothing is claimed here). -/
import Derived.Test.YtcbjnifoojjipaaGreatDoorJ8
import Derived.Test.YtcbjnifoojjipaaGreatDoorJ2
import Derived.Test.YtcbjnifoojjipaaGreatDoorJ22
import Derived.Lib.ItoaLen
import Derived.Test.YtcbjnifoojjipaaGreatDoorJ25
import Derived.Test.YtcbjnifoojjipaaGreatDoorJ12
import Derived.Test.YtcbjnifoojjipaaGreatDoorJ6
import Derived.Test.YtcbjnifoojjipaaGreatDoorJ7
namespace Go.Proofs.YtcbjnifoojjipaaGreatDoor
open Go.ChangeShapes Go.WideShapes Go.ChangeAt Go.RowKit Go.Deep Go.Vf

theorem fo57 : Tryz.prog.cellsOf 48 = 14 := by kernel_rfl
theorem fo9 : Tryz.prog.cellsOf 9 = 1 := by kernel_rfl
theorem fo25 : Tryz.prog.cellsOf 41 = 1 := by kernel_rfl
theorem fo4 : Tryz.prog.cellsOf 4 = 1 := by kernel_rfl
theorem fo53 : Tryz.prog.cellsOf 42 = 1 := by kernel_rfl
theorem fo27 : Tryz.prog.cellsOf 44 = 2 := by kernel_rfl
theorem fo3 : Tryz.prog.cellsOf 3 = 1 := by kernel_rfl
theorem fo55 : Tryz.prog.cellsOf 46 = 3 := by kernel_rfl
theorem fo22 : Tryz.prog.cellsOf 23 = 1 := by kernel_rfl
theorem by57 : Tryz.prog.bytesOf 48 = 120 := by kernel_rfl
theorem list_ten {α : Type} {l : List α} (h : l.length = 10) : ∃ a b c d e f g h i j, l = [a, b, c, d, e, f, g, h, i, j] := by
  match l, h with
  | [a, b, c, d, e, f, g, h, i, j], _ => exact ⟨a, b, c, d, e, f, g, h, i, j, rfl⟩
theorem list_14 {α : Type} {l : List α} (h : l.length = 14) : ∃ a b c d e f g h i j k m n o, l = [a, b, c, d, e, f, g, h, i, j, k, m, n, o] := by
  match l, h with
  | [a, b, c, d, e, f, g, h, i, j, k, m, n, o], _ => exact ⟨a, b, c, d, e, f, g, h, i, j, k, m, n, o, rfl⟩
theorem list_three {α : Type} {l : List α} (h : l.length = 3) : ∃ a b c, l = [a, b, c] := by
  match l, h with
  | [a, b, c], _ => exact ⟨a, b, c, rfl⟩
section
variable {H : Type} {enc : TypeId × Value → H} {W : World} {n : Nat}
theorem num_trod {c d : Value} {x : DataW H × List MemPlace} (h : DataW.trod enc Tryz.prog W 0 (fun _ => true) true n 44 [c, d] = some x) (hw : ∀ q ∈ x.1.weights Tryz.prog 44, q ≤ reachBytes) : ∃ z s, c = .bool z ∧ d = .string s ∧ s.size ≤ 281474976710656 := by
  obtain ⟨ys, n2, _, hye, _, hyl, hy⟩ := DataW.trod_struct Tryz.underlying44 h
  obtain ⟨y0, y1, rfl⟩ := list_two hyl
  have k0 : DataW.trod enc Tryz.prog W 0 (fun _ => true) true n2 4 (([c, d].drop 0).take (Tryz.prog.cellsOf 4)) = some y0 := hy 0 _ rfl
  have k1 : DataW.trod enc Tryz.prog W 0 (fun _ => true) true n2 9 (([c, d].drop 1).take (Tryz.prog.cellsOf 9)) = some y1 := hy 1 _ rfl
  rw [fo4] at k0
  rw [fo9] at k1
  obtain ⟨z2, e2, _⟩ := DataW.trod_bool Tryz.underlying4 (show DataW.trod enc Tryz.prog W 0 (fun _ => true) true n2 4 [c] = some y0 from k0)
  obtain ⟨s3, e3, d3, _⟩ := DataW.trod_string Tryz.underlying9 (show DataW.trod enc Tryz.prog W 0 (fun _ => true) true n2 9 [d] = some y1 from k1)
  simp only [List.cons.injEq, and_true] at e2 e3
  refine ⟨z2, s3, e2, e3, ?_⟩
  have := hw s3.data.toList.length (by
    rw [show x.1 = .agg ([y0, y1].map (·.1)) from congrArg Prod.fst hye]
    simp only [DataW.weights, Tryz.underlying44]
    refine DataW.weights_mem_each (j := 1) (t := 9) rfl rfl _ ?_
    rw [d3]; simp [DataW.weights])
  rw [reach_eq] at this
  rw [Lib.size_eq]; omega
theorem col_trod {c d e : Value} {x : DataW H × List MemPlace} (h : DataW.trod enc Tryz.prog W 0 (fun _ => true) true n 46 [c, d, e] = some x) : ∃ z s b, c = .int .i64 z ∧ d = .bool s ∧ e = .bool b ∧ (Lit.int .i64 z).wf = true := by
  obtain ⟨ys, n2, _, hye, _, hyl, hy⟩ := DataW.trod_struct Tryz.underlying46 h
  obtain ⟨y0, y1, y2, rfl⟩ := list_three hyl
  have k0 : DataW.trod enc Tryz.prog W 0 (fun _ => true) true n2 3 (([c, d, e].drop 0).take (Tryz.prog.cellsOf 3)) = some y0 := hy 0 _ rfl
  have k1 : DataW.trod enc Tryz.prog W 0 (fun _ => true) true n2 4 (([c, d, e].drop 1).take (Tryz.prog.cellsOf 4)) = some y1 := hy 1 _ rfl
  have k2 : DataW.trod enc Tryz.prog W 0 (fun _ => true) true n2 4 (([c, d, e].drop 2).take (Tryz.prog.cellsOf 4)) = some y2 := hy 2 _ rfl
  rw [fo3] at k0
  rw [fo4] at k1 k2
  obtain ⟨z0, e0, _, w0⟩ := DataW.trod_int Tryz.underlying3 (show DataW.trod enc Tryz.prog W 0 (fun _ => true) true n2 3 [c] = some y0 from k0)
  obtain ⟨z1, e1, _⟩ := DataW.trod_bool Tryz.underlying4 (show DataW.trod enc Tryz.prog W 0 (fun _ => true) true n2 4 [d] = some y1 from k1)
  obtain ⟨z2, e2, _⟩ := DataW.trod_bool Tryz.underlying4 (show DataW.trod enc Tryz.prog W 0 (fun _ => true) true n2 4 [e] = some y2 from k2)
  simp only [List.cons.injEq, and_true] at e0 e1 e2
  exact ⟨z0, z1, z2, e0, e1, e2, w0⟩
end

set_option maxHeartbeats 2000000 in
set_option maxRecDepth 20000 in
theorem field_trod {H : Type} {enc : TypeId × Value → H} {W : World} : ∀ (N fuel : Nat), fuel ≤ N → ∀ (cs : List Value) (x : DataW H × List MemPlace), DataW.trod enc Tryz.prog W 0 (fun _ => true) true fuel 48 cs = some x → (∀ n ∈ x.1.weights Tryz.prog 48, n ≤ reachBytes) →
    ∃ (o : Go.Vf.Own) (l : List Fld) (a : Option Addr) (c : Nat), cs = (cellsF o a l.length c).toList ∧ l.length ≤ c ∧ FIn W 0 W.heap.size l a ∧ FitsF 281474976710656 (.mk o l) := by
  intro N
  induction N with
  | zero =>
    intro fuel hN cs x h _
    obtain rfl : fuel = 0 := by omega
    simp [DataW.trod] at h
  | succ N ih =>
    intro fuel hN cs x h hw
    obtain ⟨xs, n', hfu, hxe, hcl, hxl, hf⟩ := DataW.trod_struct Tryz.underlying48 h
    have hD : x.1 = .agg (xs.map (·.1)) := congrArg Prod.fst hxe
    rw [fo57] at hcl
    obtain ⟨c0, c1, c2, c3, c4, c5, c6, c7, c8, c9, c10, c11, c12, c13, rfl⟩ := list_14 hcl
    obtain ⟨x0, x1, x2, x3, x4, x5, x6, x7, x8, x9, rfl⟩ := list_ten hxl
    have g0 : DataW.trod enc Tryz.prog W 0 (fun _ => true) true n' 9 (([c0, c1, c2, c3, c4, c5, c6, c7, c8, c9, c10, c11, c12, c13].drop 0).take (Tryz.prog.cellsOf 9)) = some x0 := hf 0 _ rfl
    have g1 : DataW.trod enc Tryz.prog W 0 (fun _ => true) true n' 41 (([c0, c1, c2, c3, c4, c5, c6, c7, c8, c9, c10, c11, c12, c13].drop 1).take (Tryz.prog.cellsOf 41)) = some x1 := hf 1 _ rfl
    have g2 : DataW.trod enc Tryz.prog W 0 (fun _ => true) true n' 4 (([c0, c1, c2, c3, c4, c5, c6, c7, c8, c9, c10, c11, c12, c13].drop 2).take (Tryz.prog.cellsOf 4)) = some x2 := hf 2 _ rfl
    have g3 : DataW.trod enc Tryz.prog W 0 (fun _ => true) true n' 42 (([c0, c1, c2, c3, c4, c5, c6, c7, c8, c9, c10, c11, c12, c13].drop 3).take (Tryz.prog.cellsOf 42)) = some x3 := hf 3 _ rfl
    have g4 : DataW.trod enc Tryz.prog W 0 (fun _ => true) true n' 4 (([c0, c1, c2, c3, c4, c5, c6, c7, c8, c9, c10, c11, c12, c13].drop 4).take (Tryz.prog.cellsOf 4)) = some x4 := hf 4 _ rfl
    have g5 : DataW.trod enc Tryz.prog W 0 (fun _ => true) true n' 44 (([c0, c1, c2, c3, c4, c5, c6, c7, c8, c9, c10, c11, c12, c13].drop 5).take (Tryz.prog.cellsOf 44)) = some x5 := hf 5 _ rfl
    have g6 : DataW.trod enc Tryz.prog W 0 (fun _ => true) true n' 44 (([c0, c1, c2, c3, c4, c5, c6, c7, c8, c9, c10, c11, c12, c13].drop 7).take (Tryz.prog.cellsOf 44)) = some x6 := hf 6 _ rfl
    have g7 : DataW.trod enc Tryz.prog W 0 (fun _ => true) true n' 3 (([c0, c1, c2, c3, c4, c5, c6, c7, c8, c9, c10, c11, c12, c13].drop 9).take (Tryz.prog.cellsOf 3)) = some x7 := hf 7 _ rfl
    have g8 : DataW.trod enc Tryz.prog W 0 (fun _ => true) true n' 46 (([c0, c1, c2, c3, c4, c5, c6, c7, c8, c9, c10, c11, c12, c13].drop 10).take (Tryz.prog.cellsOf 46)) = some x8 := hf 8 _ rfl
    have g9 : DataW.trod enc Tryz.prog W 0 (fun _ => true) true n' 23 (([c0, c1, c2, c3, c4, c5, c6, c7, c8, c9, c10, c11, c12, c13].drop 13).take (Tryz.prog.cellsOf 23)) = some x9 := hf 9 _ rfl
    rw [fo9] at g0
    rw [fo25] at g1
    rw [fo4] at g2
    rw [fo53] at g3
    rw [fo4] at g4
    rw [fo27] at g5
    rw [fo27] at g6
    rw [fo3] at g7
    rw [fo55] at g8
    rw [fo22] at g9
    have hwi : ∀ (j : Nat) (t : TypeId) (y : DataW H), ([9, 41, 4, 42, 4, 44, 44, 3, 46, 23] : List TypeId)[j]? = some t → ([x0.1, x1.1, x2.1, x3.1, x4.1, x5.1, x6.1, x7.1, x8.1, x9.1] : List (DataW H))[j]? = some y → ∀ q ∈ y.weights Tryz.prog t, q ≤ reachBytes := fun j t y hj hy q hq => hw q (by
      rw [hD]
      simp only [DataW.weights, Tryz.underlying48]
      exact DataW.weights_mem_each (j := j) (t := t) hj hy q hq)
    obtain ⟨s0, e0, d0, _⟩ := DataW.trod_string Tryz.underlying9 (show DataW.trod enc Tryz.prog W 0 (fun _ => true) true n' 9 [c0] = some x0 from g0)
    obtain ⟨z1, e1, _, w1⟩ := DataW.trod_int Tryz.underlying41 (show DataW.trod enc Tryz.prog W 0 (fun _ => true) true n' 41 [c1] = some x1 from g1)
    obtain ⟨z2, e2, _⟩ := DataW.trod_bool Tryz.underlying4 (show DataW.trod enc Tryz.prog W 0 (fun _ => true) true n' 4 [c2] = some x2 from g2)
    obtain ⟨z3, e3, _, w3⟩ := DataW.trod_int Tryz.underlying42 (show DataW.trod enc Tryz.prog W 0 (fun _ => true) true n' 42 [c3] = some x3 from g3)
    obtain ⟨z4, e4, _⟩ := DataW.trod_bool Tryz.underlying4 (show DataW.trod enc Tryz.prog W 0 (fun _ => true) true n' 4 [c4] = some x4 from g4)
    obtain ⟨z5, s6, e5, e6, hs6⟩ := num_trod (show DataW.trod enc Tryz.prog W 0 (fun _ => true) true n' 44 [c5, c6] = some x5 from g5) (hwi 5 44 x5.1 rfl rfl)
    obtain ⟨z7, s8, e7, e8, hs8⟩ := num_trod (show DataW.trod enc Tryz.prog W 0 (fun _ => true) true n' 44 [c7, c8] = some x6 from g6) (hwi 6 44 x6.1 rfl rfl)
    obtain ⟨z9, e9, _, w9⟩ := DataW.trod_int Tryz.underlying3 (show DataW.trod enc Tryz.prog W 0 (fun _ => true) true n' 3 [c9] = some x7 from g7)
    obtain ⟨z10, z11, z12, e10, e11, e12, w10⟩ := col_trod (show DataW.trod enc Tryz.prog W 0 (fun _ => true) true n' 46 [c10, c11, c12] = some x8 from g8)
    simp only [List.cons.injEq, and_true] at e0 e1 e2 e3 e4 e9
    have hs0 : s0.size ≤ 281474976710656 := by
      have := hwi 0 9 x0.1 rfl rfl s0.data.toList.length (by rw [d0]; simp [DataW.weights])
      rw [reach_eq] at this
      rw [Lib.size_eq]; omega
    have b1 := bounds_u8 w1
    have b3 := bounds_u8 w3
    have b9 := bounds_i64 w9
    have b10 := bounds_i64 w10
    subst e0 e1 e2 e3 e4 e5 e6 e7 e8 e9 e10 e11 e12
    have hown : OwnFits 281474976710656 ⟨s0, z1, z2, z3, z4, z5, s6, z7, s8, z9, z10, z11, z12⟩ := ⟨by show 0 ≤ z1; omega, by show z1 < 256; omega, by show 0 ≤ z3; omega, by show z3 < 256; omega, hs0, hs6, hs8, b9.1, by show z9 < _; omega, b10.1, by show z10 < _; omega⟩
    have g9' : DataW.trod enc Tryz.prog W 0 (fun _ => true) true n' 23 [c13] = some x9 := g9
    rcases DataW.trod_slice Tryz.underlying23 g9' with ⟨hcs, _⟩ | ⟨a, len, cap, elems, rest, n, hfn, hcs, hd, _, hl, hm, hlen, hel, hsp, hns⟩
    · simp only [List.cons.injEq, and_true] at hcs
      subst hcs
      exact ⟨⟨s0, z1, z2, z3, z4, z5, s6, z7, s8, z9, z10, z11, z12⟩, [], none, 0, rfl, Nat.le_refl _, .nil, .mk hown (by simp [Fld.fields]) (fun x hx => by cases hx)⟩
    · simp only [List.cons.injEq, and_true] at hcs
      subst hcs
      have hd1 : x9.1 = .slice (elems.map (·.1)) (rest.map (·.1)) := congrArg Prod.fst hd
      have hwl : len ≤ 281474976710656 := by
        have := hwi 9 23 x9.1 rfl rfl (((elems.map (·.1)).length + (rest.map (·.1)).length) * Tryz.prog.bytesOf 48) (by
          rw [hd1]; simp [DataW.weights, Tryz.underlying23])
        rw [by57, reach_eq] at this
        simp at this
        omega
      have hwd : ∀ i (hi : i < elems.length), ∀ q ∈ (elems[i].1).weights Tryz.prog 48, q ≤ reachBytes := fun i hi q hq => hwi 9 23 x9.1 rfl rfl q (by
        rw [hd1]
        simp only [DataW.weights, Tryz.underlying23, List.mem_cons, List.mem_append]
        exact .inr (.inl (weightsAll_mem (List.mem_map.2 ⟨elems[i], List.getElem_mem hi, rfl⟩) q hq)))
      have hx : ∀ i, i < len → ∃ cs', W.cells? 0 (a.add (i * 14)) 14 = some cs' ∧ ∃ hi : i < elems.length, DataW.trod enc Tryz.prog W 0 (fun _ => true) true n 48 cs' = some elems[i] := by
        intro i hi
        have hie : i < elems.length := by omega
        have h1 := hel i hi
        rw [fo57, List.getElem?_eq_getElem hie] at h1
        obtain ⟨cs', q1, q2⟩ := Option.bind_eq_some_iff.1 h1
        exact ⟨cs', q1, hie, q2⟩
      rcases Nat.eq_zero_or_pos len with h0 | h0
      · subst h0
        exact ⟨⟨s0, z1, z2, z3, z4, z5, s6, z7, s8, z9, z10, z11, z12⟩, [], some a, cap, rfl, Nat.zero_le _, .nil, .mk hown (by simp [Fld.fields]) (fun x hx => by cases hx)⟩
      obtain ⟨b, off, spot⟩ := a
      have hspot : spot = none := by
        obtain ⟨cs', h1, _⟩ := hx 0 (by omega)
        obtain ⟨_, hlen', hcell⟩ := World.cells?_some h1
        have hc := hcell 0 (by omega)
        obtain ⟨c0, c1, c2, c3, c4, c5, c6, c7, c8, c9, c10, c11, c12, c13, rfl⟩ := list_14 hlen'
        have := World.cell?_spot hc
        simpa [Addr.add] using this
      subst hspot
      have each : ∀ i, i < len → ∃ y : Fld × Option Addr × Nat, RowF W b (off + i * 14) y.1.own y.2.1 y.1.fields.length y.2.2 ∧ y.1.fields.length ≤ y.2.2 ∧ FIn W 0 W.heap.size y.1.fields y.2.1 ∧ FitsF 281474976710656 y.1 := by
        intro i hi
        obtain ⟨cs', h1, hie, h2⟩ := hx i (by omega)
        rw [Go.WideShapes.add_plain] at h1
        obtain ⟨_, hlen', hcell⟩ := World.cells?_some h1
        obtain ⟨o', l', a', c', e, hp1, hp, hfp⟩ := ih n (by omega) cs' elems[i] h2 (hwd i hie)
        subst e
        have k : ∀ j (hj : j < 14), W.cell? ⟨b, off + i * 14 + j, none⟩ = (cellsF o' a' l'.length c').toList[j]? := fun j hj => by
          have q := hcell j (by simpa [cellsF] using hj)
          rw [Go.WideShapes.add_plain] at q
          rw [q]
        exact ⟨(.mk o' l', a', c'), ⟨k 0 (by omega), k 1 (by omega), k 2 (by omega), k 3 (by omega), k 4 (by omega), k 5 (by omega), k 6 (by omega), k 7 (by omega), k 8 (by omega), k 9 (by omega), k 10 (by omega), k 11 (by omega), k 12 (by omega), k 13 (by omega)⟩, hp1, hp, hfp⟩
      obtain ⟨L, hLl, hLz⟩ := choose_list len each
      refine ⟨⟨s0, z1, z2, z3, z4, z5, s6, z7, s8, z9, z10, z11, z12⟩, L.map (·.1), some ⟨b, off, none⟩, cap, ?_, by simp [hLl]; exact hl, ?_, .mk hown (by simp [Fld.fields, hLl]; omega) (fun x hx => ?_)⟩
      · simp [cellsF, hLl]
      · have hq := (hLz 0 (by omega)).1.c0
        have hblk := World.block_lt_of_cell? W _ hq
        refine .cons (fun j => ((L[j]?).map (·.2.1)).getD none) (fun j => ((L[j]?).map (·.2.2)).getD 0) (by omega) hblk (fun j hj => ?_) (fun j hj => ?_) (fun j hj => ?_)
        · have hj' : j < L.length := by simpa using hj
          have := (hLz j hj').1
          simpa [hj'] using this
        · have hj' : j < L.length := by simpa using hj
          have := (hLz j hj').2.1
          simpa [hj'] using this
        · have hj' : j < L.length := by simpa using hj
          have := (hLz j hj').2.2.1
          simpa [hj'] using this
      · simp only [Fld.fields, List.mem_map] at hx
        obtain ⟨y, hy, rfl⟩ := hx
        obtain ⟨i, hi, rfl⟩ := List.mem_iff_getElem.1 hy
        exact (hLz i hi).2.2.2

set_option maxRecDepth 20000 in
theorem field_open {H : Type} {enc : TypeId × Value → H} {base : Nat} {W : World} (v : Value) (d : DataW H) (pl : List MemPlace) (hok : Value.okWide Tryz.prog W .any base 48 v)
    (h : DataW.Trod enc Tryz.prog W 0 (fun _ => true) true 48 v d pl) (hw : ∀ n ∈ d.weights Tryz.prog 48, n ≤ reachBytes) : ∃ (o : Go.Vf.Own) (l : List Fld) (a : Option Addr) (c : Nat), v = fV o a l.length c ∧ l.length ≤ c ∧ FIn W 0 W.heap.size l a ∧ FitsF 281474976710656 (.mk o l) := by
  obtain ⟨cs, rfl, _⟩ := okWide_struct Tryz.underlying48 hok
  obtain ⟨fuel, hf⟩ := h
  obtain ⟨o, l, a, c, e, h1, h2, h3⟩ := field_trod fuel fuel (Nat.le_refl _) _ _ hf hw
  refine ⟨o, l, a, c, ?_, h1, h2, h3⟩
  simp only [Value.cells] at e
  unfold fV
  obtain ⟨q⟩ := cs
  simp only [cellsF] at e
  rw [e]
end Go.Proofs.YtcbjnifoojjipaaGreatDoor

namespace Go.Proofs.YtcbjnifoojjipaaGreatDoor
open Go.ChangeShapes Go.WideShapes Go.ChangeAt Go.RowKit Go.Deep Go.Vf

theorem so24 : Tryz.prog.cellsOf 25 = 2 := by kernel_rfl
set_option maxHeartbeats 2000000 in
set_option maxRecDepth 20000 in
theorem schema_trod {H : Type} {enc : TypeId × Value → H} {W : World} (fuel : Nat) (cs : List Value) (x : DataW H × List MemPlace) (h : DataW.trod enc Tryz.prog W 0 (fun _ => true) true fuel 25 cs = some x) (hw : ∀ n ∈ x.1.weights Tryz.prog 25, n ≤ reachBytes) :
    ∃ (z : Int) (l : List Fld) (a : Option Addr) (c : Nat), cs = [.int .i64 z, .slice a l.length c] ∧ l.length ≤ c ∧ FIn W 0 W.heap.size l a ∧ (∀ x ∈ l, FitsF 281474976710656 x) ∧ l.length ≤ 281474976710656 := by
  obtain ⟨xs, n', hfu, hxe, hcl, hxl, hf⟩ := DataW.trod_struct Tryz.underlying25 h
  have hD : x.1 = .agg (xs.map (·.1)) := congrArg Prod.fst hxe
  rw [so24] at hcl
  obtain ⟨c0, c1, rfl⟩ := list_two hcl
  obtain ⟨x0, x1, rfl⟩ := list_two hxl
  have g0 : DataW.trod enc Tryz.prog W 0 (fun _ => true) true n' 3 (([c0, c1].drop 0).take (Tryz.prog.cellsOf 3)) = some x0 := hf 0 _ rfl
  have g1 : DataW.trod enc Tryz.prog W 0 (fun _ => true) true n' 23 (([c0, c1].drop 1).take (Tryz.prog.cellsOf 23)) = some x1 := hf 1 _ rfl
  rw [fo3] at g0
  rw [fo22] at g1
  have hwi : ∀ (j : Nat) (t : TypeId) (y : DataW H), ([3, 23] : List TypeId)[j]? = some t → ([x0.1, x1.1] : List (DataW H))[j]? = some y → ∀ q ∈ y.weights Tryz.prog t, q ≤ reachBytes := fun j t y hj hy q hq => hw q (by
    rw [hD]
    simp only [DataW.weights, Tryz.underlying25]
    exact DataW.weights_mem_each (j := j) (t := t) hj hy q hq)
  obtain ⟨z0, e0, _, _⟩ := DataW.trod_int Tryz.underlying3 (show DataW.trod enc Tryz.prog W 0 (fun _ => true) true n' 3 [c0] = some x0 from g0)
  simp only [List.cons.injEq, and_true] at e0
  subst e0
  have g1 : DataW.trod enc Tryz.prog W 0 (fun _ => true) true n' 23 [c1] = some x1 := g1
  rcases DataW.trod_slice Tryz.underlying23 g1 with ⟨hcs, _⟩ | ⟨a, len, cap, elems, rest, n, hfn, hcs, hd, _, hl, hm, hlen, hel, hsp, hns⟩
  · simp only [List.cons.injEq, and_true] at hcs
    subst hcs
    exact ⟨z0, [], none, 0, rfl, Nat.le_refl _, .nil, (fun x hx => by cases hx), by simp⟩
  · simp only [List.cons.injEq, and_true] at hcs
    subst hcs
    have hd1 : x1.1 = .slice (elems.map (·.1)) (rest.map (·.1)) := congrArg Prod.fst hd
    have hwl : len ≤ 281474976710656 := by
      have := hwi 1 23 x1.1 rfl rfl (((elems.map (·.1)).length + (rest.map (·.1)).length) * Tryz.prog.bytesOf 48) (by
        rw [hd1]; simp [DataW.weights, Tryz.underlying23])
      rw [by57, reach_eq] at this
      simp at this
      omega
    have hwd : ∀ i (hi : i < elems.length), ∀ q ∈ (elems[i].1).weights Tryz.prog 48, q ≤ reachBytes := fun i hi q hq => hwi 1 23 x1.1 rfl rfl q (by
      rw [hd1]
      simp only [DataW.weights, Tryz.underlying23, List.mem_cons, List.mem_append]
      exact .inr (.inl (weightsAll_mem (List.mem_map.2 ⟨elems[i], List.getElem_mem hi, rfl⟩) q hq)))
    have hx : ∀ i, i < len → ∃ cs', W.cells? 0 (a.add (i * 14)) 14 = some cs' ∧ ∃ hi : i < elems.length, DataW.trod enc Tryz.prog W 0 (fun _ => true) true n 48 cs' = some elems[i] := by
      intro i hi
      have hie : i < elems.length := by omega
      have h1 := hel i hi
      rw [fo57, List.getElem?_eq_getElem hie] at h1
      obtain ⟨cs', q1, q2⟩ := Option.bind_eq_some_iff.1 h1
      exact ⟨cs', q1, hie, q2⟩
    rcases Nat.eq_zero_or_pos len with h0 | h0
    · subst h0
      exact ⟨z0, [], some a, cap, rfl, Nat.zero_le _, .nil, (fun x hx => by cases hx), by simp⟩
    obtain ⟨b, off, spot⟩ := a
    have hspot : spot = none := by
      obtain ⟨cs', h1, _⟩ := hx 0 (by omega)
      obtain ⟨_, hlen', hcell⟩ := World.cells?_some h1
      have hc := hcell 0 (by omega)
      obtain ⟨c0, c1, c2, c3, c4, c5, c6, c7, c8, c9, c10, c11, c12, c13, rfl⟩ := list_14 hlen'
      have := World.cell?_spot hc
      simpa [Addr.add] using this
    subst hspot
    have each : ∀ i, i < len → ∃ y : Fld × Option Addr × Nat, RowF W b (off + i * 14) y.1.own y.2.1 y.1.fields.length y.2.2 ∧ y.1.fields.length ≤ y.2.2 ∧ FIn W 0 W.heap.size y.1.fields y.2.1 ∧ FitsF 281474976710656 y.1 := by
      intro i hi
      obtain ⟨cs', h1, hie, h2⟩ := hx i (by omega)
      rw [Go.WideShapes.add_plain] at h1
      obtain ⟨_, hlen', hcell⟩ := World.cells?_some h1
      obtain ⟨o', l', a', c', e, hp1, hp, hfp⟩ := field_trod n n (Nat.le_refl _) cs' elems[i] h2 (hwd i hie)
      subst e
      have k : ∀ j (hj : j < 14), W.cell? ⟨b, off + i * 14 + j, none⟩ = (cellsF o' a' l'.length c').toList[j]? := fun j hj => by
        have q := hcell j (by simpa [cellsF] using hj)
        rw [Go.WideShapes.add_plain] at q
        rw [q]
      exact ⟨(.mk o' l', a', c'), ⟨k 0 (by omega), k 1 (by omega), k 2 (by omega), k 3 (by omega), k 4 (by omega), k 5 (by omega), k 6 (by omega), k 7 (by omega), k 8 (by omega), k 9 (by omega), k 10 (by omega), k 11 (by omega), k 12 (by omega), k 13 (by omega)⟩, hp1, hp, hfp⟩
    obtain ⟨L, hLl, hLz⟩ := choose_list len each
    refine ⟨z0, L.map (·.1), some ⟨b, off, none⟩, cap, ?_, by simp [hLl]; exact hl, ?_, (fun x hx => ?_), by simp [hLl]; omega⟩
    · simp [hLl]
    · have hq := (hLz 0 (by omega)).1.c0
      have hblk := World.block_lt_of_cell? W _ hq
      refine .cons (fun j => ((L[j]?).map (·.2.1)).getD none) (fun j => ((L[j]?).map (·.2.2)).getD 0) (by omega) hblk (fun j hj => ?_) (fun j hj => ?_) (fun j hj => ?_)
      · have hj' : j < L.length := by simpa using hj
        have := (hLz j hj').1
        simpa [hj'] using this
      · have hj' : j < L.length := by simpa using hj
        have := (hLz j hj').2.1
        simpa [hj'] using this
      · have hj' : j < L.length := by simpa using hj
        have := (hLz j hj').2.2.1
        simpa [hj'] using this
    · simp only [List.mem_map] at hx
      obtain ⟨y, hy, rfl⟩ := hx
      obtain ⟨i, hi, rfl⟩ := List.mem_iff_getElem.1 hy
      exact (hLz i hi).2.2.2


set_option maxRecDepth 20000 in
theorem schema_open {H : Type} {enc : TypeId × Value → H} {base : Nat} {W : World} (v : Value) (d : DataW H) (pl : List MemPlace) (hok : Value.okWide Tryz.prog W .any base 25 v)
    (h : DataW.Trod enc Tryz.prog W 0 (fun _ => true) true 25 v d pl) (hw : ∀ n ∈ d.weights Tryz.prog 25, n ≤ reachBytes) : ∃ (z : Int) (l : List Fld) (a : Option Addr) (c : Nat), v = .agg #[.int .i64 z, .slice a l.length c] ∧ l.length ≤ c ∧ FIn W 0 W.heap.size l a ∧ (∀ x ∈ l, FitsF 281474976710656 x) ∧ l.length ≤ 281474976710656 := by
  obtain ⟨cs, rfl, _⟩ := okWide_struct Tryz.underlying25 hok
  obtain ⟨fuel, hf⟩ := h
  obtain ⟨z, l, a, c, e, h1⟩ := schema_trod fuel _ _ hf hw
  refine ⟨z, l, a, c, ?_, h1⟩
  simp only [Value.cells] at e
  obtain ⟨q⟩ := cs
  simp only at e
  rw [e]
end Go.Proofs.YtcbjnifoojjipaaGreatDoor

namespace Go.Proofs.YtcbjnifoojjipaaGreatDoor
open Go.RowKit Go.Vf

theorem maySay_good {o : Go.Vf.Own} {n : Nat} (h : maySayO (bndQ o) o n = true) : 1 ≤ o.kind ∧ o.kind ≤ 7 ∧ 0 ≤ o.nulls + 2 - o.nulls ∧ (o.bnd = true → o.kind = 2 ∧ bndQ o = true) ∧ (o.kind = 7 ∨ n = 0) := by
  unfold maySayO at h
  simp only [Bool.and_eq_true, decide_eq_true_eq] at h
  obtain ⟨⟨⟨⟨⟨⟨h1, h2⟩, h3⟩, h4⟩, h5⟩, h6⟩, h7⟩ := h
  refine ⟨h1, h2, by omega, ?_, by simpa using h7⟩
  intro hb
  by_cases hk : o.kind = 2
  · rw [if_pos hk, if_pos hb] at h4; exact ⟨hk, h4⟩
  · rw [if_neg hk, hb] at h4; simp at h4
theorem bndQ_chk {o : Go.Vf.Own} (h : bndQ o = true) : chk o.ln o.lm.data.toList = 0 ∧ chk o.hn o.hm.data.toList = 0 ∧ cmpN o.ln o.lm.data.toList o.hn o.hm.data.toList ≤ 0 := by
  unfold bndQ at h
  simp only [Bool.and_eq_true, decide_eq_true_eq] at h
  exact ⟨h.1.1, h.1.2, h.2⟩
theorem seeF_may {Q : Go.Vf.Own → Bool} {n c : Nat} {ah : List Fld} {f : Fld} (h : seeF Q n c ah f = 0) : c ≤ 64 ∧ n ≤ 16 ∧ isNameS f.own.name = true ∧ maySayO (Q f.own) f.own f.fields.length = true ∧ ¬(f.own.kind = 7 ∧ f.fields = []) := by
  unfold seeF at h
  split at h; · cases h
  split at h; · cases h
  split at h; · cases h
  split at h; · cases h
  split at h; · cases h
  split at h; · cases h
  rename_i h1 h2 h3 _ h5 h6
  exact ⟨by omega, by omega, by simpa using h3, by simpa using h5, h6⟩
theorem tour_bad {Q : Go.Vf.Own → Bool} : ∀ (k : Nat) (l : List Fld), SizeOf.sizeOf l ≤ k → ∀ (P : List Int) (ah : List Fld) (n : Nat) (c : Int) (p : List Int) (m : Nat), tourL Q P ah n l = .bad c p m → c ≠ 0 := by
  intro k
  induction k with
  | zero => intro l hk; cases l <;> simp at hk
  | succ k ih =>
    intro l hk P ah n c p m h
    cases l with
    | nil => rw [tourL_nil] at h; cases h
    | cons f r =>
      obtain ⟨o, g⟩ := f
      have s1 : SizeOf.sizeOf g ≤ k := by simp at hk; omega
      have s2 : SizeOf.sizeOf r ≤ k := by simp at hk; omega
      by_cases he : seeF Q (P.length + 1) (n + 1) ah (.mk o g) = 0
      · cases hb : tourL Q (P ++ [(ah.length : Int)]) [] (n + 1) g with
        | bad c' p' q => rw [tourL_in Q P ah n (.mk o g) r he hb] at h; cases h; exact ih g s1 _ _ _ _ _ _ hb
        | ok q => rw [tourL_on Q P ah n (.mk o g) r he hb] at h; exact ih r s2 _ _ _ _ _ _ h
      · rw [tourL_bad Q P ah n (.mk o g) r he] at h; cases h; exact he
theorem chkS_tour {Q : Go.Vf.Own → Bool} {limit : Int} {l : List Fld} (h : (chkS Q limit l).1 = 0) : ∃ m, tourL Q [] [] 0 l = .ok m := by
  unfold chkS at h
  split at h; · cases h
  split at h; · cases h
  cases ht : tourL Q [] [] 0 l with
  | ok m => exact ⟨m, rfl⟩
  | bad c p n => rw [ht] at h; exact absurd h (tour_bad _ l (Nat.le_refl _) _ _ _ _ _ _ ht)
/-- All that stands within a field may be said. -/
inductive GodF : Fld → Prop where
  | mk {f : Fld} : isNameS f.own.name = true → maySayO (bndQ f.own) f.own f.fields.length = true → (∀ x ∈ f.fields, GodF x) → GodF f
theorem GodF.ok : ∀ {f : Fld}, GodF f → OkP f := by
  intro f
  induction f using Fld.ind with
  | h o l ih =>
    intro h
    cases h with
    | mk h1 h2 h3 => exact .mk (maySay_good h2).1 (maySay_good h2).2.1 fun x hx => ih x hx (h3 x hx)
theorem nat_len {b : Bool} {m : List UInt8} (h : chk b m = 0) : (natS b m).length ≤ 766 := by
  have h1 := decD_bound (chk_zero h).1
  rw [natS, if_pos h, printL]
  split
  · simp
  · split
    · simp; omega
    · simp; omega
theorem word_len (k : Nat) : (wordK k).length ≤ 5 := by
  unfold wordK
  split; · simp
  split; · simp
  split; · simp
  split; · simp
  split; · simp
  split; · simp
  simp
theorem sp_len (b : Bool) (l : List UInt8) : (spIf b l).length ≤ l.length + 1 := by
  cases b
  · simp [spIf]
  · simp [spIf]
theorem name_len {s : ByteArray} (h : isNameS s = true) : s.data.toList.length ≤ 16 := by
  unfold isNameS at h
  cases hs : s.data.toList with
  | nil => simp
  | cons c r => rw [hs] at h; simp only [isNameL, Bool.and_eq_true, decide_eq_true_eq] at h; exact h.1.1
theorem maySay_num {o : Go.Vf.Own} {n : Nat} (h : maySayO (bndQ o) o n = true) : 0 ≤ o.most ∧ o.most ≤ 65536 ∧ 0 ≤ o.str ∧ o.str ≤ 4 := by
  unfold maySayO at h
  simp only [Bool.and_eq_true, decide_eq_true_eq] at h
  obtain ⟨⟨⟨⟨⟨⟨h1, h2⟩, h3⟩, h4⟩, h5⟩, h6⟩, h7⟩ := h
  have a : 0 ≤ o.most ∧ o.most ≤ 65536 := by
    split at h5
    · simp only [Bool.and_eq_true, decide_eq_true_eq] at h5; exact h5
    · have := eq_of_beq h5; omega
  have b : 0 ≤ o.str ∧ o.str ≤ 4 := by
    split at h6
    · simp only [Bool.and_eq_true, decide_eq_true_eq] at h6; omega
    · simp only [Bool.and_eq_true, beq_iff_eq] at h6; omega
  exact ⟨a.1, a.2, b.1, b.2⟩
theorem told_len {o : Go.Vf.Own} {n : Nat} (hn : isNameS o.name = true) (h : maySayO (bndQ o) o n = true) : (toldF o).length ≤ 1800 := by
  obtain ⟨a1, a2, b1, b2⟩ := maySay_num h
  have i1 := Lib.itoa_length_le o.most (by omega) (by omega)
  have i2 := Lib.itoa_length_le o.str (by omega) (by omega)
  have hk : (toldK o).length ≤ 1650 := by
    unfold toldK
    split
    · rename_i hk
      split
      · rename_i hb
        have hq := ((maySay_good h).2.2.2.1 hb).2
        have q1 := nat_len (bndQ_chk hq).1
        have q2 := nat_len (bndQ_chk hq).2.1
        simp only [List.length_append, List.length_cons, List.length_nil]; omega
      · simp
    split
    · simp only [List.length_append, List.length_cons, List.length_nil]; omega
    split
    · have s1 := sp_len o.shf [115, 104, 105, 102, 116, 101, 100]
      have s2 := sp_len o.bck [98, 97, 99, 107]
      simp only [List.length_append, List.length_cons, List.length_nil] at s1 s2 ⊢; omega
    · simp
  have h1 := name_len hn
  have h2 := word_len o.kind.toNat
  have h3 := sp_len o.down [100, 111, 119, 110]
  have h4 := sp_len (o.nulls == 1) [110, 117, 108, 108, 45, 102, 105, 114, 115, 116]
  have h5 := sp_len (o.nulls == 2) [110, 117, 108, 108, 45, 108, 97, 115, 116]
  unfold toldF
  simp only [List.length_append, List.length_cons, List.length_nil] at h3 h4 h5 ⊢
  omega
theorem tour_god : ∀ (k : Nat) (l : List Fld), SizeOf.sizeOf l ≤ k → ∀ (P : List Int) (ah : List Fld) (n m : Nat), tourL bndQ P ah n l = .ok m → ∀ ahead : List UInt8, ahead.length ≤ 2 * P.length → (fieldsL l ahead).length + 2000 * n ≤ 2000 * m ∧ ∀ x ∈ l, GodF x := by
  intro k
  induction k with
  | zero => intro l hk; cases l <;> simp at hk
  | succ k ih =>
    intro l hk P ah n m h ahead hah
    cases l with
    | nil => rw [tourL_nil] at h; cases h; exact ⟨by simp [fieldsL], fun x hx => by cases hx⟩
    | cons f r =>
      obtain ⟨o, g⟩ := f
      have s1 : SizeOf.sizeOf g ≤ k := by simp at hk; omega
      have s2 : SizeOf.sizeOf r ≤ k := by simp at hk; omega
      by_cases he : seeF bndQ (P.length + 1) (n + 1) ah (.mk o g) = 0
      · cases hb : tourL bndQ (P ++ [(ah.length : Int)]) [] (n + 1) g with
        | bad c p q => rw [tourL_in bndQ P ah n (.mk o g) r he hb] at h; cases h
        | ok q =>
          rw [tourL_on bndQ P ah n (.mk o g) r he hb] at h
          obtain ⟨e1, e2, e3, e4, _⟩ := seeF_may he
          obtain ⟨a1, a2⟩ := ih g s1 _ _ _ _ hb (ahead ++ [32, 32]) (by simp; omega)
          obtain ⟨b1, b2⟩ := ih r s2 _ _ _ _ h ahead hah
          have ht := told_len e3 e4
          refine ⟨?_, fun x hx => ?_⟩
          · rw [fieldsL, fieldL_eq]
            have hx : (if (Fld.mk o g).own.kind = 7 then fieldsL (Fld.mk o g).fields (ahead ++ [32, 32]) ++ (ahead ++ [101, 110, 100] ++ [10]) else []).length ≤ (fieldsL g (ahead ++ [32, 32])).length + ahead.length + 4 := by
              split
              · simp only [List.length_append, List.length_cons, List.length_nil, Fld.fields]; omega
              · simp
            simp only [List.length_append, List.length_cons, List.length_nil] at hx ht ⊢
            omega
          · rcases List.mem_cons.1 hx with rfl | hx
            · exact .mk e3 e4 a2
            · exact b2 x hx
      · rw [tourL_bad bndQ P ah n (.mk o g) r he] at h; cases h
/-- A right schema: its fields, its limit, how long its text is. -/
theorem chkS_god {limit : Int} {l : List Fld} (h : (chkS bndQ limit l).1 = 0) : (∀ x ∈ l, GodF x) ∧ 1 ≤ limit ∧ limit ≤ 65536 ∧ (prnS limit l).length ≤ 400000 := by
  obtain ⟨m, hm⟩ := chkS_tour h
  have hlim : 1 ≤ limit ∧ limit ≤ 65536 := by
    unfold chkS at h
    split at h; · cases h
    omega
  have h64 := tourL_le bndQ _ l (Nat.le_refl _) _ _ _ _ (by omega) hm
  obtain ⟨a1, a2⟩ := tour_god _ l (Nat.le_refl _) [] [] 0 m hm [] (by simp)
  have i1 := Lib.itoa_length_le limit (by omega) (by omega)
  refine ⟨a2, hlim.1, hlim.2, ?_⟩
  unfold prnS
  simp only [List.length_append, List.length_cons, List.length_nil]
  omega
theorem chkS_good {limit : Int} {l : List Fld} (h : (chkS bndQ limit l).1 = 0) : (∀ x ∈ l, OkP x) ∧ (prnS limit l).length ≤ 400000 := by
  obtain ⟨a, _, _, b⟩ := chkS_god h
  exact ⟨fun x hx => (a x hx).ok, b⟩
end Go.Proofs.YtcbjnifoojjipaaGreatDoor

namespace Go.Proofs.YtcbjnifoojjipaaGreatDoor
open Go.RowKit Go.Vf

theorem flip_flip (l : List UInt8) : flipL (flipL l) = l := by
  have h : ∀ x : UInt8, 255 - (255 - x) = x := fun x => by
    refine UInt8.toNat_inj.1 ?_
    have h1 := flip_toNat x
    have h2 := flip_toNat (255 - x)
    omega
  induction l with
  | nil => rfl
  | cons x r ih =>
    show (255 - (255 - x)) :: flipL (flipL r) = x :: r
    rw [h, ih]
theorem turn_turn (b : Bool) (l : List UInt8) : turnB b (turnB b l) = l := by unfold turnB; cases b <;> simp [flip_flip]
theorem turn_length (b : Bool) (l : List UInt8) : (turnB b l).length = l.length := by unfold turnB; cases b <;> simp [flipL_length]
theorem turn_append (b : Bool) (l r : List UInt8) : turnB b (l ++ r) = turnB b l ++ turnB b r := by unfold turnB; cases b <;> simp [flipL]
theorem ofNat_toNat (x : UInt8) : UInt8.ofNat x.toNat = x := by simp

theorem tkMag_turn {m : List UInt8} (hh : m.head? ≠ some 0) (h0 : m ≠ []) (b : Bool) (y : List UInt8) : tkMag (turnB b m ++ y) m.length b = .ok m := by
  obtain ⟨x, r, rfl⟩ : ∃ x r, m = x :: r := by
    cases m with
    | nil => exact absurd rfl h0
    | cons x r => exact ⟨x, r, rfl⟩
  have hx : x.toNat ≠ 0 := fun h => hh (by rw [show x = 0 from UInt8.toNat_inj.1 h]; rfl)
  obtain ⟨u, t, hu, hut⟩ : ∃ u t, turnB b (x :: r) = u :: t ∧ u.toNat ≠ (if b then 255 else 0) := by
    cases b
    · exact ⟨x, r, rfl, by simpa using hx⟩
    · refine ⟨255 - x, flipL r, rfl, ?_⟩
      have := flip_toNat x
      simp only [if_true]
      omega
  have hlen := turn_length b (x :: r)
  have htake : (turnB b (x :: r) ++ y).take (x :: r).length = turnB b (x :: r) := by rw [← hlen]; simp
  have hge : (x :: r).length ≤ (turnB b (x :: r) ++ y).length := by rw [List.length_append, hlen]; omega
  rw [hu, List.cons_append] at htake hge ⊢
  simp only [tkMag, hut, if_false, hge, if_true, htake]
  rw [← hu, turn_turn]

theorem tkHead_head {b : Bool} {k : Nat} (hk : k ≤ 255) (hb : b = true → 0 < k) (r : List UInt8) : tkHead (headL b k ++ r) = .ok (b, k, (headL b k).length) := by
  unfold headL
  by_cases h : 126 < k
  · rw [if_pos h]
    cases b
    · simp only [Bool.false_eq_true, if_false, List.cons_append, List.nil_append, tkHead]
      rw [if_pos (by decide), ofNat_nat (by omega), if_pos h]
      rfl
    · simp only [if_true, List.cons_append, List.nil_append, tkHead]
      rw [if_neg (by decide), if_pos (by decide), ofNat_nat (by omega), if_pos (by omega), show 255 - (255 - k) = k by omega]
      rfl
  · rw [if_neg h]
    cases b
    · simp only [Bool.false_eq_true, if_false, List.cons_append, List.nil_append, tkHead]
      rw [ofNat_nat (by omega), if_neg (by omega), if_neg (by omega), if_pos (by omega), if_neg (by omega), show 128 + k - 128 = k by omega]
      rfl
    · have := hb rfl
      simp only [if_true, List.cons_append, List.nil_append, tkHead]
      rw [ofNat_nat (by omega), if_neg (by omega), if_neg (by omega), if_pos (by omega), if_pos (by omega), show 128 - (128 - k) = k by omega]
      rfl

/-- P2.7: bytes. -/
theorem tk_put {p : Bool} {a : List UInt8} (hp : chk p a = 0) (y : List UInt8) : tk (putL p a ++ y) = ((putL p a).length, some (p, a)) := by
  obtain ⟨h1, h2, h3⟩ := chk_zero hp
  unfold tk putL
  rw [List.append_assoc, tkHead_head h1 (fun hb => List.length_pos_iff.2 (fun e => by rw [h3 e] at hb; cases hb))]
  simp only
  by_cases h0 : a = []
  · rw [h3 h0, h0]
    rfl
  · have : ¬ a.length = 0 := fun e => h0 (List.eq_nil_of_length_eq_zero e)
    rw [if_neg this, List.drop_left, tkMag_turn h2 h0]
    simp only [List.length_append, turn_length]

theorem tkHead_inv {l : List UInt8} {b : Bool} {k h : Nat} (hh : tkHead l = .ok (b, k, h)) : ∃ r, l = headL b k ++ r ∧ h = (headL b k).length ∧ k ≤ 255 ∧ (b = true → 0 < k) := by
  unfold tkHead at hh
  split at hh
  · cases hh
  · rename_i x r
    have hx := x.toNat_lt
    split at hh
    · rename_i hF
      split at hh
      · cases hh
      · rename_i y r'
        have hy := y.toNat_lt
        split at hh
        · rename_i hgt
          simp only [Except.ok.injEq, Prod.mk.injEq] at hh
          obtain ⟨rfl, rfl, rfl⟩ := hh
          refine ⟨r', ?_, ?_, by omega, by simp⟩
          · rw [headL, if_pos hgt, ofNat_toNat, show x = 255 from UInt8.toNat_inj.1 hF]; rfl
          · rw [headL, if_pos hgt]; rfl
        · cases hh
    · split at hh
      · rename_i hF hO
        split at hh
        · cases hh
        · rename_i y r'
          have hy := y.toNat_lt
          split at hh
          · rename_i hlt
            simp only [Except.ok.injEq, Prod.mk.injEq] at hh
            obtain ⟨rfl, rfl, rfl⟩ := hh
            refine ⟨r', ?_, ?_, by omega, by omega⟩
            · rw [headL, if_pos (by omega), show 255 - (255 - y.toNat) = y.toNat by omega, ofNat_toNat, show x = 1 from UInt8.toNat_inj.1 hO]; rfl
            · rw [headL, if_pos (by omega)]; rfl
          · cases hh
      · split at hh
        · split at hh
          · rename_i hF hO h1 hlt
            simp only [Except.ok.injEq, Prod.mk.injEq] at hh
            obtain ⟨rfl, rfl, rfl⟩ := hh
            refine ⟨r, ?_, ?_, by omega, by omega⟩
            · rw [headL, if_neg (by omega), show 128 - (128 - x.toNat) = x.toNat by omega, ofNat_toNat]; rfl
            · rw [headL, if_neg (by omega)]; rfl
          · rename_i hF hO h1 hlt
            simp only [Except.ok.injEq, Prod.mk.injEq] at hh
            obtain ⟨rfl, rfl, rfl⟩ := hh
            refine ⟨r, ?_, ?_, by omega, by simp⟩
            · rw [headL, if_neg (by omega), show 128 + (x.toNat - 128) = x.toNat by omega, ofNat_toNat]; rfl
            · rw [headL, if_neg (by omega)]; rfl
        · cases hh
theorem tkMag_inv {l m : List UInt8} {k : Nat} {b : Bool} (hk : 0 < k) (h : tkMag l k b = .ok m) : ∃ r, l = turnB b m ++ r ∧ m.length = k ∧ m.head? ≠ some 0 := by
  cases l with
  | nil => cases h
  | cons x t =>
    simp only [tkMag] at h
    by_cases hne : x.toNat = (if b then 255 else 0)
    · rw [if_pos hne] at h; cases h
    · rw [if_neg hne] at h
      by_cases hle : k ≤ (x :: t).length
      · rw [if_pos hle] at h
        simp only [Except.ok.injEq] at h
        subst h
        refine ⟨(x :: t).drop k, by rw [turn_turn, List.take_append_drop], by rw [turn_length, List.length_take]; omega, ?_⟩
        obtain ⟨j, rfl⟩ : ∃ j, k = j + 1 := ⟨k - 1, by omega⟩
        rw [List.take_succ_cons]
        cases b
        · intro h1
          have : x = 0 := by simpa [turnB] using h1
          exact hne (by rw [this]; rfl)
        · intro h1
          have h2 : (255 - x) = 0 := by simpa [turnB, flipL] using h1
          have := flip_toNat x
          rw [h2] at this
          exact hne (by simp only [if_true]; have : (0 : UInt8).toNat = 0 := rfl; omega)
      · rw [if_neg hle] at h; cases h
theorem tk_inv {l : List UInt8} {n : Nat} {b : Bool} {m : List UInt8} (h : tk l = (n, some (b, m))) : chk b m = 0 ∧ ∃ r, l = putL b m ++ r ∧ n = (putL b m).length := by
  unfold tk at h
  split at h
  · simp at h
  · rename_i b' k hd hh
    obtain ⟨r, hl, hd', hk, hb⟩ := tkHead_inv hh
    split at h
    · rename_i h0
      subst h0
      simp only [Prod.mk.injEq, Option.some.injEq] at h
      obtain ⟨rfl, rfl, rfl⟩ := h
      have : b' = false := by
        cases b'
        · rfl
        · exact absurd (hb rfl) (by decide)
      subst this
      exact ⟨by decide, r, by rw [hl]; rfl, by rw [hd']; rfl⟩
    · rename_i h0
      split at h
      · simp at h
      · rename_i m' hm
        simp only [Prod.mk.injEq, Option.some.injEq] at h
        obtain ⟨rfl, rfl, rfl⟩ := h
        obtain ⟨r2, hr2, hml, hmh⟩ := tkMag_inv (by omega) hm
        rw [hl, hd', List.drop_left] at hr2
        refine ⟨chk_ok (by omega) hmh (fun e => by rw [e] at hml; exact absurd hml.symm h0), r2, ?_, ?_⟩
        · rw [putL, hml, hl, hr2, List.append_assoc]
        · rw [putL, hml, List.length_append, turn_length, hml, hd']
theorem tkHead_err {l : List UInt8} {n : Nat} (h : tkHead l = .error n) : n ≤ l.length := by
  unfold tkHead at h
  split at h
  · simp only [Except.error.injEq] at h; omega
  · repeat' (first | (simp only [Except.error.injEq] at h; simp only [List.length_cons]; omega) | cases h | split at h)
theorem tk_le (l : List UInt8) : (tk l).1 ≤ l.length := by
  obtain ⟨⟨n, o⟩, h⟩ : ∃ z, tk l = z := ⟨_, rfl⟩
  rw [h]
  show n ≤ l.length
  cases o with
  | some z =>
    obtain ⟨b, m⟩ := z
    obtain ⟨_, r, hl, hn⟩ := tk_inv h
    rw [hl, hn, List.length_append]; omega
  | none =>
    unfold tk at h
    split at h
    · rename_i k hh
      have := tkHead_err hh
      simp only [Prod.mk.injEq] at h
      omega
    · rename_i b k hd hh
      obtain ⟨hh1, _, _⟩ := tkHead_ok hh
      split at h
      · simp at h
      · split at h
        · rename_i k' hm
          simp only [Prod.mk.injEq] at h
          have : k' ≤ (l.drop hd).length := by
            unfold tkMag at hm
            split at hm
            · simp only [Except.error.injEq] at hm; omega
            · rename_i x t hx
              by_cases hne : x.toNat = (if b then 255 else 0)
              · rw [if_pos hne] at hm
                simp only [Except.error.injEq] at hm; omega
              · rw [if_neg hne] at hm
                by_cases hle : k ≤ (x :: t).length
                · rw [if_pos hle] at hm; cases hm
                · rw [if_neg hle] at hm
                  simp only [Except.error.injEq] at hm; rw [hx]; omega
          rw [List.length_drop] at this
          omega
        · simp at h

/-- P2.7: digits. -/
theorem digit_not_minus {x : UInt8} (h : isDig x = true) : x ≠ 45 := by
  rintro rfl
  exact absurd h (by decide)
theorem parse_digits {D : List UInt8} (b : Bool) (hD : D.head? ≠ some 45) : parseB (if b then 45 :: D else D) = b ∧ parseD (if b then 45 :: D else D) = D := by
  cases b
  · have : parseB D = false := by
      cases D with
      | nil => rfl
      | cons x r =>
        have : x ≠ 45 := fun h => hD (by rw [h]; rfl)
        have e : ((45 : UInt8) == x) = false := by simpa using Ne.symm this
        simp only [parseB, List.isPrefixOf, e, Bool.false_and]
    simp only [Bool.false_eq_true, if_false]
    exact ⟨this, by rw [parseD, this]; rfl⟩
  · have : parseB (45 :: D) = true := by simp [parseB]
    simp only [if_true]
    exact ⟨this, by rw [parseD, this]; rfl⟩
theorem head_rev_digs {n : Nat} (b : Bool) (h : n ≠ 0) : digOK (decD n).reverse b = true ∧ (decD n).reverse.head? ≠ some 45 := by
  have h1 := decD_digs n
  have h2 := decD_last n
  have h3 : decD n ≠ [] := fun e => h (decD_nil.1 e)
  constructor
  · unfold digOK
    rw [List.head?_reverse]
    have e1 : ((decD n).getLast? == some 48) = false := by simpa using h2
    rw [e1]
    simp only [Bool.false_and, Bool.not_false, Bool.and_true, Bool.and_eq_true, List.all_eq_true]
    refine ⟨by simpa using h3, fun x hx => h1 x (by simpa using hx)⟩
  · rw [List.head?_reverse]
    intro h4
    have := List.mem_of_getLast? h4
    exact digit_not_minus (h1 _ this) rfl
theorem parse_print {p : Bool} {a : List UInt8} (hp : chk p a = 0) : parseR (printL p a) = .ok (p, a) := by
  obtain ⟨h1, h2, h3⟩ := chk_zero hp
  by_cases h0 : a = []
  · rw [h3 h0, h0]
    have e1 : digOK (parseD [48]) (parseB [48]) = true := by decide
    have e2 : dval (parseD [48]) = 0 := by decide
    have e3 : parseB [48] = false := by decide
    show parseR [48] = _
    rw [parseR, e1, e2, lowD_zero, e3]
    rfl
  · have hM := hvl_pos h2 h0
    obtain ⟨hok, h45⟩ := head_rev_digs p hM
    have hpr : printL p a = if p then 45 :: (decD (hvl a)).reverse else (decD (hvl a)).reverse := by
      rw [printL, if_neg (by simpa using h0)]
    obtain ⟨hB, hD⟩ := parse_digits p h45
    have hdv : dval (decD (hvl a)).reverse = hvl a := by rw [dval, List.reverse_reverse, tval_decD]
    have hmag := magOf_hvl h2
    unfold magOf at hmag
    rw [hpr, parseR, hB, hD, if_pos hok, hdv, if_pos (by rw [← List.length_reverse, hmag]; exact h1), hmag]
theorem print_parse {l : List UInt8} {b : Bool} {m : List UInt8} (h : parseR l = .ok (b, m)) : chk b m = 0 ∧ printL b m = l := by
  unfold parseR at h
  by_cases hok : digOK (parseD l) (parseB l) = true
  · rw [if_pos hok] at h
    by_cases hlen : (lowD (dval (parseD l))).length ≤ 255
    · rw [if_pos hlen] at h
      simp only [Except.ok.injEq, Prod.mk.injEq] at h
      obtain ⟨hb, hm⟩ := h
      have hl : l = if parseB l then 45 :: parseD l else parseD l := by
        by_cases h1 : parseB l = true
        · rw [if_pos h1, parseD, if_pos h1]
          unfold parseB at h1
          cases l with
          | nil => cases h1
          | cons x r =>
            simp only [List.isPrefixOf, Bool.and_true] at h1
            rw [← beq_iff_eq.1 h1]; rfl
        · rw [if_neg h1, parseD, if_neg h1]
      rw [hb] at hl hok
      generalize parseD l = D at hl hok hm hlen
      have hm' : m = magOf (dval D) := hm.symm
      unfold digOK at hok
      simp only [Bool.and_eq_true, Bool.not_eq_true', List.all_eq_true] at hok
      obtain ⟨⟨hne, hhd⟩, hdig⟩ := hok
      have hne' : D ≠ [] := by simpa using hne
      have hlast : D.head? ≠ some 48 → dval D ≠ 0 ∧ decD (dval D) = D.reverse := by
        intro h48
        have h1 : D.reverse.getLast? ≠ some 48 := by rw [List.getLast?_reverse]; exact h48
        exact ⟨tval_pos (fun x hx => hdig x (by simpa using hx)) h1 (by simpa using hne'), decD_tval (fun x hx => hdig x (by simpa using hx)) h1⟩
      have hval : hvl m = dval D := by rw [hm', magOf_val]
      by_cases h48 : D.head? = some 48
      · rw [h48] at hhd
        simp at hhd
        obtain ⟨hbf, hD1⟩ := hhd
        obtain rfl : D = [48] := by
          cases D with
          | nil => exact absurd rfl hne'
          | cons x r =>
            have : r = [] := List.eq_nil_of_length_eq_zero (by simp only [List.length_cons] at hD1; omega)
            rw [this] at h48 ⊢
            have : x = 48 := by simpa using h48
            rw [this]
        have hm0 : m = [] := by rw [hm', magOf_nil]; decide
        subst hbf
        rw [hm0]
        exact ⟨by decide, by rw [hl]; rfl⟩
      · obtain ⟨hpos, hdec⟩ := hlast h48
        have hm0 : m ≠ [] := fun e => hpos (magOf_nil.1 (by rw [← hm', e]))
        refine ⟨chk_ok (by rw [hm', magOf_length]; exact hlen) (by rw [hm']; exact magOf_head _) (fun e => absurd e hm0), ?_⟩
        rw [printL, if_neg (by simpa using hm0), hval, hdec, List.reverse_reverse, hl]
    · rw [if_neg hlen] at h; cases h
  · rw [if_neg hok] at h; cases h
theorem parse_err {l : List UInt8} {e : Int} (h : parseR l = .error e) : e = 20 ∨ e = 21 := by
  unfold parseR at h
  split at h
  · split at h
    · cases h
    · simp only [Except.error.injEq] at h; exact .inr h.symm
  · simp only [Except.error.injEq] at h; exact .inl h.symm
end Go.Proofs.YtcbjnifoojjipaaGreatDoor

namespace Go.Proofs.YtcbjnifoojjipaaGreatDoor
open Go.RowKit Go.Vf

theorem rev_take (l : List UInt8) (j k : Nat) (h : j + k + 1 = l.length) : l.reverse.take (k + 1) = l.reverse.take k ++ [l[j]'(by omega)] := by
  rw [List.take_succ_eq_append_getElem (by rw [List.length_reverse]; omega), List.getElem_reverse]
  congr 3
  omega

end Go.Proofs.YtcbjnifoojjipaaGreatDoor

namespace Go.Proofs.YtcbjnifoojjipaaGreatDoor
open Go.RowKit Go.Vf

set_option maxHeartbeats 8000000 in
set_option maxRecDepth 20000 in
theorem rprint_true (m : ByteArray) (hm : m.size ≤ 255) (M : Nat) (HV : Hid (hvl m.data.toList = M)) (hpos : M ≠ 0) (hhead : m.data.toList.head? ≠ some 0) (hdb : (decD M).length ≤ 765) (h0 : 0 < m.size) (HC : Hid (chk true m.data.toList = 0)) (w : World) :
    Calls Tryz.prog 91 #[numV true m] w fun e w' => e = .returned (.tuple #[.string (bs ([45] ++ (decD M).reverse)), .int .i64 0]) ∧ Below w.heap.size w w' := by
  have hl : m.data.toList.length = m.size := (Lib.size_eq m).symm
  have hm0 : ((m.size : Int) == 0) = false := by simp only [beq_eq_false_iff_ne, ne_eq]; omega
  go_enter Tryz.func91, Tryz.ntmps91
  go_wp2_with fail
  refine (rcheck_any true m (by omega) _).mono ?_
  rintro e w1 ⟨rfl, hb1⟩
  obtain ⟨hc0, hc1, hc2⟩ := box_num hb1 (h := w.heap.size) (v0 := .bool true) (v1 := .string m) ⟨by simp, by simp, by simp⟩
  rw [HC.out]
  clear HC
  obtain ⟨cap0, wc, hcv, hcap, hrow0, hbel0, hsz0⟩ := run_bytes_ex (P := Tryz.prog) w1 9 130 5 m Tryz.underlying9 Tryz.underlying130 Tryz.underlying5
  go_wp2
  clear hcv
  go_loopw [5, 6] (fun x v wr => ∃ (off n cap : Nat) (pre l acc : List UInt8), x = .slice (some ⟨w1.heap.size, off, none⟩) n cap ∧ l.length = n ∧ n ≤ cap ∧ off + n ≤ 255 ∧ (0 < n → pre.length = off ∧ BRow wr w1.heap.size (pre ++ l)) ∧ Hid (l.head? ≠ some 0) ∧ BOwn 5 wr (w1.heap.size + 1) v acc ∧ Hid (acc ++ decD (hvl l) = decD M) ∧ Below w1.heap.size w1 wr ∧ w1.heap.size + 1 ≤ wr.heap.size) (fun _ v _ => (decD M).length - sliceN v)
  case atStart => exact ⟨0, m.size, cap0, [], m.data.toList, [], rfl, hl, hcap, by omega, fun _ => ⟨rfl, hrow0⟩, hhead, BOwn.nil _ _ _, by show _ = _; rw [HV.out]; rfl, hbel0, by omega⟩
  case round =>
    obtain ⟨off, n, cap, pre, l, acc, rfl, hln, hncap, hoff, hrow, Hhd, hown, HT, hbel, hsz⟩ := hrel
    have c0 := (hbel.cell (p := ⟨w.heap.size, 0, none⟩) hc2).trans hc0
    have hacl : acc.length ≤ (decD M).length := by rw [← HT.out, List.length_append]; omega
    by_cases hn : ¬ 0 < n
    · obtain rfl : l = [] := List.eq_nil_of_length_eq_zero (by omega)
      have ht : acc = decD M := by have := HT.out; rwa [show hvl [] = 0 from rfl, decD_zero, List.append_nil] at this
      clear HT hrow Hhd
      subst ht
      rcases hown.form with ⟨_, h0⟩ | ⟨gb, capb, rfl, hgb1, hcb1, hcb2, hrb⟩
      · exact absurd (decD_nil.1 h0) hpos
      have hgb : gb < wr.heap.size := (World.ownsRow.lt hown gb rfl).2
      obtain ⟨V, rfl⟩ : ∃ V, V = wr := ⟨_, rfl⟩
      go_wp2_with (at_builtin; refine wpList_append_byte rfl (.tmp 68) (.tmp 69) 130 rfl 5 Tryz.underlying130 info5 V.heap.size _ _ rfl (BOwn.nil 5 V V.heap.size) 45 _ rfl 1 rfl (by simp) (Nat.le_refl _) V.heap.size V (Below.refl _ _) (Nat.le_refl _) ?_; intro vA wA hoA hbA hsA)
      go_loopw [10, 11] (fun v i wr' => ∃ k : Nat, k ≤ (decD M).length ∧ i = .int .i64 (((decD M).length : Int) - 1 - (k : Int)) ∧ BOwn 5 wr' V.heap.size v ([45] ++ (decD M).reverse.take k) ∧ Below V.heap.size V wr' ∧ V.heap.size ≤ wr'.heap.size) (fun _ i _ => (intOf i + 1).toNat)
      case atStart => exact ⟨0, Nat.zero_le _, by go_num, by simpa using hoA, hbA, hsA⟩
      case round =>
        obtain ⟨k, hk, rfl, hown2, hbel2, hsz2⟩ := hrel
        by_cases hlt : k < (decD M).length
        · obtain ⟨j, hj⟩ : ∃ j, j + k + 1 = (decD M).length := ⟨(decD M).length - 1 - k, by omega⟩
          have ej : (((decD M).length : Int) - 1 - (k : Int)) = (j : Int) := by omega
          obtain ⟨y, hy⟩ : ∃ y, (decD M)[j]'(by omega) = y := ⟨_, rfl⟩
          have hcell := (brow_below hrb hbel2 hgb).cell j (by omega)
          rw [hy] at hcell
          have HRV : Hid ([45] ++ (decD M).reverse.take (k + 1) = ([45] ++ (decD M).reverse.take k) ++ [y]) := by
            show _ = _
            rw [rev_take (decD M) j k hj, hy, List.append_assoc]
          have hlen2 : ([45] ++ (decD M).reverse.take k).length ≤ 1099511627776 := by
            rw [List.length_append, List.length_take, List.length_reverse]; simp; omega
          have hjl : j < (decD M).length := by omega
          rw [ej]
          clear ej
          go_wp2_with (at_builtin; refine wpList_append_byte rfl (.tmp 78) (.tmp 83) 130 rfl 5 Tryz.underlying130 info5 V.heap.size _ _ rfl hown2 y _ rfl 1 rfl hlen2 hsz2 V.heap.size V hbel2 (Nat.le_refl _) ?_; intro v' w3 hown3 hbel3 hsz3)
          go_roundw
          case rel => exact ⟨k + 1, by omega, by go_num, by rw [HRV.out]; exact hown3, hbel3, hsz3⟩
          case measure => simp only [intOf]; omega
        · obtain rfl : k = (decD M).length := by omega
          rw [List.take_of_length_le (by rw [List.length_reverse]; exact Nat.le_refl _)] at hown2
          have ei : (((decD M).length : Int) - 1 - ((decD M).length : Int)) = -1 := by omega
          rw [ei]
          have hcv := run_string_own (P := Tryz.prog) wr 130 9 5 Tryz.underlying130 Tryz.underlying5 Tryz.underlying9 _ _ _ hown2
          go_wp2
          go_ret2
          exact ⟨rfl, below_next (below_box hb1) (hbel.trans (hbel2.mono (by omega)))⟩
    · obtain ⟨hpo, hrow⟩ := hrow (by omega)
      have hlpos : hvl l ≠ 0 := hvl_pos Hhd.out (fun h => by rw [h] at hln; simp at hln; omega)
      obtain ⟨hv1, hv2⟩ := divL_val (show 0 < 10 by decide) l 0 (by decide)
      have hqn := divL_length 10 l 0
      obtain ⟨⟨q, C⟩, hqC⟩ : ∃ z, divL 10 0 l = z := ⟨_, rfl⟩
      rw [hqC] at hv1 hv2 hqn
      simp only at hv1 hv2 hqn
      rw [Nat.zero_mul, Nat.zero_add] at hv1
      have HT1 : Hid ((acc ++ [UInt8.ofNat (48 + C)]) ++ decD (hvl q) = decD M) := by
        show _ = _
        rw [← HT.out, decD_pos hlpos, show hvl l % 10 = C by omega, show hvl l / 10 = hvl q by omega]
        simp
      have hacl1 : acc.length < (decD M).length := by
        have := congrArg List.length HT1.out
        rw [List.length_append, List.length_append, List.length_singleton] at this
        omega
      have hsN : sliceN u6 = acc.length := by
        rcases hown.form with ⟨rfl, h0⟩ | ⟨gb, capb, rfl, _⟩
        · rw [h0]; rfl
        · rfl
      clear HT hv1
      obtain ⟨V, rfl⟩ : ∃ V, V = wr := ⟨_, rfl⟩
      go_wp2
      go_loopw [7, 8] (fun x i wr' => ∃ k c : Nat, k ≤ n ∧ i = .int .i64 k ∧ x = .int .i64 c ∧ c < 10 ∧ Hid (divL 10 c (l.drop k) = (q.drop k, C)) ∧ BRow wr' w1.heap.size (pre ++ (q.take k ++ l.drop k)) ∧ OnlyAt w1.heap.size V wr') (fun _ i _ => n - (intOf i).toNat)
      case atStart => exact ⟨0, 0, Nat.zero_le _, rfl, rfl, by omega, by simpa [Hid] using hqC, by simpa using hrow, OnlyAt.refl _ _⟩
      case round =>
        obtain ⟨k, c, hk, rfl, rfl, hc, HQ, hrow, honly⟩ := hrel
        by_cases hlt : k < n
        · obtain ⟨x, hx, hkl⟩ : ∃ x, l[k]'(by omega) = x ∧ l.drop k = x :: l.drop (k + 1) := ⟨_, rfl, List.drop_eq_getElem_cons (by omega)⟩
          have hx255 := x.toNat_lt
          have hq := HQ.out
          rw [hkl, divL, show c * 256 + x.toNat = 256 * c + x.toNat by omega, Prod.mk.injEq, List.drop_eq_getElem_cons (show k < q.length by omega), List.cons.injEq] at hq
          obtain ⟨⟨hq1, hq2⟩, hq3⟩ := hq
          have HQ2 : Hid (divL 10 ((256 * c + x.toNat) % 10) (l.drop (k + 1)) = (q.drop (k + 1), C)) := Prod.ext hq2 hq3
          have hmix := mix_length (a := q) (l := l) hqn k (by omega)
          have hg := mix_get hqn k (by omega) (by omega)
          rw [hx] at hg
          have hcell := hrow.cell (off + k) (by rw [List.length_append]; omega)
          rw [List.getElem_append_right (by omega)] at hcell
          simp only [hpo, Nat.add_sub_cancel_left] at hcell
          rw [hg] at hcell
          have hfr := hrow.free (off + k) (by rw [List.length_append]; omega)
          have hst := hrow.set (off + k) (q[k]'(by omega))
          rw [List.set_append_right _ _ (by omega), hpo, Nat.add_sub_cancel_left, mix_set hqn k (by omega), ← hq1, UInt8.toNat_ofNat_of_lt' (show (256 * c + x.toNat) / 10 < 256 by omega)] at hst
          have hon := honly.setCell (off + k) (.int .u8 (((256 * c + x.toNat) / 10 : Nat) : Int))
          clear hrow hmix hg hq1 hq2 hq3 hkl HQ hqC
          go_wp2
          go_roundw
          case rel => exact ⟨k + 1, (256 * c + x.toNat) % 10, by omega, by go_num, by go_num, by omega, HQ2, hst, hon⟩
          case measure => simp [intOf]; omega
        · have hq := HQ.out
          rw [List.drop_of_length_le (by omega), divL] at hq
          have hcC : c = C := (Prod.mk.injEq .. ▸ hq).2
          rw [← hcC] at HT1 hv2
          rw [List.take_of_length_le (by omega), List.drop_of_length_le (by omega), List.append_nil] at hrow
          have hown1 := honly.own hown (Nat.lt_succ_self _)
          have hbel1 := hbel.trans honly.below
          have hsz1 : w1.heap.size + 1 ≤ wr.heap.size := by have := honly.size; omega
          have HX : Hid ((48 + (c : Int)) = ((UInt8.ofNat (48 + c)).toNat : Int)) := by show _ = _; rw [ofNat_int (show 48 + c < 256 by omega)]; omega
          have hlen : acc.length ≤ 1099511627776 := by omega
          have hbr := Below.refl (w1.heap.size + 1) wr
          obtain ⟨U, rfl⟩ : ∃ U, U = wr := ⟨_, rfl⟩
          clear HQ hq hqC hcC honly hown hbel hsz
          go_wp2_with (at_builtin; refine wpList_append_byte rfl (.tmp 49) (.tmp 53) 130 rfl 5 Tryz.underlying130 info5 (w1.heap.size + 1) _ _ rfl hown1 (UInt8.ofNat (48 + c)) _ HX.out 1 rfl hlen hsz1 (w1.heap.size + 1) U hbr (Nat.le_refl _) ?_; intro v3 w3 hown3 hbel3 hsz3)
          have hrow3 := brow_below hrow hbel3 (Nat.lt_succ_self _)
          have hbel4 := hbel1.trans (hbel3.mono (Nat.le_succ _))
          have hsN3 : sliceN v3 = acc.length + 1 := by
            have e1 : (acc ++ [UInt8.ofNat (48 + c)]).length = acc.length + 1 := by rw [List.length_append, List.length_singleton]
            rw [← e1]
            rcases hown3.form with ⟨rfl, h0⟩ | ⟨gb, capb, rfl, _⟩
            · rw [h0]; rfl
            · rfl
          clear hbel3 hbr
          go_loopw [5] (fun x wr'' => ∃ (off n cap : Nat) (pre l : List UInt8), x = .slice (some ⟨w1.heap.size, off, none⟩) n cap ∧ l.length = n ∧ n ≤ cap ∧ off + n ≤ 255 ∧ (0 < n → pre.length = off ∧ BRow w3 w1.heap.size (pre ++ l)) ∧ Hid (stripL l = stripL q) ∧ w3 = wr'') (fun x _ => sliceN x)
          case atStart => exact ⟨off, n, cap, pre, q, rfl, by omega, hncap, hoff, fun _ => ⟨hpo, hrow3⟩, rfl, rfl⟩
          case round =>
            obtain ⟨off2, n2, cap2, pre2, l2, rfl, hl2, hnc2, hoff2, hrw2, HS2, rfl⟩ := hrel
            by_cases hn2 : ¬ 0 < n2
            · obtain rfl : l2 = [] := List.eq_nil_of_length_eq_zero (by omega)
              have HT3 : Hid ((acc ++ [UInt8.ofNat (48 + c)]) ++ decD (hvl []) = decD M) := by
                show _ = _
                rw [← HT1.out, ← stripL_val q, ← HS2.out]
                rfl
              clear HS2 hrw2
              go_wp2
              go_roundw
              case rel => exact ⟨off2, n2, cap2, [], [], _, rfl, hl2, by omega, by omega, fun h => absurd h hn2, by simp [Hid], hown3, HT3, hbel4, hsz3⟩
              case measure => rw [hsN3, hsN]; omega
            · obtain ⟨hp2, hrow4⟩ := hrw2 (by omega)
              obtain ⟨y, t, rfl⟩ : ∃ x t, l2 = x :: t := by
                cases l2 with
                | nil => exfalso; simp at hl2; omega
                | cons x t => exact ⟨x, t, rfl⟩
              have hcc := hrow4.cell off2 (by rw [List.length_append]; simp only [List.length_cons]; omega)
              rw [List.getElem_append_right (by omega)] at hcc
              simp only [hp2, Nat.sub_self, List.getElem_cons_zero] at hcc
              by_cases hy : y.toNat = 0
              · have hy0 : y = 0 := UInt8.toNat_inj.1 hy
                have htl := run_tail w3 w1.heap.size off2 n2 cap2 (by omega)
                have HS3 : Hid (stripL t = stripL q) := by
                  show _ = _
                  rw [← HS2.out, hy0, stripL_zero]
                have hrow5 : BRow w3 w1.heap.size ((pre2 ++ [y]) ++ t) := by rw [List.append_assoc]; exact hrow4
                have hl3 : t.length = n2 - 1 := by simp only [List.length_cons] at hl2; omega
                clear HS2 hrow4 hy0
                by_cases hc1 : cap2 = 1
                · subst hc1
                  obtain rfl : n2 = 1 := by omega
                  clear htl
                  go_wp2
                  go_roundw
                  case rel => exact ⟨off2, 0, 0, [], t, rfl, hl3, by omega, by omega, fun h => absurd h (by decide), HS3, trivial⟩
                  case measure => simp only [sliceN]; omega
                · rw [if_neg hc1] at htl
                  go_wp2
                  go_roundw
                  case rel => exact ⟨off2 + 1, n2 - 1, cap2 - 1, pre2 ++ [y], t, rfl, hl3, by omega, by omega, fun h => ⟨by rw [List.length_append, List.length_singleton, hp2], hrow5⟩, HS3, trivial⟩
                  case measure => simp only [sliceN]; omega
              · have hy0 : y ≠ 0 := fun h => hy (by rw [h]; rfl)
                have hs2 : stripL (y :: t) = y :: t := stripL_self (by simp [hy0])
                have HT3 : Hid ((acc ++ [UInt8.ofNat (48 + c)]) ++ decD (hvl (y :: t)) = decD M) := by
                  show _ = _
                  rw [← HT1.out, ← stripL_val q, ← HS2.out, hs2]
                clear HS2 hs2
                go_wp2
                go_roundw
                case rel => exact ⟨off2, n2, cap2, pre2, y :: t, _, rfl, hl2, hnc2, hoff2, fun _ => ⟨hp2, hrow4⟩, by simp [Hid, hy0], hown3, HT3, hbel4, hsz3⟩
                case measure => rw [hsN3, hsN]; omega

set_option maxHeartbeats 8000000 in
set_option maxRecDepth 20000 in
theorem rprint_false (m : ByteArray) (hm : m.size ≤ 255) (M : Nat) (HV : Hid (hvl m.data.toList = M)) (hpos : M ≠ 0) (hhead : m.data.toList.head? ≠ some 0) (hdb : (decD M).length ≤ 765) (h0 : 0 < m.size) (HC : Hid (chk false m.data.toList = 0)) (w : World) :
    Calls Tryz.prog 91 #[numV false m] w fun e w' => e = .returned (.tuple #[.string (bs ((decD M).reverse)), .int .i64 0]) ∧ Below w.heap.size w w' := by
  have hl : m.data.toList.length = m.size := (Lib.size_eq m).symm
  have hm0 : ((m.size : Int) == 0) = false := by simp only [beq_eq_false_iff_ne, ne_eq]; omega
  go_enter Tryz.func91, Tryz.ntmps91
  go_wp2_with fail
  refine (rcheck_any false m (by omega) _).mono ?_
  rintro e w1 ⟨rfl, hb1⟩
  obtain ⟨hc0, hc1, hc2⟩ := box_num hb1 (h := w.heap.size) (v0 := .bool false) (v1 := .string m) ⟨by simp, by simp, by simp⟩
  rw [HC.out]
  clear HC
  obtain ⟨cap0, wc, hcv, hcap, hrow0, hbel0, hsz0⟩ := run_bytes_ex (P := Tryz.prog) w1 9 130 5 m Tryz.underlying9 Tryz.underlying130 Tryz.underlying5
  go_wp2
  clear hcv
  go_loopw [5, 6] (fun x v wr => ∃ (off n cap : Nat) (pre l acc : List UInt8), x = .slice (some ⟨w1.heap.size, off, none⟩) n cap ∧ l.length = n ∧ n ≤ cap ∧ off + n ≤ 255 ∧ (0 < n → pre.length = off ∧ BRow wr w1.heap.size (pre ++ l)) ∧ Hid (l.head? ≠ some 0) ∧ BOwn 5 wr (w1.heap.size + 1) v acc ∧ Hid (acc ++ decD (hvl l) = decD M) ∧ Below w1.heap.size w1 wr ∧ w1.heap.size + 1 ≤ wr.heap.size) (fun _ v _ => (decD M).length - sliceN v)
  case atStart => exact ⟨0, m.size, cap0, [], m.data.toList, [], rfl, hl, hcap, by omega, fun _ => ⟨rfl, hrow0⟩, hhead, BOwn.nil _ _ _, by show _ = _; rw [HV.out]; rfl, hbel0, by omega⟩
  case round =>
    obtain ⟨off, n, cap, pre, l, acc, rfl, hln, hncap, hoff, hrow, Hhd, hown, HT, hbel, hsz⟩ := hrel
    have c0 := (hbel.cell (p := ⟨w.heap.size, 0, none⟩) hc2).trans hc0
    have hacl : acc.length ≤ (decD M).length := by rw [← HT.out, List.length_append]; omega
    by_cases hn : ¬ 0 < n
    · obtain rfl : l = [] := List.eq_nil_of_length_eq_zero (by omega)
      have ht : acc = decD M := by have := HT.out; rwa [show hvl [] = 0 from rfl, decD_zero, List.append_nil] at this
      clear HT hrow Hhd
      subst ht
      rcases hown.form with ⟨_, h0⟩ | ⟨gb, capb, rfl, hgb1, hcb1, hcb2, hrb⟩
      · exact absurd (decD_nil.1 h0) hpos
      have hgb : gb < wr.heap.size := (World.ownsRow.lt hown gb rfl).2
      obtain ⟨V, rfl⟩ : ∃ V, V = wr := ⟨_, rfl⟩
      go_wp2
      go_loopw [10, 11] (fun v i wr' => ∃ k : Nat, k ≤ (decD M).length ∧ i = .int .i64 (((decD M).length : Int) - 1 - (k : Int)) ∧ BOwn 5 wr' V.heap.size v ((decD M).reverse.take k) ∧ Below V.heap.size V wr' ∧ V.heap.size ≤ wr'.heap.size) (fun _ i _ => (intOf i + 1).toNat)
      case atStart => exact ⟨0, Nat.zero_le _, by go_num, BOwn.nil _ _ _, Below.refl _ _, Nat.le_refl _⟩
      case round =>
        obtain ⟨k, hk, rfl, hown2, hbel2, hsz2⟩ := hrel
        by_cases hlt : k < (decD M).length
        · obtain ⟨j, hj⟩ : ∃ j, j + k + 1 = (decD M).length := ⟨(decD M).length - 1 - k, by omega⟩
          have ej : (((decD M).length : Int) - 1 - (k : Int)) = (j : Int) := by omega
          obtain ⟨y, hy⟩ : ∃ y, (decD M)[j]'(by omega) = y := ⟨_, rfl⟩
          have hcell := (brow_below hrb hbel2 hgb).cell j (by omega)
          rw [hy] at hcell
          have HRV : Hid ((decD M).reverse.take (k + 1) = ((decD M).reverse.take k) ++ [y]) := by
            show _ = _
            rw [rev_take (decD M) j k hj, hy]
          have hlen2 : ((decD M).reverse.take k).length ≤ 1099511627776 := by
            rw [List.length_take, List.length_reverse]; omega
          have hjl : j < (decD M).length := by omega
          rw [ej]
          clear ej
          go_wp2_with (at_builtin; refine wpList_append_byte rfl (.tmp 78) (.tmp 83) 130 rfl 5 Tryz.underlying130 info5 V.heap.size _ _ rfl hown2 y _ rfl 1 rfl hlen2 hsz2 V.heap.size V hbel2 (Nat.le_refl _) ?_; intro v' w3 hown3 hbel3 hsz3)
          go_roundw
          case rel => exact ⟨k + 1, by omega, by go_num, by rw [HRV.out]; exact hown3, hbel3, hsz3⟩
          case measure => simp only [intOf]; omega
        · obtain rfl : k = (decD M).length := by omega
          rw [List.take_of_length_le (by rw [List.length_reverse]; exact Nat.le_refl _)] at hown2
          have ei : (((decD M).length : Int) - 1 - ((decD M).length : Int)) = -1 := by omega
          rw [ei]
          have hcv := run_string_own (P := Tryz.prog) wr 130 9 5 Tryz.underlying130 Tryz.underlying5 Tryz.underlying9 _ _ _ hown2
          go_wp2
          go_ret2
          exact ⟨rfl, below_next (below_box hb1) (hbel.trans (hbel2.mono (by omega)))⟩
    · obtain ⟨hpo, hrow⟩ := hrow (by omega)
      have hlpos : hvl l ≠ 0 := hvl_pos Hhd.out (fun h => by rw [h] at hln; simp at hln; omega)
      obtain ⟨hv1, hv2⟩ := divL_val (show 0 < 10 by decide) l 0 (by decide)
      have hqn := divL_length 10 l 0
      obtain ⟨⟨q, C⟩, hqC⟩ : ∃ z, divL 10 0 l = z := ⟨_, rfl⟩
      rw [hqC] at hv1 hv2 hqn
      simp only at hv1 hv2 hqn
      rw [Nat.zero_mul, Nat.zero_add] at hv1
      have HT1 : Hid ((acc ++ [UInt8.ofNat (48 + C)]) ++ decD (hvl q) = decD M) := by
        show _ = _
        rw [← HT.out, decD_pos hlpos, show hvl l % 10 = C by omega, show hvl l / 10 = hvl q by omega]
        simp
      have hacl1 : acc.length < (decD M).length := by
        have := congrArg List.length HT1.out
        rw [List.length_append, List.length_append, List.length_singleton] at this
        omega
      have hsN : sliceN u6 = acc.length := by
        rcases hown.form with ⟨rfl, h0⟩ | ⟨gb, capb, rfl, _⟩
        · rw [h0]; rfl
        · rfl
      clear HT hv1
      obtain ⟨V, rfl⟩ : ∃ V, V = wr := ⟨_, rfl⟩
      go_wp2
      go_loopw [7, 8] (fun x i wr' => ∃ k c : Nat, k ≤ n ∧ i = .int .i64 k ∧ x = .int .i64 c ∧ c < 10 ∧ Hid (divL 10 c (l.drop k) = (q.drop k, C)) ∧ BRow wr' w1.heap.size (pre ++ (q.take k ++ l.drop k)) ∧ OnlyAt w1.heap.size V wr') (fun _ i _ => n - (intOf i).toNat)
      case atStart => exact ⟨0, 0, Nat.zero_le _, rfl, rfl, by omega, by simpa [Hid] using hqC, by simpa using hrow, OnlyAt.refl _ _⟩
      case round =>
        obtain ⟨k, c, hk, rfl, rfl, hc, HQ, hrow, honly⟩ := hrel
        by_cases hlt : k < n
        · obtain ⟨x, hx, hkl⟩ : ∃ x, l[k]'(by omega) = x ∧ l.drop k = x :: l.drop (k + 1) := ⟨_, rfl, List.drop_eq_getElem_cons (by omega)⟩
          have hx255 := x.toNat_lt
          have hq := HQ.out
          rw [hkl, divL, show c * 256 + x.toNat = 256 * c + x.toNat by omega, Prod.mk.injEq, List.drop_eq_getElem_cons (show k < q.length by omega), List.cons.injEq] at hq
          obtain ⟨⟨hq1, hq2⟩, hq3⟩ := hq
          have HQ2 : Hid (divL 10 ((256 * c + x.toNat) % 10) (l.drop (k + 1)) = (q.drop (k + 1), C)) := Prod.ext hq2 hq3
          have hmix := mix_length (a := q) (l := l) hqn k (by omega)
          have hg := mix_get hqn k (by omega) (by omega)
          rw [hx] at hg
          have hcell := hrow.cell (off + k) (by rw [List.length_append]; omega)
          rw [List.getElem_append_right (by omega)] at hcell
          simp only [hpo, Nat.add_sub_cancel_left] at hcell
          rw [hg] at hcell
          have hfr := hrow.free (off + k) (by rw [List.length_append]; omega)
          have hst := hrow.set (off + k) (q[k]'(by omega))
          rw [List.set_append_right _ _ (by omega), hpo, Nat.add_sub_cancel_left, mix_set hqn k (by omega), ← hq1, UInt8.toNat_ofNat_of_lt' (show (256 * c + x.toNat) / 10 < 256 by omega)] at hst
          have hon := honly.setCell (off + k) (.int .u8 (((256 * c + x.toNat) / 10 : Nat) : Int))
          clear hrow hmix hg hq1 hq2 hq3 hkl HQ hqC
          go_wp2
          go_roundw
          case rel => exact ⟨k + 1, (256 * c + x.toNat) % 10, by omega, by go_num, by go_num, by omega, HQ2, hst, hon⟩
          case measure => simp [intOf]; omega
        · have hq := HQ.out
          rw [List.drop_of_length_le (by omega), divL] at hq
          have hcC : c = C := (Prod.mk.injEq .. ▸ hq).2
          rw [← hcC] at HT1 hv2
          rw [List.take_of_length_le (by omega), List.drop_of_length_le (by omega), List.append_nil] at hrow
          have hown1 := honly.own hown (Nat.lt_succ_self _)
          have hbel1 := hbel.trans honly.below
          have hsz1 : w1.heap.size + 1 ≤ wr.heap.size := by have := honly.size; omega
          have HX : Hid ((48 + (c : Int)) = ((UInt8.ofNat (48 + c)).toNat : Int)) := by show _ = _; rw [ofNat_int (show 48 + c < 256 by omega)]; omega
          have hlen : acc.length ≤ 1099511627776 := by omega
          have hbr := Below.refl (w1.heap.size + 1) wr
          obtain ⟨U, rfl⟩ : ∃ U, U = wr := ⟨_, rfl⟩
          clear HQ hq hqC hcC honly hown hbel hsz
          go_wp2_with (at_builtin; refine wpList_append_byte rfl (.tmp 49) (.tmp 53) 130 rfl 5 Tryz.underlying130 info5 (w1.heap.size + 1) _ _ rfl hown1 (UInt8.ofNat (48 + c)) _ HX.out 1 rfl hlen hsz1 (w1.heap.size + 1) U hbr (Nat.le_refl _) ?_; intro v3 w3 hown3 hbel3 hsz3)
          have hrow3 := brow_below hrow hbel3 (Nat.lt_succ_self _)
          have hbel4 := hbel1.trans (hbel3.mono (Nat.le_succ _))
          have hsN3 : sliceN v3 = acc.length + 1 := by
            have e1 : (acc ++ [UInt8.ofNat (48 + c)]).length = acc.length + 1 := by rw [List.length_append, List.length_singleton]
            rw [← e1]
            rcases hown3.form with ⟨rfl, h0⟩ | ⟨gb, capb, rfl, _⟩
            · rw [h0]; rfl
            · rfl
          clear hbel3 hbr
          go_loopw [5] (fun x wr'' => ∃ (off n cap : Nat) (pre l : List UInt8), x = .slice (some ⟨w1.heap.size, off, none⟩) n cap ∧ l.length = n ∧ n ≤ cap ∧ off + n ≤ 255 ∧ (0 < n → pre.length = off ∧ BRow w3 w1.heap.size (pre ++ l)) ∧ Hid (stripL l = stripL q) ∧ w3 = wr'') (fun x _ => sliceN x)
          case atStart => exact ⟨off, n, cap, pre, q, rfl, by omega, hncap, hoff, fun _ => ⟨hpo, hrow3⟩, rfl, rfl⟩
          case round =>
            obtain ⟨off2, n2, cap2, pre2, l2, rfl, hl2, hnc2, hoff2, hrw2, HS2, rfl⟩ := hrel
            by_cases hn2 : ¬ 0 < n2
            · obtain rfl : l2 = [] := List.eq_nil_of_length_eq_zero (by omega)
              have HT3 : Hid ((acc ++ [UInt8.ofNat (48 + c)]) ++ decD (hvl []) = decD M) := by
                show _ = _
                rw [← HT1.out, ← stripL_val q, ← HS2.out]
                rfl
              clear HS2 hrw2
              go_wp2
              go_roundw
              case rel => exact ⟨off2, n2, cap2, [], [], _, rfl, hl2, by omega, by omega, fun h => absurd h hn2, by simp [Hid], hown3, HT3, hbel4, hsz3⟩
              case measure => rw [hsN3, hsN]; omega
            · obtain ⟨hp2, hrow4⟩ := hrw2 (by omega)
              obtain ⟨y, t, rfl⟩ : ∃ x t, l2 = x :: t := by
                cases l2 with
                | nil => exfalso; simp at hl2; omega
                | cons x t => exact ⟨x, t, rfl⟩
              have hcc := hrow4.cell off2 (by rw [List.length_append]; simp only [List.length_cons]; omega)
              rw [List.getElem_append_right (by omega)] at hcc
              simp only [hp2, Nat.sub_self, List.getElem_cons_zero] at hcc
              by_cases hy : y.toNat = 0
              · have hy0 : y = 0 := UInt8.toNat_inj.1 hy
                have htl := run_tail w3 w1.heap.size off2 n2 cap2 (by omega)
                have HS3 : Hid (stripL t = stripL q) := by
                  show _ = _
                  rw [← HS2.out, hy0, stripL_zero]
                have hrow5 : BRow w3 w1.heap.size ((pre2 ++ [y]) ++ t) := by rw [List.append_assoc]; exact hrow4
                have hl3 : t.length = n2 - 1 := by simp only [List.length_cons] at hl2; omega
                clear HS2 hrow4 hy0
                by_cases hc1 : cap2 = 1
                · subst hc1
                  obtain rfl : n2 = 1 := by omega
                  clear htl
                  go_wp2
                  go_roundw
                  case rel => exact ⟨off2, 0, 0, [], t, rfl, hl3, by omega, by omega, fun h => absurd h (by decide), HS3, trivial⟩
                  case measure => simp only [sliceN]; omega
                · rw [if_neg hc1] at htl
                  go_wp2
                  go_roundw
                  case rel => exact ⟨off2 + 1, n2 - 1, cap2 - 1, pre2 ++ [y], t, rfl, hl3, by omega, by omega, fun h => ⟨by rw [List.length_append, List.length_singleton, hp2], hrow5⟩, HS3, trivial⟩
                  case measure => simp only [sliceN]; omega
              · have hy0 : y ≠ 0 := fun h => hy (by rw [h]; rfl)
                have hs2 : stripL (y :: t) = y :: t := stripL_self (by simp [hy0])
                have HT3 : Hid ((acc ++ [UInt8.ofNat (48 + c)]) ++ decD (hvl (y :: t)) = decD M) := by
                  show _ = _
                  rw [← HT1.out, ← stripL_val q, ← HS2.out, hs2]
                clear HS2 hs2
                go_wp2
                go_roundw
                case rel => exact ⟨off2, n2, cap2, pre2, y :: t, _, rfl, hl2, hnc2, hoff2, fun _ => ⟨hp2, hrow4⟩, by simp [Hid, hy0], hown3, HT3, hbel4, hsz3⟩
                case measure => rw [hsN3, hsN]; omega

set_option maxHeartbeats 1000000 in
theorem rprint_any (b : Bool) (m : ByteArray) (hm : m.size ≤ 17179869184) (w : World) :
    Calls Tryz.prog 91 #[numV b m] w fun e w' => e = printE b m.data.toList ∧ Below w.heap.size w w' := by
  have hl : m.data.toList.length = m.size := (Lib.size_eq m).symm
  by_cases hc : chk b m.data.toList = 0
  · obtain ⟨h255, hhd, hnb⟩ := chk_zero hc
    by_cases h0 : m.size = 0
    · have hn : m.data.toList = [] := List.eq_nil_of_length_eq_zero (by omega)
      have hR : printE b m.data.toList = .returned (.tuple #[.string (bs [48]), .int .i64 0]) := by rw [printE, hc, if_pos rfl, hn]; rfl
      rw [hR]
      have HC : Hid (chk b m.data.toList = 0) := hc
      clear hR hnb hhd h255 hn hc hl
      go_enter Tryz.func91, Tryz.ntmps91
      go_wp2_with fail
      refine (rcheck_any b m hm _).mono ?_
      rintro e w1 ⟨rfl, hb1⟩
      obtain ⟨hc0, hc1, hc2⟩ := box_num hb1 (h := w.heap.size) (v0 := .bool b) (v1 := .string m) ⟨by simp, by simp, by simp⟩
      rw [HC.out]
      go_wp2
      go_ret2
      exact ⟨rfl, below_box hb1⟩
    · have hne : m.data.toList ≠ [] := fun h => h0 (by rw [← hl, h]; rfl)
      have he2 : m.data.toList.isEmpty = false := by simpa using hne
      have hpos := hvl_pos hhd hne
      have hdb := decD_bound h255
      cases b
      · have hR : printE false m.data.toList = .returned (.tuple #[.string (bs (decD (hvl m.data.toList)).reverse), .int .i64 0]) := by rw [printE, hc, if_pos rfl, printL, he2]; rfl
        rw [hR]
        exact rprint_false m (by omega) _ rfl hpos hhd hdb (by omega) hc w
      · have hR : printE true m.data.toList = .returned (.tuple #[.string (bs ([45] ++ (decD (hvl m.data.toList)).reverse)), .int .i64 0]) := by rw [printE, hc, if_pos rfl, printL, he2]; rfl
        rw [hR]
        exact rprint_true m (by omega) _ rfl hpos hhd hdb (by omega) hc w
  · have hR : printE b m.data.toList = .returned (.tuple #[.string (bs []), .int .i64 (chk b m.data.toList)]) := by simp [printE, hc]
    rw [hR]
    clear hR hl
    generalize hcc : chk b m.data.toList = c at hc ⊢
    go_enter Tryz.func91, Tryz.ntmps91
    go_wp2_with fail
    refine (rcheck_any b m hm _).mono ?_
    rintro e w1 ⟨rfl, hb1⟩
    rw [hcc]
    go_wp2
    go_ret2
    exact ⟨rfl, below_box hb1⟩
end Go.Proofs.YtcbjnifoojjipaaGreatDoor

namespace Go.Proofs.YtcbjnifoojjipaaGreatDoor
open Go.RowKit Go.Vf

theorem dec_ten {n : Nat} (h : ¬ n < 10) : Lib.decDigits n = Lib.decDigits (n / 10) ++ Lib.decDigits (n % 10) := by
  rw [Lib.decDigits, dif_neg h, Lib.decDigits_one (i := n % 10) (by omega)]
set_option maxHeartbeats 4000000 in
theorem decimal_nat : ∀ (n : Nat), n ≤ 1000000000 → ∀ w : World, Calls Tryz.prog 43 #[.int .i64 (n : Int)] w fun e w' => e = .returned (.string (bs (Lib.decDigits n))) ∧ w' = w := by
  intro n
  induction n using Nat.strongRecOn with
  | ind n ih =>
    intro hn w
    by_cases h : n < 10
    · have hd := Lib.decDigits_one h
      rw [hd]
      clear hd ih
      obtain rfl | rfl | rfl | rfl | rfl | rfl | rfl | rfl | rfl | rfl : n = 0 ∨ n = 1 ∨ n = 2 ∨ n = 3 ∨ n = 4 ∨ n = 5 ∨ n = 6 ∨ n = 7 ∨ n = 8 ∨ n = 9 := by omega
      all_goals
        go_enter Tryz.func43, Tryz.ntmps43
        go_wp2_with fail
        go_ret
        exact ⟨rfl, rfl⟩
    · have q1 : Calls Tryz.prog 43 #[.int .i64 ((n : Int) / 10)] w fun e w' => e = .returned (.string (bs (Lib.decDigits (n / 10)))) ∧ w' = w := by
        have := ih (n / 10) (by omega) (by omega) w
        rwa [Int.natCast_ediv] at this
      have q2 : Calls Tryz.prog 43 #[.int .i64 ((n : Int) % 10)] w fun e w' => e = .returned (.string (bs (Lib.decDigits (n % 10)))) ∧ w' = w := by
        have := ih (n % 10) (by omega) (by omega) w
        rwa [Int.natCast_emod] at this
      rw [dec_ten h, ← bs_add]
      have z1 : (bs (Lib.decDigits (n / 10))).size ≤ 100 := by
        rw [bs_size, ← Lib.itoa_nonneg]; have := Lib.itoa_length_le ((n / 10 : Nat) : Int) (by omega) (by omega); omega
      have z2 : (bs (Lib.decDigits (n % 10))).size ≤ 100 := by
        rw [bs_size, ← Lib.itoa_nonneg]; have := Lib.itoa_length_le ((n % 10 : Nat) : Int) (by omega) (by omega); omega
      generalize bs (Lib.decDigits (n / 10)) = A at *
      generalize bs (Lib.decDigits (n % 10)) = B at *
      have t1 : decide ((n : Int) < 10) = false := decide_eq_false (by omega)
      clear ih
      go_enter Tryz.func43, Tryz.ntmps43
      go_wp2_with fail
      refine q1.mono ?_
      rintro _ _ ⟨rfl, rfl⟩
      go_wp2_with fail
      refine q2.mono ?_
      rintro _ _ ⟨rfl, rfl⟩
      go_wp2_with fail
      go_ret
      exact ⟨rfl, rfl⟩
theorem decimal_any (n : Int) (h0 : 0 ≤ n) (h1 : n ≤ 1000000000) (w : World) : Calls Tryz.prog 43 #[.int .i64 n] w fun e w' => e = .returned (.string (bs (Lib.itoa n))) ∧ w' = w := by
  obtain ⟨k, rfl⟩ : ∃ k : Nat, n = (k : Int) := ⟨n.toNat, by omega⟩
  rw [Lib.itoa_nonneg]
  exact decimal_nat k (by omega) w
set_option maxHeartbeats 4000000 in
set_option maxRecDepth 20000 in
theorem rkinds_any (w : World) : Calls Tryz.prog 90 #[] w fun e w' => ∃ g, e = .returned (.slice (some ⟨g, 0, none⟩) 8 8) ∧ g = w.heap.size ∧ Below w.heap.size w w' ∧ ∀ k : Nat, 1 ≤ k → k ≤ 7 → w'.cell? ⟨g, k, none⟩ = some (.string (bs (wordK k))) := by
  have hb := (Below.refl w.heap.size w).alloc (Nat.le_refl _) (.cells #[.string ⟨#[]⟩, .string ⟨#[98, 111, 111, 108]⟩, .string ⟨#[105, 110, 116]⟩, .string ⟨#[98, 121, 116, 101, 115]⟩, .string ⟨#[105, 100]⟩, .string ⟨#[110, 97, 109, 101]⟩, .string ⟨#[116, 101, 120, 116]⟩, .string ⟨#[116, 117, 112, 108, 101]⟩] 9)
  have hB := Blk.new w 9 #[.string ⟨#[]⟩, .string ⟨#[98, 111, 111, 108]⟩, .string ⟨#[105, 110, 116]⟩, .string ⟨#[98, 121, 116, 101, 115]⟩, .string ⟨#[105, 100]⟩, .string ⟨#[110, 97, 109, 101]⟩, .string ⟨#[116, 101, 120, 116]⟩, .string ⟨#[116, 117, 112, 108, 101]⟩]
  go_enter Tryz.func90, Tryz.ntmps90
  go_wp2_with fail
  go_ret
  refine ⟨_, rfl, rfl, hb, fun k h1 h7 => ?_⟩
  obtain rfl | rfl | rfl | rfl | rfl | rfl | rfl : k = 1 ∨ k = 2 ∨ k = 3 ∨ k = 4 ∨ k = 5 ∨ k = 6 ∨ k = 7 := by omega
  · exact hB.cell 1
  · exact hB.cell 2
  · exact hB.cell 3
  · exact hB.cell 4
  · exact hB.cell 5
  · exact hB.cell 6
  · exact hB.cell 7
end Go.Proofs.YtcbjnifoojjipaaGreatDoor

namespace Go.Proofs.YtcbjnifoojjipaaGreatDoor
open Go.RowKit Go.Vf

/-- A field's line, as the document's text makes it. -/
def lineD (o : Go.Vf.Own) : List UInt8 :=
  (([102, 105, 101, 108, 100, 32] ++ o.name.data.toList) ++ [32]) ++ wordK o.kind.toNat ++ spIf o.down [100, 111, 119, 110] ++ spIf (o.nulls == 1) [110, 117, 108, 108, 45, 102, 105, 114, 115, 116] ++ spIf (o.nulls == 2) [110, 117, 108, 108, 45, 108, 97, 115, 116] ++
  (if o.bnd then [32, 102, 114, 111, 109, 32] ++ natS o.ln o.lm.data.toList ++ [32, 116, 111, 32] ++ natS o.hn o.hm.data.toList else []) ++
  (if o.kind = 3 ∨ o.kind = 5 then [32, 109, 111, 115, 116, 32] ++ Lib.itoa o.most else []) ++
  (if o.kind = 6 then [32, 115, 116, 114, 101, 110, 103, 116, 104, 32] ++ Lib.itoa o.str else []) ++ spIf o.shf [115, 104, 105, 102, 116, 101, 100] ++ spIf o.bck [98, 97, 99, 107]
set_option maxHeartbeats 8000000 in
set_option maxRecDepth 20000 in
theorem line_any (o : Go.Vf.Own) (k : Nat) (hk : o.kind = (k : Int)) (h1 : 1 ≤ k) (h7 : k ≤ 7) (a : Option Addr) (n c : Nat) (hnm : o.name.size ≤ 10000000) (hl : o.lm.size ≤ 17179869184) (hh : o.hm.size ≤ 17179869184) (hnl : (natS o.ln o.lm.data.toList).length ≤ 1000000) (hnh : (natS o.hn o.hm.data.toList).length ≤ 1000000) (hm0 : 0 ≤ o.most) (hm1 : o.most ≤ 65536) (hs0 : 0 ≤ o.str) (hs1 : o.str ≤ 4) (w : World) :
    Calls Tryz.prog 68 #[.agg #[.string o.name, .int .u8 o.kind, .bool o.down, .int .u8 o.nulls, .bool o.bnd, .bool o.ln, .string o.lm, .bool o.hn, .string o.hm, .int .i64 o.most, .int .i64 o.str, .bool o.shf, .bool o.bck, .slice a n c]] w fun e w' => e = .returned (.string (bs (lineD o))) ∧ Below w.heap.size w w' := by
  have hN0 := Blk.new w 48 #[.string o.name, .int .u8 o.kind, .bool o.down, .int .u8 o.nulls, .bool o.bnd, .bool o.ln, .string o.lm, .bool o.hn, .string o.hm, .int .i64 o.most, .int .i64 o.str, .bool o.shf, .bool o.bck, .slice a n c]
  have hb0 := (Below.refl w.heap.size w).alloc (Nat.le_refl _) (.cells #[.string o.name, .int .u8 o.kind, .bool o.down, .int .u8 o.nulls, .bool o.bnd, .bool o.ln, .string o.lm, .bool o.hn, .string o.hm, .int .i64 o.most, .int .i64 o.str, .bool o.shf, .bool o.bck, .slice a n c] 48)
  have HWK : Hid (∀ (W : World) (g : Nat), (∀ k : Nat, 1 ≤ k → k ≤ 7 → W.cell? ⟨g, k, none⟩ = some (.string (bs (wordK k)))) → W.cell? ⟨g, k, none⟩ = some (.string (bs (wordK k)))) := fun W g h => h k h1 h7
  have hwl : (wordK k).length ≤ 5 := word_len k
  obtain ⟨R, hR⟩ : ∃ R, lineD o = R := ⟨_, rfl⟩
  rw [hR]
  unfold lineD at hR
  rw [show o.kind.toNat = k by omega] at hR
  generalize wordK k = WK at *
  have hk5 : (k : Int) < 8 := by omega
  have hk0 : (0 : Int) ≤ (k : Int) := by omega
  obtain ⟨NM, hNM⟩ : ∃ NM, o.name.data.toList = NM := ⟨_, rfl⟩
  have hnb : o.name = bs NM := by rw [← hNM]; apply ByteArray.ext; simp [bs]
  have hnl2 : NM.length ≤ 10000000 := by rw [← hNM, ← Lib.size_eq]; exact hnm
  rw [hNM] at hR
  have z1 : ((⟨#[102, 105, 101, 108, 100, 32]⟩ : ByteArray) ++ o.name).size ≤ 20000000 := by rw [show (⟨#[102, 105, 101, 108, 100, 32]⟩ : ByteArray) = bs [102, 105, 101, 108, 100, 32] from rfl, hnb, bs_add, bs_size]; simp; omega
  have z2 : ((⟨#[102, 105, 101, 108, 100, 32]⟩ : ByteArray) ++ o.name ++ (⟨#[32]⟩ : ByteArray)).size ≤ 20000000 := by rw [show (⟨#[102, 105, 101, 108, 100, 32]⟩ : ByteArray) = bs [102, 105, 101, 108, 100, 32] from rfl, show (⟨#[32]⟩ : ByteArray) = bs [32] from rfl, hnb, bs_add, bs_add, bs_size]; simp; omega
  have z3 : (bs WK).size ≤ 5 := by rw [bs_size]; exact hwl
  have hkd := rkinds_any
  have HK : Hid (o.kind = (k : Int)) := hk
  have HNB : Hid (o.name = bs NM) := hnb
  have HR : Hid _ := hR
  clear hR hk hnb hNM
  go_enter Tryz.func68, Tryz.ntmps68
  go_upto_region 1 with fail
  generalize w.alloc (.cells #[.string o.name, .int .u8 o.kind, .bool o.down, .int .u8 o.nulls, .bool o.bnd, .bool o.ln, .string o.lm, .bool o.hn, .string o.hm, .int .i64 o.most, .int .i64 o.str, .bool o.shf, .bool o.bck, .slice a n c] 48) = w1 at *
  have hlt : w.heap.size < w1.heap.size := hN0.lt
  obtain ⟨c0, c1, c2, c3, c4, c5, c6, c7, c8, c9, c10, c11, c12, c13⟩ := hN0.c14
  rw [HK.out] at c1
  go_cut [3] from 8 (fun v wx => v = .string ((⟨#[102, 105, 101, 108, 100, 32]⟩ : ByteArray) ++ o.name ++ (⟨#[32]⟩ : ByteArray) ++ bs WK) ∧ Below w1.heap.size w1 wx)
  case first =>
    have hc0 : ∀ x, Below w1.heap.size w1 x → x.cell? ⟨w.heap.size, 0, none⟩ = some (.string o.name) := fun x h => (h.cell (p := ⟨w.heap.size, 0, none⟩) hlt).trans c0
    have hc1 : ∀ x, Below w1.heap.size w1 x → x.cell? ⟨w.heap.size, 1, none⟩ = some (.int .u8 (k : Int)) := fun x h => (h.cell (p := ⟨w.heap.size, 1, none⟩) hlt).trans c1
    have HKeep : Hid (∀ x y, Below w1.heap.size w1 x → Below x.heap.size x y → Below w1.heap.size w1 y) := fun x y h1 h2 => h1.trans (h2.mono h1.size)
    clear c0 c1 c2 c3 c4 c5 c6 c7 c8 c9 c10 c11 c12 c13
    refine wp_region_held_drew (S := fun x => Below w1.heap.size w1 x) (by kernel_rfl) ((Below.refl _ _).drew) (fun hHeld => ?_)
    refine wpAnyH_takeD (i := 0) (some 8) (v := .pointer (some ⟨w.heap.size, 0, none⟩)) rfl rfl (by kernel_rfl) (by kernel_rfl) (by kernel_rfl) (fun _ _ _ h => h) (Or.inl ⟨by kernel_rfl, ?hy0⟩) (by assumption) ?rest0
    case hy0 => (intro x hSx; (try dsimp only at hSx); go_simp; first | done | with_reducible rfl | omega | (simp [ByteArray.size_append] at *; omega))
    try simp only [Act.put, List.setIfInBounds_toArray, List.set_cons_zero, List.set_cons_succ]
    refine wpAnyH_takeD (i := 1) (some 9) (v := .string o.name) rfl rfl (by kernel_rfl) (by kernel_rfl) (by kernel_rfl) (fun _ _ _ h => h) (Or.inl ⟨by kernel_rfl, ?hy1⟩) (by assumption) ?rest1
    case hy1 => (intro x hSx; have hq := hc0 _ hSx; (try dsimp only at hSx); go_simp; first | done | with_reducible rfl | omega | (simp [ByteArray.size_append] at *; omega))
    try simp only [Act.put, List.setIfInBounds_toArray, List.set_cons_zero, List.set_cons_succ]
    refine wpAnyH_takeD (i := 2) (some 10) (v := .string ((⟨#[102, 105, 101, 108, 100, 32]⟩ : ByteArray) ++ o.name)) rfl rfl (by kernel_rfl) (by kernel_rfl) (by kernel_rfl) (fun _ _ _ h => h) (Or.inl ⟨by kernel_rfl, ?hy2⟩) (by assumption) ?rest2
    case hy2 => (intro x hSx; (try dsimp only at hSx); go_simp; first | done | with_reducible rfl | omega | (simp [ByteArray.size_append] at *; omega))
    try simp only [Act.put, List.setIfInBounds_toArray, List.set_cons_zero, List.set_cons_succ]
    refine wpAnyH_takeD (i := 3) (some 11) (v := .string ((⟨#[102, 105, 101, 108, 100, 32]⟩ : ByteArray) ++ o.name ++ (⟨#[32]⟩ : ByteArray))) rfl rfl (by kernel_rfl) (by kernel_rfl) (by kernel_rfl) (fun _ _ _ h => h) (Or.inl ⟨by kernel_rfl, ?hy3⟩) (by assumption) ?rest3
    case hy3 => (intro x hSx; (try dsimp only at hSx); go_simp; first | done | with_reducible rfl | omega | (simp [ByteArray.size_append] at *; omega))
    try simp only [Act.put, List.setIfInBounds_toArray, List.set_cons_zero, List.set_cons_succ]
    refine wpAnyH_takeD (i := 5) (some 13) (v := .pointer (some ⟨w.heap.size, 1, none⟩)) rfl rfl (by kernel_rfl) (by kernel_rfl) (by kernel_rfl) (fun _ _ _ h => h) (Or.inl ⟨by kernel_rfl, ?hy5⟩) (by assumption) ?rest5
    case hy5 => (intro x hSx; (try dsimp only at hSx); go_simp; first | done | with_reducible rfl | omega | (simp [ByteArray.size_append] at *; omega))
    try simp only [Act.put, List.setIfInBounds_toArray, List.set_cons_zero, List.set_cons_succ]
    refine wpAnyH_takeD (i := 6) (some 14) (v := .int .u8 (k : Int)) rfl rfl (by kernel_rfl) (by kernel_rfl) (by kernel_rfl) (fun _ _ _ h => h) (Or.inl ⟨by kernel_rfl, ?hy6⟩) (by assumption) ?rest6
    case hy6 => (intro x hSx; have hq := hc1 _ hSx; (try dsimp only at hSx); go_simp; first | done | with_reducible rfl | omega | (simp [ByteArray.size_append] at *; omega))
    try simp only [Act.put, List.setIfInBounds_toArray, List.set_cons_zero, List.set_cons_succ]
    refine wpAnyH_ready (rs := [4]) (by kernel_rfl) (by simp) ?_
    refine AllReadyH.cons rfl (fun K hK => ?_) AllReadyH.nil
    go_simp
    go_wp2_with (go_at_call 90; refine (hkd _).mono ?_; rintro e y ⟨g, rfl, hg, hby, hKd⟩; clear hg)
    refine hK.out _ _ (HKeep.out _ _ hHeld hby) (fun hH1 => ?_)
    clear hK K
    try simp only [Act.put, List.setIfInBounds_toArray, List.set_cons_zero, List.set_cons_succ]
    have hq := HWK.out _ _ hKd
    clear hKd
    refine wpAnyH_takeD (i := 7) (some 15) (v := .pointer (some ⟨g, k, none⟩)) rfl rfl (by kernel_rfl) (by kernel_rfl) (by kernel_rfl) (fun _ _ _ h => h) (Or.inl ⟨by kernel_rfl, ?hy7⟩) (by assumption) ?rest7
    case hy7 => (intro x hSx; (try dsimp only at hSx); go_simp; first | done | with_reducible rfl | omega | (simp [ByteArray.size_append] at *; omega))
    try simp only [Act.put, List.setIfInBounds_toArray, List.set_cons_zero, List.set_cons_succ]
    refine wpAnyH_ready (rs := [8]) (by kernel_rfl) (by simp) ?_
    refine AllReadyH.cons rfl (fun K hK => ?_) AllReadyH.nil
    go_simp
    refine hK.out _ _ hH1 (fun hH2 => ?_)
    clear hK K
    try simp only [Act.put, List.setIfInBounds_toArray, List.set_cons_zero, List.set_cons_succ]
    refine wpAnyH_ready (rs := [9]) (by kernel_rfl) (by simp) ?_
    refine AllReadyH.cons rfl (fun K hK => ?_) AllReadyH.nil
    go_simp
    rw [if_neg (by omega)]
    refine hK.out _ _ hH2 (fun hH2b => ?_)
    clear hK K
    try simp only [Act.put, List.setIfInBounds_toArray, List.set_cons_zero, List.set_cons_succ]
    refine wpAnyH_ready (rs := [10]) (by kernel_rfl) (by simp) ?_
    refine AllReadyH.cons rfl (fun K hK => ?_) AllReadyH.nil
    go_simp
    refine hK.out _ _ hH2 (fun hH3 => ?_)
    clear hK K
    try simp only [Act.put, List.setIfInBounds_toArray, List.set_cons_zero, List.set_cons_succ]
    refine wpAnyH_done (by kernel_rfl) ?_ _
    go_wp2_with fail
    go_meet
    case rel => exact ⟨rfl, hH3⟩
  case rest =>
    obtain ⟨rfl, hb2⟩ := hcut
    have hz2 := hb2.size
    have hNc := hN0.old hb2
    have hb02 := hb0.trans (hb2.mono hb0.size)
    clear c0 c1 c2 c3 c4 c5 c6 c7 c8 c9 c10 c11 c12 c13 hkd HWK hb2
    have hL0 : Value.string ((⟨#[102, 105, 101, 108, 100, 32]⟩ : ByteArray) ++ o.name ++ (⟨#[32]⟩ : ByteArray) ++ bs WK) = .string (bs (([102, 105, 101, 108, 100, 32] ++ NM) ++ [32] ++ WK)) := by
      rw [show (⟨#[102, 105, 101, 108, 100, 32]⟩ : ByteArray) = bs [102, 105, 101, 108, 100, 32] from rfl, show (⟨#[32]⟩ : ByteArray) = bs [32] from rfl, HNB.out, bs_add, bs_add, bs_add]
    obtain ⟨d0, d1, d2, d3, d4, d5, d6, d7, d8, d9, d10, d11, d12, d13⟩ := hNc.c14
    rw [HK.out] at d1 HR
    clear z1 z2 z3
    have y0 : (([102, 105, 101, 108, 100, 32] ++ NM) ++ [32] ++ WK).length ≤ 10000100 := by simp; omega
    rw [hL0]
    clear hL0
    obtain ⟨L0, hE0⟩ : ∃ L0, ([102, 105, 101, 108, 100, 32] ++ NM) ++ [32] ++ WK = L0 := ⟨_, rfl⟩
    rw [hE0] at HR y0 ⊢
    clear hE0
    obtain ⟨DN, hDN⟩ : ∃ b, o.down = b := ⟨_, rfl⟩
    obtain ⟨NU, hNU⟩ : ∃ b, o.nulls = b := ⟨_, rfl⟩
    obtain ⟨SH, hSH⟩ : ∃ b, o.shf = b := ⟨_, rfl⟩
    obtain ⟨BK, hBK⟩ : ∃ b, o.bck = b := ⟨_, rfl⟩
    obtain ⟨BD, hBD⟩ : ∃ b, o.bnd = b := ⟨_, rfl⟩
    rw [hDN] at d2 HR
    rw [hNU] at d3 HR
    rw [hSH] at d11 HR
    rw [hBK] at d12 HR
    rw [hBD] at d4 HR
    clear hDN hNU hSH hBK hBD
    obtain ⟨N1, hN1⟩ : ∃ b, (NU == 1) = b := ⟨_, rfl⟩
    obtain ⟨N2, hN2⟩ : ∃ b, (NU == 2) = b := ⟨_, rfl⟩
    rw [hN1, hN2] at HR
    have hN1d : decide (NU = 1) = N1 := by rw [← hN1]; rfl
    have hN2d : decide (NU = 2) = N2 := by rw [← hN2]; rfl
    obtain ⟨P1, hP1⟩ : ∃ P, spIf DN [100, 111, 119, 110] = P := ⟨_, rfl⟩
    rw [hP1] at HR
    have p1 : P1.length ≤ 100 := by rw [← hP1]; have := sp_len DN [100, 111, 119, 110]; simp at this; omega
    have HP1 : Hid (spIf DN [100, 111, 119, 110] = P1) := hP1
    clear hP1
    have s1 : (bs L0).size ≤ 200000000 := by rw [bs_size]; omega
    go_upto_if 19 with fail
    go_cut [3] from 18 (fun v wx => v = .string (bs (L0 ++ P1)) ∧ wx = wc)
    case first =>
      clear HR
      cases DN
      · go_wp2_with fail
        go_meet
        case rel => exact ⟨by rw [← HP1.out, spIf, if_neg (by simp), List.append_nil], rfl⟩
      · go_wp2_with fail
        go_meet
        case rel => exact ⟨by rw [← bs_add, ← HP1.out]; rfl, rfl⟩
    case rest =>
    obtain ⟨rfl, rfl⟩ := hcut
    have y1 : (L0 ++ P1).length ≤ 13000100 := by simp only [List.length_append]; omega
    obtain ⟨L1, hE1⟩ : ∃ L, L0 ++ P1 = L := ⟨_, rfl⟩
    rw [hE1] at HR y1 ⊢
    clear hE1 HP1 s1 y0 p1
    obtain ⟨P2, hP2⟩ : ∃ P, spIf N1 [110, 117, 108, 108, 45, 102, 105, 114, 115, 116] = P := ⟨_, rfl⟩
    rw [hP2] at HR
    have p2 : P2.length ≤ 100 := by rw [← hP2]; have := sp_len N1 [110, 117, 108, 108, 45, 102, 105, 114, 115, 116]; simp at this; omega
    have HP2 : Hid (spIf N1 [110, 117, 108, 108, 45, 102, 105, 114, 115, 116] = P2) := hP2
    clear hP2
    have s2 : (bs L1).size ≤ 200000000 := by rw [bs_size]; omega
    go_upto_if 24 with fail
    go_cut [3] from 22 (fun v wx => v = .string (bs (L1 ++ P2)) ∧ wx = wc)
    case first =>
      clear HR
      cases N1
      · go_wp2_with fail
        go_meet
        case rel => exact ⟨by rw [← HP2.out, spIf, if_neg (by simp), List.append_nil], rfl⟩
      · go_wp2_with fail
        go_meet
        case rel => exact ⟨by rw [← bs_add, ← HP2.out]; rfl, rfl⟩
    case rest =>
    obtain ⟨rfl, rfl⟩ := hcut
    have y2 : (L1 ++ P2).length ≤ 16000100 := by simp only [List.length_append]; omega
    obtain ⟨L2, hE2⟩ : ∃ L, L1 ++ P2 = L := ⟨_, rfl⟩
    rw [hE2] at HR y2 ⊢
    clear hE2 HP2 s2 y1 p2
    obtain ⟨P3, hP3⟩ : ∃ P, spIf N2 [110, 117, 108, 108, 45, 108, 97, 115, 116] = P := ⟨_, rfl⟩
    rw [hP3] at HR
    have p3 : P3.length ≤ 100 := by rw [← hP3]; have := sp_len N2 [110, 117, 108, 108, 45, 108, 97, 115, 116]; simp at this; omega
    have HP3 : Hid (spIf N2 [110, 117, 108, 108, 45, 108, 97, 115, 116] = P3) := hP3
    clear hP3
    have s3 : (bs L2).size ≤ 200000000 := by rw [bs_size]; omega
    go_upto_if 29 with fail
    go_cut [3] from 27 (fun v wx => v = .string (bs (L2 ++ P3)) ∧ wx = wc)
    case first =>
      clear HR
      cases N2
      · go_wp2_with fail
        go_meet
        case rel => exact ⟨by rw [← HP3.out, spIf, if_neg (by simp), List.append_nil], rfl⟩
      · go_wp2_with fail
        go_meet
        case rel => exact ⟨by rw [← bs_add, ← HP3.out]; rfl, rfl⟩
    case rest =>
    obtain ⟨rfl, rfl⟩ := hcut
    have y3 : (L2 ++ P3).length ≤ 19000100 := by simp only [List.length_append]; omega
    obtain ⟨L3, hE3⟩ : ∃ L, L2 ++ P3 = L := ⟨_, rfl⟩
    rw [hE3] at HR y3 ⊢
    clear hE3 HP3 s3 y2 p3
    clear hN1 hN2 hN1d hN2d d2 d3
    generalize wc = wd at *
    have hltd : w.heap.size < wd.heap.size := by omega
    obtain ⟨NL, hNL⟩ : ∃ l, natS o.ln o.lm.data.toList = l := ⟨_, rfl⟩
    obtain ⟨NH, hNH⟩ : ∃ l, natS o.hn o.hm.data.toList = l := ⟨_, rfl⟩
    rw [hNL] at hnl
    rw [hNH] at hnh
    rw [hNL, hNH] at HR
    obtain ⟨E1, q1⟩ : ∃ E1, ∀ W, Calls Tryz.prog 91 #[.agg #[.bool o.ln, .string o.lm]] W fun e w' => e = .returned (.tuple #[.string (bs NL), .int .i64 E1]) ∧ Below W.heap.size W w' := ⟨_, fun W => by rw [← hNL]; exact rprint_any o.ln o.lm hl W⟩
    obtain ⟨E2, q2⟩ : ∃ E2, ∀ W, Calls Tryz.prog 91 #[.agg #[.bool o.hn, .string o.hm]] W fun e w' => e = .returned (.tuple #[.string (bs NH), .int .i64 E2]) ∧ Below W.heap.size W w' := ⟨_, fun W => by rw [← hNH]; exact rprint_any o.hn o.hm hh W⟩
    clear hNL hNH
    obtain ⟨P4, hP4⟩ : ∃ P, (if BD = true then [32, 102, 114, 111, 109, 32] ++ NL ++ [32, 116, 111, 32] ++ NH else []) = P := ⟨_, rfl⟩
    rw [hP4] at HR
    have p4 : P4.length ≤ 2000100 := by rw [← hP4]; split <;> simp <;> omega
    have HP4 : Hid ((if BD = true then [32, 102, 114, 111, 109, 32] ++ NL ++ [32, 116, 111, 32] ++ NH else []) = P4) := hP4
    clear hP4
    have s4 : (bs L3).size ≤ 200000000 := by rw [bs_size]; omega
    have sL : (bs NL).size ≤ 1000000 := by rw [bs_size]; omega
    have sH : (bs NH).size ≤ 1000000 := by rw [bs_size]; omega
    have sA : (bs L3 ++ (⟨#[32, 102, 114, 111, 109, 32]⟩ : ByteArray)).size ≤ 300000000 := by rw [show (⟨#[32, 102, 114, 111, 109, 32]⟩ : ByteArray) = bs [32, 102, 114, 111, 109, 32] from rfl, bs_add, bs_size]; simp; omega
    have sB : (bs L3 ++ (⟨#[32, 102, 114, 111, 109, 32]⟩ : ByteArray) ++ bs NL).size ≤ 300000000 := by rw [show (⟨#[32, 102, 114, 111, 109, 32]⟩ : ByteArray) = bs [32, 102, 114, 111, 109, 32] from rfl, bs_add, bs_add, bs_size]; simp; omega
    have sC : (bs L3 ++ (⟨#[32, 102, 114, 111, 109, 32]⟩ : ByteArray) ++ bs NL ++ (⟨#[32, 116, 111, 32]⟩ : ByteArray)).size ≤ 300000000 := by rw [show (⟨#[32, 102, 114, 111, 109, 32]⟩ : ByteArray) = bs [32, 102, 114, 111, 109, 32] from rfl, show (⟨#[32, 116, 111, 32]⟩ : ByteArray) = bs [32, 116, 111, 32] from rfl, bs_add, bs_add, bs_add, bs_size]; simp; omega
    go_upto_if 33 with fail
    go_cut [3, 4, 5, 6, 7] from 32 (fun v _ _ _ _ wx => v = .string (bs (L3 ++ P4)) ∧ Below wd.heap.size wd wx)
    case first =>
      clear HR
      cases BD
      · go_wp2_with fail
        go_meet
        case rel => exact ⟨by rw [← HP4.out, if_neg (by simp), List.append_nil], Below.refl _ _⟩
      · clear d1 d4 d9 d10 d11 d12 d13 d0 hNc hN0
        go_wp2_with fail
        refine (q1 _).mono ?_
        rintro _ we ⟨rfl, hbe⟩
        have e7 : we.cell? ⟨w.heap.size, 7, none⟩ = some (.bool o.hn) := (hbe.cell (p := ⟨w.heap.size, 7, none⟩) hltd).trans d7
        have e8 : we.cell? ⟨w.heap.size, 8, none⟩ = some (.string o.hm) := (hbe.cell (p := ⟨w.heap.size, 8, none⟩) hltd).trans d8
        clear d5 d6 d7 d8 q1
        go_wp2_with fail
        refine (q2 _).mono ?_
        rintro _ wf ⟨rfl, hbf⟩
        go_wp2_with fail
        go_meet
        case rel => exact ⟨by rw [← HP4.out, if_pos (by simp), ← List.append_assoc, ← List.append_assoc, ← List.append_assoc, ← bs_add, ← bs_add, ← bs_add, ← bs_add]; rfl, hbe.trans (hbf.mono hbe.size)⟩
    case rest =>
    obtain ⟨rfl, hb4⟩ := hcut
    have y4 : (L3 ++ P4).length ≤ 22000100 := by simp only [List.length_append]; omega
    obtain ⟨L4, hE4⟩ : ∃ L, L3 ++ P4 = L := ⟨_, rfl⟩
    rw [hE4] at HR y4 ⊢
    have e1 : wc.cell? ⟨w.heap.size, 1, none⟩ = some (.int .u8 (k : Int)) := (hb4.cell (p := ⟨w.heap.size, 1, none⟩) hltd).trans d1
    have e9 : wc.cell? ⟨w.heap.size, 9, none⟩ = some (.int .i64 o.most) := (hb4.cell (p := ⟨w.heap.size, 9, none⟩) hltd).trans d9
    have e10 : wc.cell? ⟨w.heap.size, 10, none⟩ = some (.int .i64 o.str) := (hb4.cell (p := ⟨w.heap.size, 10, none⟩) hltd).trans d10
    have e11 : wc.cell? ⟨w.heap.size, 11, none⟩ = some (.bool SH) := (hb4.cell (p := ⟨w.heap.size, 11, none⟩) hltd).trans d11
    have e12 : wc.cell? ⟨w.heap.size, 12, none⟩ = some (.bool BK) := (hb4.cell (p := ⟨w.heap.size, 12, none⟩) hltd).trans d12
    have hb04 := hb02.trans (hb4.mono hb02.size)
    have hz4 := hb4.size
    clear hE4 HP4 s4 sL sH sA sB sC y3 p4 q1 q2 d0 d1 d4 d5 d6 d7 d8 d9 d10 d11 d12 d13 hNc hb02 hb4
    have q3 := decimal_any o.most hm0 (by omega)
    have q4 := decimal_any o.str hs0 (by omega)
    have l3 := Lib.itoa_length_le o.most (by omega) (by omega)
    have l4 := Lib.itoa_length_le o.str (by omega) (by omega)
    generalize Lib.itoa o.most = IM at *
    generalize Lib.itoa o.str = IS at *
    obtain ⟨K3, hK3⟩ : ∃ b, ((k : Int) == 3) = b := ⟨_, rfl⟩
    obtain ⟨K5, hK5⟩ : ∃ b, ((k : Int) == 5) = b := ⟨_, rfl⟩
    obtain ⟨K6, hK6⟩ : ∃ b, ((k : Int) == 6) = b := ⟨_, rfl⟩
    have hK3d : decide ((k : Int) = 3) = K3 := by rw [← hK3]; rfl
    have hK5d : decide ((k : Int) = 5) = K5 := by rw [← hK5]; rfl
    have hK6d : decide ((k : Int) = 6) = K6 := by rw [← hK6]; rfl
    obtain ⟨P5, hP5⟩ : ∃ P, (if (k : Int) = 3 ∨ (k : Int) = 5 then [32, 109, 111, 115, 116, 32] ++ IM else []) = P := ⟨_, rfl⟩
    obtain ⟨P6, hP6⟩ : ∃ P, (if (k : Int) = 6 then [32, 115, 116, 114, 101, 110, 103, 116, 104, 32] ++ IS else []) = P := ⟨_, rfl⟩
    rw [hP5, hP6] at HR
    have p5 : P5.length ≤ 1000 := by rw [← hP5]; split <;> simp <;> omega
    have p6 : P6.length ≤ 1000 := by rw [← hP6]; split <;> simp <;> omega
    have HP5 : Hid ((if K3 = true ∨ K5 = true then [32, 109, 111, 115, 116, 32] ++ IM else []) = P5) := by
      show _ = _
      rw [← hP5, ← hK3d, ← hK5d]; simp only [decide_eq_true_eq]
    have HP6 : Hid ((if K6 = true then [32, 115, 116, 114, 101, 110, 103, 116, 104, 32] ++ IS else []) = P6) := by
      show _ = _
      rw [← hP6, ← hK6d]; simp only [decide_eq_true_eq]
    clear hP5 hP6
    have sM : (bs IM).size ≤ 1000 := by rw [bs_size]; omega
    have sS : (bs IS).size ≤ 1000 := by rw [bs_size]; omega
    have s5 : (bs L4).size ≤ 200000000 := by rw [bs_size]; omega
    have s5b : (bs L4 ++ (⟨#[32, 109, 111, 115, 116, 32]⟩ : ByteArray)).size ≤ 300000000 := by rw [show (⟨#[32, 109, 111, 115, 116, 32]⟩ : ByteArray) = bs [32, 109, 111, 115, 116, 32] from rfl, bs_add, bs_size]; simp; omega
    go_upto_region 12 with fail
    go_cut [60] from 53 (fun v wx => v = .bool (K3 || K5) ∧ wx = wc)
    case first =>
      clear HR
      cases K3
      · cases K5
        · go_wp2_with fail
          go_meet
          case rel => exact ⟨rfl, rfl⟩
        · go_wp2_with fail
          go_meet
          case rel => exact ⟨rfl, rfl⟩
      · go_wp2_with fail
        go_meet
        case rel => exact ⟨rfl, rfl⟩
    case rest =>
    obtain ⟨rfl, rfl⟩ := hcut
    clear hK3 hK5 hK3d hK5d
    obtain ⟨K35, hK35⟩ : ∃ b, (K3 || K5) = b := ⟨_, rfl⟩
    rw [hK35]
    have HQ5 : Hid ((if K35 = true then [32, 109, 111, 115, 116, 32] ++ IM else []) = P5) := by
      show _ = _
      rw [← HP5.out, ← hK35]; simp only [Bool.or_eq_true]
    clear hK35 HP5
    go_upto_if 60 with fail
    go_cut [3] from 60 (fun v wx => v = .string (bs (L4 ++ P5)) ∧ wx = wc)
    case first =>
      clear HR HP6
      cases K35
      · go_wp2_with fail
        go_meet
        case rel => exact ⟨by rw [← HQ5.out, if_neg (by simp), List.append_nil], rfl⟩
      · go_wp2_with (go_at_call 43; refine (q3 _).mono ?_; rintro _ _ ⟨rfl, rfl⟩)
        go_meet
        case rel => exact ⟨by rw [← HQ5.out, if_pos (by simp), ← List.append_assoc, ← bs_add, ← bs_add]; rfl, rfl⟩
    case rest =>
    obtain ⟨rfl, rfl⟩ := hcut
    have y5 : (L4 ++ P5).length ≤ 25000100 := by simp only [List.length_append]; omega
    obtain ⟨L5, hE5⟩ : ∃ L, L4 ++ P5 = L := ⟨_, rfl⟩
    rw [hE5] at HR y5 ⊢
    clear hE5 HQ5 s5 s5b y4 p5 q3 sM
    have s6 : (bs L5).size ≤ 200000000 := by rw [bs_size]; omega
    have s6b : (bs L5 ++ (⟨#[32, 115, 116, 114, 101, 110, 103, 116, 104, 32]⟩ : ByteArray)).size ≤ 300000000 := by rw [show (⟨#[32, 115, 116, 114, 101, 110, 103, 116, 104, 32]⟩ : ByteArray) = bs [32, 115, 116, 114, 101, 110, 103, 116, 104, 32] from rfl, bs_add, bs_size]; simp; omega
    go_upto_if 69 with fail
    go_cut [3] from 67 (fun v wx => v = .string (bs (L5 ++ P6)) ∧ wx = wc)
    case first =>
      clear HR
      cases K6
      · go_wp2_with fail
        go_meet
        case rel => exact ⟨by rw [← HP6.out, if_neg (by simp), List.append_nil], rfl⟩
      · go_wp2_with (go_at_call 43; refine (q4 _).mono ?_; rintro _ _ ⟨rfl, rfl⟩)
        go_meet
        case rel => exact ⟨by rw [← HP6.out, if_pos (by simp), ← List.append_assoc, ← bs_add, ← bs_add]; rfl, rfl⟩
    case rest =>
    obtain ⟨rfl, rfl⟩ := hcut
    have y6 : (L5 ++ P6).length ≤ 28000100 := by simp only [List.length_append]; omega
    obtain ⟨L6, hE6⟩ : ∃ L, L5 ++ P6 = L := ⟨_, rfl⟩
    rw [hE6] at HR y6 ⊢
    clear hE6 HP6 s6 s6b y5 p6 q4 sS hK6 hK6d
    obtain ⟨P7, hP7⟩ : ∃ P, spIf SH [115, 104, 105, 102, 116, 101, 100] = P := ⟨_, rfl⟩
    rw [hP7] at HR
    have p7 : P7.length ≤ 100 := by rw [← hP7]; have := sp_len SH [115, 104, 105, 102, 116, 101, 100]; simp at this; omega
    have HP7 : Hid (spIf SH [115, 104, 105, 102, 116, 101, 100] = P7) := hP7
    clear hP7
    have s7 : (bs L6).size ≤ 200000000 := by rw [bs_size]; omega
    go_upto_if 79 with fail
    go_cut [3] from 77 (fun v wx => v = .string (bs (L6 ++ P7)) ∧ wx = wc)
    case first =>
      clear HR
      cases SH
      · go_wp2_with fail
        go_meet
        case rel => exact ⟨by rw [← HP7.out, spIf, if_neg (by simp), List.append_nil], rfl⟩
      · go_wp2_with fail
        go_meet
        case rel => exact ⟨by rw [← bs_add, ← HP7.out]; rfl, rfl⟩
    case rest =>
    obtain ⟨rfl, rfl⟩ := hcut
    have y7 : (L6 ++ P7).length ≤ 31000100 := by simp only [List.length_append]; omega
    obtain ⟨L7, hE7⟩ : ∃ L, L6 ++ P7 = L := ⟨_, rfl⟩
    rw [hE7] at HR y7 ⊢
    clear hE7 HP7 s7 y6 p7
    obtain ⟨P8, hP8⟩ : ∃ P, spIf BK [98, 97, 99, 107] = P := ⟨_, rfl⟩
    rw [hP8] at HR
    have p8 : P8.length ≤ 100 := by rw [← hP8]; have := sp_len BK [98, 97, 99, 107]; simp at this; omega
    have HP8 : Hid (spIf BK [98, 97, 99, 107] = P8) := hP8
    clear hP8
    have s8 : (bs L7).size ≤ 200000000 := by rw [bs_size]; omega
    go_upto_if 84 with fail
    go_cut [3] from 82 (fun v wx => v = .string (bs (L7 ++ P8)) ∧ wx = wc)
    case first =>
      clear HR
      cases BK
      · go_wp2_with fail
        go_meet
        case rel => exact ⟨by rw [← HP8.out, spIf, if_neg (by simp), List.append_nil], rfl⟩
      · go_wp2_with fail
        go_meet
        case rel => exact ⟨by rw [← bs_add, ← HP8.out]; rfl, rfl⟩
    case rest =>
    obtain ⟨rfl, rfl⟩ := hcut
    have y8 : (L7 ++ P8).length ≤ 34000100 := by simp only [List.length_append]; omega
    obtain ⟨L8, hE8⟩ : ∃ L, L7 ++ P8 = L := ⟨_, rfl⟩
    rw [hE8] at HR y8 ⊢
    clear hE8 HP8 s8 y7 p8
    go_wp2_with fail
    go_ret
    exact ⟨by rw [HR.out]; rfl, hb04⟩
end Go.Proofs.YtcbjnifoojjipaaGreatDoor
