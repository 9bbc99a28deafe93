/- Contracts and lemmas (nothing is claimed here). -/
import Derived.Test.YtcbjnifoojjipaaGreatDoorJ8
import Derived.Test.YtcbjnifoojjipaaGreatDoorJ2
import Derived.Test.YtcbjnifoojjipaaGreatDoorSAwk
import Derived.Test.YtcbjnifoojjipaaGreatDoorJ26
import Derived.Test.YtcbjnifoojjipaaGreatDoorJ25
import Derived.Test.YtcbjnifoojjipaaGreatDoorJ28
import Derived.Deep.RegionHeld
import Derived.Test.YtcbjnifoojjipaaGreatDoorSLin
import Derived.BigRegion
namespace Go.Proofs.YtcbjnifoojjipaaGreatDoor
open Go.ChangeShapes Go.WideShapes Go.ChangeAt Go.RowKit Go.Deep Go.Vf

theorem fo57 : Tryz.prog.cellsOf 48 = 14 := by kernel_rfl
theorem fo9 : Tryz.prog.cellsOf 9 = 1 := by kernel_rfl
theorem fo25 : Tryz.prog.cellsOf 41 = 1 := by kernel_rfl
theorem fo4 : Tryz.prog.cellsOf 4 = 1 := by kernel_rfl
theorem fo53 : Tryz.prog.cellsOf 42 = 1 := by kernel_rfl
theorem fo27 : Tryz.prog.cellsOf 44 = 2 := by kernel_rfl
theorem fo3 : Tryz.prog.cellsOf 3 = 1 := by kernel_rfl
theorem fo55 : Tryz.prog.cellsOf 46 = 3 := by kernel_rfl
theorem fo22 : Tryz.prog.cellsOf 23 = 1 := by kernel_rfl
theorem by57 : Tryz.prog.bytesOf 48 = 120 := by kernel_rfl
theorem list_ten {α : Type} {l : List α} (h : l.length = 10) : ∃ a b c d e f g h i j, l = [a, b, c, d, e, f, g, h, i, j] := by
  match l, h with
  | [a, b, c, d, e, f, g, h, i, j], _ => exact ⟨a, b, c, d, e, f, g, h, i, j, rfl⟩
theorem list_14 {α : Type} {l : List α} (h : l.length = 14) : ∃ a b c d e f g h i j k m n o, l = [a, b, c, d, e, f, g, h, i, j, k, m, n, o] := by
  match l, h with
  | [a, b, c, d, e, f, g, h, i, j, k, m, n, o], _ => exact ⟨a, b, c, d, e, f, g, h, i, j, k, m, n, o, rfl⟩
theorem list_three {α : Type} {l : List α} (h : l.length = 3) : ∃ a b c, l = [a, b, c] := by
  match l, h with
  | [a, b, c], _ => exact ⟨a, b, c, rfl⟩
section
variable {H : Type} {enc : TypeId × Value → H} {W : World} {n : Nat}
theorem num_trod {c d : Value} {x : DataW H × List MemPlace} (h : DataW.trod enc Tryz.prog W 0 (fun _ => true) true n 44 [c, d] = some x) (hw : ∀ q ∈ x.1.weights Tryz.prog 44, q ≤ reachBytes) : ∃ z s, c = .bool z ∧ d = .string s ∧ s.size ≤ 281474976710656 := by
  obtain ⟨ys, n2, _, hye, _, hyl, hy⟩ := DataW.trod_struct Tryz.underlying44 h
  obtain ⟨y0, y1, rfl⟩ := list_two hyl
  have k0 : DataW.trod enc Tryz.prog W 0 (fun _ => true) true n2 4 (([c, d].drop 0).take (Tryz.prog.cellsOf 4)) = some y0 := hy 0 _ rfl
  have k1 : DataW.trod enc Tryz.prog W 0 (fun _ => true) true n2 9 (([c, d].drop 1).take (Tryz.prog.cellsOf 9)) = some y1 := hy 1 _ rfl
  rw [fo4] at k0
  rw [fo9] at k1
  obtain ⟨z2, e2, _⟩ := DataW.trod_bool Tryz.underlying4 (show DataW.trod enc Tryz.prog W 0 (fun _ => true) true n2 4 [c] = some y0 from k0)
  obtain ⟨s3, e3, d3, _⟩ := DataW.trod_string Tryz.underlying9 (show DataW.trod enc Tryz.prog W 0 (fun _ => true) true n2 9 [d] = some y1 from k1)
  simp only [List.cons.injEq, and_true] at e2 e3
  refine ⟨z2, s3, e2, e3, ?_⟩
  have := hw s3.data.toList.length (by
    rw [show x.1 = .agg ([y0, y1].map (·.1)) from congrArg Prod.fst hye]
    simp only [DataW.weights, Tryz.underlying44]
    refine DataW.weights_mem_each (j := 1) (t := 9) rfl rfl _ ?_
    rw [d3]; simp [DataW.weights])
  rw [reach_eq] at this
  rw [Lib.size_eq]; omega
theorem col_trod {c d e : Value} {x : DataW H × List MemPlace} (h : DataW.trod enc Tryz.prog W 0 (fun _ => true) true n 46 [c, d, e] = some x) : ∃ z s b, c = .int .i64 z ∧ d = .bool s ∧ e = .bool b ∧ (Lit.int .i64 z).wf = true := by
  obtain ⟨ys, n2, _, hye, _, hyl, hy⟩ := DataW.trod_struct Tryz.underlying46 h
  obtain ⟨y0, y1, y2, rfl⟩ := list_three hyl
  have k0 : DataW.trod enc Tryz.prog W 0 (fun _ => true) true n2 3 (([c, d, e].drop 0).take (Tryz.prog.cellsOf 3)) = some y0 := hy 0 _ rfl
  have k1 : DataW.trod enc Tryz.prog W 0 (fun _ => true) true n2 4 (([c, d, e].drop 1).take (Tryz.prog.cellsOf 4)) = some y1 := hy 1 _ rfl
  have k2 : DataW.trod enc Tryz.prog W 0 (fun _ => true) true n2 4 (([c, d, e].drop 2).take (Tryz.prog.cellsOf 4)) = some y2 := hy 2 _ rfl
  rw [fo3] at k0
  rw [fo4] at k1 k2
  obtain ⟨z0, e0, _, w0⟩ := DataW.trod_int Tryz.underlying3 (show DataW.trod enc Tryz.prog W 0 (fun _ => true) true n2 3 [c] = some y0 from k0)
  obtain ⟨z1, e1, _⟩ := DataW.trod_bool Tryz.underlying4 (show DataW.trod enc Tryz.prog W 0 (fun _ => true) true n2 4 [d] = some y1 from k1)
  obtain ⟨z2, e2, _⟩ := DataW.trod_bool Tryz.underlying4 (show DataW.trod enc Tryz.prog W 0 (fun _ => true) true n2 4 [e] = some y2 from k2)
  simp only [List.cons.injEq, and_true] at e0 e1 e2
  exact ⟨z0, z1, z2, e0, e1, e2, w0⟩
end

set_option maxHeartbeats 2000000 in
set_option maxRecDepth 20000 in
theorem field_trod {H : Type} {enc : TypeId × Value → H} {W : World} : ∀ (N fuel : Nat), fuel ≤ N → ∀ (cs : List Value) (x : DataW H × List MemPlace), DataW.trod enc Tryz.prog W 0 (fun _ => true) true fuel 48 cs = some x → (∀ n ∈ x.1.weights Tryz.prog 48, n ≤ reachBytes) →
    ∃ (o : Go.Vf.Own) (l : List Fld) (a : Option Addr) (c : Nat), cs = (cellsF o a l.length c).toList ∧ l.length ≤ c ∧ FIn W 0 W.heap.size l a ∧ FitsF 281474976710656 (.mk o l) := by
  intro N
  induction N with
  | zero =>
    intro fuel hN cs x h _
    obtain rfl : fuel = 0 := by omega
    simp [DataW.trod] at h
  | succ N ih =>
    intro fuel hN cs x h hw
    obtain ⟨xs, n', hfu, hxe, hcl, hxl, hf⟩ := DataW.trod_struct Tryz.underlying48 h
    have hD : x.1 = .agg (xs.map (·.1)) := congrArg Prod.fst hxe
    rw [fo57] at hcl
    obtain ⟨c0, c1, c2, c3, c4, c5, c6, c7, c8, c9, c10, c11, c12, c13, rfl⟩ := list_14 hcl
    obtain ⟨x0, x1, x2, x3, x4, x5, x6, x7, x8, x9, rfl⟩ := list_ten hxl
    have g0 : DataW.trod enc Tryz.prog W 0 (fun _ => true) true n' 9 (([c0, c1, c2, c3, c4, c5, c6, c7, c8, c9, c10, c11, c12, c13].drop 0).take (Tryz.prog.cellsOf 9)) = some x0 := hf 0 _ rfl
    have g1 : DataW.trod enc Tryz.prog W 0 (fun _ => true) true n' 41 (([c0, c1, c2, c3, c4, c5, c6, c7, c8, c9, c10, c11, c12, c13].drop 1).take (Tryz.prog.cellsOf 41)) = some x1 := hf 1 _ rfl
    have g2 : DataW.trod enc Tryz.prog W 0 (fun _ => true) true n' 4 (([c0, c1, c2, c3, c4, c5, c6, c7, c8, c9, c10, c11, c12, c13].drop 2).take (Tryz.prog.cellsOf 4)) = some x2 := hf 2 _ rfl
    have g3 : DataW.trod enc Tryz.prog W 0 (fun _ => true) true n' 42 (([c0, c1, c2, c3, c4, c5, c6, c7, c8, c9, c10, c11, c12, c13].drop 3).take (Tryz.prog.cellsOf 42)) = some x3 := hf 3 _ rfl
    have g4 : DataW.trod enc Tryz.prog W 0 (fun _ => true) true n' 4 (([c0, c1, c2, c3, c4, c5, c6, c7, c8, c9, c10, c11, c12, c13].drop 4).take (Tryz.prog.cellsOf 4)) = some x4 := hf 4 _ rfl
    have g5 : DataW.trod enc Tryz.prog W 0 (fun _ => true) true n' 44 (([c0, c1, c2, c3, c4, c5, c6, c7, c8, c9, c10, c11, c12, c13].drop 5).take (Tryz.prog.cellsOf 44)) = some x5 := hf 5 _ rfl
    have g6 : DataW.trod enc Tryz.prog W 0 (fun _ => true) true n' 44 (([c0, c1, c2, c3, c4, c5, c6, c7, c8, c9, c10, c11, c12, c13].drop 7).take (Tryz.prog.cellsOf 44)) = some x6 := hf 6 _ rfl
    have g7 : DataW.trod enc Tryz.prog W 0 (fun _ => true) true n' 3 (([c0, c1, c2, c3, c4, c5, c6, c7, c8, c9, c10, c11, c12, c13].drop 9).take (Tryz.prog.cellsOf 3)) = some x7 := hf 7 _ rfl
    have g8 : DataW.trod enc Tryz.prog W 0 (fun _ => true) true n' 46 (([c0, c1, c2, c3, c4, c5, c6, c7, c8, c9, c10, c11, c12, c13].drop 10).take (Tryz.prog.cellsOf 46)) = some x8 := hf 8 _ rfl
    have g9 : DataW.trod enc Tryz.prog W 0 (fun _ => true) true n' 23 (([c0, c1, c2, c3, c4, c5, c6, c7, c8, c9, c10, c11, c12, c13].drop 13).take (Tryz.prog.cellsOf 23)) = some x9 := hf 9 _ rfl
    rw [fo9] at g0
    rw [fo25] at g1
    rw [fo4] at g2
    rw [fo53] at g3
    rw [fo4] at g4
    rw [fo27] at g5
    rw [fo27] at g6
    rw [fo3] at g7
    rw [fo55] at g8
    rw [fo22] at g9
    have hwi : ∀ (j : Nat) (t : TypeId) (y : DataW H), ([9, 41, 4, 42, 4, 44, 44, 3, 46, 23] : List TypeId)[j]? = some t → ([x0.1, x1.1, x2.1, x3.1, x4.1, x5.1, x6.1, x7.1, x8.1, x9.1] : List (DataW H))[j]? = some y → ∀ q ∈ y.weights Tryz.prog t, q ≤ reachBytes := fun j t y hj hy q hq => hw q (by
      rw [hD]
      simp only [DataW.weights, Tryz.underlying48]
      exact DataW.weights_mem_each (j := j) (t := t) hj hy q hq)
    obtain ⟨s0, e0, d0, _⟩ := DataW.trod_string Tryz.underlying9 (show DataW.trod enc Tryz.prog W 0 (fun _ => true) true n' 9 [c0] = some x0 from g0)
    obtain ⟨z1, e1, _, w1⟩ := DataW.trod_int Tryz.underlying41 (show DataW.trod enc Tryz.prog W 0 (fun _ => true) true n' 41 [c1] = some x1 from g1)
    obtain ⟨z2, e2, _⟩ := DataW.trod_bool Tryz.underlying4 (show DataW.trod enc Tryz.prog W 0 (fun _ => true) true n' 4 [c2] = some x2 from g2)
    obtain ⟨z3, e3, _, w3⟩ := DataW.trod_int Tryz.underlying42 (show DataW.trod enc Tryz.prog W 0 (fun _ => true) true n' 42 [c3] = some x3 from g3)
    obtain ⟨z4, e4, _⟩ := DataW.trod_bool Tryz.underlying4 (show DataW.trod enc Tryz.prog W 0 (fun _ => true) true n' 4 [c4] = some x4 from g4)
    obtain ⟨z5, s6, e5, e6, hs6⟩ := num_trod (show DataW.trod enc Tryz.prog W 0 (fun _ => true) true n' 44 [c5, c6] = some x5 from g5) (hwi 5 44 x5.1 rfl rfl)
    obtain ⟨z7, s8, e7, e8, hs8⟩ := num_trod (show DataW.trod enc Tryz.prog W 0 (fun _ => true) true n' 44 [c7, c8] = some x6 from g6) (hwi 6 44 x6.1 rfl rfl)
    obtain ⟨z9, e9, _, w9⟩ := DataW.trod_int Tryz.underlying3 (show DataW.trod enc Tryz.prog W 0 (fun _ => true) true n' 3 [c9] = some x7 from g7)
    obtain ⟨z10, z11, z12, e10, e11, e12, w10⟩ := col_trod (show DataW.trod enc Tryz.prog W 0 (fun _ => true) true n' 46 [c10, c11, c12] = some x8 from g8)
    simp only [List.cons.injEq, and_true] at e0 e1 e2 e3 e4 e9
    have hs0 : s0.size ≤ 281474976710656 := by
      have := hwi 0 9 x0.1 rfl rfl s0.data.toList.length (by rw [d0]; simp [DataW.weights])
      rw [reach_eq] at this
      rw [Lib.size_eq]; omega
    have b1 := bounds_u8 w1
    have b3 := bounds_u8 w3
    have b9 := bounds_i64 w9
    have b10 := bounds_i64 w10
    subst e0 e1 e2 e3 e4 e5 e6 e7 e8 e9 e10 e11 e12
    have hown : OwnFits 281474976710656 ⟨s0, z1, z2, z3, z4, z5, s6, z7, s8, z9, z10, z11, z12⟩ := ⟨by show 0 ≤ z1; omega, by show z1 < 256; omega, by show 0 ≤ z3; omega, by show z3 < 256; omega, hs0, hs6, hs8, b9.1, by show z9 < _; omega, b10.1, by show z10 < _; omega⟩
    have g9' : DataW.trod enc Tryz.prog W 0 (fun _ => true) true n' 23 [c13] = some x9 := g9
    rcases DataW.trod_slice Tryz.underlying23 g9' with ⟨hcs, _⟩ | ⟨a, len, cap, elems, rest, n, hfn, hcs, hd, _, hl, hm, hlen, hel, hsp, hns⟩
    · simp only [List.cons.injEq, and_true] at hcs
      subst hcs
      exact ⟨⟨s0, z1, z2, z3, z4, z5, s6, z7, s8, z9, z10, z11, z12⟩, [], none, 0, rfl, Nat.le_refl _, .nil, .mk hown (by simp [Fld.fields]) (fun x hx => by cases hx)⟩
    · simp only [List.cons.injEq, and_true] at hcs
      subst hcs
      have hd1 : x9.1 = .slice (elems.map (·.1)) (rest.map (·.1)) := congrArg Prod.fst hd
      have hwl : len ≤ 281474976710656 := by
        have := hwi 9 23 x9.1 rfl rfl (((elems.map (·.1)).length + (rest.map (·.1)).length) * Tryz.prog.bytesOf 48) (by
          rw [hd1]; simp [DataW.weights, Tryz.underlying23])
        rw [by57, reach_eq] at this
        simp at this
        omega
      have hwd : ∀ i (hi : i < elems.length), ∀ q ∈ (elems[i].1).weights Tryz.prog 48, q ≤ reachBytes := fun i hi q hq => hwi 9 23 x9.1 rfl rfl q (by
        rw [hd1]
        simp only [DataW.weights, Tryz.underlying23, List.mem_cons, List.mem_append]
        exact .inr (.inl (weightsAll_mem (List.mem_map.2 ⟨elems[i], List.getElem_mem hi, rfl⟩) q hq)))
      have hx : ∀ i, i < len → ∃ cs', W.cells? 0 (a.add (i * 14)) 14 = some cs' ∧ ∃ hi : i < elems.length, DataW.trod enc Tryz.prog W 0 (fun _ => true) true n 48 cs' = some elems[i] := by
        intro i hi
        have hie : i < elems.length := by omega
        have h1 := hel i hi
        rw [fo57, List.getElem?_eq_getElem hie] at h1
        obtain ⟨cs', q1, q2⟩ := Option.bind_eq_some_iff.1 h1
        exact ⟨cs', q1, hie, q2⟩
      rcases Nat.eq_zero_or_pos len with h0 | h0
      · subst h0
        exact ⟨⟨s0, z1, z2, z3, z4, z5, s6, z7, s8, z9, z10, z11, z12⟩, [], some a, cap, rfl, Nat.zero_le _, .nil, .mk hown (by simp [Fld.fields]) (fun x hx => by cases hx)⟩
      obtain ⟨b, off, spot⟩ := a
      have hspot : spot = none := by
        obtain ⟨cs', h1, _⟩ := hx 0 (by omega)
        obtain ⟨_, hlen', hcell⟩ := World.cells?_some h1
        have hc := hcell 0 (by omega)
        obtain ⟨c0, c1, c2, c3, c4, c5, c6, c7, c8, c9, c10, c11, c12, c13, rfl⟩ := list_14 hlen'
        have := World.cell?_spot hc
        simpa [Addr.add] using this
      subst hspot
      have each : ∀ i, i < len → ∃ y : Fld × Option Addr × Nat, RowF W b (off + i * 14) y.1.own y.2.1 y.1.fields.length y.2.2 ∧ y.1.fields.length ≤ y.2.2 ∧ FIn W 0 W.heap.size y.1.fields y.2.1 ∧ FitsF 281474976710656 y.1 := by
        intro i hi
        obtain ⟨cs', h1, hie, h2⟩ := hx i (by omega)
        rw [Go.WideShapes.add_plain] at h1
        obtain ⟨_, hlen', hcell⟩ := World.cells?_some h1
        obtain ⟨o', l', a', c', e, hp1, hp, hfp⟩ := ih n (by omega) cs' elems[i] h2 (hwd i hie)
        subst e
        have k : ∀ j (hj : j < 14), W.cell? ⟨b, off + i * 14 + j, none⟩ = (cellsF o' a' l'.length c').toList[j]? := fun j hj => by
          have q := hcell j (by simpa [cellsF] using hj)
          rw [Go.WideShapes.add_plain] at q
          rw [q]
        exact ⟨(.mk o' l', a', c'), ⟨k 0 (by omega), k 1 (by omega), k 2 (by omega), k 3 (by omega), k 4 (by omega), k 5 (by omega), k 6 (by omega), k 7 (by omega), k 8 (by omega), k 9 (by omega), k 10 (by omega), k 11 (by omega), k 12 (by omega), k 13 (by omega)⟩, hp1, hp, hfp⟩
      obtain ⟨L, hLl, hLz⟩ := choose_list len each
      refine ⟨⟨s0, z1, z2, z3, z4, z5, s6, z7, s8, z9, z10, z11, z12⟩, L.map (·.1), some ⟨b, off, none⟩, cap, ?_, by simp [hLl]; exact hl, ?_, .mk hown (by simp [Fld.fields, hLl]; omega) (fun x hx => ?_)⟩
      · simp [cellsF, hLl]
      · have hq := (hLz 0 (by omega)).1.c0
        have hblk := World.block_lt_of_cell? W _ hq
        refine .cons (fun j => ((L[j]?).map (·.2.1)).getD none) (fun j => ((L[j]?).map (·.2.2)).getD 0) (by omega) hblk (fun j hj => ?_) (fun j hj => ?_) (fun j hj => ?_)
        · have hj' : j < L.length := by simpa using hj
          have := (hLz j hj').1
          simpa [hj'] using this
        · have hj' : j < L.length := by simpa using hj
          have := (hLz j hj').2.1
          simpa [hj'] using this
        · have hj' : j < L.length := by simpa using hj
          have := (hLz j hj').2.2.1
          simpa [hj'] using this
      · simp only [Fld.fields, List.mem_map] at hx
        obtain ⟨y, hy, rfl⟩ := hx
        obtain ⟨i, hi, rfl⟩ := List.mem_iff_getElem.1 hy
        exact (hLz i hi).2.2.2

set_option maxRecDepth 20000 in
theorem field_open {H : Type} {enc : TypeId × Value → H} {base : Nat} {W : World} (v : Value) (d : DataW H) (pl : List MemPlace) (hok : Value.okWide Tryz.prog W .any base 48 v)
    (h : DataW.Trod enc Tryz.prog W 0 (fun _ => true) true 48 v d pl) (hw : ∀ n ∈ d.weights Tryz.prog 48, n ≤ reachBytes) : ∃ (o : Go.Vf.Own) (l : List Fld) (a : Option Addr) (c : Nat), v = fV o a l.length c ∧ l.length ≤ c ∧ FIn W 0 W.heap.size l a ∧ FitsF 281474976710656 (.mk o l) := by
  obtain ⟨cs, rfl, _⟩ := okWide_struct Tryz.underlying48 hok
  obtain ⟨fuel, hf⟩ := h
  obtain ⟨o, l, a, c, e, h1, h2, h3⟩ := field_trod fuel fuel (Nat.le_refl _) _ _ hf hw
  refine ⟨o, l, a, c, ?_, h1, h2, h3⟩
  simp only [Value.cells] at e
  unfold fV
  obtain ⟨q⟩ := cs
  simp only [cellsF] at e
  rw [e]
end Go.Proofs.YtcbjnifoojjipaaGreatDoor

namespace Go.Proofs.YtcbjnifoojjipaaGreatDoor
open Go.ChangeShapes Go.WideShapes Go.ChangeAt Go.RowKit Go.Deep Go.Vf

theorem so24 : Tryz.prog.cellsOf 25 = 2 := by kernel_rfl
set_option maxHeartbeats 2000000 in
set_option maxRecDepth 20000 in
theorem schema_trod {H : Type} {enc : TypeId × Value → H} {W : World} (fuel : Nat) (cs : List Value) (x : DataW H × List MemPlace) (h : DataW.trod enc Tryz.prog W 0 (fun _ => true) true fuel 25 cs = some x) (hw : ∀ n ∈ x.1.weights Tryz.prog 25, n ≤ reachBytes) :
    ∃ (z : Int) (l : List Fld) (a : Option Addr) (c : Nat), cs = [.int .i64 z, .slice a l.length c] ∧ l.length ≤ c ∧ FIn W 0 W.heap.size l a ∧ (∀ x ∈ l, FitsF 281474976710656 x) ∧ l.length ≤ 281474976710656 := by
  obtain ⟨xs, n', hfu, hxe, hcl, hxl, hf⟩ := DataW.trod_struct Tryz.underlying25 h
  have hD : x.1 = .agg (xs.map (·.1)) := congrArg Prod.fst hxe
  rw [so24] at hcl
  obtain ⟨c0, c1, rfl⟩ := list_two hcl
  obtain ⟨x0, x1, rfl⟩ := list_two hxl
  have g0 : DataW.trod enc Tryz.prog W 0 (fun _ => true) true n' 3 (([c0, c1].drop 0).take (Tryz.prog.cellsOf 3)) = some x0 := hf 0 _ rfl
  have g1 : DataW.trod enc Tryz.prog W 0 (fun _ => true) true n' 23 (([c0, c1].drop 1).take (Tryz.prog.cellsOf 23)) = some x1 := hf 1 _ rfl
  rw [fo3] at g0
  rw [fo22] at g1
  have hwi : ∀ (j : Nat) (t : TypeId) (y : DataW H), ([3, 23] : List TypeId)[j]? = some t → ([x0.1, x1.1] : List (DataW H))[j]? = some y → ∀ q ∈ y.weights Tryz.prog t, q ≤ reachBytes := fun j t y hj hy q hq => hw q (by
    rw [hD]
    simp only [DataW.weights, Tryz.underlying25]
    exact DataW.weights_mem_each (j := j) (t := t) hj hy q hq)
  obtain ⟨z0, e0, _, _⟩ := DataW.trod_int Tryz.underlying3 (show DataW.trod enc Tryz.prog W 0 (fun _ => true) true n' 3 [c0] = some x0 from g0)
  simp only [List.cons.injEq, and_true] at e0
  subst e0
  have g1 : DataW.trod enc Tryz.prog W 0 (fun _ => true) true n' 23 [c1] = some x1 := g1
  rcases DataW.trod_slice Tryz.underlying23 g1 with ⟨hcs, _⟩ | ⟨a, len, cap, elems, rest, n, hfn, hcs, hd, _, hl, hm, hlen, hel, hsp, hns⟩
  · simp only [List.cons.injEq, and_true] at hcs
    subst hcs
    exact ⟨z0, [], none, 0, rfl, Nat.le_refl _, .nil, (fun x hx => by cases hx), by simp⟩
  · simp only [List.cons.injEq, and_true] at hcs
    subst hcs
    have hd1 : x1.1 = .slice (elems.map (·.1)) (rest.map (·.1)) := congrArg Prod.fst hd
    have hwl : len ≤ 281474976710656 := by
      have := hwi 1 23 x1.1 rfl rfl (((elems.map (·.1)).length + (rest.map (·.1)).length) * Tryz.prog.bytesOf 48) (by
        rw [hd1]; simp [DataW.weights, Tryz.underlying23])
      rw [by57, reach_eq] at this
      simp at this
      omega
    have hwd : ∀ i (hi : i < elems.length), ∀ q ∈ (elems[i].1).weights Tryz.prog 48, q ≤ reachBytes := fun i hi q hq => hwi 1 23 x1.1 rfl rfl q (by
      rw [hd1]
      simp only [DataW.weights, Tryz.underlying23, List.mem_cons, List.mem_append]
      exact .inr (.inl (weightsAll_mem (List.mem_map.2 ⟨elems[i], List.getElem_mem hi, rfl⟩) q hq)))
    have hx : ∀ i, i < len → ∃ cs', W.cells? 0 (a.add (i * 14)) 14 = some cs' ∧ ∃ hi : i < elems.length, DataW.trod enc Tryz.prog W 0 (fun _ => true) true n 48 cs' = some elems[i] := by
      intro i hi
      have hie : i < elems.length := by omega
      have h1 := hel i hi
      rw [fo57, List.getElem?_eq_getElem hie] at h1
      obtain ⟨cs', q1, q2⟩ := Option.bind_eq_some_iff.1 h1
      exact ⟨cs', q1, hie, q2⟩
    rcases Nat.eq_zero_or_pos len with h0 | h0
    · subst h0
      exact ⟨z0, [], some a, cap, rfl, Nat.zero_le _, .nil, (fun x hx => by cases hx), by simp⟩
    obtain ⟨b, off, spot⟩ := a
    have hspot : spot = none := by
      obtain ⟨cs', h1, _⟩ := hx 0 (by omega)
      obtain ⟨_, hlen', hcell⟩ := World.cells?_some h1
      have hc := hcell 0 (by omega)
      obtain ⟨c0, c1, c2, c3, c4, c5, c6, c7, c8, c9, c10, c11, c12, c13, rfl⟩ := list_14 hlen'
      have := World.cell?_spot hc
      simpa [Addr.add] using this
    subst hspot
    have each : ∀ i, i < len → ∃ y : Fld × Option Addr × Nat, RowF W b (off + i * 14) y.1.own y.2.1 y.1.fields.length y.2.2 ∧ y.1.fields.length ≤ y.2.2 ∧ FIn W 0 W.heap.size y.1.fields y.2.1 ∧ FitsF 281474976710656 y.1 := by
      intro i hi
      obtain ⟨cs', h1, hie, h2⟩ := hx i (by omega)
      rw [Go.WideShapes.add_plain] at h1
      obtain ⟨_, hlen', hcell⟩ := World.cells?_some h1
      obtain ⟨o', l', a', c', e, hp1, hp, hfp⟩ := field_trod n n (Nat.le_refl _) cs' elems[i] h2 (hwd i hie)
      subst e
      have k : ∀ j (hj : j < 14), W.cell? ⟨b, off + i * 14 + j, none⟩ = (cellsF o' a' l'.length c').toList[j]? := fun j hj => by
        have q := hcell j (by simpa [cellsF] using hj)
        rw [Go.WideShapes.add_plain] at q
        rw [q]
      exact ⟨(.mk o' l', a', c'), ⟨k 0 (by omega), k 1 (by omega), k 2 (by omega), k 3 (by omega), k 4 (by omega), k 5 (by omega), k 6 (by omega), k 7 (by omega), k 8 (by omega), k 9 (by omega), k 10 (by omega), k 11 (by omega), k 12 (by omega), k 13 (by omega)⟩, hp1, hp, hfp⟩
    obtain ⟨L, hLl, hLz⟩ := choose_list len each
    refine ⟨z0, L.map (·.1), some ⟨b, off, none⟩, cap, ?_, by simp [hLl]; exact hl, ?_, (fun x hx => ?_), by simp [hLl]; omega⟩
    · simp [hLl]
    · have hq := (hLz 0 (by omega)).1.c0
      have hblk := World.block_lt_of_cell? W _ hq
      refine .cons (fun j => ((L[j]?).map (·.2.1)).getD none) (fun j => ((L[j]?).map (·.2.2)).getD 0) (by omega) hblk (fun j hj => ?_) (fun j hj => ?_) (fun j hj => ?_)
      · have hj' : j < L.length := by simpa using hj
        have := (hLz j hj').1
        simpa [hj'] using this
      · have hj' : j < L.length := by simpa using hj
        have := (hLz j hj').2.1
        simpa [hj'] using this
      · have hj' : j < L.length := by simpa using hj
        have := (hLz j hj').2.2.1
        simpa [hj'] using this
    · simp only [List.mem_map] at hx
      obtain ⟨y, hy, rfl⟩ := hx
      obtain ⟨i, hi, rfl⟩ := List.mem_iff_getElem.1 hy
      exact (hLz i hi).2.2.2


set_option maxRecDepth 20000 in
theorem schema_open {H : Type} {enc : TypeId × Value → H} {base : Nat} {W : World} (v : Value) (d : DataW H) (pl : List MemPlace) (hok : Value.okWide Tryz.prog W .any base 25 v)
    (h : DataW.Trod enc Tryz.prog W 0 (fun _ => true) true 25 v d pl) (hw : ∀ n ∈ d.weights Tryz.prog 25, n ≤ reachBytes) : ∃ (z : Int) (l : List Fld) (a : Option Addr) (c : Nat), v = .agg #[.int .i64 z, .slice a l.length c] ∧ l.length ≤ c ∧ FIn W 0 W.heap.size l a ∧ (∀ x ∈ l, FitsF 281474976710656 x) ∧ l.length ≤ 281474976710656 := by
  obtain ⟨cs, rfl, _⟩ := okWide_struct Tryz.underlying25 hok
  obtain ⟨fuel, hf⟩ := h
  obtain ⟨z, l, a, c, e, h1⟩ := schema_trod fuel _ _ hf hw
  refine ⟨z, l, a, c, ?_, h1⟩
  simp only [Value.cells] at e
  obtain ⟨q⟩ := cs
  simp only at e
  rw [e]
end Go.Proofs.YtcbjnifoojjipaaGreatDoor

namespace Go.Proofs.YtcbjnifoojjipaaGreatDoor
open Go.RowKit Go.Vf

set_option maxHeartbeats 8000000 in
set_option maxRecDepth 20000 in
theorem schemaChecks_any (limit : Int) (l : List Fld) (aa : Option Addr) (ca n₀ : Nat) (w : World) (hE : Env w) (hT : ErrT w) (hl : l.length ≤ 281474976710656) (hf : ∀ x ∈ l, FitsF 281474976710656 x) (hn₀ : n₀ ≤ w.heap.size) (hin : FIn w 0 n₀ l aa) (_hca : l.length ≤ ca) :
    Calls Tryz.prog 4 #[.agg #[.int .i64 limit, .slice aa l.length ca]] w fun e w' => e = .returned (.bool true) ∧ Below w.heap.size w w' := by
  have hb1 := (Below.refl w.heap.size w).alloc (Nat.le_refl _) (.cells #[.int .i64 limit, .slice aa l.length ca] 25)
  have hS1 := Blk.new w 25 #[.int .i64 limit, .slice aa l.length ca]
  have hz0 : 0 < w.heap.size := by have := hE.sz; omega
  have hE1 := hE.old hb1
  have hT1 := hT.old hz0 hb1
  have hin1 := hin.keep hb1 hn₀
  clear hE hT hin
  go_enter Tryz.func4, Tryz.ntmps4
  go_upto_region 1 with fail
  have hs1 := hb1.size
  generalize w.alloc (.cells #[.int .i64 limit, .slice aa l.length ca] 25) = w1 at *
  have ha := awake_any w1 hE1
  go_wp2_with fail
  refine ha.mono ?_
  clear ha
  rintro _ w2 ⟨rfl, hb2⟩
  have hb02 := hb1.trans (hb2.mono hs1)
  have hS2 := hS1.old hb2
  have hT2 := hT1.old (by omega) hb2
  have hin2 := hin1.keep hb2 (by omega)
  have hs2 := hb2.size
  have hv := vast_any l aa ca 0 n₀ w2 hl hf (by omega) hin2
  have s1 : w2.cell? ⟨w.heap.size, 1, none⟩ = some (.slice aa l.length ca) := hS2.cell 1
  clear hE1 hT1 hin1 hS1
  go_wp2_with fail
  refine hv.mono ?_
  clear hv s1
  rintro _ w3 ⟨rfl, q, rfl⟩
  have hb3 : Below w2.heap.size w2 (w2.drewN q) := ⟨rfl, rfl, rfl, Nat.le_refl _, fun _ _ => rfl⟩
  have hb03 := hb02.trans (hb3.mono hb02.size)
  have hS3 := hS2.old hb3
  have hT3 := hT2.old (by omega) hb3
  have hin3 := hin2.keep hb3 (by omega)
  have hs3 := hb3.size
  generalize w2.drewN q = w3 at *
  by_cases hvast : 67108864 < wg 0 l
  · have t1 : decide (67108864 < wg 0 l) = true := decide_eq_true hvast
    clear hin2 hin3 hf
    go_wp2_with fail
    go_ret
    exact ⟨rfl, hb03⟩
  · have t1 : decide (67108864 < wg 0 l) = false := decide_eq_false hvast
    obtain ⟨hll, hf26, hf34⟩ := wg_fits hf hvast
    have hck17 := chkS_len bndQ limit l
    have s0 : w3.cell? ⟨w.heap.size, 0, none⟩ = some (.int .i64 limit) := hS3.cell 0
    have s1 : w3.cell? ⟨w.heap.size, 1, none⟩ = some (.slice aa l.length ca) := hS3.cell 1
    have hSl3 := hS3.lt
    have HIN3 : Hid (FIn w3 0 n₀ l aa) := hin3
    have HS3 : Hid (Blk w3 w.heap.size 25 #[.int .i64 limit, .slice aa l.length ca]) := hS3
    have HL : Hid (LentOkF l) := lentF_list (by omega) hf26
    clear hin2 hin3 hS2 hS3 hT2 hf hvast
    go_upto_region 4 with fail
    go_cut [4] from 17 to 22 (fun v wx => ∃ X b, v = .pointer (some ⟨X, 0, none⟩) ∧ w3.heap.size ≤ X ∧ Blk wx X 25 #[.int .i64 limit, .slice (some ⟨b, 0, none⟩) l.length (l.length + 2)] ∧ LIf wx w3.heap.size wx.heap.size l b ∧ Below w3.heap.size w3 wx)
    case first =>
      have HCL : Hid (∀ W, Below w3.heap.size w3 W → Calls Tryz.prog 11 #[.slice aa l.length ca] W fun e w' => ∃ b, e = .returned (.slice (some ⟨b, 0, none⟩) l.length (l.length + 2)) ∧ LIf w' W.heap.size w'.heap.size l b ∧ Below W.heap.size W w') := fun W hW => HL.out aa ca n₀ W (by have := hW.size; omega) (HIN3.out.keep hW (by omega))
      have HSx : Hid (∀ W, Below w3.heap.size w3 W → W.cell? ⟨w.heap.size, 0, none⟩ = some (.int .i64 limit) ∧ W.cell? ⟨w.heap.size, 1, none⟩ = some (.slice aa l.length ca)) := fun W hW => ⟨(HS3.out.old hW).cell 0, (HS3.out.old hW).cell 1⟩
      have HVb : Hid (Below w3.heap.size w3 w3.drew) := (Below.refl _ _).drew
      refine wp_region_held_drew (S := fun x => x.cell? ⟨w.heap.size, 0, none⟩ = some (.int .i64 limit) ∧ x.cell? ⟨w.heap.size, 1, none⟩ = some (.slice aa l.length ca)) (by kernel_rfl) (HSx.out _ HVb.out) (fun hHeld => ?_)
      have HVz : Hid (w3.drew.heap.size = w3.heap.size) := rfl
      generalize w3.drew = V at *
      refine wpAnyH_takeD (i := 0) (some 17) (v := .pointer (some ⟨w.heap.size, 0, none⟩)) rfl rfl (by kernel_rfl) (by kernel_rfl) (by kernel_rfl) (fun _ _ _ h => h) (Or.inl ⟨by kernel_rfl, ?hy1⟩) (by assumption) ?rest1
      case hy1 => (intro x hSx; obtain ⟨hS1, hS2⟩ := hSx; go_simp; first | done | with_reducible rfl)
      try simp only [Act.put, List.setIfInBounds_toArray, List.set_cons_zero, List.set_cons_succ]
      refine wpAnyH_takeD (i := 1) (some 18) (v := .int .i64 limit) rfl rfl (by kernel_rfl) (by kernel_rfl) (by kernel_rfl) (fun _ _ _ h => h) (Or.inl ⟨by kernel_rfl, ?hy2⟩) (by assumption) ?rest2
      case hy2 => (intro x hSx; obtain ⟨hS1, hS2⟩ := hSx; go_simp; first | done | with_reducible rfl)
      try simp only [Act.put, List.setIfInBounds_toArray, List.set_cons_zero, List.set_cons_succ]
      refine wpAnyH_takeD (i := 2) (some 19) (v := .pointer (some ⟨w.heap.size, 1, none⟩)) rfl rfl (by kernel_rfl) (by kernel_rfl) (by kernel_rfl) (fun _ _ _ h => h) (Or.inl ⟨by kernel_rfl, ?hy3⟩) (by assumption) ?rest3
      case hy3 => (intro x hSx; obtain ⟨hS1, hS2⟩ := hSx; go_simp; first | done | with_reducible rfl)
      try simp only [Act.put, List.setIfInBounds_toArray, List.set_cons_zero, List.set_cons_succ]
      refine wpAnyH_takeD (i := 3) (some 20) (v := .slice aa l.length ca) rfl rfl (by kernel_rfl) (by kernel_rfl) (by kernel_rfl) (fun _ _ _ h => h) (Or.inl ⟨by kernel_rfl, ?hy4⟩) (by assumption) ?rest4
      case hy4 => (intro x hSx; obtain ⟨hS1, hS2⟩ := hSx; go_simp; first | done | with_reducible rfl)
      try simp only [Act.put, List.setIfInBounds_toArray, List.set_cons_zero, List.set_cons_succ]
      refine wpAnyH_ready (rs := [4, 6]) (by kernel_rfl) (by simp) ?_
      refine AllReadyH.cons rfl (fun K2 hK2 => ?_) (AllReadyH.cons rfl (fun K2 hK2 => ?_) AllReadyH.nil)
      · go_simp
        go_wp2_with (go_at_call 11; refine (HCL.out _ HVb.out).mono ?_; rintro e w4 ⟨b, rfl, hLI, hb4⟩)
        have hb34 : Below w3.heap.size w3 w4 := HVb.out.trans (hb4.mono HVb.out.size)
        have hS4 := HSx.out _ hb34
        refine hK2.out _ _ hS4 (fun hH4 => ?_)
        clear hK2 K2
        try simp only [Act.put, List.setIfInBounds_toArray, List.set_cons_zero, List.set_cons_succ]
        refine wpAnyH_takeD (i := 5) (some 22) (v := .agg #[.int .i64 limit, .slice (some ⟨b, 0, none⟩) l.length (l.length + 2)]) rfl rfl (by kernel_rfl) (by kernel_rfl) (by kernel_rfl) (fun _ _ _ h => h) (Or.inl ⟨by kernel_rfl, ?hy5⟩) (by assumption) ?rest5
        case hy5 => (intro x hSx; obtain ⟨hS1, hS2⟩ := hSx; go_simp; first | done | with_reducible rfl)
        try simp only [Act.put, List.setIfInBounds_toArray, List.set_cons_zero, List.set_cons_succ]
        refine wpAnyH_ready (rs := [6]) (by kernel_rfl) (by simp) ?_
        refine AllReadyH.cons rfl (fun K2 hK2 => ?_) AllReadyH.nil
        have hb5 := (Below.refl w4.heap.size w4).alloc (Nat.le_refl _) (.cells #[.int .i64 0, .slice none 0 0] 25)
        have hX5 := Blk.new w4 25 #[.int .i64 0, .slice none 0 0]
        have hb35 := hb34.trans (hb5.mono hb34.size)
        have hS5 := HSx.out _ hb35
        go_simp
        refine hK2.out _ _ hS5 (fun hH5 => ?_)
        clear hK2 K2
        try simp only [Act.put, List.setIfInBounds_toArray, List.set_cons_zero, List.set_cons_succ]
        have HLI : Hid (LIf w4 w3.heap.size w4.heap.size l b) := by have := HVz.out; rw [this] at hLI; exact hLI
        have HB34 : Hid (Below w3.heap.size w3 w4) := hb34
        have HZ5 : Hid ((w4.alloc (.cells #[.int .i64 0, .slice none 0 0] 25)).heap.size = w4.heap.size + 1) := alloc_size _ _
        have HB5 : Hid (Below w4.heap.size w4 (w4.alloc (.cells #[.int .i64 0, .slice none 0 0] 25))) := hb5
        have x0 := hX5.cell 0
        have x1 := hX5.cell 1
        have y0 := hX5.frozen 0
        have y1 := hX5.frozen 1
        simp only [List.getElem?_toArray, List.getElem?_cons_zero, List.getElem?_cons_succ] at x0 x1
        have HX5 : Hid (Blk (w4.alloc (.cells #[.int .i64 0, .slice none 0 0] 25)) w4.heap.size 25 #[.int .i64 0, .slice none 0 0]) := hX5
        clear hLI hb4 hb34 hb5 hX5 hb35 hS4 hS5
        generalize w4.alloc (.cells #[.int .i64 0, .slice none 0 0] 25) = w5 at *
        obtain ⟨X, hX⟩ : ∃ X, w4.heap.size = X := ⟨_, rfl⟩
        have HXd : Hid (w4.heap.size = X) := hX
        rw [hX] at x0 x1 y0 y1 HX5 ⊢
        clear hX
        refine wpAnyH_ready (rs := [7]) (by kernel_rfl) (by simp) ?_
        refine AllReadyH.cons rfl (fun K2 hK2 => ?_) AllReadyH.nil
        have HSE : Hid (((w5.setCell ⟨X, 0, none⟩ (.int .i64 limit)).setCell ⟨X, 1, none⟩ (.slice (some ⟨b, 0, none⟩) l.length (l.length + 2))).cell? ⟨w.heap.size, 0, none⟩ = some (.int .i64 limit) ∧ ((w5.setCell ⟨X, 0, none⟩ (.int .i64 limit)).setCell ⟨X, 1, none⟩ (.slice (some ⟨b, 0, none⟩) l.length (l.length + 2))).cell? ⟨w.heap.size, 1, none⟩ = some (.slice aa l.length ca)) := by
          refine HSx.out _ ?_
          have h1 := HB34.out.trans (HB5.out.mono HB34.out.size)
          have h2 : w3.heap.size ≤ X := by rw [← HXd.out]; exact HB34.out.size
          exact (h1.setCell (p := ⟨X, 0, none⟩) h2 _).setCell (p := ⟨X, 1, none⟩) h2 _
        go_simp
        refine hK2.out _ _ HSE.out (fun _ => ?_)
        clear hK2 K2
        try simp only [Act.put, List.setIfInBounds_toArray, List.set_cons_zero, List.set_cons_succ]
        refine wpAnyH_done (by kernel_rfl) ?_ _
        go_wp2_with fail
        go_meet
        have h2 : w3.heap.size ≤ X := by rw [← HXd.out]; exact HB34.out.size
        have hO := (Oth.set X 0 w5 (.int .i64 limit)).trans (Oth.set X 1 _ (.slice (some ⟨b, 0, none⟩) l.length (l.length + 2)))
        have hxd := HXd.out
        refine ⟨X, b, rfl, h2, (HX5.out.set 0 _).set 1 _, ?_, ?_⟩
        · refine (HLI.out.keep fun k _ hk => (hO.block k (by have := HB5.out.size; omega) (by omega)).trans (HB5.out.block k hk)).mono ?_ (Nat.le_refl _)
          have := hO.size
          have := HB5.out.size
          omega
        · have h1 := HB34.out.trans (HB5.out.mono HB34.out.size)
          exact (h1.setCell (p := ⟨X, 0, none⟩) h2 _).setCell (p := ⟨X, 1, none⟩) h2 _
      · have hb5 := (Below.refl V.heap.size V).alloc (Nat.le_refl _) (.cells #[.int .i64 0, .slice none 0 0] 25)
        have hX5 := Blk.new V 25 #[.int .i64 0, .slice none 0 0]
        have hb35 := HVb.out.trans (hb5.mono HVb.out.size)
        have hS5 := HSx.out _ hb35
        go_simp
        refine hK2.out _ _ hS5 (fun hH5 => ?_)
        clear hK2 K2
        try simp only [Act.put, List.setIfInBounds_toArray, List.set_cons_zero, List.set_cons_succ]
        have HZ5 : Hid ((V.alloc (.cells #[.int .i64 0, .slice none 0 0] 25)).heap.size = V.heap.size + 1) := alloc_size _ _
        have HB35 : Hid (Below w3.heap.size w3 (V.alloc (.cells #[.int .i64 0, .slice none 0 0] 25))) := hb35
        have HX5 : Hid (Blk (V.alloc (.cells #[.int .i64 0, .slice none 0 0] 25)) V.heap.size 25 #[.int .i64 0, .slice none 0 0]) := hX5
        clear hb5 hX5 hb35 hS5
        generalize V.alloc (.cells #[.int .i64 0, .slice none 0 0] 25) = w5 at *
        obtain ⟨X, hX⟩ : ∃ X, V.heap.size = X := ⟨_, rfl⟩
        have HXd : Hid (V.heap.size = X) := hX
        rw [hX] at HX5 HZ5 ⊢
        clear hX
        refine wpAnyH_ready (rs := [4]) (by kernel_rfl) (by simp) ?_
        refine AllReadyH.cons rfl (fun K2 hK2 => ?_) AllReadyH.nil
        go_simp
        go_wp2_with (go_at_call 11; refine (HCL.out _ HB35.out).mono ?_; rintro e w6 ⟨b, rfl, hLI, hb6⟩)
        have hb36 : Below w3.heap.size w3 w6 := HB35.out.trans (hb6.mono HB35.out.size)
        have hS6 := HSx.out _ hb36
        refine hK2.out _ _ hS6 (fun hH6 => ?_)
        clear hK2 K2
        try simp only [Act.put, List.setIfInBounds_toArray, List.set_cons_zero, List.set_cons_succ]
        refine wpAnyH_takeD (i := 5) (some 22) (v := .agg #[.int .i64 limit, .slice (some ⟨b, 0, none⟩) l.length (l.length + 2)]) rfl rfl (by kernel_rfl) (by kernel_rfl) (by kernel_rfl) (fun _ _ _ h => h) (Or.inl ⟨by kernel_rfl, ?hy6⟩) (by assumption) ?rest6
        case hy6 => (intro x hSx; obtain ⟨hS1, hS2⟩ := hSx; go_simp; first | done | with_reducible rfl)
        try simp only [Act.put, List.setIfInBounds_toArray, List.set_cons_zero, List.set_cons_succ]
        have hX6 := HX5.out.old hb6
        have x0 := hX6.cell 0
        have x1 := hX6.cell 1
        have y0 := hX6.frozen 0
        have y1 := hX6.frozen 1
        simp only [List.getElem?_toArray, List.getElem?_cons_zero, List.getElem?_cons_succ] at x0 x1
        have HX6 : Hid (Blk w6 X 25 #[.int .i64 0, .slice none 0 0]) := hX6
        have HB36 : Hid (Below w3.heap.size w3 w6) := hb36
        have HLI : Hid (LIf w6 w5.heap.size w6.heap.size l b) := hLI
        have HB6 : Hid (Below w5.heap.size w5 w6) := hb6
        clear hX6 hb36 hLI hb6 hS6
        refine wpAnyH_ready (rs := [7]) (by kernel_rfl) (by simp) ?_
        refine AllReadyH.cons rfl (fun K2 hK2 => ?_) AllReadyH.nil
        have HX3 : Hid (w3.heap.size ≤ X) := by show _ ≤ _; rw [← HXd.out]; exact HVb.out.size
        have HBE : Hid (Below w3.heap.size w3 ((w6.setCell ⟨X, 0, none⟩ (.int .i64 limit)).setCell ⟨X, 1, none⟩ (.slice (some ⟨b, 0, none⟩) l.length (l.length + 2)))) := (HB36.out.setCell (p := ⟨X, 0, none⟩) HX3.out _).setCell (p := ⟨X, 1, none⟩) HX3.out _
        have HSE := HSx.out _ HBE.out
        have HSE2 : Hid (_ ∧ _) := HSE
        clear HSE
        go_simp
        refine hK2.out _ _ HSE2.out (fun _ => ?_)
        clear hK2 K2
        try simp only [Act.put, List.setIfInBounds_toArray, List.set_cons_zero, List.set_cons_succ]
        refine wpAnyH_done (by kernel_rfl) ?_ _
        go_wp2_with fail
        go_meet
        have hO := (Oth.set X 0 w6 (.int .i64 limit)).trans (Oth.set X 1 _ (.slice (some ⟨b, 0, none⟩) l.length (l.length + 2)))
        have hz5 := HZ5.out
        have h3 := HX3.out
        refine ⟨X, b, rfl, HX3.out, (HX6.out.set 0 _).set 1 _, ?_, HBE.out⟩
        exact (HLI.out.keep fun k hk1 hk2 => hO.block k hk2 (by omega)).mono hO.size (by omega)
    case rest =>
      obtain ⟨X, b, rfl, hX3, hBX, hLI, hb3c⟩ := hcut
      have hb0c := hb03.trans (hb3c.mono hb03.size)
      have hS4 := HS3.out.old hb3c
      have hin4 := HIN3.out.keep hb3c (by omega)
      have hT4 := hT3.old (by omega) hb3c
      have hs4 := hb3c.size
      obtain ⟨r, hr⟩ : ∃ r, chkS bndQ limit l = r := ⟨_, rfl⟩
      have hrc := rscheck_any limit l aa ca 0 n₀ wc hf34 (by omega) (by omega) hin4
      rw [hr] at hrc hck17
      have c0 : wc.cell? ⟨w.heap.size, 0, none⟩ = some (.int .i64 limit) := hS4.cell 0
      have c1 : wc.cell? ⟨w.heap.size, 1, none⟩ = some (.slice aa l.length ca) := hS4.cell 1
      have HCK : Hid (∀ W, Below wc.heap.size wc W → Calls Tryz.prog 13 #[.agg #[.int .i64 limit, .slice (some ⟨b, 0, none⟩) l.length (l.length + 2)]] W (SCheckPost r W)) := fun W hW => by
        have := scheck_any limit l (some ⟨b, 0, none⟩) (l.length + 2) w3.heap.size wc.heap.size W (by omega) hf34 (by omega) hW.size (hLI.fin.keep hW (Nat.le_refl _))
        rw [hr] at this
        exact this
      have HLI : Hid (LIf wc w3.heap.size wc.heap.size l b) := hLI
      have HIN4 : Hid (FIn wc 0 n₀ l aa) := hin4
      have HKP : Hid (KeptOkF l) := keptF_list (by omega) hf26
      have HWR : Hid (WrOk l) := write_any l
      have HF26 : Hid (∀ x ∈ l, FitsF 67108864 x) := hf26
      have HX : Hid (Blk wc X 25 #[.int .i64 limit, .slice (some ⟨b, 0, none⟩) l.length (l.length + 2)]) := hBX
      have HS4 : Hid (Blk wc w.heap.size 25 #[.int .i64 limit, .slice aa l.length ca]) := hS4
      clear hLI hin4 hBX hS4 hr HIN3 HS3 HL hf34 hf26 s0 s1 hb3c hb03 hb02 hb1 hb2 hb3 hT3
      unfold RCheckPost at hrc
      go_wp2_with fail
      refine hrc.mono ?_
      clear hrc c0 c1
      rintro _ w5 ⟨hb5, pa, pc, rfl, hown5⟩
      go_upto_region 6 with fail
      have hb6 := (Below.refl w5.heap.size w5).alloc (Nat.le_refl _) (.cells #[.int .i64 r.1, .int .i64 0, .slice pa r.2.length pc] 31)
      have hW6 := Blk.new w5 31 #[.int .i64 r.1, .int .i64 0, .slice pa r.2.length pc]
      have hown6 : IOwn _ wc.heap.size (.slice pa r.2.length pc) r.2 := own_after hown5 hb6
      have hs5 := hb5.size
      have hs6 := hb6.size
      have hlt6 : w5.heap.size < (w5.alloc (.cells #[.int .i64 r.1, .int .i64 0, .slice pa r.2.length pc] 31)).heap.size := hW6.lt
      generalize w5.alloc (.cells #[.int .i64 r.1, .int .i64 0, .slice pa r.2.length pc] 31) = w6 at *
      have hbc6 : Below wc.heap.size wc w6 := hb5.trans (hb6.mono hb5.size)
      obtain ⟨Wb, hWb⟩ : ∃ Wb, w5.heap.size = Wb := ⟨_, rfl⟩
      have hX6 := HX.out.old hbc6
      have x0 : w6.cell? ⟨X, 0, none⟩ = some (.int .i64 limit) := hX6.cell 0
      have x1 : w6.cell? ⟨X, 1, none⟩ = some (.slice (some ⟨b, 0, none⟩) l.length (l.length + 2)) := hX6.cell 1
      have q6 := HCK.out w6 hbc6
      have HW6 : Hid (Blk w6 w5.heap.size 31 #[.int .i64 r.1, .int .i64 0, .slice pa r.2.length pc]) := hW6
      have HO6 : Hid (IOwn w6 wc.heap.size (.slice pa r.2.length pc) r.2) := hown6
      have HT6 : Hid (ErrT w6) := hT4.old (by omega) hbc6
      rw [hWb] at HW6 ⊢
      have HWb : Hid (w5.heap.size = Wb) := hWb
      clear hb5 hb6 hW6 hown5 hown6 hT4 hX6 hWb
      go_wp2_with fail
      refine q6.mono ?_
      clear q6
      intro e w7 hp7
      obtain ⟨ev1, rfl⟩ : ∃ ev, e = .returned ev := by
        rcases hp7.2 with ⟨_, he⟩ | ⟨_, v, he, _⟩
        · exact ⟨_, he⟩
        · exact ⟨_, he⟩
      have hb67 := hp7.1
      have hs7 := hb67.size
      have hbc7 := hbc6.trans (hb67.mono hbc6.size)
      have HP7 : Hid (SCheckPost r w6 (.returned ev1) w7) := hp7
      have hX7 := HX.out.old hbc7
      have x70 : w7.cell? ⟨X, 0, none⟩ = some (.int .i64 limit) := hX7.cell 0
      have x71 : w7.cell? ⟨X, 1, none⟩ = some (.slice (some ⟨b, 0, none⟩) l.length (l.length + 2)) := hX7.cell 1
      have q7 := HCK.out w7 hbc7
      clear hp7 x0 x1 hX7
      go_wp2_with fail
      refine q7.mono ?_
      clear q7
      intro e w8 hp8
      obtain ⟨ev2, rfl⟩ : ∃ ev, e = .returned ev := by
        rcases hp8.2 with ⟨_, he⟩ | ⟨_, v, he, _⟩
        · exact ⟨_, he⟩
        · exact ⟨_, he⟩
      have hb78 := hp8.1
      have hs8 := hb78.size
      have hb68 := hb67.trans (hb78.mono hb67.size)
      have HP8 : Hid (SCheckPost r w7 (.returned ev2) w8) := hp8
      have hW8 := HW6.out.old hb68
      have o8 : IOwn w8 wc.heap.size (.slice pa r.2.length pc) r.2 := own_after HO6.out hb68
      have i8 := is_check r w6 w7 w8 ev1 HP7.out (by omega) (fun k _ hk => hb78.block k hk) (.slice pa r.2.length pc) o8.ints (HT6.out.old (by omega) hb68)
      have y0 : w8.cell? ⟨Wb, 0, none⟩ = some (.int .i64 r.1) := hW8.cell 0
      have y1 : w8.cell? ⟨Wb, 1, none⟩ = some (.int .i64 0) := hW8.cell 1
      have y2 : w8.cell? ⟨Wb, 2, none⟩ = some (.slice pa r.2.length pc) := hW8.cell 2
      clear hp8 x70 x71 hW8 o8 HCK
      go_wp2_with fail
      refine i8.mono ?_
      clear i8 y0 y1 y2
      rintro _ w9 ⟨rfl, hb89⟩
      have hs9 := hb89.size
      have hb69 := hb68.trans (hb89.mono hb68.size)
      have hb79 := hb78.trans (hb89.mono hb78.size)
      have p9 := spoil_check r w6 w7 w9 ev1 HP7.out (by omega) hb79 (HT6.out.old (by omega) hb69) (by omega)
      go_wp2_with fail
      refine p9.mono ?_
      clear p9
      rintro _ w10 ⟨rfl, hspo⟩
      have hs10 := hspo.below.size
      have hb6a : Below w6.heap.size w6 w10 := hb69.trans hspo.below
      have hW10 := HW6.out.old hb6a
      have o10 : IOwn w10 wc.heap.size (.slice pa r.2.length pc) r.2 := own_after HO6.out hb6a
      have i10 := is_check r w7 w8 w10 ev2 HP8.out (by omega) (fun k h1 hk => (hspo.above k h1 (by omega)).trans (hb89.block k hk)) (.slice pa r.2.length pc) o10.ints (HT6.out.old (by omega) hb6a)
      have y0 : w10.cell? ⟨Wb, 0, none⟩ = some (.int .i64 r.1) := hW10.cell 0
      have y1 : w10.cell? ⟨Wb, 1, none⟩ = some (.int .i64 0) := hW10.cell 1
      have y2 : w10.cell? ⟨Wb, 2, none⟩ = some (.slice pa r.2.length pc) := hW10.cell 2
      clear hW10 o10
      go_wp2_with fail
      refine i10.mono ?_
      clear i10 y0 y1 y2
      rintro _ w11 ⟨rfl, hb10⟩
      have hs11 := hb10.size
      have hb6b : Below w6.heap.size w6 w11 := hb6a.trans (hb10.mono (by omega))
      have hbcb : Below wc.heap.size wc w11 := hbc6.trans (hb6b.mono (by omega))
      have hX11 := HX.out.old hbcb
      have hS11 := HS4.out.old hbcb
      have z1 : w11.cell? ⟨X, 1, none⟩ = some (.slice (some ⟨b, 0, none⟩) l.length (l.length + 2)) := hX11.cell 1
      have z2 : w11.cell? ⟨w.heap.size, 1, none⟩ = some (.slice aa l.length ca) := hS11.cell 1
      have k11 := HKP.out b aa ca w3.heap.size wc.heap.size n₀ w11 (by omega) (by omega) (HLI.out.old hbcb (Nat.le_refl _)) (HIN4.out.keep hbcb (by omega))
      clear hX11 hS11
      go_wp2_with fail
      refine k11.mono ?_
      clear k11 z1 z2
      rintro _ w12 ⟨rfl, hb12⟩
      have hs12 := hb12.size
      have hb6d : Below w6.heap.size w6 w12 := hb6b.trans (hb12.mono (by omega))
      have hbcd : Below wc.heap.size wc w12 := hbc6.trans (hb6d.mono (by omega))
      have hX12 := HX.out.old hbcd
      have z1 : w12.cell? ⟨X, 1, none⟩ = some (.slice (some ⟨b, 0, none⟩) l.length (l.length + 2)) := hX12.cell 1
      have k12 := HWR.out b w3.heap.size wc.heap.size w12 (HLI.out.old hbcd (Nat.le_refl _)).wf (by omega) (by omega) (by omega) HF26.out
      clear hX12
      go_wp2_with fail
      refine k12.mono ?_
      clear k12 z1
      rintro _ w13 ⟨rfl, hwst⟩
      have hs13 := hwst.below.size
      have hk13 : ∀ k, wc.heap.size ≤ k → k < w6.heap.size → w13.heap[k]? = w6.heap[k]? := fun k h1 h2 => (hwst.above k h1 (by omega)).trans (hb6d.block k h2)
      have hwb := HWb.out
      have hW13 : Blk w13 Wb 31 #[.int .i64 r.1, .int .i64 0, .slice pa r.2.length pc] := (hk13 Wb (by omega) HW6.out.lt).trans HW6.out
      have o13 : IOwn w13 wc.heap.size (.slice pa r.2.length pc) r.2 := own_keepI HO6.out fun k hk => by
        obtain ⟨h1, cs, f, hh⟩ := own_ge HO6.out hk
        exact hk13 k h1 (Array.getElem?_eq_some_iff.1 hh).1
      have hT13 : ErrT w13 := (hwst.below.cell (p := ⟨0, 0, none⟩) (by show 0 < w3.heap.size; omega)).trans ((hb6d.cell (p := ⟨0, 0, none⟩) (by show 0 < w6.heap.size; omega)).trans HT6.out)
      have i13 := is_check r w7 w8 w13 ev2 HP8.out (by omega) (fun k h1 hk => (hwst.above k (by omega) (by omega)).trans ((hb12.block k (by omega)).trans ((hb10.block k (by omega)).trans ((hspo.above k h1 (by omega)).trans (hb89.block k hk))))) (.slice pa r.2.length pc) o13.ints hT13
      have y0 : w13.cell? ⟨Wb, 0, none⟩ = some (.int .i64 r.1) := hW13.cell 0
      have y1 : w13.cell? ⟨Wb, 1, none⟩ = some (.int .i64 0) := hW13.cell 1
      have y2 : w13.cell? ⟨Wb, 2, none⟩ = some (.slice pa r.2.length pc) := hW13.cell 2
      clear hW13 o13 hT13
      go_wp2_with fail
      refine i13.mono ?_
      clear i13 y0 y1 y2
      rintro _ w14 ⟨rfl, hb14⟩
      have hfin : Below w.heap.size w w14 := hb0c.trans ((hbcd.mono (by omega)).trans ((hwst.below.mono (by omega)).trans (hb14.mono (by omega))))
      clear hb14 hwst hspo
      go_wp2_with fail
      go_ret
      exact ⟨rfl, hfin⟩
end Go.Proofs.YtcbjnifoojjipaaGreatDoor
