/- Contracts and lemmas (nothing is claimed here). -/
import Derived.Test.YtcbjnifoojjipaaGreatDoorJ8
import Derived.Test.YtcbjnifoojjipaaGreatDoorJ2
namespace Go.Proofs.YtcbjnifoojjipaaGreatDoor
open Go.ChangeShapes Go.WideShapes Go.ChangeAt Go.RowKit Go.Deep Go.Vf
theorem fo57 : Tryz.prog.cellsOf 48 = 14 := by kernel_rfl
theorem fo9 : Tryz.prog.cellsOf 9 = 1 := by kernel_rfl
theorem fo25 : Tryz.prog.cellsOf 41 = 1 := by kernel_rfl
theorem fo4 : Tryz.prog.cellsOf 4 = 1 := by kernel_rfl
theorem fo53 : Tryz.prog.cellsOf 42 = 1 := by kernel_rfl
theorem fo27 : Tryz.prog.cellsOf 44 = 2 := by kernel_rfl
theorem fo3 : Tryz.prog.cellsOf 3 = 1 := by kernel_rfl
theorem fo55 : Tryz.prog.cellsOf 46 = 3 := by kernel_rfl
theorem fo22 : Tryz.prog.cellsOf 23 = 1 := by kernel_rfl
theorem by57 : Tryz.prog.bytesOf 48 = 120 := by kernel_rfl
theorem list_ten {α : Type} {l : List α} (h : l.length = 10) : ∃ a b c d e f g h i j, l = [a, b, c, d, e, f, g, h, i, j] := by
  match l, h with
  | [a, b, c, d, e, f, g, h, i, j], _ => exact ⟨a, b, c, d, e, f, g, h, i, j, rfl⟩
theorem list_14 {α : Type} {l : List α} (h : l.length = 14) : ∃ a b c d e f g h i j k m n o, l = [a, b, c, d, e, f, g, h, i, j, k, m, n, o] := by
  match l, h with
  | [a, b, c, d, e, f, g, h, i, j, k, m, n, o], _ => exact ⟨a, b, c, d, e, f, g, h, i, j, k, m, n, o, rfl⟩
theorem list_three {α : Type} {l : List α} (h : l.length = 3) : ∃ a b c, l = [a, b, c] := by
  match l, h with
  | [a, b, c], _ => exact ⟨a, b, c, rfl⟩
section
variable {H : Type} {enc : TypeId × Value → H} {W : World} {n : Nat}
theorem num_trod {c d : Value} {x : DataW H × List MemPlace} (h : DataW.trod enc Tryz.prog W 0 (fun _ => true) true n 44 [c, d] = some x) (hw : ∀ q ∈ x.1.weights Tryz.prog 44, q ≤ reachBytes) : ∃ z s, c = .bool z ∧ d = .string s ∧ s.size ≤ 281474976710656 := by
  obtain ⟨ys, n2, _, hye, _, hyl, hy⟩ := DataW.trod_struct Tryz.underlying44 h
  obtain ⟨y0, y1, rfl⟩ := list_two hyl
  have k0 : DataW.trod enc Tryz.prog W 0 (fun _ => true) true n2 4 (([c, d].drop 0).take (Tryz.prog.cellsOf 4)) = some y0 := hy 0 _ rfl
  have k1 : DataW.trod enc Tryz.prog W 0 (fun _ => true) true n2 9 (([c, d].drop 1).take (Tryz.prog.cellsOf 9)) = some y1 := hy 1 _ rfl
  rw [fo4] at k0
  rw [fo9] at k1
  obtain ⟨z2, e2, _⟩ := DataW.trod_bool Tryz.underlying4 (show DataW.trod enc Tryz.prog W 0 (fun _ => true) true n2 4 [c] = some y0 from k0)
  obtain ⟨s3, e3, d3, _⟩ := DataW.trod_string Tryz.underlying9 (show DataW.trod enc Tryz.prog W 0 (fun _ => true) true n2 9 [d] = some y1 from k1)
  simp only [List.cons.injEq, and_true] at e2 e3
  refine ⟨z2, s3, e2, e3, ?_⟩
  have := hw s3.data.toList.length (by
    rw [show x.1 = .agg ([y0, y1].map (·.1)) from congrArg Prod.fst hye]
    simp only [DataW.weights, Tryz.underlying44]
    refine DataW.weights_mem_each (j := 1) (t := 9) rfl rfl _ ?_
    rw [d3]; simp [DataW.weights])
  rw [reach_eq] at this
  rw [Lib.size_eq]; omega
theorem col_trod {c d e : Value} {x : DataW H × List MemPlace} (h : DataW.trod enc Tryz.prog W 0 (fun _ => true) true n 46 [c, d, e] = some x) : ∃ z s b, c = .int .i64 z ∧ d = .bool s ∧ e = .bool b ∧ (Lit.int .i64 z).wf = true := by
  obtain ⟨ys, n2, _, hye, _, hyl, hy⟩ := DataW.trod_struct Tryz.underlying46 h
  obtain ⟨y0, y1, y2, rfl⟩ := list_three hyl
  have k0 : DataW.trod enc Tryz.prog W 0 (fun _ => true) true n2 3 (([c, d, e].drop 0).take (Tryz.prog.cellsOf 3)) = some y0 := hy 0 _ rfl
  have k1 : DataW.trod enc Tryz.prog W 0 (fun _ => true) true n2 4 (([c, d, e].drop 1).take (Tryz.prog.cellsOf 4)) = some y1 := hy 1 _ rfl
  have k2 : DataW.trod enc Tryz.prog W 0 (fun _ => true) true n2 4 (([c, d, e].drop 2).take (Tryz.prog.cellsOf 4)) = some y2 := hy 2 _ rfl
  rw [fo3] at k0
  rw [fo4] at k1 k2
  obtain ⟨z0, e0, _, w0⟩ := DataW.trod_int Tryz.underlying3 (show DataW.trod enc Tryz.prog W 0 (fun _ => true) true n2 3 [c] = some y0 from k0)
  obtain ⟨z1, e1, _⟩ := DataW.trod_bool Tryz.underlying4 (show DataW.trod enc Tryz.prog W 0 (fun _ => true) true n2 4 [d] = some y1 from k1)
  obtain ⟨z2, e2, _⟩ := DataW.trod_bool Tryz.underlying4 (show DataW.trod enc Tryz.prog W 0 (fun _ => true) true n2 4 [e] = some y2 from k2)
  simp only [List.cons.injEq, and_true] at e0 e1 e2
  exact ⟨z0, z1, z2, e0, e1, e2, w0⟩
end
set_option maxHeartbeats 2000000 in
set_option maxRecDepth 20000 in
theorem field_trod {H : Type} {enc : TypeId × Value → H} {W : World} : ∀ (N fuel : Nat), fuel ≤ N → ∀ (cs : List Value) (x : DataW H × List MemPlace), DataW.trod enc Tryz.prog W 0 (fun _ => true) true fuel 48 cs = some x → (∀ n ∈ x.1.weights Tryz.prog 48, n ≤ reachBytes) →
    ∃ (o : Go.Vf.Own) (l : List Fld) (a : Option Addr) (c : Nat), cs = (cellsF o a l.length c).toList ∧ l.length ≤ c ∧ FIn W 0 W.heap.size l a ∧ FitsF 281474976710656 (.mk o l) := by
  intro N
  induction N with
  | zero =>
    intro fuel hN cs x h _
    obtain rfl : fuel = 0 := by omega
    simp [DataW.trod] at h
  | succ N ih =>
    intro fuel hN cs x h hw
    obtain ⟨xs, n', hfu, hxe, hcl, hxl, hf⟩ := DataW.trod_struct Tryz.underlying48 h
    have hD : x.1 = .agg (xs.map (·.1)) := congrArg Prod.fst hxe
    rw [fo57] at hcl
    obtain ⟨c0, c1, c2, c3, c4, c5, c6, c7, c8, c9, c10, c11, c12, c13, rfl⟩ := list_14 hcl
    obtain ⟨x0, x1, x2, x3, x4, x5, x6, x7, x8, x9, rfl⟩ := list_ten hxl
    have g0 : DataW.trod enc Tryz.prog W 0 (fun _ => true) true n' 9 (([c0, c1, c2, c3, c4, c5, c6, c7, c8, c9, c10, c11, c12, c13].drop 0).take (Tryz.prog.cellsOf 9)) = some x0 := hf 0 _ rfl
    have g1 : DataW.trod enc Tryz.prog W 0 (fun _ => true) true n' 41 (([c0, c1, c2, c3, c4, c5, c6, c7, c8, c9, c10, c11, c12, c13].drop 1).take (Tryz.prog.cellsOf 41)) = some x1 := hf 1 _ rfl
    have g2 : DataW.trod enc Tryz.prog W 0 (fun _ => true) true n' 4 (([c0, c1, c2, c3, c4, c5, c6, c7, c8, c9, c10, c11, c12, c13].drop 2).take (Tryz.prog.cellsOf 4)) = some x2 := hf 2 _ rfl
    have g3 : DataW.trod enc Tryz.prog W 0 (fun _ => true) true n' 42 (([c0, c1, c2, c3, c4, c5, c6, c7, c8, c9, c10, c11, c12, c13].drop 3).take (Tryz.prog.cellsOf 42)) = some x3 := hf 3 _ rfl
    have g4 : DataW.trod enc Tryz.prog W 0 (fun _ => true) true n' 4 (([c0, c1, c2, c3, c4, c5, c6, c7, c8, c9, c10, c11, c12, c13].drop 4).take (Tryz.prog.cellsOf 4)) = some x4 := hf 4 _ rfl
    have g5 : DataW.trod enc Tryz.prog W 0 (fun _ => true) true n' 44 (([c0, c1, c2, c3, c4, c5, c6, c7, c8, c9, c10, c11, c12, c13].drop 5).take (Tryz.prog.cellsOf 44)) = some x5 := hf 5 _ rfl
    have g6 : DataW.trod enc Tryz.prog W 0 (fun _ => true) true n' 44 (([c0, c1, c2, c3, c4, c5, c6, c7, c8, c9, c10, c11, c12, c13].drop 7).take (Tryz.prog.cellsOf 44)) = some x6 := hf 6 _ rfl
    have g7 : DataW.trod enc Tryz.prog W 0 (fun _ => true) true n' 3 (([c0, c1, c2, c3, c4, c5, c6, c7, c8, c9, c10, c11, c12, c13].drop 9).take (Tryz.prog.cellsOf 3)) = some x7 := hf 7 _ rfl
    have g8 : DataW.trod enc Tryz.prog W 0 (fun _ => true) true n' 46 (([c0, c1, c2, c3, c4, c5, c6, c7, c8, c9, c10, c11, c12, c13].drop 10).take (Tryz.prog.cellsOf 46)) = some x8 := hf 8 _ rfl
    have g9 : DataW.trod enc Tryz.prog W 0 (fun _ => true) true n' 23 (([c0, c1, c2, c3, c4, c5, c6, c7, c8, c9, c10, c11, c12, c13].drop 13).take (Tryz.prog.cellsOf 23)) = some x9 := hf 9 _ rfl
    rw [fo9] at g0
    rw [fo25] at g1
    rw [fo4] at g2
    rw [fo53] at g3
    rw [fo4] at g4
    rw [fo27] at g5
    rw [fo27] at g6
    rw [fo3] at g7
    rw [fo55] at g8
    rw [fo22] at g9
    have hwi : ∀ (j : Nat) (t : TypeId) (y : DataW H), ([9, 41, 4, 42, 4, 44, 44, 3, 46, 23] : List TypeId)[j]? = some t → ([x0.1, x1.1, x2.1, x3.1, x4.1, x5.1, x6.1, x7.1, x8.1, x9.1] : List (DataW H))[j]? = some y → ∀ q ∈ y.weights Tryz.prog t, q ≤ reachBytes := fun j t y hj hy q hq => hw q (by
      rw [hD]
      simp only [DataW.weights, Tryz.underlying48]
      exact DataW.weights_mem_each (j := j) (t := t) hj hy q hq)
    obtain ⟨s0, e0, d0, _⟩ := DataW.trod_string Tryz.underlying9 (show DataW.trod enc Tryz.prog W 0 (fun _ => true) true n' 9 [c0] = some x0 from g0)
    obtain ⟨z1, e1, _, w1⟩ := DataW.trod_int Tryz.underlying41 (show DataW.trod enc Tryz.prog W 0 (fun _ => true) true n' 41 [c1] = some x1 from g1)
    obtain ⟨z2, e2, _⟩ := DataW.trod_bool Tryz.underlying4 (show DataW.trod enc Tryz.prog W 0 (fun _ => true) true n' 4 [c2] = some x2 from g2)
    obtain ⟨z3, e3, _, w3⟩ := DataW.trod_int Tryz.underlying42 (show DataW.trod enc Tryz.prog W 0 (fun _ => true) true n' 42 [c3] = some x3 from g3)
    obtain ⟨z4, e4, _⟩ := DataW.trod_bool Tryz.underlying4 (show DataW.trod enc Tryz.prog W 0 (fun _ => true) true n' 4 [c4] = some x4 from g4)
    obtain ⟨z5, s6, e5, e6, hs6⟩ := num_trod (show DataW.trod enc Tryz.prog W 0 (fun _ => true) true n' 44 [c5, c6] = some x5 from g5) (hwi 5 44 x5.1 rfl rfl)
    obtain ⟨z7, s8, e7, e8, hs8⟩ := num_trod (show DataW.trod enc Tryz.prog W 0 (fun _ => true) true n' 44 [c7, c8] = some x6 from g6) (hwi 6 44 x6.1 rfl rfl)
    obtain ⟨z9, e9, _, w9⟩ := DataW.trod_int Tryz.underlying3 (show DataW.trod enc Tryz.prog W 0 (fun _ => true) true n' 3 [c9] = some x7 from g7)
    obtain ⟨z10, z11, z12, e10, e11, e12, w10⟩ := col_trod (show DataW.trod enc Tryz.prog W 0 (fun _ => true) true n' 46 [c10, c11, c12] = some x8 from g8)
    simp only [List.cons.injEq, and_true] at e0 e1 e2 e3 e4 e9
    have hs0 : s0.size ≤ 281474976710656 := by
      have := hwi 0 9 x0.1 rfl rfl s0.data.toList.length (by rw [d0]; simp [DataW.weights])
      rw [reach_eq] at this
      rw [Lib.size_eq]; omega
    have b1 := bounds_u8 w1
    have b3 := bounds_u8 w3
    have b9 := bounds_i64 w9
    have b10 := bounds_i64 w10
    subst e0 e1 e2 e3 e4 e5 e6 e7 e8 e9 e10 e11 e12
    have hown : OwnFits 281474976710656 ⟨s0, z1, z2, z3, z4, z5, s6, z7, s8, z9, z10, z11, z12⟩ := ⟨by show 0 ≤ z1; omega, by show z1 < 256; omega, by show 0 ≤ z3; omega, by show z3 < 256; omega, hs0, hs6, hs8, b9.1, by show z9 < _; omega, b10.1, by show z10 < _; omega⟩
    have g9' : DataW.trod enc Tryz.prog W 0 (fun _ => true) true n' 23 [c13] = some x9 := g9
    rcases DataW.trod_slice Tryz.underlying23 g9' with ⟨hcs, _⟩ | ⟨a, len, cap, elems, rest, n, hfn, hcs, hd, _, hl, hm, hlen, hel, hsp, hns⟩
    · simp only [List.cons.injEq, and_true] at hcs
      subst hcs
      exact ⟨⟨s0, z1, z2, z3, z4, z5, s6, z7, s8, z9, z10, z11, z12⟩, [], none, 0, rfl, Nat.le_refl _, .nil, .mk hown (by simp [Fld.fields]) (fun x hx => by cases hx)⟩
    · simp only [List.cons.injEq, and_true] at hcs
      subst hcs
      have hd1 : x9.1 = .slice (elems.map (·.1)) (rest.map (·.1)) := congrArg Prod.fst hd
      have hwl : len ≤ 281474976710656 := by
        have := hwi 9 23 x9.1 rfl rfl (((elems.map (·.1)).length + (rest.map (·.1)).length) * Tryz.prog.bytesOf 48) (by
          rw [hd1]; simp [DataW.weights, Tryz.underlying23])
        rw [by57, reach_eq] at this
        simp at this
        omega
      have hwd : ∀ i (hi : i < elems.length), ∀ q ∈ (elems[i].1).weights Tryz.prog 48, q ≤ reachBytes := fun i hi q hq => hwi 9 23 x9.1 rfl rfl q (by
        rw [hd1]
        simp only [DataW.weights, Tryz.underlying23, List.mem_cons, List.mem_append]
        exact .inr (.inl (weightsAll_mem (List.mem_map.2 ⟨elems[i], List.getElem_mem hi, rfl⟩) q hq)))
      have hx : ∀ i, i < len → ∃ cs', W.cells? 0 (a.add (i * 14)) 14 = some cs' ∧ ∃ hi : i < elems.length, DataW.trod enc Tryz.prog W 0 (fun _ => true) true n 48 cs' = some elems[i] := by
        intro i hi
        have hie : i < elems.length := by omega
        have h1 := hel i hi
        rw [fo57, List.getElem?_eq_getElem hie] at h1
        obtain ⟨cs', q1, q2⟩ := Option.bind_eq_some_iff.1 h1
        exact ⟨cs', q1, hie, q2⟩
      rcases Nat.eq_zero_or_pos len with h0 | h0
      · subst h0
        exact ⟨⟨s0, z1, z2, z3, z4, z5, s6, z7, s8, z9, z10, z11, z12⟩, [], some a, cap, rfl, Nat.zero_le _, .nil, .mk hown (by simp [Fld.fields]) (fun x hx => by cases hx)⟩
      obtain ⟨b, off, spot⟩ := a
      have hspot : spot = none := by
        obtain ⟨cs', h1, _⟩ := hx 0 (by omega)
        obtain ⟨_, hlen', hcell⟩ := World.cells?_some h1
        have hc := hcell 0 (by omega)
        obtain ⟨c0, c1, c2, c3, c4, c5, c6, c7, c8, c9, c10, c11, c12, c13, rfl⟩ := list_14 hlen'
        have := World.cell?_spot hc
        simpa [Addr.add] using this
      subst hspot
      have each : ∀ i, i < len → ∃ y : Fld × Option Addr × Nat, RowF W b (off + i * 14) y.1.own y.2.1 y.1.fields.length y.2.2 ∧ y.1.fields.length ≤ y.2.2 ∧ FIn W 0 W.heap.size y.1.fields y.2.1 ∧ FitsF 281474976710656 y.1 := by
        intro i hi
        obtain ⟨cs', h1, hie, h2⟩ := hx i (by omega)
        rw [Go.WideShapes.add_plain] at h1
        obtain ⟨_, hlen', hcell⟩ := World.cells?_some h1
        obtain ⟨o', l', a', c', e, hp1, hp, hfp⟩ := ih n (by omega) cs' elems[i] h2 (hwd i hie)
        subst e
        have k : ∀ j (hj : j < 14), W.cell? ⟨b, off + i * 14 + j, none⟩ = (cellsF o' a' l'.length c').toList[j]? := fun j hj => by
          have q := hcell j (by simpa [cellsF] using hj)
          rw [Go.WideShapes.add_plain] at q
          rw [q]
        exact ⟨(.mk o' l', a', c'), ⟨k 0 (by omega), k 1 (by omega), k 2 (by omega), k 3 (by omega), k 4 (by omega), k 5 (by omega), k 6 (by omega), k 7 (by omega), k 8 (by omega), k 9 (by omega), k 10 (by omega), k 11 (by omega), k 12 (by omega), k 13 (by omega)⟩, hp1, hp, hfp⟩
      obtain ⟨L, hLl, hLz⟩ := choose_list len each
      refine ⟨⟨s0, z1, z2, z3, z4, z5, s6, z7, s8, z9, z10, z11, z12⟩, L.map (·.1), some ⟨b, off, none⟩, cap, ?_, by simp [hLl]; exact hl, ?_, .mk hown (by simp [Fld.fields, hLl]; omega) (fun x hx => ?_)⟩
      · simp [cellsF, hLl]
      · have hq := (hLz 0 (by omega)).1.c0
        have hblk := World.block_lt_of_cell? W _ hq
        refine .cons (fun j => ((L[j]?).map (·.2.1)).getD none) (fun j => ((L[j]?).map (·.2.2)).getD 0) (by omega) hblk (fun j hj => ?_) (fun j hj => ?_) (fun j hj => ?_)
        · have hj' : j < L.length := by simpa using hj
          have := (hLz j hj').1
          simpa [hj'] using this
        · have hj' : j < L.length := by simpa using hj
          have := (hLz j hj').2.1
          simpa [hj'] using this
        · have hj' : j < L.length := by simpa using hj
          have := (hLz j hj').2.2.1
          simpa [hj'] using this
      · simp only [Fld.fields, List.mem_map] at hx
        obtain ⟨y, hy, rfl⟩ := hx
        obtain ⟨i, hi, rfl⟩ := List.mem_iff_getElem.1 hy
        exact (hLz i hi).2.2.2
set_option maxRecDepth 20000 in
theorem field_open {H : Type} {enc : TypeId × Value → H} {base : Nat} {W : World} (v : Value) (d : DataW H) (pl : List MemPlace) (hok : Value.okWide Tryz.prog W .any base 48 v)
    (h : DataW.Trod enc Tryz.prog W 0 (fun _ => true) true 48 v d pl) (hw : ∀ n ∈ d.weights Tryz.prog 48, n ≤ reachBytes) : ∃ (o : Go.Vf.Own) (l : List Fld) (a : Option Addr) (c : Nat), v = fV o a l.length c ∧ l.length ≤ c ∧ FIn W 0 W.heap.size l a ∧ FitsF 281474976710656 (.mk o l) := by
  obtain ⟨cs, rfl, _⟩ := okWide_struct Tryz.underlying48 hok
  obtain ⟨fuel, hf⟩ := h
  obtain ⟨o, l, a, c, e, h1, h2, h3⟩ := field_trod fuel fuel (Nat.le_refl _) _ _ hf hw
  refine ⟨o, l, a, c, ?_, h1, h2, h3⟩
  simp only [Value.cells] at e
  unfold fV
  obtain ⟨q⟩ := cs
  simp only [cellsF] at e
  rw [e]
theorem so24 : Tryz.prog.cellsOf 25 = 2 := by kernel_rfl
set_option maxHeartbeats 2000000 in
set_option maxRecDepth 20000 in
theorem schema_trod {H : Type} {enc : TypeId × Value → H} {W : World} (fuel : Nat) (cs : List Value) (x : DataW H × List MemPlace) (h : DataW.trod enc Tryz.prog W 0 (fun _ => true) true fuel 25 cs = some x) (hw : ∀ n ∈ x.1.weights Tryz.prog 25, n ≤ reachBytes) :
    ∃ (z : Int) (l : List Fld) (a : Option Addr) (c : Nat), cs = [.int .i64 z, .slice a l.length c] ∧ l.length ≤ c ∧ FIn W 0 W.heap.size l a ∧ (∀ x ∈ l, FitsF 281474976710656 x) ∧ l.length ≤ 281474976710656 := by
  obtain ⟨xs, n', hfu, hxe, hcl, hxl, hf⟩ := DataW.trod_struct Tryz.underlying25 h
  have hD : x.1 = .agg (xs.map (·.1)) := congrArg Prod.fst hxe
  rw [so24] at hcl
  obtain ⟨c0, c1, rfl⟩ := list_two hcl
  obtain ⟨x0, x1, rfl⟩ := list_two hxl
  have g0 : DataW.trod enc Tryz.prog W 0 (fun _ => true) true n' 3 (([c0, c1].drop 0).take (Tryz.prog.cellsOf 3)) = some x0 := hf 0 _ rfl
  have g1 : DataW.trod enc Tryz.prog W 0 (fun _ => true) true n' 23 (([c0, c1].drop 1).take (Tryz.prog.cellsOf 23)) = some x1 := hf 1 _ rfl
  rw [fo3] at g0
  rw [fo22] at g1
  have hwi : ∀ (j : Nat) (t : TypeId) (y : DataW H), ([3, 23] : List TypeId)[j]? = some t → ([x0.1, x1.1] : List (DataW H))[j]? = some y → ∀ q ∈ y.weights Tryz.prog t, q ≤ reachBytes := fun j t y hj hy q hq => hw q (by
    rw [hD]
    simp only [DataW.weights, Tryz.underlying25]
    exact DataW.weights_mem_each (j := j) (t := t) hj hy q hq)
  obtain ⟨z0, e0, _, _⟩ := DataW.trod_int Tryz.underlying3 (show DataW.trod enc Tryz.prog W 0 (fun _ => true) true n' 3 [c0] = some x0 from g0)
  simp only [List.cons.injEq, and_true] at e0
  subst e0
  have g1 : DataW.trod enc Tryz.prog W 0 (fun _ => true) true n' 23 [c1] = some x1 := g1
  rcases DataW.trod_slice Tryz.underlying23 g1 with ⟨hcs, _⟩ | ⟨a, len, cap, elems, rest, n, hfn, hcs, hd, _, hl, hm, hlen, hel, hsp, hns⟩
  · simp only [List.cons.injEq, and_true] at hcs
    subst hcs
    exact ⟨z0, [], none, 0, rfl, Nat.le_refl _, .nil, (fun x hx => by cases hx), by simp⟩
  · simp only [List.cons.injEq, and_true] at hcs
    subst hcs
    have hd1 : x1.1 = .slice (elems.map (·.1)) (rest.map (·.1)) := congrArg Prod.fst hd
    have hwl : len ≤ 281474976710656 := by
      have := hwi 1 23 x1.1 rfl rfl (((elems.map (·.1)).length + (rest.map (·.1)).length) * Tryz.prog.bytesOf 48) (by
        rw [hd1]; simp [DataW.weights, Tryz.underlying23])
      rw [by57, reach_eq] at this
      simp at this
      omega
    have hwd : ∀ i (hi : i < elems.length), ∀ q ∈ (elems[i].1).weights Tryz.prog 48, q ≤ reachBytes := fun i hi q hq => hwi 1 23 x1.1 rfl rfl q (by
      rw [hd1]
      simp only [DataW.weights, Tryz.underlying23, List.mem_cons, List.mem_append]
      exact .inr (.inl (weightsAll_mem (List.mem_map.2 ⟨elems[i], List.getElem_mem hi, rfl⟩) q hq)))
    have hx : ∀ i, i < len → ∃ cs', W.cells? 0 (a.add (i * 14)) 14 = some cs' ∧ ∃ hi : i < elems.length, DataW.trod enc Tryz.prog W 0 (fun _ => true) true n 48 cs' = some elems[i] := by
      intro i hi
      have hie : i < elems.length := by omega
      have h1 := hel i hi
      rw [fo57, List.getElem?_eq_getElem hie] at h1
      obtain ⟨cs', q1, q2⟩ := Option.bind_eq_some_iff.1 h1
      exact ⟨cs', q1, hie, q2⟩
    rcases Nat.eq_zero_or_pos len with h0 | h0
    · subst h0
      exact ⟨z0, [], some a, cap, rfl, Nat.zero_le _, .nil, (fun x hx => by cases hx), by simp⟩
    obtain ⟨b, off, spot⟩ := a
    have hspot : spot = none := by
      obtain ⟨cs', h1, _⟩ := hx 0 (by omega)
      obtain ⟨_, hlen', hcell⟩ := World.cells?_some h1
      have hc := hcell 0 (by omega)
      obtain ⟨c0, c1, c2, c3, c4, c5, c6, c7, c8, c9, c10, c11, c12, c13, rfl⟩ := list_14 hlen'
      have := World.cell?_spot hc
      simpa [Addr.add] using this
    subst hspot
    have each : ∀ i, i < len → ∃ y : Fld × Option Addr × Nat, RowF W b (off + i * 14) y.1.own y.2.1 y.1.fields.length y.2.2 ∧ y.1.fields.length ≤ y.2.2 ∧ FIn W 0 W.heap.size y.1.fields y.2.1 ∧ FitsF 281474976710656 y.1 := by
      intro i hi
      obtain ⟨cs', h1, hie, h2⟩ := hx i (by omega)
      rw [Go.WideShapes.add_plain] at h1
      obtain ⟨_, hlen', hcell⟩ := World.cells?_some h1
      obtain ⟨o', l', a', c', e, hp1, hp, hfp⟩ := field_trod n n (Nat.le_refl _) cs' elems[i] h2 (hwd i hie)
      subst e
      have k : ∀ j (hj : j < 14), W.cell? ⟨b, off + i * 14 + j, none⟩ = (cellsF o' a' l'.length c').toList[j]? := fun j hj => by
        have q := hcell j (by simpa [cellsF] using hj)
        rw [Go.WideShapes.add_plain] at q
        rw [q]
      exact ⟨(.mk o' l', a', c'), ⟨k 0 (by omega), k 1 (by omega), k 2 (by omega), k 3 (by omega), k 4 (by omega), k 5 (by omega), k 6 (by omega), k 7 (by omega), k 8 (by omega), k 9 (by omega), k 10 (by omega), k 11 (by omega), k 12 (by omega), k 13 (by omega)⟩, hp1, hp, hfp⟩
    obtain ⟨L, hLl, hLz⟩ := choose_list len each
    refine ⟨z0, L.map (·.1), some ⟨b, off, none⟩, cap, ?_, by simp [hLl]; exact hl, ?_, (fun x hx => ?_), by simp [hLl]; omega⟩
    · simp [hLl]
    · have hq := (hLz 0 (by omega)).1.c0
      have hblk := World.block_lt_of_cell? W _ hq
      refine .cons (fun j => ((L[j]?).map (·.2.1)).getD none) (fun j => ((L[j]?).map (·.2.2)).getD 0) (by omega) hblk (fun j hj => ?_) (fun j hj => ?_) (fun j hj => ?_)
      · have hj' : j < L.length := by simpa using hj
        have := (hLz j hj').1
        simpa [hj'] using this
      · have hj' : j < L.length := by simpa using hj
        have := (hLz j hj').2.1
        simpa [hj'] using this
      · have hj' : j < L.length := by simpa using hj
        have := (hLz j hj').2.2.1
        simpa [hj'] using this
    · simp only [List.mem_map] at hx
      obtain ⟨y, hy, rfl⟩ := hx
      obtain ⟨i, hi, rfl⟩ := List.mem_iff_getElem.1 hy
      exact (hLz i hi).2.2.2
set_option maxRecDepth 20000 in
theorem schema_open {H : Type} {enc : TypeId × Value → H} {base : Nat} {W : World} (v : Value) (d : DataW H) (pl : List MemPlace) (hok : Value.okWide Tryz.prog W .any base 25 v)
    (h : DataW.Trod enc Tryz.prog W 0 (fun _ => true) true 25 v d pl) (hw : ∀ n ∈ d.weights Tryz.prog 25, n ≤ reachBytes) : ∃ (z : Int) (l : List Fld) (a : Option Addr) (c : Nat), v = .agg #[.int .i64 z, .slice a l.length c] ∧ l.length ≤ c ∧ FIn W 0 W.heap.size l a ∧ (∀ x ∈ l, FitsF 281474976710656 x) ∧ l.length ≤ 281474976710656 := by
  obtain ⟨cs, rfl, _⟩ := okWide_struct Tryz.underlying25 hok
  obtain ⟨fuel, hf⟩ := h
  obtain ⟨z, l, a, c, e, h1⟩ := schema_trod fuel _ _ hf hw
  refine ⟨z, l, a, c, ?_, h1⟩
  simp only [Value.cells] at e
  obtain ⟨q⟩ := cs
  simp only at e
  rw [e]
end Go.Proofs.YtcbjnifoojjipaaGreatDoor
