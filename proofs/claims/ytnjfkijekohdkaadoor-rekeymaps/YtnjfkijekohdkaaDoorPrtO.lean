/- A part that came in, opened: its cells (nothing is claimed here). -/
import Derived.Test.YtnjfkijekohdkaaDoorHvy
import Derived.ProofKit
import Derived.OpenShut
import Derived.Deep.Slices
import Derived.SizedLaws
namespace Go.Proofs.YtnjfkijekohdkaaDoor
open Go.ChangeShapes Go.WideShapes Go.ChangeAt Go.RowKit Go.Deep Go.Vf

theorem co27 : Tryd.prog.cellsOf 29 = 6 := by kernel_rfl
theorem co22 : Tryd.prog.cellsOf 24 = 1 := by kernel_rfl
theorem co4 : Tryd.prog.cellsOf 4 = 1 := by kernel_rfl
theorem co24 : Tryd.prog.cellsOf 26 = 2 := by kernel_rfl
theorem co9 : Tryd.prog.cellsOf 9 = 1 := by kernel_rfl
theorem co25 : Tryd.prog.cellsOf 27 = 1 := by kernel_rfl
theorem by27 : Tryd.prog.bytesOf 29 = 72 := by kernel_rfl
theorem reach_eq : reachBytes = 140737488351232 := rfl

theorem choose_list {α : Type} {P : Nat → α → Prop} : ∀ n, (∀ i, i < n → ∃ z, P i z) → ∃ zs : List α, zs.length = n ∧ ∀ i (h : i < zs.length), P i zs[i]
  | 0, _ => ⟨[], rfl, fun i h => absurd h (by simp)⟩
  | n + 1, h => by
    obtain ⟨zs, hl, hz⟩ := choose_list n (fun i hi => h i (by omega))
    obtain ⟨z, hzn⟩ := h n (by omega)
    refine ⟨zs ++ [z], by simp [hl], fun i hi => ?_⟩
    by_cases hin : i < n
    · rw [List.getElem_append_left (by omega)]; exact hz i (by omega)
    · obtain rfl : i = n := by simp [hl] at hi; omega
      rw [List.getElem_append_right (by omega)]
      simpa [hl] using hzn
theorem weightsAll_mem {H : Type} {P : Program} {e : TypeId} : ∀ {l : List (DataW H)} {d : DataW H}, d ∈ l → ∀ n ∈ d.weights P e, n ∈ DataW.weightsAll P e l
  | d' :: r, d, hd, n, hn => by
    simp only [DataW.weightsAll, List.mem_append]
    rcases List.mem_cons.1 hd with rfl | h
    · exact Or.inl hn
    · exact Or.inr (weightsAll_mem h n hn)
theorem list_two {α : Type} {l : List α} (h : l.length = 2) : ∃ a b, l = [a, b] := by
  match l, h with
  | [a, b], _ => exact ⟨a, b, rfl⟩
theorem list_five {α : Type} {l : List α} (h : l.length = 5) : ∃ a b c d e, l = [a, b, c, d, e] := by
  match l, h with
  | [a, b, c, d, e], _ => exact ⟨a, b, c, d, e, rfl⟩
theorem list_six {α : Type} {l : List α} (h : l.length = 6) : ∃ a b c d e f, l = [a, b, c, d, e, f] := by
  match l, h with
  | [a, b, c, d, e, f], _ => exact ⟨a, b, c, d, e, f, rfl⟩

set_option maxHeartbeats 1000000 in
set_option maxRecDepth 20000 in
theorem part_trod {H : Type} {enc : TypeId × Value → H} {W : World} : ∀ (N fuel : Nat), fuel ≤ N → ∀ (cs : List Value) (x : DataW H × List MemPlace), DataW.trod enc Tryd.prog W 0 (fun _ => true) true fuel 29 cs = some x → (∀ n ∈ x.1.weights Tryd.prog 29, n ≤ reachBytes) →
    ∃ (p : Prt) (a : Option Addr) (c : Nat), cs = [.int .u8 p.kind, .bool p.yes, .bool p.neg, .string p.mag, .string p.raw, .slice a p.items.length c] ∧ PIn W 0 W.heap.size p a ∧ Fits p := by
  intro N
  induction N with
  | zero =>
    intro fuel hN cs x h _
    obtain rfl : fuel = 0 := by omega
    simp [DataW.trod] at h
  | succ N ih =>
    intro fuel hN cs x h hw
    obtain ⟨xs, n', hfu, hxe, hcl, hxl, hf⟩ := DataW.trod_struct Tryd.underlying29 h
    have hD : x.1 = .agg (xs.map (·.1)) := congrArg Prod.fst hxe
    rw [co27] at hcl
    obtain ⟨c0, c1, c2, c3, c4, c5, rfl⟩ := list_six hcl
    obtain ⟨x0, x1, x2, x3, x4, rfl⟩ := list_five hxl
    have g0 : DataW.trod enc Tryd.prog W 0 (fun _ => true) true n' 24 (([c0, c1, c2, c3, c4, c5].drop 0).take (Tryd.prog.cellsOf 24)) = some x0 := hf 0 _ rfl
    have g1 : DataW.trod enc Tryd.prog W 0 (fun _ => true) true n' 4 (([c0, c1, c2, c3, c4, c5].drop 1).take (Tryd.prog.cellsOf 4)) = some x1 := hf 1 _ rfl
    have g2 : DataW.trod enc Tryd.prog W 0 (fun _ => true) true n' 26 (([c0, c1, c2, c3, c4, c5].drop 2).take (Tryd.prog.cellsOf 26)) = some x2 := hf 2 _ rfl
    have g3 : DataW.trod enc Tryd.prog W 0 (fun _ => true) true n' 9 (([c0, c1, c2, c3, c4, c5].drop 4).take (Tryd.prog.cellsOf 9)) = some x3 := hf 3 _ rfl
    have g4 : DataW.trod enc Tryd.prog W 0 (fun _ => true) true n' 27 (([c0, c1, c2, c3, c4, c5].drop 5).take (Tryd.prog.cellsOf 27)) = some x4 := hf 4 _ rfl
    rw [co22] at g0
    rw [co4] at g1
    rw [co24] at g2
    rw [co9] at g3
    rw [co25] at g4
    have hwi : ∀ (j : Nat) (t : TypeId) (y : DataW H), ([24, 4, 26, 9, 27] : List TypeId)[j]? = some t → ([x0.1, x1.1, x2.1, x3.1, x4.1] : List (DataW H))[j]? = some y → ∀ q ∈ y.weights Tryd.prog t, q ≤ reachBytes := fun j t y hj hy q hq => hw q (by
      rw [hD]
      simp only [DataW.weights, Tryd.underlying29]
      exact DataW.weights_mem_each (j := j) (t := t) hj hy q hq)
    obtain ⟨z0, e0, _, w0⟩ := DataW.trod_int Tryd.underlying24 (show DataW.trod enc Tryd.prog W 0 (fun _ => true) true n' 24 [c0] = some x0 from g0)
    obtain ⟨z1, e1, _⟩ := DataW.trod_bool Tryd.underlying4 (show DataW.trod enc Tryd.prog W 0 (fun _ => true) true n' 4 [c1] = some x1 from g1)
    obtain ⟨s4, e4, d4, _⟩ := DataW.trod_string Tryd.underlying9 (show DataW.trod enc Tryd.prog W 0 (fun _ => true) true n' 9 [c4] = some x3 from g3)
    obtain ⟨ys, n2, _, hye, _, hyl, hy⟩ := DataW.trod_struct Tryd.underlying26 (show DataW.trod enc Tryd.prog W 0 (fun _ => true) true n' 26 [c2, c3] = some x2 from g2)
    obtain ⟨y0, y1, rfl⟩ := list_two hyl
    have k0 : DataW.trod enc Tryd.prog W 0 (fun _ => true) true n2 4 (([c2, c3].drop 0).take (Tryd.prog.cellsOf 4)) = some y0 := hy 0 _ rfl
    have k1 : DataW.trod enc Tryd.prog W 0 (fun _ => true) true n2 9 (([c2, c3].drop 1).take (Tryd.prog.cellsOf 9)) = some y1 := hy 1 _ rfl
    rw [co4] at k0
    rw [co9] at k1
    obtain ⟨z2, e2, _⟩ := DataW.trod_bool Tryd.underlying4 (show DataW.trod enc Tryd.prog W 0 (fun _ => true) true n2 4 [c2] = some y0 from k0)
    obtain ⟨s3, e3, d3, _⟩ := DataW.trod_string Tryd.underlying9 (show DataW.trod enc Tryd.prog W 0 (fun _ => true) true n2 9 [c3] = some y1 from k1)
    simp only [List.cons.injEq, and_true] at e0 e1 e2 e3 e4
    have hs4 : s4.size ≤ 281474976710656 := by
      have := hwi 3 9 x3.1 rfl rfl s4.data.toList.length (by rw [d4]; simp [DataW.weights])
      rw [reach_eq] at this
      rw [Lib.size_eq]; omega
    have hs3 : s3.size ≤ 281474976710656 := by
      have := hwi 2 26 x2.1 rfl rfl s3.data.toList.length (by
        rw [show x2.1 = .agg ([y0, y1].map (·.1)) from congrArg Prod.fst hye]
        simp only [DataW.weights, Tryd.underlying26]
        refine DataW.weights_mem_each (j := 1) (t := 9) rfl rfl _ ?_
        rw [d3]; simp [DataW.weights])
      rw [reach_eq] at this
      rw [Lib.size_eq]; omega
    have hz0 : 0 ≤ z0 := by have := bounds_u8 w0; omega
    subst e0 e1 e2 e3 e4
    have g4' : DataW.trod enc Tryd.prog W 0 (fun _ => true) true n' 27 [c5] = some x4 := g4
    rcases DataW.trod_slice Tryd.underlying27 g4' with ⟨hcs, _⟩ | ⟨a, len, cap, elems, rest, n, hfn, hcs, hd, _, hl, hm, hlen, hel, hsp, hns⟩
    · simp only [List.cons.injEq, and_true] at hcs
      subst hcs
      exact ⟨.mk z0 z1 z2 s3 s4 [], none, 0, rfl, .nil rfl, .mk hz0 hs4 hs3 (by simp [Prt.items]) (fun x hx => by simp [Prt.items] at hx)⟩
    · simp only [List.cons.injEq, and_true] at hcs
      subst hcs
      have hd1 : x4.1 = .slice (elems.map (·.1)) (rest.map (·.1)) := congrArg Prod.fst hd
      have hwl : len ≤ 281474976710656 := by
        have := hwi 4 27 x4.1 rfl rfl (((elems.map (·.1)).length + (rest.map (·.1)).length) * Tryd.prog.bytesOf 29) (by
          rw [hd1]; simp [DataW.weights, Tryd.underlying27])
        rw [by27, reach_eq] at this
        simp at this
        omega
      have hwd : ∀ i (hi : i < elems.length), ∀ q ∈ (elems[i].1).weights Tryd.prog 29, q ≤ reachBytes := fun i hi q hq => hwi 4 27 x4.1 rfl rfl q (by
        rw [hd1]
        simp only [DataW.weights, Tryd.underlying27, List.mem_cons, List.mem_append]
        exact .inr (.inl (weightsAll_mem (List.mem_map.2 ⟨elems[i], List.getElem_mem hi, rfl⟩) q hq)))
      have hx : ∀ i, i < len → ∃ cs', W.cells? 0 (a.add (i * 6)) 6 = some cs' ∧ ∃ hi : i < elems.length, DataW.trod enc Tryd.prog W 0 (fun _ => true) true n 29 cs' = some elems[i] := by
        intro i hi
        have hie : i < elems.length := by omega
        have h1 := hel i hi
        rw [co27, List.getElem?_eq_getElem hie] at h1
        obtain ⟨cs', q1, q2⟩ := Option.bind_eq_some_iff.1 h1
        exact ⟨cs', q1, hie, q2⟩
      rcases Nat.eq_zero_or_pos len with h0 | h0
      · subst h0
        exact ⟨.mk z0 z1 z2 s3 s4 [], some a, cap, rfl, .nil rfl, .mk hz0 hs4 hs3 (by simp [Prt.items]) (fun x hx => by simp [Prt.items] at hx)⟩
      obtain ⟨b, off, spot⟩ := a
      have hspot : spot = none := by
        obtain ⟨cs', h1, _⟩ := hx 0 (by omega)
        obtain ⟨_, hlen', hcell⟩ := World.cells?_some h1
        have hc := hcell 0 (by omega)
        obtain ⟨c0, c1, c2, c3, c4, c5, rfl⟩ := list_six hlen'
        have := World.cell?_spot hc
        simpa [Addr.add] using this
      subst hspot
      have each : ∀ i, i < len → ∃ y : Prt × Option Addr × Nat, Row6 W b (off + i * 6) y.1 y.2.1 y.2.2 ∧ PIn W 0 W.heap.size y.1 y.2.1 ∧ Fits y.1 := by
        intro i hi
        obtain ⟨cs', h1, hie, h2⟩ := hx i (by omega)
        rw [Go.WideShapes.add_plain] at h1
        obtain ⟨_, hlen', hcell⟩ := World.cells?_some h1
        obtain ⟨p, a', c', e, hp, hfp⟩ := ih n (by omega) cs' elems[i] h2 (hwd i hie)
        subst e
        have k0 := hcell 0 (by simp)
        have k1 := hcell 1 (by simp)
        have k2 := hcell 2 (by simp)
        have k3 := hcell 3 (by simp)
        have k4 := hcell 4 (by simp)
        have k5 := hcell 5 (by simp)
        rw [Go.WideShapes.add_plain] at k0 k1 k2 k3 k4 k5
        refine ⟨(p, a', c'), ⟨?_, ?_, ?_, ?_, ?_, ?_⟩, hp, hfp⟩
        · simpa using k0
        · simpa using k1
        · simpa using k2
        · simpa using k3
        · simpa using k4
        · simpa using k5
      obtain ⟨L, hLl, hLz⟩ := choose_list len each
      refine ⟨.mk z0 z1 z2 s3 s4 (L.map (·.1)), some ⟨b, off, none⟩, cap, ?_, ?_, .mk hz0 hs4 hs3 (by simp [Prt.items, hLl]; omega) (fun x hx => ?_)⟩
      · simp [Prt.kind, Prt.yes, Prt.neg, Prt.mag, Prt.raw, Prt.items, hLl]
      · have hq := (hLz 0 (by omega)).1.c0
        have hblk := World.block_lt_of_cell? W _ hq
        refine .cons (fun j => ((L[j]?).map (·.2.1)).getD none) (fun j => ((L[j]?).map (·.2.2)).getD 0) (by omega) hblk (fun j hj => ?_) (fun j hj => ?_)
        · have hj' : j < L.length := by simpa [Prt.items] using hj
          have := (hLz j hj').1
          simpa [Prt.items, hj'] using this
        · have hj' : j < L.length := by simpa [Prt.items] using hj
          have := (hLz j hj').2.1
          simpa [Prt.items, hj'] using this
      · simp only [Prt.items, List.mem_map] at hx
        obtain ⟨y, hy, rfl⟩ := hx
        obtain ⟨i, hi, rfl⟩ := List.mem_iff_getElem.1 hy
        exact (hLz i hi).2.2

set_option maxRecDepth 20000 in
theorem part_open {H : Type} {enc : TypeId × Value → H} {base : Nat} {W : World} (v : Value) (d : DataW H) (pl : List MemPlace) (hok : Value.okWide Tryd.prog W .any base 29 v)
    (h : DataW.Trod enc Tryd.prog W 0 (fun _ => true) true 29 v d pl) (hw : ∀ n ∈ d.weights Tryd.prog 29, n ≤ reachBytes) : ∃ (p : Prt) (a : Option Addr) (c : Nat), v = pV p a c ∧ PIn W 0 W.heap.size p a ∧ Fits p := by
  obtain ⟨cs, rfl, _⟩ := okWide_struct Tryd.underlying29 hok
  obtain ⟨fuel, hf⟩ := h
  obtain ⟨p, a, c, e, hp, hfp⟩ := part_trod fuel fuel (Nat.le_refl _) _ _ hf hw
  refine ⟨p, a, c, ?_, hp, hfp⟩
  simp only [Value.cells] at e
  unfold pV
  obtain ⟨l⟩ := cs
  simp only at e
  rw [e]
end Go.Proofs.YtnjfkijekohdkaaDoor
