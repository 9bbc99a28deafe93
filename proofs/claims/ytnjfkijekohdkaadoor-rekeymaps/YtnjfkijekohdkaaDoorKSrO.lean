/- Sources and numbers that came in, opened: their cells (nothing is claimed here). -/
import Derived.Test.YtnjfkijekohdkaaDoorPrtO
import Derived.Test.YtnjfkijekohdkaaDoorKTup
namespace Go.Proofs.YtnjfkijekohdkaaDoor
open Go.ChangeShapes Go.WideShapes Go.ChangeAt Go.RowKit Go.Deep Go.Vf

theorem co52 : Tryd.prog.cellsOf 52 = 7 := by kernel_rfl
theorem co3 : Tryd.prog.cellsOf 3 = 1 := by kernel_rfl
theorem by52 : Tryd.prog.bytesOf 52 = 80 := by kernel_rfl
theorem by3 : Tryd.prog.bytesOf 3 = 8 := by kernel_rfl
theorem list_seven {α : Type} {l : List α} (h : l.length = 7) : ∃ a b c d e f g, l = [a, b, c, d, e, f, g] := by
  match l, h with
  | [a, b, c, d, e, f, g], _ => exact ⟨a, b, c, d, e, f, g, rfl⟩
set_option maxHeartbeats 1000000 in
set_option maxRecDepth 20000 in
theorem source_trod {H : Type} {enc : TypeId × Value → H} {W : World} (fuel : Nat) (cs : List Value) (x : DataW H × List MemPlace) (h : DataW.trod enc Tryd.prog W 0 (fun _ => true) true fuel 52 cs = some x) (hw : ∀ n ∈ x.1.weights Tryd.prog 52, n ≤ reachBytes) :
    ∃ (f : Int) (p : Prt) (a : Option Addr) (c : Nat), cs = [.int .i64 f, .int .u8 p.kind, .bool p.yes, .bool p.neg, .string p.mag, .string p.raw, .slice a p.items.length c] ∧ PIn W 0 W.heap.size p a ∧ Fits p := by
  obtain ⟨xs, n', hfu, hxe, hcl, hxl, hf⟩ := DataW.trod_struct Tryd.underlying52 h
  have hD : x.1 = .agg (xs.map (·.1)) := congrArg Prod.fst hxe
  rw [co52] at hcl
  obtain ⟨c0, c1, c2, c3, c4, c5, c6, rfl⟩ := list_seven hcl
  obtain ⟨x0, x1, rfl⟩ := list_two hxl
  have g0 : DataW.trod enc Tryd.prog W 0 (fun _ => true) true n' 3 (([c0, c1, c2, c3, c4, c5, c6].drop 0).take (Tryd.prog.cellsOf 3)) = some x0 := hf 0 _ rfl
  have g1 : DataW.trod enc Tryd.prog W 0 (fun _ => true) true n' 29 (([c0, c1, c2, c3, c4, c5, c6].drop 1).take (Tryd.prog.cellsOf 29)) = some x1 := hf 1 _ rfl
  rw [co3] at g0
  rw [co27] at g1
  obtain ⟨z0, e0, _, _⟩ := DataW.trod_int Tryd.underlying3 (show DataW.trod enc Tryd.prog W 0 (fun _ => true) true n' 3 [c0] = some x0 from g0)
  obtain ⟨p, a, c, e1, hp, hfp⟩ := part_trod n' n' (Nat.le_refl _) [c1, c2, c3, c4, c5, c6] x1 g1 (fun q hq => hw q (by
    rw [hD]
    simp only [DataW.weights, Tryd.underlying52]
    exact DataW.weights_mem_each (j := 1) (t := 29) rfl rfl q hq))
  simp only [List.cons.injEq, and_true] at e0
  subst e0
  exact ⟨z0, p, a, c, by rw [e1], hp, hfp⟩
set_option maxHeartbeats 1000000 in
set_option maxRecDepth 20000 in
theorem sources_open {H : Type} {enc : TypeId × Value → H} {base : Nat} {W : World} (v : Value) (d : DataW H) (pl : List MemPlace) (hok : Value.okWide Tryd.prog W .any base 23 v)
    (h : DataW.Trod enc Tryd.prog W 0 (fun _ => true) true 23 v d pl) (hw : ∀ n ∈ d.weights Tryd.prog 23, n ≤ reachBytes) :
    ∃ (l : List (Int × Prt)) (a : Option Addr) (c : Nat), v = .slice a l.length c ∧ SrIn W 0 W.heap.size a l ∧ (∀ x ∈ l, Fits x.2) ∧ l.length ≤ 281474976710656 := by
  have hone : v.cells.toList = [v] := by
    obtain ⟨a, n, c, rfl⟩ := okWide_slice Tryd.underlying23 hok
    rfl
  obtain ⟨fuel, hf⟩ := h
  have g4' : DataW.trod enc Tryd.prog W 0 (fun _ => true) true fuel 23 [v] = some (d, pl) := by rw [← hone]; exact hf
  rcases DataW.trod_slice Tryd.underlying23 g4' with ⟨hcs, _⟩ | ⟨a, len, cap, elems, rest, n, hfn, hcs, hd, _, hl, hm, hlen, hel, hsp, hns⟩
  · simp only [List.cons.injEq, and_true] at hcs
    subst hcs
    exact ⟨[], none, 0, rfl, (fun j hj => absurd hj (by simp)), (fun x hx => by cases hx), Nat.zero_le _⟩
  · simp only [List.cons.injEq, and_true] at hcs
    subst hcs
    have hd1 : d = .slice (elems.map (·.1)) (rest.map (·.1)) := congrArg Prod.fst hd
    have hwl : len ≤ 281474976710656 := by
      have := hw (((elems.map (·.1)).length + (rest.map (·.1)).length) * Tryd.prog.bytesOf 52) (by
        rw [hd1]; simp [DataW.weights, Tryd.underlying23])
      rw [by52, reach_eq] at this
      simp at this
      omega
    have hwd : ∀ i (hi : i < elems.length), ∀ q ∈ (elems[i].1).weights Tryd.prog 52, q ≤ reachBytes := fun i hi q hq => hw q (by
      rw [hd1]
      simp only [DataW.weights, Tryd.underlying23, List.mem_cons, List.mem_append]
      exact .inr (.inl (weightsAll_mem (List.mem_map.2 ⟨elems[i], List.getElem_mem hi, rfl⟩) q hq)))
    have hx : ∀ i, i < len → ∃ cs', W.cells? 0 (a.add (i * 7)) 7 = some cs' ∧ ∃ hi : i < elems.length, DataW.trod enc Tryd.prog W 0 (fun _ => true) true n 52 cs' = some elems[i] := by
      intro i hi
      have hie : i < elems.length := by omega
      have h1 := hel i hi
      rw [co52, List.getElem?_eq_getElem hie] at h1
      obtain ⟨cs', q1, q2⟩ := Option.bind_eq_some_iff.1 h1
      exact ⟨cs', q1, hie, q2⟩
    rcases Nat.eq_zero_or_pos len with h0 | h0
    · subst h0
      exact ⟨[], some a, cap, rfl, (fun j hj => absurd hj (by simp)), (fun x hx => by cases hx), Nat.zero_le _⟩
    obtain ⟨b, off, spot⟩ := a
    have hspot : spot = none := by
      obtain ⟨cs', h1, _⟩ := hx 0 (by omega)
      obtain ⟨_, hlen', hcell⟩ := World.cells?_some h1
      have hc := hcell 0 (by omega)
      obtain ⟨c0, c1, c2, c3, c4, c5, c6, rfl⟩ := list_seven hlen'
      have := World.cell?_spot hc
      simpa [Addr.add] using this
    subst hspot
    have each : ∀ i, i < len → ∃ y : (Int × Prt) × Option Addr × Nat, (W.cell? ⟨b, off + i * 7, none⟩ = some (.int .i64 y.1.1) ∧ W.cell? ⟨b, off + i * 7 + 1, none⟩ = some (.int .u8 y.1.2.kind) ∧ W.cell? ⟨b, off + i * 7 + 2, none⟩ = some (.bool y.1.2.yes) ∧ W.cell? ⟨b, off + i * 7 + 3, none⟩ = some (.bool y.1.2.neg) ∧ W.cell? ⟨b, off + i * 7 + 4, none⟩ = some (.string y.1.2.mag) ∧ W.cell? ⟨b, off + i * 7 + 5, none⟩ = some (.string y.1.2.raw) ∧ W.cell? ⟨b, off + i * 7 + 6, none⟩ = some (.slice y.2.1 y.1.2.items.length y.2.2)) ∧ PIn W 0 W.heap.size y.1.2 y.2.1 ∧ Fits y.1.2 := by
      intro i hi
      obtain ⟨cs', h1, hie, h2⟩ := hx i (by omega)
      rw [Go.WideShapes.add_plain] at h1
      obtain ⟨_, hlen', hcell⟩ := World.cells?_some h1
      obtain ⟨f, p, a', c', e, hp, hfp⟩ := source_trod n cs' elems[i] h2 (hwd i hie)
      subst e
      have k0 := hcell 0 (by simp)
      have k1 := hcell 1 (by simp)
      have k2 := hcell 2 (by simp)
      have k3 := hcell 3 (by simp)
      have k4 := hcell 4 (by simp)
      have k5 := hcell 5 (by simp)
      have k6 := hcell 6 (by simp)
      rw [Go.WideShapes.add_plain] at k0 k1 k2 k3 k4 k5 k6
      refine ⟨((f, p), a', c'), ⟨?_, ?_, ?_, ?_, ?_, ?_, ?_⟩, hp, hfp⟩
      · simpa using k0
      · simpa using k1
      · simpa using k2
      · simpa using k3
      · simpa using k4
      · simpa using k5
      · simpa using k6
    obtain ⟨L, hLl, hLz⟩ := choose_list len each
    refine ⟨L.map (·.1), some ⟨b, off, none⟩, cap, by simp [hLl], fun j hj => ?_, fun x hx => ?_, by simp [hLl]; omega⟩
    · have hj' : j < L.length := by simpa using hj
      obtain ⟨⟨q0, q1, q2, q3, q4, q5, q6⟩, hp, _⟩ := hLz j hj'
      have hblk := World.block_lt_of_cell? W _ q0
      have e : (L.map (·.1))[j] = L[j].1 := by simp
      rw [e]
      exact ⟨b, off, L[j].2.1, L[j].2.2, rfl, hblk, q0, q1, q2, q3, q4, q5, q6, hp⟩
    · simp only [List.mem_map] at hx
      obtain ⟨y, hy, rfl⟩ := hx
      obtain ⟨i, hi, rfl⟩ := List.mem_iff_getElem.1 hy
      exact (hLz i hi).2.2
/-- Numbers in memory. -/
def InsIn (w : World) (n₀ : Nat) (a : Option Addr) (zs : List Int) : Prop := ∀ j (hj : j < zs.length), ∃ b off, a = some ⟨b, off, none⟩ ∧ b < n₀ ∧ w.cell? ⟨b, off + j, none⟩ = some (.int .i64 zs[j])
theorem InsIn.keep {w w' : World} {n₀ n : Nat} {a : Option Addr} {zs : List Int} (h : InsIn w n₀ a zs) (hb : Below n w w') (hn : n₀ ≤ n) : InsIn w' n₀ a zs := fun j hj => by
  obtain ⟨b, off, e, hbn, c0⟩ := h j hj
  exact ⟨b, off, e, hbn, (hb.cell (p := ⟨b, off + j, none⟩) (show b < n by omega)).trans c0⟩
set_option maxHeartbeats 1000000 in
set_option maxRecDepth 20000 in
theorem ints_open {H : Type} {enc : TypeId × Value → H} {base : Nat} {W : World} (v : Value) (d : DataW H) (pl : List MemPlace) (hok : Value.okWide Tryd.prog W .any base 38 v)
    (h : DataW.Trod enc Tryd.prog W 0 (fun _ => true) true 38 v d pl) (hw : ∀ n ∈ d.weights Tryd.prog 38, n ≤ reachBytes) :
    ∃ (zs : List Int) (a : Option Addr) (c : Nat), v = .slice a zs.length c ∧ InsIn W W.heap.size a zs ∧ (∀ z ∈ zs, -9223372036854775808 ≤ z ∧ z ≤ 9223372036854775807) ∧ zs.length ≤ 281474976710656 := by
  have hone : v.cells.toList = [v] := by
    obtain ⟨a, n, c, rfl⟩ := okWide_slice Tryd.underlying38 hok
    rfl
  obtain ⟨fuel, hf⟩ := h
  have g4' : DataW.trod enc Tryd.prog W 0 (fun _ => true) true fuel 38 [v] = some (d, pl) := by rw [← hone]; exact hf
  rcases DataW.trod_slice Tryd.underlying38 g4' with ⟨hcs, _⟩ | ⟨a, len, cap, elems, rest, n, hfn, hcs, hd, _, hl, hm, hlen, hel, hsp, hns⟩
  · simp only [List.cons.injEq, and_true] at hcs
    subst hcs
    exact ⟨[], none, 0, rfl, (fun j hj => absurd hj (by simp)), (fun x hx => by cases hx), Nat.zero_le _⟩
  · simp only [List.cons.injEq, and_true] at hcs
    subst hcs
    have hd1 : d = .slice (elems.map (·.1)) (rest.map (·.1)) := congrArg Prod.fst hd
    have hwl : len ≤ 281474976710656 := by
      have := hw (((elems.map (·.1)).length + (rest.map (·.1)).length) * Tryd.prog.bytesOf 3) (by
        rw [hd1]; simp [DataW.weights, Tryd.underlying38])
      rw [by3, reach_eq] at this
      simp at this
      omega
    have hx : ∀ i, i < len → ∃ cs', W.cells? 0 (a.add (i * 1)) 1 = some cs' ∧ ∃ hi : i < elems.length, DataW.trod enc Tryd.prog W 0 (fun _ => true) true n 3 cs' = some elems[i] := by
      intro i hi
      have hie : i < elems.length := by omega
      have h1 := hel i hi
      rw [co3, List.getElem?_eq_getElem hie] at h1
      obtain ⟨cs', q1, q2⟩ := Option.bind_eq_some_iff.1 h1
      exact ⟨cs', q1, hie, q2⟩
    rcases Nat.eq_zero_or_pos len with h0 | h0
    · subst h0
      exact ⟨[], some a, cap, rfl, (fun j hj => absurd hj (by simp)), (fun x hx => by cases hx), Nat.zero_le _⟩
    obtain ⟨b, off, spot⟩ := a
    have hspot : spot = none := by
      obtain ⟨cs', h1, _, h2⟩ := hx 0 (by omega)
      obtain ⟨_, hlen', hcell⟩ := World.cells?_some h1
      obtain ⟨z, e, _, hwf⟩ := DataW.trod_int Tryd.underlying3 h2
      have hc := hcell 0 (by omega)
      subst e
      have := World.cell?_spot hc
      simpa [Addr.add] using this
    subst hspot
    have each : ∀ i, i < len → ∃ z : Int, W.cell? ⟨b, off + i, none⟩ = some (.int .i64 z) ∧ -9223372036854775808 ≤ z ∧ z ≤ 9223372036854775807 := by
      intro i hi
      obtain ⟨cs', h1, hie, h2⟩ := hx i (by omega)
      rw [Go.WideShapes.add_plain] at h1
      obtain ⟨_, hlen', hcell⟩ := World.cells?_some h1
      obtain ⟨z, e, _, hwf⟩ := DataW.trod_int Tryd.underlying3 h2
      have hc := hcell 0 (by omega)
      subst e
      rw [Go.WideShapes.add_plain] at hc
      have hb := bounds_i64 hwf
      exact ⟨z, by simpa using hc, by omega, by omega⟩
    obtain ⟨L, hLl, hLz⟩ := choose_list len each
    refine ⟨L, some ⟨b, off, none⟩, cap, by rw [hLl], fun j hj => ?_, fun x hx => ?_, by omega⟩
    · exact ⟨b, off, rfl, World.block_lt_of_cell? W _ (hLz j hj).1, (hLz j hj).1⟩
    · obtain ⟨i, hi, rfl⟩ := List.mem_iff_getElem.1 hx
      exact (hLz i hi).2
end Go.Proofs.YtnjfkijekohdkaaDoor
