/- A list of parts that came in, opened; ValueOf for any such list (contracts; nothing is claimed here). -/
import Derived.Test.YtedmmifflbnmbaaOfW
import Derived.Test.YtedmmifflbnmbaaPrtO
namespace Go.Proofs.Ytedmmifflbnmbaa
open Go.ChangeShapes Go.WideShapes Go.ChangeAt Go.RowKit Go.Deep Go.Vf
set_option maxHeartbeats 1000000 in
set_option maxRecDepth 20000 in
theorem list_open {H : Type} {enc : TypeId × Value → H} {W : World} (v : Value) (d : DataW H) (pl : List MemPlace) (hone : v.cells.toList = [v])
    (h : DataW.Trod enc Try.prog W 0 (fun _ => true) true 25 v d pl) (hw : ∀ n ∈ d.weights Try.prog 25, n ≤ reachBytes) :
    ∃ (l : List Prt) (a : Option Addr) (c : Nat), v = .slice a l.length c ∧ PIn W 0 W.heap.size (tupP l) a ∧ (∀ x ∈ l, Fits x) ∧ l.length ≤ 281474976710656 := by
  obtain ⟨fuel, hf⟩ := h
  have g4' : DataW.trod enc Try.prog W 0 (fun _ => true) true fuel 25 [v] = some (d, pl) := by rw [← hone]; exact hf
  rcases DataW.trod_slice Try.underlying25 g4' with ⟨hcs, _⟩ | ⟨a, len, cap, elems, rest, n, hfn, hcs, hd, _, hl, hm, hlen, hel, hsp, hns⟩
  · simp only [List.cons.injEq, and_true] at hcs
    subst hcs
    exact ⟨[], none, 0, rfl, .nil rfl, (fun x hx => by cases hx), Nat.zero_le _⟩
  · simp only [List.cons.injEq, and_true] at hcs
    subst hcs
    have hd1 : d = .slice (elems.map (·.1)) (rest.map (·.1)) := congrArg Prod.fst hd
    have hwl : len ≤ 281474976710656 := by
      have := hw (((elems.map (·.1)).length + (rest.map (·.1)).length) * Try.prog.bytesOf 27) (by
        rw [hd1]; simp [DataW.weights, Try.underlying25])
      rw [by27, reach_eq] at this
      simp at this
      omega
    have hwd : ∀ i (hi : i < elems.length), ∀ q ∈ (elems[i].1).weights Try.prog 27, q ≤ reachBytes := fun i hi q hq => hw q (by
      rw [hd1]
      simp only [DataW.weights, Try.underlying25, List.mem_cons, List.mem_append]
      exact .inr (.inl (weightsAll_mem (List.mem_map.2 ⟨elems[i], List.getElem_mem hi, rfl⟩) q hq)))
    have hx : ∀ i, i < len → ∃ cs', W.cells? 0 (a.add (i * 6)) 6 = some cs' ∧ ∃ hi : i < elems.length, DataW.trod enc Try.prog W 0 (fun _ => true) true n 27 cs' = some elems[i] := by
      intro i hi
      have hie : i < elems.length := by omega
      have h1 := hel i hi
      rw [co27, List.getElem?_eq_getElem hie] at h1
      obtain ⟨cs', q1, q2⟩ := Option.bind_eq_some_iff.1 h1
      exact ⟨cs', q1, hie, q2⟩
    rcases Nat.eq_zero_or_pos len with h0 | h0
    · subst h0
      exact ⟨[], some a, cap, rfl, .nil rfl, (fun x hx => by cases hx), Nat.zero_le _⟩
    obtain ⟨b, off, spot⟩ := a
    have hspot : spot = none := by
      obtain ⟨cs', h1, _⟩ := hx 0 (by omega)
      obtain ⟨_, hlen', hcell⟩ := World.cells?_some h1
      have hc := hcell 0 (by omega)
      obtain ⟨c0, c1, c2, c3, c4, c5, rfl⟩ := list_six hlen'
      have := World.cell?_spot hc
      simpa [Addr.add] using this
    subst hspot
    have each : ∀ i, i < len → ∃ y : Prt × Option Addr × Nat, Row6 W b (off + i * 6) y.1 y.2.1 y.2.2 ∧ PIn W 0 W.heap.size y.1 y.2.1 ∧ Fits y.1 := by
      intro i hi
      obtain ⟨cs', h1, hie, h2⟩ := hx i (by omega)
      rw [Go.WideShapes.add_plain] at h1
      obtain ⟨_, hlen', hcell⟩ := World.cells?_some h1
      obtain ⟨p, a', c', e, hp, hfp⟩ := part_trod n n (Nat.le_refl _) cs' elems[i] h2 (hwd i hie)
      subst e
      have k0 := hcell 0 (by simp)
      have k1 := hcell 1 (by simp)
      have k2 := hcell 2 (by simp)
      have k3 := hcell 3 (by simp)
      have k4 := hcell 4 (by simp)
      have k5 := hcell 5 (by simp)
      rw [Go.WideShapes.add_plain] at k0 k1 k2 k3 k4 k5
      refine ⟨(p, a', c'), ⟨?_, ?_, ?_, ?_, ?_, ?_⟩, hp, hfp⟩
      · simpa using k0
      · simpa using k1
      · simpa using k2
      · simpa using k3
      · simpa using k4
      · simpa using k5
    obtain ⟨L, hLl, hLz⟩ := choose_list len each
    refine ⟨L.map (·.1), some ⟨b, off, none⟩, cap, by simp [hLl], ?_, fun x hx => ?_, by simp [hLl]; omega⟩
    · have hq := (hLz 0 (by omega)).1.c0
      have hblk := World.block_lt_of_cell? W _ hq
      refine .cons (fun j => ((L[j]?).map (·.2.1)).getD none) (fun j => ((L[j]?).map (·.2.2)).getD 0) (by omega) hblk (fun j hj => ?_) (fun j hj => ?_)
      · have hj' : j < L.length := by simpa [tupP, Prt.items] using hj
        have := (hLz j hj').1
        simpa [tupP, Prt.items, hj'] using this
      · have hj' : j < L.length := by simpa [tupP, Prt.items] using hj
        have := (hLz j hj').2.1
        simpa [tupP, Prt.items, hj'] using this
    · simp only [List.mem_map] at hx
      obtain ⟨y, hy, rfl⟩ := hx
      obtain ⟨i, hi, rfl⟩ := List.mem_iff_getElem.1 hy
      exact (hLz i hi).2.2
theorem vof_open {H : Type} {enc : TypeId × Value → H} {base : Nat} {W : World} (v : Value) (d : DataW H) (pl : List MemPlace) (hok : Value.okWide Try.prog W .any base 25 v)
    (h : DataW.Trod enc Try.prog W 0 (fun _ => true) true 25 v d pl) (hw : ∀ n ∈ d.weights Try.prog 25, n ≤ reachBytes) : Calls Try.prog 4 #[v] W fun e w' => e = .returned (.bool true) ∧ Below W.heap.size W w' := by
  have hone : v.cells.toList = [v] := by
    obtain ⟨a, n, c, rfl⟩ := okWide_slice Try.underlying25 hok
    rfl
  obtain ⟨l, a, c, rfl, hp, hf, hl⟩ := list_open v d pl hone h hw
  exact vof_any l hf hl a c W hp
end Go.Proofs.Ytedmmifflbnmbaa
