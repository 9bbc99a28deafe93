/- A script that came in, opened: its cells (nothing is claimed here). -/
import Derived.Test.YtjlgmoakdaeinaaDoorExactW
import Derived.Test.YtjlgmoakdaeinaaDoorIntsO
import Derived.ProofKit
import Derived.OpenShut
import Derived.Deep.Slices
namespace Go.Proofs.YtjlgmoakdaeinaaDoor
open Go.ChangeShapes Go.WideShapes Go.ChangeAt Go.RowKit Go.Deep Go.Vf

theorem cells27 : Tryd.prog.cellsOf 27 = 3 := by kernel_rfl
theorem cells9 : Tryd.prog.cellsOf 9 = 1 := by kernel_rfl
theorem cells25 : Tryd.prog.cellsOf 25 = 1 := by kernel_rfl

/-- A list of ints within what came in, by its reading. -/
theorem ints_read {H : Type} {enc : TypeId × Value → H} {W : World} {fuel : Nat} {held : Bool} {v : Value} {x : DataW H × List MemPlace} (h : DataW.trod enc Tryd.prog W 0 (fun _ => true) held fuel 25 [v] = some x) :
    ∃ a c zs, v = .slice a zs.length c ∧ Ints W.heap.size W v zs ∧ zs.length ≤ maxLen := by
  rcases open_slice Tryd.underlying25 h with ⟨hcs, _⟩ | ⟨a, len, cap, m, n, D, Pl, hcs, _, hl, hm, hmm, _, hx⟩
  · have hv : v = .slice none 0 0 := by simpa using hcs
    subst hv
    exact ⟨none, 0, [], rfl, .inl ⟨_, _, rfl, rfl⟩, by simp⟩
  · have hv : v = .slice (some a) len cap := by simpa using hcs
    subst hv
    simp at hmm
    rw [hmm] at hx
    have each : ∀ i, i < len → ∃ z : Int, W.cell? (a.add i) = some (.int .i64 z) := by
      intro i hi
      obtain ⟨cs', h1, h2⟩ := hx i (by omega)
      rw [cells3'] at h1
      obtain ⟨_, hlen, hcell⟩ := World.cells?_some h1
      obtain ⟨z, e, _⟩ := DataW.trod_int Tryd.underlying3 h2
      have := hcell 0 (by omega)
      subst e
      exact ⟨z, by simpa [Addr.add] using this⟩
    obtain ⟨zs, hzl, hz⟩ := choose_list len each
    refine ⟨some a, cap, zs, by rw [hzl], ?_, by omega⟩
    rcases Nat.eq_zero_or_pos len with h0 | h0
    · subst h0
      exact .inl ⟨_, _, rfl, List.eq_nil_of_length_eq_zero hzl⟩
    · obtain ⟨b, off, spot⟩ := a
      have hspot : spot = none := by simpa [Addr.add] using World.cell?_spot (hz 0 h0)
      subst hspot
      refine .inr ⟨b, off, cap, by rw [hzl], ?_, fun j hj => ?_⟩
      · have := World.block_lt_of_cell? W _ (hz 0 h0)
        simpa [Addr.add] using this
      · have := hz j (by omega)
        rwa [Go.WideShapes.add_plain] at this

theorem exact_open {H : Type} {enc : TypeId × Value → H} {base : Nat} (v : Value) (d : DataW H) (pl : List MemPlace) {W : World} (hok : Value.okWide Tryd.prog W .any base 23 v)
    (h : DataW.Trod enc Tryd.prog W 0 (fun _ => true) true 23 v d pl) (W' : World) (ht : Tabs W') (hW : W' = W) :
    Calls Tryd.prog 4 #[v] W' fun e w' => e = .returned (.bool true) ∧ Below W'.heap.size W' w' := by
  subst hW
  obtain ⟨a0, len, cap, rfl⟩ := okWide_slice Tryd.underlying23 hok
  obtain ⟨fuel, hf⟩ := h
  rcases open_slice Tryd.underlying23 hf with ⟨hcs, _⟩ | ⟨a, len', cap', m, n, D, Pl, hcs, _, hl, hm, hmm, _, hx⟩
  · simp [Value.cells] at hcs
    obtain ⟨rfl, rfl, rfl⟩ := hcs
    exact exact_walk none 0 0 (fun _ => 0) (fun _ => ByteArray.empty) (fun _ => none) (fun _ => 0) (fun _ => []) W' ht (by unfold maxLen; omega) (fun h => absurd h (by omega))
  · simp [Value.cells] at hcs
    obtain ⟨rfl, rfl, rfl⟩ := hcs
    simp at hmm
    rw [hmm] at hx
    clear hmm
    have each : ∀ i, i < len → ∃ q : Int × ByteArray × Option Addr × Nat × List Int, W'.cell? (a.add (i * 3)) = some (.int .i64 q.1) ∧ W'.cell? (a.add (i * 3 + 1)) = some (.string q.2.1) ∧ W'.cell? (a.add (i * 3 + 2)) = some (.slice q.2.2.1 q.2.2.2.2.length q.2.2.2.1) ∧
        Ints W'.heap.size W' (.slice q.2.2.1 q.2.2.2.2.length q.2.2.2.1) q.2.2.2.2 ∧ q.2.1.size ≤ maxLen ∧ q.2.2.2.2.length ≤ maxLen := by
      intro i hi
      obtain ⟨cs', h1, h2⟩ := hx i (by omega)
      rw [cells27] at h1
      obtain ⟨_, hlen, hcell⟩ := World.cells?_some h1
      obtain ⟨xs, k, hk, hxy, _, hxl, hff⟩ := DataW.trod_struct Tryd.underlying27 h2
      match xs, hxl, cs', hlen with
      | [y0, y1, y2], _, [v0, v1, v2], _ =>
        have g0 := hff 0 _ rfl
        have g1 := hff 1 _ rfl
        have g2 := hff 2 _ rfl
        simp [cells9, cells3', cells25] at g0 g1 g2
        have e0 := hcell 0 (by omega)
        have e1 := hcell 1 (by omega)
        have e2 := hcell 2 (by omega)
        rw [add_add] at e0 e1 e2
        obtain ⟨n0, z0, _, _⟩ := DataW.trod_int Tryd.underlying3 g0
        obtain ⟨s1, z1, _, b1⟩ := DataW.trod_string Tryd.underlying9 g1
        obtain ⟨xa, xc, zs, hv2, hI2, hz2⟩ := ints_read g2
        simp at z0 z1
        subst z0 z1 hv2
        exact ⟨(n0, s1, xa, xc, zs), by simpa using e0, by simpa using e1, by simpa using e2, hI2, b1, hz2⟩
    obtain ⟨q, hq⟩ := choose_lt each
    refine exact_walk (some a) len cap (fun i => (q i).1) (fun i => (q i).2.1) (fun i => (q i).2.2.1) (fun i => (q i).2.2.2.1) (fun i => (q i).2.2.2.2) W' ht (by omega) (fun hp => ?_)
    obtain ⟨b, off, spot⟩ := a
    have hspot : spot = none := by simpa [Addr.add] using World.cell?_spot (hq 0 hp).1
    subst hspot
    refine ⟨b, off, rfl, ?_, fun i hi => ?_⟩
    · have := World.block_lt_of_cell? W' _ (hq 0 hp).1
      simpa [Addr.add] using this
    · obtain ⟨r0, r1, r2, r3, r4, r5⟩ := hq i hi
      rw [Go.WideShapes.add_plain] at r0 r1 r2
      exact ⟨r0, r1, r2, r3, r4, r5⟩

end Go.Proofs.YtjlgmoakdaeinaaDoor
