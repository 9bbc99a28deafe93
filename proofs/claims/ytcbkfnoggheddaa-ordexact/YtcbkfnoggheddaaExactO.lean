/- A script that came in, opened: its cells. -/
import Derived.Test.YtcbkfnoggheddaaExactW
import Derived.ProofKit
import Derived.OpenShut
import Derived.Deep.Slices
namespace Go.Proofs.Ytcbkfnoggheddaa
open Go.ChangeShapes Go.WideShapes Go.ChangeAt Go.RowKit Go.Deep Go.Vf

theorem cells26 : Try.prog.cellsOf 26 = 4 := by kernel_rfl
theorem cells9 : Try.prog.cellsOf 9 = 1 := by kernel_rfl
theorem cells3 : Try.prog.cellsOf 3 = 1 := by kernel_rfl

theorem exact_open {H : Type} {enc : TypeId × Value → H} {base : Nat} (v : Value) (d : DataW H) (pl : List MemPlace) {W : World} (hok : Value.okWide Try.prog W .any base 23 v)
    (h : DataW.Trod enc Try.prog W 0 (fun _ => true) true 23 v d pl) (W' : World) (hW : W' = W) :
    Calls Try.prog 4 #[v] W' fun e w' => e = .returned (.bool true) ∧ Below W'.heap.size W' w' := by
  subst hW
  obtain ⟨a0, len, cap, rfl⟩ := okWide_slice Try.underlying23 hok
  obtain ⟨fuel, hf⟩ := h
  rcases open_slice Try.underlying23 hf with ⟨hcs, _⟩ | ⟨a, len', cap', m, n, D, Pl, hcs, _, hl, hm, hmm, _, hx⟩
  · simp [Value.cells] at hcs
    obtain ⟨rfl, rfl, rfl⟩ := hcs
    exact exact_walk none 0 0 (fun _ => 0) (fun _ => 0) (fun _ => ByteArray.empty) (fun _ => ByteArray.empty) W' (by unfold maxLen; omega) (fun h => absurd h (by omega))
  · simp [Value.cells] at hcs
    obtain ⟨rfl, rfl, rfl⟩ := hcs
    simp at hmm
    rw [hmm] at hx
    clear hmm
    have each : ∀ i, i < len → ∃ q : Int × ByteArray × ByteArray × Int, W'.cell? (a.add (i * 4)) = some (.int .i64 q.1) ∧ W'.cell? (a.add (i * 4 + 1)) = some (.string q.2.1) ∧ W'.cell? (a.add (i * 4 + 2)) = some (.string q.2.2.1) ∧ W'.cell? (a.add (i * 4 + 3)) = some (.int .i64 q.2.2.2) ∧ q.2.1.size ≤ maxLen ∧ q.2.2.1.size ≤ maxLen := by
      intro i hi
      obtain ⟨cs', h1, h2⟩ := hx i (by omega)
      rw [cells26] at h1
      obtain ⟨_, hlen, hcell⟩ := World.cells?_some h1
      obtain ⟨xs, k, hk, hxy, _, hxl, hff⟩ := DataW.trod_struct Try.underlying26 h2
      match xs, hxl, cs', hlen with
      | [y0, y1, y2, y3], _, [v0, v1, v2, v3], _ =>
        have g0 := hff 0 _ rfl
        have g1 := hff 1 _ rfl
        have g2 := hff 2 _ rfl
        have g3 := hff 3 _ rfl
        simp [cells9, cells3] at g0 g1 g2 g3
        have e0 := hcell 0 (by omega)
        have e1 := hcell 1 (by omega)
        have e2 := hcell 2 (by omega)
        have e3 := hcell 3 (by omega)
        rw [add_add] at e0 e1 e2 e3
        obtain ⟨n0, z0, _, _⟩ := DataW.trod_int Try.underlying3 g0
        obtain ⟨s1, z1, _, b1⟩ := DataW.trod_string Try.underlying9 g1
        obtain ⟨s2, z2, _, b2⟩ := DataW.trod_string Try.underlying9 g2
        obtain ⟨n3, z3, _, _⟩ := DataW.trod_int Try.underlying3 g3
        simp at z0 z1 z2 z3
        subst z0 z1 z2 z3
        exact ⟨(n0, s1, s2, n3), by simpa using e0, by simpa using e1, by simpa using e2, by simpa using e3, b1, b2⟩
    obtain ⟨q, hq⟩ := choose_lt each
    refine exact_walk (some a) len cap (fun i => (q i).1) (fun i => (q i).2.2.2) (fun i => (q i).2.1) (fun i => (q i).2.2.1) W' (by omega) (fun hp => ?_)
    obtain ⟨b, off, spot⟩ := a
    have hspot : spot = none := by simpa [Addr.add] using World.cell?_spot (hq 0 hp).1
    subst hspot
    refine ⟨b, off, rfl, ?_, fun i hi => ?_⟩
    · have := World.block_lt_of_cell? W' _ (hq 0 hp).1
      simpa [Addr.add] using this
    · obtain ⟨r0, r1, r2, r3, r4, r5⟩ := hq i hi
      rw [Go.WideShapes.add_plain] at r0 r1 r2 r3
      exact ⟨r0, r1, r2, r3, r4, r5⟩
end Go.Proofs.Ytcbkfnoggheddaa
