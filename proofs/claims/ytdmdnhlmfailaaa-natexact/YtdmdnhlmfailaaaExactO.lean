/- A script that came in, opened: its cells (nothing is claimed here). -/
import Derived.Test.YtdmdnhlmfailaaaExactW
import Derived.ProofKit
import Derived.OpenShut
import Derived.Deep.Slices
namespace Go.Proofs.Ytdmdnhlmfailaaa
open Go.ChangeShapes Go.WideShapes Go.ChangeAt Go.RowKit Go.Deep Go.Vf

theorem cells28 : Try.prog.cellsOf 28 = 7 := by kernel_rfl
theorem cells26 : Try.prog.cellsOf 26 = 2 := by kernel_rfl
theorem cells9 : Try.prog.cellsOf 9 = 1 := by kernel_rfl
theorem cells4 : Try.prog.cellsOf 4 = 1 := by kernel_rfl
theorem cells3 : Try.prog.cellsOf 3 = 1 := by kernel_rfl

theorem num_cells {H : Type} {enc : TypeId × Value → H} {W : World} {fuel : Nat} {u v : Value} {y : DataW H × List MemPlace} (h : DataW.trod enc Try.prog W 0 (fun _ => true) true fuel 26 [u, v] = some y) :
    ∃ (p : Bool) (m : ByteArray), u = .bool p ∧ v = .string m ∧ m.size ≤ maxLen := by
  obtain ⟨xs, k, hk, hxy, _, hxl, hff⟩ := DataW.trod_struct Try.underlying26 h
  match xs, hxl with
  | [y0, y1], _ =>
    have g0 := hff 0 _ rfl
    have g1 := hff 1 _ rfl
    simp [cells9, cells4] at g0 g1
    obtain ⟨p, z0, _⟩ := DataW.trod_bool Try.underlying4 g0
    obtain ⟨m, z1, _, b1⟩ := DataW.trod_string Try.underlying9 g1
    simp at z0 z1
    exact ⟨p, m, z0, z1, b1⟩

theorem exact_open {H : Type} {enc : TypeId × Value → H} {base : Nat} (v : Value) (d : DataW H) (pl : List MemPlace) {W : World} (hok : Value.okWide Try.prog W .any base 23 v)
    (h : DataW.Trod enc Try.prog W 0 (fun _ => true) true 23 v d pl) (W' : World) (hW : W' = W) :
    Calls Try.prog 4 #[v] W' fun e w' => e = .returned (.bool true) ∧ Below W'.heap.size W' w' := by
  subst hW
  obtain ⟨a0, len, cap, rfl⟩ := okWide_slice Try.underlying23 hok
  obtain ⟨fuel, hf⟩ := h
  rcases open_slice Try.underlying23 hf with ⟨hcs, _⟩ | ⟨a, len', cap', m, n, D, Pl, hcs, _, hl, hm, hmm, _, hx⟩
  · simp [Value.cells] at hcs
    obtain ⟨rfl, rfl, rfl⟩ := hcs
    exact exact_walk none 0 0 (fun _ => 0) (fun _ => 0) (fun _ => false) (fun _ => false) (fun _ => ByteArray.empty) (fun _ => ByteArray.empty) (fun _ => ByteArray.empty) W' (by unfold maxLen; omega) (fun h => absurd h (by omega))
  · simp [Value.cells] at hcs
    obtain ⟨rfl, rfl, rfl⟩ := hcs
    simp at hmm
    rw [hmm] at hx
    clear hmm
    have each : ∀ i, i < len → ∃ q : (Int × Bool × ByteArray) × (Bool × ByteArray) × ByteArray × Int, W'.cell? (a.add (i * 7)) = some (.int .i64 q.1.1) ∧ W'.cell? (a.add (i * 7 + 1)) = some (.bool q.1.2.1) ∧ W'.cell? (a.add (i * 7 + 2)) = some (.string q.1.2.2) ∧ W'.cell? (a.add (i * 7 + 3)) = some (.bool q.2.1.1) ∧ W'.cell? (a.add (i * 7 + 4)) = some (.string q.2.1.2) ∧ W'.cell? (a.add (i * 7 + 5)) = some (.string q.2.2.1) ∧ W'.cell? (a.add (i * 7 + 6)) = some (.int .i64 q.2.2.2) ∧
        q.1.2.2.size ≤ maxLen ∧ q.2.1.2.size ≤ maxLen ∧ q.2.2.1.size ≤ maxLen ∧ -9223372036854775808 ≤ q.2.2.2 ∧ q.2.2.2 ≤ 9223372036854775807 := by
      intro i hi
      obtain ⟨cs', h1, h2⟩ := hx i (by omega)
      rw [cells28] at h1
      obtain ⟨_, hlen, hcell⟩ := World.cells?_some h1
      obtain ⟨xs, k, hk, hxy, _, hxl, hff⟩ := DataW.trod_struct Try.underlying28 h2
      match xs, hxl, cs', hlen with
      | [y0, y1, y2, y3, y4], _, [v0, v1, v2, v3, v4, v5, v6], _ =>
        have g0 := hff 0 _ rfl
        have g1 := hff 1 _ rfl
        have g2 := hff 2 _ rfl
        have g3 := hff 3 _ rfl
        have g4 := hff 4 _ rfl
        simp [cells9, cells3, cells26] at g0 g1 g2 g3 g4
        have e0 := hcell 0 (by omega)
        have e1 := hcell 1 (by omega)
        have e2 := hcell 2 (by omega)
        have e3 := hcell 3 (by omega)
        have e4 := hcell 4 (by omega)
        have e5 := hcell 5 (by omega)
        have e6 := hcell 6 (by omega)
        rw [add_add] at e0 e1 e2 e3 e4 e5 e6
        obtain ⟨n0, z0, _, _⟩ := DataW.trod_int Try.underlying3 g0
        obtain ⟨p1, m1, w1, w2, b1⟩ := num_cells g1
        obtain ⟨p2, m2, w3, w4, b2⟩ := num_cells g2
        obtain ⟨s3, z3, _, b3⟩ := DataW.trod_string Try.underlying9 g3
        obtain ⟨n4, z4, _, hwf⟩ := DataW.trod_int Try.underlying3 g4
        simp at z0 z3 z4
        subst z0 z3 z4 w1 w2 w3 w4
        obtain ⟨t1, t2⟩ := wf64 hwf
        exact ⟨((n0, p1, m1), (p2, m2), s3, n4), by simpa using e0, by simpa using e1, by simpa using e2, by simpa using e3, by simpa using e4, by simpa using e5, by simpa using e6, b1, b2, b3, t1, t2⟩
    obtain ⟨q, hq⟩ := choose_lt each
    refine exact_walk (some a) len cap (fun i => (q i).1.1) (fun i => (q i).2.2.2) (fun i => (q i).1.2.1) (fun i => (q i).2.1.1) (fun i => (q i).1.2.2) (fun i => (q i).2.1.2) (fun i => (q i).2.2.1) W' (by omega) (fun hp => ?_)
    obtain ⟨b, off, spot⟩ := a
    have hspot : spot = none := by simpa [Addr.add] using World.cell?_spot (hq 0 hp).1
    subst hspot
    refine ⟨b, off, rfl, ?_, fun i hi => ?_⟩
    · have := World.block_lt_of_cell? W' _ (hq 0 hp).1
      simpa [Addr.add] using this
    · obtain ⟨r0, r1, r2, r3, r4, r5, r6, r7, r8, r9, r10, r11⟩ := hq i hi
      rw [Go.WideShapes.add_plain] at r0 r1 r2 r3 r4 r5 r6
      exact ⟨r0, r1, r2, r3, r4, r5, r6, r7, r8, r9, r10, r11⟩
end Go.Proofs.Ytdmdnhlmfailaaa
