/- Calls that came in, opened: all their cells (nothing is claimed here). -/
import Derived.Test.YtklnnkdcnaieoaaAco
import Derived.Test.YtklnnkdcnaieoaaBxs
namespace Go.Proofs.Ytklnnkdcnaieoaa
open Go.ChangeShapes Go.WideShapes Go.ChangeAt Go.RowKit Go.Deep Go.Vf

theorem co4 : Try.prog.cellsOf 4 = 1 := by kernel_rfl
def Ca.ac (x : Ca) : Ac := ⟨x.kind, x.key, x.val, x.f, x.t⟩
theorem call_trod {H : Type} {enc : TypeId × Value → H} {W : World} (n : Nat) (cs : List Value) (x : DataW H × List MemPlace) (h : DataW.trod enc Try.prog W 0 (fun _ => true) true n 31 cs = some x) :
    ∃ y : Ca, cs = y.cells.toList := by
  obtain ⟨xs, n', hfu, hxe, hcl, hxl, hf⟩ := DataW.trod_struct Try.underlying31 h
  rw [co31] at hcl
  obtain ⟨c0, c1, c2, c3, c4, c5, c6, c7, c8, rfl⟩ := list_nine hcl
  obtain ⟨x0, x1, x2, x3, x4, x5, x6, rfl⟩ := list_seven hxl
  have g0 : DataW.trod enc Try.prog W 0 (fun _ => true) true n' 3 (([c0, c1, c2, c3, c4, c5, c6, c7, c8].drop 0).take (Try.prog.cellsOf 3)) = some x0 := hf 0 _ rfl
  have g1 : DataW.trod enc Try.prog W 0 (fun _ => true) true n' 4 (([c0, c1, c2, c3, c4, c5, c6, c7, c8].drop 1).take (Try.prog.cellsOf 4)) = some x1 := hf 1 _ rfl
  have g2 : DataW.trod enc Try.prog W 0 (fun _ => true) true n' 9 (([c0, c1, c2, c3, c4, c5, c6, c7, c8].drop 2).take (Try.prog.cellsOf 9)) = some x2 := hf 2 _ rfl
  have g3 : DataW.trod enc Try.prog W 0 (fun _ => true) true n' 9 (([c0, c1, c2, c3, c4, c5, c6, c7, c8].drop 3).take (Try.prog.cellsOf 9)) = some x3 := hf 3 _ rfl
  have g4 : DataW.trod enc Try.prog W 0 (fun _ => true) true n' 29 (([c0, c1, c2, c3, c4, c5, c6, c7, c8].drop 4).take (Try.prog.cellsOf 29)) = some x4 := hf 4 _ rfl
  have g5 : DataW.trod enc Try.prog W 0 (fun _ => true) true n' 4 (([c0, c1, c2, c3, c4, c5, c6, c7, c8].drop 7).take (Try.prog.cellsOf 4)) = some x5 := hf 5 _ rfl
  have g6 : DataW.trod enc Try.prog W 0 (fun _ => true) true n' 3 (([c0, c1, c2, c3, c4, c5, c6, c7, c8].drop 8).take (Try.prog.cellsOf 3)) = some x6 := hf 6 _ rfl
  rw [co3] at g0 g6
  rw [co4] at g1 g5
  rw [co9] at g2 g3
  rw [co29] at g4
  obtain ⟨z0, e0, _, _⟩ := DataW.trod_int Try.underlying3 (show DataW.trod enc Try.prog W 0 (fun _ => true) true n' 3 [c0] = some x0 from g0)
  obtain ⟨z8, e8, _, _⟩ := DataW.trod_int Try.underlying3 (show DataW.trod enc Try.prog W 0 (fun _ => true) true n' 3 [c8] = some x6 from g6)
  obtain ⟨z1, e1, _⟩ := DataW.trod_bool Try.underlying4 (show DataW.trod enc Try.prog W 0 (fun _ => true) true n' 4 [c1] = some x1 from g1)
  obtain ⟨z7, e7, _⟩ := DataW.trod_bool Try.underlying4 (show DataW.trod enc Try.prog W 0 (fun _ => true) true n' 4 [c7] = some x5 from g5)
  obtain ⟨z2, e2, _, s2⟩ := DataW.trod_string Try.underlying9 (show DataW.trod enc Try.prog W 0 (fun _ => true) true n' 9 [c2] = some x2 from g2)
  obtain ⟨z3, e3, _, s3⟩ := DataW.trod_string Try.underlying9 (show DataW.trod enc Try.prog W 0 (fun _ => true) true n' 9 [c3] = some x3 from g3)
  obtain ⟨ys, n2, _, _, _, hyl, hy⟩ := DataW.trod_struct Try.underlying29 (show DataW.trod enc Try.prog W 0 (fun _ => true) true n' 29 [c4, c5, c6] = some x4 from g4)
  obtain ⟨y0, y1, y2, rfl⟩ := list_three hyl
  have k0 : DataW.trod enc Try.prog W 0 (fun _ => true) true n2 9 (([c4, c5, c6].drop 0).take (Try.prog.cellsOf 9)) = some y0 := hy 0 _ rfl
  have k1 : DataW.trod enc Try.prog W 0 (fun _ => true) true n2 9 (([c4, c5, c6].drop 1).take (Try.prog.cellsOf 9)) = some y1 := hy 1 _ rfl
  have k2 : DataW.trod enc Try.prog W 0 (fun _ => true) true n2 4 (([c4, c5, c6].drop 2).take (Try.prog.cellsOf 4)) = some y2 := hy 2 _ rfl
  rw [co9] at k0 k1
  rw [co4] at k2
  obtain ⟨z4, e4, _, s4⟩ := DataW.trod_string Try.underlying9 (show DataW.trod enc Try.prog W 0 (fun _ => true) true n2 9 [c4] = some y0 from k0)
  obtain ⟨z5, e5, _, s5⟩ := DataW.trod_string Try.underlying9 (show DataW.trod enc Try.prog W 0 (fun _ => true) true n2 9 [c5] = some y1 from k1)
  obtain ⟨z6, e6, _⟩ := DataW.trod_bool Try.underlying4 (show DataW.trod enc Try.prog W 0 (fun _ => true) true n2 4 [c6] = some y2 from k2)
  simp only [List.cons.injEq, and_true] at e0 e1 e2 e3 e4 e5 e6 e7 e8
  subst e0 e1 e2 e3 e4 e5 e6 e7 e8
  exact ⟨⟨z0, z1, z2, z3, z4, z5, z6, z7, z8⟩, rfl⟩
/-- Calls in memory, in a block below n₀. -/
def CaIn (w : World) (n₀ : Nat) (a : Option Addr) (l : List Ca) : Prop := ∀ j (hj : j < l.length), ∃ b off, a = some ⟨b, off, none⟩ ∧ b < n₀ ∧ ∀ i u, l[j].cells[i]? = some u → w.cell? ⟨b, off + j * 9 + i, none⟩ = some u
theorem CaIn.keep {w w' : World} {n₀ n : Nat} {a : Option Addr} {l : List Ca} (h : CaIn w n₀ a l) (hb : Below n w w') (hn : n₀ ≤ n) : CaIn w' n₀ a l := fun j hj => by
  obtain ⟨b, off, e, hbn, hc⟩ := h j hj
  exact ⟨b, off, e, hbn, fun i u hi => (hb.cell (p := ⟨b, _, none⟩) (show b < n by omega)).trans (hc i u hi)⟩
theorem CaIn.ac {w : World} {n₀ : Nat} {a : Option Addr} {l : List Ca} (h : CaIn w n₀ a l) : AcIn w n₀ a (l.map Ca.ac) := fun j hj => by
  have hj' : j < l.length := by simpa using hj
  obtain ⟨b, off, e, hbn, hc⟩ := h j hj'
  refine ⟨b, off, e, hbn, ?_⟩
  rw [List.getElem_map]
  exact ⟨hc 0 _ rfl, hc 2 _ rfl, hc 3 _ rfl, hc 4 _ rfl, hc 5 _ rfl⟩
set_option maxHeartbeats 1000000 in
set_option maxRecDepth 20000 in
theorem calls_open {H : Type} {enc : TypeId × Value → H} {base : Nat} {W : World} (v : Value) (d : DataW H) (pl : List MemPlace) (hok : Value.okWide Try.prog W .any base 22 v)
    (h : DataW.Trod enc Try.prog W 0 (fun _ => true) true 22 v d pl) :
    ∃ (l : List Ca) (a : Option Addr) (c : Nat), v = .slice a l.length c ∧ CaIn W W.heap.size a l ∧ l.length ≤ maxLen := by
  have hone : v.cells.toList = [v] := by
    obtain ⟨a, n, c, rfl⟩ := okWide_slice Try.underlying22 hok
    rfl
  obtain ⟨fuel, hf⟩ := h
  have g4' : DataW.trod enc Try.prog W 0 (fun _ => true) true fuel 22 [v] = some (d, pl) := by rw [← hone]; exact hf
  rcases DataW.trod_slice Try.underlying22 g4' with ⟨hcs, _⟩ | ⟨a, len, cap, elems, rest, n, hfn, hcs, hd, _, hl, hm, hlen, hel, hsp, hns⟩
  · simp only [List.cons.injEq, and_true] at hcs
    subst hcs
    exact ⟨[], none, 0, rfl, (fun j hj => absurd hj (by simp)), Nat.zero_le _⟩
  · simp only [List.cons.injEq, and_true] at hcs
    subst hcs
    have hx : ∀ i, i < len → ∃ cs', W.cells? 0 (a.add (i * 9)) 9 = some cs' ∧ ∃ hi : i < elems.length, DataW.trod enc Try.prog W 0 (fun _ => true) true n 31 cs' = some elems[i] := by
      intro i hi
      have hie : i < elems.length := by omega
      have h1 := hel i hi
      rw [co31, List.getElem?_eq_getElem hie] at h1
      obtain ⟨cs', q1, q2⟩ := Option.bind_eq_some_iff.1 h1
      exact ⟨cs', q1, hie, q2⟩
    rcases Nat.eq_zero_or_pos len with h0 | h0
    · subst h0
      exact ⟨[], some a, cap, rfl, (fun j hj => absurd hj (by simp)), Nat.zero_le _⟩
    obtain ⟨b, off, spot⟩ := a
    have hspot : spot = none := by
      obtain ⟨cs', h1, _⟩ := hx 0 (by omega)
      obtain ⟨_, hlen', hcell⟩ := World.cells?_some h1
      have hc := hcell 0 (by omega)
      obtain ⟨c0, c1, c2, c3, c4, c5, c6, c7, c8, rfl⟩ := list_nine hlen'
      have := World.cell?_spot hc
      simpa [Addr.add] using this
    subst hspot
    have each : ∀ i, i < len → ∃ y : Ca, ∀ k u, y.cells[k]? = some u → W.cell? ⟨b, off + i * 9 + k, none⟩ = some u := by
      intro i hi
      obtain ⟨cs', h1, hie, h2⟩ := hx i (by omega)
      rw [Go.WideShapes.add_plain] at h1
      obtain ⟨_, hlen', hcell⟩ := World.cells?_some h1
      obtain ⟨y, e⟩ := call_trod n cs' elems[i] h2
      subst e
      refine ⟨y, fun k u hk => ?_⟩
      have hkl : k < y.cells.toList.length := by simpa using (Array.getElem?_eq_some_iff.1 hk).1
      have q := hcell k hkl
      rw [Go.WideShapes.add_plain] at q
      rw [← hk]
      simpa using q
    obtain ⟨L, hLl, hLz⟩ := choose_list len each
    refine ⟨L, some ⟨b, off, none⟩, cap, by simp [hLl], fun j hj => ⟨b, off, rfl, ?_, hLz j hj⟩, by rw [hLl]; omega⟩
    exact World.block_lt_of_cell? W _ (hLz j hj 0 _ rfl)
end Go.Proofs.Ytklnnkdcnaieoaa
