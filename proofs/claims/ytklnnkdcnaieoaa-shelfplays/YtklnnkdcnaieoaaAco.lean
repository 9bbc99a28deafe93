/- Calls that came in, opened: their cells (nothing is claimed here). -/
import Derived.Test.YtklnnkdcnaieoaaMem
import Derived.ProofKit
import Derived.OpenShut
import Derived.Deep.Slices
namespace Go.Proofs.Ytklnnkdcnaieoaa
open Go.ChangeShapes Go.WideShapes Go.ChangeAt Go.RowKit Go.Deep Go.Vf

/-- A call: what of it is read. -/
structure Ac where
  kind : Int
  key : ByteArray
  val : ByteArray
  fr : ByteArray
  to : ByteArray
theorem co31 : Try.prog.cellsOf 31 = 9 := by kernel_rfl
theorem co3 : Try.prog.cellsOf 3 = 1 := by kernel_rfl
theorem co9 : Try.prog.cellsOf 9 = 1 := by kernel_rfl
theorem co29 : Try.prog.cellsOf 29 = 3 := by kernel_rfl
theorem choose_list {α : Type} {P : Nat → α → Prop} : ∀ n, (∀ i, i < n → ∃ z, P i z) → ∃ zs : List α, zs.length = n ∧ ∀ i (h : i < zs.length), P i zs[i]
  | 0, _ => ⟨[], rfl, fun i h => absurd h (by simp)⟩
  | n + 1, h => by
    obtain ⟨zs, hl, hz⟩ := choose_list n (fun i hi => h i (by omega))
    obtain ⟨z, hzn⟩ := h n (by omega)
    refine ⟨zs ++ [z], by simp [hl], fun i hi => ?_⟩
    by_cases hin : i < zs.length
    · rw [List.getElem_append_left hin]
      exact hz i hin
    · have hie : i = n := by simp [hl] at hi; omega
      subst hie
      rw [List.getElem_append_right (by omega)]
      simpa [hl] using hzn
theorem list_nine {α : Type} {l : List α} (h : l.length = 9) : ∃ a b c d e f g i j, l = [a, b, c, d, e, f, g, i, j] := by
  match l, h with
  | [a, b, c, d, e, f, g, i, j], _ => exact ⟨a, b, c, d, e, f, g, i, j, rfl⟩
theorem list_seven {α : Type} {l : List α} (h : l.length = 7) : ∃ a b c d e f g, l = [a, b, c, d, e, f, g] := by
  match l, h with
  | [a, b, c, d, e, f, g], _ => exact ⟨a, b, c, d, e, f, g, rfl⟩
theorem list_three {α : Type} {l : List α} (h : l.length = 3) : ∃ a b c, l = [a, b, c] := by
  match l, h with
  | [a, b, c], _ => exact ⟨a, b, c, rfl⟩
set_option maxHeartbeats 1000000 in
set_option maxRecDepth 20000 in
theorem act_trod {H : Type} {enc : TypeId × Value → H} {W : World} (fuel : Nat) (cs : List Value) (x : DataW H × List MemPlace) (h : DataW.trod enc Try.prog W 0 (fun _ => true) true fuel 31 cs = some x) :
    ∃ (y : Ac) (v1 v6 v7 v8 : Value), cs = [.int .i64 y.kind, v1, .string y.key, .string y.val, .string y.fr, .string y.to, v6, v7, v8] ∧ y.key.size ≤ maxLen ∧ y.val.size ≤ maxLen ∧ y.fr.size ≤ maxLen ∧ y.to.size ≤ maxLen := by
  obtain ⟨xs, n', hfu, hxe, hcl, hxl, hf⟩ := DataW.trod_struct Try.underlying31 h
  rw [co31] at hcl
  obtain ⟨c0, c1, c2, c3, c4, c5, c6, c7, c8, rfl⟩ := list_nine hcl
  obtain ⟨x0, x1, x2, x3, x4, x5, x6, rfl⟩ := list_seven hxl
  have g0 : DataW.trod enc Try.prog W 0 (fun _ => true) true n' 3 (([c0, c1, c2, c3, c4, c5, c6, c7, c8].drop 0).take (Try.prog.cellsOf 3)) = some x0 := hf 0 _ rfl
  have g2 : DataW.trod enc Try.prog W 0 (fun _ => true) true n' 9 (([c0, c1, c2, c3, c4, c5, c6, c7, c8].drop 2).take (Try.prog.cellsOf 9)) = some x2 := hf 2 _ rfl
  have g3 : DataW.trod enc Try.prog W 0 (fun _ => true) true n' 9 (([c0, c1, c2, c3, c4, c5, c6, c7, c8].drop 3).take (Try.prog.cellsOf 9)) = some x3 := hf 3 _ rfl
  have g4 : DataW.trod enc Try.prog W 0 (fun _ => true) true n' 29 (([c0, c1, c2, c3, c4, c5, c6, c7, c8].drop 4).take (Try.prog.cellsOf 29)) = some x4 := hf 4 _ rfl
  rw [co3] at g0
  rw [co9] at g2 g3
  rw [co29] at g4
  obtain ⟨z0, e0, _, _⟩ := DataW.trod_int Try.underlying3 (show DataW.trod enc Try.prog W 0 (fun _ => true) true n' 3 [c0] = some x0 from g0)
  obtain ⟨z2, e2, _, s2⟩ := DataW.trod_string Try.underlying9 (show DataW.trod enc Try.prog W 0 (fun _ => true) true n' 9 [c2] = some x2 from g2)
  obtain ⟨z3, e3, _, s3⟩ := DataW.trod_string Try.underlying9 (show DataW.trod enc Try.prog W 0 (fun _ => true) true n' 9 [c3] = some x3 from g3)
  obtain ⟨ys, n2, _, _, _, hyl, hy⟩ := DataW.trod_struct Try.underlying29 (show DataW.trod enc Try.prog W 0 (fun _ => true) true n' 29 [c4, c5, c6] = some x4 from g4)
  obtain ⟨y0, y1, y2, rfl⟩ := list_three hyl
  have k0 : DataW.trod enc Try.prog W 0 (fun _ => true) true n2 9 (([c4, c5, c6].drop 0).take (Try.prog.cellsOf 9)) = some y0 := hy 0 _ rfl
  have k1 : DataW.trod enc Try.prog W 0 (fun _ => true) true n2 9 (([c4, c5, c6].drop 1).take (Try.prog.cellsOf 9)) = some y1 := hy 1 _ rfl
  rw [co9] at k0 k1
  obtain ⟨z4, e4, _, s4⟩ := DataW.trod_string Try.underlying9 (show DataW.trod enc Try.prog W 0 (fun _ => true) true n2 9 [c4] = some y0 from k0)
  obtain ⟨z5, e5, _, s5⟩ := DataW.trod_string Try.underlying9 (show DataW.trod enc Try.prog W 0 (fun _ => true) true n2 9 [c5] = some y1 from k1)
  simp only [List.cons.injEq, and_true] at e0 e2 e3 e4 e5
  subst e0 e2 e3 e4 e5
  exact ⟨⟨z0, z2, z3, z4, z5⟩, c1, c6, c7, c8, rfl, s2, s3, s4, s5⟩
/-- Calls in memory, in a block below n₀. -/
def AcIn (w : World) (n₀ : Nat) (a : Option Addr) (l : List Ac) : Prop := ∀ j (hj : j < l.length), ∃ b off, a = some ⟨b, off, none⟩ ∧ b < n₀ ∧ w.cell? ⟨b, off + j * 9, none⟩ = some (.int .i64 l[j].kind) ∧ w.cell? ⟨b, off + j * 9 + 2, none⟩ = some (.string l[j].key) ∧ w.cell? ⟨b, off + j * 9 + 3, none⟩ = some (.string l[j].val) ∧ w.cell? ⟨b, off + j * 9 + 4, none⟩ = some (.string l[j].fr) ∧ w.cell? ⟨b, off + j * 9 + 5, none⟩ = some (.string l[j].to)
theorem AcIn.keep {w w' : World} {n₀ n : Nat} {a : Option Addr} {l : List Ac} (h : AcIn w n₀ a l) (hb : Below n w w') (hn : n₀ ≤ n) : AcIn w' n₀ a l := fun j hj => by
  obtain ⟨b, off, e, hbn, c0, c2, c3, c4, c5⟩ := h j hj
  have q : ∀ k, w'.cell? ⟨b, k, none⟩ = w.cell? ⟨b, k, none⟩ := fun k => hb.cell (p := ⟨b, k, none⟩) (show b < n by omega)
  exact ⟨b, off, e, hbn, (q _).trans c0, (q _).trans c2, (q _).trans c3, (q _).trans c4, (q _).trans c5⟩
/-- Texts no longer than may be. -/
def AcFit (y : Ac) : Prop := y.key.size ≤ maxLen ∧ y.val.size ≤ maxLen ∧ y.fr.size ≤ maxLen ∧ y.to.size ≤ maxLen
set_option maxHeartbeats 1000000 in
set_option maxRecDepth 20000 in
theorem acts_open {H : Type} {enc : TypeId × Value → H} {base : Nat} {W : World} (v : Value) (d : DataW H) (pl : List MemPlace) (hok : Value.okWide Try.prog W .any base 22 v)
    (h : DataW.Trod enc Try.prog W 0 (fun _ => true) true 22 v d pl) :
    ∃ (l : List Ac) (a : Option Addr) (c : Nat), v = .slice a l.length c ∧ AcIn W W.heap.size a l ∧ (∀ x ∈ l, AcFit x) ∧ l.length ≤ maxLen := by
  have hone : v.cells.toList = [v] := by
    obtain ⟨a, n, c, rfl⟩ := okWide_slice Try.underlying22 hok
    rfl
  obtain ⟨fuel, hf⟩ := h
  have g4' : DataW.trod enc Try.prog W 0 (fun _ => true) true fuel 22 [v] = some (d, pl) := by rw [← hone]; exact hf
  rcases DataW.trod_slice Try.underlying22 g4' with ⟨hcs, _⟩ | ⟨a, len, cap, elems, rest, n, hfn, hcs, hd, _, hl, hm, hlen, hel, hsp, hns⟩
  · simp only [List.cons.injEq, and_true] at hcs
    subst hcs
    exact ⟨[], none, 0, rfl, (fun j hj => absurd hj (by simp)), (fun x hx => by cases hx), Nat.zero_le _⟩
  · simp only [List.cons.injEq, and_true] at hcs
    subst hcs
    have hx : ∀ i, i < len → ∃ cs', W.cells? 0 (a.add (i * 9)) 9 = some cs' ∧ ∃ hi : i < elems.length, DataW.trod enc Try.prog W 0 (fun _ => true) true n 31 cs' = some elems[i] := by
      intro i hi
      have hie : i < elems.length := by omega
      have h1 := hel i hi
      rw [co31, List.getElem?_eq_getElem hie] at h1
      obtain ⟨cs', q1, q2⟩ := Option.bind_eq_some_iff.1 h1
      exact ⟨cs', q1, hie, q2⟩
    rcases Nat.eq_zero_or_pos len with h0 | h0
    · subst h0
      exact ⟨[], some a, cap, rfl, (fun j hj => absurd hj (by simp)), (fun x hx => by cases hx), Nat.zero_le _⟩
    obtain ⟨b, off, spot⟩ := a
    have hspot : spot = none := by
      obtain ⟨cs', h1, _⟩ := hx 0 (by omega)
      obtain ⟨_, hlen', hcell⟩ := World.cells?_some h1
      have hc := hcell 0 (by omega)
      obtain ⟨c0, c1, c2, c3, c4, c5, c6, c7, c8, rfl⟩ := list_nine hlen'
      have := World.cell?_spot hc
      simpa [Addr.add] using this
    subst hspot
    have each : ∀ i, i < len → ∃ y : Ac, (W.cell? ⟨b, off + i * 9, none⟩ = some (.int .i64 y.kind) ∧ W.cell? ⟨b, off + i * 9 + 2, none⟩ = some (.string y.key) ∧ W.cell? ⟨b, off + i * 9 + 3, none⟩ = some (.string y.val) ∧ W.cell? ⟨b, off + i * 9 + 4, none⟩ = some (.string y.fr) ∧ W.cell? ⟨b, off + i * 9 + 5, none⟩ = some (.string y.to)) ∧ AcFit y := by
      intro i hi
      obtain ⟨cs', h1, hie, h2⟩ := hx i (by omega)
      rw [Go.WideShapes.add_plain] at h1
      obtain ⟨_, hlen', hcell⟩ := World.cells?_some h1
      obtain ⟨y, v1, v6, v7, v8, e, hfit⟩ := act_trod n cs' elems[i] h2
      subst e
      have k0 := hcell 0 (by simp)
      have k2 := hcell 2 (by simp)
      have k3 := hcell 3 (by simp)
      have k4 := hcell 4 (by simp)
      have k5 := hcell 5 (by simp)
      rw [Go.WideShapes.add_plain] at k0 k2 k3 k4 k5
      refine ⟨y, ⟨?_, ?_, ?_, ?_, ?_⟩, hfit⟩
      · simpa using k0
      · simpa using k2
      · simpa using k3
      · simpa using k4
      · simpa using k5
    obtain ⟨L, hLl, hLz⟩ := choose_list len each
    refine ⟨L, some ⟨b, off, none⟩, cap, by simp [hLl], fun j hj => ?_, fun x hx => ?_, by rw [hLl]; omega⟩
    · obtain ⟨⟨q0, q2, q3, q4, q5⟩, _⟩ := hLz j hj
      exact ⟨b, off, rfl, World.block_lt_of_cell? W _ q0, q0, q2, q3, q4, q5⟩
    · obtain ⟨i, hi, rfl⟩ := List.mem_iff_getElem.1 hx
      exact (hLz i hi).2
end Go.Proofs.Ytklnnkdcnaieoaa
