/- Contracts and lemmas (nothing is claimed here). -/
import Derived.Test.YtgefbgpfjbbeaaaGreatDoorFGiv
import Derived.Test.YtgefbgpfjbbeaaaGreatDoorFLea
namespace Go.Proofs.YtgefbgpfjbbeaaaGreatDoor
open Go.RowKit Go.Vf

/-- A row of one field. -/
theorem FIn.oneB {w : World} {B M lo n₀ c : Nat} {t : TypeId} {a : Option Addr} {f : Fld} (hN : Blk w B t (cellsF f.own a f.fields.length c)) (h : FIn w lo n₀ f.fields a) (hn : n₀ ≤ M) (hB : B < M) (hc : f.fields.length ≤ c) : FIn w 0 M [f] (some ⟨B, 0, none⟩) := by
  refine .cons (fun _ => a) (fun _ => c) (Nat.zero_le _) hB (fun j hj => ?_) (fun j hj => ?_) (fun j hj => ?_)
  · have hj0 : j = 0 := by simp at hj; omega
    subst hj0
    exact hN.rowF
  · have hj0 : j = 0 := by simp at hj; omega
    subst hj0
    exact hc
  · have hj0 : j = 0 := by simp at hj; omega
    subst hj0
    exact h.mono hn (Nat.zero_le _)
theorem FIn.one {w : World} {lo n₀ c : Nat} {a : Option Addr} {f : Fld} (h : FIn w lo n₀ f.fields a) (hn : n₀ ≤ w.heap.size) (hc : f.fields.length ≤ c) : FIn (w.alloc (.cells (cellsF f.own a f.fields.length c) 50)) 0 (w.heap.size + 1) [f] (some ⟨w.heap.size, 0, none⟩) :=
  FIn.oneB (Blk.new w 50 _) (h.keep ((Below.refl w.heap.size w).alloc (Nat.le_refl _) _) hn) (by omega) (by omega) hc
theorem alone_results {tmps : Array Value} {w : World} {h : Nat} {a b : Value} (hb : Blk w h 52 #[a, b]) (t2 : tmps[2]?.getD undef = .pointer (some ⟨h, 0, none⟩)) :
    (results Tryz.f63 tmps).run Tryz.prog w = .ok (.agg #[a, b]) w := by
  have c0 := hb.cell 0
  have c1 := hb.cell 1
  simp at c0 c1
  simp [results, Tryz.results63, go_sem, t2, c0, c1]
set_option maxHeartbeats 1000000 in
theorem alone_any (f : Fld) (a : Option Addr) (c lo n₀ : Nat) (w : World) (hc : f.fields.length ≤ c) (hn₀ : n₀ ≤ w.heap.size) (hin : FIn w lo n₀ f.fields a) :
    Calls Tryz.prog 63 #[fV f.own a f.fields.length c] w fun e w' => ∃ g, e = .returned (.agg #[.int .i64 65536, .slice (some ⟨g, 0, none⟩) 1 1]) ∧ FIn w' 0 w'.heap.size [f] (some ⟨g, 0, none⟩) ∧ Below w.heap.size w w' := by
  have hb1 := (Below.refl w.heap.size w).alloc (Nat.le_refl _) (.cells (cellsF f.own a f.fields.length c) 50)
  have hN1 := Blk.new w 50 (cellsF f.own a f.fields.length c)
  have hs1 := alloc_size w (.cells (cellsF f.own a f.fields.length c) 50)
  have hb1' := hb1.alloc hb1.size (.cells #[.int .i64 0, .slice none 0 0] 52)
  have hR1 := Blk.new (w.alloc (.cells (cellsF f.own a f.fields.length c) 50)) 52 #[.int .i64 0, .slice none 0 0]
  have hN2 := hN1.old ((Below.refl _ (w.alloc (.cells (cellsF f.own a f.fields.length c) 50))).alloc (Nat.le_refl _) (.cells #[.int .i64 0, .slice none 0 0] 52))
  obtain ⟨c0, c1, c2, c3, c4, c5, c6, c7, c8, c9, c10, c11, c12, c13⟩ := cells14 hN2
  have hin1 := hin.keep hb1' hn₀
  rw [hs1] at hR1
  generalize hw1 : (w.alloc (.cells (cellsF f.own a f.fields.length c) 50)).alloc (.cells #[.int .i64 0, .slice none 0 0] 52) = w1 at *
  have hb2 := (Below.refl w1.heap.size w1).alloc (Nat.le_refl _) (.cells (cellsF f.own a f.fields.length c) 50)
  have hs2 := alloc_size w1 (.cells (cellsF f.own a f.fields.length c) 50)
  have hR2 := hR1.old hb2
  have hF2 := Blk.new w1 50 (cellsF f.own a f.fields.length c)
  have hb02 := hb1'.trans (hb2.mono hb1'.size)
  have hlt := hR1.lt
  generalize hw2 : w1.alloc (.cells (cellsF f.own a f.fields.length c) 50) = w2 at *
  have v0 := hR2.cell 0
  have v1 := hR2.cell 1
  have g0 := hR2.frozen 0
  have g1 := hR2.frozen 1
  obtain ⟨B, hB⟩ : ∃ B, w.heap.size + 1 = B := ⟨_, rfl⟩
  rw [hB] at hR2 v0 v1 g0 g1 hlt
  have hR3 : Blk ((w2.setCell ⟨B, 0, none⟩ (.int .i64 65536)).setCell ⟨B, 1, none⟩ (.slice (some ⟨w1.heap.size, 0, none⟩) 1 1)) B 52 #[.int .i64 65536, .slice (some ⟨w1.heap.size, 0, none⟩) 1 1] := (hR2.set 0 (.int .i64 65536)).set 1 (.slice (some ⟨w1.heap.size, 0, none⟩) 1 1)
  have hF3 : Blk ((w2.setCell ⟨B, 0, none⟩ (.int .i64 65536)).setCell ⟨B, 1, none⟩ (.slice (some ⟨w1.heap.size, 0, none⟩) 1 1)) w1.heap.size 50 (cellsF f.own a f.fields.length c) := (hF2.other (p := ⟨B, 0, none⟩) (by show w1.heap.size ≠ B; omega) _).other (p := ⟨B, 1, none⟩) (by show w1.heap.size ≠ B; omega) _
  have hb3 : Below w.heap.size w ((w2.setCell ⟨B, 0, none⟩ (.int .i64 65536)).setCell ⟨B, 1, none⟩ (.slice (some ⟨w1.heap.size, 0, none⟩) 1 1)) := (hb02.setCell (p := ⟨B, 0, none⟩) (by show w.heap.size ≤ B; omega) _).setCell (p := ⟨B, 1, none⟩) (by show w.heap.size ≤ B; omega) _
  have hz3 : ((w2.setCell ⟨B, 0, none⟩ (.int .i64 65536)).setCell ⟨B, 1, none⟩ (.slice (some ⟨w1.heap.size, 0, none⟩) 1 1)).heap.size = w2.heap.size := by simp [World.setCell]
  have hin3 := FIn.oneB (M := w2.heap.size) hF3 (hin.keep hb3 hn₀) (by have := hb02.size; omega) (by omega) hc
  rw [← hz3] at hin3
  have HP : Hid (∀ W, W = ((w2.setCell ⟨B, 0, none⟩ (.int .i64 65536)).setCell ⟨B, 1, none⟩ (.slice (some ⟨w1.heap.size, 0, none⟩) 1 1)) → FIn W 0 W.heap.size [f] (some ⟨w1.heap.size, 0, none⟩) ∧ Below w.heap.size w W) := by
    rintro W rfl
    exact ⟨hin3, hb3⟩
  unfold fV
  simp only [cellsF] at hw1 hw2
  clear hin hin1 hb2 hN1 hN2 hb1 hb1' hin3 hb3 hz3 hF3 hF2 hs2 hR1 hR2 hb02 hs1
  go_enter Tryz.func63, Tryz.ntmps63
  go_upto_region 1 with fail
  try rw [hw1]
  clear hw1
  try rw [hB]
  clear hB
  go_wp2_with fail
  refine bodyPost_ret (alone_results hR3 rfl) rfl ?_
  exact ⟨_, rfl, HP.out _ rfl⟩


end Go.Proofs.YtgefbgpfjbbeaaaGreatDoor

namespace Go.Proofs.YtgefbgpfjbbeaaaGreatDoor
open Go.RowKit Go.Vf

/-- An error of a schema that may not be. -/
def argE (q : Int) (r : Option (Int × Int × List Int × Int)) : Option (Int × Int × List Int × Int) := if q = 0 then r else some (1, 0, [], q)
theorem ErrPost.after {r : Option (Int × Int × List Int × Int)} {w w1 : World} {e : Ending} {w' : World} (hb : Below w.heap.size w w1) (h : ErrPost r w1 e w') : ErrPost r w e w' := by
  obtain ⟨h1, h2⟩ := h
  refine ⟨hb.trans (h1.mono hb.size), ?_⟩
  cases r with
  | none => exact h2
  | some p =>
    obtain ⟨c, a, P, y⟩ := p
    obtain ⟨v, why, he, hF, hW⟩ := h2
    exact ⟨v, why, he, hF.mono hb.size, hW⟩
theorem ErrPost.val {r : Option (Int × Int × List Int × Int)} {w : World} {e : Ending} {w' : World} (h : ErrPost r w e w') : ∃ v, e = .returned v ∧ ErrPost r w (.returned v) w' := by
  obtain ⟨h1, h2⟩ := h
  cases r with
  | none => exact ⟨_, h2, h1, rfl⟩
  | some p =>
    obtain ⟨c, a, P, y⟩ := p
    obtain ⟨v, why, he, hF⟩ := h2
    exact ⟨v, he, h1, v, why, rfl, hF⟩
set_option maxHeartbeats 2000000 in
set_option maxRecDepth 20000 in
theorem fitField_of (f : Fld) (hf : FitsF 17179869184 f) (a : Option Addr) (c lo n₀ : Nat) (hc : f.fields.length ≤ c) (v : Value) (w : World) (hn₀ : n₀ ≤ w.heap.size) (hin : FIn w lo n₀ f.fields a) (r : Option (Int × Int × List Int × Int))
    (hU : (chkS bndQ 65536 [f]).1 = 0 → ∀ W, Below w.heap.size w W → Calls Tryz.prog 92 #[fV f.own a f.fields.length c, v] W (ErrPost r W)) :
    Calls Tryz.prog 65 #[fV f.own a f.fields.length c, v] w (ErrPost (argE (chkS bndQ 65536 [f]).1 r) w) := by
  have hb1 := (Below.refl w.heap.size w).alloc (Nat.le_refl _) (.cells (cellsF f.own a f.fields.length c) 50)
  have hN1 := Blk.new w 50 (cellsF f.own a f.fields.length c)
  have hal := alone_any f a c lo n₀ (w.alloc (.cells (cellsF f.own a f.fields.length c) 50)) hc (by have := hb1.size; omega) (hin.keep hb1 hn₀)
  have hsc : ∀ g W, FIn W 0 W.heap.size [f] (some ⟨g, 0, none⟩) → Calls Tryz.prog 39 #[.agg #[.int .i64 65536, .slice (some ⟨g, 0, none⟩) 1 1]] W (SCheckPost (chkS bndQ 65536 [f]) W) := fun g W hW => scheck_any 65536 [f] (some ⟨g, 0, none⟩) 1 0 W.heap.size W (by simp) (fun x hx => by rw [List.mem_singleton.1 hx]; exact hf) (by simp) (Nat.le_refl _) hW
  obtain ⟨c0, c1, c2, c3, c4, c5, c6, c7, c8, c9, c10, c11, c12, c13⟩ := cells14 hN1
  generalize chkS bndQ 65536 [f] = q at hsc hU ⊢
  obtain ⟨R, hR⟩ : ∃ R, argE q.1 r = R := ⟨_, rfl⟩
  rw [hR]
  have HR : Hid (argE q.1 r = R) := hR
  unfold fV at hal hU ⊢
  simp only [cellsF] at hb1 hN1 hal c0 c1 c2 c3 c4 c5 c6 c7 c8 c9 c10 c11 c12 c13
  clear hR hin hf
  go_enter Tryz.func65, Tryz.ntmps65
  go_wp2_with fail
  refine hal.mono ?_
  rintro _ w2 ⟨g, rfl, hin2, hb2⟩
  have hb02 := hb1.trans (hb2.mono hb1.size)
  have hsc2 := hsc g w2 hin2
  clear hsc hal c0 c1 c2 c3 c4 c5 c6 c7 c8 c9 c10 c11 c12 c13 hin2
  go_wp2_with fail
  refine hsc2.mono ?_
  rintro e w3 ⟨hb3, ⟨h0, rfl⟩ | ⟨hne, ev, rfl, F, pa, pc, rfl, hF0, hF1, _, _⟩⟩
  · have hb03 := hb02.trans (hb3.mono hb02.size)
    have hN3 := (hN1.old hb2).old hb3
    obtain ⟨c0, c1, c2, c3, c4, c5, c6, c7, c8, c9, c10, c11, c12, c13⟩ := hN3.c14
    have hu := hU h0 w3 hb03
    have hRq : R = r := by rw [← HR.out, argE, if_pos h0]
    clear hU hsc2 HR
    go_wp2_with fail
    refine hu.mono ?_
    intro e4 w4 hE
    obtain ⟨v4, rfl, hE⟩ := hE.val
    have HE : Hid (ErrPost R w (.returned v4) w4) := by
      show ErrPost R w (.returned v4) w4
      rw [hRq]; exact hE.after hb03
    clear hE hRq hu
    go_wp2_with fail
    go_ret
    exact HE.out
  · have hb03 := hb02.trans (hb3.mono hb02.size)
    have hFn := fault_new w w3 hb03 1 0 (.iface 79 (.pointer (some ⟨F, 0, none⟩)))
    have hb4 := (Below.refl w3.heap.size w3).alloc (Nat.le_refl _) (.cells #[.int .i64 1, .int .i64 0, .slice none 0 0, .iface 79 (.pointer (some ⟨F, 0, none⟩))] 82)
    have hF4 := hF1.old hb4
    have HE : Hid (ErrPost R w (.returned (.iface 79 (.pointer (some ⟨w3.heap.size, 0, none⟩)))) (w3.alloc (.cells #[.int .i64 1, .int .i64 0, .slice none 0 0, .iface 79 (.pointer (some ⟨F, 0, none⟩))] 82))) := by
      show ErrPost R w _ _
      rw [← HR.out, argE, if_neg hne]
      exact ⟨hb03.trans (hb4.mono hb03.size), _, _, rfl, hFn, .inr (.inr ⟨hne, F, _, _, _, rfl, hF4⟩)⟩
    clear hU hsc2 HR hFn hb4 hF4
    go_wp2_with fail
    go_ret
    exact HE.out

/-- A schema's tuple as a field. -/
def tupO : Go.Vf.Own := ⟨⟨#[]⟩, 7, false, 0, false, false, ⟨#[]⟩, false, ⟨#[]⟩, 0, 0, false, false⟩

end Go.Proofs.YtgefbgpfjbbeaaaGreatDoor
