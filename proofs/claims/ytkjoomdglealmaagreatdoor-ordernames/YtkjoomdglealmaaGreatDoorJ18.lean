/- Contracts and lemmas (nothing is claimed here). -/
import Derived.Test.YtkjoomdglealmaaGreatDoorRWk
import Derived.Test.YtkjoomdglealmaaGreatDoorJ12
import Derived.Test.YtkjoomdglealmaaGreatDoorJ15
namespace Go.Proofs.YtkjoomdglealmaaGreatDoor
open Go.RowKit Go.Vf

def RCheckPost (r : Int × List Int) (w : World) (e : Ending) (w' : World) : Prop :=
  Below w.heap.size w w' ∧ ∃ a c, e = .returned (.agg #[.int .i64 r.1, .int .i64 0, .slice a r.2.length c]) ∧ IOwn w' w.heap.size (.slice a r.2.length c) r.2
theorem rchk_results {tmps : Array Value} {w : World} {h : Nat} {a b c : Value} (hb : Blk w h 47 #[a, b, c]) (t2 : tmps[2]?.getD undef = .pointer (some ⟨h, 0, none⟩)) :
    (results Tryz.f75 tmps).run Tryz.prog w = .ok (.agg #[a, b, c]) w := by
  have c0 := hb.cell 0
  have c1 := hb.cell 1
  have c2 := hb.cell 2
  simp at c0 c1 c2
  simp [results, Tryz.results75, go_sem, t2, c0, c1, c2]
set_option maxHeartbeats 4000000 in
set_option maxRecDepth 20000 in
theorem rscheck_any (limit : Int) (l : List Fld) (aa : Option Addr) (ca lo n₀ : Nat) (w : World) (hfit : ∀ x ∈ l, FitsF 17179869184 x) (hll : l.length ≤ 17179869184) (hn₀ : n₀ ≤ w.heap.size) (hin : FIn w lo n₀ l aa) :
    Calls Tryz.prog 75 #[.agg #[.int .i64 limit, .slice aa l.length ca]] w (RCheckPost (chkS bndQ limit l) w) := by
  have hb1 := (Below.refl w.heap.size w).alloc (Nat.le_refl _) (.cells #[.int .i64 limit, .slice aa l.length ca] 24)
  have hS1 := Blk.new w 24 #[.int .i64 limit, .slice aa l.length ca]
  have hs1 := alloc_size w (.cells #[.int .i64 limit, .slice aa l.length ca] 24)
  have hb2 := hb1.alloc hb1.size (.cells #[.int .i64 0, .int .i64 0, .slice none 0 0] 47)
  have hN2 := Blk.new (w.alloc (.cells #[.int .i64 limit, .slice aa l.length ca] 24)) 47 #[.int .i64 0, .int .i64 0, .slice none 0 0]
  rw [hs1] at hN2
  have hS2 := hS1.old ((Below.refl _ (w.alloc (.cells #[.int .i64 limit, .slice aa l.length ca] 24))).alloc (Nat.le_refl _) (.cells #[.int .i64 0, .int .i64 0, .slice none 0 0] 47))
  have hin2 := hin.keep hb2 hn₀
  obtain ⟨R, hR⟩ : ∃ R, chkS bndQ limit l = R := ⟨_, rfl⟩
  rw [hR]
  have HR : Hid (R = if limit < 1 ∨ 65536 < limit then (113, []) else if l = [] then (115, []) else match tourL bndQ [] [] 0 l with | .ok _ => (0, []) | .bad c p _ => (c, p)) := hR.symm
  clear hR hS1 hin hb1
  go_enter Tryz.func75, Tryz.ntmps75
  go_upto_region 1 with fail
  try simp only [hs1]
  generalize (w.alloc (.cells #[.int .i64 limit, .slice aa l.length ca] 24)).alloc (.cells #[.int .i64 0, .int .i64 0, .slice none 0 0] 47) = w2 at hb2 hN2 hS2 hin2 ⊢
  clear hs1
  obtain ⟨B, hB⟩ : ∃ B, w.heap.size + 1 = B := ⟨_, rfl⟩
  have HB : Hid (w.heap.size + 1 = B) := hB
  rw [hB] at hN2
  try rw [hB]
  clear hB
  have c0 : w2.cell? ⟨w.heap.size, 0, none⟩ = some (.int .i64 limit) := hS2.cell 0
  have c1 : w2.cell? ⟨w.heap.size, 1, none⟩ = some (.slice aa l.length ca) := hS2.cell 1
  obtain ⟨v0, v1, v2, g0, g1, g2⟩ := rcells hN2
  have HP : Hid (∀ why : Int, R = (why, []) → ∀ W, W = ((w2.setCell ⟨B, 0, none⟩ (.int .i64 why)).setCell ⟨B, 1, none⟩ (.int .i64 0)).setCell ⟨B, 2, none⟩ (.slice none 0 0) → RCheckPost R w (.returned (.agg #[.int .i64 why, .int .i64 0, .slice none 0 0])) W) := by
    rintro why rfl W rfl
    refine ⟨?_, none, 0, rfl, IOwn.nil _ _⟩
    have hBw := HB.out
    exact ((hb2.setCell (p := ⟨B, 0, none⟩) (by show w.heap.size ≤ B; omega) _).setCell (p := ⟨B, 1, none⟩) (by show w.heap.size ≤ B; omega) _).setCell (p := ⟨B, 2, none⟩) (by show w.heap.size ≤ B; omega) _
  by_cases h1 : limit < 1
  · have hRq : Hid (R = (113, [])) := by show _ = _; rw [HR.out, if_pos (.inl h1)]
    have t1 : decide (limit < 1) = true := by simpa using h1
    have hB9 := hN2.set3 (.int .i64 113) (.int .i64 0) (.slice none 0 0)
    clear HR h1 hin2
    go_wp2_with fail
    exact bodyPost_ret (rchk_results hB9 rfl) rfl (HP.out 113 hRq.out _ rfl)
  have t1 : decide (limit < 1) = false := by simpa using h1
  by_cases h2 : 65536 < limit
  · have hRq : Hid (R = (113, [])) := by show _ = _; rw [HR.out, if_pos (.inr h2)]
    have t2 : decide (65536 < limit) = true := by simpa using h2
    have hB9 := hN2.set3 (.int .i64 113) (.int .i64 0) (.slice none 0 0)
    clear HR h1 h2 hin2
    go_wp2_with fail
    exact bodyPost_ret (rchk_results hB9 rfl) rfl (HP.out 113 hRq.out _ rfl)
  have t2 : decide (65536 < limit) = false := by simpa using h2
  by_cases h3 : l = []
  · have hRq : Hid (R = (115, [])) := by show _ = _; rw [HR.out, if_neg (by omega), if_pos h3]
    have t3 : ((l.length : Int) == 0) = true := by rw [h3]; rfl
    have t4 : (l.length == 0) = true := by rw [h3]; rfl
    have hB9 := hN2.set3 (.int .i64 115) (.int .i64 0) (.slice none 0 0)
    generalize l.length = n at t3 t4 c1
    clear HR h1 h2 h3 hin2
    go_wp2_with fail
    exact bodyPost_ret (rchk_results hB9 rfl) rfl (HP.out 115 hRq.out _ rfl)
  have hlp := List.length_pos_iff.2 h3
  have t3 : ((l.length : Int) == 0) = false := by simp; exact h3
  have hgo := rwalk_any l none 0 [] 0 aa ca lo n₀ 0 w2 (by simp) (by omega) hfit hll (by have := hb2.size; omega) (IOwn.nil _ _) hin2
  have HR2 : Hid (R = match tourL bndQ [] [] 0 l with | .ok _ => (0, []) | .bad c p _ => (c, p)) := by
    show _ = _
    rw [HR.out, if_neg (by omega), if_neg h3]
  obtain ⟨n, hn⟩ : ∃ n, l.length = n := ⟨_, rfl⟩
  rw [hn] at t3 c1 hgo
  clear HR h1 h2 h3 hin2 hn hlp HP
  go_wp2_with fail
  refine hgo.mono ?_
  clear hgo
  cases h5 : tourL bndQ [] [] 0 l with
  | ok m =>
    rintro e w3 ⟨hb3, rfl⟩
    have hRq : R = (0, []) := by rw [HR2.out, h5]
    have hb4 := (Below.refl w3.heap.size w3).alloc (Nat.le_refl _) (.cells #[.int .i64 0, .int .i64 0, .slice none 0 0] 47)
    have hN4 := (hN2.old hb3).old hb4
    have hT4 := Blk.new w3 47 #[.int .i64 0, .int .i64 0, .slice none 0 0]
    have hb04 := (hb2.trans (hb3.mono hb2.size)).trans (hb4.mono (Nat.le_trans hb2.size hb3.size))
    have hPost : ∀ W, W = (((w3.alloc (.cells #[.int .i64 0, .int .i64 0, .slice none 0 0] 47)).setCell ⟨B, 0, none⟩ (.int .i64 0)).setCell ⟨B, 1, none⟩ (.int .i64 0)).setCell ⟨B, 2, none⟩ (.slice none 0 0) → RCheckPost R w (.returned (.agg #[.int .i64 0, .int .i64 0, .slice none 0 0])) W := by
      rintro W rfl
      rw [hRq]
      have hBw := HB.out
      refine ⟨?_, none, 0, rfl, IOwn.nil _ _⟩
      exact ((hb04.setCell (p := ⟨B, 0, none⟩) (by show w.heap.size ≤ B; omega) _).setCell (p := ⟨B, 1, none⟩) (by show w.heap.size ≤ B; omega) _).setCell (p := ⟨B, 2, none⟩) (by show w.heap.size ≤ B; omega) _
    have hB9 := hN4.set3 (.int .i64 0) (.int .i64 0) (.slice none 0 0)
    clear v0 v1 v2 g0 g1 g2 h5 HR2 hRq
    obtain ⟨v0, v1, v2, g0, g1, g2⟩ := rcells hN4
    obtain ⟨y0, y1, y2, _, _, _⟩ := rcells hT4
    go_upto_region 6 with fail
    generalize w3.alloc (.cells #[.int .i64 0, .int .i64 0, .slice none 0 0] 47) = w4 at hPost hB9 v0 v1 v2 g0 g1 g2 y0 y1 y2 ⊢
    go_wp2_with fail
    exact bodyPost_ret (rchk_results hB9 rfl) rfl (hPost _ rfl)
  | bad c p m =>
    rintro e w3 ⟨hb3, a, cc, rfl, ho⟩
    have hRq : R = (c, p) := by rw [HR2.out, h5]
    have hb4 := (Below.refl w3.heap.size w3).alloc (Nat.le_refl _) (.cells #[.int .i64 c, .int .i64 0, .slice a p.length cc] 47)
    have hN4 := (hN2.old hb3).old hb4
    have hT4 := Blk.new w3 47 #[.int .i64 c, .int .i64 0, .slice a p.length cc]
    have hb04 := (hb2.trans (hb3.mono hb2.size)).trans (hb4.mono (Nat.le_trans hb2.size hb3.size))
    have ho4 : IOwn (w3.alloc (.cells #[.int .i64 c, .int .i64 0, .slice a p.length cc] 47)) w2.heap.size (.slice a p.length cc) p := own_after ho hb4
    have hPost : ∀ W, W = (((w3.alloc (.cells #[.int .i64 c, .int .i64 0, .slice a p.length cc] 47)).setCell ⟨B, 0, none⟩ (.int .i64 c)).setCell ⟨B, 1, none⟩ (.int .i64 0)).setCell ⟨B, 2, none⟩ (.slice a p.length cc) → RCheckPost R w (.returned (.agg #[.int .i64 c, .int .i64 0, .slice a p.length cc])) W := by
      rintro W rfl
      rw [hRq]
      have hBw := HB.out
      refine ⟨?_, a, cc, rfl, IOwn.mono (set3_own ho4 hN2.lt _ _ _) hb2.size⟩
      exact ((hb04.setCell (p := ⟨B, 0, none⟩) (by show w.heap.size ≤ B; omega) _).setCell (p := ⟨B, 1, none⟩) (by show w.heap.size ≤ B; omega) _).setCell (p := ⟨B, 2, none⟩) (by show w.heap.size ≤ B; omega) _
    have hB9 := hN4.set3 (.int .i64 c) (.int .i64 0) (.slice a p.length cc)
    clear v0 v1 v2 g0 g1 g2 h5 HR2 hRq
    obtain ⟨v0, v1, v2, g0, g1, g2⟩ := rcells hN4
    obtain ⟨y0, y1, y2, _, _, _⟩ := rcells hT4
    clear ho ho4 hT4 hN4 hb4
    go_upto_region 6 with fail
    generalize w3.alloc (.cells #[.int .i64 c, .int .i64 0, .slice a p.length cc] 47) = w4 at hPost hB9 v0 v1 v2 g0 g1 g2 y0 y1 y2 ⊢
    go_wp2_with fail
    exact bodyPost_ret (rchk_results hB9 rfl) rfl (hPost _ rfl)

end Go.Proofs.YtkjoomdglealmaaGreatDoor

namespace Go.Proofs.YtkjoomdglealmaaGreatDoor
open Go.RowKit Go.Vf

theorem refused_any (limit : Int) (l : List Fld) (aa : Option Addr) (ca lo n₀ : Nat) (w : World) (hfit : ∀ x ∈ l, FitsF 17179869184 x) (hll : l.length ≤ 17179869184) (hn₀ : n₀ ≤ w.heap.size) (hin : FIn w lo n₀ l aa) :
    Calls Tryz.prog 48 #[.agg #[.int .i64 limit, .slice aa l.length ca]] w fun e w' => e = .returned (.int .i64 (chkS bndQ limit l).1) ∧ Below w.heap.size w w' := by
  have hb1 := (Below.refl w.heap.size w).alloc (Nat.le_refl _) (.cells #[.int .i64 limit, .slice aa l.length ca] 24)
  have hc := rscheck_any limit l aa ca lo n₀ _ hfit hll (by have := hb1.size; omega) (hin.keep hb1 hn₀)
  generalize chkS bndQ limit l = r at hc ⊢
  clear hin hfit
  go_enter Tryz.func48, Tryz.ntmps48
  go_wp2_with fail
  refine hc.mono ?_
  rintro e w2 ⟨hb2, a, c, rfl, ho⟩
  have hb02 := hb1.trans (hb2.mono hb1.size)
  have hb3 := hb02.alloc hb02.size (.cells #[.int .i64 r.1, .int .i64 0, .slice a r.2.length c] 47)
  go_wp2
  go_ret
  exact ⟨rfl, hb3⟩
theorem FIn.oneB {w : World} {B M lo n₀ c : Nat} {t : TypeId} {a : Option Addr} {f : Fld} (hN : Blk w B t (cellsF f.own a f.fields.length c)) (h : FIn w lo n₀ f.fields a) (hn : n₀ ≤ M) (hB : B < M) (hc : f.fields.length ≤ c) : FIn w 0 M [f] (some ⟨B, 0, none⟩) := by
  refine .cons (fun _ => a) (fun _ => c) (Nat.zero_le _) hB (fun j hj => ?_) (fun j hj => ?_) (fun j hj => ?_)
  · have hj0 : j = 0 := by simp at hj; omega
    subst hj0
    exact hN.rowF
  · have hj0 : j = 0 := by simp at hj; omega
    subst hj0
    exact hc
  · have hj0 : j = 0 := by simp at hj; omega
    subst hj0
    exact h.mono hn (Nat.zero_le _)
theorem FIn.one {w : World} {lo n₀ c : Nat} {a : Option Addr} {f : Fld} (h : FIn w lo n₀ f.fields a) (hn : n₀ ≤ w.heap.size) (hc : f.fields.length ≤ c) : FIn (w.alloc (.cells (cellsF f.own a f.fields.length c) 57)) 0 (w.heap.size + 1) [f] (some ⟨w.heap.size, 0, none⟩) :=
  FIn.oneB (Blk.new w 57 _) (h.keep ((Below.refl w.heap.size w).alloc (Nat.le_refl _) _) hn) (by omega) (by omega) hc
set_option maxHeartbeats 1000000 in
theorem refusedField_any (f : Fld) (hf : FitsF 17179869184 f) (a : Option Addr) (c lo n₀ : Nat) (w : World) (hc : f.fields.length ≤ c) (hn₀ : n₀ ≤ w.heap.size) (hin : FIn w lo n₀ f.fields a) :
    Calls Tryz.prog 26 #[fV f.own a f.fields.length c] w fun e w' => e = .returned (.int .i64 (chkS bndQ 65536 [f]).1) ∧ Below w.heap.size w w' := by
  have hb1 := (Below.refl w.heap.size w).alloc (Nat.le_refl _) (.cells (cellsF f.own a f.fields.length c) 57)
  have hN1 := Blk.new w 57 (cellsF f.own a f.fields.length c)
  obtain ⟨c0, c1, c2, c3, c4, c5, c6, c7, c8, c9, c10, c11, c12, c13⟩ := cells14 hN1
  have hin1 := hin.keep hb1 hn₀
  generalize hw1 : w.alloc (.cells (cellsF f.own a f.fields.length c) 57) = w1 at *
  have hin2 := FIn.one hin1 (by have := hb1.size; omega) hc
  have hb2 := (Below.refl w1.heap.size w1).alloc (Nat.le_refl _) (.cells (cellsF f.own a f.fields.length c) 57)
  have hs2 := alloc_size w1 (.cells (cellsF f.own a f.fields.length c) 57)
  have hr := refused_any 65536 [f] (some ⟨w1.heap.size, 0, none⟩) 1 0 (w1.heap.size + 1) _ (fun x hx => by rw [List.mem_singleton.1 hx]; exact hf) (by simp) (by rw [hs2]; omega) hin2
  rw [show ([f] : List Fld).length = 1 from rfl] at hr
  generalize (chkS bndQ 65536 [f]).1 = q at hr ⊢
  have hb02 := hb1.trans (hb2.mono hb1.size)
  unfold fV
  simp only [cellsF] at hw1 hr hb02 hs2
  clear hin hin1 hin2 hb2
  go_enter Tryz.func26, Tryz.ntmps26
  go_upto_region 1 with fail
  try rw [hw1]
  clear hw1
  go_wp2_with fail
  refine hr.mono ?_
  rintro _ w3 ⟨rfl, hb3⟩
  go_wp2_with fail
  go_ret
  exact ⟨rfl, hb02.trans (hb3.mono hb02.size)⟩
theorem alone_results {tmps : Array Value} {w : World} {h : Nat} {a b : Value} (hb : Blk w h 24 #[a, b]) (t2 : tmps[2]?.getD undef = .pointer (some ⟨h, 0, none⟩)) :
    (results Tryz.f53 tmps).run Tryz.prog w = .ok (.agg #[a, b]) w := by
  have c0 := hb.cell 0
  have c1 := hb.cell 1
  simp at c0 c1
  simp [results, Tryz.results53, go_sem, t2, c0, c1]
set_option maxHeartbeats 1000000 in
theorem alone_any (f : Fld) (a : Option Addr) (c lo n₀ : Nat) (w : World) (hc : f.fields.length ≤ c) (hn₀ : n₀ ≤ w.heap.size) (hin : FIn w lo n₀ f.fields a) :
    Calls Tryz.prog 53 #[fV f.own a f.fields.length c] w fun e w' => ∃ g, e = .returned (.agg #[.int .i64 65536, .slice (some ⟨g, 0, none⟩) 1 1]) ∧ FIn w' 0 w'.heap.size [f] (some ⟨g, 0, none⟩) ∧ Below w.heap.size w w' := by
  have hb1 := (Below.refl w.heap.size w).alloc (Nat.le_refl _) (.cells (cellsF f.own a f.fields.length c) 57)
  have hN1 := Blk.new w 57 (cellsF f.own a f.fields.length c)
  have hs1 := alloc_size w (.cells (cellsF f.own a f.fields.length c) 57)
  have hb1' := hb1.alloc hb1.size (.cells #[.int .i64 0, .slice none 0 0] 24)
  have hR1 := Blk.new (w.alloc (.cells (cellsF f.own a f.fields.length c) 57)) 24 #[.int .i64 0, .slice none 0 0]
  have hN2 := hN1.old ((Below.refl _ (w.alloc (.cells (cellsF f.own a f.fields.length c) 57))).alloc (Nat.le_refl _) (.cells #[.int .i64 0, .slice none 0 0] 24))
  obtain ⟨c0, c1, c2, c3, c4, c5, c6, c7, c8, c9, c10, c11, c12, c13⟩ := cells14 hN2
  have hin1 := hin.keep hb1' hn₀
  rw [hs1] at hR1
  generalize hw1 : (w.alloc (.cells (cellsF f.own a f.fields.length c) 57)).alloc (.cells #[.int .i64 0, .slice none 0 0] 24) = w1 at *
  have hb2 := (Below.refl w1.heap.size w1).alloc (Nat.le_refl _) (.cells (cellsF f.own a f.fields.length c) 57)
  have hs2 := alloc_size w1 (.cells (cellsF f.own a f.fields.length c) 57)
  have hR2 := hR1.old hb2
  have hF2 := Blk.new w1 57 (cellsF f.own a f.fields.length c)
  have hb02 := hb1'.trans (hb2.mono hb1'.size)
  have hlt := hR1.lt
  generalize hw2 : w1.alloc (.cells (cellsF f.own a f.fields.length c) 57) = w2 at *
  have v0 := hR2.cell 0
  have v1 := hR2.cell 1
  have g0 := hR2.frozen 0
  have g1 := hR2.frozen 1
  obtain ⟨B, hB⟩ : ∃ B, w.heap.size + 1 = B := ⟨_, rfl⟩
  rw [hB] at hR2 v0 v1 g0 g1 hlt
  have hR3 : Blk ((w2.setCell ⟨B, 0, none⟩ (.int .i64 65536)).setCell ⟨B, 1, none⟩ (.slice (some ⟨w1.heap.size, 0, none⟩) 1 1)) B 24 #[.int .i64 65536, .slice (some ⟨w1.heap.size, 0, none⟩) 1 1] := (hR2.set 0 (.int .i64 65536)).set 1 (.slice (some ⟨w1.heap.size, 0, none⟩) 1 1)
  have hF3 : Blk ((w2.setCell ⟨B, 0, none⟩ (.int .i64 65536)).setCell ⟨B, 1, none⟩ (.slice (some ⟨w1.heap.size, 0, none⟩) 1 1)) w1.heap.size 57 (cellsF f.own a f.fields.length c) := (hF2.other (p := ⟨B, 0, none⟩) (by show w1.heap.size ≠ B; omega) _).other (p := ⟨B, 1, none⟩) (by show w1.heap.size ≠ B; omega) _
  have hb3 : Below w.heap.size w ((w2.setCell ⟨B, 0, none⟩ (.int .i64 65536)).setCell ⟨B, 1, none⟩ (.slice (some ⟨w1.heap.size, 0, none⟩) 1 1)) := (hb02.setCell (p := ⟨B, 0, none⟩) (by show w.heap.size ≤ B; omega) _).setCell (p := ⟨B, 1, none⟩) (by show w.heap.size ≤ B; omega) _
  have hz3 : ((w2.setCell ⟨B, 0, none⟩ (.int .i64 65536)).setCell ⟨B, 1, none⟩ (.slice (some ⟨w1.heap.size, 0, none⟩) 1 1)).heap.size = w2.heap.size := by simp [World.setCell]
  have hin3 := FIn.oneB (M := w2.heap.size) hF3 (hin.keep hb3 hn₀) (by have := hb02.size; omega) (by omega) hc
  rw [← hz3] at hin3
  have HP : Hid (∀ W, W = ((w2.setCell ⟨B, 0, none⟩ (.int .i64 65536)).setCell ⟨B, 1, none⟩ (.slice (some ⟨w1.heap.size, 0, none⟩) 1 1)) → FIn W 0 W.heap.size [f] (some ⟨w1.heap.size, 0, none⟩) ∧ Below w.heap.size w W) := by
    rintro W rfl
    exact ⟨hin3, hb3⟩
  unfold fV
  simp only [cellsF] at hw1 hw2
  clear hin hin1 hb2 hN1 hN2 hb1 hb1' hin3 hb3 hz3 hF3 hF2 hs2 hR1 hR2 hb02 hs1
  go_enter Tryz.func53, Tryz.ntmps53
  go_upto_region 1 with fail
  try rw [hw1]
  clear hw1
  try rw [hB]
  clear hB
  go_wp2_with fail
  refine bodyPost_ret (alone_results hR3 rfl) rfl ?_
  exact ⟨_, rfl, HP.out _ rfl⟩

end Go.Proofs.YtkjoomdglealmaaGreatDoor

namespace Go.Proofs.YtkjoomdglealmaaGreatDoor
open Go.RowKit Go.Vf

def argE (q : Int) (r : Option (Int × Int × List Int × Int)) : Option (Int × Int × List Int × Int) := if q = 0 then r else some (1, 0, [], q)
theorem ErrPost.after {r : Option (Int × Int × List Int × Int)} {w w1 : World} {e : Ending} {w' : World} (hb : Below w.heap.size w w1) (h : ErrPost r w1 e w') : ErrPost r w e w' := by
  obtain ⟨h1, h2⟩ := h
  refine ⟨hb.trans (h1.mono hb.size), ?_⟩
  cases r with
  | none => exact h2
  | some p =>
    obtain ⟨c, a, P, y⟩ := p
    obtain ⟨v, why, he, hF, hW⟩ := h2
    exact ⟨v, why, he, hF.mono hb.size, hW⟩
theorem ErrPost.val {r : Option (Int × Int × List Int × Int)} {w : World} {e : Ending} {w' : World} (h : ErrPost r w e w') : ∃ v, e = .returned v ∧ ErrPost r w (.returned v) w' := by
  obtain ⟨h1, h2⟩ := h
  cases r with
  | none => exact ⟨_, h2, h1, rfl⟩
  | some p =>
    obtain ⟨c, a, P, y⟩ := p
    obtain ⟨v, why, he, hF⟩ := h2
    exact ⟨v, he, h1, v, why, rfl, hF⟩
set_option maxHeartbeats 2000000 in
set_option maxRecDepth 20000 in
theorem fitField_of (f : Fld) (hf : FitsF 17179869184 f) (a : Option Addr) (c lo n₀ : Nat) (hc : f.fields.length ≤ c) (v : Value) (w : World) (hn₀ : n₀ ≤ w.heap.size) (hin : FIn w lo n₀ f.fields a) (r : Option (Int × Int × List Int × Int))
    (hU : (chkS bndQ 65536 [f]).1 = 0 → ∀ W, Below w.heap.size w W → Calls Tryz.prog 46 #[fV f.own a f.fields.length c, v] W (ErrPost r W)) :
    Calls Tryz.prog 20 #[fV f.own a f.fields.length c, v] w (ErrPost (argE (chkS bndQ 65536 [f]).1 r) w) := by
  have hb1 := (Below.refl w.heap.size w).alloc (Nat.le_refl _) (.cells (cellsF f.own a f.fields.length c) 57)
  have hN1 := Blk.new w 57 (cellsF f.own a f.fields.length c)
  have hal := alone_any f a c lo n₀ (w.alloc (.cells (cellsF f.own a f.fields.length c) 57)) hc (by have := hb1.size; omega) (hin.keep hb1 hn₀)
  have hsc : ∀ g W, FIn W 0 W.heap.size [f] (some ⟨g, 0, none⟩) → Calls Tryz.prog 45 #[.agg #[.int .i64 65536, .slice (some ⟨g, 0, none⟩) 1 1]] W (SCheckPost (chkS bndQ 65536 [f]) W) := fun g W hW => scheck_any 65536 [f] (some ⟨g, 0, none⟩) 1 0 W.heap.size W (by simp) (fun x hx => by rw [List.mem_singleton.1 hx]; exact hf) (by simp) (Nat.le_refl _) hW
  obtain ⟨c0, c1, c2, c3, c4, c5, c6, c7, c8, c9, c10, c11, c12, c13⟩ := cells14 hN1
  generalize chkS bndQ 65536 [f] = q at hsc hU ⊢
  obtain ⟨R, hR⟩ : ∃ R, argE q.1 r = R := ⟨_, rfl⟩
  rw [hR]
  have HR : Hid (argE q.1 r = R) := hR
  unfold fV at hal hU ⊢
  simp only [cellsF] at hb1 hN1 hal c0 c1 c2 c3 c4 c5 c6 c7 c8 c9 c10 c11 c12 c13
  clear hR hin hf
  go_enter Tryz.func20, Tryz.ntmps20
  go_wp2_with fail
  refine hal.mono ?_
  rintro _ w2 ⟨g, rfl, hin2, hb2⟩
  have hb02 := hb1.trans (hb2.mono hb1.size)
  have hsc2 := hsc g w2 hin2
  clear hsc hal c0 c1 c2 c3 c4 c5 c6 c7 c8 c9 c10 c11 c12 c13 hin2
  go_wp2_with fail
  refine hsc2.mono ?_
  rintro e w3 ⟨hb3, ⟨h0, rfl⟩ | ⟨hne, ev, rfl, F, pa, pc, rfl, hF0, hF1, _, _⟩⟩
  · have hb03 := hb02.trans (hb3.mono hb02.size)
    have hN3 := (hN1.old hb2).old hb3
    obtain ⟨c0, c1, c2, c3, c4, c5, c6, c7, c8, c9, c10, c11, c12, c13⟩ := hN3.c14
    have hu := hU h0 w3 hb03
    have hRq : R = r := by rw [← HR.out, argE, if_pos h0]
    clear hU hsc2 HR
    go_wp2_with fail
    refine hu.mono ?_
    intro e4 w4 hE
    obtain ⟨v4, rfl, hE⟩ := hE.val
    have HE : Hid (ErrPost R w (.returned v4) w4) := by
      show ErrPost R w (.returned v4) w4
      rw [hRq]; exact hE.after hb03
    clear hE hRq hu
    go_wp2_with fail
    go_ret
    exact HE.out
  · have hb03 := hb02.trans (hb3.mono hb02.size)
    have hFn := fault_new w w3 hb03 1 0 (.iface 98 (.pointer (some ⟨F, 0, none⟩)))
    have hb4 := (Below.refl w3.heap.size w3).alloc (Nat.le_refl _) (.cells #[.int .i64 1, .int .i64 0, .slice none 0 0, .iface 98 (.pointer (some ⟨F, 0, none⟩))] 100)
    have hF4 := hF1.old hb4
    have HE : Hid (ErrPost R w (.returned (.iface 98 (.pointer (some ⟨w3.heap.size, 0, none⟩)))) (w3.alloc (.cells #[.int .i64 1, .int .i64 0, .slice none 0 0, .iface 98 (.pointer (some ⟨F, 0, none⟩))] 100))) := by
      show ErrPost R w _ _
      rw [← HR.out, argE, if_neg hne]
      exact ⟨hb03.trans (hb4.mono hb03.size), _, _, rfl, hFn, .inr (.inr ⟨hne, F, _, _, _, rfl, hF4⟩)⟩
    clear hU hsc2 HR hFn hb4 hF4
    go_wp2_with fail
    go_ret
    exact HE.out

def tupO : Go.Vf.Own := ⟨⟨#[]⟩, 7, false, 0, false, false, ⟨#[]⟩, false, ⟨#[]⟩, 0, 0, false, false⟩
set_option maxHeartbeats 2000000 in
set_option maxRecDepth 20000 in
theorem fitCheck_of (limit : Int) (l : List Fld) (hfit : ∀ x ∈ l, FitsF 17179869184 x) (hll : l.length ≤ 17179869184) (a : Option Addr) (c lo n₀ : Nat) (hc : l.length ≤ c) (v : Value) (w : World) (hn₀ : n₀ ≤ w.heap.size) (hin : FIn w lo n₀ l a) (r : Option (Int × Int × List Int × Int))
    (hU : (chkS bndQ limit l).1 = 0 → ∀ W, Below w.heap.size w W → Calls Tryz.prog 46 #[fV tupO a l.length c, v] W (ErrPost r W)) :
    Calls Tryz.prog 15 #[.agg #[.int .i64 limit, .slice a l.length c], v] w (ErrPost (argE (chkS bndQ limit l).1 r) w) := by
  have hb1 := (Below.refl w.heap.size w).alloc (Nat.le_refl _) (.cells #[.int .i64 limit, .slice a l.length c] 24)
  have hN1 := Blk.new w 24 #[.int .i64 limit, .slice a l.length c]
  have hsc := scheck_any limit l a c lo n₀ (w.alloc (.cells #[.int .i64 limit, .slice a l.length c] 24)) hc hfit hll (by have := hb1.size; omega) (hin.keep hb1 hn₀)
  generalize chkS bndQ limit l = q at hsc hU ⊢
  obtain ⟨R, hR⟩ : ∃ R, argE q.1 r = R := ⟨_, rfl⟩
  rw [hR]
  have HR : Hid (argE q.1 r = R) := hR
  unfold fV tupO at hU
  dsimp only at hU
  clear hR hin hfit
  go_enter Tryz.func15, Tryz.ntmps15
  go_wp2_with fail
  refine hsc.mono ?_
  rintro e w3 ⟨hb3, ⟨h0, rfl⟩ | ⟨hne, ev, rfl, F, pa, pc, rfl, hF0, hF1, _, _⟩⟩
  · have hb03 := hb1.trans (hb3.mono hb1.size)
    have hN3 := hN1.old hb3
    have c1 : w3.cell? ⟨w.heap.size, 1, none⟩ = some (.slice a l.length c) := hN3.cell 1
    have hu := hU h0 w3 hb03
    have hRq : R = r := by rw [← HR.out, argE, if_pos h0]
    clear hU hsc HR
    go_wp2_with fail
    refine hu.mono ?_
    intro e4 w4 hE
    obtain ⟨v4, rfl, hE⟩ := hE.val
    have HE : Hid (ErrPost R w (.returned v4) w4) := by
      show ErrPost R w (.returned v4) w4
      rw [hRq]; exact hE.after hb03
    clear hE hRq hu
    go_wp2_with fail
    go_ret
    exact HE.out
  · have hb03 := hb1.trans (hb3.mono hb1.size)
    have hFn := fault_new w w3 hb03 1 0 (.iface 98 (.pointer (some ⟨F, 0, none⟩)))
    have hb4 := (Below.refl w3.heap.size w3).alloc (Nat.le_refl _) (.cells #[.int .i64 1, .int .i64 0, .slice none 0 0, .iface 98 (.pointer (some ⟨F, 0, none⟩))] 100)
    have hF4 := hF1.old hb4
    have HE : Hid (ErrPost R w (.returned (.iface 98 (.pointer (some ⟨w3.heap.size, 0, none⟩)))) (w3.alloc (.cells #[.int .i64 1, .int .i64 0, .slice none 0 0, .iface 98 (.pointer (some ⟨F, 0, none⟩))] 100))) := by
      show ErrPost R w _ _
      rw [← HR.out, argE, if_neg hne]
      exact ⟨hb03.trans (hb4.mono hb03.size), _, _, rfl, hFn, .inr (.inr ⟨hne, F, _, _, _, rfl, hF4⟩)⟩
    clear hU hsc HR hFn hb4 hF4
    go_wp2_with fail
    go_ret
    exact HE.out

end Go.Proofs.YtkjoomdglealmaaGreatDoor

namespace Go.Proofs.YtkjoomdglealmaaGreatDoor
open Go.RowKit Go.Vf

abbrev Bad := Option (Int × Int × List Int × Int)
def ahead (i : Nat) : Bad → Bad
  | none => none
  | some (c, a, P, y) => some (c, a, (i : Int) :: P, y)

mutual
def unf (U : ByteArray → Int) : Fld → Prt → Bad
  | .mk o l, .mk k _ b m r t =>
    if k = 0 then (if o.nulls = 0 then some (121, 0, [], 0) else none)
    else if k ≠ o.kind then some (120, 0, [], 4)
    else if k = 2 then (if oobR o b m then some (123, 0, [], 0) else none)
    else if isRawK k then bytE (bytR o r.size (U r)) (U r)
    else if k = 7 then (if t.length ≠ l.length then some (122, 0, [], 0) else unfL U 0 l t)
    else none
def unfL (U : ByteArray → Int) (i : Nat) : List Fld → List Prt → Bad
  | f :: l, p :: t => match unf U f p with
    | none => unfL U (i + 1) l t
    | some r => ahead i (some r)
  | _, _ => none
end

theorem unfL_hit {U : ByteArray → Int} {i : Nat} {f : Fld} {l : List Fld} {p : Prt} {t : List Prt} {r : Int × Int × List Int × Int} (h : unf U f p = some r) : unfL U i (f :: l) (p :: t) = ahead i (some r) := by rw [unfL, h]
theorem unfL_on {U : ByteArray → Int} {i : Nat} {f : Fld} {l : List Fld} {p : Prt} {t : List Prt} (h : unf U f p = none) : unfL U i (f :: l) (p :: t) = unfL U (i + 1) l t := by rw [unfL, h]
theorem unfL_nil {U : ByteArray → Int} {i : Nat} {t : List Prt} : unfL U i [] t = none := by rw [unfL]; simp
theorem unfL_none {U : ByteArray → Int} : ∀ {i : Nat} {l : List Fld} {t : List Prt}, l.length = t.length → (unfL U i l t = none ↔ ∀ j (h1 : j < l.length) (h2 : j < t.length), unf U l[j] t[j] = none) := by
  intro i l
  induction l generalizing i with
  | nil => intro t h; cases t with | nil => simp [unfL] | cons a b => simp at h
  | cons f l ih =>
    intro t h
    cases t with
    | nil => simp at h
    | cons p t =>
      have h' : l.length = t.length := by simpa using h
      cases hu : unf U f p with
      | some r =>
        rw [unfL_hit hu]
        obtain ⟨c, a, P, y⟩ := r
        constructor
        · intro h; simp [ahead] at h
        · intro hh; have := hh 0 (by simp) (by simp); simp [hu] at this
      | none =>
        rw [unfL_on hu, ih h']
        constructor
        · intro hh j h1 h2
          cases j with
          | zero => simpa using hu
          | succ j => simpa using hh j (by simpa using h1) (by simpa using h2)
        · intro hh j h1 h2
          exact hh (j + 1) (Nat.succ_lt_succ h1) (Nat.succ_lt_succ h2)

theorem unf_len {U : ByteArray → Int} : ∀ (p : Prt) (f : Fld) (c a : Int) (P : List Int) (y : Int), unf U f p = some (c, a, P, y) → P.length ≤ dep p := by
  intro p
  induction p using Prt.ind with
  | h k yy b m r t ih =>
    rintro ⟨o, l⟩ c a P y
    rw [unf]
    by_cases h0 : k = 0
    · rw [if_pos h0]; split
      · intro h; cases h; simp
      · intro h; cases h
    rw [if_neg h0]
    by_cases h1 : k ≠ o.kind
    · rw [if_pos h1]; intro h; cases h; simp
    rw [if_neg h1]
    by_cases h2 : k = 2
    · rw [if_pos h2]; split
      · intro h; cases h; simp
      · intro h; cases h
    rw [if_neg h2]
    by_cases h3 : isRawK k = true
    · rw [if_pos h3, bytE]; split
      · intro h; cases h
      · intro h; cases h; simp
    rw [if_neg h3]
    by_cases h4 : k = 7
    · rw [if_pos h4]
      split
      · intro h; cases h; simp
      · rw [dep, if_pos h4]
        have : ∀ (l : List Fld) (q : List Prt) (i : Nat), (∀ x ∈ q, x ∈ t) → unfL U i l q = some (c, a, P, y) → P.length ≤ depL q + 1 := by
          intro l
          induction l with
          | nil => intro q i _ h; rw [unfL_nil] at h; cases h
          | cons f l ihl =>
            intro q i hq h
            cases q with
            | nil => rw [unfL] at h; cases h; simp
            | cons p q =>
              rw [depL]
              cases hu : unf U f p with
              | none =>
                rw [unfL_on hu] at h
                have := ihl q (i + 1) (fun x hx => hq x (by simp [hx])) h
                omega
              | some z =>
                rw [unfL_hit hu] at h
                obtain ⟨c', a', P', y'⟩ := z
                have := ih p (hq p (by simp)) f _ _ _ _ hu
                simp only [ahead, Option.some.injEq, Prod.mk.injEq] at h
                obtain ⟨_, _, rfl, _⟩ := h
                simp; omega
        exact this l t 0 (fun x hx => hx)
    · rw [if_neg h4]; intro h; cases h

inductive GoodF : Fld → Prop where
  | mk {f : Fld} : 1 ≤ f.own.kind → f.own.kind ≤ 7 → f.own.lm.size ≤ 17179869184 → f.own.hm.size ≤ 17179869184 → (f.own.bnd = true → chk f.own.ln f.own.lm.data.toList = 0 ∧ chk f.own.hn f.own.hm.data.toList = 0) → f.fields.length ≤ 17179869184 → (∀ x ∈ f.fields, GoodF x) → GoodF f

theorem maySay_good {o : Go.Vf.Own} {n : Nat} (h : maySayO (bndQ o) o n = true) : 1 ≤ o.kind ∧ o.kind ≤ 7 ∧ 0 ≤ o.nulls + 2 - o.nulls ∧ (o.bnd = true → o.kind = 2 ∧ bndQ o = true) ∧ (o.kind = 7 ∨ n = 0) := by
  unfold maySayO at h
  simp only [Bool.and_eq_true, decide_eq_true_eq] at h
  obtain ⟨⟨⟨⟨⟨⟨h1, h2⟩, h3⟩, h4⟩, h5⟩, h6⟩, h7⟩ := h
  refine ⟨h1, h2, by omega, ?_, by simpa using h7⟩
  intro hb
  by_cases hk : o.kind = 2
  · rw [if_pos hk, if_pos hb] at h4; exact ⟨hk, h4⟩
  · rw [if_neg hk, hb] at h4; simp at h4
theorem bndQ_chk {o : Go.Vf.Own} (h : bndQ o = true) : chk o.ln o.lm.data.toList = 0 ∧ chk o.hn o.hm.data.toList = 0 ∧ cmpN o.ln o.lm.data.toList o.hn o.hm.data.toList ≤ 0 := by
  unfold bndQ at h
  simp only [Bool.and_eq_true, decide_eq_true_eq] at h
  exact ⟨h.1.1, h.1.2, h.2⟩
theorem seeF_may {Q : Go.Vf.Own → Bool} {n c : Nat} {ah : List Fld} {f : Fld} (h : seeF Q n c ah f = 0) : c ≤ 64 ∧ n ≤ 16 ∧ isNameS f.own.name = true ∧ maySayO (Q f.own) f.own f.fields.length = true ∧ ¬(f.own.kind = 7 ∧ f.fields = []) := by
  unfold seeF at h
  split at h; · cases h
  split at h; · cases h
  split at h; · cases h
  split at h; · cases h
  split at h; · cases h
  split at h; · cases h
  rename_i h1 h2 h3 _ h5 h6
  exact ⟨by omega, by omega, by simpa using h3, by simpa using h5, h6⟩
inductive SeenF (Q : Go.Vf.Own → Bool) : Nat → Fld → Prop where
  | mk {n : Nat} {f : Fld} : n ≤ 16 → isNameS f.own.name = true → maySayO (Q f.own) f.own f.fields.length = true → ¬(f.own.kind = 7 ∧ f.fields = []) → (∀ x ∈ f.fields, SeenF Q (n + 1) x) → SeenF Q n f
theorem tour_seen {Q : Go.Vf.Own → Bool} : ∀ (k : Nat) (l : List Fld), SizeOf.sizeOf l ≤ k → ∀ (P : List Int) (ah : List Fld) (n m : Nat), tourL Q P ah n l = .ok m → ∀ x ∈ l, SeenF Q (P.length + 1) x := by
  intro k
  induction k with
  | zero => intro l hk; cases l <;> simp at hk
  | succ k ih =>
    intro l hk P ah n m h x hx
    cases l with
    | nil => cases hx
    | cons f r =>
      obtain ⟨o, g⟩ := f
      have s1 : SizeOf.sizeOf g ≤ k := by simp at hk; omega
      have s2 : SizeOf.sizeOf r ≤ k := by simp at hk; omega
      by_cases he : seeF Q (P.length + 1) (n + 1) ah (.mk o g) = 0
      · cases hb : tourL Q (P ++ [(ah.length : Int)]) [] (n + 1) g with
        | bad c p q => rw [tourL_in Q P ah n (.mk o g) r he hb] at h; cases h
        | ok q =>
          rw [tourL_on Q P ah n (.mk o g) r he hb] at h
          rcases List.mem_cons.1 hx with rfl | hx
          · obtain ⟨_, h2, h3, h4, h5⟩ := seeF_may he
            refine .mk h2 h3 h4 h5 (fun y hy => ?_)
            have := ih g s1 (P ++ [(ah.length : Int)]) [] (n + 1) q hb y hy
            simpa using this
          · exact ih r s2 P _ q m h x hx
      · rw [tourL_bad Q P ah n (.mk o g) r he] at h; cases h
theorem SeenF.good {n : Nat} {f : Fld} (h : SeenF bndQ n f) (hf : FitsF 17179869184 f) : GoodF f := by
  induction h with
  | mk _ _ h1 _ _ ih =>
    obtain ⟨k1, k2, _, k3, _⟩ := maySay_good h1
    refine .mk k1 k2 hf.own.lm hf.own.hm (fun hb => ?_) hf.len (fun x hx => ih x hx (hf.mem hx))
    have := bndQ_chk (k3 hb).2
    exact ⟨this.1, this.2.1⟩

theorem tour_bad {Q : Go.Vf.Own → Bool} : ∀ (k : Nat) (l : List Fld), SizeOf.sizeOf l ≤ k → ∀ (P : List Int) (ah : List Fld) (n : Nat) (c : Int) (p : List Int) (m : Nat), tourL Q P ah n l = .bad c p m → c ≠ 0 := by
  intro k
  induction k with
  | zero => intro l hk; cases l <;> simp at hk
  | succ k ih =>
    intro l hk P ah n c p m h
    cases l with
    | nil => rw [tourL_nil] at h; cases h
    | cons f r =>
      obtain ⟨o, g⟩ := f
      have s1 : SizeOf.sizeOf g ≤ k := by simp at hk; omega
      have s2 : SizeOf.sizeOf r ≤ k := by simp at hk; omega
      by_cases he : seeF Q (P.length + 1) (n + 1) ah (.mk o g) = 0
      · cases hb : tourL Q (P ++ [(ah.length : Int)]) [] (n + 1) g with
        | bad c' p' q => rw [tourL_in Q P ah n (.mk o g) r he hb] at h; cases h; exact ih g s1 _ _ _ _ _ _ hb
        | ok q => rw [tourL_on Q P ah n (.mk o g) r he hb] at h; exact ih r s2 _ _ _ _ _ _ h
      · rw [tourL_bad Q P ah n (.mk o g) r he] at h; cases h; exact he
theorem chkS_tour {Q : Go.Vf.Own → Bool} {limit : Int} {l : List Fld} (h : (chkS Q limit l).1 = 0) : ∃ m, tourL Q [] [] 0 l = .ok m := by
  unfold chkS at h
  split at h; · cases h
  split at h; · cases h
  cases ht : tourL Q [] [] 0 l with
  | ok m => exact ⟨m, rfl⟩
  | bad c p n => rw [ht] at h; exact absurd h (tour_bad _ l (Nat.le_refl _) _ _ _ _ _ _ ht)
theorem tour_chkS {Q : Go.Vf.Own → Bool} {limit : Int} {l : List Fld} {m : Nat} (h : tourL Q [] [] 0 l = .ok m) (h1 : 1 ≤ limit) (h2 : limit ≤ 65536) (hl : l ≠ []) : (chkS Q limit l).1 = 0 := by
  unfold chkS
  rw [if_neg (by omega), if_neg hl, h]
theorem chkS_seen {Q : Go.Vf.Own → Bool} {limit : Int} {l : List Fld} (h : (chkS Q limit l).1 = 0) : ∀ x ∈ l, SeenF Q 1 x := by
  obtain ⟨m, hm⟩ := chkS_tour h
  exact fun x hx => tour_seen _ l (Nat.le_refl _) [] [] 0 m hm x hx
end Go.Proofs.YtkjoomdglealmaaGreatDoor
