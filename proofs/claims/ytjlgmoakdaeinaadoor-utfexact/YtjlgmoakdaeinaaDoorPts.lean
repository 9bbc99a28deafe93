/- What utf.Points does (contracts; nothing is claimed here). -/
import Derived.Test.YtjlgmoakdaeinaaDoorCheck
namespace Go.Proofs.YtjlgmoakdaeinaaDoor
open Go.RowKit Go.Vf Go.Shelf
attribute [local go_sem] Oper.semAt_some

theorem info3 : (Tryd.prog.info? 3).map (fun i => (i.zero, i.size, i.bytes)) = some (some (.int .i64 0), 1, 8) := by kernel_rfl

/-- The slice v owns these ints (in blocks from base on). -/
def IOwn (w : World) (base : Nat) (v : Value) (zs : List Int) : Prop := w.ownsRow base 3 1 v zs.length (zs.map (Value.int .i64))

theorem ownsRow_mono {w : World} {b b' : Nat} {e : TypeId} {size : Nat} {v : Value} {k : Nat} {xs : List Value} (h : w.ownsRow b e size v k xs) (hb : b' ≤ b) : w.ownsRow b' e size v k xs := by
  obtain ⟨h1, h2⟩ := h
  refine ⟨h1, ?_⟩
  rcases h2 with h2 | ⟨g, cap, cur, e1, e2, e3⟩
  · exact .inl h2
  · exact .inr ⟨g, cap, cur, e1, Nat.le_trans hb e2, e3⟩

theorem IOwn.mono {w : World} {b b' : Nat} {v : Value} {zs : List Int} (h : IOwn w b v zs) (hb : b' ≤ b) : IOwn w b' v zs := ownsRow_mono h hb
theorem IOwn.nil (w : World) (base : Nat) : IOwn w base (.slice none 0 0) [] := World.ownsRow_nil _ _ _ _

theorem own_ge {w : World} {base : Nat} {e : TypeId} {size : Nat} {v : Value} {k : Nat} {xs : List Value} (h : w.ownsRow base e size v k xs) {j : Nat} (hj : v.ownBlock = some j) : base ≤ j ∧ ∃ cs f, w.heap[j]? = some (.cells cs e f) := by
  rcases h.2 with ⟨rfl, _⟩ | ⟨g, cap, cur, rfl, hb, hgb, _⟩
  · simp [Value.ownBlock] at hj
  · obtain rfl : g = j := by simpa [Value.ownBlock] using hj
    exact ⟨hb, _, _, hgb⟩

/-- 'points = append(points, x)': what lies as it lay. -/
theorem pts_appended {W w1 : World} {n₁ B : Nat} {v v' : Value} {k m : Nat} {xs ys : List Value} {tmp : Obj}
    (hv : Boxed W B 25 v) (hB : B < n₁) (hrow : W.ownsRow n₁ 3 1 v k xs) (hn₁ : n₁ ≤ W.heap.size)
    (hown' : w1.ownsRow n₁ 3 1 v' m ys) (hgrow : (W.alloc tmp).grownBy w1 v.ownBlock) :
    Boxed w1 B 25 v ∧ Boxed (w1.setCell ⟨B, 0, none⟩ v') B 25 v' ∧ (w1.setCell ⟨B, 0, none⟩ v').ownsRow n₁ 3 1 v' m ys ∧ KeepsOthers W (w1.setCell ⟨B, 0, none⟩ v') ∧ Below B W (w1.setCell ⟨B, 0, none⟩ v') ∧
      (∀ j t cs, t = 48 ∨ t = 9 → Blk W j t cs → Blk (w1.setCell ⟨B, 0, none⟩ v') j t cs) ∧ n₁ ≤ (w1.setCell ⟨B, 0, none⟩ v').heap.size := by
  have hkeep : ∀ (j : Nat) (t : TypeId) (cs : Array Value), some j ≠ v.ownBlock → Blk W j t cs → Blk w1 j t cs := fun j t cs hne hj =>
    (hgrow.block j (by have := hj.lt; simp; omega) hne).trans ((Below.heap_alloc W tmp j hj.lt).trans hj)
  have hv1 : Boxed w1 B 25 v := hkeep B 25 #[v] (fun e => by have := (own_ge hrow e.symm).1; omega) hv
  have hne : v'.ownBlock ≠ some B := fun e => by have := (own_ge hown' e).1; omega
  refine ⟨hv1, hv1.set v', hown'.kept (grownBy_setCell' w1 B v') (.inr hne), ?_, ?_, fun j t cs ht hj => ?_, ?_⟩
  · refine ((KeepsOthers.alloc W tmp).trans (KeepsOthers.of_grownBy hgrow fun j o ej hj => ?_)).trans (KeepsOthers.setCell _ _ _)
    obtain ⟨_, cs, f, h3⟩ := own_ge (hrow.alloc tmp) ej
    rw [h3] at hj; cases hj; rfl
  · refine (((Below.refl B W).alloc (by omega) tmp).grown hgrow (by simp; omega) fun j ej => ?_).setCell (p := ⟨B, 0, none⟩) (Nat.le_refl _) v'
    have := (own_ge hrow ej).1
    omega
  · have hjB : j ≠ B := by
      rintro rfl
      have := (show W.heap[j]? = _ from hj).symm.trans hv
      simp only [Option.some.injEq, Obj.cells.injEq] at this
      have h25 := this.2.1
      rcases ht with rfl | rfl <;> cases h25
    have h1 : Blk w1 j t cs := hkeep j t cs (fun e => by
      obtain ⟨_, cs', f, h3⟩ := own_ge hrow e.symm
      have := (show W.heap[j]? = _ from hj).symm.trans h3
      simp only [Option.some.injEq, Obj.cells.injEq] at this
      have h3 := this.2.1
      rcases ht with rfl | rfl <;> cases h3) hj
    exact (Below.heap_setCell w1 ⟨B, 0, none⟩ v' j hjB).trans h1
  · have := hgrow.size
    simp at this ⊢
    omega

theorem boxed_newAt (W : World) (t : TypeId) (v : Value) (B : Nat) (hB : B = W.heap.size) : Boxed (W.alloc (.cells #[v] t)) B t v := by subst hB; exact Boxed.new W t v

/-- What Points hands back of a text of these characters with that behind them. -/
def PtsPost (ps : List Nat) (rest : List UInt8) (w : World) (e : Ending) (w' : World) : Prop :=
  (rest = [] ∧ ∃ v, e = .returned (.tuple #[v, .int .i64 0, .int .i64 0]) ∧ IOwn w' w.heap.size v (ps.map fun p : Nat => (p : Int))) ∨
  (rest ≠ [] ∧ e = .returned (.tuple #[.slice none 0 0, .int .i64 30, .int .i64 ((encs ps).length : Int)]))

set_option maxRecDepth 100000 in
set_option maxHeartbeats 2000000 in
/-- Points(s). -/
theorem points_any (s : ByteArray) (hsz : s.size ≤ 4294967296) (ps : List Nat) (rest : List UInt8) (hs : s.data.toList = encs ps ++ rest) (hps : ∀ p ∈ ps, IsPt p) (hrest : rest = [] ∨ noChar rest) (w : World) (ht : Tabs w) :
    Calls Tryd.prog 12 #[.string s] w fun e w' => PtsPost ps rest w e w' ∧ Below w.heap.size w w' := by
  obtain ⟨i0, hi, hz0, hz1, hz2⟩ := info_parts info3
  have hN : (full ps rest).length ≤ s.size := by rw [Lib.size_eq, hs]; exact full_length _ _
  refine (callsIn_wide (n := 3)).1 ?_
  refine callsIn_of_wp_marks Tryd.func12 rfl trivial ?_ rfl
  simp only [Tryd.ntmps12, List.size_toArray, List.length_cons, List.length_nil, Nat.reduceAdd, Nat.reduceSub, Array.replicate_succ, Array.replicate_zero, List.push_toArray, List.append_toArray, List.nil_append, List.cons_append]
  gi_wp2
  refine ⟨trivial, (chars_in _ s _).mono ?_⟩
  rintro e w' ⟨rfl, rfl⟩
  gi_wp2
  obtain ⟨h, hh⟩ : ∃ h, h = w.heap.size := ⟨_, rfl⟩
  obtain ⟨W0, hW0⟩ : ∃ W0, W0 = ((((w.alloc (.cells #[.slice none 0 0] 25)).alloc (.cells #[.int .i64 0] 30)).alloc (.cells #[.int .i64 0] 3)).alloc (.cells #[.slice none 0 0] 25)).alloc (.cells #[.string s] 9) := ⟨_, rfl⟩
  have hsz0 : W0.heap.size = h + 5 := by rw [hW0, hh]; simp
  have b0 : Boxed W0 h 25 (.slice none 0 0) := by rw [hW0, hh]; exact ((((boxed_newAt w 25 (.slice none 0 0) _ rfl).alloc _).alloc _).alloc _).alloc _
  have b1 : Boxed W0 (h + 1) 30 (.int .i64 0) := by rw [hW0, hh]; exact (((boxed_newAt (w.alloc _) 30 (.int .i64 0) _ (by simp)).alloc _).alloc _).alloc _
  have b2 : Boxed W0 (h + 1 + 1) 3 (.int .i64 0) := by rw [hW0, hh]; exact ((boxed_newAt ((w.alloc _).alloc _) 3 (.int .i64 0) _ (by simp)).alloc _).alloc _
  have b3 : Boxed W0 (h + 1 + 1 + 1) 25 (.slice none 0 0) := by rw [hW0, hh]; exact (boxed_newAt (((w.alloc _).alloc _).alloc _) 25 (.slice none 0 0) _ (by simp)).alloc _
  have b4 : Blk W0 (h + 1 + 1 + 1 + 1) 9 #[.string s] := by rw [hW0, hh]; exact boxed_newAt ((((w.alloc _).alloc _).alloc _).alloc _) 9 (.string s) _ (by simp)
  have hB0 : Below h w W0 := by
    rw [hW0, hh]
    exact (((((Below.refl _ w).alloc (Nat.le_refl _) _).alloc (by simp) _).alloc (by simp; omega) _).alloc (by simp; omega) _).alloc (by simp; omega) _
  rw [← hW0, ← hh]
  have h2h : 2 ≤ h := by rw [hh]; exact ht.size
  have ht0 : Tabs W0 := ht.below h2h hB0
  have HH : Hid (h = w.heap.size) := hh
  have HS : Hid (s.data.toList = encs ps ++ rest) := hs
  clear hh hs hW0
  refine wpIn_rangeFunc_ownG (F := Fence.wide) rfl (by decide) (gf := 26) (lb := #[.pointer (some ⟨h + 1 + 1 + 1 + 1, 0, none⟩)]) rfl trivial (enters_of Tryd.func26 (by kernel_rfl) rfl)
    (chars_stops (3 - 1) (by decide) (h + 1 + 1 + 1 + 1) h h2h s hsz ps rest HS.out hps hrest _ (by omega) b4 ht0) Kpt.trans (Kpt.putObj (by omega)) (Below.refl _ _) (fun _ => rfl)
    (fun pre W => (∀ p ∈ pre, p.2 ≠ -1) ∧ (∃ v, Boxed W (h + 1 + 1 + 1) 25 v ∧ W.ownsRow (h + 5) 3 1 v pre.length ((pre.map (·.2)).map (Value.int .i64)) ∧ True) ∧ Boxed W h 25 (.slice none 0 0) ∧ Boxed W (h + 1) 30 (.int .i64 0) ∧ Boxed W (h + 1 + 1) 3 (.int .i64 0) ∧ (Below h w W ∧ Below h W0 W))
    (fun c pre W => (c = .ret ∧ ∃ ini last, pre = ini ++ [last] ∧ last.2 = -1 ∧ W.cell? ⟨h, 0, none⟩ = some (.slice none 0 0) ∧ W.cell? ⟨h + 1, 0, none⟩ = some (.int .i64 30) ∧ W.cell? ⟨h + 1 + 1, 0, none⟩ = some (.int .i64 (last.1 : Int))) ∧ Below h w W)
    (OwnFrom.and (ownFrom_pure _ _) (OwnFrom.and (Own.from (holdsRow_own (h + 5) (h + 1 + 1 + 1) 25 3 1 (fun pre : List (Nat × Int) => pre.length) (fun pre => (pre.map (·.2)).map (Value.int .i64)) (fun _ _ => True)) _)
      (OwnFrom.and (Own.from (boxed_own _ _ _) _) (OwnFrom.and (Own.from (boxed_own _ _ _) _) (OwnFrom.and (Own.from (boxed_own _ _ _) _) (OwnFrom.and (ownFrom_below (by rw [HH.out]; exact Nat.le_refl _) (by omega)) (ownFrom_below (by omega) (by omega))))))))
    (fun c => OwnFrom.and (Own.from (fun s A B row hs hg hr => by obtain ⟨hc, ini, last, e1, e2, e3, e4, e5⟩ := hs; exact ⟨hc, ini, last, e1, e2, cell_kept e3 hg hr, cell_kept e4 hg hr, cell_kept e5 hg hr⟩) _) (ownFrom_below (by rw [HH.out]; exact Nat.le_refl _) (by omega)))
    ⟨by simp, ⟨_, b3, World.ownsRow_nil _ _ _ _, trivial⟩, b0, b1, b2, hB0, Below.refl _ _⟩
    (fun x => { tmps := #[.string s, undef, .pointer (some ⟨h, 0, none⟩), .pointer (some ⟨h + 1, 0, none⟩), .pointer (some ⟨h + 1 + 1, 0, none⟩), .pointer (some ⟨h + 1 + 1 + 1, 0, none⟩), .int .i64 (x.1 : Int), .int .i64 x.2, .string s, .func (.func 26) #[] #[.pointer (some ⟨h + 1 + 1 + 1 + 1, 0, none⟩)], .int .i64 (x.1 : Int), .int .i64 x.2, undef, undef, undef, undef, undef, undef, undef, undef], defers := [] }) ?assign ?body ?done ?stop
  case assign =>
    intro l x W K hK
    gi_wp2
    exact hK
  case body =>
    rintro l pre x W ⟨hp, ⟨v, hv, hrow, _⟩, x0, x1, x2, hB, hB2⟩ hlt
    have hc := hv.cell
    have c0 := x0.cell
    have c1 := x1.cell
    have c2 := x2.cell
    have f0 := x0.frozen
    have f1 := x1.frozen
    have f2 := x2.frozen
    have hW5 : h + 5 ≤ W.heap.size := by have := hB2.size; omega
    gi_wp2_with (gi_at_builtin; refine wpListIn_append_own _ rfl _ _ 25 rfl (h + 5) 3 i0 (.int .i64 0) 1 8 Tryd.underlying25 hi hz0 hz1 hz2 rfl (by decide) _ _ _ rfl (hrow.alloc _) ⟨W.heap.size, 0, none⟩ 1 1 [.int .i64 x.2] rfl rfl (cell_one_new _ _ _) (by simp [Value.oneCell']) (by unfold maxLen; omega) (by omega) (by simp; omega) ?_; intro v' w1 hown' hgrow _; obtain ⟨g', cap', rfl⟩ := ownsRow_succ hown'; obtain ⟨hv1, hv2, hr2, hk2, hb2, hkp2, _⟩ := pts_appended hv (by omega) hrow hW5 hown' hgrow; have hc1 := hv1.cell; have hf1 := hv1.frozen)
    · rename_i hx
      have hx : x.2 = -1 := eq_of_beq hx
      have y0 := ((x0.set (.slice none 0 0)).other (B' := h + 1) (by omega) (.int .i64 30)).other (B' := h + 1 + 1) (by omega) (.int .i64 (x.1 : Int))
      have y1 := ((x1.other (B' := h) (by omega) (.slice none 0 0)).set (.int .i64 30)).other (B' := h + 1 + 1) (by omega) (.int .i64 (x.1 : Int))
      have y2 := ((x2.other (B' := h) (by omega) (.slice none 0 0)).other (B' := h + 1) (by omega) (.int .i64 30)).set (.int .i64 (x.1 : Int))
      exact ⟨(((KeepsOthers.setCell _ _ _).trans (KeepsOthers.setCell _ _ _)).trans (KeepsOthers.setCell _ _ _)).from _, ⟨rfl, pre, x, rfl, hx, y0.cell, y1.cell, y2.cell⟩,
        ((hB.setCell (p := ⟨h, 0, none⟩) (Nat.le_refl _) _).setCell (p := ⟨h + 1, 0, none⟩) (by show h ≤ h + 1; omega) _).setCell (p := ⟨h + 1 + 1, 0, none⟩) (by show h ≤ h + 1 + 1; omega) _⟩
    · have hx : ¬ x.2 = -1 := by
        intro h
        have : (x.2 == -1) = false := by first | assumption | (simp_all)
        rw [h] at this
        exact absurd this (by decide)
      have hb3 := hb2.mono (show h ≤ h + 1 + 1 + 1 by omega)
      exact ⟨hk2.from _, ⟨hb3, hkp2⟩, fun p hp' => (List.mem_append.1 hp').elim (hp p) (fun e => by simp at e; subst e; exact hx), ⟨_, hv2, by simpa using hr2, trivial⟩,
        (hb2.block h (by omega)).trans x0, (hb2.block (h + 1) (by omega)).trans x1, (hb2.block (h + 1 + 1) (by omega)).trans x2, hB.trans hb3, hB2.trans hb3⟩
  case done =>
    rintro D ys W hD rfl ⟨hne, ⟨v, hv, hrow, _⟩, x0, x1, x2, hB, hB2⟩ hK
    have hr : rest = [] := Classical.byContradiction fun h => by
      rw [full_broken _ h] at hne
      exact hne _ (List.mem_append.2 (.inr (List.mem_singleton.2 rfl))) rfl
    have hrow2 : W.ownsRow (h + 5) 3 1 v (ps.map fun p : Nat => (p : Int)).length ((ps.map fun p : Nat => (p : Int)).map (Value.int .i64)) := by
      have e : (full ps rest).map (·.2) = ps.map fun p : Nat => (p : Int) := by rw [hr, full_nil, pl_snd]
      have e2 : (full ps rest).length = (ps.map fun p : Nat => (p : Int)).length := by rw [← e, List.length_map]
      rw [e, e2] at hrow
      exact hrow
    have hv0 : ∃ a len cap, v = .slice a len cap := by
      rcases hrow.2 with ⟨rfl, _⟩ | ⟨g, cap, cur, rfl, _⟩
      · exact ⟨_, _, _, rfl⟩
      · exact ⟨_, _, _, rfl⟩
    have hne5 : ∀ B, B < h + 5 → v.ownBlock ≠ some B := fun B hlt e => by have := (own_ge hrow2 e).1; omega
    obtain ⟨zs, hzs⟩ : ∃ zs, zs = ps.map fun p : Nat => (p : Int) := ⟨_, rfl⟩
    rw [← hzs] at hrow2
    have HZ : Hid (zs = ps.map fun p : Nat => (p : Int)) := hzs
    clear hzs hrow
    obtain ⟨a, len, cap, rfl⟩ := hv0
    have y0 := ((x0.set (.slice a len cap)).other (B' := h + 1) (by omega) (.int .i64 0)).other (B' := h + 1 + 1) (by omega) (.int .i64 0)
    have y1 := ((x1.other (B' := h) (by omega) (.slice a len cap)).set (.int .i64 0)).other (B' := h + 1 + 1) (by omega) (.int .i64 0)
    have y2 := ((x2.other (B' := h) (by omega) (.slice a len cap)).other (B' := h + 1) (by omega) (.int .i64 0)).set (.int .i64 0)
    have hrow3 := ownsRow_setCell_other (ownsRow_setCell_other (ownsRow_setCell_other hrow2 (a := ⟨h, 0, none⟩) (hne5 h (by omega)) (.slice a len cap)) (a := ⟨h + 1, 0, none⟩) (hne5 (h + 1) (by omega)) (.int .i64 0)) (a := ⟨h + 1 + 1, 0, none⟩) (hne5 (h + 1 + 1) (by omega)) (.int .i64 0)
    have hB3 := ((hB.setCell (p := ⟨h, 0, none⟩) (Nat.le_refl _) (.slice a len cap)).setCell (p := ⟨h + 1, 0, none⟩) (by show h ≤ h + 1; omega) (.int .i64 0)).setCell (p := ⟨h + 1 + 1, 0, none⟩) (by show h ≤ h + 1 + 1; omega) (.int .i64 0)
    have hK' := (((KeepsOthers.setCell W ⟨h, 0, none⟩ (.slice a len cap)).trans (KeepsOthers.setCell _ ⟨h + 1, 0, none⟩ (.int .i64 0))).trans (KeepsOthers.setCell _ ⟨h + 1 + 1, 0, none⟩ (.int .i64 0))).same D _ hK rfl
    have hc := hv.cell
    have c0 := x0.cell
    have c1 := x1.cell
    have c2 := x2.cell
    have f0 := x0.frozen
    have f1 := x1.frozen
    have f2 := x2.frozen
    gi_wp2
    refine ⟨by simp, .inl ⟨_, _, rfl, run_takeDeferred hK', ?_⟩⟩
    have k0 := cell_kept y0.cell (grownBy_putObj' _ D (.deferred none)) (fun r e => by cases e; exact ⟨_, hK', rfl⟩)
    have k1 := cell_kept y1.cell (grownBy_putObj' _ D (.deferred none)) (fun r e => by cases e; exact ⟨_, hK', rfl⟩)
    have k2 := cell_kept y2.cell (grownBy_putObj' _ D (.deferred none)) (fun r e => by cases e; exact ⟨_, hK', rfl⟩)
    refine ⟨.tuple #[.slice a len cap, .int .i64 0, .int .i64 0], ?_, .inl ⟨hr, _, rfl, ?_⟩, ?_⟩
    · simp [results, Tryd.f12, go_sem, k0, k1, k2]
    · rw [← HZ.out]
      exact ownsRow_mono (ownsRow_putObj hrow3 _ hK' rfl) (by rw [← HH.out]; omega)
    · rw [← HH.out]
      exact hB3.trans (belowK_b (w := w) (by rw [HH.out]; exact Nat.le_refl _) _ D _ _ (by rw [← HH.out]; omega) hK' rfl rfl)
  case stop =>
    rintro D c pre W hD hpre ⟨⟨rfl, ini, last, e1, e3, q0, q1, q2⟩, hB⟩ hK
    rw [e1] at hpre
    obtain ⟨hr, hl, _⟩ := full_end hpre e3
    have k0 := cell_kept q0 (grownBy_putObj' _ D (.deferred none)) (fun r e => by cases e; exact ⟨_, hK, rfl⟩)
    have k1 := cell_kept q1 (grownBy_putObj' _ D (.deferred none)) (fun r e => by cases e; exact ⟨_, hK, rfl⟩)
    have k2 := cell_kept q2 (grownBy_putObj' _ D (.deferred none)) (fun r e => by cases e; exact ⟨_, hK, rfl⟩)
    gi_wp2
    refine ⟨by simp, .inl ⟨_, _, rfl, run_takeDeferred hK, ?_⟩⟩
    refine ⟨.tuple #[.slice none 0 0, .int .i64 30, .int .i64 (last.1 : Int)], ?_, .inr ⟨hr, by rw [hl]⟩, ?_⟩
    · simp [results, Tryd.f12, go_sem, k0, k1, k2]
    · rw [← HH.out]
      exact hB.trans (belowK_b (w := w) (by rw [HH.out]; exact Nat.le_refl _) _ D _ _ (by rw [← HH.out]; omega) hK rfl rfl)

end Go.Proofs.YtjlgmoakdaeinaaDoor
