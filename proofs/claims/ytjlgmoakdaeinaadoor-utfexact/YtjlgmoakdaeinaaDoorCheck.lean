/- What utf.Check does (contracts; nothing is claimed here). -/
import Derived.Test.YtjlgmoakdaeinaaDoorIter
import Derived.Maps.AppendAt
namespace Go.Proofs.YtjlgmoakdaeinaaDoor
open Go.RowKit Go.Vf Go.Shelf
attribute [local go_sem] Oper.semAt_some

/-- characters(s) hands back what tells all, one by one, or stops where the body says so. -/
theorem chars_stops (n : Nat) (hn : 1 ≤ n) (Bs n₀ : Nat) (hn₀ : 2 ≤ n₀) (s : ByteArray) (hsz : s.size ≤ 4294967296) (ps : List Nat) (rest : List UInt8) (hs : s.data.toList = encs ps ++ rest) (hps : ∀ p ∈ ps, IsPt p) (hrest : rest = [] ∨ noChar rest)
    (w : World) (hnw : n₀ ≤ w.heap.size) (hBs : Blk w Bs 9 #[.string s]) (ht : Tabs w) :
    SeqStopsK Fence.wide n Tryd.prog 26 #[.pointer (some ⟨Bs, 0, none⟩)] (fun x : Nat × Int => #[Value.int .i64 (x.1 : Int), Value.int .i64 x.2]) (Kpt n₀) (fun ys => ys = full ps rest) (fun pre => pre <+: full ps rest) (full ps rest).length w := fun l J Jx W hW hJ _ hY h0 =>
  chars1_in n hn l Bs n₀ hn₀ s hsz ps rest hs hps hrest J Jx W hJ hY (hBs.below hW hBs.lt) (ht.own hW) h0 (Nat.le_trans hnw hW.size)

def chkOf (ps : List Nat) (rest : List UInt8) : Int := if rest = [] then -1 else ((encs ps).length : Int)

set_option maxRecDepth 100000 in
set_option maxHeartbeats 2000000 in
/-- Check(s). -/
theorem check_any (s : ByteArray) (hsz : s.size ≤ 4294967296) (ps : List Nat) (rest : List UInt8) (hs : s.data.toList = encs ps ++ rest) (hps : ∀ p ∈ ps, IsPt p) (hrest : rest = [] ∨ noChar rest) (w : World) (ht : Tabs w) :
    Calls Tryd.prog 10 #[.string s] w fun e w' => e = .returned (.int .i64 (chkOf ps rest)) ∧ Below w.heap.size w w' := by
  refine (callsIn_wide (n := 3)).1 ?_
  refine callsIn_of_wp_marks Tryd.func10 rfl trivial ?_ rfl
  simp only [Tryd.ntmps10, List.size_toArray, List.length_cons, List.length_nil, Nat.reduceAdd, Nat.reduceSub, Array.replicate_succ, Array.replicate_zero, List.push_toArray, List.append_toArray, List.nil_append, List.cons_append]
  gi_wp2
  refine ⟨trivial, (chars_in _ s _).mono ?_⟩
  rintro e w' ⟨rfl, rfl⟩
  gi_wp2
  have bR := Boxed.new w 3 (.int .i64 0)
  have bN : Blk ((w.alloc (.cells #[.int .i64 0] 3)).alloc (.cells #[.string s] 9)) (w.heap.size + 1) 9 #[.string s] := by
    have := Blk.new (w.alloc (.cells #[.int .i64 0] 3)) 9 #[.string s]
    rwa [World.size_alloc] at this
  have hB0 : Below w.heap.size w ((w.alloc (.cells #[.int .i64 0] 3)).alloc (.cells #[.string s] 9)) := ((Below.refl _ w).alloc (Nat.le_refl _) _).alloc (by simp) _
  refine wpIn_rangeFunc_ownG (F := Fence.wide) rfl (by decide) (gf := 26) (lb := #[.pointer (some ⟨w.heap.size + 1, 0, none⟩)]) rfl trivial (enters_of Tryd.func26 (by kernel_rfl) rfl)
    (chars_stops (3 - 1) (by decide) (w.heap.size + 1) w.heap.size ht.size s hsz ps rest hs hps hrest _ (by simp; omega) bN (ht.own hB0)) Kpt.trans (Kpt.putObj (by simp; omega)) (Below.refl _ _) (fun _ => rfl)
    (fun pre W => ((∀ p ∈ pre, p.2 ≠ -1) ∧ W.cell? ⟨w.heap.size, 0, none⟩ = some (.int .i64 0) ∧ W.frozen? ⟨w.heap.size, 0, none⟩ = false) ∧ Below w.heap.size w W)
    (fun c pre W => (c = .ret ∧ ∃ ini last, pre = ini ++ [last] ∧ last.2 = -1 ∧ W.cell? ⟨w.heap.size, 0, none⟩ = some (.int .i64 (last.1 : Int))) ∧ Below w.heap.size w W)
    (OwnFrom.and (Own.from (fun s A B row hs hg hr => ⟨hs.1, cell_kept hs.2.1 hg hr, (frozen_kept hs.2.1 hg hr).trans hs.2.2⟩) _) (ownFrom_below (Nat.le_refl _) (by simp; omega)))
    (fun c => OwnFrom.and (Own.from (fun s A B row hs hg hr => by obtain ⟨hc, ini, last, e1, e3, e4⟩ := hs; exact ⟨hc, ini, last, e1, e3, cell_kept e4 hg hr⟩) _) (ownFrom_below (Nat.le_refl _) (by simp; omega)))
    ⟨⟨by simp, (bR.alloc _).cell, (bR.alloc _).frozen⟩, hB0⟩
    (fun x => { tmps := #[.string s, undef, .pointer (some ⟨w.heap.size, 0, none⟩), .int .i64 (x.1 : Int), .int .i64 x.2, .string s, .func (.func 26) #[] #[.pointer (some ⟨w.heap.size + 1, 0, none⟩)], .int .i64 (x.1 : Int), .int .i64 x.2, undef, undef, undef], defers := [] }) ?assign ?body ?done ?stop
  case assign =>
    intro l x W K hK
    gi_wp2
    exact hK
  case body =>
    rintro l pre x W ⟨⟨hp, hcr, hfr⟩, hB⟩ _
    gi_wp2
    · rename_i hx
      have hx : x.2 = -1 := eq_of_beq hx
      exact ⟨(KeepsOthers.setCell _ _ _).from _, ⟨rfl, pre, x, rfl, hx, World.cell?_setCell_same' _ _ _ (by rw [hcr]; rfl)⟩, hB.setCell (p := ⟨w.heap.size, 0, none⟩) (Nat.le_refl _) _⟩
    · rename_i hx
      exact ⟨KeepsFrom.refl _ _, Kpt.refl _ _, ⟨fun p hp' => (List.mem_append.1 hp').elim (hp p) (fun e => by simp at e; subst e; simpa using hx), hcr, hfr⟩, hB⟩
  case done =>
    rintro D ys W hD rfl ⟨⟨hne, hcr, hfr⟩, hB⟩ hK
    have hr : rest = [] := Classical.byContradiction fun h => by
      rw [full_broken _ h] at hne
      exact hne _ (List.mem_append.2 (.inr (List.mem_singleton.2 rfl))) rfl
    gi_wp2
    have hK' := (KeepsOthers.setCell W ⟨w.heap.size, 0, none⟩ (.int .i64 (-1))).same D _ hK rfl
    refine ⟨by simp, .inl ⟨_, _, rfl, run_takeDeferred hK', ?_⟩⟩
    have hc5 := cell_kept (World.cell?_setCell_same' W ⟨w.heap.size, 0, none⟩ (.int .i64 (-1)) (by rw [hcr]; rfl)) (grownBy_putObj' _ D (.deferred none)) (fun r e => by cases e; exact ⟨_, hK', rfl⟩)
    refine ⟨.int .i64 (-1), ?_, by rw [chkOf, if_pos hr], (hB.setCell (p := ⟨w.heap.size, 0, none⟩) (Nat.le_refl _) _).trans (belowK_b (w := w) (Nat.le_refl _) _ D _ _ (by simp at hD; omega) hK' rfl rfl)⟩
    simp [results, Tryd.f10, go_sem, hc5]
  case stop =>
    rintro D c pre W hD hpre ⟨⟨rfl, ini, last, e1, e3, hcr⟩, hB⟩ hK
    rw [e1] at hpre
    obtain ⟨hr, hl, _⟩ := full_end hpre e3
    gi_wp2
    refine ⟨by simp, .inl ⟨_, _, rfl, run_takeDeferred hK, ?_⟩⟩
    have hc5 := cell_kept hcr (grownBy_putObj' _ D (.deferred none)) (fun r e => by cases e; exact ⟨_, hK, rfl⟩)
    refine ⟨.int .i64 (last.1 : Int), ?_, by rw [chkOf, if_neg hr, hl], hB.trans (belowK_b (w := w) (Nat.le_refl _) W D _ _ (by simp at hD; omega) hK rfl rfl)⟩
    simp [results, Tryd.f10, go_sem, hc5]

end Go.Proofs.YtjlgmoakdaeinaaDoor
