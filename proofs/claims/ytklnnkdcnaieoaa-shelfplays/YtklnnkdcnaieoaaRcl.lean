/- What the document's Clone does (contracts; nothing is claimed here). -/
import Derived.Test.YtklnnkdcnaieoaaRfd
namespace Go.Proofs.Ytklnnkdcnaieoaa
open Go.RowKit Go.Vf

/-- An append in a region that draws. -/
theorem wp_append_run {w w' : World} {o : Oper} {a : Act} {K : Act → World → Prop} {Q : Exit → Act → World → Prop} (s x : Operand)
    (ho : o.op = .call { callee := .builtin .append, args := #[s, x], argTypes := #[39, 39] }) (hty : o.type = 39) {v1 v2 v' : Value} (hs : a.eval s = v1) (hx : a.eval x = v2)
    (hr : (Builtin.append_ #[39, 39] 39 #[v1, v2]).run Try.prog w = .ok v' w') (h : K (a.put o.dst v') w') : Oper.wp Try.prog o a w K Q := by
  unfold Oper.wp execOp
  simp only [ho, hty, resolve, invoke, builtin, Sem.run_bind, Sem.run_pure, Result.andThen_ok, List.map_toArray, List.map_cons, List.map_nil, hs, hx, hr]
  exact h
theorem PRow.notbox {w : World} {b B : Nat} {v : Value} {l : List Pr} {t : TypeId} {cs : Array Value} (h : PRow w b v l) (hB : Blk w B t cs) (ht : t ≠ 45) : v.ownBlock ≠ some B := fun e => by
  rcases h.2 with ⟨rfl, _⟩ | ⟨g, cap, cur, rfl, _, hg, _⟩
  · cases e
  · injection e with e
    have e2 : g = B := e
    subst e2
    exact (Blk.apart (u := 45) (ds := cur) hB hg ht) rfl
theorem belowset {n : Nat} {w w' : World} {j : Nat} {v : Value} (h : Below n w w') : Below n w (w'.setCell ⟨n, j, none⟩ v) :=
  ⟨h.os, h.tape, h.output, by rw [size_setCell]; exact h.size, fun k hk => (Below.heap_setCell w' ⟨n, j, none⟩ v k (by show k ≠ n; omega)).trans (h.block k hk)⟩
set_option maxHeartbeats 4000000 in
set_option maxRecDepth 20000 in
theorem rclone_any (w : World) (C base : Nat) (v : Value) (L : List Pr) (h : RfAt w C base v L) (hl : L.length ≤ 4294967296) (hb : base ≤ w.heap.size) : Calls Try.prog 11 #[.pointer (some ⟨C, 0, none⟩)] w fun e w' => e = .returned (.pointer (some ⟨w.heap.size, 0, none⟩)) ∧ (∃ v', RfAt w' w.heap.size base v' L ∧ ∀ g, v'.ownBlock = some g → w.heap.size ≤ g) ∧ Below w.heap.size w w' := by
  have hb1 := (Below.refl w.heap.size w).alloc (Nat.le_refl _) (.cells #[.slice none 0 0] 58)
  have HN : Hid (Blk (w.alloc (.cells #[.slice none 0 0] 58)) w.heap.size 58 #[.slice none 0 0]) := Blk.new w 58 _
  have h1 := h.old hb1
  have HB1 : Hid (Below w.heap.size w (w.alloc (.cells #[.slice none 0 0] 58))) := hb1
  obtain ⟨av, cv, ev⟩ := h.row.shape
  obtain ⟨n, hn⟩ : ∃ n, n = L.length := ⟨_, rfl⟩
  rw [← hn] at ev
  subst ev
  have HC : Hid (Cut (w.alloc (.cells #[.slice none 0 0] 58)) (.slice av n cv) L) := by
    rcases h1.row.2 with ⟨e, h0⟩ | ⟨g, cap, cur, e, hbg, hg, hnc, hcm, hcs, ht⟩
    · rw [e]; exact .inl ⟨rfl, List.eq_nil_of_length_eq_zero h0⟩
    · have h2 := h1.row
      rw [e] at h2 ⊢
      exact .inr ⟨_, cap, rfl, fun j u hj => by rw [addp]; simpa using h2.cells j u hj⟩
  obtain ⟨va, wa, r1, p1, g1⟩ := append_cut (show PRow (w.alloc (.cells #[.slice none 0 0] 58)).drew w.heap.size (.slice none 0 0) [] from World.ownsRow_nil _ w.heap.size 45 2) (l2 := L) (v2 := .slice av n cv) HC.out (by simp only [List.length_nil]; omega) hb1.size
  have HR1 : Hid ((Builtin.append_ #[39, 39] 39 #[.slice none 0 0, .slice av n cv]).run Try.prog (w.alloc (.cells #[.slice none 0 0] 58)).drew = .ok va wa) := r1
  have HP1 : Hid (PRow wa w.heap.size va L) := by simpa [Hid] using p1
  have HBa : Hid (Below (w.alloc (.cells #[.slice none 0 0] 58)).heap.size (w.alloc (.cells #[.slice none 0 0] 58)) wa) := (Below.refl _ _).drew.trans (below_grown g1 (fun g e => by cases e) (Nat.le_refl _))
  have hX := h1.box
  have hX0 := h.box
  have hN := HN.out
  clear r1 p1 g1 h h1 hb1 hn
  go_enter Try.func11, Try.ntmps11
  go_upto_region 2 with fail
  have HP2 := HP1.out.shape
  obtain ⟨ac, cc, ec⟩ := HP2
  have hN4 := hN.c1
  have hNa := hN.old HBa.out
  have na1 := hNa.c1
  have na2 := hNa.frozen 0
  have HNa : Hid (Blk wa w.heap.size 58 #[.slice none 0 0]) := hNa
  have hWs : w.heap.size < (w.alloc (.cells #[.slice none 0 0] 58)).heap.size := hN.lt
  have HBw : Hid (Below w.heap.size w wa) := HB1.out.trans (HBa.out.mono (Nat.le_of_lt hWs))
  have HF : Hid (∀ x, Below w.heap.size w x → x.cell? ⟨C, 0, none⟩ = some (.slice av n cv)) := fun x hx => (hX0.old hx).c1
  obtain ⟨nc, hnc⟩ : ∃ nc, nc = L.length := ⟨_, rfl⟩
  rw [← hnc] at ec
  subst ec
  clear hX hN hNa hnc HN HC hX0 hWs hl
  generalize w.alloc (.cells #[.slice none 0 0] 58) = W at *
  have hd4 : W.drew.cell? ⟨w.heap.size, 0, none⟩ = some (.slice none 0 0) := hN4
  clear hN4
  go_upto_region 2 with fail
  refine wp_region_held_drew (S := fun x => Below w.heap.size w x) (by kernel_rfl) (HB1.out.drew) (fun hHelda => ?_)
  refine wpAnyH_takeD (i := 0) (some 6) (v := ?va0) rfl rfl (by kernel_rfl) (by kernel_rfl) (by kernel_rfl) (fun _ _ _ h => h) (Or.inl ⟨by kernel_rfl, ?hya0⟩) (by assumption) ?resta0
  case hya0 => (intro x hSx; (try dsimp only at hSx); go_simp; first | done | with_reducible rfl)
  try simp only [Act.put, List.setIfInBounds_toArray, List.set_cons_zero, List.set_cons_succ]
  refine wpAnyH_takeD (i := 1) (some 7) (v := ?va1) rfl rfl (by kernel_rfl) (by kernel_rfl) (by kernel_rfl) (fun _ _ _ h => h) (Or.inl ⟨by kernel_rfl, ?hya1⟩) (by assumption) ?resta1
  case hya1 => (intro x hSx; (try dsimp only at hSx); go_simp; first | done | with_reducible rfl)
  try simp only [Act.put, List.setIfInBounds_toArray, List.set_cons_zero, List.set_cons_succ]
  refine wpAnyH_takeD (i := 2) (some 8) (v := ?va2) rfl rfl (by kernel_rfl) (by kernel_rfl) (by kernel_rfl) (fun _ _ _ h => h) (Or.inl ⟨by kernel_rfl, ?hya2⟩) (by assumption) ?resta2
  case hya2 => (intro x hSx; (try dsimp only at hSx); go_simp; first | done | with_reducible rfl)
  try simp only [Act.put, List.setIfInBounds_toArray, List.set_cons_zero, List.set_cons_succ]
  refine wpAnyH_takeD (i := 3) (some 9) (v := ?va3) rfl rfl (by kernel_rfl) (by kernel_rfl) (by kernel_rfl) (fun _ _ _ h => h) (Or.inl ⟨by kernel_rfl, ?hya3⟩) (by assumption) ?resta3
  case hya3 => (intro x hSx; (try dsimp only at hSx); go_simp; first | done | with_reducible rfl)
  try simp only [Act.put, List.setIfInBounds_toArray, List.set_cons_zero, List.set_cons_succ]
  refine wpAnyH_takeD (i := 5) (some 11) (v := ?va5) rfl rfl (by kernel_rfl) (by kernel_rfl) (by kernel_rfl) (fun _ _ _ h => h) (Or.inl ⟨by kernel_rfl, ?hya5⟩) (by assumption) ?resta5
  case hya5 => (intro x hSx; (try dsimp only at hSx); go_simp; first | done | with_reducible rfl)
  try simp only [Act.put, List.setIfInBounds_toArray, List.set_cons_zero, List.set_cons_succ]
  refine wpAnyH_takeD (i := 6) (some 12) (v := ?va6) rfl rfl (by kernel_rfl) (by kernel_rfl) (by kernel_rfl) (fun _ _ _ h => h) (Or.inl ⟨by kernel_rfl, ?hya6⟩) (by assumption) ?resta6
  case hya6 => (intro x hSx; (try dsimp only at hSx); go_simp; first | done | with_reducible rfl)
  try simp only [Act.put, List.setIfInBounds_toArray, List.set_cons_zero, List.set_cons_succ]
  refine wpAnyH_takeD (i := 7) (some 13) (v := ?va7) rfl rfl (by kernel_rfl) (by kernel_rfl) (by kernel_rfl) (fun _ _ _ h => h) (Or.inl ⟨by kernel_rfl, ?hya7⟩) (by assumption) ?resta7
  case hya7 => (intro x hSx; (try dsimp only at hSx); go_simp; first | done | with_reducible rfl)
  try simp only [Act.put, List.setIfInBounds_toArray, List.set_cons_zero, List.set_cons_succ]
  refine wpAnyH_takeD (i := 8) (some 14) (v := ?va8) rfl rfl (by kernel_rfl) (by kernel_rfl) (by kernel_rfl) (fun _ _ _ h => h) (Or.inl ⟨by kernel_rfl, ?hya8⟩) (by assumption) ?resta8
  case hya8 => (intro x hSx; (try dsimp only at hSx); obtain z1 := HF.out x hSx; go_simp; first | done | with_reducible rfl)
  try simp only [Act.put, List.setIfInBounds_toArray, List.set_cons_zero, List.set_cons_succ]
  refine wpAnyH_ready (rs := [4]) (by kernel_rfl) (by simp) ?_
  refine AllReadyH.cons rfl (fun K hK => ?_) AllReadyH.nil
  go_simp
  refine hK.out _ _ (by exact hHelda) (fun hHelda4 => ?_)
  clear hd4
  clear hK K
  try simp only [Act.put, List.setIfInBounds_toArray, List.set_cons_zero, List.set_cons_succ]
  refine wpAnyH_ready (rs := [9]) (by kernel_rfl) (by simp) ?_
  refine AllReadyH.cons rfl (fun K hK => ?_) AllReadyH.nil
  rw [if_pos (by rfl)]
  refine wp_append_run _ _ rfl rfl rfl rfl HR1.out ?_
  refine hK.out _ _ HBw.out (fun hHelda9 => ?_)
  clear hK K
  try simp only [Act.put, List.setIfInBounds_toArray]
  refine wpAnyH_takeD (i := 10) (some 16) (v := ?va10) rfl rfl (by kernel_rfl) (by kernel_rfl) (by kernel_rfl) (fun _ _ _ h => h) (Or.inl ⟨by kernel_rfl, ?hya10⟩) (by assumption) ?resta10
  case hya10 => (intro x hSx; (try dsimp only at hSx); go_simp; first | done | with_reducible rfl)
  try simp only [Act.put]
  refine wpAnyH_takeD (i := 11) (some 17) (v := ?va11) rfl rfl (by kernel_rfl) (by kernel_rfl) (by kernel_rfl) (fun _ _ _ h => h) (Or.inl ⟨by kernel_rfl, ?hya11⟩) (by assumption) ?resta11
  case hya11 => (intro x hSx; (try dsimp only at hSx); go_simp; first | done | with_reducible rfl)
  try simp only [Act.put]
  refine wpAnyH_ready (rs := [12]) (by kernel_rfl) (by simp) ?_
  refine AllReadyH.cons rfl (fun K hK => ?_) AllReadyH.nil
  go_simp
  refine hK.out _ _ (belowset HBw.out) (fun hHelda12 => ?_)
  clear hK K
  try simp only [Act.put, List.setIfInBounds_toArray, List.set_cons_zero, List.set_cons_succ]
  refine wpAnyH_done (by kernel_rfl) ?_ _
  go_wp2
  go_ret
  refine ⟨rfl, ⟨_, ⟨HNa.out.set 0 _, ?_⟩, fun g e => (HP1.out.own e).1⟩, belowset HBw.out⟩
  refine PRow.mono (b := w.heap.size) ?_ hb
  exact ownsRow_setCell_other HP1.out (a := ⟨w.heap.size, 0, none⟩) (HP1.out.notbox HNa.out (by decide)) _
end Go.Proofs.Ytklnnkdcnaieoaa
