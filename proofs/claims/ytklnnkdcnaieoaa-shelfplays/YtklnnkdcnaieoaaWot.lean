/- What shelf's beside and (*node).without do: a pair taken out of a tree (contracts; nothing is claimed here). -/
import Derived.Test.YtklnnkdcnaieoaaFst
import Derived.Test.YtklnnkdcnaieoaaFnd
namespace Go.Proofs.Ytklnnkdcnaieoaa
open Go.RowKit Go.Vf

set_option maxHeartbeats 8000000 in
set_option maxRecDepth 20000 in
theorem beside_any (l r : Tr) (w : World) (hl : TAt w l) (hr : TAt w r) (hb : l.toL.length + r.toL.length < 288230376151711744) : Calls Try.prog 45 #[.pointer l.ptr, .pointer r.ptr] w (EvPost (l.toL ++ r.toL) w) := by
  cases r with
  | leaf =>
    have e0 : Tr.leaf.ptr = none := rfl
    rw [e0]
    go_enter Try.func45, Try.ntmps45
    go_wp2
    go_ret
    exact ⟨l, rfl, hl, by simp [Tr.toL], Below.refl _ _⟩
  | node nb m x rl rr =>
    have e0 : (Tr.node nb m x rl rr).ptr = some ⟨nb, 0, none⟩ := rfl
    have h1 := first_any (.node nb m x rl rr) w hr (by omega) ⟨_, _, _, _, _, rfl⟩
    rw [e0] at h1 ⊢
    have HL : Hid (TAt w l) := hl
    have hlh := l.ht_le
    clear hl hr
    go_enter Try.func45, Try.ntmps45
    go_wp2_with fail
    refine h1.mono ?_
    clear h1
    rintro e w2 ⟨k, v, U, rfl, hU, hUL, hb2⟩
    have hUl : U.toL.length + 1 = (Tr.node nb m x rl rr).toL.length := by rw [hUL]; rfl
    have hUh := U.ht_le
    have HUL : Hid ((Tr.node nb m x rl rr).toL = (k, v) :: U.toL) := hUL
    clear hUL
    have hs3 := (Below.refl w2.heap.size w2).alloc (Nat.le_refl _) (.cells #[.string k, .string v] 45)
    have hN3 := Blk.new w2 45 #[.string k, .string v]
    have hU3 := hU.old hs3
    have hL3 := (HL.out.old hb2).old hs3
    have HB3 : Hid (Below w.heap.size w (w2.alloc (.cells #[.string k, .string v] 45))) := hb2.trans (hs3.mono hb2.size)
    clear hb2 hs3 hU
    go_upto_region 4 with fail
    generalize (w2.alloc (.cells #[.string k, .string v] 45)) = w3 at *
    obtain ⟨p0, p1⟩ := hN3.c2
    go_wp2_with fail
    refine (even_any l U k v w3 hL3 hU3 (by omega)).mono ?_
    rintro e w4 ⟨V, rfl, hv, hVL, hq⟩
    go_wp2
    go_ret
    exact ⟨V, rfl, hv, by rw [hVL, HUL.out], HB3.out.trans (hq.mono HB3.out.size)⟩

set_option maxHeartbeats 8000000 in
set_option maxRecDepth 20000 in
theorem without_any (k : ByteArray) (bk : Nat) (T : Tr) : ∀ (w : World), TAt w T → Srt T.toL → T.toL.length < 288230376151711744 → w.cell? ⟨bk, 0, none⟩ = some (.string k) → bk < w.heap.size → (∃ v, get k T.toL = some v) →
    Calls Try.prog 33 #[.pointer T.ptr, .func (.func 43) #[] #[.pointer (some ⟨bk, 0, none⟩)]] w (EvPost (del k T.toL) w) := by
  induction T with
  | leaf =>
    intro w _ _ _ _ _ h
    obtain ⟨v, h⟩ := h
    cases h
  | node nb m x l r ihl ihr =>
    intro w hT hs hb hk hbk hg
    have e0 : (Tr.node nb m x l r).ptr = some ⟨nb, 0, none⟩ := rfl
    rw [e0]
    have HS : Hid (Srt (Tr.node nb m x l r).toL) := hs
    have HG : Hid (∃ v, get k (Tr.node nb m x l r).toL = some v) := hg
    have hlen : l.toL.length + r.toL.length + 1 < 288230376151711744 := by simp only [Tr.toL, List.length_append, List.length_cons] at hb; omega
    have hlh := l.ht_le
    have hrh := r.ht_le
    clear hs hb hg
    obtain ⟨c0, c1, c2, c3, _⟩ := hT.cells
    have HT : Hid (TAt w (.node nb m x l r)) := hT
    have HF : Hid (∀ y, Below w.heap.size w y → y.cell? ⟨nb, 0, none⟩ = some (.string m) ∧ y.cell? ⟨nb, 1, none⟩ = some (.string x) ∧ y.cell? ⟨nb, 2, none⟩ = some (.pointer l.ptr) ∧ y.cell? ⟨nb, 3, none⟩ = some (.pointer r.ptr)) := fun y hy =>
      have q := (hT.old hy).cells
      ⟨q.1, q.2.1, q.2.2.1, q.2.2.2.1⟩
    have HKY : Hid (∀ y, Below w.heap.size w y → y.cell? ⟨bk, 0, none⟩ = some (.string k) ∧ bk < y.heap.size) := fun y hy => ⟨(hy.cell (p := ⟨bk, 0, none⟩) hbk).trans hk, Nat.lt_of_lt_of_le hbk hy.size⟩
    clear hT
    go_enter Try.func33, Try.ntmps33
    go_wp2_with fail
    refine (toward1_any k m bk w hk).mono ?_
    rintro e wq ⟨rfl, rfl⟩
    clear hk
    rcases sd_three k m with h | h | h
    · have hlt : Hid (lt k m = true) := sd_lt.1 (by omega)
      generalize sd k m = s at *
      subst h
      have HG2 : Hid (∃ v, get k l.toL = some v) := by obtain ⟨v, q⟩ := HG.out; exact ⟨v, (get_low HS.out hlt.out).symm.trans q⟩
      clear HG
      have HG := HG2
      clear HG2
      go_upto_region 3 with fail
      refine wp_region_held_drew (S := fun x => Below w.heap.size w x) (by kernel_rfl) ((Below.refl _ _).drew) (fun hHelda => ?_)
      refine wpAnyH_takeD (i := 0) (some 16) (v := ?va0) rfl rfl (by kernel_rfl) (by kernel_rfl) (by kernel_rfl) (fun _ _ _ h => h) (Or.inl ⟨by kernel_rfl, ?hya0⟩) (by assumption) ?resta0
      case hya0 => (intro x hSx; (try dsimp only at hSx); go_simp; first | done | with_reducible rfl)
      try simp only [Act.put, List.setIfInBounds_toArray, List.set_cons_zero, List.set_cons_succ]
      refine wpAnyH_takeD (i := 1) (some 17) (v := ?va1) rfl rfl (by kernel_rfl) (by kernel_rfl) (by kernel_rfl) (fun _ _ _ h => h) (Or.inl ⟨by kernel_rfl, ?hya1⟩) (by assumption) ?resta1
      case hya1 => (intro x hSx; (try dsimp only at hSx); go_simp; first | done | with_reducible rfl)
      try simp only [Act.put, List.setIfInBounds_toArray, List.set_cons_zero, List.set_cons_succ]
      refine wpAnyH_takeD (i := 2) (some 18) (v := ?va2) rfl rfl (by kernel_rfl) (by kernel_rfl) (by kernel_rfl) (fun _ _ _ h => h) (Or.inl ⟨by kernel_rfl, ?hya2⟩) (by assumption) ?resta2
      case hya2 => (intro x hSx; (try dsimp only at hSx); go_simp; first | done | with_reducible rfl)
      try simp only [Act.put, List.setIfInBounds_toArray, List.set_cons_zero, List.set_cons_succ]
      refine wpAnyH_takeD (i := 3) (some 19) (v := ?va3) rfl rfl (by kernel_rfl) (by kernel_rfl) (by kernel_rfl) (fun _ _ _ h => h) (Or.inl ⟨by kernel_rfl, ?hya3⟩) (by assumption) ?resta3
      case hya3 => (intro x hSx; (try dsimp only at hSx); obtain ⟨z0, z1, z2, z3⟩ := HF.out x hSx; go_simp; first | done | with_reducible rfl)
      try simp only [Act.put, List.setIfInBounds_toArray, List.set_cons_zero, List.set_cons_succ]
      refine wpAnyH_takeD (i := 4) (some 20) (v := ?va4) rfl rfl (by kernel_rfl) (by kernel_rfl) (by kernel_rfl) (fun _ _ _ h => h) (Or.inl ⟨by kernel_rfl, ?hya4⟩) (by assumption) ?resta4
      case hya4 => (intro x hSx; (try dsimp only at hSx); go_simp; first | done | with_reducible rfl)
      try simp only [Act.put, List.setIfInBounds_toArray, List.set_cons_zero, List.set_cons_succ]
      refine wpAnyH_takeD (i := 6) (some 22) (v := ?va6) rfl rfl (by kernel_rfl) (by kernel_rfl) (by kernel_rfl) (fun _ _ _ h => h) (Or.inl ⟨by kernel_rfl, ?hya6⟩) (by assumption) ?resta6
      case hya6 => (intro x hSx; (try dsimp only at hSx); go_simp; first | done | with_reducible rfl)
      try simp only [Act.put, List.setIfInBounds_toArray, List.set_cons_zero, List.set_cons_succ]
      refine wpAnyH_takeD (i := 7) (some 23) (v := ?va7) rfl rfl (by kernel_rfl) (by kernel_rfl) (by kernel_rfl) (fun _ _ _ h => h) (Or.inl ⟨by kernel_rfl, ?hya7⟩) (by assumption) ?resta7
      case hya7 => (intro x hSx; (try dsimp only at hSx); go_simp; first | done | with_reducible rfl)
      try simp only [Act.put, List.setIfInBounds_toArray, List.set_cons_zero, List.set_cons_succ]
      refine wpAnyH_takeD (i := 8) (some 24) (v := ?va8) rfl rfl (by kernel_rfl) (by kernel_rfl) (by kernel_rfl) (fun _ _ _ h => h) (Or.inl ⟨by kernel_rfl, ?hya8⟩) (by assumption) ?resta8
      case hya8 => (intro x hSx; (try dsimp only at hSx); go_simp; first | done | with_reducible rfl)
      try simp only [Act.put, List.setIfInBounds_toArray, List.set_cons_zero, List.set_cons_succ]
      refine wpAnyH_takeD (i := 9) (some 25) (v := ?va9) rfl rfl (by kernel_rfl) (by kernel_rfl) (by kernel_rfl) (fun _ _ _ h => h) (Or.inl ⟨by kernel_rfl, ?hya9⟩) (by assumption) ?resta9
      case hya9 => (intro x hSx; (try dsimp only at hSx); obtain ⟨z0, z1, z2, z3⟩ := HF.out x hSx; go_simp; first | done | with_reducible rfl)
      try simp only [Act.put, List.setIfInBounds_toArray, List.set_cons_zero, List.set_cons_succ]
      refine wpAnyH_takeD (i := 10) (some 26) (v := ?va10) rfl rfl (by kernel_rfl) (by kernel_rfl) (by kernel_rfl) (fun _ _ _ h => h) (Or.inl ⟨by kernel_rfl, ?hya10⟩) (by assumption) ?resta10
      case hya10 => (intro x hSx; (try dsimp only at hSx); go_simp; first | done | with_reducible rfl)
      try simp only [Act.put, List.setIfInBounds_toArray, List.set_cons_zero, List.set_cons_succ]
      refine wpAnyH_takeD (i := 11) (some 27) (v := ?va11) rfl rfl (by kernel_rfl) (by kernel_rfl) (by kernel_rfl) (fun _ _ _ h => h) (Or.inl ⟨by kernel_rfl, ?hya11⟩) (by assumption) ?resta11
      case hya11 => (intro x hSx; (try dsimp only at hSx); go_simp; first | done | with_reducible rfl)
      try simp only [Act.put, List.setIfInBounds_toArray, List.set_cons_zero, List.set_cons_succ]
      refine wpAnyH_takeD (i := 12) (some 28) (v := ?va12) rfl rfl (by kernel_rfl) (by kernel_rfl) (by kernel_rfl) (fun _ _ _ h => h) (Or.inl ⟨by kernel_rfl, ?hya12⟩) (by assumption) ?resta12
      case hya12 => (intro x hSx; (try dsimp only at hSx); go_simp; first | done | with_reducible rfl)
      try simp only [Act.put, List.setIfInBounds_toArray, List.set_cons_zero, List.set_cons_succ]
      refine wpAnyH_takeD (i := 13) (some 29) (v := ?va13) rfl rfl (by kernel_rfl) (by kernel_rfl) (by kernel_rfl) (fun _ _ _ h => h) (Or.inl ⟨by kernel_rfl, ?hya13⟩) (by assumption) ?resta13
      case hya13 => (intro x hSx; (try dsimp only at hSx); obtain ⟨z0, z1, z2, z3⟩ := HF.out x hSx; go_simp; first | done | with_reducible rfl)
      try simp only [Act.put, List.setIfInBounds_toArray, List.set_cons_zero, List.set_cons_succ]
      refine wpAnyH_ready (rs := [5]) (by kernel_rfl) (by simp) ?_
      refine AllReadyH.cons rfl (fun K hK => ?_) AllReadyH.nil
      go_simp
      go_wp2_with (go_at_call 33; refine (ihl _ (HT.out.2.1.old hHelda) (HS.out.parts.1) (by omega) (HKY.out _ hHelda).1 (HKY.out _ hHelda).2 HG.out).mono ?_; rintro e y5 ⟨U, rfl, hu, hUL, hq5⟩)
      have hUl : U.toL.length ≤ l.toL.length := by rw [hUL]; exact List.length_filter_le _ _
      have hUh := U.ht_le
      have HUL : Hid (U.toL = del k l.toL) := hUL
      clear hUL
      refine hK.out _ _ (hHelda.trans (hq5.mono hHelda.size)) (fun hHelda5 => ?_)
      clear hK K
      try simp only [Act.put, List.setIfInBounds_toArray, List.set_cons_zero, List.set_cons_succ]
      refine wpAnyH_ready (rs := [14]) (by kernel_rfl) (by simp) ?_
      refine AllReadyH.cons rfl (fun K hK => ?_) AllReadyH.nil
      go_simp
      go_wp2_with (go_at_call 42; refine (even_any U r m x _ (hu) (HT.out.2.2.old hHelda5) (by omega)).mono ?_; rintro e y14 ⟨V, rfl, hv, hVL, hq14⟩)
      refine hK.out _ _ (hHelda5.trans (hq14.mono hHelda5.size)) (fun hHelda14 => ?_)
      clear hK K
      try simp only [Act.put, List.setIfInBounds_toArray, List.set_cons_zero, List.set_cons_succ]
      refine wpAnyH_takeD (i := 15) (some 4) (v := ?va15) rfl rfl (by kernel_rfl) (by kernel_rfl) (by kernel_rfl) (fun _ _ _ h => h) (Or.inl ⟨by kernel_rfl, ?hya15⟩) (by assumption) ?resta15
      case hya15 => (intro x hSx; (try dsimp only at hSx); go_simp; first | done | with_reducible rfl)
      try simp only [Act.put, List.setIfInBounds_toArray, List.set_cons_zero, List.set_cons_succ]
      refine wpAnyH_done (by kernel_rfl) ?_ _
      go_wp2
      go_ret
      exact ⟨V, rfl, hv, hVL.trans (by rw [HUL.out]; exact (del_low HS.out hlt.out).symm), hHelda14⟩
    · have hq : Hid (k = m) := sd_eq.1 h
      generalize sd k m = s at *
      subst h
      go_upto_region 6 with fail
      refine wp_region_held_drew (S := fun x => Below w.heap.size w x) (by kernel_rfl) ((Below.refl _ _).drew) (fun hHeldb => ?_)
      refine wpAnyH_takeD (i := 0) (some 49) (v := ?vb0) rfl rfl (by kernel_rfl) (by kernel_rfl) (by kernel_rfl) (fun _ _ _ h => h) (Or.inl ⟨by kernel_rfl, ?hyb0⟩) (by assumption) ?restb0
      case hyb0 => (intro x hSx; (try dsimp only at hSx); go_simp; first | done | with_reducible rfl)
      try simp only [Act.put, List.setIfInBounds_toArray, List.set_cons_zero, List.set_cons_succ]
      refine wpAnyH_takeD (i := 1) (some 50) (v := ?vb1) rfl rfl (by kernel_rfl) (by kernel_rfl) (by kernel_rfl) (fun _ _ _ h => h) (Or.inl ⟨by kernel_rfl, ?hyb1⟩) (by assumption) ?restb1
      case hyb1 => (intro x hSx; (try dsimp only at hSx); go_simp; first | done | with_reducible rfl)
      try simp only [Act.put, List.setIfInBounds_toArray, List.set_cons_zero, List.set_cons_succ]
      refine wpAnyH_takeD (i := 2) (some 51) (v := ?vb2) rfl rfl (by kernel_rfl) (by kernel_rfl) (by kernel_rfl) (fun _ _ _ h => h) (Or.inl ⟨by kernel_rfl, ?hyb2⟩) (by assumption) ?restb2
      case hyb2 => (intro x hSx; (try dsimp only at hSx); go_simp; first | done | with_reducible rfl)
      try simp only [Act.put, List.setIfInBounds_toArray, List.set_cons_zero, List.set_cons_succ]
      refine wpAnyH_takeD (i := 3) (some 52) (v := ?vb3) rfl rfl (by kernel_rfl) (by kernel_rfl) (by kernel_rfl) (fun _ _ _ h => h) (Or.inl ⟨by kernel_rfl, ?hyb3⟩) (by assumption) ?restb3
      case hyb3 => (intro x hSx; (try dsimp only at hSx); obtain ⟨z0, z1, z2, z3⟩ := HF.out x hSx; go_simp; first | done | with_reducible rfl)
      try simp only [Act.put, List.setIfInBounds_toArray, List.set_cons_zero, List.set_cons_succ]
      refine wpAnyH_takeD (i := 4) (some 53) (v := ?vb4) rfl rfl (by kernel_rfl) (by kernel_rfl) (by kernel_rfl) (fun _ _ _ h => h) (Or.inl ⟨by kernel_rfl, ?hyb4⟩) (by assumption) ?restb4
      case hyb4 => (intro x hSx; (try dsimp only at hSx); go_simp; first | done | with_reducible rfl)
      try simp only [Act.put, List.setIfInBounds_toArray, List.set_cons_zero, List.set_cons_succ]
      refine wpAnyH_takeD (i := 5) (some 54) (v := ?vb5) rfl rfl (by kernel_rfl) (by kernel_rfl) (by kernel_rfl) (fun _ _ _ h => h) (Or.inl ⟨by kernel_rfl, ?hyb5⟩) (by assumption) ?restb5
      case hyb5 => (intro x hSx; (try dsimp only at hSx); go_simp; first | done | with_reducible rfl)
      try simp only [Act.put, List.setIfInBounds_toArray, List.set_cons_zero, List.set_cons_succ]
      refine wpAnyH_takeD (i := 6) (some 55) (v := ?vb6) rfl rfl (by kernel_rfl) (by kernel_rfl) (by kernel_rfl) (fun _ _ _ h => h) (Or.inl ⟨by kernel_rfl, ?hyb6⟩) (by assumption) ?restb6
      case hyb6 => (intro x hSx; (try dsimp only at hSx); go_simp; first | done | with_reducible rfl)
      try simp only [Act.put, List.setIfInBounds_toArray, List.set_cons_zero, List.set_cons_succ]
      refine wpAnyH_takeD (i := 7) (some 56) (v := ?vb7) rfl rfl (by kernel_rfl) (by kernel_rfl) (by kernel_rfl) (fun _ _ _ h => h) (Or.inl ⟨by kernel_rfl, ?hyb7⟩) (by assumption) ?restb7
      case hyb7 => (intro x hSx; (try dsimp only at hSx); obtain ⟨z0, z1, z2, z3⟩ := HF.out x hSx; go_simp; first | done | with_reducible rfl)
      try simp only [Act.put, List.setIfInBounds_toArray, List.set_cons_zero, List.set_cons_succ]
      refine wpAnyH_ready (rs := [8]) (by kernel_rfl) (by simp) ?_
      refine AllReadyH.cons rfl (fun K hK => ?_) AllReadyH.nil
      go_simp
      go_wp2_with (go_at_call 45; refine (beside_any l r _ (HT.out.2.1.old hHeldb) (HT.out.2.2.old hHeldb) (by omega)).mono ?_; rintro e y8 ⟨V, rfl, hv, hVL, hq8⟩)
      refine hK.out _ _ (hHeldb.trans (hq8.mono hHeldb.size)) (fun hHeldb8 => ?_)
      clear hK K
      try simp only [Act.put, List.setIfInBounds_toArray, List.set_cons_zero, List.set_cons_succ]
      refine wpAnyH_takeD (i := 9) (some 4) (v := ?vb9) rfl rfl (by kernel_rfl) (by kernel_rfl) (by kernel_rfl) (fun _ _ _ h => h) (Or.inl ⟨by kernel_rfl, ?hyb9⟩) (by assumption) ?restb9
      case hyb9 => (intro x hSx; (try dsimp only at hSx); go_simp; first | done | with_reducible rfl)
      try simp only [Act.put, List.setIfInBounds_toArray, List.set_cons_zero, List.set_cons_succ]
      refine wpAnyH_done (by kernel_rfl) ?_ _
      go_wp2
      go_ret
      exact ⟨V, rfl, hv, hVL.trans (by rw [hq.out]; exact (del_here HS.out).symm), hHeldb8⟩
    · have hlt : Hid (lt m k = true) := sd_gt.1 (by omega)
      generalize sd k m = s at *
      subst h
      have HG2 : Hid (∃ v, get k r.toL = some v) := by obtain ⟨v, q⟩ := HG.out; exact ⟨v, (get_high HS.out hlt.out).symm.trans q⟩
      clear HG
      have HG := HG2
      clear HG2
      go_upto_region 5 with fail
      refine wp_region_held_drew (S := fun x => Below w.heap.size w x) (by kernel_rfl) ((Below.refl _ _).drew) (fun hHeldc => ?_)
      refine wpAnyH_takeD (i := 0) (some 34) (v := ?vc0) rfl rfl (by kernel_rfl) (by kernel_rfl) (by kernel_rfl) (fun _ _ _ h => h) (Or.inl ⟨by kernel_rfl, ?hyc0⟩) (by assumption) ?restc0
      case hyc0 => (intro x hSx; (try dsimp only at hSx); go_simp; first | done | with_reducible rfl)
      try simp only [Act.put, List.setIfInBounds_toArray, List.set_cons_zero, List.set_cons_succ]
      refine wpAnyH_takeD (i := 1) (some 35) (v := ?vc1) rfl rfl (by kernel_rfl) (by kernel_rfl) (by kernel_rfl) (fun _ _ _ h => h) (Or.inl ⟨by kernel_rfl, ?hyc1⟩) (by assumption) ?restc1
      case hyc1 => (intro x hSx; (try dsimp only at hSx); go_simp; first | done | with_reducible rfl)
      try simp only [Act.put, List.setIfInBounds_toArray, List.set_cons_zero, List.set_cons_succ]
      refine wpAnyH_takeD (i := 2) (some 36) (v := ?vc2) rfl rfl (by kernel_rfl) (by kernel_rfl) (by kernel_rfl) (fun _ _ _ h => h) (Or.inl ⟨by kernel_rfl, ?hyc2⟩) (by assumption) ?restc2
      case hyc2 => (intro x hSx; (try dsimp only at hSx); go_simp; first | done | with_reducible rfl)
      try simp only [Act.put, List.setIfInBounds_toArray, List.set_cons_zero, List.set_cons_succ]
      refine wpAnyH_takeD (i := 3) (some 37) (v := ?vc3) rfl rfl (by kernel_rfl) (by kernel_rfl) (by kernel_rfl) (fun _ _ _ h => h) (Or.inl ⟨by kernel_rfl, ?hyc3⟩) (by assumption) ?restc3
      case hyc3 => (intro x hSx; (try dsimp only at hSx); obtain ⟨z0, z1, z2, z3⟩ := HF.out x hSx; go_simp; first | done | with_reducible rfl)
      try simp only [Act.put, List.setIfInBounds_toArray, List.set_cons_zero, List.set_cons_succ]
      refine wpAnyH_takeD (i := 4) (some 38) (v := ?vc4) rfl rfl (by kernel_rfl) (by kernel_rfl) (by kernel_rfl) (fun _ _ _ h => h) (Or.inl ⟨by kernel_rfl, ?hyc4⟩) (by assumption) ?restc4
      case hyc4 => (intro x hSx; (try dsimp only at hSx); go_simp; first | done | with_reducible rfl)
      try simp only [Act.put, List.setIfInBounds_toArray, List.set_cons_zero, List.set_cons_succ]
      refine wpAnyH_takeD (i := 5) (some 39) (v := ?vc5) rfl rfl (by kernel_rfl) (by kernel_rfl) (by kernel_rfl) (fun _ _ _ h => h) (Or.inl ⟨by kernel_rfl, ?hyc5⟩) (by assumption) ?restc5
      case hyc5 => (intro x hSx; (try dsimp only at hSx); go_simp; first | done | with_reducible rfl)
      try simp only [Act.put, List.setIfInBounds_toArray, List.set_cons_zero, List.set_cons_succ]
      refine wpAnyH_takeD (i := 6) (some 40) (v := ?vc6) rfl rfl (by kernel_rfl) (by kernel_rfl) (by kernel_rfl) (fun _ _ _ h => h) (Or.inl ⟨by kernel_rfl, ?hyc6⟩) (by assumption) ?restc6
      case hyc6 => (intro x hSx; (try dsimp only at hSx); go_simp; first | done | with_reducible rfl)
      try simp only [Act.put, List.setIfInBounds_toArray, List.set_cons_zero, List.set_cons_succ]
      refine wpAnyH_takeD (i := 7) (some 41) (v := ?vc7) rfl rfl (by kernel_rfl) (by kernel_rfl) (by kernel_rfl) (fun _ _ _ h => h) (Or.inl ⟨by kernel_rfl, ?hyc7⟩) (by assumption) ?restc7
      case hyc7 => (intro x hSx; (try dsimp only at hSx); obtain ⟨z0, z1, z2, z3⟩ := HF.out x hSx; go_simp; first | done | with_reducible rfl)
      try simp only [Act.put, List.setIfInBounds_toArray, List.set_cons_zero, List.set_cons_succ]
      refine wpAnyH_takeD (i := 8) (some 42) (v := ?vc8) rfl rfl (by kernel_rfl) (by kernel_rfl) (by kernel_rfl) (fun _ _ _ h => h) (Or.inl ⟨by kernel_rfl, ?hyc8⟩) (by assumption) ?restc8
      case hyc8 => (intro x hSx; (try dsimp only at hSx); go_simp; first | done | with_reducible rfl)
      try simp only [Act.put, List.setIfInBounds_toArray, List.set_cons_zero, List.set_cons_succ]
      refine wpAnyH_takeD (i := 9) (some 43) (v := ?vc9) rfl rfl (by kernel_rfl) (by kernel_rfl) (by kernel_rfl) (fun _ _ _ h => h) (Or.inl ⟨by kernel_rfl, ?hyc9⟩) (by assumption) ?restc9
      case hyc9 => (intro x hSx; (try dsimp only at hSx); go_simp; first | done | with_reducible rfl)
      try simp only [Act.put, List.setIfInBounds_toArray, List.set_cons_zero, List.set_cons_succ]
      refine wpAnyH_takeD (i := 10) (some 44) (v := ?vc10) rfl rfl (by kernel_rfl) (by kernel_rfl) (by kernel_rfl) (fun _ _ _ h => h) (Or.inl ⟨by kernel_rfl, ?hyc10⟩) (by assumption) ?restc10
      case hyc10 => (intro x hSx; (try dsimp only at hSx); go_simp; first | done | with_reducible rfl)
      try simp only [Act.put, List.setIfInBounds_toArray, List.set_cons_zero, List.set_cons_succ]
      refine wpAnyH_takeD (i := 11) (some 45) (v := ?vc11) rfl rfl (by kernel_rfl) (by kernel_rfl) (by kernel_rfl) (fun _ _ _ h => h) (Or.inl ⟨by kernel_rfl, ?hyc11⟩) (by assumption) ?restc11
      case hyc11 => (intro x hSx; (try dsimp only at hSx); obtain ⟨z0, z1, z2, z3⟩ := HF.out x hSx; go_simp; first | done | with_reducible rfl)
      try simp only [Act.put, List.setIfInBounds_toArray, List.set_cons_zero, List.set_cons_succ]
      refine wpAnyH_takeD (i := 12) (some 46) (v := ?vc12) rfl rfl (by kernel_rfl) (by kernel_rfl) (by kernel_rfl) (fun _ _ _ h => h) (Or.inl ⟨by kernel_rfl, ?hyc12⟩) (by assumption) ?restc12
      case hyc12 => (intro x hSx; (try dsimp only at hSx); go_simp; first | done | with_reducible rfl)
      try simp only [Act.put, List.setIfInBounds_toArray, List.set_cons_zero, List.set_cons_succ]
      refine wpAnyH_ready (rs := [13]) (by kernel_rfl) (by simp) ?_
      refine AllReadyH.cons rfl (fun K hK => ?_) AllReadyH.nil
      go_simp
      go_wp2_with (go_at_call 33; refine (ihr _ (HT.out.2.2.old hHeldc) (HS.out.parts.2.1) (by omega) (HKY.out _ hHeldc).1 (HKY.out _ hHeldc).2 HG.out).mono ?_; rintro e y13 ⟨U, rfl, hu, hUL, hq13⟩)
      have hUl : U.toL.length ≤ r.toL.length := by rw [hUL]; exact List.length_filter_le _ _
      have hUh := U.ht_le
      have HUL : Hid (U.toL = del k r.toL) := hUL
      clear hUL
      refine hK.out _ _ (hHeldc.trans (hq13.mono hHeldc.size)) (fun hHeldc13 => ?_)
      clear hK K
      try simp only [Act.put, List.setIfInBounds_toArray, List.set_cons_zero, List.set_cons_succ]
      refine wpAnyH_ready (rs := [14]) (by kernel_rfl) (by simp) ?_
      refine AllReadyH.cons rfl (fun K hK => ?_) AllReadyH.nil
      go_simp
      go_wp2_with (go_at_call 42; refine (even_any l U m x _ (HT.out.2.1.old hHeldc13) (hu) (by omega)).mono ?_; rintro e y14 ⟨V, rfl, hv, hVL, hq14⟩)
      refine hK.out _ _ (hHeldc13.trans (hq14.mono hHeldc13.size)) (fun hHeldc14 => ?_)
      clear hK K
      try simp only [Act.put, List.setIfInBounds_toArray, List.set_cons_zero, List.set_cons_succ]
      refine wpAnyH_takeD (i := 15) (some 4) (v := ?vc15) rfl rfl (by kernel_rfl) (by kernel_rfl) (by kernel_rfl) (fun _ _ _ h => h) (Or.inl ⟨by kernel_rfl, ?hyc15⟩) (by assumption) ?restc15
      case hyc15 => (intro x hSx; (try dsimp only at hSx); go_simp; first | done | with_reducible rfl)
      try simp only [Act.put, List.setIfInBounds_toArray, List.set_cons_zero, List.set_cons_succ]
      refine wpAnyH_done (by kernel_rfl) ?_ _
      go_wp2
      go_ret
      exact ⟨V, rfl, hv, hVL.trans (by rw [HUL.out]; exact (del_high HS.out hlt.out).symm), hHeldc14⟩
end Go.Proofs.Ytklnnkdcnaieoaa
