/- What the statements' vast does, and what it says of the calls' texts (contracts; nothing is claimed here). -/
import Derived.Test.YtklnnkdcnaieoaaVst
namespace Go.Proofs.Ytklnnkdcnaieoaa
open Go.RowKit Go.Vf

theorem addS_ge2 {a b : Int} (ha : 0 ≤ a) (h : addS a b ≤ 2147483647) : b ≤ addS a b := by
  unfold addS at *
  split at h
  · omega
  · rename_i q; rw [if_neg q]; omega
/-- Texts no longer than the bound. -/
def SzOk (y : Ac) : Prop := y.key.size ≤ 2147483647 ∧ y.fr.size ≤ 2147483647 ∧ y.to.size ≤ 2147483647
theorem szOk_of (k : Int) (y1 y2 y3 y4 : ByteArray) (h : addS (addS (y1.size : Int) (y2.size : Int)) (addS (y3.size : Int) (y4.size : Int)) ≤ 2147483647) : SzOk ⟨k, y1, y2, y3, y4⟩ := by
  have p1 : 0 ≤ addS (y1.size : Int) (y2.size : Int) := addS_pos (by omega) (by omega)
  have p2 : 0 ≤ addS (y3.size : Int) (y4.size : Int) := addS_pos (by omega) (by omega)
  have a1 := Int.le_trans (addS_ge p2 h) h
  have a2 := Int.le_trans (addS_ge2 p1 h) h
  have b1 := Int.le_trans (addS_ge (by omega) a1) a1
  have b3 := Int.le_trans (addS_ge (by omega) a2) a2
  have b4 := Int.le_trans (addS_ge2 (by omega) a2) a2
  exact ⟨by show y1.size ≤ _; omega, by show y3.size ≤ _; omega, by show y4.size ≤ _; omega⟩
/-- What vast answers. -/
def VsuPost (l : List Ac) (w : World) (e : Ending) (w' : World) : Prop := ∃ b, e = .returned (.bool b) ∧ (b = false → l.length ≤ 2147483647 ∧ ∀ x ∈ l, SzOk x) ∧ Below w.heap.size w w'
set_option maxHeartbeats 8000000 in
set_option maxRecDepth 20000 in
theorem vast_all (w : World) (a : Option Addr) (c : Nat) (l : List Ac) (h : AcIn w w.heap.size a l) (hl : l.length ≤ maxLen) : Calls Try.prog 7 #[.slice a l.length c] w (VsuPost l w) := by
  obtain ⟨m, hm⟩ : ∃ m, m = l.length := ⟨_, rfl⟩
  have Hm : Hid (m = l.length) := hm
  have hmx : (m : Int) ≤ 9223372036854775807 := by rw [hm]; unfold maxLen at hl; omega
  have HA : Hid (AcIn w w.heap.size a l) := h
  rw [← hm]
  clear h hl hm
  go_enter Try.func7, Try.ntmps7
  go_wp2
  go_loopw [3, 4] (fun s i wr => ∃ (k : Nat) (n : Int), k ≤ m ∧ i = .int .i64 (k : Int) ∧ s = .int .i64 n ∧ 0 ≤ n ∧ n ≤ 9223372036854775807 ∧ Hid (n ≤ 2147483647 → (m : Int) ≤ n ∧ ∀ j (hj : j < l.length), j < k → SzOk l[j]) ∧ Hid (Below w.heap.size w wr)) (fun _ i _ => m - (intOf i).toNat)
  case atStart => exact ⟨0, (m : Int), Nat.zero_le _, rfl, rfl, by omega, hmx, fun _ => ⟨Int.le_refl _, fun j hj h => absurd h (by omega)⟩, Below.refl _ _⟩
  case round =>
    obtain ⟨k, n, hk, rfl, rfl, hn0, hn1, hn2, hb⟩ := hrel
    by_cases hkm : k < m
    · have hki : decide ((k : Int) < (m : Int)) = true := by simp; omega
      by_cases hn3 : n ≤ 2147483647
      · have hk1 : k < l.length := by rw [← Hm.out]; exact hkm
        obtain ⟨b, off, ha, hbn, c0, c2, c3, c4, c5⟩ := HA.out.keep hb.out (Nat.le_refl _) k hk1
        obtain ⟨y, hy⟩ : ∃ y, y = l[k] := ⟨_, rfl⟩
        rw [← hy] at c0 c2 c3 c4 c5
        have HY : Hid (y = l[k]) := hy
        obtain ⟨yk, y1, y2, y3, y4⟩ := y
        dsimp only at c0 c2 c3 c4 c5
        subst ha
        have hbs : b < wr.heap.size := Nat.lt_of_lt_of_le hbn hb.out.size
        have HF : Hid (∀ x, Below wr.heap.size wr x → x.cell? ⟨b, off + k * 9 + 2, none⟩ = some (.string y1) ∧ x.cell? ⟨b, off + k * 9 + 3, none⟩ = some (.string y2) ∧ x.cell? ⟨b, off + k * 9 + 4, none⟩ = some (.string y3) ∧ x.cell? ⟨b, off + k * 9 + 5, none⟩ = some (.string y4)) := fun x hx =>
          have q : ∀ j, x.cell? ⟨b, j, none⟩ = wr.cell? ⟨b, j, none⟩ := fun j => hx.cell (p := ⟨b, j, none⟩) hbs
          ⟨(q _).trans c2, (q _).trans c3, (q _).trans c4, (q _).trans c5⟩
        have hkx : (k : Int) < (m : Int) := by omega
        have hn4 : decide (n ≤ 2147483647) = true := by simpa using hn3
        clear hy c0 c2 c3 c4 c5
        go_upto_region 5 with fail
        refine wp_region_held_drew (S := fun x => Below wr.heap.size wr x) (by kernel_rfl) ((Below.refl _ _).drew) (fun hHelda => ?_)
        refine wpAnyH_takeD (i := 0) (some 17) (v := ?va0) rfl rfl (by kernel_rfl) (by kernel_rfl) (by kernel_rfl) (fun _ _ _ h => h) (Or.inl ⟨by kernel_rfl, ?hya0⟩) (by assumption) ?resta0
        case hya0 => (intro x hSx; (try dsimp only at hSx); go_simp; first | done | with_reducible rfl)
        try simp only [Act.put, List.setIfInBounds_toArray, List.set_cons_zero, List.set_cons_succ]
        refine wpAnyH_takeD (i := 1) (some 18) (v := ?va1) rfl rfl (by kernel_rfl) (by kernel_rfl) (by kernel_rfl) (fun _ _ _ h => h) (Or.inl ⟨by kernel_rfl, ?hya1⟩) (by assumption) ?resta1
        case hya1 => (intro x hSx; (try dsimp only at hSx); go_simp; first | done | with_reducible rfl)
        try simp only [Act.put, List.setIfInBounds_toArray, List.set_cons_zero, List.set_cons_succ]
        refine wpAnyH_takeD (i := 2) (some 19) (v := ?va2) rfl rfl (by kernel_rfl) (by kernel_rfl) (by kernel_rfl) (fun _ _ _ h => h) (Or.inl ⟨by kernel_rfl, ?hya2⟩) (by assumption) ?resta2
        case hya2 => (intro x hSx; (try dsimp only at hSx); go_simp; first | done | with_reducible rfl)
        try simp only [Act.put, List.setIfInBounds_toArray, List.set_cons_zero, List.set_cons_succ]
        refine wpAnyH_takeD (i := 3) (some 20) (v := ?va3) rfl rfl (by kernel_rfl) (by kernel_rfl) (by kernel_rfl) (fun _ _ _ h => h) (Or.inl ⟨by kernel_rfl, ?hya3⟩) (by assumption) ?resta3
        case hya3 => (intro x hSx; (try dsimp only at hSx); go_simp; first | done | with_reducible rfl)
        try simp only [Act.put, List.setIfInBounds_toArray, List.set_cons_zero, List.set_cons_succ]
        refine wpAnyH_takeD (i := 4) (some 21) (v := ?va4) rfl rfl (by kernel_rfl) (by kernel_rfl) (by kernel_rfl) (fun _ _ _ h => h) (Or.inl ⟨by kernel_rfl, ?hya4⟩) (by assumption) ?resta4
        case hya4 => (intro x hSx; (try dsimp only at hSx); go_simp; first | done | with_reducible rfl)
        try simp only [Act.put, List.setIfInBounds_toArray, List.set_cons_zero, List.set_cons_succ]
        refine wpAnyH_takeD (i := 5) (some 22) (v := ?va5) rfl rfl (by kernel_rfl) (by kernel_rfl) (by kernel_rfl) (fun _ _ _ h => h) (Or.inl ⟨by kernel_rfl, ?hya5⟩) (by assumption) ?resta5
        case hya5 => (intro x hSx; (try dsimp only at hSx); obtain ⟨z0, z1, z2, z3⟩ := HF.out x hSx; go_simp; first | done | with_reducible rfl)
        try simp only [Act.put, List.setIfInBounds_toArray, List.set_cons_zero, List.set_cons_succ]
        refine wpAnyH_takeD (i := 6) (some 23) (v := ?va6) rfl rfl (by kernel_rfl) (by kernel_rfl) (by kernel_rfl) (fun _ _ _ h => h) (Or.inl ⟨by kernel_rfl, ?hya6⟩) (by assumption) ?resta6
        case hya6 => (intro x hSx; (try dsimp only at hSx); go_simp; first | done | with_reducible rfl)
        try simp only [Act.put, List.setIfInBounds_toArray, List.set_cons_zero, List.set_cons_succ]
        refine wpAnyH_takeD (i := 7) (some 24) (v := ?va7) rfl rfl (by kernel_rfl) (by kernel_rfl) (by kernel_rfl) (fun _ _ _ h => h) (Or.inl ⟨by kernel_rfl, ?hya7⟩) (by assumption) ?resta7
        case hya7 => (intro x hSx; (try dsimp only at hSx); go_simp; first | done | with_reducible rfl)
        try simp only [Act.put, List.setIfInBounds_toArray, List.set_cons_zero, List.set_cons_succ]
        refine wpAnyH_takeD (i := 8) (some 25) (v := ?va8) rfl rfl (by kernel_rfl) (by kernel_rfl) (by kernel_rfl) (fun _ _ _ h => h) (Or.inl ⟨by kernel_rfl, ?hya8⟩) (by assumption) ?resta8
        case hya8 => (intro x hSx; (try dsimp only at hSx); go_simp; first | done | with_reducible rfl)
        try simp only [Act.put, List.setIfInBounds_toArray, List.set_cons_zero, List.set_cons_succ]
        refine wpAnyH_takeD (i := 9) (some 26) (v := ?va9) rfl rfl (by kernel_rfl) (by kernel_rfl) (by kernel_rfl) (fun _ _ _ h => h) (Or.inl ⟨by kernel_rfl, ?hya9⟩) (by assumption) ?resta9
        case hya9 => (intro x hSx; (try dsimp only at hSx); go_simp; first | done | with_reducible rfl)
        try simp only [Act.put, List.setIfInBounds_toArray, List.set_cons_zero, List.set_cons_succ]
        refine wpAnyH_takeD (i := 10) (some 27) (v := ?va10) rfl rfl (by kernel_rfl) (by kernel_rfl) (by kernel_rfl) (fun _ _ _ h => h) (Or.inl ⟨by kernel_rfl, ?hya10⟩) (by assumption) ?resta10
        case hya10 => (intro x hSx; (try dsimp only at hSx); go_simp; first | done | with_reducible rfl)
        try simp only [Act.put, List.setIfInBounds_toArray, List.set_cons_zero, List.set_cons_succ]
        refine wpAnyH_takeD (i := 11) (some 28) (v := ?va11) rfl rfl (by kernel_rfl) (by kernel_rfl) (by kernel_rfl) (fun _ _ _ h => h) (Or.inl ⟨by kernel_rfl, ?hya11⟩) (by assumption) ?resta11
        case hya11 => (intro x hSx; (try dsimp only at hSx); obtain ⟨z0, z1, z2, z3⟩ := HF.out x hSx; go_simp; first | done | with_reducible rfl)
        try simp only [Act.put, List.setIfInBounds_toArray, List.set_cons_zero, List.set_cons_succ]
        refine wpAnyH_takeD (i := 12) (some 29) (v := ?va12) rfl rfl (by kernel_rfl) (by kernel_rfl) (by kernel_rfl) (fun _ _ _ h => h) (Or.inl ⟨by kernel_rfl, ?hya12⟩) (by assumption) ?resta12
        case hya12 => (intro x hSx; (try dsimp only at hSx); go_simp; first | done | with_reducible rfl)
        try simp only [Act.put, List.setIfInBounds_toArray, List.set_cons_zero, List.set_cons_succ]
        refine wpAnyH_takeD (i := 14) (some 31) (v := ?va14) rfl rfl (by kernel_rfl) (by kernel_rfl) (by kernel_rfl) (fun _ _ _ h => h) (Or.inl ⟨by kernel_rfl, ?hya14⟩) (by assumption) ?resta14
        case hya14 => (intro x hSx; (try dsimp only at hSx); go_simp; first | done | with_reducible rfl)
        try simp only [Act.put, List.setIfInBounds_toArray, List.set_cons_zero, List.set_cons_succ]
        refine wpAnyH_takeD (i := 15) (some 32) (v := ?va15) rfl rfl (by kernel_rfl) (by kernel_rfl) (by kernel_rfl) (fun _ _ _ h => h) (Or.inl ⟨by kernel_rfl, ?hya15⟩) (by assumption) ?resta15
        case hya15 => (intro x hSx; (try dsimp only at hSx); go_simp; first | done | with_reducible rfl)
        try simp only [Act.put, List.setIfInBounds_toArray, List.set_cons_zero, List.set_cons_succ]
        refine wpAnyH_takeD (i := 16) (some 33) (v := ?va16) rfl rfl (by kernel_rfl) (by kernel_rfl) (by kernel_rfl) (fun _ _ _ h => h) (Or.inl ⟨by kernel_rfl, ?hya16⟩) (by assumption) ?resta16
        case hya16 => (intro x hSx; (try dsimp only at hSx); go_simp; first | done | with_reducible rfl)
        try simp only [Act.put, List.setIfInBounds_toArray, List.set_cons_zero, List.set_cons_succ]
        refine wpAnyH_takeD (i := 17) (some 34) (v := ?va17) rfl rfl (by kernel_rfl) (by kernel_rfl) (by kernel_rfl) (fun _ _ _ h => h) (Or.inl ⟨by kernel_rfl, ?hya17⟩) (by assumption) ?resta17
        case hya17 => (intro x hSx; (try dsimp only at hSx); go_simp; first | done | with_reducible rfl)
        try simp only [Act.put, List.setIfInBounds_toArray, List.set_cons_zero, List.set_cons_succ]
        refine wpAnyH_takeD (i := 18) (some 35) (v := ?va18) rfl rfl (by kernel_rfl) (by kernel_rfl) (by kernel_rfl) (fun _ _ _ h => h) (Or.inl ⟨by kernel_rfl, ?hya18⟩) (by assumption) ?resta18
        case hya18 => (intro x hSx; (try dsimp only at hSx); go_simp; first | done | with_reducible rfl)
        try simp only [Act.put, List.setIfInBounds_toArray, List.set_cons_zero, List.set_cons_succ]
        refine wpAnyH_takeD (i := 19) (some 36) (v := ?va19) rfl rfl (by kernel_rfl) (by kernel_rfl) (by kernel_rfl) (fun _ _ _ h => h) (Or.inl ⟨by kernel_rfl, ?hya19⟩) (by assumption) ?resta19
        case hya19 => (intro x hSx; (try dsimp only at hSx); obtain ⟨z0, z1, z2, z3⟩ := HF.out x hSx; go_simp; first | done | with_reducible rfl)
        try simp only [Act.put, List.setIfInBounds_toArray, List.set_cons_zero, List.set_cons_succ]
        refine wpAnyH_takeD (i := 20) (some 37) (v := ?va20) rfl rfl (by kernel_rfl) (by kernel_rfl) (by kernel_rfl) (fun _ _ _ h => h) (Or.inl ⟨by kernel_rfl, ?hya20⟩) (by assumption) ?resta20
        case hya20 => (intro x hSx; (try dsimp only at hSx); go_simp; first | done | with_reducible rfl)
        try simp only [Act.put, List.setIfInBounds_toArray, List.set_cons_zero, List.set_cons_succ]
        refine wpAnyH_takeD (i := 21) (some 38) (v := ?va21) rfl rfl (by kernel_rfl) (by kernel_rfl) (by kernel_rfl) (fun _ _ _ h => h) (Or.inl ⟨by kernel_rfl, ?hya21⟩) (by assumption) ?resta21
        case hya21 => (intro x hSx; (try dsimp only at hSx); go_simp; first | done | with_reducible rfl)
        try simp only [Act.put, List.setIfInBounds_toArray, List.set_cons_zero, List.set_cons_succ]
        refine wpAnyH_takeD (i := 22) (some 39) (v := ?va22) rfl rfl (by kernel_rfl) (by kernel_rfl) (by kernel_rfl) (fun _ _ _ h => h) (Or.inl ⟨by kernel_rfl, ?hya22⟩) (by assumption) ?resta22
        case hya22 => (intro x hSx; (try dsimp only at hSx); go_simp; first | done | with_reducible rfl)
        try simp only [Act.put, List.setIfInBounds_toArray, List.set_cons_zero, List.set_cons_succ]
        refine wpAnyH_takeD (i := 23) (some 40) (v := ?va23) rfl rfl (by kernel_rfl) (by kernel_rfl) (by kernel_rfl) (fun _ _ _ h => h) (Or.inl ⟨by kernel_rfl, ?hya23⟩) (by assumption) ?resta23
        case hya23 => (intro x hSx; (try dsimp only at hSx); go_simp; first | done | with_reducible rfl)
        try simp only [Act.put, List.setIfInBounds_toArray, List.set_cons_zero, List.set_cons_succ]
        refine wpAnyH_takeD (i := 24) (some 41) (v := ?va24) rfl rfl (by kernel_rfl) (by kernel_rfl) (by kernel_rfl) (fun _ _ _ h => h) (Or.inl ⟨by kernel_rfl, ?hya24⟩) (by assumption) ?resta24
        case hya24 => (intro x hSx; (try dsimp only at hSx); go_simp; first | done | with_reducible rfl)
        try simp only [Act.put, List.setIfInBounds_toArray, List.set_cons_zero, List.set_cons_succ]
        refine wpAnyH_takeD (i := 25) (some 42) (v := ?va25) rfl rfl (by kernel_rfl) (by kernel_rfl) (by kernel_rfl) (fun _ _ _ h => h) (Or.inl ⟨by kernel_rfl, ?hya25⟩) (by assumption) ?resta25
        case hya25 => (intro x hSx; (try dsimp only at hSx); go_simp; first | done | with_reducible rfl)
        try simp only [Act.put, List.setIfInBounds_toArray, List.set_cons_zero, List.set_cons_succ]
        refine wpAnyH_takeD (i := 26) (some 43) (v := ?va26) rfl rfl (by kernel_rfl) (by kernel_rfl) (by kernel_rfl) (fun _ _ _ h => h) (Or.inl ⟨by kernel_rfl, ?hya26⟩) (by assumption) ?resta26
        case hya26 => (intro x hSx; (try dsimp only at hSx); obtain ⟨z0, z1, z2, z3⟩ := HF.out x hSx; go_simp; first | done | with_reducible rfl)
        try simp only [Act.put, List.setIfInBounds_toArray, List.set_cons_zero, List.set_cons_succ]
        refine wpAnyH_takeD (i := 27) (some 44) (v := ?va27) rfl rfl (by kernel_rfl) (by kernel_rfl) (by kernel_rfl) (fun _ _ _ h => h) (Or.inl ⟨by kernel_rfl, ?hya27⟩) (by assumption) ?resta27
        case hya27 => (intro x hSx; (try dsimp only at hSx); go_simp; first | done | with_reducible rfl)
        try simp only [Act.put, List.setIfInBounds_toArray, List.set_cons_zero, List.set_cons_succ]
        refine wpAnyH_ready (rs := [13]) (by kernel_rfl) (by simp) ?_
        refine AllReadyH.cons rfl (fun K hK => ?_) AllReadyH.nil
        go_simp
        go_wp2_with (go_at_call 24; refine (add_any ((y1.size : Int)) ((y2.size : Int)) (by omega) (by omega) _).mono ?_; rintro e yq13 ⟨rfl, rfl⟩)
        refine hK.out _ _ hHelda (fun hHelda13 => ?_)
        clear hK K
        try simp only [Act.put, List.setIfInBounds_toArray, List.set_cons_zero, List.set_cons_succ]
        refine wpAnyH_ready (rs := [28]) (by kernel_rfl) (by simp) ?_
        refine AllReadyH.cons rfl (fun K hK => ?_) AllReadyH.nil
        go_simp
        go_wp2_with (go_at_call 24; refine (add_any ((y3.size : Int)) ((y4.size : Int)) (by omega) (by omega) _).mono ?_; rintro e yq28 ⟨rfl, rfl⟩)
        refine hK.out _ _ hHelda13 (fun hHelda28 => ?_)
        clear hK K
        try simp only [Act.put, List.setIfInBounds_toArray, List.set_cons_zero, List.set_cons_succ]
        refine wpAnyH_ready (rs := [29]) (by kernel_rfl) (by simp) ?_
        refine AllReadyH.cons rfl (fun K hK => ?_) AllReadyH.nil
        go_simp
        go_wp2_with (go_at_call 24; refine (add_any (addS (y1.size : Int) (y2.size : Int)) (addS (y3.size : Int) (y4.size : Int)) (addS_pos (by omega) (by omega)) (addS_pos (by omega) (by omega)) _).mono ?_; rintro e yq29 ⟨rfl, rfl⟩)
        refine hK.out _ _ hHelda28 (fun hHelda29 => ?_)
        clear hK K
        try simp only [Act.put, List.setIfInBounds_toArray, List.set_cons_zero, List.set_cons_succ]
        refine wpAnyH_ready (rs := [30]) (by kernel_rfl) (by simp) ?_
        refine AllReadyH.cons rfl (fun K hK => ?_) AllReadyH.nil
        go_simp
        go_wp2_with (go_at_call 24; refine (add_any (n) (addS (addS (y1.size : Int) (y2.size : Int)) (addS (y3.size : Int) (y4.size : Int))) hn0 (addS_pos (addS_pos (by omega) (by omega)) (addS_pos (by omega) (by omega))) _).mono ?_; rintro e yq30 ⟨rfl, rfl⟩)
        refine hK.out _ _ hHelda29 (fun hHelda30 => ?_)
        clear hK K
        try simp only [Act.put, List.setIfInBounds_toArray, List.set_cons_zero, List.set_cons_succ]
        refine wpAnyH_takeD (i := 31) (some 3) (v := ?va31) rfl rfl (by kernel_rfl) (by kernel_rfl) (by kernel_rfl) (fun _ _ _ h => h) (Or.inl ⟨by kernel_rfl, ?hya31⟩) (by assumption) ?resta31
        case hya31 => (intro x hSx; (try dsimp only at hSx); go_simp; first | done | with_reducible rfl)
        try simp only [Act.put, List.setIfInBounds_toArray, List.set_cons_zero, List.set_cons_succ]
        refine wpAnyH_done (by kernel_rfl) ?_ _
        have HP : Hid (0 ≤ addS (addS (y1.size : Int) (y2.size : Int)) (addS (y3.size : Int) (y4.size : Int))) := addS_pos (addS_pos (by omega) (by omega)) (addS_pos (by omega) (by omega))
        have HT : Hid (addS n (addS (addS (y1.size : Int) (y2.size : Int)) (addS (y3.size : Int) (y4.size : Int))) ≤ 9223372036854775807) := addS_top _ _
        have HSZ : Hid (addS (addS (y1.size : Int) (y2.size : Int)) (addS (y3.size : Int) (y4.size : Int)) ≤ 2147483647 → SzOk ⟨yk, y1, y2, y3, y4⟩) := szOk_of _ _ _ _ _
        generalize addS (addS (y1.size : Int) (y2.size : Int)) (addS (y3.size : Int) (y4.size : Int)) = K at *
        have HQ : Hid (addS n K ≤ 2147483647 → (m : Int) ≤ addS n K ∧ ∀ j (hj : j < l.length), j < k + 1 → SzOk l[j]) := fun h => by
          obtain ⟨q1, q2⟩ := hn2.out (by omega)
          refine ⟨Int.le_trans q1 (addS_ge HP.out h), fun j hj hjk => ?_⟩
          by_cases e : j = k
          · subst e
            rw [← HY.out]
            exact HSZ.out (Int.le_trans (addS_ge2 hn0 h) h)
          · exact q2 j hj (by omega)
        have HQ0 : Hid (0 ≤ addS n K) := addS_pos hn0 HP.out
        generalize addS n K = n2 at *
        go_wp2
        go_roundw
        case rel => exact ⟨k + 1, n2, by omega, by go_num, rfl, HQ0.out, HT.out, HQ, hb.out.trans (hHelda30.mono hb.out.size)⟩
        case measure =>
          simp [intOf]
          omega
      · have hn4 : decide (n ≤ 2147483647) = false := by simpa using hn3
        have hn5 : decide (2147483647 < n) = true := by simp; omega
        go_wp2
        go_ret
        exact ⟨true, rfl, (fun h => by cases h), hb.out⟩
    · have hki : decide ((k : Int) < (m : Int)) = false := by simp; omega
      by_cases hn3 : n ≤ 2147483647
      · have hn5 : decide (2147483647 < n) = false := by simp; omega
        have hml := (hn2.out hn3).1
        have HX : Hid (m ≤ 2147483647) := by show _ ≤ _; omega
        have HZ : Hid (∀ x ∈ l, SzOk x) := fun x hx => by
          obtain ⟨j, hj, rfl⟩ := List.mem_iff_getElem.1 hx
          exact (hn2.out hn3).2 j hj (by have := Hm.out; omega)
        clear hml
        go_wp2
        go_ret
        exact ⟨false, rfl, fun _ => ⟨by rw [← Hm.out]; exact HX.out, HZ.out⟩, hb.out⟩
      · have hn5 : decide (2147483647 < n) = true := by simp; omega
        go_wp2
        go_ret
        exact ⟨true, rfl, (fun h => by cases h), hb.out⟩
end Go.Proofs.Ytklnnkdcnaieoaa
