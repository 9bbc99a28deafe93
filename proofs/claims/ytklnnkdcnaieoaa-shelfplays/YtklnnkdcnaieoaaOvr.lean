/- What shelf.over does: a node over two trees (contracts; nothing is claimed here). -/
import Derived.Test.YtklnnkdcnaieoaaMem
namespace Go.Proofs.Ytklnnkdcnaieoaa
open Go.RowKit Go.Vf

set_option maxHeartbeats 4000000 in
set_option maxRecDepth 20000 in
theorem over_any (l r : Tr) (k v : ByteArray) (w : World) (hl : TAt w l) (hr : TAt w r) (hb : l.ht + r.ht < 4611686018427387904) :
    Calls Try.prog 41 #[.pointer l.ptr, .agg #[.string k, .string v], .pointer r.ptr] w fun e w' => ∃ b, e = .returned (.pointer (some ⟨b, 0, none⟩)) ∧ TAt w' (.node b k v l r) ∧ Below w.heap.size w w' := by
  have hb1 := (Below.refl w.heap.size w).alloc (Nat.le_refl _) (.cells #[.string k, .string v] 45)
  have hB1 := Blk.new w 45 #[.string k, .string v]
  have HL : Hid (∀ x, Below (w.alloc (.cells #[.string k, .string v] 45)).heap.size (w.alloc (.cells #[.string k, .string v] 45)) x → Calls Try.prog 49 #[.pointer l.ptr] x fun e w' => e = .returned (.int .i64 (l.ht : Int)) ∧ x = w') := fun x hx => height_any l x ((hl.old hb1).old hx)
  have HR : Hid (∀ x, Below (w.alloc (.cells #[.string k, .string v] 45)).heap.size (w.alloc (.cells #[.string k, .string v] 45)) x → Calls Try.prog 49 #[.pointer r.ptr] x fun e w' => e = .returned (.int .i64 (r.ht : Int)) ∧ x = w') := fun x hx => height_any r x ((hr.old hb1).old hx)
  have HTL : Hid (TAt (w.alloc (.cells #[.string k, .string v] 45)) l) := hl.old hb1
  have HTR : Hid (TAt (w.alloc (.cells #[.string k, .string v] 45)) r) := hr.old hb1
  clear hl hr
  have hsz : w.heap.size < (w.alloc (.cells #[.string k, .string v] 45)).heap.size := hB1.lt
  obtain ⟨A, HA⟩ : ∃ A : Int, Hid (A = ((max l.ht r.ht : Nat) : Int)) := ⟨_, rfl⟩
  have hA0 : 0 ≤ A := by rw [HA.out]; omega
  have hA1 : A < 4611686018427387904 := by rw [HA.out]; omega
  have HN : Hid (∀ x : World, Blk x x.heap.size 66 #[] → True) := fun _ _ => trivial
  clear HN
  obtain ⟨pl, HPL⟩ : ∃ pl, Hid (pl = l.ptr) := ⟨_, rfl⟩
  obtain ⟨pr, HPR⟩ : ∃ pr, Hid (pr = r.ptr) := ⟨_, rfl⟩
  obtain ⟨a, Ha⟩ : ∃ a : Int, Hid (a = (l.ht : Int)) := ⟨_, rfl⟩
  obtain ⟨b, Hb⟩ : ∃ b : Int, Hid (b = (r.ht : Int)) := ⟨_, rfl⟩
  have hm : Hid ((if a < b then b else a) = A) := by rw [Ha.out, Hb.out, HA.out]; show _ = _; split <;> omega
  rw [← HPL.out, ← HPR.out]
  rw [← HPL.out, ← Ha.out] at HL
  rw [← HPR.out, ← Hb.out] at HR
  go_enter Try.func41, Try.ntmps41
  go_upto_region 1 with fail
  have HW : Hid (∀ x, Below (w.alloc (.cells #[.string k, .string v] 45)).heap.size (w.alloc (.cells #[.string k, .string v] 45)) x → x.cell? ⟨w.heap.size, 0, none⟩ = some (.string k) ∧ x.cell? ⟨w.heap.size, 1, none⟩ = some (.string v)) := fun x hx => (hB1.old hx).c2
  clear hB1
  generalize w.alloc (.cells #[.string k, .string v] 45) = w1 at *
  go_upto_region 1 with fail
  refine wp_region_held_drew (S := fun x => Below w1.heap.size w1 x) (by kernel_rfl) ((Below.refl _ _).drew) (fun hHelda => ?_)
  refine wpAnyH_takeD (i := 0) (some 7) (v := ?va0) rfl rfl (by kernel_rfl) (by kernel_rfl) (by kernel_rfl) (fun _ _ _ h => h) (Or.inl ⟨by kernel_rfl, ?hya0⟩) (by assumption) ?resta0
  case hya0 => (intro x hSx; (try dsimp only at hSx); obtain ⟨c0, c1⟩ := HW.out x hSx; go_simp; first | done | with_reducible rfl)
  try simp only [Act.put, List.setIfInBounds_toArray, List.set_cons_zero, List.set_cons_succ]
  refine wpAnyH_takeD (i := 1) (some 8) (v := ?va1) rfl rfl (by kernel_rfl) (by kernel_rfl) (by kernel_rfl) (fun _ _ _ h => h) (Or.inl ⟨by kernel_rfl, ?hya1⟩) (by assumption) ?resta1
  case hya1 => (intro x hSx; (try dsimp only at hSx); go_simp; first | done | with_reducible rfl)
  try simp only [Act.put, List.setIfInBounds_toArray, List.set_cons_zero, List.set_cons_succ]
  refine wpAnyH_takeD (i := 2) (some 9) (v := ?va2) rfl rfl (by kernel_rfl) (by kernel_rfl) (by kernel_rfl) (fun _ _ _ h => h) (Or.inl ⟨by kernel_rfl, ?hya2⟩) (by assumption) ?resta2
  case hya2 => (intro x hSx; (try dsimp only at hSx); go_simp; first | done | with_reducible rfl)
  try simp only [Act.put, List.setIfInBounds_toArray, List.set_cons_zero, List.set_cons_succ]
  refine wpAnyH_takeD (i := 3) (some 10) (v := ?va3) rfl rfl (by kernel_rfl) (by kernel_rfl) (by kernel_rfl) (fun _ _ _ h => h) (Or.inl ⟨by kernel_rfl, ?hya3⟩) (by assumption) ?resta3
  case hya3 => (intro x hSx; (try dsimp only at hSx); go_simp; first | done | with_reducible rfl)
  try simp only [Act.put, List.setIfInBounds_toArray, List.set_cons_zero, List.set_cons_succ]
  refine wpAnyH_takeD (i := 5) (some 12) (v := ?va5) rfl rfl (by kernel_rfl) (by kernel_rfl) (by kernel_rfl) (fun _ _ _ h => h) (Or.inl ⟨by kernel_rfl, ?hya5⟩) (by assumption) ?resta5
  case hya5 => (intro x hSx; (try dsimp only at hSx); go_simp; first | done | with_reducible rfl)
  try simp only [Act.put, List.setIfInBounds_toArray, List.set_cons_zero, List.set_cons_succ]
  refine wpAnyH_ready (rs := [4]) (by kernel_rfl) (by simp) ?_
  refine AllReadyH.cons rfl (fun K hK => ?_) AllReadyH.nil
  go_simp
  go_wp2_with (go_at_call 49; refine (HL.out _ hHelda).mono ?_; rintro e ya4 ⟨rfl, rfl⟩)
  refine hK.out _ _ (hHelda) (fun hHelda4 => ?_)
  clear hK K
  try simp only [Act.put, List.setIfInBounds_toArray, List.set_cons_zero, List.set_cons_succ]
  refine wpAnyH_ready (rs := [6]) (by kernel_rfl) (by simp) ?_
  refine AllReadyH.cons rfl (fun K hK => ?_) AllReadyH.nil
  go_simp
  go_wp2_with (go_at_call 49; refine (HR.out _ hHelda4).mono ?_; rintro e ya6 ⟨rfl, rfl⟩)
  refine hK.out _ _ (hHelda4) (fun hHelda6 => ?_)
  clear hK K
  try simp only [Act.put, List.setIfInBounds_toArray, List.set_cons_zero, List.set_cons_succ]
  refine wpAnyH_takeD (i := 7) (some 14) (v := ?va7) rfl rfl (by kernel_rfl) (by kernel_rfl) (by kernel_rfl) (fun _ _ _ h => h) (Or.inl ⟨by kernel_rfl, ?hya7⟩) (by assumption) ?resta7
  case hya7 => (intro x hSx; (try dsimp only at hSx); go_simp; first | done | with_reducible rfl)
  try simp only [Act.put, List.setIfInBounds_toArray, List.set_cons_zero, List.set_cons_succ]
  refine wpAnyH_takeD (i := 8) (some 15) (v := ?va8) rfl rfl (by kernel_rfl) (by kernel_rfl) (by kernel_rfl) (fun _ _ _ h => h) (Or.inl ⟨by kernel_rfl, ?hya8⟩) (by assumption) ?resta8
  case hya8 => (intro x hSx; (try dsimp only at hSx); go_simp; first | done | with_reducible rfl)
  try simp only [Act.put, List.setIfInBounds_toArray, List.set_cons_zero, List.set_cons_succ]
  refine wpAnyH_takeD (i := 9) (some 16) (v := ?va9) rfl rfl (by kernel_rfl) (by kernel_rfl) (by kernel_rfl) (fun _ _ _ h => h) (Or.inl ⟨by kernel_rfl, ?hya9⟩) (by assumption) ?resta9
  case hya9 => (intro x hSx; (try dsimp only at hSx); go_simp; first | done | with_reducible rfl)
  try simp only [Act.put, List.setIfInBounds_toArray, List.set_cons_zero, List.set_cons_succ]
  refine wpAnyH_ready (rs := [10]) (by kernel_rfl) (by simp) ?_
  refine AllReadyH.cons rfl (fun K hK => ?_) AllReadyH.nil
  go_simp
  refine hK.out _ _ (hHelda6.alloc hHelda6.size _) (fun hHelda10 => ?_)
  clear hK K
  try simp only [Act.put, List.setIfInBounds_toArray, List.set_cons_zero, List.set_cons_succ]
  refine wpAnyH_takeD (i := 11) (some 6) (v := ?va11) rfl rfl (by kernel_rfl) (by kernel_rfl) (by kernel_rfl) (fun _ _ _ h => h) (Or.inl ⟨by kernel_rfl, ?hya11⟩) (by assumption) ?resta11
  case hya11 => (intro x hSx; (try dsimp only at hSx); go_simp; first | done | with_reducible rfl)
  try simp only [Act.put, List.setIfInBounds_toArray, List.set_cons_zero, List.set_cons_succ]
  refine wpAnyH_done (by kernel_rfl) ?_ _
  generalize (if a < b then b else a) = M at *
  have hA2 : Hid (IntKind.i64.wrap (1 + M) = 1 + A) := by
    have e : M = A := hm.out
    have e2 : IntKind.i64.wrap (1 + M) = 1 + M := IntWalk.i64_in _ (by omega)
    show _ = _
    rw [e2, e]
  generalize IntKind.i64.wrap (1 + M) = M1 at *
  go_wp2
  go_ret
  refine ⟨w1.heap.size, rfl, ⟨?_, HTL.out.old (Below.alloc (Below.drew (Below.refl _ _)) (Nat.le_refl _) _), HTR.out.old (Below.alloc (Below.drew (Below.refl _ _)) (Nat.le_refl _) _)⟩, hb1.trans (hHelda10.mono (Nat.le_of_lt hsz))⟩
  have hN := Blk.new w1.drew 66 #[.string k, .string v, .pointer pl, .pointer pr, .int .i64 M1]
  unfold cellsN
  rw [show ((1 + max l.ht r.ht : Nat) : Int) = 1 + ((max l.ht r.ht : Nat) : Int) by omega, ← HA.out, ← HPL.out, ← HPR.out, ← hA2.out]
  exact hN
end Go.Proofs.Ytklnnkdcnaieoaa
