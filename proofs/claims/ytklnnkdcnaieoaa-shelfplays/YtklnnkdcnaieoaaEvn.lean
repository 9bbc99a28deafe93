/- What shelf.even does: a pair over two trees, made even (contracts; nothing is claimed here). -/
import Derived.Test.YtklnnkdcnaieoaaOvr
namespace Go.Proofs.Ytklnnkdcnaieoaa
open Go.RowKit Go.Vf

/-- A tree of these pairs. -/
def EvPost (L : List Pr) (w : World) (e : Ending) (w' : World) : Prop := ∃ T : Tr, e = .returned (.pointer T.ptr) ∧ TAt w' T ∧ T.toL = L ∧ Below w.heap.size w w'

set_option maxHeartbeats 8000000 in
set_option maxRecDepth 20000 in
theorem even_c (l r : Tr) (k v : ByteArray) (w : World) (hl : TAt w l) (hr : TAt w r) (hb : l.ht + r.ht < 1152921504606846976) (a b : Int) (Ha : Hid (a = (l.ht : Int))) (Hb : Hid (b = (r.ht : Int))) (ha : 0 ≤ a ∧ a < 1152921504606846976) (hb' : 0 ≤ b ∧ b < 1152921504606846976) (hm1 : decide (1 < a - b) = false) (hm2 : decide (a - b < -1) = false) :
    Calls Try.prog 42 #[.pointer l.ptr, .agg #[.string k, .string v], .pointer r.ptr] w (EvPost (l.toL ++ (k, v) :: r.toL) w) := by
  have hb1 := (Below.refl w.heap.size w).alloc (Nat.le_refl _) (.cells #[.string k, .string v] 45)
  have hB1 := Blk.new w 45 #[.string k, .string v]
  have HL : Hid (∀ x, Below (w.alloc (.cells #[.string k, .string v] 45)).heap.size (w.alloc (.cells #[.string k, .string v] 45)) x → Calls Try.prog 49 #[.pointer l.ptr] x fun e w' => e = .returned (.int .i64 a) ∧ x = w') := fun x hx => by rw [Ha.out]; exact height_any _ x ((hl.old hb1).old hx)
  have HR : Hid (∀ x, Below (w.alloc (.cells #[.string k, .string v] 45)).heap.size (w.alloc (.cells #[.string k, .string v] 45)) x → Calls Try.prog 49 #[.pointer r.ptr] x fun e w' => e = .returned (.int .i64 b) ∧ x = w') := fun x hx => by rw [Hb.out]; exact height_any _ x ((hr.old hb1).old hx)
  have hTL := hl.old hb1
  have hTR := hr.old hb1
  clear hl hr
  have hsz : w.heap.size < (w.alloc (.cells #[.string k, .string v] 45)).heap.size := hB1.lt
  go_enter Try.func42, Try.ntmps42
  go_upto_region 1 with fail
  generalize (w.alloc (.cells #[.string k, .string v] 45)) = w1 at *
  go_wp2_with fail
  refine (HL.out _ (Below.refl _ _)).mono ?_
  rintro e wq ⟨rfl, rfl⟩
  go_wp2_with fail
  refine (HR.out _ (Below.refl _ _)).mono ?_
  rintro e wq ⟨rfl, rfl⟩
  clear HL HR
  go_upto_region 2 with fail
  go_upto_region 2 with fail
  refine wp_region_held_drew (S := fun x => Below w1.heap.size w1 x) (by kernel_rfl) ((Below.refl _ _).drew) (fun hHelds2 => ?_)
  refine wpAnyH_takeD (i := 0) (some 16) (v := ?vs20) rfl rfl (by kernel_rfl) (by kernel_rfl) (by kernel_rfl) (fun _ _ _ h => h) (Or.inl ⟨by kernel_rfl, ?hys20⟩) (by assumption) ?rests20
  case hys20 => (intro x hSx; (try dsimp only at hSx); go_simp; first | done | with_reducible rfl)
  try simp only [Act.put, List.setIfInBounds_toArray, List.set_cons_zero, List.set_cons_succ]
  refine wpAnyH_takeD (i := 1) (some 17) (v := .bool false) rfl rfl (by kernel_rfl) (by kernel_rfl) (by kernel_rfl) (fun _ _ _ h => h) (Or.inl ⟨by kernel_rfl, ?hys21⟩) (by assumption) ?rests21
  case hys21 => (intro x hSx; (try dsimp only at hSx); go_simp; first | done | with_reducible rfl)
  try simp only [Act.put, List.setIfInBounds_toArray, List.set_cons_zero, List.set_cons_succ]
  refine wpAnyH_takeD (i := 2) (some 18) (v := ?vs22) rfl rfl (by kernel_rfl) (by kernel_rfl) (by kernel_rfl) (fun _ _ _ h => h) (Or.inl ⟨by kernel_rfl, ?hys22⟩) (by assumption) ?rests22
  case hys22 => (intro x hSx; (try dsimp only at hSx); go_simp; first | done | with_reducible rfl)
  try simp only [Act.put, List.setIfInBounds_toArray, List.set_cons_zero, List.set_cons_succ]
  refine wpAnyH_takeD (i := 3) (some 19) (v := undef) rfl rfl (by kernel_rfl) (by kernel_rfl) (by kernel_rfl) (fun _ _ _ h => h) (Or.inr ⟨by kernel_rfl, rfl⟩) (by assumption) ?_
  try simp only [Act.put, List.setIfInBounds_toArray, List.set_cons_zero, List.set_cons_succ]
  refine wpAnyH_takeD (i := 4) (some 20) (v := undef) rfl rfl (by kernel_rfl) (by kernel_rfl) (by kernel_rfl) (fun _ _ _ h => h) (Or.inr ⟨by kernel_rfl, rfl⟩) (by assumption) ?_
  try simp only [Act.put, List.setIfInBounds_toArray, List.set_cons_zero, List.set_cons_succ]
  refine wpAnyH_takeD (i := 5) (some 21) (v := undef) rfl rfl (by kernel_rfl) (by kernel_rfl) (by kernel_rfl) (fun _ _ _ h => h) (Or.inr ⟨by kernel_rfl, rfl⟩) (by assumption) ?_
  try simp only [Act.put, List.setIfInBounds_toArray, List.set_cons_zero, List.set_cons_succ]
  refine wpAnyH_takeD (i := 6) (some 22) (v := undef) rfl rfl (by kernel_rfl) (by kernel_rfl) (by kernel_rfl) (fun _ _ _ h => h) (Or.inr ⟨by kernel_rfl, rfl⟩) (by assumption) ?_
  try simp only [Act.put, List.setIfInBounds_toArray, List.set_cons_zero, List.set_cons_succ]
  refine wpAnyH_takeD (i := 7) (some 23) (v := undef) rfl rfl (by kernel_rfl) (by kernel_rfl) (by kernel_rfl) (fun _ _ _ h => h) (Or.inr ⟨by kernel_rfl, rfl⟩) (by assumption) ?_
  try simp only [Act.put, List.setIfInBounds_toArray, List.set_cons_zero, List.set_cons_succ]
  refine wpAnyH_takeD (i := 8) (some 24) (v := undef) rfl rfl (by kernel_rfl) (by kernel_rfl) (by kernel_rfl) (fun _ _ _ h => h) (Or.inr ⟨by kernel_rfl, rfl⟩) (by assumption) ?_
  try simp only [Act.put, List.setIfInBounds_toArray, List.set_cons_zero, List.set_cons_succ]
  refine wpAnyH_takeD (i := 9) (some 25) (v := undef) rfl rfl (by kernel_rfl) (by kernel_rfl) (by kernel_rfl) (fun _ _ _ h => h) (Or.inr ⟨by kernel_rfl, rfl⟩) (by assumption) ?_
  try simp only [Act.put, List.setIfInBounds_toArray, List.set_cons_zero, List.set_cons_succ]
  refine wpAnyH_takeD (i := 10) (some 26) (v := undef) rfl rfl (by kernel_rfl) (by kernel_rfl) (by kernel_rfl) (fun _ _ _ h => h) (Or.inr ⟨by kernel_rfl, rfl⟩) (by assumption) ?_
  try simp only [Act.put, List.setIfInBounds_toArray, List.set_cons_zero, List.set_cons_succ]
  refine wpAnyH_takeD (i := 11) (some 27) (v := undef) rfl rfl (by kernel_rfl) (by kernel_rfl) (by kernel_rfl) (fun _ _ _ h => h) (Or.inr ⟨by kernel_rfl, rfl⟩) (by assumption) ?_
  try simp only [Act.put, List.setIfInBounds_toArray, List.set_cons_zero, List.set_cons_succ]
  refine wpAnyH_takeD (i := 12) (some 28) (v := undef) rfl rfl (by kernel_rfl) (by kernel_rfl) (by kernel_rfl) (fun _ _ _ h => h) (Or.inr ⟨by kernel_rfl, rfl⟩) (by assumption) ?_
  try simp only [Act.put, List.setIfInBounds_toArray, List.set_cons_zero, List.set_cons_succ]
  refine wpAnyH_takeD (i := 13) (some 29) (v := undef) rfl rfl (by kernel_rfl) (by kernel_rfl) (by kernel_rfl) (fun _ _ _ h => h) (Or.inr ⟨by kernel_rfl, rfl⟩) (by assumption) ?_
  try simp only [Act.put, List.setIfInBounds_toArray, List.set_cons_zero, List.set_cons_succ]
  refine wpAnyH_takeD (i := 14) (some 30) (v := ?vs214) rfl rfl (by kernel_rfl) (by kernel_rfl) (by kernel_rfl) (fun _ _ _ h => h) (Or.inl ⟨by kernel_rfl, ?hys214⟩) (by assumption) ?rests214
  case hys214 => (intro x hSx; (try dsimp only at hSx); go_simp; first | done | with_reducible rfl)
  try simp only [Act.put, List.setIfInBounds_toArray, List.set_cons_zero, List.set_cons_succ]
  refine wpAnyH_takeD (i := 15) (some 15) (v := ?vs215) rfl rfl (by kernel_rfl) (by kernel_rfl) (by kernel_rfl) (fun _ _ _ h => h) (Or.inl ⟨by kernel_rfl, ?hys215⟩) (by assumption) ?rests215
  case hys215 => (intro x hSx; (try dsimp only at hSx); go_simp; first | done | with_reducible rfl)
  try simp only [Act.put, List.setIfInBounds_toArray, List.set_cons_zero, List.set_cons_succ]
  refine wpAnyH_done (by kernel_rfl) ?_ _
  have hdw2 : Below w1.heap.size w1 w1.drew := (Below.refl _ _).drew
  have hTL2 := hTL.old hdw2
  have hTR2 := hTR.old hdw2
  have hB2 := hB1.old hdw2
  have hb2 := hb1.trans (hdw2.mono (Nat.le_of_lt hsz))
  generalize w1.drew = w2 at *
  have hsz2 : w.heap.size < w2.heap.size := hB2.lt
  clear hTL hTR hB1 hb1 hsz hdw2
  go_upto_region 7 with fail
  refine wp_region_held_drew (S := fun x => Below w2.heap.size w2 x) (by kernel_rfl) ((Below.refl _ _).drew) (fun hHelds7 => ?_)
  refine wpAnyH_takeD (i := 0) (some 80) (v := ?vs70) rfl rfl (by kernel_rfl) (by kernel_rfl) (by kernel_rfl) (fun _ _ _ h => h) (Or.inl ⟨by kernel_rfl, ?hys70⟩) (by assumption) ?rests70
  case hys70 => (intro x hSx; (try dsimp only at hSx); go_simp; first | done | with_reducible rfl)
  try simp only [Act.put, List.setIfInBounds_toArray, List.set_cons_zero, List.set_cons_succ]
  refine wpAnyH_takeD (i := 1) (some 81) (v := .bool false) rfl rfl (by kernel_rfl) (by kernel_rfl) (by kernel_rfl) (fun _ _ _ h => h) (Or.inl ⟨by kernel_rfl, ?hys71⟩) (by assumption) ?rests71
  case hys71 => (intro x hSx; (try dsimp only at hSx); go_simp; first | done | with_reducible rfl)
  try simp only [Act.put, List.setIfInBounds_toArray, List.set_cons_zero, List.set_cons_succ]
  refine wpAnyH_takeD (i := 2) (some 82) (v := ?vs72) rfl rfl (by kernel_rfl) (by kernel_rfl) (by kernel_rfl) (fun _ _ _ h => h) (Or.inl ⟨by kernel_rfl, ?hys72⟩) (by assumption) ?rests72
  case hys72 => (intro x hSx; (try dsimp only at hSx); go_simp; first | done | with_reducible rfl)
  try simp only [Act.put, List.setIfInBounds_toArray, List.set_cons_zero, List.set_cons_succ]
  refine wpAnyH_takeD (i := 3) (some 83) (v := undef) rfl rfl (by kernel_rfl) (by kernel_rfl) (by kernel_rfl) (fun _ _ _ h => h) (Or.inr ⟨by kernel_rfl, rfl⟩) (by assumption) ?_
  try simp only [Act.put, List.setIfInBounds_toArray, List.set_cons_zero, List.set_cons_succ]
  refine wpAnyH_takeD (i := 4) (some 84) (v := undef) rfl rfl (by kernel_rfl) (by kernel_rfl) (by kernel_rfl) (fun _ _ _ h => h) (Or.inr ⟨by kernel_rfl, rfl⟩) (by assumption) ?_
  try simp only [Act.put, List.setIfInBounds_toArray, List.set_cons_zero, List.set_cons_succ]
  refine wpAnyH_takeD (i := 5) (some 85) (v := undef) rfl rfl (by kernel_rfl) (by kernel_rfl) (by kernel_rfl) (fun _ _ _ h => h) (Or.inr ⟨by kernel_rfl, rfl⟩) (by assumption) ?_
  try simp only [Act.put, List.setIfInBounds_toArray, List.set_cons_zero, List.set_cons_succ]
  refine wpAnyH_takeD (i := 6) (some 86) (v := undef) rfl rfl (by kernel_rfl) (by kernel_rfl) (by kernel_rfl) (fun _ _ _ h => h) (Or.inr ⟨by kernel_rfl, rfl⟩) (by assumption) ?_
  try simp only [Act.put, List.setIfInBounds_toArray, List.set_cons_zero, List.set_cons_succ]
  refine wpAnyH_takeD (i := 7) (some 87) (v := undef) rfl rfl (by kernel_rfl) (by kernel_rfl) (by kernel_rfl) (fun _ _ _ h => h) (Or.inr ⟨by kernel_rfl, rfl⟩) (by assumption) ?_
  try simp only [Act.put, List.setIfInBounds_toArray, List.set_cons_zero, List.set_cons_succ]
  refine wpAnyH_takeD (i := 8) (some 88) (v := undef) rfl rfl (by kernel_rfl) (by kernel_rfl) (by kernel_rfl) (fun _ _ _ h => h) (Or.inr ⟨by kernel_rfl, rfl⟩) (by assumption) ?_
  try simp only [Act.put, List.setIfInBounds_toArray, List.set_cons_zero, List.set_cons_succ]
  refine wpAnyH_takeD (i := 9) (some 89) (v := undef) rfl rfl (by kernel_rfl) (by kernel_rfl) (by kernel_rfl) (fun _ _ _ h => h) (Or.inr ⟨by kernel_rfl, rfl⟩) (by assumption) ?_
  try simp only [Act.put, List.setIfInBounds_toArray, List.set_cons_zero, List.set_cons_succ]
  refine wpAnyH_takeD (i := 10) (some 90) (v := undef) rfl rfl (by kernel_rfl) (by kernel_rfl) (by kernel_rfl) (fun _ _ _ h => h) (Or.inr ⟨by kernel_rfl, rfl⟩) (by assumption) ?_
  try simp only [Act.put, List.setIfInBounds_toArray, List.set_cons_zero, List.set_cons_succ]
  refine wpAnyH_takeD (i := 11) (some 91) (v := undef) rfl rfl (by kernel_rfl) (by kernel_rfl) (by kernel_rfl) (fun _ _ _ h => h) (Or.inr ⟨by kernel_rfl, rfl⟩) (by assumption) ?_
  try simp only [Act.put, List.setIfInBounds_toArray, List.set_cons_zero, List.set_cons_succ]
  refine wpAnyH_takeD (i := 12) (some 92) (v := undef) rfl rfl (by kernel_rfl) (by kernel_rfl) (by kernel_rfl) (fun _ _ _ h => h) (Or.inr ⟨by kernel_rfl, rfl⟩) (by assumption) ?_
  try simp only [Act.put, List.setIfInBounds_toArray, List.set_cons_zero, List.set_cons_succ]
  refine wpAnyH_takeD (i := 13) (some 93) (v := undef) rfl rfl (by kernel_rfl) (by kernel_rfl) (by kernel_rfl) (fun _ _ _ h => h) (Or.inr ⟨by kernel_rfl, rfl⟩) (by assumption) ?_
  try simp only [Act.put, List.setIfInBounds_toArray, List.set_cons_zero, List.set_cons_succ]
  refine wpAnyH_takeD (i := 14) (some 94) (v := ?vs714) rfl rfl (by kernel_rfl) (by kernel_rfl) (by kernel_rfl) (fun _ _ _ h => h) (Or.inl ⟨by kernel_rfl, ?hys714⟩) (by assumption) ?rests714
  case hys714 => (intro x hSx; (try dsimp only at hSx); go_simp; first | done | with_reducible rfl)
  try simp only [Act.put, List.setIfInBounds_toArray, List.set_cons_zero, List.set_cons_succ]
  refine wpAnyH_takeD (i := 15) (some 79) (v := ?vs715) rfl rfl (by kernel_rfl) (by kernel_rfl) (by kernel_rfl) (fun _ _ _ h => h) (Or.inl ⟨by kernel_rfl, ?hys715⟩) (by assumption) ?rests715
  case hys715 => (intro x hSx; (try dsimp only at hSx); go_simp; first | done | with_reducible rfl)
  try simp only [Act.put, List.setIfInBounds_toArray, List.set_cons_zero, List.set_cons_succ]
  refine wpAnyH_done (by kernel_rfl) ?_ _
  have hdw3 : Below w2.heap.size w2 w2.drew := (Below.refl _ _).drew
  have hTL3 := hTL2.old hdw3
  have hTR3 := hTR2.old hdw3
  have hB3 := hB2.old hdw3
  have hb3 := hb2.trans (hdw3.mono (Nat.le_of_lt hsz2))
  generalize w2.drew = w3 at *
  have hsz3 : w.heap.size < w3.heap.size := hB3.lt
  clear hTL2 hTR2 hB2 hb2 hsz2 hdw3
  obtain ⟨p0, p1⟩ := hB3.c2
  go_wp2_with fail
  refine (over_any l r k v w3 hTL3 hTR3 (by omega)).mono ?_
  rintro e w4 ⟨bb, rfl, ht, hb4⟩
  go_wp2
  go_ret
  exact ⟨.node bb k v l r, rfl, ht, rfl, hb3.trans (hb4.mono (Nat.le_of_lt hsz3))⟩
set_option maxHeartbeats 8000000 in
set_option maxRecDepth 20000 in
theorem even_a2 (nb : Nat) (nk nv : ByteArray) (nl : Tr) (tb : Nat) (tk tv : ByteArray) (tl tr : Tr) (r : Tr) (k v : ByteArray) (w : World) (hl : TAt w (.node nb nk nv nl (.node tb tk tv tl tr))) (hr : TAt w r) (hb : (Tr.node nb nk nv nl (.node tb tk tv tl tr)).ht + r.ht < 1152921504606846976) (a b c d : Int) (Ha : Hid (a = ((Tr.node nb nk nv nl (.node tb tk tv tl tr)).ht : Int))) (Hb : Hid (b = (r.ht : Int))) (Hc : Hid (c = (nl.ht : Int))) (Hd : Hid (d = ((Tr.node tb tk tv tl tr).ht : Int))) (ha : 0 ≤ a ∧ a < 1152921504606846976) (hb' : 0 ≤ b ∧ b < 1152921504606846976) (hm1 : decide (1 < a - b) = true) (hm3 : decide (c < d) = true) :
    Calls Try.prog 42 #[.pointer (some ⟨nb, 0, none⟩), .agg #[.string k, .string v], .pointer r.ptr] w (EvPost ((Tr.node nb nk nv nl (.node tb tk tv tl tr)).toL ++ (k, v) :: r.toL) w) := by
  have hb1 := (Below.refl w.heap.size w).alloc (Nat.le_refl _) (.cells #[.string k, .string v] 45)
  have hB1 := Blk.new w 45 #[.string k, .string v]
  have HL : Hid (∀ x, Below (w.alloc (.cells #[.string k, .string v] 45)).heap.size (w.alloc (.cells #[.string k, .string v] 45)) x → Calls Try.prog 49 #[.pointer (some ⟨nb, 0, none⟩)] x fun e w' => e = .returned (.int .i64 a) ∧ x = w') := fun x hx => by rw [Ha.out]; exact height_any _ x ((hl.old hb1).old hx)
  have HR : Hid (∀ x, Below (w.alloc (.cells #[.string k, .string v] 45)).heap.size (w.alloc (.cells #[.string k, .string v] 45)) x → Calls Try.prog 49 #[.pointer r.ptr] x fun e w' => e = .returned (.int .i64 b) ∧ x = w') := fun x hx => by rw [Hb.out]; exact height_any _ x ((hr.old hb1).old hx)
  have hTL := hl.old hb1
  have hTR := hr.old hb1
  clear hl hr
  have hsz : w.heap.size < (w.alloc (.cells #[.string k, .string v] 45)).heap.size := hB1.lt
  go_enter Try.func42, Try.ntmps42
  go_upto_region 1 with fail
  generalize (w.alloc (.cells #[.string k, .string v] 45)) = w1 at *
  go_wp2_with fail
  refine (HL.out _ (Below.refl _ _)).mono ?_
  rintro e wq ⟨rfl, rfl⟩
  go_wp2_with fail
  refine (HR.out _ (Below.refl _ _)).mono ?_
  rintro e wq ⟨rfl, rfl⟩
  clear HL HR
  have hbb := hb
  simp only [Tr.ht] at hbb
  have HC : Hid (∀ x, Below w1.heap.size w1 x → Calls Try.prog 49 #[.pointer nl.ptr] x fun e w' => e = .returned (.int .i64 c) ∧ x = w') := fun x hx => by rw [Hc.out]; exact height_any nl x (hTL.2.1.old hx)
  have HD : Hid (∀ x, Below w1.heap.size w1 x → Calls Try.prog 49 #[.pointer (some ⟨tb, 0, none⟩)] x fun e w' => e = .returned (.int .i64 d) ∧ x = w') := fun x hx => by rw [Hd.out]; exact height_any (.node tb tk tv tl tr) x (hTL.2.2.old hx)
  have HF : Hid (∀ x, Below w1.heap.size w1 x → x.cell? ⟨nb, 2, none⟩ = some (.pointer nl.ptr) ∧ x.cell? ⟨nb, 3, none⟩ = some (.pointer (some ⟨tb, 0, none⟩))) := fun x hx => ⟨(hTL.old hx).cells.2.2.1, (hTL.old hx).cells.2.2.2.1⟩
  go_upto_region 2 with fail
  refine wp_region_held_drew (S := fun x => Below w1.heap.size w1 x) (by kernel_rfl) ((Below.refl _ _).drew) (fun hHeldg => ?_)
  refine wpAnyH_takeD (i := 0) (some 16) (v := ?vg0) rfl rfl (by kernel_rfl) (by kernel_rfl) (by kernel_rfl) (fun _ _ _ h => h) (Or.inl ⟨by kernel_rfl, ?hyg0⟩) (by assumption) ?restg0
  case hyg0 => (intro x hSx; (try dsimp only at hSx); go_simp; first | done | with_reducible rfl)
  try simp only [Act.put, List.setIfInBounds_toArray, List.set_cons_zero, List.set_cons_succ]
  refine wpAnyH_takeD (i := 1) (some 17) (v := .bool true) rfl rfl (by kernel_rfl) (by kernel_rfl) (by kernel_rfl) (fun _ _ _ h => h) (Or.inl ⟨by kernel_rfl, ?hyg1⟩) (by assumption) ?restg1
  case hyg1 => (intro x hSx; (try dsimp only at hSx); go_simp; first | done | with_reducible rfl)
  try simp only [Act.put, List.setIfInBounds_toArray, List.set_cons_zero, List.set_cons_succ]
  refine wpAnyH_takeD (i := 2) (some 18) (v := ?vg2) rfl rfl (by kernel_rfl) (by kernel_rfl) (by kernel_rfl) (fun _ _ _ h => h) (Or.inl ⟨by kernel_rfl, ?hyg2⟩) (by assumption) ?restg2
  case hyg2 => (intro x hSx; (try dsimp only at hSx); go_simp; first | done | with_reducible rfl)
  try simp only [Act.put, List.setIfInBounds_toArray, List.set_cons_zero, List.set_cons_succ]
  refine wpAnyH_takeD (i := 3) (some 19) (v := ?vg3) rfl rfl (by kernel_rfl) (by kernel_rfl) (by kernel_rfl) (fun _ _ _ h => h) (Or.inl ⟨by kernel_rfl, ?hyg3⟩) (by assumption) ?restg3
  case hyg3 => (intro x hSx; (try dsimp only at hSx); go_simp; first | done | with_reducible rfl)
  try simp only [Act.put, List.setIfInBounds_toArray, List.set_cons_zero, List.set_cons_succ]
  refine wpAnyH_takeD (i := 4) (some 20) (v := ?vg4) rfl rfl (by kernel_rfl) (by kernel_rfl) (by kernel_rfl) (fun _ _ _ h => h) (Or.inl ⟨by kernel_rfl, ?hyg4⟩) (by assumption) ?restg4
  case hyg4 => (intro x hSx; (try dsimp only at hSx); go_simp; first | done | with_reducible rfl)
  try simp only [Act.put, List.setIfInBounds_toArray, List.set_cons_zero, List.set_cons_succ]
  refine wpAnyH_takeD (i := 5) (some 21) (v := ?vg5) rfl rfl (by kernel_rfl) (by kernel_rfl) (by kernel_rfl) (fun _ _ _ h => h) (Or.inl ⟨by kernel_rfl, ?hyg5⟩) (by assumption) ?restg5
  case hyg5 => (intro x hSx; (try dsimp only at hSx); go_simp; first | done | with_reducible rfl)
  try simp only [Act.put, List.setIfInBounds_toArray, List.set_cons_zero, List.set_cons_succ]
  refine wpAnyH_takeD (i := 6) (some 22) (v := ?vg6) rfl rfl (by kernel_rfl) (by kernel_rfl) (by kernel_rfl) (fun _ _ _ h => h) (Or.inl ⟨by kernel_rfl, ?hyg6⟩) (by assumption) ?restg6
  case hyg6 => (intro x hSx; (try dsimp only at hSx); obtain ⟨c2, c3⟩ := HF.out x hSx; go_simp; first | done | with_reducible rfl)
  try simp only [Act.put, List.setIfInBounds_toArray, List.set_cons_zero, List.set_cons_succ]
  refine wpAnyH_takeD (i := 8) (some 24) (v := ?vg8) rfl rfl (by kernel_rfl) (by kernel_rfl) (by kernel_rfl) (fun _ _ _ h => h) (Or.inl ⟨by kernel_rfl, ?hyg8⟩) (by assumption) ?restg8
  case hyg8 => (intro x hSx; (try dsimp only at hSx); go_simp; first | done | with_reducible rfl)
  try simp only [Act.put, List.setIfInBounds_toArray, List.set_cons_zero, List.set_cons_succ]
  refine wpAnyH_takeD (i := 9) (some 25) (v := ?vg9) rfl rfl (by kernel_rfl) (by kernel_rfl) (by kernel_rfl) (fun _ _ _ h => h) (Or.inl ⟨by kernel_rfl, ?hyg9⟩) (by assumption) ?restg9
  case hyg9 => (intro x hSx; (try dsimp only at hSx); go_simp; first | done | with_reducible rfl)
  try simp only [Act.put, List.setIfInBounds_toArray, List.set_cons_zero, List.set_cons_succ]
  refine wpAnyH_takeD (i := 10) (some 26) (v := ?vg10) rfl rfl (by kernel_rfl) (by kernel_rfl) (by kernel_rfl) (fun _ _ _ h => h) (Or.inl ⟨by kernel_rfl, ?hyg10⟩) (by assumption) ?restg10
  case hyg10 => (intro x hSx; (try dsimp only at hSx); go_simp; first | done | with_reducible rfl)
  try simp only [Act.put, List.setIfInBounds_toArray, List.set_cons_zero, List.set_cons_succ]
  refine wpAnyH_takeD (i := 11) (some 27) (v := ?vg11) rfl rfl (by kernel_rfl) (by kernel_rfl) (by kernel_rfl) (fun _ _ _ h => h) (Or.inl ⟨by kernel_rfl, ?hyg11⟩) (by assumption) ?restg11
  case hyg11 => (intro x hSx; (try dsimp only at hSx); obtain ⟨c2, c3⟩ := HF.out x hSx; go_simp; first | done | with_reducible rfl)
  try simp only [Act.put, List.setIfInBounds_toArray, List.set_cons_zero, List.set_cons_succ]
  refine wpAnyH_ready (rs := [7]) (by kernel_rfl) (by simp) ?_
  refine AllReadyH.cons rfl (fun K hK => ?_) AllReadyH.nil
  go_simp
  go_wp2_with (go_at_call 49; refine (HD.out _ hHeldg).mono ?_; rintro e yg7 ⟨rfl, rfl⟩)
  refine hK.out _ _ (hHeldg) (fun hHeldg7 => ?_)
  clear hK K
  try simp only [Act.put, List.setIfInBounds_toArray, List.set_cons_zero, List.set_cons_succ]
  refine wpAnyH_ready (rs := [12]) (by kernel_rfl) (by simp) ?_
  refine AllReadyH.cons rfl (fun K hK => ?_) AllReadyH.nil
  go_simp
  go_wp2_with (go_at_call 49; refine (HC.out _ hHeldg7).mono ?_; rintro e yg12 ⟨rfl, rfl⟩)
  refine hK.out _ _ (hHeldg7) (fun hHeldg12 => ?_)
  clear hK K
  try simp only [Act.put, List.setIfInBounds_toArray, List.set_cons_zero, List.set_cons_succ]
  refine wpAnyH_takeD (i := 13) (some 29) (v := .bool true) rfl rfl (by kernel_rfl) (by kernel_rfl) (by kernel_rfl) (fun _ _ _ h => h) (Or.inl ⟨by kernel_rfl, ?hyg13⟩) (by assumption) ?restg13
  case hyg13 => (intro x hSx; (try dsimp only at hSx); go_simp; first | done | with_reducible rfl)
  try simp only [Act.put, List.setIfInBounds_toArray, List.set_cons_zero, List.set_cons_succ]
  refine wpAnyH_takeD (i := 14) (some 30) (v := ?vg14) rfl rfl (by kernel_rfl) (by kernel_rfl) (by kernel_rfl) (fun _ _ _ h => h) (Or.inl ⟨by kernel_rfl, ?hyg14⟩) (by assumption) ?restg14
  case hyg14 => (intro x hSx; (try dsimp only at hSx); go_simp; first | done | with_reducible rfl)
  try simp only [Act.put, List.setIfInBounds_toArray, List.set_cons_zero, List.set_cons_succ]
  refine wpAnyH_takeD (i := 15) (some 15) (v := ?vg15) rfl rfl (by kernel_rfl) (by kernel_rfl) (by kernel_rfl) (fun _ _ _ h => h) (Or.inl ⟨by kernel_rfl, ?hyg15⟩) (by assumption) ?restg15
  case hyg15 => (intro x hSx; (try dsimp only at hSx); go_simp; first | done | with_reducible rfl)
  try simp only [Act.put, List.setIfInBounds_toArray, List.set_cons_zero, List.set_cons_succ]
  refine wpAnyH_done (by kernel_rfl) ?_ _
  clear HC HD HF
  have hdw2 : Below w1.heap.size w1 w1.drew := (Below.refl _ _).drew
  have hTL2 := hTL.old hdw2
  have hTR2 := hTR.old hdw2
  have hB2' := hB1.old hdw2
  have hbw2 := hb1.trans (hdw2.mono (Nat.le_of_lt hsz))
  generalize w1.drew = w2 at *
  have hsz2 : w.heap.size < w2.heap.size := hB2'.lt
  clear hTL hTR hB1 hb1 hsz hdw2
  have n2 : w2.cell? ⟨nb, 2, none⟩ = some (.pointer nl.ptr) := hTL2.cells.2.2.1
  have n3 : w2.cell? ⟨nb, 3, none⟩ = some (.pointer (some ⟨tb, 0, none⟩)) := hTL2.cells.2.2.2.1
  go_upto_region 4 with fail
  have HF : Hid (∀ x, Below w2.heap.size w2 x → x.cell? ⟨nb, 0, none⟩ = some (.string nk) ∧ x.cell? ⟨nb, 1, none⟩ = some (.string nv) ∧ x.cell? ⟨nb, 2, none⟩ = some (.pointer nl.ptr) ∧ x.cell? ⟨nb, 3, none⟩ = some (.pointer (some ⟨tb, 0, none⟩)) ∧ x.cell? ⟨w.heap.size, 0, none⟩ = some (.string k) ∧ x.cell? ⟨w.heap.size, 1, none⟩ = some (.string v) ∧ x.cell? ⟨tb, 0, none⟩ = some (.string tk) ∧ x.cell? ⟨tb, 1, none⟩ = some (.string tv) ∧ x.cell? ⟨tb, 2, none⟩ = some (.pointer tl.ptr) ∧ x.cell? ⟨tb, 3, none⟩ = some (.pointer tr.ptr)) := fun x hx => ⟨(hTL2.old hx).cells.1, (hTL2.old hx).cells.2.1, (hTL2.old hx).cells.2.2.1, (hTL2.old hx).cells.2.2.2.1, (hB2'.old hx).c2.1, (hB2'.old hx).c2.2, (hTL2.2.2.old hx).cells.1, (hTL2.2.2.old hx).cells.2.1, (hTL2.2.2.old hx).cells.2.2.1, (hTL2.2.2.old hx).cells.2.2.2.1⟩
  go_upto_region 4 with fail
  refine wp_region_held_drew (S := fun x => Below w2.heap.size w2 x) (by kernel_rfl) ((Below.refl _ _).drew) (fun hHeldh => ?_)
  refine wpAnyH_takeD (i := 0) (some 35) (v := ?vh0) rfl rfl (by kernel_rfl) (by kernel_rfl) (by kernel_rfl) (fun _ _ _ h => h) (Or.inl ⟨by kernel_rfl, ?hyh0⟩) (by assumption) ?resth0
  case hyh0 => (intro x hSx; (try dsimp only at hSx); go_simp; first | done | with_reducible rfl)
  try simp only [Act.put, List.setIfInBounds_toArray, List.set_cons_zero, List.set_cons_succ]
  refine wpAnyH_takeD (i := 1) (some 36) (v := ?vh1) rfl rfl (by kernel_rfl) (by kernel_rfl) (by kernel_rfl) (fun _ _ _ h => h) (Or.inl ⟨by kernel_rfl, ?hyh1⟩) (by assumption) ?resth1
  case hyh1 => (intro x hSx; (try dsimp only at hSx); go_simp; first | done | with_reducible rfl)
  try simp only [Act.put, List.setIfInBounds_toArray, List.set_cons_zero, List.set_cons_succ]
  refine wpAnyH_takeD (i := 2) (some 37) (v := ?vh2) rfl rfl (by kernel_rfl) (by kernel_rfl) (by kernel_rfl) (fun _ _ _ h => h) (Or.inl ⟨by kernel_rfl, ?hyh2⟩) (by assumption) ?resth2
  case hyh2 => (intro x hSx; (try dsimp only at hSx); go_simp; first | done | with_reducible rfl)
  try simp only [Act.put, List.setIfInBounds_toArray, List.set_cons_zero, List.set_cons_succ]
  refine wpAnyH_takeD (i := 3) (some 38) (v := ?vh3) rfl rfl (by kernel_rfl) (by kernel_rfl) (by kernel_rfl) (fun _ _ _ h => h) (Or.inl ⟨by kernel_rfl, ?hyh3⟩) (by assumption) ?resth3
  case hyh3 => (intro x hSx; (try dsimp only at hSx); obtain ⟨z0, z1, z2, z3, z4, z5, z6, z7, z8, z9⟩ := HF.out x hSx; go_simp; first | done | with_reducible rfl)
  try simp only [Act.put, List.setIfInBounds_toArray, List.set_cons_zero, List.set_cons_succ]
  refine wpAnyH_takeD (i := 4) (some 39) (v := ?vh4) rfl rfl (by kernel_rfl) (by kernel_rfl) (by kernel_rfl) (fun _ _ _ h => h) (Or.inl ⟨by kernel_rfl, ?hyh4⟩) (by assumption) ?resth4
  case hyh4 => (intro x hSx; (try dsimp only at hSx); go_simp; first | done | with_reducible rfl)
  try simp only [Act.put, List.setIfInBounds_toArray, List.set_cons_zero, List.set_cons_succ]
  refine wpAnyH_takeD (i := 5) (some 40) (v := ?vh5) rfl rfl (by kernel_rfl) (by kernel_rfl) (by kernel_rfl) (fun _ _ _ h => h) (Or.inl ⟨by kernel_rfl, ?hyh5⟩) (by assumption) ?resth5
  case hyh5 => (intro x hSx; (try dsimp only at hSx); go_simp; first | done | with_reducible rfl)
  try simp only [Act.put, List.setIfInBounds_toArray, List.set_cons_zero, List.set_cons_succ]
  refine wpAnyH_takeD (i := 6) (some 41) (v := ?vh6) rfl rfl (by kernel_rfl) (by kernel_rfl) (by kernel_rfl) (fun _ _ _ h => h) (Or.inl ⟨by kernel_rfl, ?hyh6⟩) (by assumption) ?resth6
  case hyh6 => (intro x hSx; (try dsimp only at hSx); go_simp; first | done | with_reducible rfl)
  try simp only [Act.put, List.setIfInBounds_toArray, List.set_cons_zero, List.set_cons_succ]
  refine wpAnyH_takeD (i := 7) (some 42) (v := ?vh7) rfl rfl (by kernel_rfl) (by kernel_rfl) (by kernel_rfl) (fun _ _ _ h => h) (Or.inl ⟨by kernel_rfl, ?hyh7⟩) (by assumption) ?resth7
  case hyh7 => (intro x hSx; (try dsimp only at hSx); obtain ⟨z0, z1, z2, z3, z4, z5, z6, z7, z8, z9⟩ := HF.out x hSx; go_simp; first | done | with_reducible rfl)
  try simp only [Act.put, List.setIfInBounds_toArray, List.set_cons_zero, List.set_cons_succ]
  refine wpAnyH_takeD (i := 8) (some 43) (v := ?vh8) rfl rfl (by kernel_rfl) (by kernel_rfl) (by kernel_rfl) (fun _ _ _ h => h) (Or.inl ⟨by kernel_rfl, ?hyh8⟩) (by assumption) ?resth8
  case hyh8 => (intro x hSx; (try dsimp only at hSx); go_simp; first | done | with_reducible rfl)
  try simp only [Act.put, List.setIfInBounds_toArray, List.set_cons_zero, List.set_cons_succ]
  refine wpAnyH_takeD (i := 9) (some 44) (v := ?vh9) rfl rfl (by kernel_rfl) (by kernel_rfl) (by kernel_rfl) (fun _ _ _ h => h) (Or.inl ⟨by kernel_rfl, ?hyh9⟩) (by assumption) ?resth9
  case hyh9 => (intro x hSx; (try dsimp only at hSx); go_simp; first | done | with_reducible rfl)
  try simp only [Act.put, List.setIfInBounds_toArray, List.set_cons_zero, List.set_cons_succ]
  refine wpAnyH_takeD (i := 10) (some 45) (v := ?vh10) rfl rfl (by kernel_rfl) (by kernel_rfl) (by kernel_rfl) (fun _ _ _ h => h) (Or.inl ⟨by kernel_rfl, ?hyh10⟩) (by assumption) ?resth10
  case hyh10 => (intro x hSx; (try dsimp only at hSx); go_simp; first | done | with_reducible rfl)
  try simp only [Act.put, List.setIfInBounds_toArray, List.set_cons_zero, List.set_cons_succ]
  refine wpAnyH_takeD (i := 11) (some 46) (v := ?vh11) rfl rfl (by kernel_rfl) (by kernel_rfl) (by kernel_rfl) (fun _ _ _ h => h) (Or.inl ⟨by kernel_rfl, ?hyh11⟩) (by assumption) ?resth11
  case hyh11 => (intro x hSx; (try dsimp only at hSx); obtain ⟨z0, z1, z2, z3, z4, z5, z6, z7, z8, z9⟩ := HF.out x hSx; go_simp; first | done | with_reducible rfl)
  try simp only [Act.put, List.setIfInBounds_toArray, List.set_cons_zero, List.set_cons_succ]
  refine wpAnyH_takeD (i := 13) (some 48) (v := ?vh13) rfl rfl (by kernel_rfl) (by kernel_rfl) (by kernel_rfl) (fun _ _ _ h => h) (Or.inl ⟨by kernel_rfl, ?hyh13⟩) (by assumption) ?resth13
  case hyh13 => (intro x hSx; (try dsimp only at hSx); go_simp; first | done | with_reducible rfl)
  try simp only [Act.put, List.setIfInBounds_toArray, List.set_cons_zero, List.set_cons_succ]
  refine wpAnyH_takeD (i := 14) (some 49) (v := ?vh14) rfl rfl (by kernel_rfl) (by kernel_rfl) (by kernel_rfl) (fun _ _ _ h => h) (Or.inl ⟨by kernel_rfl, ?hyh14⟩) (by assumption) ?resth14
  case hyh14 => (intro x hSx; (try dsimp only at hSx); go_simp; first | done | with_reducible rfl)
  try simp only [Act.put, List.setIfInBounds_toArray, List.set_cons_zero, List.set_cons_succ]
  refine wpAnyH_takeD (i := 15) (some 50) (v := ?vh15) rfl rfl (by kernel_rfl) (by kernel_rfl) (by kernel_rfl) (fun _ _ _ h => h) (Or.inl ⟨by kernel_rfl, ?hyh15⟩) (by assumption) ?resth15
  case hyh15 => (intro x hSx; (try dsimp only at hSx); go_simp; first | done | with_reducible rfl)
  try simp only [Act.put, List.setIfInBounds_toArray, List.set_cons_zero, List.set_cons_succ]
  refine wpAnyH_takeD (i := 16) (some 51) (v := ?vh16) rfl rfl (by kernel_rfl) (by kernel_rfl) (by kernel_rfl) (fun _ _ _ h => h) (Or.inl ⟨by kernel_rfl, ?hyh16⟩) (by assumption) ?resth16
  case hyh16 => (intro x hSx; (try dsimp only at hSx); obtain ⟨z0, z1, z2, z3, z4, z5, z6, z7, z8, z9⟩ := HF.out x hSx; go_simp; first | done | with_reducible rfl)
  try simp only [Act.put, List.setIfInBounds_toArray, List.set_cons_zero, List.set_cons_succ]
  refine wpAnyH_takeD (i := 17) (some 52) (v := ?vh17) rfl rfl (by kernel_rfl) (by kernel_rfl) (by kernel_rfl) (fun _ _ _ h => h) (Or.inl ⟨by kernel_rfl, ?hyh17⟩) (by assumption) ?resth17
  case hyh17 => (intro x hSx; (try dsimp only at hSx); go_simp; first | done | with_reducible rfl)
  try simp only [Act.put, List.setIfInBounds_toArray, List.set_cons_zero, List.set_cons_succ]
  refine wpAnyH_takeD (i := 18) (some 53) (v := ?vh18) rfl rfl (by kernel_rfl) (by kernel_rfl) (by kernel_rfl) (fun _ _ _ h => h) (Or.inl ⟨by kernel_rfl, ?hyh18⟩) (by assumption) ?resth18
  case hyh18 => (intro x hSx; (try dsimp only at hSx); go_simp; first | done | with_reducible rfl)
  try simp only [Act.put, List.setIfInBounds_toArray, List.set_cons_zero, List.set_cons_succ]
  refine wpAnyH_takeD (i := 19) (some 54) (v := ?vh19) rfl rfl (by kernel_rfl) (by kernel_rfl) (by kernel_rfl) (fun _ _ _ h => h) (Or.inl ⟨by kernel_rfl, ?hyh19⟩) (by assumption) ?resth19
  case hyh19 => (intro x hSx; (try dsimp only at hSx); go_simp; first | done | with_reducible rfl)
  try simp only [Act.put, List.setIfInBounds_toArray, List.set_cons_zero, List.set_cons_succ]
  refine wpAnyH_takeD (i := 20) (some 55) (v := ?vh20) rfl rfl (by kernel_rfl) (by kernel_rfl) (by kernel_rfl) (fun _ _ _ h => h) (Or.inl ⟨by kernel_rfl, ?hyh20⟩) (by assumption) ?resth20
  case hyh20 => (intro x hSx; (try dsimp only at hSx); obtain ⟨z0, z1, z2, z3, z4, z5, z6, z7, z8, z9⟩ := HF.out x hSx; go_simp; first | done | with_reducible rfl)
  try simp only [Act.put, List.setIfInBounds_toArray, List.set_cons_zero, List.set_cons_succ]
  refine wpAnyH_takeD (i := 21) (some 56) (v := ?vh21) rfl rfl (by kernel_rfl) (by kernel_rfl) (by kernel_rfl) (fun _ _ _ h => h) (Or.inl ⟨by kernel_rfl, ?hyh21⟩) (by assumption) ?resth21
  case hyh21 => (intro x hSx; (try dsimp only at hSx); obtain ⟨z0, z1, z2, z3, z4, z5, z6, z7, z8, z9⟩ := HF.out x hSx; go_simp; first | done | with_reducible rfl)
  try simp only [Act.put, List.setIfInBounds_toArray, List.set_cons_zero, List.set_cons_succ]
  refine wpAnyH_takeD (i := 22) (some 57) (v := ?vh22) rfl rfl (by kernel_rfl) (by kernel_rfl) (by kernel_rfl) (fun _ _ _ h => h) (Or.inl ⟨by kernel_rfl, ?hyh22⟩) (by assumption) ?resth22
  case hyh22 => (intro x hSx; (try dsimp only at hSx); go_simp; first | done | with_reducible rfl)
  try simp only [Act.put, List.setIfInBounds_toArray, List.set_cons_zero, List.set_cons_succ]
  refine wpAnyH_ready (rs := [12]) (by kernel_rfl) (by simp) ?_
  refine AllReadyH.cons rfl (fun K hK => ?_) AllReadyH.nil
  go_simp
  go_wp2_with (go_at_call 41; refine (over_any nl tl nk nv _ (hTL2.2.1.old hHeldh) (hTL2.2.2.2.1.old hHeldh) (by (try simp only [Tr.ht]); omega)).mono ?_; rintro e y12 ⟨b1, rfl, ht12, hq12⟩)
  refine hK.out _ _ (hHeldh.trans (hq12.mono hHeldh.size)) (fun hHeldh12 => ?_)
  clear hK K
  try simp only [Act.put, List.setIfInBounds_toArray, List.set_cons_zero, List.set_cons_succ]
  refine wpAnyH_ready (rs := [23]) (by kernel_rfl) (by simp) ?_
  refine AllReadyH.cons rfl (fun K hK => ?_) AllReadyH.nil
  go_simp
  go_wp2_with (go_at_call 41; refine (over_any tr r k v _ (hTL2.2.2.2.2.old hHeldh12) (hTR2.old hHeldh12) (by (try simp only [Tr.ht]); omega)).mono ?_; rintro e y23 ⟨b2, rfl, ht23, hq23⟩)
  refine hK.out _ _ (hHeldh12.trans (hq23.mono hHeldh12.size)) (fun hHeldh23 => ?_)
  clear hK K
  try simp only [Act.put, List.setIfInBounds_toArray, List.set_cons_zero, List.set_cons_succ]
  refine wpAnyH_ready (rs := [24]) (by kernel_rfl) (by simp) ?_
  refine AllReadyH.cons rfl (fun K hK => ?_) AllReadyH.nil
  go_simp
  go_wp2_with (go_at_call 41; refine (over_any (.node b1 nk nv nl tl) (.node b2 k v tr r) tk tv _ (ht12.old hq23) (ht23) (by (try simp only [Tr.ht]); omega)).mono ?_; rintro e y24 ⟨b3, rfl, ht24, hq24⟩)
  refine hK.out _ _ (hHeldh23.trans (hq24.mono hHeldh23.size)) (fun hHeldh24 => ?_)
  clear hK K
  try simp only [Act.put, List.setIfInBounds_toArray, List.set_cons_zero, List.set_cons_succ]
  refine wpAnyH_takeD (i := 25) (some 6) (v := ?vh25) rfl rfl (by kernel_rfl) (by kernel_rfl) (by kernel_rfl) (fun _ _ _ h => h) (Or.inl ⟨by kernel_rfl, ?hyh25⟩) (by assumption) ?resth25
  case hyh25 => (intro x hSx; (try dsimp only at hSx); go_simp; first | done | with_reducible rfl)
  try simp only [Act.put, List.setIfInBounds_toArray, List.set_cons_zero, List.set_cons_succ]
  refine wpAnyH_done (by kernel_rfl) ?_ _
  go_wp2
  go_ret
  exact ⟨.node b3 tk tv (.node b1 nk nv nl tl) (.node b2 k v tr r), rfl, ht24, by simp [Tr.toL], hbw2.trans (hHeldh24.mono (Nat.le_of_lt hsz2))⟩
set_option maxHeartbeats 8000000 in
set_option maxRecDepth 20000 in
theorem even_a1 (nb : Nat) (nk nv : ByteArray) (nl nr : Tr) (r : Tr) (k v : ByteArray) (w : World) (hl : TAt w (.node nb nk nv nl nr)) (hr : TAt w r) (hb : (Tr.node nb nk nv nl nr).ht + r.ht < 1152921504606846976) (a b c d : Int) (Ha : Hid (a = ((Tr.node nb nk nv nl nr).ht : Int))) (Hb : Hid (b = (r.ht : Int))) (Hc : Hid (c = (nl.ht : Int))) (Hd : Hid (d = (nr.ht : Int))) (ha : 0 ≤ a ∧ a < 1152921504606846976) (hb' : 0 ≤ b ∧ b < 1152921504606846976) (hm1 : decide (1 < a - b) = true) (hm3 : decide (c < d) = false) :
    Calls Try.prog 42 #[.pointer (some ⟨nb, 0, none⟩), .agg #[.string k, .string v], .pointer r.ptr] w (EvPost ((Tr.node nb nk nv nl nr).toL ++ (k, v) :: r.toL) w) := by
  have hb1 := (Below.refl w.heap.size w).alloc (Nat.le_refl _) (.cells #[.string k, .string v] 45)
  have hB1 := Blk.new w 45 #[.string k, .string v]
  have HL : Hid (∀ x, Below (w.alloc (.cells #[.string k, .string v] 45)).heap.size (w.alloc (.cells #[.string k, .string v] 45)) x → Calls Try.prog 49 #[.pointer (some ⟨nb, 0, none⟩)] x fun e w' => e = .returned (.int .i64 a) ∧ x = w') := fun x hx => by rw [Ha.out]; exact height_any _ x ((hl.old hb1).old hx)
  have HR : Hid (∀ x, Below (w.alloc (.cells #[.string k, .string v] 45)).heap.size (w.alloc (.cells #[.string k, .string v] 45)) x → Calls Try.prog 49 #[.pointer r.ptr] x fun e w' => e = .returned (.int .i64 b) ∧ x = w') := fun x hx => by rw [Hb.out]; exact height_any _ x ((hr.old hb1).old hx)
  have hTL := hl.old hb1
  have hTR := hr.old hb1
  clear hl hr
  have hsz : w.heap.size < (w.alloc (.cells #[.string k, .string v] 45)).heap.size := hB1.lt
  go_enter Try.func42, Try.ntmps42
  go_upto_region 1 with fail
  generalize (w.alloc (.cells #[.string k, .string v] 45)) = w1 at *
  go_wp2_with fail
  refine (HL.out _ (Below.refl _ _)).mono ?_
  rintro e wq ⟨rfl, rfl⟩
  go_wp2_with fail
  refine (HR.out _ (Below.refl _ _)).mono ?_
  rintro e wq ⟨rfl, rfl⟩
  clear HL HR
  have hbb := hb
  simp only [Tr.ht] at hbb
  have HC : Hid (∀ x, Below w1.heap.size w1 x → Calls Try.prog 49 #[.pointer nl.ptr] x fun e w' => e = .returned (.int .i64 c) ∧ x = w') := fun x hx => by rw [Hc.out]; exact height_any nl x (hTL.2.1.old hx)
  have HD : Hid (∀ x, Below w1.heap.size w1 x → Calls Try.prog 49 #[.pointer nr.ptr] x fun e w' => e = .returned (.int .i64 d) ∧ x = w') := fun x hx => by rw [Hd.out]; exact height_any nr x (hTL.2.2.old hx)
  have HF : Hid (∀ x, Below w1.heap.size w1 x → x.cell? ⟨nb, 2, none⟩ = some (.pointer nl.ptr) ∧ x.cell? ⟨nb, 3, none⟩ = some (.pointer nr.ptr)) := fun x hx => ⟨(hTL.old hx).cells.2.2.1, (hTL.old hx).cells.2.2.2.1⟩
  go_upto_region 2 with fail
  refine wp_region_held_drew (S := fun x => Below w1.heap.size w1 x) (by kernel_rfl) ((Below.refl _ _).drew) (fun hHeldg => ?_)
  refine wpAnyH_takeD (i := 0) (some 16) (v := ?vg0) rfl rfl (by kernel_rfl) (by kernel_rfl) (by kernel_rfl) (fun _ _ _ h => h) (Or.inl ⟨by kernel_rfl, ?hyg0⟩) (by assumption) ?restg0
  case hyg0 => (intro x hSx; (try dsimp only at hSx); go_simp; first | done | with_reducible rfl)
  try simp only [Act.put, List.setIfInBounds_toArray, List.set_cons_zero, List.set_cons_succ]
  refine wpAnyH_takeD (i := 1) (some 17) (v := .bool true) rfl rfl (by kernel_rfl) (by kernel_rfl) (by kernel_rfl) (fun _ _ _ h => h) (Or.inl ⟨by kernel_rfl, ?hyg1⟩) (by assumption) ?restg1
  case hyg1 => (intro x hSx; (try dsimp only at hSx); go_simp; first | done | with_reducible rfl)
  try simp only [Act.put, List.setIfInBounds_toArray, List.set_cons_zero, List.set_cons_succ]
  refine wpAnyH_takeD (i := 2) (some 18) (v := ?vg2) rfl rfl (by kernel_rfl) (by kernel_rfl) (by kernel_rfl) (fun _ _ _ h => h) (Or.inl ⟨by kernel_rfl, ?hyg2⟩) (by assumption) ?restg2
  case hyg2 => (intro x hSx; (try dsimp only at hSx); go_simp; first | done | with_reducible rfl)
  try simp only [Act.put, List.setIfInBounds_toArray, List.set_cons_zero, List.set_cons_succ]
  refine wpAnyH_takeD (i := 3) (some 19) (v := ?vg3) rfl rfl (by kernel_rfl) (by kernel_rfl) (by kernel_rfl) (fun _ _ _ h => h) (Or.inl ⟨by kernel_rfl, ?hyg3⟩) (by assumption) ?restg3
  case hyg3 => (intro x hSx; (try dsimp only at hSx); go_simp; first | done | with_reducible rfl)
  try simp only [Act.put, List.setIfInBounds_toArray, List.set_cons_zero, List.set_cons_succ]
  refine wpAnyH_takeD (i := 4) (some 20) (v := ?vg4) rfl rfl (by kernel_rfl) (by kernel_rfl) (by kernel_rfl) (fun _ _ _ h => h) (Or.inl ⟨by kernel_rfl, ?hyg4⟩) (by assumption) ?restg4
  case hyg4 => (intro x hSx; (try dsimp only at hSx); go_simp; first | done | with_reducible rfl)
  try simp only [Act.put, List.setIfInBounds_toArray, List.set_cons_zero, List.set_cons_succ]
  refine wpAnyH_takeD (i := 5) (some 21) (v := ?vg5) rfl rfl (by kernel_rfl) (by kernel_rfl) (by kernel_rfl) (fun _ _ _ h => h) (Or.inl ⟨by kernel_rfl, ?hyg5⟩) (by assumption) ?restg5
  case hyg5 => (intro x hSx; (try dsimp only at hSx); go_simp; first | done | with_reducible rfl)
  try simp only [Act.put, List.setIfInBounds_toArray, List.set_cons_zero, List.set_cons_succ]
  refine wpAnyH_takeD (i := 6) (some 22) (v := ?vg6) rfl rfl (by kernel_rfl) (by kernel_rfl) (by kernel_rfl) (fun _ _ _ h => h) (Or.inl ⟨by kernel_rfl, ?hyg6⟩) (by assumption) ?restg6
  case hyg6 => (intro x hSx; (try dsimp only at hSx); obtain ⟨c2, c3⟩ := HF.out x hSx; go_simp; first | done | with_reducible rfl)
  try simp only [Act.put, List.setIfInBounds_toArray, List.set_cons_zero, List.set_cons_succ]
  refine wpAnyH_takeD (i := 8) (some 24) (v := ?vg8) rfl rfl (by kernel_rfl) (by kernel_rfl) (by kernel_rfl) (fun _ _ _ h => h) (Or.inl ⟨by kernel_rfl, ?hyg8⟩) (by assumption) ?restg8
  case hyg8 => (intro x hSx; (try dsimp only at hSx); go_simp; first | done | with_reducible rfl)
  try simp only [Act.put, List.setIfInBounds_toArray, List.set_cons_zero, List.set_cons_succ]
  refine wpAnyH_takeD (i := 9) (some 25) (v := ?vg9) rfl rfl (by kernel_rfl) (by kernel_rfl) (by kernel_rfl) (fun _ _ _ h => h) (Or.inl ⟨by kernel_rfl, ?hyg9⟩) (by assumption) ?restg9
  case hyg9 => (intro x hSx; (try dsimp only at hSx); go_simp; first | done | with_reducible rfl)
  try simp only [Act.put, List.setIfInBounds_toArray, List.set_cons_zero, List.set_cons_succ]
  refine wpAnyH_takeD (i := 10) (some 26) (v := ?vg10) rfl rfl (by kernel_rfl) (by kernel_rfl) (by kernel_rfl) (fun _ _ _ h => h) (Or.inl ⟨by kernel_rfl, ?hyg10⟩) (by assumption) ?restg10
  case hyg10 => (intro x hSx; (try dsimp only at hSx); go_simp; first | done | with_reducible rfl)
  try simp only [Act.put, List.setIfInBounds_toArray, List.set_cons_zero, List.set_cons_succ]
  refine wpAnyH_takeD (i := 11) (some 27) (v := ?vg11) rfl rfl (by kernel_rfl) (by kernel_rfl) (by kernel_rfl) (fun _ _ _ h => h) (Or.inl ⟨by kernel_rfl, ?hyg11⟩) (by assumption) ?restg11
  case hyg11 => (intro x hSx; (try dsimp only at hSx); obtain ⟨c2, c3⟩ := HF.out x hSx; go_simp; first | done | with_reducible rfl)
  try simp only [Act.put, List.setIfInBounds_toArray, List.set_cons_zero, List.set_cons_succ]
  refine wpAnyH_ready (rs := [7]) (by kernel_rfl) (by simp) ?_
  refine AllReadyH.cons rfl (fun K hK => ?_) AllReadyH.nil
  go_simp
  go_wp2_with (go_at_call 49; refine (HD.out _ hHeldg).mono ?_; rintro e yg7 ⟨rfl, rfl⟩)
  refine hK.out _ _ (hHeldg) (fun hHeldg7 => ?_)
  clear hK K
  try simp only [Act.put, List.setIfInBounds_toArray, List.set_cons_zero, List.set_cons_succ]
  refine wpAnyH_ready (rs := [12]) (by kernel_rfl) (by simp) ?_
  refine AllReadyH.cons rfl (fun K hK => ?_) AllReadyH.nil
  go_simp
  go_wp2_with (go_at_call 49; refine (HC.out _ hHeldg7).mono ?_; rintro e yg12 ⟨rfl, rfl⟩)
  refine hK.out _ _ (hHeldg7) (fun hHeldg12 => ?_)
  clear hK K
  try simp only [Act.put, List.setIfInBounds_toArray, List.set_cons_zero, List.set_cons_succ]
  refine wpAnyH_takeD (i := 13) (some 29) (v := .bool false) rfl rfl (by kernel_rfl) (by kernel_rfl) (by kernel_rfl) (fun _ _ _ h => h) (Or.inl ⟨by kernel_rfl, ?hyg13⟩) (by assumption) ?restg13
  case hyg13 => (intro x hSx; (try dsimp only at hSx); go_simp; first | done | with_reducible rfl)
  try simp only [Act.put, List.setIfInBounds_toArray, List.set_cons_zero, List.set_cons_succ]
  refine wpAnyH_takeD (i := 14) (some 30) (v := ?vg14) rfl rfl (by kernel_rfl) (by kernel_rfl) (by kernel_rfl) (fun _ _ _ h => h) (Or.inl ⟨by kernel_rfl, ?hyg14⟩) (by assumption) ?restg14
  case hyg14 => (intro x hSx; (try dsimp only at hSx); go_simp; first | done | with_reducible rfl)
  try simp only [Act.put, List.setIfInBounds_toArray, List.set_cons_zero, List.set_cons_succ]
  refine wpAnyH_takeD (i := 15) (some 15) (v := ?vg15) rfl rfl (by kernel_rfl) (by kernel_rfl) (by kernel_rfl) (fun _ _ _ h => h) (Or.inl ⟨by kernel_rfl, ?hyg15⟩) (by assumption) ?restg15
  case hyg15 => (intro x hSx; (try dsimp only at hSx); go_simp; first | done | with_reducible rfl)
  try simp only [Act.put, List.setIfInBounds_toArray, List.set_cons_zero, List.set_cons_succ]
  refine wpAnyH_done (by kernel_rfl) ?_ _
  clear HC HD HF
  have hdw2 : Below w1.heap.size w1 w1.drew := (Below.refl _ _).drew
  have hTL2 := hTL.old hdw2
  have hTR2 := hTR.old hdw2
  have hB2' := hB1.old hdw2
  have hbw2 := hb1.trans (hdw2.mono (Nat.le_of_lt hsz))
  generalize w1.drew = w2 at *
  have hsz2 : w.heap.size < w2.heap.size := hB2'.lt
  clear hTL hTR hB1 hb1 hsz hdw2
  have n2 : w2.cell? ⟨nb, 2, none⟩ = some (.pointer nl.ptr) := hTL2.cells.2.2.1
  have n3 : w2.cell? ⟨nb, 3, none⟩ = some (.pointer nr.ptr) := hTL2.cells.2.2.2.1
  go_upto_region 6 with fail
  have HF : Hid (∀ x, Below w2.heap.size w2 x → x.cell? ⟨nb, 0, none⟩ = some (.string nk) ∧ x.cell? ⟨nb, 1, none⟩ = some (.string nv) ∧ x.cell? ⟨nb, 2, none⟩ = some (.pointer nl.ptr) ∧ x.cell? ⟨nb, 3, none⟩ = some (.pointer nr.ptr) ∧ x.cell? ⟨w.heap.size, 0, none⟩ = some (.string k) ∧ x.cell? ⟨w.heap.size, 1, none⟩ = some (.string v)) := fun x hx => ⟨(hTL2.old hx).cells.1, (hTL2.old hx).cells.2.1, (hTL2.old hx).cells.2.2.1, (hTL2.old hx).cells.2.2.2.1, (hB2'.old hx).c2.1, (hB2'.old hx).c2.2⟩
  go_upto_region 6 with fail
  refine wp_region_held_drew (S := fun x => Below w2.heap.size w2 x) (by kernel_rfl) ((Below.refl _ _).drew) (fun hHeldh => ?_)
  refine wpAnyH_takeD (i := 0) (some 63) (v := ?vh0) rfl rfl (by kernel_rfl) (by kernel_rfl) (by kernel_rfl) (fun _ _ _ h => h) (Or.inl ⟨by kernel_rfl, ?hyh0⟩) (by assumption) ?resth0
  case hyh0 => (intro x hSx; (try dsimp only at hSx); go_simp; first | done | with_reducible rfl)
  try simp only [Act.put, List.setIfInBounds_toArray, List.set_cons_zero, List.set_cons_succ]
  refine wpAnyH_takeD (i := 1) (some 64) (v := ?vh1) rfl rfl (by kernel_rfl) (by kernel_rfl) (by kernel_rfl) (fun _ _ _ h => h) (Or.inl ⟨by kernel_rfl, ?hyh1⟩) (by assumption) ?resth1
  case hyh1 => (intro x hSx; (try dsimp only at hSx); go_simp; first | done | with_reducible rfl)
  try simp only [Act.put, List.setIfInBounds_toArray, List.set_cons_zero, List.set_cons_succ]
  refine wpAnyH_takeD (i := 2) (some 65) (v := ?vh2) rfl rfl (by kernel_rfl) (by kernel_rfl) (by kernel_rfl) (fun _ _ _ h => h) (Or.inl ⟨by kernel_rfl, ?hyh2⟩) (by assumption) ?resth2
  case hyh2 => (intro x hSx; (try dsimp only at hSx); go_simp; first | done | with_reducible rfl)
  try simp only [Act.put, List.setIfInBounds_toArray, List.set_cons_zero, List.set_cons_succ]
  refine wpAnyH_takeD (i := 3) (some 66) (v := ?vh3) rfl rfl (by kernel_rfl) (by kernel_rfl) (by kernel_rfl) (fun _ _ _ h => h) (Or.inl ⟨by kernel_rfl, ?hyh3⟩) (by assumption) ?resth3
  case hyh3 => (intro x hSx; (try dsimp only at hSx); obtain ⟨z0, z1, z2, z3, z4, z5⟩ := HF.out x hSx; go_simp; first | done | with_reducible rfl)
  try simp only [Act.put, List.setIfInBounds_toArray, List.set_cons_zero, List.set_cons_succ]
  refine wpAnyH_takeD (i := 4) (some 67) (v := ?vh4) rfl rfl (by kernel_rfl) (by kernel_rfl) (by kernel_rfl) (fun _ _ _ h => h) (Or.inl ⟨by kernel_rfl, ?hyh4⟩) (by assumption) ?resth4
  case hyh4 => (intro x hSx; (try dsimp only at hSx); go_simp; first | done | with_reducible rfl)
  try simp only [Act.put, List.setIfInBounds_toArray, List.set_cons_zero, List.set_cons_succ]
  refine wpAnyH_takeD (i := 5) (some 68) (v := ?vh5) rfl rfl (by kernel_rfl) (by kernel_rfl) (by kernel_rfl) (fun _ _ _ h => h) (Or.inl ⟨by kernel_rfl, ?hyh5⟩) (by assumption) ?resth5
  case hyh5 => (intro x hSx; (try dsimp only at hSx); go_simp; first | done | with_reducible rfl)
  try simp only [Act.put, List.setIfInBounds_toArray, List.set_cons_zero, List.set_cons_succ]
  refine wpAnyH_takeD (i := 6) (some 69) (v := ?vh6) rfl rfl (by kernel_rfl) (by kernel_rfl) (by kernel_rfl) (fun _ _ _ h => h) (Or.inl ⟨by kernel_rfl, ?hyh6⟩) (by assumption) ?resth6
  case hyh6 => (intro x hSx; (try dsimp only at hSx); go_simp; first | done | with_reducible rfl)
  try simp only [Act.put, List.setIfInBounds_toArray, List.set_cons_zero, List.set_cons_succ]
  refine wpAnyH_takeD (i := 7) (some 70) (v := ?vh7) rfl rfl (by kernel_rfl) (by kernel_rfl) (by kernel_rfl) (fun _ _ _ h => h) (Or.inl ⟨by kernel_rfl, ?hyh7⟩) (by assumption) ?resth7
  case hyh7 => (intro x hSx; (try dsimp only at hSx); obtain ⟨z0, z1, z2, z3, z4, z5⟩ := HF.out x hSx; go_simp; first | done | with_reducible rfl)
  try simp only [Act.put, List.setIfInBounds_toArray, List.set_cons_zero, List.set_cons_succ]
  refine wpAnyH_takeD (i := 8) (some 71) (v := ?vh8) rfl rfl (by kernel_rfl) (by kernel_rfl) (by kernel_rfl) (fun _ _ _ h => h) (Or.inl ⟨by kernel_rfl, ?hyh8⟩) (by assumption) ?resth8
  case hyh8 => (intro x hSx; (try dsimp only at hSx); go_simp; first | done | with_reducible rfl)
  try simp only [Act.put, List.setIfInBounds_toArray, List.set_cons_zero, List.set_cons_succ]
  refine wpAnyH_takeD (i := 9) (some 72) (v := ?vh9) rfl rfl (by kernel_rfl) (by kernel_rfl) (by kernel_rfl) (fun _ _ _ h => h) (Or.inl ⟨by kernel_rfl, ?hyh9⟩) (by assumption) ?resth9
  case hyh9 => (intro x hSx; (try dsimp only at hSx); go_simp; first | done | with_reducible rfl)
  try simp only [Act.put, List.setIfInBounds_toArray, List.set_cons_zero, List.set_cons_succ]
  refine wpAnyH_takeD (i := 10) (some 73) (v := ?vh10) rfl rfl (by kernel_rfl) (by kernel_rfl) (by kernel_rfl) (fun _ _ _ h => h) (Or.inl ⟨by kernel_rfl, ?hyh10⟩) (by assumption) ?resth10
  case hyh10 => (intro x hSx; (try dsimp only at hSx); go_simp; first | done | with_reducible rfl)
  try simp only [Act.put, List.setIfInBounds_toArray, List.set_cons_zero, List.set_cons_succ]
  refine wpAnyH_takeD (i := 11) (some 74) (v := ?vh11) rfl rfl (by kernel_rfl) (by kernel_rfl) (by kernel_rfl) (fun _ _ _ h => h) (Or.inl ⟨by kernel_rfl, ?hyh11⟩) (by assumption) ?resth11
  case hyh11 => (intro x hSx; (try dsimp only at hSx); obtain ⟨z0, z1, z2, z3, z4, z5⟩ := HF.out x hSx; go_simp; first | done | with_reducible rfl)
  try simp only [Act.put, List.setIfInBounds_toArray, List.set_cons_zero, List.set_cons_succ]
  refine wpAnyH_takeD (i := 12) (some 75) (v := ?vh12) rfl rfl (by kernel_rfl) (by kernel_rfl) (by kernel_rfl) (fun _ _ _ h => h) (Or.inl ⟨by kernel_rfl, ?hyh12⟩) (by assumption) ?resth12
  case hyh12 => (intro x hSx; (try dsimp only at hSx); obtain ⟨z0, z1, z2, z3, z4, z5⟩ := HF.out x hSx; go_simp; first | done | with_reducible rfl)
  try simp only [Act.put, List.setIfInBounds_toArray, List.set_cons_zero, List.set_cons_succ]
  refine wpAnyH_takeD (i := 13) (some 76) (v := ?vh13) rfl rfl (by kernel_rfl) (by kernel_rfl) (by kernel_rfl) (fun _ _ _ h => h) (Or.inl ⟨by kernel_rfl, ?hyh13⟩) (by assumption) ?resth13
  case hyh13 => (intro x hSx; (try dsimp only at hSx); go_simp; first | done | with_reducible rfl)
  try simp only [Act.put, List.setIfInBounds_toArray, List.set_cons_zero, List.set_cons_succ]
  refine wpAnyH_ready (rs := [14]) (by kernel_rfl) (by simp) ?_
  refine AllReadyH.cons rfl (fun K hK => ?_) AllReadyH.nil
  go_simp
  go_wp2_with (go_at_call 41; refine (over_any nr r k v _ (hTL2.2.2.old hHeldh) (hTR2.old hHeldh) (by (try simp only [Tr.ht]); omega)).mono ?_; rintro e y14 ⟨b1, rfl, ht14, hq14⟩)
  refine hK.out _ _ (hHeldh.trans (hq14.mono hHeldh.size)) (fun hHeldh14 => ?_)
  clear hK K
  try simp only [Act.put, List.setIfInBounds_toArray, List.set_cons_zero, List.set_cons_succ]
  refine wpAnyH_ready (rs := [15]) (by kernel_rfl) (by simp) ?_
  refine AllReadyH.cons rfl (fun K hK => ?_) AllReadyH.nil
  go_simp
  go_wp2_with (go_at_call 41; refine (over_any nl (.node b1 k v nr r) nk nv _ (hTL2.2.1.old hHeldh14) (ht14) (by (try simp only [Tr.ht]); omega)).mono ?_; rintro e y15 ⟨b3, rfl, ht15, hq15⟩)
  refine hK.out _ _ (hHeldh14.trans (hq15.mono hHeldh14.size)) (fun hHeldh15 => ?_)
  clear hK K
  try simp only [Act.put, List.setIfInBounds_toArray, List.set_cons_zero, List.set_cons_succ]
  refine wpAnyH_takeD (i := 16) (some 6) (v := ?vh16) rfl rfl (by kernel_rfl) (by kernel_rfl) (by kernel_rfl) (fun _ _ _ h => h) (Or.inl ⟨by kernel_rfl, ?hyh16⟩) (by assumption) ?resth16
  case hyh16 => (intro x hSx; (try dsimp only at hSx); go_simp; first | done | with_reducible rfl)
  try simp only [Act.put, List.setIfInBounds_toArray, List.set_cons_zero, List.set_cons_succ]
  refine wpAnyH_done (by kernel_rfl) ?_ _
  go_wp2
  go_ret
  exact ⟨.node b3 nk nv nl (.node b1 k v nr r), rfl, ht15, by simp [Tr.toL], hbw2.trans (hHeldh15.mono (Nat.le_of_lt hsz2))⟩
set_option maxHeartbeats 8000000 in
set_option maxRecDepth 20000 in
theorem even_b2 (nb : Nat) (nk nv : ByteArray) (nr : Tr) (tb : Nat) (tk tv : ByteArray) (tl tr : Tr) (l : Tr) (k v : ByteArray) (w : World) (hl : TAt w l) (hr : TAt w (.node nb nk nv (.node tb tk tv tl tr) nr)) (hb : l.ht + (Tr.node nb nk nv (.node tb tk tv tl tr) nr).ht < 1152921504606846976) (a b c d : Int) (Ha : Hid (a = (l.ht : Int))) (Hb : Hid (b = ((Tr.node nb nk nv (.node tb tk tv tl tr) nr).ht : Int))) (Hc : Hid (c = ((Tr.node tb tk tv tl tr).ht : Int))) (Hd : Hid (d = (nr.ht : Int))) (ha : 0 ≤ a ∧ a < 1152921504606846976) (hb' : 0 ≤ b ∧ b < 1152921504606846976) (hm1 : decide (1 < a - b) = false) (hm2 : decide (a - b < -1) = true) (hm3 : decide (d < c) = true) :
    Calls Try.prog 42 #[.pointer l.ptr, .agg #[.string k, .string v], .pointer (some ⟨nb, 0, none⟩)] w (EvPost (l.toL ++ (k, v) :: (Tr.node nb nk nv (.node tb tk tv tl tr) nr).toL) w) := by
  have hb1 := (Below.refl w.heap.size w).alloc (Nat.le_refl _) (.cells #[.string k, .string v] 45)
  have hB1 := Blk.new w 45 #[.string k, .string v]
  have HL : Hid (∀ x, Below (w.alloc (.cells #[.string k, .string v] 45)).heap.size (w.alloc (.cells #[.string k, .string v] 45)) x → Calls Try.prog 49 #[.pointer l.ptr] x fun e w' => e = .returned (.int .i64 a) ∧ x = w') := fun x hx => by rw [Ha.out]; exact height_any _ x ((hl.old hb1).old hx)
  have HR : Hid (∀ x, Below (w.alloc (.cells #[.string k, .string v] 45)).heap.size (w.alloc (.cells #[.string k, .string v] 45)) x → Calls Try.prog 49 #[.pointer (some ⟨nb, 0, none⟩)] x fun e w' => e = .returned (.int .i64 b) ∧ x = w') := fun x hx => by rw [Hb.out]; exact height_any _ x ((hr.old hb1).old hx)
  have hTL := hl.old hb1
  have hTR := hr.old hb1
  clear hl hr
  have hsz : w.heap.size < (w.alloc (.cells #[.string k, .string v] 45)).heap.size := hB1.lt
  go_enter Try.func42, Try.ntmps42
  go_upto_region 1 with fail
  generalize (w.alloc (.cells #[.string k, .string v] 45)) = w1 at *
  go_wp2_with fail
  refine (HL.out _ (Below.refl _ _)).mono ?_
  rintro e wq ⟨rfl, rfl⟩
  go_wp2_with fail
  refine (HR.out _ (Below.refl _ _)).mono ?_
  rintro e wq ⟨rfl, rfl⟩
  clear HL HR
  have hbb := hb
  simp only [Tr.ht] at hbb
  go_upto_region 2 with fail
  go_upto_region 2 with fail
  refine wp_region_held_drew (S := fun x => Below w1.heap.size w1 x) (by kernel_rfl) ((Below.refl _ _).drew) (fun hHelds2 => ?_)
  refine wpAnyH_takeD (i := 0) (some 16) (v := ?vs20) rfl rfl (by kernel_rfl) (by kernel_rfl) (by kernel_rfl) (fun _ _ _ h => h) (Or.inl ⟨by kernel_rfl, ?hys20⟩) (by assumption) ?rests20
  case hys20 => (intro x hSx; (try dsimp only at hSx); go_simp; first | done | with_reducible rfl)
  try simp only [Act.put, List.setIfInBounds_toArray, List.set_cons_zero, List.set_cons_succ]
  refine wpAnyH_takeD (i := 1) (some 17) (v := .bool false) rfl rfl (by kernel_rfl) (by kernel_rfl) (by kernel_rfl) (fun _ _ _ h => h) (Or.inl ⟨by kernel_rfl, ?hys21⟩) (by assumption) ?rests21
  case hys21 => (intro x hSx; (try dsimp only at hSx); go_simp; first | done | with_reducible rfl)
  try simp only [Act.put, List.setIfInBounds_toArray, List.set_cons_zero, List.set_cons_succ]
  refine wpAnyH_takeD (i := 2) (some 18) (v := ?vs22) rfl rfl (by kernel_rfl) (by kernel_rfl) (by kernel_rfl) (fun _ _ _ h => h) (Or.inl ⟨by kernel_rfl, ?hys22⟩) (by assumption) ?rests22
  case hys22 => (intro x hSx; (try dsimp only at hSx); go_simp; first | done | with_reducible rfl)
  try simp only [Act.put, List.setIfInBounds_toArray, List.set_cons_zero, List.set_cons_succ]
  refine wpAnyH_takeD (i := 3) (some 19) (v := undef) rfl rfl (by kernel_rfl) (by kernel_rfl) (by kernel_rfl) (fun _ _ _ h => h) (Or.inr ⟨by kernel_rfl, rfl⟩) (by assumption) ?_
  try simp only [Act.put, List.setIfInBounds_toArray, List.set_cons_zero, List.set_cons_succ]
  refine wpAnyH_takeD (i := 4) (some 20) (v := undef) rfl rfl (by kernel_rfl) (by kernel_rfl) (by kernel_rfl) (fun _ _ _ h => h) (Or.inr ⟨by kernel_rfl, rfl⟩) (by assumption) ?_
  try simp only [Act.put, List.setIfInBounds_toArray, List.set_cons_zero, List.set_cons_succ]
  refine wpAnyH_takeD (i := 5) (some 21) (v := undef) rfl rfl (by kernel_rfl) (by kernel_rfl) (by kernel_rfl) (fun _ _ _ h => h) (Or.inr ⟨by kernel_rfl, rfl⟩) (by assumption) ?_
  try simp only [Act.put, List.setIfInBounds_toArray, List.set_cons_zero, List.set_cons_succ]
  refine wpAnyH_takeD (i := 6) (some 22) (v := undef) rfl rfl (by kernel_rfl) (by kernel_rfl) (by kernel_rfl) (fun _ _ _ h => h) (Or.inr ⟨by kernel_rfl, rfl⟩) (by assumption) ?_
  try simp only [Act.put, List.setIfInBounds_toArray, List.set_cons_zero, List.set_cons_succ]
  refine wpAnyH_takeD (i := 7) (some 23) (v := undef) rfl rfl (by kernel_rfl) (by kernel_rfl) (by kernel_rfl) (fun _ _ _ h => h) (Or.inr ⟨by kernel_rfl, rfl⟩) (by assumption) ?_
  try simp only [Act.put, List.setIfInBounds_toArray, List.set_cons_zero, List.set_cons_succ]
  refine wpAnyH_takeD (i := 8) (some 24) (v := undef) rfl rfl (by kernel_rfl) (by kernel_rfl) (by kernel_rfl) (fun _ _ _ h => h) (Or.inr ⟨by kernel_rfl, rfl⟩) (by assumption) ?_
  try simp only [Act.put, List.setIfInBounds_toArray, List.set_cons_zero, List.set_cons_succ]
  refine wpAnyH_takeD (i := 9) (some 25) (v := undef) rfl rfl (by kernel_rfl) (by kernel_rfl) (by kernel_rfl) (fun _ _ _ h => h) (Or.inr ⟨by kernel_rfl, rfl⟩) (by assumption) ?_
  try simp only [Act.put, List.setIfInBounds_toArray, List.set_cons_zero, List.set_cons_succ]
  refine wpAnyH_takeD (i := 10) (some 26) (v := undef) rfl rfl (by kernel_rfl) (by kernel_rfl) (by kernel_rfl) (fun _ _ _ h => h) (Or.inr ⟨by kernel_rfl, rfl⟩) (by assumption) ?_
  try simp only [Act.put, List.setIfInBounds_toArray, List.set_cons_zero, List.set_cons_succ]
  refine wpAnyH_takeD (i := 11) (some 27) (v := undef) rfl rfl (by kernel_rfl) (by kernel_rfl) (by kernel_rfl) (fun _ _ _ h => h) (Or.inr ⟨by kernel_rfl, rfl⟩) (by assumption) ?_
  try simp only [Act.put, List.setIfInBounds_toArray, List.set_cons_zero, List.set_cons_succ]
  refine wpAnyH_takeD (i := 12) (some 28) (v := undef) rfl rfl (by kernel_rfl) (by kernel_rfl) (by kernel_rfl) (fun _ _ _ h => h) (Or.inr ⟨by kernel_rfl, rfl⟩) (by assumption) ?_
  try simp only [Act.put, List.setIfInBounds_toArray, List.set_cons_zero, List.set_cons_succ]
  refine wpAnyH_takeD (i := 13) (some 29) (v := undef) rfl rfl (by kernel_rfl) (by kernel_rfl) (by kernel_rfl) (fun _ _ _ h => h) (Or.inr ⟨by kernel_rfl, rfl⟩) (by assumption) ?_
  try simp only [Act.put, List.setIfInBounds_toArray, List.set_cons_zero, List.set_cons_succ]
  refine wpAnyH_takeD (i := 14) (some 30) (v := ?vs214) rfl rfl (by kernel_rfl) (by kernel_rfl) (by kernel_rfl) (fun _ _ _ h => h) (Or.inl ⟨by kernel_rfl, ?hys214⟩) (by assumption) ?rests214
  case hys214 => (intro x hSx; (try dsimp only at hSx); go_simp; first | done | with_reducible rfl)
  try simp only [Act.put, List.setIfInBounds_toArray, List.set_cons_zero, List.set_cons_succ]
  refine wpAnyH_takeD (i := 15) (some 15) (v := ?vs215) rfl rfl (by kernel_rfl) (by kernel_rfl) (by kernel_rfl) (fun _ _ _ h => h) (Or.inl ⟨by kernel_rfl, ?hys215⟩) (by assumption) ?rests215
  case hys215 => (intro x hSx; (try dsimp only at hSx); go_simp; first | done | with_reducible rfl)
  try simp only [Act.put, List.setIfInBounds_toArray, List.set_cons_zero, List.set_cons_succ]
  refine wpAnyH_done (by kernel_rfl) ?_ _
  have hdw2 : Below w1.heap.size w1 w1.drew := (Below.refl _ _).drew
  have hTL2 := hTL.old hdw2
  have hTR2 := hTR.old hdw2
  have hB2' := hB1.old hdw2
  have hbw2 := hb1.trans (hdw2.mono (Nat.le_of_lt hsz))
  generalize w1.drew = w2 at *
  have hsz2 : w.heap.size < w2.heap.size := hB2'.lt
  clear hTL hTR hB1 hb1 hsz hdw2
  have HC : Hid (∀ x, Below w2.heap.size w2 x → Calls Try.prog 49 #[.pointer (some ⟨tb, 0, none⟩)] x fun e w' => e = .returned (.int .i64 c) ∧ x = w') := fun x hx => by rw [Hc.out]; exact height_any (.node tb tk tv tl tr) x (hTR2.2.1.old hx)
  have HD : Hid (∀ x, Below w2.heap.size w2 x → Calls Try.prog 49 #[.pointer nr.ptr] x fun e w' => e = .returned (.int .i64 d) ∧ x = w') := fun x hx => by rw [Hd.out]; exact height_any nr x (hTR2.2.2.old hx)
  have HF : Hid (∀ x, Below w2.heap.size w2 x → x.cell? ⟨nb, 2, none⟩ = some (.pointer (some ⟨tb, 0, none⟩)) ∧ x.cell? ⟨nb, 3, none⟩ = some (.pointer nr.ptr)) := fun x hx => ⟨(hTR2.old hx).cells.2.2.1, (hTR2.old hx).cells.2.2.2.1⟩
  go_upto_region 7 with fail
  refine wp_region_held_drew (S := fun x => Below w2.heap.size w2 x) (by kernel_rfl) ((Below.refl _ _).drew) (fun hHeldg => ?_)
  refine wpAnyH_takeD (i := 0) (some 80) (v := ?vg0) rfl rfl (by kernel_rfl) (by kernel_rfl) (by kernel_rfl) (fun _ _ _ h => h) (Or.inl ⟨by kernel_rfl, ?hyg0⟩) (by assumption) ?restg0
  case hyg0 => (intro x hSx; (try dsimp only at hSx); go_simp; first | done | with_reducible rfl)
  try simp only [Act.put, List.setIfInBounds_toArray, List.set_cons_zero, List.set_cons_succ]
  refine wpAnyH_takeD (i := 1) (some 81) (v := .bool true) rfl rfl (by kernel_rfl) (by kernel_rfl) (by kernel_rfl) (fun _ _ _ h => h) (Or.inl ⟨by kernel_rfl, ?hyg1⟩) (by assumption) ?restg1
  case hyg1 => (intro x hSx; (try dsimp only at hSx); go_simp; first | done | with_reducible rfl)
  try simp only [Act.put, List.setIfInBounds_toArray, List.set_cons_zero, List.set_cons_succ]
  refine wpAnyH_takeD (i := 2) (some 82) (v := ?vg2) rfl rfl (by kernel_rfl) (by kernel_rfl) (by kernel_rfl) (fun _ _ _ h => h) (Or.inl ⟨by kernel_rfl, ?hyg2⟩) (by assumption) ?restg2
  case hyg2 => (intro x hSx; (try dsimp only at hSx); go_simp; first | done | with_reducible rfl)
  try simp only [Act.put, List.setIfInBounds_toArray, List.set_cons_zero, List.set_cons_succ]
  refine wpAnyH_takeD (i := 3) (some 83) (v := ?vg3) rfl rfl (by kernel_rfl) (by kernel_rfl) (by kernel_rfl) (fun _ _ _ h => h) (Or.inl ⟨by kernel_rfl, ?hyg3⟩) (by assumption) ?restg3
  case hyg3 => (intro x hSx; (try dsimp only at hSx); go_simp; first | done | with_reducible rfl)
  try simp only [Act.put, List.setIfInBounds_toArray, List.set_cons_zero, List.set_cons_succ]
  refine wpAnyH_takeD (i := 4) (some 84) (v := ?vg4) rfl rfl (by kernel_rfl) (by kernel_rfl) (by kernel_rfl) (fun _ _ _ h => h) (Or.inl ⟨by kernel_rfl, ?hyg4⟩) (by assumption) ?restg4
  case hyg4 => (intro x hSx; (try dsimp only at hSx); go_simp; first | done | with_reducible rfl)
  try simp only [Act.put, List.setIfInBounds_toArray, List.set_cons_zero, List.set_cons_succ]
  refine wpAnyH_takeD (i := 5) (some 85) (v := ?vg5) rfl rfl (by kernel_rfl) (by kernel_rfl) (by kernel_rfl) (fun _ _ _ h => h) (Or.inl ⟨by kernel_rfl, ?hyg5⟩) (by assumption) ?restg5
  case hyg5 => (intro x hSx; (try dsimp only at hSx); go_simp; first | done | with_reducible rfl)
  try simp only [Act.put, List.setIfInBounds_toArray, List.set_cons_zero, List.set_cons_succ]
  refine wpAnyH_takeD (i := 6) (some 86) (v := ?vg6) rfl rfl (by kernel_rfl) (by kernel_rfl) (by kernel_rfl) (fun _ _ _ h => h) (Or.inl ⟨by kernel_rfl, ?hyg6⟩) (by assumption) ?restg6
  case hyg6 => (intro x hSx; (try dsimp only at hSx); obtain ⟨c2, c3⟩ := HF.out x hSx; go_simp; first | done | with_reducible rfl)
  try simp only [Act.put, List.setIfInBounds_toArray, List.set_cons_zero, List.set_cons_succ]
  refine wpAnyH_takeD (i := 8) (some 88) (v := ?vg8) rfl rfl (by kernel_rfl) (by kernel_rfl) (by kernel_rfl) (fun _ _ _ h => h) (Or.inl ⟨by kernel_rfl, ?hyg8⟩) (by assumption) ?restg8
  case hyg8 => (intro x hSx; (try dsimp only at hSx); go_simp; first | done | with_reducible rfl)
  try simp only [Act.put, List.setIfInBounds_toArray, List.set_cons_zero, List.set_cons_succ]
  refine wpAnyH_takeD (i := 9) (some 89) (v := ?vg9) rfl rfl (by kernel_rfl) (by kernel_rfl) (by kernel_rfl) (fun _ _ _ h => h) (Or.inl ⟨by kernel_rfl, ?hyg9⟩) (by assumption) ?restg9
  case hyg9 => (intro x hSx; (try dsimp only at hSx); go_simp; first | done | with_reducible rfl)
  try simp only [Act.put, List.setIfInBounds_toArray, List.set_cons_zero, List.set_cons_succ]
  refine wpAnyH_takeD (i := 10) (some 90) (v := ?vg10) rfl rfl (by kernel_rfl) (by kernel_rfl) (by kernel_rfl) (fun _ _ _ h => h) (Or.inl ⟨by kernel_rfl, ?hyg10⟩) (by assumption) ?restg10
  case hyg10 => (intro x hSx; (try dsimp only at hSx); go_simp; first | done | with_reducible rfl)
  try simp only [Act.put, List.setIfInBounds_toArray, List.set_cons_zero, List.set_cons_succ]
  refine wpAnyH_takeD (i := 11) (some 91) (v := ?vg11) rfl rfl (by kernel_rfl) (by kernel_rfl) (by kernel_rfl) (fun _ _ _ h => h) (Or.inl ⟨by kernel_rfl, ?hyg11⟩) (by assumption) ?restg11
  case hyg11 => (intro x hSx; (try dsimp only at hSx); obtain ⟨c2, c3⟩ := HF.out x hSx; go_simp; first | done | with_reducible rfl)
  try simp only [Act.put, List.setIfInBounds_toArray, List.set_cons_zero, List.set_cons_succ]
  refine wpAnyH_ready (rs := [7]) (by kernel_rfl) (by simp) ?_
  refine AllReadyH.cons rfl (fun K hK => ?_) AllReadyH.nil
  go_simp
  go_wp2_with (go_at_call 49; refine (HC.out _ hHeldg).mono ?_; rintro e yg7 ⟨rfl, rfl⟩)
  refine hK.out _ _ (hHeldg) (fun hHeldg7 => ?_)
  clear hK K
  try simp only [Act.put, List.setIfInBounds_toArray, List.set_cons_zero, List.set_cons_succ]
  refine wpAnyH_ready (rs := [12]) (by kernel_rfl) (by simp) ?_
  refine AllReadyH.cons rfl (fun K hK => ?_) AllReadyH.nil
  go_simp
  go_wp2_with (go_at_call 49; refine (HD.out _ hHeldg7).mono ?_; rintro e yg12 ⟨rfl, rfl⟩)
  refine hK.out _ _ (hHeldg7) (fun hHeldg12 => ?_)
  clear hK K
  try simp only [Act.put, List.setIfInBounds_toArray, List.set_cons_zero, List.set_cons_succ]
  refine wpAnyH_takeD (i := 13) (some 93) (v := .bool true) rfl rfl (by kernel_rfl) (by kernel_rfl) (by kernel_rfl) (fun _ _ _ h => h) (Or.inl ⟨by kernel_rfl, ?hyg13⟩) (by assumption) ?restg13
  case hyg13 => (intro x hSx; (try dsimp only at hSx); go_simp; first | done | with_reducible rfl)
  try simp only [Act.put, List.setIfInBounds_toArray, List.set_cons_zero, List.set_cons_succ]
  refine wpAnyH_takeD (i := 14) (some 94) (v := ?vg14) rfl rfl (by kernel_rfl) (by kernel_rfl) (by kernel_rfl) (fun _ _ _ h => h) (Or.inl ⟨by kernel_rfl, ?hyg14⟩) (by assumption) ?restg14
  case hyg14 => (intro x hSx; (try dsimp only at hSx); go_simp; first | done | with_reducible rfl)
  try simp only [Act.put, List.setIfInBounds_toArray, List.set_cons_zero, List.set_cons_succ]
  refine wpAnyH_takeD (i := 15) (some 79) (v := ?vg15) rfl rfl (by kernel_rfl) (by kernel_rfl) (by kernel_rfl) (fun _ _ _ h => h) (Or.inl ⟨by kernel_rfl, ?hyg15⟩) (by assumption) ?restg15
  case hyg15 => (intro x hSx; (try dsimp only at hSx); go_simp; first | done | with_reducible rfl)
  try simp only [Act.put, List.setIfInBounds_toArray, List.set_cons_zero, List.set_cons_succ]
  refine wpAnyH_done (by kernel_rfl) ?_ _
  clear HC HD HF
  have hdw3 : Below w2.heap.size w2 w2.drew := (Below.refl _ _).drew
  have hTL3 := hTL2.old hdw3
  have hTR3 := hTR2.old hdw3
  have hB3' := hB2'.old hdw3
  have hbw3 := hbw2.trans (hdw3.mono (Nat.le_of_lt hsz2))
  generalize w2.drew = w3 at *
  have hsz3 : w.heap.size < w3.heap.size := hB3'.lt
  clear hTL2 hTR2 hB2' hbw2 hsz2 hdw3
  have n2 : w3.cell? ⟨nb, 2, none⟩ = some (.pointer (some ⟨tb, 0, none⟩)) := hTR3.cells.2.2.1
  have n3 : w3.cell? ⟨nb, 3, none⟩ = some (.pointer nr.ptr) := hTR3.cells.2.2.2.1
  go_upto_region 9 with fail
  have HF : Hid (∀ x, Below w3.heap.size w3 x → x.cell? ⟨nb, 0, none⟩ = some (.string nk) ∧ x.cell? ⟨nb, 1, none⟩ = some (.string nv) ∧ x.cell? ⟨nb, 2, none⟩ = some (.pointer (some ⟨tb, 0, none⟩)) ∧ x.cell? ⟨nb, 3, none⟩ = some (.pointer nr.ptr) ∧ x.cell? ⟨w.heap.size, 0, none⟩ = some (.string k) ∧ x.cell? ⟨w.heap.size, 1, none⟩ = some (.string v) ∧ x.cell? ⟨tb, 0, none⟩ = some (.string tk) ∧ x.cell? ⟨tb, 1, none⟩ = some (.string tv) ∧ x.cell? ⟨tb, 2, none⟩ = some (.pointer tl.ptr) ∧ x.cell? ⟨tb, 3, none⟩ = some (.pointer tr.ptr)) := fun x hx => ⟨(hTR3.old hx).cells.1, (hTR3.old hx).cells.2.1, (hTR3.old hx).cells.2.2.1, (hTR3.old hx).cells.2.2.2.1, (hB3'.old hx).c2.1, (hB3'.old hx).c2.2, (hTR3.2.1.old hx).cells.1, (hTR3.2.1.old hx).cells.2.1, (hTR3.2.1.old hx).cells.2.2.1, (hTR3.2.1.old hx).cells.2.2.2.1⟩
  go_upto_region 9 with fail
  refine wp_region_held_drew (S := fun x => Below w3.heap.size w3 x) (by kernel_rfl) ((Below.refl _ _).drew) (fun hHeldh => ?_)
  refine wpAnyH_takeD (i := 0) (some 99) (v := ?vh0) rfl rfl (by kernel_rfl) (by kernel_rfl) (by kernel_rfl) (fun _ _ _ h => h) (Or.inl ⟨by kernel_rfl, ?hyh0⟩) (by assumption) ?resth0
  case hyh0 => (intro x hSx; (try dsimp only at hSx); go_simp; first | done | with_reducible rfl)
  try simp only [Act.put, List.setIfInBounds_toArray, List.set_cons_zero, List.set_cons_succ]
  refine wpAnyH_takeD (i := 1) (some 100) (v := ?vh1) rfl rfl (by kernel_rfl) (by kernel_rfl) (by kernel_rfl) (fun _ _ _ h => h) (Or.inl ⟨by kernel_rfl, ?hyh1⟩) (by assumption) ?resth1
  case hyh1 => (intro x hSx; (try dsimp only at hSx); obtain ⟨z0, z1, z2, z3, z4, z5, z6, z7, z8, z9⟩ := HF.out x hSx; go_simp; first | done | with_reducible rfl)
  try simp only [Act.put, List.setIfInBounds_toArray, List.set_cons_zero, List.set_cons_succ]
  refine wpAnyH_takeD (i := 2) (some 101) (v := ?vh2) rfl rfl (by kernel_rfl) (by kernel_rfl) (by kernel_rfl) (fun _ _ _ h => h) (Or.inl ⟨by kernel_rfl, ?hyh2⟩) (by assumption) ?resth2
  case hyh2 => (intro x hSx; (try dsimp only at hSx); go_simp; first | done | with_reducible rfl)
  try simp only [Act.put, List.setIfInBounds_toArray, List.set_cons_zero, List.set_cons_succ]
  refine wpAnyH_takeD (i := 3) (some 102) (v := ?vh3) rfl rfl (by kernel_rfl) (by kernel_rfl) (by kernel_rfl) (fun _ _ _ h => h) (Or.inl ⟨by kernel_rfl, ?hyh3⟩) (by assumption) ?resth3
  case hyh3 => (intro x hSx; (try dsimp only at hSx); go_simp; first | done | with_reducible rfl)
  try simp only [Act.put, List.setIfInBounds_toArray, List.set_cons_zero, List.set_cons_succ]
  refine wpAnyH_takeD (i := 4) (some 103) (v := ?vh4) rfl rfl (by kernel_rfl) (by kernel_rfl) (by kernel_rfl) (fun _ _ _ h => h) (Or.inl ⟨by kernel_rfl, ?hyh4⟩) (by assumption) ?resth4
  case hyh4 => (intro x hSx; (try dsimp only at hSx); go_simp; first | done | with_reducible rfl)
  try simp only [Act.put, List.setIfInBounds_toArray, List.set_cons_zero, List.set_cons_succ]
  refine wpAnyH_takeD (i := 5) (some 104) (v := ?vh5) rfl rfl (by kernel_rfl) (by kernel_rfl) (by kernel_rfl) (fun _ _ _ h => h) (Or.inl ⟨by kernel_rfl, ?hyh5⟩) (by assumption) ?resth5
  case hyh5 => (intro x hSx; (try dsimp only at hSx); obtain ⟨z0, z1, z2, z3, z4, z5, z6, z7, z8, z9⟩ := HF.out x hSx; go_simp; first | done | with_reducible rfl)
  try simp only [Act.put, List.setIfInBounds_toArray, List.set_cons_zero, List.set_cons_succ]
  refine wpAnyH_takeD (i := 7) (some 106) (v := ?vh7) rfl rfl (by kernel_rfl) (by kernel_rfl) (by kernel_rfl) (fun _ _ _ h => h) (Or.inl ⟨by kernel_rfl, ?hyh7⟩) (by assumption) ?resth7
  case hyh7 => (intro x hSx; (try dsimp only at hSx); go_simp; first | done | with_reducible rfl)
  try simp only [Act.put, List.setIfInBounds_toArray, List.set_cons_zero, List.set_cons_succ]
  refine wpAnyH_takeD (i := 8) (some 107) (v := ?vh8) rfl rfl (by kernel_rfl) (by kernel_rfl) (by kernel_rfl) (fun _ _ _ h => h) (Or.inl ⟨by kernel_rfl, ?hyh8⟩) (by assumption) ?resth8
  case hyh8 => (intro x hSx; (try dsimp only at hSx); go_simp; first | done | with_reducible rfl)
  try simp only [Act.put, List.setIfInBounds_toArray, List.set_cons_zero, List.set_cons_succ]
  refine wpAnyH_takeD (i := 9) (some 108) (v := ?vh9) rfl rfl (by kernel_rfl) (by kernel_rfl) (by kernel_rfl) (fun _ _ _ h => h) (Or.inl ⟨by kernel_rfl, ?hyh9⟩) (by assumption) ?resth9
  case hyh9 => (intro x hSx; (try dsimp only at hSx); go_simp; first | done | with_reducible rfl)
  try simp only [Act.put, List.setIfInBounds_toArray, List.set_cons_zero, List.set_cons_succ]
  refine wpAnyH_takeD (i := 10) (some 109) (v := ?vh10) rfl rfl (by kernel_rfl) (by kernel_rfl) (by kernel_rfl) (fun _ _ _ h => h) (Or.inl ⟨by kernel_rfl, ?hyh10⟩) (by assumption) ?resth10
  case hyh10 => (intro x hSx; (try dsimp only at hSx); obtain ⟨z0, z1, z2, z3, z4, z5, z6, z7, z8, z9⟩ := HF.out x hSx; go_simp; first | done | with_reducible rfl)
  try simp only [Act.put, List.setIfInBounds_toArray, List.set_cons_zero, List.set_cons_succ]
  refine wpAnyH_takeD (i := 11) (some 110) (v := ?vh11) rfl rfl (by kernel_rfl) (by kernel_rfl) (by kernel_rfl) (fun _ _ _ h => h) (Or.inl ⟨by kernel_rfl, ?hyh11⟩) (by assumption) ?resth11
  case hyh11 => (intro x hSx; (try dsimp only at hSx); go_simp; first | done | with_reducible rfl)
  try simp only [Act.put, List.setIfInBounds_toArray, List.set_cons_zero, List.set_cons_succ]
  refine wpAnyH_takeD (i := 12) (some 111) (v := ?vh12) rfl rfl (by kernel_rfl) (by kernel_rfl) (by kernel_rfl) (fun _ _ _ h => h) (Or.inl ⟨by kernel_rfl, ?hyh12⟩) (by assumption) ?resth12
  case hyh12 => (intro x hSx; (try dsimp only at hSx); go_simp; first | done | with_reducible rfl)
  try simp only [Act.put, List.setIfInBounds_toArray, List.set_cons_zero, List.set_cons_succ]
  refine wpAnyH_takeD (i := 13) (some 112) (v := ?vh13) rfl rfl (by kernel_rfl) (by kernel_rfl) (by kernel_rfl) (fun _ _ _ h => h) (Or.inl ⟨by kernel_rfl, ?hyh13⟩) (by assumption) ?resth13
  case hyh13 => (intro x hSx; (try dsimp only at hSx); go_simp; first | done | with_reducible rfl)
  try simp only [Act.put, List.setIfInBounds_toArray, List.set_cons_zero, List.set_cons_succ]
  refine wpAnyH_takeD (i := 14) (some 113) (v := ?vh14) rfl rfl (by kernel_rfl) (by kernel_rfl) (by kernel_rfl) (fun _ _ _ h => h) (Or.inl ⟨by kernel_rfl, ?hyh14⟩) (by assumption) ?resth14
  case hyh14 => (intro x hSx; (try dsimp only at hSx); obtain ⟨z0, z1, z2, z3, z4, z5, z6, z7, z8, z9⟩ := HF.out x hSx; go_simp; first | done | with_reducible rfl)
  try simp only [Act.put, List.setIfInBounds_toArray, List.set_cons_zero, List.set_cons_succ]
  refine wpAnyH_takeD (i := 15) (some 114) (v := ?vh15) rfl rfl (by kernel_rfl) (by kernel_rfl) (by kernel_rfl) (fun _ _ _ h => h) (Or.inl ⟨by kernel_rfl, ?hyh15⟩) (by assumption) ?resth15
  case hyh15 => (intro x hSx; (try dsimp only at hSx); go_simp; first | done | with_reducible rfl)
  try simp only [Act.put, List.setIfInBounds_toArray, List.set_cons_zero, List.set_cons_succ]
  refine wpAnyH_takeD (i := 16) (some 115) (v := ?vh16) rfl rfl (by kernel_rfl) (by kernel_rfl) (by kernel_rfl) (fun _ _ _ h => h) (Or.inl ⟨by kernel_rfl, ?hyh16⟩) (by assumption) ?resth16
  case hyh16 => (intro x hSx; (try dsimp only at hSx); go_simp; first | done | with_reducible rfl)
  try simp only [Act.put, List.setIfInBounds_toArray, List.set_cons_zero, List.set_cons_succ]
  refine wpAnyH_takeD (i := 17) (some 116) (v := ?vh17) rfl rfl (by kernel_rfl) (by kernel_rfl) (by kernel_rfl) (fun _ _ _ h => h) (Or.inl ⟨by kernel_rfl, ?hyh17⟩) (by assumption) ?resth17
  case hyh17 => (intro x hSx; (try dsimp only at hSx); go_simp; first | done | with_reducible rfl)
  try simp only [Act.put, List.setIfInBounds_toArray, List.set_cons_zero, List.set_cons_succ]
  refine wpAnyH_takeD (i := 18) (some 117) (v := ?vh18) rfl rfl (by kernel_rfl) (by kernel_rfl) (by kernel_rfl) (fun _ _ _ h => h) (Or.inl ⟨by kernel_rfl, ?hyh18⟩) (by assumption) ?resth18
  case hyh18 => (intro x hSx; (try dsimp only at hSx); obtain ⟨z0, z1, z2, z3, z4, z5, z6, z7, z8, z9⟩ := HF.out x hSx; go_simp; first | done | with_reducible rfl)
  try simp only [Act.put, List.setIfInBounds_toArray, List.set_cons_zero, List.set_cons_succ]
  refine wpAnyH_takeD (i := 19) (some 118) (v := ?vh19) rfl rfl (by kernel_rfl) (by kernel_rfl) (by kernel_rfl) (fun _ _ _ h => h) (Or.inl ⟨by kernel_rfl, ?hyh19⟩) (by assumption) ?resth19
  case hyh19 => (intro x hSx; (try dsimp only at hSx); go_simp; first | done | with_reducible rfl)
  try simp only [Act.put, List.setIfInBounds_toArray, List.set_cons_zero, List.set_cons_succ]
  refine wpAnyH_takeD (i := 20) (some 119) (v := ?vh20) rfl rfl (by kernel_rfl) (by kernel_rfl) (by kernel_rfl) (fun _ _ _ h => h) (Or.inl ⟨by kernel_rfl, ?hyh20⟩) (by assumption) ?resth20
  case hyh20 => (intro x hSx; (try dsimp only at hSx); go_simp; first | done | with_reducible rfl)
  try simp only [Act.put, List.setIfInBounds_toArray, List.set_cons_zero, List.set_cons_succ]
  refine wpAnyH_takeD (i := 21) (some 120) (v := ?vh21) rfl rfl (by kernel_rfl) (by kernel_rfl) (by kernel_rfl) (fun _ _ _ h => h) (Or.inl ⟨by kernel_rfl, ?hyh21⟩) (by assumption) ?resth21
  case hyh21 => (intro x hSx; (try dsimp only at hSx); go_simp; first | done | with_reducible rfl)
  try simp only [Act.put, List.setIfInBounds_toArray, List.set_cons_zero, List.set_cons_succ]
  refine wpAnyH_takeD (i := 22) (some 121) (v := ?vh22) rfl rfl (by kernel_rfl) (by kernel_rfl) (by kernel_rfl) (fun _ _ _ h => h) (Or.inl ⟨by kernel_rfl, ?hyh22⟩) (by assumption) ?resth22
  case hyh22 => (intro x hSx; (try dsimp only at hSx); obtain ⟨z0, z1, z2, z3, z4, z5, z6, z7, z8, z9⟩ := HF.out x hSx; go_simp; first | done | with_reducible rfl)
  try simp only [Act.put, List.setIfInBounds_toArray, List.set_cons_zero, List.set_cons_succ]
  refine wpAnyH_ready (rs := [6]) (by kernel_rfl) (by simp) ?_
  refine AllReadyH.cons rfl (fun K hK => ?_) AllReadyH.nil
  go_simp
  go_wp2_with (go_at_call 41; refine (over_any l tl k v _ (hTL3.old hHeldh) (hTR3.2.1.2.1.old hHeldh) (by (try simp only [Tr.ht]); omega)).mono ?_; rintro e y6 ⟨b1, rfl, ht6, hq6⟩)
  refine hK.out _ _ (hHeldh.trans (hq6.mono hHeldh.size)) (fun hHeldh6 => ?_)
  clear hK K
  try simp only [Act.put, List.setIfInBounds_toArray, List.set_cons_zero, List.set_cons_succ]
  refine wpAnyH_ready (rs := [23]) (by kernel_rfl) (by simp) ?_
  refine AllReadyH.cons rfl (fun K hK => ?_) AllReadyH.nil
  go_simp
  go_wp2_with (go_at_call 41; refine (over_any tr nr nk nv _ (hTR3.2.1.2.2.old hHeldh6) (hTR3.2.2.old hHeldh6) (by (try simp only [Tr.ht]); omega)).mono ?_; rintro e y23 ⟨b2, rfl, ht23, hq23⟩)
  refine hK.out _ _ (hHeldh6.trans (hq23.mono hHeldh6.size)) (fun hHeldh23 => ?_)
  clear hK K
  try simp only [Act.put, List.setIfInBounds_toArray, List.set_cons_zero, List.set_cons_succ]
  refine wpAnyH_ready (rs := [24]) (by kernel_rfl) (by simp) ?_
  refine AllReadyH.cons rfl (fun K hK => ?_) AllReadyH.nil
  go_simp
  go_wp2_with (go_at_call 41; refine (over_any (.node b1 k v l tl) (.node b2 nk nv tr nr) tk tv _ (ht6.old hq23) (ht23) (by (try simp only [Tr.ht]); omega)).mono ?_; rintro e y24 ⟨b3, rfl, ht24, hq24⟩)
  refine hK.out _ _ (hHeldh23.trans (hq24.mono hHeldh23.size)) (fun hHeldh24 => ?_)
  clear hK K
  try simp only [Act.put, List.setIfInBounds_toArray, List.set_cons_zero, List.set_cons_succ]
  refine wpAnyH_takeD (i := 25) (some 6) (v := ?vh25) rfl rfl (by kernel_rfl) (by kernel_rfl) (by kernel_rfl) (fun _ _ _ h => h) (Or.inl ⟨by kernel_rfl, ?hyh25⟩) (by assumption) ?resth25
  case hyh25 => (intro x hSx; (try dsimp only at hSx); go_simp; first | done | with_reducible rfl)
  try simp only [Act.put, List.setIfInBounds_toArray, List.set_cons_zero, List.set_cons_succ]
  refine wpAnyH_done (by kernel_rfl) ?_ _
  go_wp2
  go_ret
  exact ⟨.node b3 tk tv (.node b1 k v l tl) (.node b2 nk nv tr nr), rfl, ht24, by simp [Tr.toL], hbw3.trans (hHeldh24.mono (Nat.le_of_lt hsz3))⟩
set_option maxHeartbeats 8000000 in
set_option maxRecDepth 20000 in
theorem even_b1 (nb : Nat) (nk nv : ByteArray) (nl nr : Tr) (l : Tr) (k v : ByteArray) (w : World) (hl : TAt w l) (hr : TAt w (.node nb nk nv nl nr)) (hb : l.ht + (Tr.node nb nk nv nl nr).ht < 1152921504606846976) (a b c d : Int) (Ha : Hid (a = (l.ht : Int))) (Hb : Hid (b = ((Tr.node nb nk nv nl nr).ht : Int))) (Hc : Hid (c = (nl.ht : Int))) (Hd : Hid (d = (nr.ht : Int))) (ha : 0 ≤ a ∧ a < 1152921504606846976) (hb' : 0 ≤ b ∧ b < 1152921504606846976) (hm1 : decide (1 < a - b) = false) (hm2 : decide (a - b < -1) = true) (hm3 : decide (d < c) = false) :
    Calls Try.prog 42 #[.pointer l.ptr, .agg #[.string k, .string v], .pointer (some ⟨nb, 0, none⟩)] w (EvPost (l.toL ++ (k, v) :: (Tr.node nb nk nv nl nr).toL) w) := by
  have hb1 := (Below.refl w.heap.size w).alloc (Nat.le_refl _) (.cells #[.string k, .string v] 45)
  have hB1 := Blk.new w 45 #[.string k, .string v]
  have HL : Hid (∀ x, Below (w.alloc (.cells #[.string k, .string v] 45)).heap.size (w.alloc (.cells #[.string k, .string v] 45)) x → Calls Try.prog 49 #[.pointer l.ptr] x fun e w' => e = .returned (.int .i64 a) ∧ x = w') := fun x hx => by rw [Ha.out]; exact height_any _ x ((hl.old hb1).old hx)
  have HR : Hid (∀ x, Below (w.alloc (.cells #[.string k, .string v] 45)).heap.size (w.alloc (.cells #[.string k, .string v] 45)) x → Calls Try.prog 49 #[.pointer (some ⟨nb, 0, none⟩)] x fun e w' => e = .returned (.int .i64 b) ∧ x = w') := fun x hx => by rw [Hb.out]; exact height_any _ x ((hr.old hb1).old hx)
  have hTL := hl.old hb1
  have hTR := hr.old hb1
  clear hl hr
  have hsz : w.heap.size < (w.alloc (.cells #[.string k, .string v] 45)).heap.size := hB1.lt
  go_enter Try.func42, Try.ntmps42
  go_upto_region 1 with fail
  generalize (w.alloc (.cells #[.string k, .string v] 45)) = w1 at *
  go_wp2_with fail
  refine (HL.out _ (Below.refl _ _)).mono ?_
  rintro e wq ⟨rfl, rfl⟩
  go_wp2_with fail
  refine (HR.out _ (Below.refl _ _)).mono ?_
  rintro e wq ⟨rfl, rfl⟩
  clear HL HR
  have hbb := hb
  simp only [Tr.ht] at hbb
  go_upto_region 2 with fail
  go_upto_region 2 with fail
  refine wp_region_held_drew (S := fun x => Below w1.heap.size w1 x) (by kernel_rfl) ((Below.refl _ _).drew) (fun hHelds2 => ?_)
  refine wpAnyH_takeD (i := 0) (some 16) (v := ?vs20) rfl rfl (by kernel_rfl) (by kernel_rfl) (by kernel_rfl) (fun _ _ _ h => h) (Or.inl ⟨by kernel_rfl, ?hys20⟩) (by assumption) ?rests20
  case hys20 => (intro x hSx; (try dsimp only at hSx); go_simp; first | done | with_reducible rfl)
  try simp only [Act.put, List.setIfInBounds_toArray, List.set_cons_zero, List.set_cons_succ]
  refine wpAnyH_takeD (i := 1) (some 17) (v := .bool false) rfl rfl (by kernel_rfl) (by kernel_rfl) (by kernel_rfl) (fun _ _ _ h => h) (Or.inl ⟨by kernel_rfl, ?hys21⟩) (by assumption) ?rests21
  case hys21 => (intro x hSx; (try dsimp only at hSx); go_simp; first | done | with_reducible rfl)
  try simp only [Act.put, List.setIfInBounds_toArray, List.set_cons_zero, List.set_cons_succ]
  refine wpAnyH_takeD (i := 2) (some 18) (v := ?vs22) rfl rfl (by kernel_rfl) (by kernel_rfl) (by kernel_rfl) (fun _ _ _ h => h) (Or.inl ⟨by kernel_rfl, ?hys22⟩) (by assumption) ?rests22
  case hys22 => (intro x hSx; (try dsimp only at hSx); go_simp; first | done | with_reducible rfl)
  try simp only [Act.put, List.setIfInBounds_toArray, List.set_cons_zero, List.set_cons_succ]
  refine wpAnyH_takeD (i := 3) (some 19) (v := undef) rfl rfl (by kernel_rfl) (by kernel_rfl) (by kernel_rfl) (fun _ _ _ h => h) (Or.inr ⟨by kernel_rfl, rfl⟩) (by assumption) ?_
  try simp only [Act.put, List.setIfInBounds_toArray, List.set_cons_zero, List.set_cons_succ]
  refine wpAnyH_takeD (i := 4) (some 20) (v := undef) rfl rfl (by kernel_rfl) (by kernel_rfl) (by kernel_rfl) (fun _ _ _ h => h) (Or.inr ⟨by kernel_rfl, rfl⟩) (by assumption) ?_
  try simp only [Act.put, List.setIfInBounds_toArray, List.set_cons_zero, List.set_cons_succ]
  refine wpAnyH_takeD (i := 5) (some 21) (v := undef) rfl rfl (by kernel_rfl) (by kernel_rfl) (by kernel_rfl) (fun _ _ _ h => h) (Or.inr ⟨by kernel_rfl, rfl⟩) (by assumption) ?_
  try simp only [Act.put, List.setIfInBounds_toArray, List.set_cons_zero, List.set_cons_succ]
  refine wpAnyH_takeD (i := 6) (some 22) (v := undef) rfl rfl (by kernel_rfl) (by kernel_rfl) (by kernel_rfl) (fun _ _ _ h => h) (Or.inr ⟨by kernel_rfl, rfl⟩) (by assumption) ?_
  try simp only [Act.put, List.setIfInBounds_toArray, List.set_cons_zero, List.set_cons_succ]
  refine wpAnyH_takeD (i := 7) (some 23) (v := undef) rfl rfl (by kernel_rfl) (by kernel_rfl) (by kernel_rfl) (fun _ _ _ h => h) (Or.inr ⟨by kernel_rfl, rfl⟩) (by assumption) ?_
  try simp only [Act.put, List.setIfInBounds_toArray, List.set_cons_zero, List.set_cons_succ]
  refine wpAnyH_takeD (i := 8) (some 24) (v := undef) rfl rfl (by kernel_rfl) (by kernel_rfl) (by kernel_rfl) (fun _ _ _ h => h) (Or.inr ⟨by kernel_rfl, rfl⟩) (by assumption) ?_
  try simp only [Act.put, List.setIfInBounds_toArray, List.set_cons_zero, List.set_cons_succ]
  refine wpAnyH_takeD (i := 9) (some 25) (v := undef) rfl rfl (by kernel_rfl) (by kernel_rfl) (by kernel_rfl) (fun _ _ _ h => h) (Or.inr ⟨by kernel_rfl, rfl⟩) (by assumption) ?_
  try simp only [Act.put, List.setIfInBounds_toArray, List.set_cons_zero, List.set_cons_succ]
  refine wpAnyH_takeD (i := 10) (some 26) (v := undef) rfl rfl (by kernel_rfl) (by kernel_rfl) (by kernel_rfl) (fun _ _ _ h => h) (Or.inr ⟨by kernel_rfl, rfl⟩) (by assumption) ?_
  try simp only [Act.put, List.setIfInBounds_toArray, List.set_cons_zero, List.set_cons_succ]
  refine wpAnyH_takeD (i := 11) (some 27) (v := undef) rfl rfl (by kernel_rfl) (by kernel_rfl) (by kernel_rfl) (fun _ _ _ h => h) (Or.inr ⟨by kernel_rfl, rfl⟩) (by assumption) ?_
  try simp only [Act.put, List.setIfInBounds_toArray, List.set_cons_zero, List.set_cons_succ]
  refine wpAnyH_takeD (i := 12) (some 28) (v := undef) rfl rfl (by kernel_rfl) (by kernel_rfl) (by kernel_rfl) (fun _ _ _ h => h) (Or.inr ⟨by kernel_rfl, rfl⟩) (by assumption) ?_
  try simp only [Act.put, List.setIfInBounds_toArray, List.set_cons_zero, List.set_cons_succ]
  refine wpAnyH_takeD (i := 13) (some 29) (v := undef) rfl rfl (by kernel_rfl) (by kernel_rfl) (by kernel_rfl) (fun _ _ _ h => h) (Or.inr ⟨by kernel_rfl, rfl⟩) (by assumption) ?_
  try simp only [Act.put, List.setIfInBounds_toArray, List.set_cons_zero, List.set_cons_succ]
  refine wpAnyH_takeD (i := 14) (some 30) (v := ?vs214) rfl rfl (by kernel_rfl) (by kernel_rfl) (by kernel_rfl) (fun _ _ _ h => h) (Or.inl ⟨by kernel_rfl, ?hys214⟩) (by assumption) ?rests214
  case hys214 => (intro x hSx; (try dsimp only at hSx); go_simp; first | done | with_reducible rfl)
  try simp only [Act.put, List.setIfInBounds_toArray, List.set_cons_zero, List.set_cons_succ]
  refine wpAnyH_takeD (i := 15) (some 15) (v := ?vs215) rfl rfl (by kernel_rfl) (by kernel_rfl) (by kernel_rfl) (fun _ _ _ h => h) (Or.inl ⟨by kernel_rfl, ?hys215⟩) (by assumption) ?rests215
  case hys215 => (intro x hSx; (try dsimp only at hSx); go_simp; first | done | with_reducible rfl)
  try simp only [Act.put, List.setIfInBounds_toArray, List.set_cons_zero, List.set_cons_succ]
  refine wpAnyH_done (by kernel_rfl) ?_ _
  have hdw2 : Below w1.heap.size w1 w1.drew := (Below.refl _ _).drew
  have hTL2 := hTL.old hdw2
  have hTR2 := hTR.old hdw2
  have hB2' := hB1.old hdw2
  have hbw2 := hb1.trans (hdw2.mono (Nat.le_of_lt hsz))
  generalize w1.drew = w2 at *
  have hsz2 : w.heap.size < w2.heap.size := hB2'.lt
  clear hTL hTR hB1 hb1 hsz hdw2
  have HC : Hid (∀ x, Below w2.heap.size w2 x → Calls Try.prog 49 #[.pointer nl.ptr] x fun e w' => e = .returned (.int .i64 c) ∧ x = w') := fun x hx => by rw [Hc.out]; exact height_any nl x (hTR2.2.1.old hx)
  have HD : Hid (∀ x, Below w2.heap.size w2 x → Calls Try.prog 49 #[.pointer nr.ptr] x fun e w' => e = .returned (.int .i64 d) ∧ x = w') := fun x hx => by rw [Hd.out]; exact height_any nr x (hTR2.2.2.old hx)
  have HF : Hid (∀ x, Below w2.heap.size w2 x → x.cell? ⟨nb, 2, none⟩ = some (.pointer nl.ptr) ∧ x.cell? ⟨nb, 3, none⟩ = some (.pointer nr.ptr)) := fun x hx => ⟨(hTR2.old hx).cells.2.2.1, (hTR2.old hx).cells.2.2.2.1⟩
  go_upto_region 7 with fail
  refine wp_region_held_drew (S := fun x => Below w2.heap.size w2 x) (by kernel_rfl) ((Below.refl _ _).drew) (fun hHeldg => ?_)
  refine wpAnyH_takeD (i := 0) (some 80) (v := ?vg0) rfl rfl (by kernel_rfl) (by kernel_rfl) (by kernel_rfl) (fun _ _ _ h => h) (Or.inl ⟨by kernel_rfl, ?hyg0⟩) (by assumption) ?restg0
  case hyg0 => (intro x hSx; (try dsimp only at hSx); go_simp; first | done | with_reducible rfl)
  try simp only [Act.put, List.setIfInBounds_toArray, List.set_cons_zero, List.set_cons_succ]
  refine wpAnyH_takeD (i := 1) (some 81) (v := .bool true) rfl rfl (by kernel_rfl) (by kernel_rfl) (by kernel_rfl) (fun _ _ _ h => h) (Or.inl ⟨by kernel_rfl, ?hyg1⟩) (by assumption) ?restg1
  case hyg1 => (intro x hSx; (try dsimp only at hSx); go_simp; first | done | with_reducible rfl)
  try simp only [Act.put, List.setIfInBounds_toArray, List.set_cons_zero, List.set_cons_succ]
  refine wpAnyH_takeD (i := 2) (some 82) (v := ?vg2) rfl rfl (by kernel_rfl) (by kernel_rfl) (by kernel_rfl) (fun _ _ _ h => h) (Or.inl ⟨by kernel_rfl, ?hyg2⟩) (by assumption) ?restg2
  case hyg2 => (intro x hSx; (try dsimp only at hSx); go_simp; first | done | with_reducible rfl)
  try simp only [Act.put, List.setIfInBounds_toArray, List.set_cons_zero, List.set_cons_succ]
  refine wpAnyH_takeD (i := 3) (some 83) (v := ?vg3) rfl rfl (by kernel_rfl) (by kernel_rfl) (by kernel_rfl) (fun _ _ _ h => h) (Or.inl ⟨by kernel_rfl, ?hyg3⟩) (by assumption) ?restg3
  case hyg3 => (intro x hSx; (try dsimp only at hSx); go_simp; first | done | with_reducible rfl)
  try simp only [Act.put, List.setIfInBounds_toArray, List.set_cons_zero, List.set_cons_succ]
  refine wpAnyH_takeD (i := 4) (some 84) (v := ?vg4) rfl rfl (by kernel_rfl) (by kernel_rfl) (by kernel_rfl) (fun _ _ _ h => h) (Or.inl ⟨by kernel_rfl, ?hyg4⟩) (by assumption) ?restg4
  case hyg4 => (intro x hSx; (try dsimp only at hSx); go_simp; first | done | with_reducible rfl)
  try simp only [Act.put, List.setIfInBounds_toArray, List.set_cons_zero, List.set_cons_succ]
  refine wpAnyH_takeD (i := 5) (some 85) (v := ?vg5) rfl rfl (by kernel_rfl) (by kernel_rfl) (by kernel_rfl) (fun _ _ _ h => h) (Or.inl ⟨by kernel_rfl, ?hyg5⟩) (by assumption) ?restg5
  case hyg5 => (intro x hSx; (try dsimp only at hSx); go_simp; first | done | with_reducible rfl)
  try simp only [Act.put, List.setIfInBounds_toArray, List.set_cons_zero, List.set_cons_succ]
  refine wpAnyH_takeD (i := 6) (some 86) (v := ?vg6) rfl rfl (by kernel_rfl) (by kernel_rfl) (by kernel_rfl) (fun _ _ _ h => h) (Or.inl ⟨by kernel_rfl, ?hyg6⟩) (by assumption) ?restg6
  case hyg6 => (intro x hSx; (try dsimp only at hSx); obtain ⟨c2, c3⟩ := HF.out x hSx; go_simp; first | done | with_reducible rfl)
  try simp only [Act.put, List.setIfInBounds_toArray, List.set_cons_zero, List.set_cons_succ]
  refine wpAnyH_takeD (i := 8) (some 88) (v := ?vg8) rfl rfl (by kernel_rfl) (by kernel_rfl) (by kernel_rfl) (fun _ _ _ h => h) (Or.inl ⟨by kernel_rfl, ?hyg8⟩) (by assumption) ?restg8
  case hyg8 => (intro x hSx; (try dsimp only at hSx); go_simp; first | done | with_reducible rfl)
  try simp only [Act.put, List.setIfInBounds_toArray, List.set_cons_zero, List.set_cons_succ]
  refine wpAnyH_takeD (i := 9) (some 89) (v := ?vg9) rfl rfl (by kernel_rfl) (by kernel_rfl) (by kernel_rfl) (fun _ _ _ h => h) (Or.inl ⟨by kernel_rfl, ?hyg9⟩) (by assumption) ?restg9
  case hyg9 => (intro x hSx; (try dsimp only at hSx); go_simp; first | done | with_reducible rfl)
  try simp only [Act.put, List.setIfInBounds_toArray, List.set_cons_zero, List.set_cons_succ]
  refine wpAnyH_takeD (i := 10) (some 90) (v := ?vg10) rfl rfl (by kernel_rfl) (by kernel_rfl) (by kernel_rfl) (fun _ _ _ h => h) (Or.inl ⟨by kernel_rfl, ?hyg10⟩) (by assumption) ?restg10
  case hyg10 => (intro x hSx; (try dsimp only at hSx); go_simp; first | done | with_reducible rfl)
  try simp only [Act.put, List.setIfInBounds_toArray, List.set_cons_zero, List.set_cons_succ]
  refine wpAnyH_takeD (i := 11) (some 91) (v := ?vg11) rfl rfl (by kernel_rfl) (by kernel_rfl) (by kernel_rfl) (fun _ _ _ h => h) (Or.inl ⟨by kernel_rfl, ?hyg11⟩) (by assumption) ?restg11
  case hyg11 => (intro x hSx; (try dsimp only at hSx); obtain ⟨c2, c3⟩ := HF.out x hSx; go_simp; first | done | with_reducible rfl)
  try simp only [Act.put, List.setIfInBounds_toArray, List.set_cons_zero, List.set_cons_succ]
  refine wpAnyH_ready (rs := [7]) (by kernel_rfl) (by simp) ?_
  refine AllReadyH.cons rfl (fun K hK => ?_) AllReadyH.nil
  go_simp
  go_wp2_with (go_at_call 49; refine (HC.out _ hHeldg).mono ?_; rintro e yg7 ⟨rfl, rfl⟩)
  refine hK.out _ _ (hHeldg) (fun hHeldg7 => ?_)
  clear hK K
  try simp only [Act.put, List.setIfInBounds_toArray, List.set_cons_zero, List.set_cons_succ]
  refine wpAnyH_ready (rs := [12]) (by kernel_rfl) (by simp) ?_
  refine AllReadyH.cons rfl (fun K hK => ?_) AllReadyH.nil
  go_simp
  go_wp2_with (go_at_call 49; refine (HD.out _ hHeldg7).mono ?_; rintro e yg12 ⟨rfl, rfl⟩)
  refine hK.out _ _ (hHeldg7) (fun hHeldg12 => ?_)
  clear hK K
  try simp only [Act.put, List.setIfInBounds_toArray, List.set_cons_zero, List.set_cons_succ]
  refine wpAnyH_takeD (i := 13) (some 93) (v := .bool false) rfl rfl (by kernel_rfl) (by kernel_rfl) (by kernel_rfl) (fun _ _ _ h => h) (Or.inl ⟨by kernel_rfl, ?hyg13⟩) (by assumption) ?restg13
  case hyg13 => (intro x hSx; (try dsimp only at hSx); go_simp; first | done | with_reducible rfl)
  try simp only [Act.put, List.setIfInBounds_toArray, List.set_cons_zero, List.set_cons_succ]
  refine wpAnyH_takeD (i := 14) (some 94) (v := ?vg14) rfl rfl (by kernel_rfl) (by kernel_rfl) (by kernel_rfl) (fun _ _ _ h => h) (Or.inl ⟨by kernel_rfl, ?hyg14⟩) (by assumption) ?restg14
  case hyg14 => (intro x hSx; (try dsimp only at hSx); go_simp; first | done | with_reducible rfl)
  try simp only [Act.put, List.setIfInBounds_toArray, List.set_cons_zero, List.set_cons_succ]
  refine wpAnyH_takeD (i := 15) (some 79) (v := ?vg15) rfl rfl (by kernel_rfl) (by kernel_rfl) (by kernel_rfl) (fun _ _ _ h => h) (Or.inl ⟨by kernel_rfl, ?hyg15⟩) (by assumption) ?restg15
  case hyg15 => (intro x hSx; (try dsimp only at hSx); go_simp; first | done | with_reducible rfl)
  try simp only [Act.put, List.setIfInBounds_toArray, List.set_cons_zero, List.set_cons_succ]
  refine wpAnyH_done (by kernel_rfl) ?_ _
  clear HC HD HF
  have hdw3 : Below w2.heap.size w2 w2.drew := (Below.refl _ _).drew
  have hTL3 := hTL2.old hdw3
  have hTR3 := hTR2.old hdw3
  have hB3' := hB2'.old hdw3
  have hbw3 := hbw2.trans (hdw3.mono (Nat.le_of_lt hsz2))
  generalize w2.drew = w3 at *
  have hsz3 : w.heap.size < w3.heap.size := hB3'.lt
  clear hTL2 hTR2 hB2' hbw2 hsz2 hdw3
  have n2 : w3.cell? ⟨nb, 2, none⟩ = some (.pointer nl.ptr) := hTR3.cells.2.2.1
  have n3 : w3.cell? ⟨nb, 3, none⟩ = some (.pointer nr.ptr) := hTR3.cells.2.2.2.1
  go_upto_region 11 with fail
  have HF : Hid (∀ x, Below w3.heap.size w3 x → x.cell? ⟨nb, 0, none⟩ = some (.string nk) ∧ x.cell? ⟨nb, 1, none⟩ = some (.string nv) ∧ x.cell? ⟨nb, 2, none⟩ = some (.pointer nl.ptr) ∧ x.cell? ⟨nb, 3, none⟩ = some (.pointer nr.ptr) ∧ x.cell? ⟨w.heap.size, 0, none⟩ = some (.string k) ∧ x.cell? ⟨w.heap.size, 1, none⟩ = some (.string v)) := fun x hx => ⟨(hTR3.old hx).cells.1, (hTR3.old hx).cells.2.1, (hTR3.old hx).cells.2.2.1, (hTR3.old hx).cells.2.2.2.1, (hB3'.old hx).c2.1, (hB3'.old hx).c2.2⟩
  go_upto_region 11 with fail
  refine wp_region_held_drew (S := fun x => Below w3.heap.size w3 x) (by kernel_rfl) ((Below.refl _ _).drew) (fun hHeldh => ?_)
  refine wpAnyH_takeD (i := 0) (some 127) (v := ?vh0) rfl rfl (by kernel_rfl) (by kernel_rfl) (by kernel_rfl) (fun _ _ _ h => h) (Or.inl ⟨by kernel_rfl, ?hyh0⟩) (by assumption) ?resth0
  case hyh0 => (intro x hSx; (try dsimp only at hSx); go_simp; first | done | with_reducible rfl)
  try simp only [Act.put, List.setIfInBounds_toArray, List.set_cons_zero, List.set_cons_succ]
  refine wpAnyH_takeD (i := 1) (some 128) (v := ?vh1) rfl rfl (by kernel_rfl) (by kernel_rfl) (by kernel_rfl) (fun _ _ _ h => h) (Or.inl ⟨by kernel_rfl, ?hyh1⟩) (by assumption) ?resth1
  case hyh1 => (intro x hSx; (try dsimp only at hSx); obtain ⟨z0, z1, z2, z3, z4, z5⟩ := HF.out x hSx; go_simp; first | done | with_reducible rfl)
  try simp only [Act.put, List.setIfInBounds_toArray, List.set_cons_zero, List.set_cons_succ]
  refine wpAnyH_takeD (i := 2) (some 129) (v := ?vh2) rfl rfl (by kernel_rfl) (by kernel_rfl) (by kernel_rfl) (fun _ _ _ h => h) (Or.inl ⟨by kernel_rfl, ?hyh2⟩) (by assumption) ?resth2
  case hyh2 => (intro x hSx; (try dsimp only at hSx); go_simp; first | done | with_reducible rfl)
  try simp only [Act.put, List.setIfInBounds_toArray, List.set_cons_zero, List.set_cons_succ]
  refine wpAnyH_takeD (i := 3) (some 130) (v := ?vh3) rfl rfl (by kernel_rfl) (by kernel_rfl) (by kernel_rfl) (fun _ _ _ h => h) (Or.inl ⟨by kernel_rfl, ?hyh3⟩) (by assumption) ?resth3
  case hyh3 => (intro x hSx; (try dsimp only at hSx); go_simp; first | done | with_reducible rfl)
  try simp only [Act.put, List.setIfInBounds_toArray, List.set_cons_zero, List.set_cons_succ]
  refine wpAnyH_takeD (i := 4) (some 131) (v := ?vh4) rfl rfl (by kernel_rfl) (by kernel_rfl) (by kernel_rfl) (fun _ _ _ h => h) (Or.inl ⟨by kernel_rfl, ?hyh4⟩) (by assumption) ?resth4
  case hyh4 => (intro x hSx; (try dsimp only at hSx); go_simp; first | done | with_reducible rfl)
  try simp only [Act.put, List.setIfInBounds_toArray, List.set_cons_zero, List.set_cons_succ]
  refine wpAnyH_takeD (i := 5) (some 132) (v := ?vh5) rfl rfl (by kernel_rfl) (by kernel_rfl) (by kernel_rfl) (fun _ _ _ h => h) (Or.inl ⟨by kernel_rfl, ?hyh5⟩) (by assumption) ?resth5
  case hyh5 => (intro x hSx; (try dsimp only at hSx); obtain ⟨z0, z1, z2, z3, z4, z5⟩ := HF.out x hSx; go_simp; first | done | with_reducible rfl)
  try simp only [Act.put, List.setIfInBounds_toArray, List.set_cons_zero, List.set_cons_succ]
  refine wpAnyH_takeD (i := 7) (some 134) (v := ?vh7) rfl rfl (by kernel_rfl) (by kernel_rfl) (by kernel_rfl) (fun _ _ _ h => h) (Or.inl ⟨by kernel_rfl, ?hyh7⟩) (by assumption) ?resth7
  case hyh7 => (intro x hSx; (try dsimp only at hSx); go_simp; first | done | with_reducible rfl)
  try simp only [Act.put, List.setIfInBounds_toArray, List.set_cons_zero, List.set_cons_succ]
  refine wpAnyH_takeD (i := 8) (some 135) (v := ?vh8) rfl rfl (by kernel_rfl) (by kernel_rfl) (by kernel_rfl) (fun _ _ _ h => h) (Or.inl ⟨by kernel_rfl, ?hyh8⟩) (by assumption) ?resth8
  case hyh8 => (intro x hSx; (try dsimp only at hSx); go_simp; first | done | with_reducible rfl)
  try simp only [Act.put, List.setIfInBounds_toArray, List.set_cons_zero, List.set_cons_succ]
  refine wpAnyH_takeD (i := 9) (some 136) (v := ?vh9) rfl rfl (by kernel_rfl) (by kernel_rfl) (by kernel_rfl) (fun _ _ _ h => h) (Or.inl ⟨by kernel_rfl, ?hyh9⟩) (by assumption) ?resth9
  case hyh9 => (intro x hSx; (try dsimp only at hSx); go_simp; first | done | with_reducible rfl)
  try simp only [Act.put, List.setIfInBounds_toArray, List.set_cons_zero, List.set_cons_succ]
  refine wpAnyH_takeD (i := 10) (some 137) (v := ?vh10) rfl rfl (by kernel_rfl) (by kernel_rfl) (by kernel_rfl) (fun _ _ _ h => h) (Or.inl ⟨by kernel_rfl, ?hyh10⟩) (by assumption) ?resth10
  case hyh10 => (intro x hSx; (try dsimp only at hSx); obtain ⟨z0, z1, z2, z3, z4, z5⟩ := HF.out x hSx; go_simp; first | done | with_reducible rfl)
  try simp only [Act.put, List.setIfInBounds_toArray, List.set_cons_zero, List.set_cons_succ]
  refine wpAnyH_takeD (i := 11) (some 138) (v := ?vh11) rfl rfl (by kernel_rfl) (by kernel_rfl) (by kernel_rfl) (fun _ _ _ h => h) (Or.inl ⟨by kernel_rfl, ?hyh11⟩) (by assumption) ?resth11
  case hyh11 => (intro x hSx; (try dsimp only at hSx); go_simp; first | done | with_reducible rfl)
  try simp only [Act.put, List.setIfInBounds_toArray, List.set_cons_zero, List.set_cons_succ]
  refine wpAnyH_takeD (i := 12) (some 139) (v := ?vh12) rfl rfl (by kernel_rfl) (by kernel_rfl) (by kernel_rfl) (fun _ _ _ h => h) (Or.inl ⟨by kernel_rfl, ?hyh12⟩) (by assumption) ?resth12
  case hyh12 => (intro x hSx; (try dsimp only at hSx); go_simp; first | done | with_reducible rfl)
  try simp only [Act.put, List.setIfInBounds_toArray, List.set_cons_zero, List.set_cons_succ]
  refine wpAnyH_takeD (i := 13) (some 140) (v := ?vh13) rfl rfl (by kernel_rfl) (by kernel_rfl) (by kernel_rfl) (fun _ _ _ h => h) (Or.inl ⟨by kernel_rfl, ?hyh13⟩) (by assumption) ?resth13
  case hyh13 => (intro x hSx; (try dsimp only at hSx); go_simp; first | done | with_reducible rfl)
  try simp only [Act.put, List.setIfInBounds_toArray, List.set_cons_zero, List.set_cons_succ]
  refine wpAnyH_takeD (i := 14) (some 141) (v := ?vh14) rfl rfl (by kernel_rfl) (by kernel_rfl) (by kernel_rfl) (fun _ _ _ h => h) (Or.inl ⟨by kernel_rfl, ?hyh14⟩) (by assumption) ?resth14
  case hyh14 => (intro x hSx; (try dsimp only at hSx); obtain ⟨z0, z1, z2, z3, z4, z5⟩ := HF.out x hSx; go_simp; first | done | with_reducible rfl)
  try simp only [Act.put, List.setIfInBounds_toArray, List.set_cons_zero, List.set_cons_succ]
  refine wpAnyH_ready (rs := [6]) (by kernel_rfl) (by simp) ?_
  refine AllReadyH.cons rfl (fun K hK => ?_) AllReadyH.nil
  go_simp
  go_wp2_with (go_at_call 41; refine (over_any l nl k v _ (hTL3.old hHeldh) (hTR3.2.1.old hHeldh) (by (try simp only [Tr.ht]); omega)).mono ?_; rintro e y6 ⟨b1, rfl, ht6, hq6⟩)
  refine hK.out _ _ (hHeldh.trans (hq6.mono hHeldh.size)) (fun hHeldh6 => ?_)
  clear hK K
  try simp only [Act.put, List.setIfInBounds_toArray, List.set_cons_zero, List.set_cons_succ]
  refine wpAnyH_ready (rs := [15]) (by kernel_rfl) (by simp) ?_
  refine AllReadyH.cons rfl (fun K hK => ?_) AllReadyH.nil
  go_simp
  go_wp2_with (go_at_call 41; refine (over_any (.node b1 k v l nl) nr nk nv _ (ht6) (hTR3.2.2.old hHeldh6) (by (try simp only [Tr.ht]); omega)).mono ?_; rintro e y15 ⟨b3, rfl, ht15, hq15⟩)
  refine hK.out _ _ (hHeldh6.trans (hq15.mono hHeldh6.size)) (fun hHeldh15 => ?_)
  clear hK K
  try simp only [Act.put, List.setIfInBounds_toArray, List.set_cons_zero, List.set_cons_succ]
  refine wpAnyH_takeD (i := 16) (some 6) (v := ?vh16) rfl rfl (by kernel_rfl) (by kernel_rfl) (by kernel_rfl) (fun _ _ _ h => h) (Or.inl ⟨by kernel_rfl, ?hyh16⟩) (by assumption) ?resth16
  case hyh16 => (intro x hSx; (try dsimp only at hSx); go_simp; first | done | with_reducible rfl)
  try simp only [Act.put, List.setIfInBounds_toArray, List.set_cons_zero, List.set_cons_succ]
  refine wpAnyH_done (by kernel_rfl) ?_ _
  go_wp2
  go_ret
  exact ⟨.node b3 nk nv (.node b1 k v l nl) nr, rfl, ht15, by simp [Tr.toL], hbw3.trans (hHeldh15.mono (Nat.le_of_lt hsz3))⟩
theorem even_any (l r : Tr) (k v : ByteArray) (w : World) (hl : TAt w l) (hr : TAt w r) (hb : l.ht + r.ht < 1152921504606846976) :
    Calls Try.prog 42 #[.pointer l.ptr, .agg #[.string k, .string v], .pointer r.ptr] w (EvPost (l.toL ++ (k, v) :: r.toL) w) := by
  by_cases h1 : 1 < (l.ht : Int) - (r.ht : Int)
  · cases l with
    | leaf => simp only [Tr.ht] at h1; omega
    | node nb nk nv nl nr =>
      by_cases h3 : (nl.ht : Int) < (nr.ht : Int)
      · cases nr with
        | leaf => simp only [Tr.ht] at h3; omega
        | node tb tk tv tl tr => exact even_a2 nb nk nv nl tb tk tv tl tr r k v w hl hr hb _ _ _ _ rfl rfl rfl rfl (by omega) (by omega) (by simpa using h1) (by simpa using h3)
      · exact even_a1 nb nk nv nl nr r k v w hl hr hb _ _ _ _ rfl rfl rfl rfl (by omega) (by omega) (by simpa using h1) (by simpa using h3)
  · by_cases h2 : (l.ht : Int) - (r.ht : Int) < -1
    · cases r with
      | leaf => simp only [Tr.ht] at h2; omega
      | node nb nk nv nl nr =>
        by_cases h3 : (nr.ht : Int) < (nl.ht : Int)
        · cases nl with
          | leaf => simp only [Tr.ht] at h3; omega
          | node tb tk tv tl tr => exact even_b2 nb nk nv nr tb tk tv tl tr l k v w hl hr hb _ _ _ _ rfl rfl rfl rfl (by omega) (by omega) (by simpa using h1) (by simpa using h2) (by simpa using h3)
        · exact even_b1 nb nk nv nl nr l k v w hl hr hb _ _ _ _ rfl rfl rfl rfl (by omega) (by omega) (by simpa using h1) (by simpa using h2) (by simpa using h3)
    · exact even_c l r k v w hl hr hb _ _ rfl rfl (by omega) (by omega) (by simpa using h1) (by simpa using h2)

end Go.Proofs.Ytklnnkdcnaieoaa
