/- What one call comes to, on both (the statements' own 'one'; nothing is claimed here). -/
import Derived.Test.YtcbkfnoggheddaaRefC
import Derived.Test.YtcbkfnoggheddaaAwake
import Derived.Deep.RegionHeld
namespace Go.Proofs.Ytcbkfnoggheddaa
open Go.RowKit Go.Vf

theorem runesc_ok (s : ByteArray) (a : Nat) (ha : a ≤ s.size) (n : Nat) (t : List UInt8) (hd : dec (s.data.toList.drop a) = (n, some t)) (w : World) (hs : s.size ≤ 4294967296) :
    Calls Try.prog 20 #[.string s, .int .i64 (a : Int)] w fun e w' => e = .returned (.tuple #[.string (bs t), .int .i64 ((a : Int) + (n : Int)), .int .i64 0]) ∧ Below w.heap.size w w' := by
  have := runesc_any s a ha w hs
  rw [hd] at this
  exact this
theorem runesc_bad (s : ByteArray) (a : Nat) (ha : a ≤ s.size) (n : Nat) (hd : dec (s.data.toList.drop a) = (n, none)) (w : World) (hs : s.size ≤ 4294967296) :
    Calls Try.prog 20 #[.string s, .int .i64 (a : Int)] w fun e w' => e = .returned (.tuple #[.string (bs []), .int .i64 ((a : Int) + (n : Int)), .int .i64 10]) ∧ Below w.heap.size w w' := by
  have := runesc_any s a ha w hs
  rw [hd] at this
  exact this

/-- The box of a struct of four: its cells, still there behind a call. -/
theorem box_next {h : Nat} {v0 v1 v2 v3 : Value} {w w' : World} (hb : Below w.heap.size w w')
    (hS : w.cell? ⟨h, 0, none⟩ = some v0 ∧ w.cell? ⟨h, 1, none⟩ = some v1 ∧ w.cell? ⟨h, 2, none⟩ = some v2 ∧ w.cell? ⟨h, 3, none⟩ = some v3 ∧ h < w.heap.size) :
    w'.cell? ⟨h, 0, none⟩ = some v0 ∧ w'.cell? ⟨h, 1, none⟩ = some v1 ∧ w'.cell? ⟨h, 2, none⟩ = some v2 ∧ w'.cell? ⟨h, 3, none⟩ = some v3 ∧ h < w'.heap.size := by
  obtain ⟨h0, h1, h2, h3, h4⟩ := hS
  exact ⟨(hb.cell (p := ⟨h, 0, none⟩) h4).trans h0, (hb.cell (p := ⟨h, 1, none⟩) h4).trans h1, (hb.cell (p := ⟨h, 2, none⟩) h4).trans h2, (hb.cell (p := ⟨h, 3, none⟩) h4).trans h3, Nat.lt_of_lt_of_le h4 hb.size⟩

theorem below_box {w w2 : World} {o : Obj} (hb : Below (w.alloc o).heap.size (w.alloc o) w2) : Below w.heap.size w w2 :=
  ((Below.refl _ _).alloc (Nat.le_refl _) o).trans (hb.mono (by simp))
theorem below_boxd {w w2 : World} {o : Obj} (hb : Below (w.alloc o).drew.heap.size (w.alloc o).drew w2) : Below w.heap.size w w2 :=
  (((Below.refl _ _).alloc (Nat.le_refl _) o).drew).trans (hb.mono (by simp))

set_option maxHeartbeats 1000000 in
theorem one_compare (A B : ByteArray) (at_ : Int) (w : World) (ha : A.size ≤ 17179869184) (hb : B.size ≤ 17179869184) :
    Calls Try.prog 10 #[.agg #[.int .i64 1, .string A, .string B, .int .i64 at_]] w fun e w' => e = .returned (.bool true) ∧ Below w.heap.size w w' := by
  go_enter Try.func10, Try.ntmps10
  go_wp2_with fail
  go_region_held (fun w' => w'.cell? ⟨w.heap.size, 0, none⟩ = some (.int .i64 1) ∧ w'.cell? ⟨w.heap.size, 1, none⟩ = some (.string A) ∧ w'.cell? ⟨w.heap.size, 2, none⟩ = some (.string B) ∧ w'.cell? ⟨w.heap.size, 3, none⟩ = some (.int .i64 at_) ∧ w.heap.size < w'.heap.size) (first | go_keep | exact box_next (by assumption) (by assumption)) (first | (go_at_call 14; refine (compare_any A B _ ha hb).mono ?_; rintro e w2 ⟨rfl, hb2⟩) | (go_at_call 18; refine (rcompare_any A B _ ha hb).mono ?_; rintro e w3 ⟨rfl, hb3⟩))
  go_wp2_with fail
  go_ret
  exact ⟨rfl, below_next (below_boxd hb2) hb3⟩

set_option maxHeartbeats 1000000 in
theorem one_escape (A B : ByteArray) (at_ : Int) (w : World) (ha : A.size ≤ 4294967296) :
    Calls Try.prog 10 #[.agg #[.int .i64 2, .string A, .string B, .int .i64 at_]] w fun e w' => e = .returned (.bool true) ∧ Below w.heap.size w w' := by
  go_enter Try.func10, Try.ntmps10
  go_wp2_with fail
  go_region_held (fun w' => w'.cell? ⟨w.heap.size, 0, none⟩ = some (.int .i64 2) ∧ w'.cell? ⟨w.heap.size, 1, none⟩ = some (.string A) ∧ w'.cell? ⟨w.heap.size, 2, none⟩ = some (.string B) ∧ w'.cell? ⟨w.heap.size, 3, none⟩ = some (.int .i64 at_) ∧ w.heap.size < w'.heap.size) (first | go_keep | exact box_next (by assumption) (by assumption)) (first | (go_at_call 11; refine (escape_any A _ ha).mono ?_; rintro e w2 ⟨rfl, hb2⟩) | (go_at_call 19; refine (resc_any A _ ha).mono ?_; rintro e w3 ⟨rfl, hb3⟩))
  go_wp2_with fail
  go_ret
  exact ⟨rfl, below_next (below_boxd hb2) hb3⟩

set_option maxHeartbeats 1000000 in
theorem one_flip (A B : ByteArray) (at_ : Int) (w : World) (ha : A.size ≤ 4294967296) :
    Calls Try.prog 10 #[.agg #[.int .i64 4, .string A, .string B, .int .i64 at_]] w fun e w' => e = .returned (.bool true) ∧ Below w.heap.size w w' := by
  go_enter Try.func10, Try.ntmps10
  go_wp2_with fail
  go_region_held (fun w' => w'.cell? ⟨w.heap.size, 0, none⟩ = some (.int .i64 4) ∧ w'.cell? ⟨w.heap.size, 1, none⟩ = some (.string A) ∧ w'.cell? ⟨w.heap.size, 2, none⟩ = some (.string B) ∧ w'.cell? ⟨w.heap.size, 3, none⟩ = some (.int .i64 at_) ∧ w.heap.size < w'.heap.size) (first | go_keep | exact box_next (by assumption) (by assumption)) (first | (go_at_call 16; refine (flip_any A _ ha).mono ?_; rintro e w2 ⟨rfl, hb2⟩) | (go_at_call 21; refine (rflip_any A _ ha).mono ?_; rintro e w3 ⟨rfl, hb3⟩))
  go_wp2_with fail
  go_ret
  exact ⟨rfl, below_next (below_boxd hb2) hb3⟩

set_option maxHeartbeats 1000000 in
theorem one_unesc_arg (A B : ByteArray) (at_ : Int) (ha : at_ < 0 ∨ (A.size : Int) < at_) (w : World) :
    Calls Try.prog 10 #[.agg #[.int .i64 3, .string A, .string B, .int .i64 at_]] w fun e w' => e = .returned (.bool true) ∧ Below w.heap.size w w' := by
  have HA : Hid (at_ < 0 ∨ (A.size : Int) < at_) := ha
  clear ha
  go_enter Try.func10, Try.ntmps10
  go_wp2_with fail
  refine (unescape_arg A at_ HA.out _).mono ?_
  rintro e w1 ⟨rfl, hb1⟩
  have hc1 : w1.cell? ⟨w.heap.size, 1, none⟩ = some (.string A) := (hb1.cell (p := ⟨w.heap.size, 1, none⟩) (by simp)).trans (by simp)
  have hc3 : w1.cell? ⟨w.heap.size, 3, none⟩ = some (.int .i64 at_) := (hb1.cell (p := ⟨w.heap.size, 3, none⟩) (by simp)).trans (by simp)
  go_wp2_with fail
  refine (runesc_arg A at_ HA.out _).mono ?_
  rintro e w2 ⟨rfl, hb2⟩
  go_wp2_with fail
  go_ret
  exact ⟨rfl, below_next (below_box hb1) hb2⟩

set_option maxHeartbeats 1000000 in
theorem one_unesc_ok (A B : ByteArray) (k n : Nat) (t : List UInt8) (hk : k ≤ A.size) (HD : Hid (dec (A.data.toList.drop k) = (n, some t))) (ha : A.size ≤ 4294967296) (w : World) :
    Calls Try.prog 10 #[.agg #[.int .i64 3, .string A, .string B, .int .i64 (k : Int)]] w fun e w' => e = .returned (.bool true) ∧ Below w.heap.size w w' := by
  go_enter Try.func10, Try.ntmps10
  go_wp2_with fail
  refine (unescape_ok A k hk n t HD.out _ ha).mono ?_
  rintro e w1 ⟨rfl, hb1⟩
  have hc1 : w1.cell? ⟨w.heap.size, 1, none⟩ = some (.string A) := (hb1.cell (p := ⟨w.heap.size, 1, none⟩) (by simp)).trans (by simp)
  have hc3 : w1.cell? ⟨w.heap.size, 3, none⟩ = some (.int .i64 (k : Int)) := (hb1.cell (p := ⟨w.heap.size, 3, none⟩) (by simp)).trans (by simp)
  go_wp2_with fail
  refine (runesc_ok A k hk n t HD.out _ ha).mono ?_
  rintro e w2 ⟨rfl, hb2⟩
  go_wp2_with fail
  go_ret
  exact ⟨rfl, below_next (below_box hb1) hb2⟩

set_option maxHeartbeats 1000000 in
theorem one_unesc_bad (A B : ByteArray) (k n : Nat) (hk : k ≤ A.size) (HD : Hid (dec (A.data.toList.drop k) = (n, none))) (ha : A.size ≤ 4294967296) (w : World) :
    Calls Try.prog 10 #[.agg #[.int .i64 3, .string A, .string B, .int .i64 (k : Int)]] w fun e w' => e = .returned (.bool true) ∧ Below w.heap.size w w' := by
  go_enter Try.func10, Try.ntmps10
  go_wp2_with fail
  refine (unescape_bad A k hk n HD.out _ ha).mono ?_
  rintro e w1 ⟨rfl, hb1⟩
  have hc1 : w1.cell? ⟨w.heap.size, 1, none⟩ = some (.string A) := (hb1.cell (p := ⟨w.heap.size, 1, none⟩) (by simp)).trans (by simp)
  have hc3 : w1.cell? ⟨w.heap.size, 3, none⟩ = some (.int .i64 (k : Int)) := (hb1.cell (p := ⟨w.heap.size, 3, none⟩) (by simp)).trans (by simp)
  go_wp2_with fail
  refine (runesc_bad A k hk n HD.out _ ha).mono ?_
  rintro e w2 ⟨rfl, hb2⟩
  go_wp2_with fail
  go_ret
  exact ⟨rfl, below_next (below_box hb1) hb2⟩

set_option maxHeartbeats 1000000 in
theorem one_next (A B : ByteArray) (at_ : Int) (ha : A.size ≤ 4294967296) (w : World) :
    Calls Try.prog 10 #[.agg #[.int .i64 5, .string A, .string B, .int .i64 at_]] w fun e w' => e = .returned (.bool true) ∧ Below w.heap.size w w' := by
  go_enter Try.func10, Try.ntmps10
  go_wp2_with fail
  refine (next_any A _ ha).mono ?_
  rintro e w1 ⟨rfl, hb1⟩
  have hc1 : w1.cell? ⟨w.heap.size, 1, none⟩ = some (.string A) := (hb1.cell (p := ⟨w.heap.size, 1, none⟩) (by simp)).trans (by simp)
  have hc3 : w1.cell? ⟨w.heap.size, 3, none⟩ = some (.int .i64 at_) := (hb1.cell (p := ⟨w.heap.size, 3, none⟩) (by simp)).trans (by simp)
  go_wp2_with fail
  refine (rnext_any A _ ha).mono ?_
  rintro e w2 ⟨rfl, hb2⟩
  go_wp2_with fail
  go_ret
  exact ⟨rfl, below_next (below_box hb1) hb2⟩

set_option maxHeartbeats 400000 in
theorem one_none (A B : ByteArray) (kind at_ : Int) (w : World) (h1 : (kind == 1) = false) (h2 : (kind == 2) = false) (h3 : (kind == 3) = false) (h4 : (kind == 4) = false) (h5 : (kind == 5) = false) :
    Calls Try.prog 10 #[.agg #[.int .i64 kind, .string A, .string B, .int .i64 at_]] w fun e w' => e = .returned (.bool true) ∧ Below w.heap.size w w' := by
  go_enter Try.func10, Try.ntmps10
  go_wp2_with fail
  go_ret
  exact ⟨rfl, (Below.refl _ _).alloc (Nat.le_refl _) _⟩

theorem one_any (A B : ByteArray) (kind at_ : Int) (w : World) (ha : A.size ≤ 4294967296) (hb : B.size ≤ 4294967296) :
    Calls Try.prog 10 #[.agg #[.int .i64 kind, .string A, .string B, .int .i64 at_]] w fun e w' => e = .returned (.bool true) ∧ Below w.heap.size w w' := by
  by_cases h1 : kind = 1
  · subst h1; exact one_compare A B at_ w (by omega) (by omega)
  by_cases h2 : kind = 2
  · subst h2; exact one_escape A B at_ w ha
  by_cases h4 : kind = 4
  · subst h4; exact one_flip A B at_ w ha
  by_cases h5 : kind = 5
  · subst h5; exact one_next A B at_ ha w
  by_cases h3 : kind = 3
  · subst h3
    by_cases hx : at_ < 0 ∨ (A.size : Int) < at_
    · exact one_unesc_arg A B at_ hx w
    · obtain ⟨k, rfl⟩ := Int.eq_ofNat_of_zero_le (show 0 ≤ at_ by omega)
      obtain ⟨⟨n, o⟩, hd⟩ : ∃ r, dec (A.data.toList.drop k) = r := ⟨_, rfl⟩
      cases o with
      | none => exact one_unesc_bad A B k n (by omega) hd ha w
      | some t => exact one_unesc_ok A B k n t (by omega) hd ha w
  · exact one_none A B kind at_ w (by simpa using h1) (by simpa using h2) (by simpa using h3) (by simpa using h4) (by simpa using h5)
end Go.Proofs.Ytcbkfnoggheddaa
