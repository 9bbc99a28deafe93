/- What the document's May and Make do (contracts; nothing is claimed here). -/
import Derived.Test.YtnjfkijekohdkaaDoorMayb
import Derived.Test.YtnjfkijekohdkaaDoorDpr
namespace Go.Proofs.YtnjfkijekohdkaaDoor
open Go.RowKit Go.Vf

theorem own1_mk (k : Int) (y n : Bool) (m r : ByteArray) (l : List Prt) : own1 (.mk k y n m r l) = ((k == 1 || !y) && (k == 2 || (!n && m.size == 0)) && (isRawK k || r.size == 0) && (k == 7 || l.length == 0)) := rfl
theorem may_mk (k : Int) (y n : Bool) (m r : ByteArray) (l : List Prt) : may (.mk k y n m r l) = (((k == 1 || !y) && (k == 2 || (!n && m.size == 0)) && (isRawK k || r.size == 0) && (k == 7 || l.length == 0)) && ((k == 0 || k == 1 || (k == 2 && numOk n m) || ((k == 3 || k == 5 || k == 6) && decide (r.size ≤ 65536)) || (k == 4 && r.size == 16) || (k == 7 && decide (l.length ≤ 1024))) && (k != 7 || l.all may))) := by
  rw [may_own3, own1_mk, own3_mk]

set_option maxHeartbeats 8000000 in
set_option maxRecDepth 20000 in
theorem rmay_any : ∀ (p : Prt), Fits p → MayOk 26 p := by
  intro p
  induction p using Prt.ind with
  | h k y n m r l ih =>
    intro hf a c lo n₀ w hn₀ hin
    have hpos := hf.pos
    have hrs := hf.raw
    have hls := hf.len
    have hms := hf.mag
    simp only [Prt.kind, Prt.raw, Prt.mag, Prt.items] at hpos hrs hls hms
    obtain ⟨ln, hln⟩ : ∃ ln, l.length = ln := ⟨_, rfl⟩
    have HLN : Hid (l.length = ln) := hln
    rw [hln] at hls
    have hS : ∀ (R : Bool), may (.mk k y n m r l) = R → (Calls Tryd.prog 26 #[.agg #[.int .u8 k, .bool y, .bool n, .string m, .string r, .slice a ln c]] w fun e w' => e = .returned (.bool R) ∧ Below w.heap.size w w') →
        Calls Tryd.prog 26 #[pV (.mk k y n m r l) a c] w fun e w' => e = .returned (.bool (may (.mk k y n m r l))) ∧ Below w.heap.size w w' := by
      intro R hR h
      rw [hR]
      rw [← hln] at h
      exact h
    have hM := may_mk k y n m r l
    rw [hln] at hM
    clear hln
    have hb0 := Blk.new w 29 #[.int .u8 k, .bool y, .bool n, .string m, .string r, .slice a ln c]
    have hb1 := (Below.refl w.heap.size w).alloc (Nat.le_refl _) (.cells #[.int .u8 k, .bool y, .bool n, .string m, .string r, .slice a ln c] 29)
    have hb2 := hb1.alloc hb1.size (.cells #[.bool false, .string ⟨#[]⟩] 26)
    by_cases h8 : 7 < k
    · refine hS false (by rw [hM, show (k == 0) = false by simp; omega, show (k == 1) = false by simp; omega, show (k == 2) = false by simp; omega, show (k == 3) = false by simp; omega, show (k == 4) = false by simp; omega, show (k == 5) = false by simp; omega, show (k == 6) = false by simp; omega, show (k == 7) = false by simp; omega]; simp) ?_
      have t0 : decide (7 < k) = true := by simpa using h8
      clear hS hM ih hin hf
      go_enter Tryd.func26, Tryd.ntmps26
      go_wp2_with fail
      go_ret
      exact ⟨rfl, hb1⟩
    have hk8 : k = 0 ∨ k = 1 ∨ k = 2 ∨ k = 3 ∨ k = 4 ∨ k = 5 ∨ k = 6 ∨ k = 7 := by omega
    obtain ⟨z, hz⟩ : ∃ z, (!n && m.size == 0) = z := ⟨_, rfl⟩
    have heq : ∀ w : World, (Op.equalIn 10000 26 (.agg #[.bool n, .string m]) (.agg #[.bool false, .string ⟨#[]⟩])).run Tryd.prog w = .ok z w := fun w => by
      rw [num_eq, ← hz]
      congr 1
      have := empty_iff m
      cases n <;> simp_all [ByteArray.toList_eq]
    obtain ⟨er, her⟩ : ∃ z, (r.size == 0) = z := ⟨_, rfl⟩
    have her' : r.toList.isEmpty = er := by rw [empty_iff, her]
    rw [hz, her] at hM
    have HE : Hid ((r.size == 0) = er) := her
    clear hz h8 her
    rcases hk8 with rfl | rfl | rfl | rfl | rfl | rfl | rfl | rfl
    · cases y with
      | true =>
        refine hS false (by rw [hM]; simp) ?_
        clear hS hM ih hin hf
        go_enter Tryd.func26, Tryd.ntmps26
        go_wp2_with fail
        go_ret
        exact ⟨rfl, hb2⟩
      | false =>
        cases z with
        | false =>
          refine hS false (by rw [hM]; simp) ?_
          clear hS hM ih hin hf
          go_enter Tryd.func26, Tryd.ntmps26
          go_wp2_with fail
          go_ret
          exact ⟨rfl, hb2⟩
        | true =>
          by_cases hl0 : ln = 0
          · have t4 : decide ((0 : Int) < (ln : Int)) = false := decide_eq_false (by omega)
            have t4n : decide (0 < ln) = false := decide_eq_false (by omega)
            have t7n : decide (1024 < ln) = false := decide_eq_false (by omega)
            have t7 : decide ((1024 : Int) < (ln : Int)) = false := decide_eq_false (by omega)
            have HL : Hid (ln = 0) := hl0
            clear hl0
            cases er with
            | false =>
              refine hS false (by rw [hM]; simp [isRawK]) ?_
              clear hS hM ih hin hf
              go_enter Tryd.func26, Tryd.ntmps26
              go_wp2_with fail
              go_ret
              exact ⟨rfl, hb2⟩
            | true =>
              have hr0 : r.size = 0 := by simpa using HE.out
              have t5 : decide ((65536 : Int) < (r.size : Int)) = false := decide_eq_false (by omega)
              refine hS true (by rw [hM, HL.out]; simp [isRawK]) ?_
              clear hr0
              clear hS hM ih hin hf
              obtain ⟨c0, c1, c2, c3, c4, c5⟩ := (hb0.below ((Below.refl _ _).alloc (Nat.le_refl _) (.cells #[.bool false, .string ⟨#[]⟩] 26)) hb0.lt).c6
              go_enter Tryd.func26, Tryd.ntmps26
              go_wp2_with fail
              generalize (w.alloc _).alloc (.cells #[.bool false, .string ⟨#[]⟩] 26) = w2 at hb2 c0 c1 c2 c3 c4 c5 ⊢
              go_loopw [6] (fun i wr => i = .int .i64 0 ∧ wr = w2) (fun i _ => 0)
              case atStart => exact ⟨rfl, rfl⟩
              case round =>
                obtain ⟨rfl, rfl⟩ := hrel
                go_wp2_with fail
                go_ret
                exact ⟨rfl, hb2⟩
          · have t4 : decide ((0 : Int) < (ln : Int)) = true := decide_eq_true (by omega)
            have t4n : decide (0 < ln) = true := decide_eq_true (by omega)
            have hl1 : (ln == 0) = false := by simpa using hl0
            clear hl0
            refine hS false (by rw [hM, hl1]; simp) ?_
            clear hS hM ih hin hf
            go_enter Tryd.func26, Tryd.ntmps26
            go_wp2_with fail
            go_ret
            exact ⟨rfl, hb2⟩
    · cases z with
      | false =>
        refine hS false (by rw [hM]; simp) ?_
        clear hS hM ih hin hf
        go_enter Tryd.func26, Tryd.ntmps26
        go_wp2_with fail
        go_ret
        exact ⟨rfl, hb2⟩
      | true =>
        by_cases hl0 : ln = 0
        · have t4 : decide ((0 : Int) < (ln : Int)) = false := decide_eq_false (by omega)
          have t4n : decide (0 < ln) = false := decide_eq_false (by omega)
          have t7n : decide (1024 < ln) = false := decide_eq_false (by omega)
          have t7 : decide ((1024 : Int) < (ln : Int)) = false := decide_eq_false (by omega)
          have HL : Hid (ln = 0) := hl0
          clear hl0
          cases er with
          | false =>
            refine hS false (by rw [hM]; simp [isRawK]) ?_
            clear hS hM ih hin hf
            go_enter Tryd.func26, Tryd.ntmps26
            go_wp2_with fail
            go_ret
            exact ⟨rfl, hb2⟩
          | true =>
            have hr0 : r.size = 0 := by simpa using HE.out
            have t5 : decide ((65536 : Int) < (r.size : Int)) = false := decide_eq_false (by omega)
            refine hS true (by rw [hM, HL.out]; simp [isRawK]) ?_
            clear hr0
            clear hS hM ih hin hf
            obtain ⟨c0, c1, c2, c3, c4, c5⟩ := (hb0.below ((Below.refl _ _).alloc (Nat.le_refl _) (.cells #[.bool false, .string ⟨#[]⟩] 26)) hb0.lt).c6
            go_enter Tryd.func26, Tryd.ntmps26
            go_wp2_with fail
            generalize (w.alloc _).alloc (.cells #[.bool false, .string ⟨#[]⟩] 26) = w2 at hb2 c0 c1 c2 c3 c4 c5 ⊢
            go_loopw [6] (fun i wr => i = .int .i64 0 ∧ wr = w2) (fun i _ => 0)
            case atStart => exact ⟨rfl, rfl⟩
            case round =>
              obtain ⟨rfl, rfl⟩ := hrel
              go_wp2_with fail
              go_ret
              exact ⟨rfl, hb2⟩
        · have t4 : decide ((0 : Int) < (ln : Int)) = true := decide_eq_true (by omega)
          have t4n : decide (0 < ln) = true := decide_eq_true (by omega)
          have hl1 : (ln == 0) = false := by simpa using hl0
          clear hl0
          refine hS false (by rw [hM, hl1]; simp) ?_
          clear hS hM ih hin hf
          go_enter Tryd.func26, Tryd.ntmps26
          go_wp2_with fail
          go_ret
          exact ⟨rfl, hb2⟩
    · cases y with
      | true =>
        refine hS false (by rw [hM]; simp) ?_
        clear hS hM ih hin hf
        go_enter Tryd.func26, Tryd.ntmps26
        go_wp2_with fail
        go_ret
        exact ⟨rfl, hb2⟩
      | false =>
        by_cases hl0 : ln = 0
        · have t4 : decide ((0 : Int) < (ln : Int)) = false := decide_eq_false (by omega)
          have t4n : decide (0 < ln) = false := decide_eq_false (by omega)
          have t7n : decide (1024 < ln) = false := decide_eq_false (by omega)
          have t7 : decide ((1024 : Int) < (ln : Int)) = false := decide_eq_false (by omega)
          have HL : Hid (ln = 0) := hl0
          clear hl0
          cases er with
          | false =>
            refine hS false (by rw [hM]; simp [isRawK]) ?_
            clear hS hM ih hin hf
            go_enter Tryd.func26, Tryd.ntmps26
            go_wp2_with fail
            go_ret
            exact ⟨rfl, hb2⟩
          | true =>
            have hr0 : r.size = 0 := by simpa using HE.out
            have t5 : decide ((65536 : Int) < (r.size : Int)) = false := decide_eq_false (by omega)
            refine hS (chk n m.data.toList == 0) (by rw [hM, chk_ok, HL.out]; simp [isRawK]) ?_
            have hchk := rcheck_any n m hms
            generalize chk n m.data.toList = cv at hchk ⊢
            clear hS hM ih hin hf hr0
            obtain ⟨c0, c1, c2, c3, c4, c5⟩ := (hb0.below ((Below.refl _ _).alloc (Nat.le_refl _) (.cells #[.bool false, .string ⟨#[]⟩] 26)) hb0.lt).c6
            go_enter Tryd.func26, Tryd.ntmps26
            go_wp2_with fail
            refine (hchk _).mono ?_
            rintro _ w3 ⟨rfl, hb3⟩
            go_wp2_with fail
            go_ret
            exact ⟨rfl, hb2.trans (hb3.mono hb2.size)⟩
        · have t4 : decide ((0 : Int) < (ln : Int)) = true := decide_eq_true (by omega)
          have t4n : decide (0 < ln) = true := decide_eq_true (by omega)
          have hl1 : (ln == 0) = false := by simpa using hl0
          clear hl0
          refine hS false (by rw [hM, hl1]; simp) ?_
          clear hS hM ih hin hf
          go_enter Tryd.func26, Tryd.ntmps26
          go_wp2_with fail
          go_ret
          exact ⟨rfl, hb2⟩
    · cases y with
      | true =>
        refine hS false (by rw [hM]; simp) ?_
        clear hS hM ih hin hf
        go_enter Tryd.func26, Tryd.ntmps26
        go_wp2_with fail
        go_ret
        exact ⟨rfl, hb2⟩
      | false =>
        cases z with
        | false =>
          refine hS false (by rw [hM]; simp) ?_
          clear hS hM ih hin hf
          go_enter Tryd.func26, Tryd.ntmps26
          go_wp2_with fail
          go_ret
          exact ⟨rfl, hb2⟩
        | true =>
          by_cases hl0 : ln = 0
          · have t4 : decide ((0 : Int) < (ln : Int)) = false := decide_eq_false (by omega)
            have t4n : decide (0 < ln) = false := decide_eq_false (by omega)
            have t7n : decide (1024 < ln) = false := decide_eq_false (by omega)
            have t7 : decide ((1024 : Int) < (ln : Int)) = false := decide_eq_false (by omega)
            have HL : Hid (ln = 0) := hl0
            clear hl0
            by_cases hbig : 65536 < r.size
            · have t5 : decide ((65536 : Int) < (r.size : Int)) = true := decide_eq_true (by omega)
              refine hS false (by rw [hM, show decide (r.size ≤ 65536) = false from decide_eq_false (by omega)]; simp) ?_
              clear hS hM ih hin hf
              go_enter Tryd.func26, Tryd.ntmps26
              go_wp2_with fail
              go_ret
              exact ⟨rfl, hb2⟩
            · have t5 : decide ((65536 : Int) < (r.size : Int)) = false := decide_eq_false (by omega)
              have hsm : r.size ≤ 65536 := by omega
              refine hS true (by rw [hM, HL.out]; simp [isRawK, hsm]) ?_
              clear hS hM ih hin hf
              obtain ⟨c0, c1, c2, c3, c4, c5⟩ := (hb0.below ((Below.refl _ _).alloc (Nat.le_refl _) (.cells #[.bool false, .string ⟨#[]⟩] 26)) hb0.lt).c6
              go_enter Tryd.func26, Tryd.ntmps26
              go_wp2_with fail
              generalize (w.alloc _).alloc (.cells #[.bool false, .string ⟨#[]⟩] 26) = w2 at hb2 c0 c1 c2 c3 c4 c5 ⊢
              go_loopw [6] (fun i wr => i = .int .i64 0 ∧ wr = w2) (fun i _ => 0)
              case atStart => exact ⟨rfl, rfl⟩
              case round =>
                obtain ⟨rfl, rfl⟩ := hrel
                go_wp2_with fail
                go_ret
                exact ⟨rfl, hb2⟩
          · have t4 : decide ((0 : Int) < (ln : Int)) = true := decide_eq_true (by omega)
            have t4n : decide (0 < ln) = true := decide_eq_true (by omega)
            have hl1 : (ln == 0) = false := by simpa using hl0
            clear hl0
            refine hS false (by rw [hM, hl1]; simp) ?_
            clear hS hM ih hin hf
            go_enter Tryd.func26, Tryd.ntmps26
            go_wp2_with fail
            go_ret
            exact ⟨rfl, hb2⟩
    · cases y with
      | true =>
        refine hS false (by rw [hM]; simp) ?_
        clear hS hM ih hin hf
        go_enter Tryd.func26, Tryd.ntmps26
        go_wp2_with fail
        go_ret
        exact ⟨rfl, hb2⟩
      | false =>
        cases z with
        | false =>
          refine hS false (by rw [hM]; simp) ?_
          clear hS hM ih hin hf
          go_enter Tryd.func26, Tryd.ntmps26
          go_wp2_with fail
          go_ret
          exact ⟨rfl, hb2⟩
        | true =>
          by_cases hl0 : ln = 0
          · have t4 : decide ((0 : Int) < (ln : Int)) = false := decide_eq_false (by omega)
            have t4n : decide (0 < ln) = false := decide_eq_false (by omega)
            have t7n : decide (1024 < ln) = false := decide_eq_false (by omega)
            have t7 : decide ((1024 : Int) < (ln : Int)) = false := decide_eq_false (by omega)
            have HL : Hid (ln = 0) := hl0
            clear hl0
            by_cases hbig : 65536 < r.size
            · have t5 : decide ((65536 : Int) < (r.size : Int)) = true := decide_eq_true (by omega)
              refine hS false (by rw [hM, show (r.size == 16) = false from beq_eq_false_iff_ne.2 (by omega)]; simp) ?_
              clear hS hM ih hin hf
              go_enter Tryd.func26, Tryd.ntmps26
              go_wp2_with fail
              go_ret
              exact ⟨rfl, hb2⟩
            have t5 : decide ((65536 : Int) < (r.size : Int)) = false := decide_eq_false (by omega)
            by_cases h16 : r.size = 16
            · have t6 : ((r.size : Int) != 16) = false := bne_eq_false_iff_eq.2 (by omega)
              refine hS true (by rw [hM, HL.out, h16]; simp [isRawK]) ?_
              clear h16
              clear hS hM ih hin hf
              obtain ⟨c0, c1, c2, c3, c4, c5⟩ := (hb0.below ((Below.refl _ _).alloc (Nat.le_refl _) (.cells #[.bool false, .string ⟨#[]⟩] 26)) hb0.lt).c6
              go_enter Tryd.func26, Tryd.ntmps26
              go_wp2_with fail
              generalize (w.alloc _).alloc (.cells #[.bool false, .string ⟨#[]⟩] 26) = w2 at hb2 c0 c1 c2 c3 c4 c5 ⊢
              go_loopw [6] (fun i wr => i = .int .i64 0 ∧ wr = w2) (fun i _ => 0)
              case atStart => exact ⟨rfl, rfl⟩
              case round =>
                obtain ⟨rfl, rfl⟩ := hrel
                go_wp2_with fail
                go_ret
                exact ⟨rfl, hb2⟩
            · have t6 : ((r.size : Int) != 16) = true := bne_iff_ne.2 (by omega)
              refine hS false (by rw [hM]; simp [h16]) ?_
              clear hS hM ih hin hf
              go_enter Tryd.func26, Tryd.ntmps26
              go_wp2_with fail
              go_ret
              exact ⟨rfl, hb2⟩
          · have t4 : decide ((0 : Int) < (ln : Int)) = true := decide_eq_true (by omega)
            have t4n : decide (0 < ln) = true := decide_eq_true (by omega)
            have hl1 : (ln == 0) = false := by simpa using hl0
            clear hl0
            refine hS false (by rw [hM, hl1]; simp) ?_
            clear hS hM ih hin hf
            go_enter Tryd.func26, Tryd.ntmps26
            go_wp2_with fail
            go_ret
            exact ⟨rfl, hb2⟩
    · cases y with
      | true =>
        refine hS false (by rw [hM]; simp) ?_
        clear hS hM ih hin hf
        go_enter Tryd.func26, Tryd.ntmps26
        go_wp2_with fail
        go_ret
        exact ⟨rfl, hb2⟩
      | false =>
        cases z with
        | false =>
          refine hS false (by rw [hM]; simp) ?_
          clear hS hM ih hin hf
          go_enter Tryd.func26, Tryd.ntmps26
          go_wp2_with fail
          go_ret
          exact ⟨rfl, hb2⟩
        | true =>
          by_cases hl0 : ln = 0
          · have t4 : decide ((0 : Int) < (ln : Int)) = false := decide_eq_false (by omega)
            have t4n : decide (0 < ln) = false := decide_eq_false (by omega)
            have t7n : decide (1024 < ln) = false := decide_eq_false (by omega)
            have t7 : decide ((1024 : Int) < (ln : Int)) = false := decide_eq_false (by omega)
            have HL : Hid (ln = 0) := hl0
            clear hl0
            by_cases hbig : 65536 < r.size
            · have t5 : decide ((65536 : Int) < (r.size : Int)) = true := decide_eq_true (by omega)
              refine hS false (by rw [hM, show decide (r.size ≤ 65536) = false from decide_eq_false (by omega)]; simp) ?_
              clear hS hM ih hin hf
              go_enter Tryd.func26, Tryd.ntmps26
              go_wp2_with fail
              go_ret
              exact ⟨rfl, hb2⟩
            · have t5 : decide ((65536 : Int) < (r.size : Int)) = false := decide_eq_false (by omega)
              have hsm : r.size ≤ 65536 := by omega
              refine hS true (by rw [hM, HL.out]; simp [isRawK, hsm]) ?_
              clear hS hM ih hin hf
              obtain ⟨c0, c1, c2, c3, c4, c5⟩ := (hb0.below ((Below.refl _ _).alloc (Nat.le_refl _) (.cells #[.bool false, .string ⟨#[]⟩] 26)) hb0.lt).c6
              go_enter Tryd.func26, Tryd.ntmps26
              go_wp2_with fail
              generalize (w.alloc _).alloc (.cells #[.bool false, .string ⟨#[]⟩] 26) = w2 at hb2 c0 c1 c2 c3 c4 c5 ⊢
              go_loopw [6] (fun i wr => i = .int .i64 0 ∧ wr = w2) (fun i _ => 0)
              case atStart => exact ⟨rfl, rfl⟩
              case round =>
                obtain ⟨rfl, rfl⟩ := hrel
                go_wp2_with fail
                go_ret
                exact ⟨rfl, hb2⟩
          · have t4 : decide ((0 : Int) < (ln : Int)) = true := decide_eq_true (by omega)
            have t4n : decide (0 < ln) = true := decide_eq_true (by omega)
            have hl1 : (ln == 0) = false := by simpa using hl0
            clear hl0
            refine hS false (by rw [hM, hl1]; simp) ?_
            clear hS hM ih hin hf
            go_enter Tryd.func26, Tryd.ntmps26
            go_wp2_with fail
            go_ret
            exact ⟨rfl, hb2⟩
    · cases y with
      | true =>
        refine hS false (by rw [hM]; simp) ?_
        clear hS hM ih hin hf
        go_enter Tryd.func26, Tryd.ntmps26
        go_wp2_with fail
        go_ret
        exact ⟨rfl, hb2⟩
      | false =>
        cases z with
        | false =>
          refine hS false (by rw [hM]; simp) ?_
          clear hS hM ih hin hf
          go_enter Tryd.func26, Tryd.ntmps26
          go_wp2_with fail
          go_ret
          exact ⟨rfl, hb2⟩
        | true =>
          by_cases hl0 : ln = 0
          · have t4 : decide ((0 : Int) < (ln : Int)) = false := decide_eq_false (by omega)
            have t4n : decide (0 < ln) = false := decide_eq_false (by omega)
            have t7n : decide (1024 < ln) = false := decide_eq_false (by omega)
            have t7 : decide ((1024 : Int) < (ln : Int)) = false := decide_eq_false (by omega)
            have HL : Hid (ln = 0) := hl0
            clear hl0
            by_cases hbig : 65536 < r.size
            · have t5 : decide ((65536 : Int) < (r.size : Int)) = true := decide_eq_true (by omega)
              refine hS false (by rw [hM, show decide (r.size ≤ 65536) = false from decide_eq_false (by omega)]; simp) ?_
              clear hS hM ih hin hf
              go_enter Tryd.func26, Tryd.ntmps26
              go_wp2_with fail
              go_ret
              exact ⟨rfl, hb2⟩
            · have t5 : decide ((65536 : Int) < (r.size : Int)) = false := decide_eq_false (by omega)
              have hsm : r.size ≤ 65536 := by omega
              refine hS true (by rw [hM, HL.out]; simp [isRawK, hsm]) ?_
              clear hS hM ih hin hf
              obtain ⟨c0, c1, c2, c3, c4, c5⟩ := (hb0.below ((Below.refl _ _).alloc (Nat.le_refl _) (.cells #[.bool false, .string ⟨#[]⟩] 26)) hb0.lt).c6
              go_enter Tryd.func26, Tryd.ntmps26
              go_wp2_with fail
              generalize (w.alloc _).alloc (.cells #[.bool false, .string ⟨#[]⟩] 26) = w2 at hb2 c0 c1 c2 c3 c4 c5 ⊢
              go_loopw [6] (fun i wr => i = .int .i64 0 ∧ wr = w2) (fun i _ => 0)
              case atStart => exact ⟨rfl, rfl⟩
              case round =>
                obtain ⟨rfl, rfl⟩ := hrel
                go_wp2_with fail
                go_ret
                exact ⟨rfl, hb2⟩
          · have t4 : decide ((0 : Int) < (ln : Int)) = true := decide_eq_true (by omega)
            have t4n : decide (0 < ln) = true := decide_eq_true (by omega)
            have hl1 : (ln == 0) = false := by simpa using hl0
            clear hl0
            refine hS false (by rw [hM, hl1]; simp) ?_
            clear hS hM ih hin hf
            go_enter Tryd.func26, Tryd.ntmps26
            go_wp2_with fail
            go_ret
            exact ⟨rfl, hb2⟩
    · cases y with
      | true =>
        refine hS false (by rw [hM]; simp) ?_
        clear hS hM ih hin hf
        go_enter Tryd.func26, Tryd.ntmps26
        go_wp2_with fail
        go_ret
        exact ⟨rfl, hb2⟩
      | false =>
        cases z with
        | false =>
          refine hS false (by rw [hM]; simp) ?_
          clear hS hM ih hin hf
          go_enter Tryd.func26, Tryd.ntmps26
          go_wp2_with fail
          go_ret
          exact ⟨rfl, hb2⟩
        | true =>
          cases er with
          | false =>
            refine hS false (by rw [hM]; simp [isRawK]) ?_
            clear hS hM ih hin hf
            go_enter Tryd.func26, Tryd.ntmps26
            go_wp2_with fail
            go_ret
            exact ⟨rfl, hb2⟩
          | true =>
            have hr0 : r.size = 0 := by simpa using HE.out
            have t5 : decide ((65536 : Int) < (r.size : Int)) = false := decide_eq_false (by omega)
            by_cases hbig : 1024 < ln
            · have t6 : decide ((1024 : Int) < (ln : Int)) = true := decide_eq_true (by omega)
              refine hS false (by rw [hM, show decide (ln ≤ 1024) = false from decide_eq_false (by omega)]; simp) ?_
              clear hS hM ih hin hf
              go_enter Tryd.func26, Tryd.ntmps26
              go_wp2_with fail
              go_ret
              exact ⟨rfl, hb2⟩
            · have t6 : decide ((1024 : Int) < (ln : Int)) = false := decide_eq_false (by omega)
              have hsm : ln ≤ 1024 := by omega
              obtain ⟨R, hR⟩ : ∃ R, l.all may = R := ⟨_, rfl⟩
              refine hS R (by rw [hM]; simp [isRawK, hsm, hR]) ?_
              have HR : Hid (R = (l.drop 0).all may) := hR.symm
              clear hR hS hM hr0
              obtain ⟨c0, c1, c2, c3, c4, c5⟩ := (hb0.below ((Below.refl _ _).alloc (Nat.le_refl _) (.cells #[.bool false, .string ⟨#[]⟩] 26)) hb0.lt).c6
              have hb9 := hb0.below ((Below.refl _ _).alloc (Nat.le_refl _) (.cells #[.bool false, .string ⟨#[]⟩] 26)) hb0.lt
              have hin1 := hin.keep hb2 hn₀
              go_enter Tryd.func26, Tryd.ntmps26
              go_wp2_with fail
              generalize (w.alloc _).alloc (.cells #[.bool false, .string ⟨#[]⟩] 26) = w2 at hb2 hb9 hin1 c0 c1 c2 c3 c4 c5 ⊢
              clear c0 c1 c2 c3 c4 c5
              go_loopw [6] (fun i wr => ∃ (j : Nat), j ≤ ln ∧ i = .int .i64 j ∧ Hid (R = (l.drop j).all may) ∧ Below w2.heap.size w2 wr) (fun i _ => ln - (intOf i).toNat)
              case atStart => exact ⟨0, by omega, rfl, HR, Below.refl _ _⟩
              case round =>
                clear HR
                obtain ⟨j, hj, rfl, HS, hbel⟩ := hrel
                obtain ⟨c0, c1, c2, c3, c4, c5⟩ := (hb9.below hbel hb9.lt).c6
                have hsz2 := hb2.size
                have hbb : Below w.heap.size w wr := hb2.trans (hbel.mono hsz2)
                have hsz := hbb.size
                by_cases hlt : j < ln
                · have hlt2 : j < l.length := by rw [HLN.out]; exact hlt
                  have HD : Hid (R = (may l[j] && (l.drop (j + 1)).all may)) := by
                    show _ = _
                    rw [HS.out, all_drop _ _ _ hlt2]
                  obtain ⟨bb, off, aj, cj, ha, _, _, hrow, hinj⟩ := (hin1.keep hbel (by omega)).at hlt2
                  simp only [Prt.items] at ha hrow hinj
                  subst ha
                  obtain ⟨r0, r1, r2, r3, r4, r5⟩ := hrow
                  have hcall := ih l[j] (List.getElem_mem hlt2) (hf.mem (p := .mk 7 false n m r l) (List.getElem_mem hlt2)) aj cj lo n₀ wr (by omega) hinj
                  unfold pV at hcall
                  clear HS hin hf hin1 ih hinj
                  generalize l[j] = x at hcall HD r0 r1 r2 r3 r4 r5
                  go_wp2_with fail
                  refine hcall.mono ?_
                  rintro _ w3 ⟨rfl, hb3⟩
                  have hb4 : Below w2.heap.size w2 w3 := hbel.trans (hb3.mono hbel.size)
                  cases hq : may x with
                  | false =>
                    have hRn : R = false := by rw [HD.out, hq]; rfl
                    clear HD hq
                    go_wp2_with fail
                    go_ret
                    exact ⟨by rw [hRn]; rfl, hb2.trans (hb4.mono hsz2)⟩
                  | true =>
                    have HD2 : Hid (R = (l.drop (j + 1)).all may) := by
                      show _ = _
                      rw [HD.out, hq]; rfl
                    clear HD hq
                    go_wp2_with fail
                    go_roundw
                    case rel => exact ⟨j + 1, by omega, by simp, HD2, hb4⟩
                    case measure => simp only [intOf]; omega
                · have hRn : R = true := by rw [HS.out, List.drop_of_length_le (by rw [HLN.out]; omega)]; rfl
                  clear HS ih hin hf hin1
                  go_wp2_with fail
                  go_ret
                  exact ⟨by rw [hRn]; rfl, hbb⟩

theorem rmake_any (p : Prt) (hf : Fits p) (a : Option Addr) (c lo n₀ : Nat) (w : World) (hn₀ : n₀ ≤ w.heap.size) (hin : PIn w lo n₀ p a) :
    Calls Tryd.prog 9 #[pV p a c] w fun e w' => e = .returned (.int .i64 (if deeper 16 p then 91 else if may p then 0 else 90)) ∧ Below w.heap.size w w' := by
  have hb0 := Blk.new w 29 #[.int .u8 p.kind, .bool p.yes, .bool p.neg, .string p.mag, .string p.raw, .slice a p.items.length c]
  have hb1 := (Below.refl w.heap.size w).alloc (Nat.le_refl _) (.cells #[.int .u8 p.kind, .bool p.yes, .bool p.neg, .string p.mag, .string p.raw, .slice a p.items.length c] 29)
  have hc := rdeeper_any 16 (by omega) p hf a c lo n₀ _ (Nat.le_trans hn₀ hb1.size) (hin.keep hb1 hn₀)
  have hm := fun w' (h : n₀ ≤ w'.heap.size) hi => rmay_any p hf a c lo n₀ w' h hi
  have hin1 := hin.keep hb1 hn₀
  have hsz := hb1.size
  unfold pV at hc hm ⊢
  clear hin hf
  cases hd : deeper 16 p with
  | true =>
    rw [hd] at hc
    rw [if_pos rfl]
    clear hd hm hin1
    go_enter Tryd.func9, Tryd.ntmps9
    go_wp2_with fail
    refine hc.mono ?_
    rintro _ w2 ⟨rfl, hb3⟩
    go_wp2_with fail
    go_ret
    exact ⟨rfl, hb1.trans (hb3.mono hb1.size)⟩
  | false =>
    rw [hd] at hc
    rw [if_neg (by simp)]
    clear hd
    cases hy : may p with
    | true =>
      rw [hy] at hm
      rw [if_pos rfl]
      clear hy
      go_enter Tryd.func9, Tryd.ntmps9
      go_wp2_with fail
      refine hc.mono ?_
      rintro _ w2 ⟨rfl, hb3⟩
      have h3 := hm w2 (by have := hb3.size; omega) (hin1.keep hb3 (by omega))
      obtain ⟨c0, c1, c2, c3, c4, c5⟩ := (hb0.old hb3).c6
      clear hm hin1
      go_wp2_with fail
      refine h3.mono ?_
      rintro _ w3 ⟨rfl, hb4⟩
      go_wp2_with fail
      go_ret
      exact ⟨rfl, hb1.trans ((hb3.mono hb1.size).trans (hb4.mono (by have := hb3.size; omega)))⟩
    | false =>
      rw [hy] at hm
      rw [if_neg (by simp)]
      clear hy
      go_enter Tryd.func9, Tryd.ntmps9
      go_wp2_with fail
      refine hc.mono ?_
      rintro _ w2 ⟨rfl, hb3⟩
      have h3 := hm w2 (by have := hb3.size; omega) (hin1.keep hb3 (by omega))
      obtain ⟨c0, c1, c2, c3, c4, c5⟩ := (hb0.old hb3).c6
      clear hm hin1
      go_wp2_with fail
      refine h3.mono ?_
      rintro _ w3 ⟨rfl, hb4⟩
      go_wp2_with fail
      go_ret
      exact ⟨rfl, hb1.trans ((hb3.mono hb1.size).trans (hb4.mono (by have := hb3.size; omega)))⟩
end Go.Proofs.YtnjfkijekohdkaaDoor
