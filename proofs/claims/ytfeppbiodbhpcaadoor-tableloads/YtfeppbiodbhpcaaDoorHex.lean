/- What table's readHex and readPoint do (contracts; nothing is claimed here). -/
import Derived.Test.YtfeppbiodbhpcaaDoorPt
import Derived.Test.YtfeppbiodbhpcaaDoorShelf
namespace Go.Proofs.YtfeppbiodbhpcaaDoor
open Go.RowKit Go.Vf

theorem drop_at (s : ByteArray) (k : Nat) (hk : k < s.size) : s.data.toList.drop k = s[k] :: s.data.toList.drop (k + 1) := by
  rw [List.drop_eq_getElem_cons (by rw [← Lib.size_eq]; exact hk)]
  rfl
theorem drop_end (s : ByteArray) (k : Nat) (hk : s.size ≤ k) : s.data.toList.drop k = [] := List.drop_of_length_le (by rw [← Lib.size_eq]; exact hk)
theorem head_at (s : ByteArray) (h : 0 < s.size) : s.data.toList.head? = some s[0] := by
  have := drop_at s 0 h
  rw [List.drop_zero] at this
  rw [this]; rfl
theorem hexV_lt {c : UInt8} {d : Nat} (h : hexV c = some d) : d < 16 := by
  unfold hexV at h
  split at h
  · simp at h; omega
  · split at h
    · simp at h; omega
    · cases h

def digV (c : UInt8) : Int := match hexV c with
  | some d => (d : Int)
  | none => -1
theorem index_all : ((List.range 256).all fun n => Lib.indexByte [48, 49, 50, 51, 52, 53, 54, 55, 56, 57, 65, 66, 67, 68, 69, 70] (UInt8.ofNat n) == digV (UInt8.ofNat n)) = true := by kernel_rfl
theorem index_dig (c : UInt8) : Lib.indexByte [48, 49, 50, 51, 52, 53, 54, 55, 56, 57, 65, 66, 67, 68, 69, 70] c = digV c := by
  have := List.all_eq_true.1 index_all c.toNat (List.mem_range.2 c.toNat_lt)
  rw [show UInt8.ofNat c.toNat = c by simp] at this
  exact beq_iff_eq.1 this
theorem dig_call (c : UInt8) (w : World) : Calls Tryd.prog 119 #[.string ⟨#[48, 49, 50, 51, 52, 53, 54, 55, 56, 57, 65, 66, 67, 68, 69, 70]⟩, .int .u8 (c.toNat : Int)] w fun e w' => e = .returned (.int .i64 (digV c)) ∧ w = w' := by
  refine (Tryd.strings_IndexByte ⟨#[48, 49, 50, 51, 52, 53, 54, 55, 56, 57, 65, 66, 67, 68, 69, 70]⟩ (c.toNat : Int) w).mono ?_
  rintro e w' ⟨rfl, rfl⟩
  refine ⟨?_, rfl⟩
  rw [show ((c.toNat : Int).toNat.toUInt8) = c by simp, show (⟨#[48, 49, 50, 51, 52, 53, 54, 55, 56, 57, 65, 66, 67, 68, 69, 70]⟩ : ByteArray).data.toList = [48, 49, 50, 51, 52, 53, 54, 55, 56, 57, 65, 66, 67, 68, 69, 70] from rfl, index_dig]

def gotH : Option Nat → Value
  | some n => .tuple #[.int .i64 (n : Int), .bool true]
  | none => .tuple #[.int .i64 0, .bool false]
theorem numB_lt : ∀ (s : List UInt8) (m n : Nat), numB hexV 16 s m = some n → n < (m + 1) * 16 ^ s.length := by
  intro s m n h
  obtain ⟨r, hr, hn, _⟩ := pad_numB s m n h
  rw [hn, Nat.add_mul]; omega

set_option maxHeartbeats 1000000 in
theorem readHex_any (s : ByteArray) (w : World) (hs : s.size ≤ 14) :
    Calls Tryd.prog 104 #[.string s] w fun e w' => e = .returned (gotH (hexN s.data.toList)) ∧ w = w' := by
  have hsl : s.data.toList.length = s.size := (Lib.size_eq s).symm
  generalize hR : hexN s.data.toList = R
  have HR : Hid (hexN s.data.toList = R) := hR
  clear hR
  go_enter Tryd.func104, Tryd.ntmps104
  go_wp2
  go_loopw [9, 4] (fun i n wr => ∃ (k m : Nat), i = .int .i64 (k : Int) ∧ n = .int .i64 (m : Int) ∧ k ≤ s.size ∧ m < 16 ^ k ∧ Hid (numB hexV 16 (s.data.toList.drop k) m = R) ∧ wr = w) (fun i _ _ => s.size - (intOf i).toNat)
  case atStart => exact ⟨0, 0, rfl, rfl, by omega, by simp, HR, rfl⟩
  case round =>
    obtain ⟨k, m, rfl, rfl, hk, hm, HX, rfl⟩ := hrel
    have hp : 16 ^ k ≤ 16 ^ 14 := Nat.pow_le_pow_right (by omega) (by omega)
    have hm14 : m < 16 ^ 14 := by omega
    by_cases hlt : k < s.size
    · have hd := drop_at s k hlt
      have hc := dig_call s[k] wr
      cases hv : hexV s[k] with
      | none =>
        have hdv : digV s[k] = -1 := by unfold digV; rw [hv]
        rw [hdv] at hc
        have hRn : Hid (R = none) := by
          show _ = _
          rw [← HX.out, hd, numB, hv]
        clear hd hdv HX
        go_wp2_with fail
        refine hc.mono ?_
        rintro e w1 ⟨rfl, rfl⟩
        go_wp2
        go_ret2
        exact ⟨by rw [hRn.out]; rfl, rfl⟩
      | some d =>
        have hd16 := hexV_lt hv
        have hdv : digV s[k] = (d : Int) := by unfold digV; rw [hv]
        rw [hdv] at hc
        have HX2 : Hid (numB hexV 16 (s.data.toList.drop (k + 1)) (m * 16 + d) = R) := by
          show _ = _
          rw [← HX.out, hd, numB, hv]
        clear hd hdv HX
        go_wp2_with fail
        refine hc.mono ?_
        rintro e w1 ⟨rfl, rfl⟩
        go_wp2
        go_roundw
        case rel => exact ⟨k + 1, m * 16 + d, by simp, by simp, by omega, by rw [Nat.pow_succ]; omega, HX2, trivial⟩
        case measure => simp only [intOf]; omega
    · have hRn : Hid (R = some m) := by
        show _ = _
        rw [← HX.out, drop_end s k (by omega)]; rfl
      clear HX
      go_wp2
      go_ret2
      exact ⟨by rw [hRn.out]; rfl, rfl⟩

def gotP : Option Int → Value
  | some n => .tuple #[.int .i64 n, .bool true]
  | none => .tuple #[.int .i64 0, .bool false]
theorem gotH_P (o : Option Nat) : gotH o = gotP (o.map fun n => (n : Int)) := by cases o <;> rfl
theorem byte_eq {a b : UInt8} (h : a = b) : ((a.toNat : Int) == (b.toNat : Int)) = true := by subst h; simp
theorem byte_ne {a b : UInt8} (h : a ≠ b) : ((a.toNat : Int) == (b.toNat : Int)) = false := by
  rw [beq_eq_false_iff_ne]
  intro e
  exact h (UInt8.toNat_inj.1 (by omega))

set_option maxHeartbeats 1000000 in
theorem readPoint_any (s : ByteArray) (w : World) (hs : s.size ≤ 17179869184) :
    Calls Tryd.prog 85 #[.string s] w fun e w' => e = .returned (gotP (ptR s.data.toList)) ∧ w = w' := by
  have hsl : s.data.toList.length = s.size := (Lib.size_eq s).symm
  by_cases hlen : s.size = 4 ∨ (4 < s.size ∧ s.size ≤ 6 ∧ s.data.toList.head? ≠ some 48)
  · have e1 : gotP (ptR s.data.toList) = gotH (hexN s.data.toList) := by
      rw [gotH_P]; unfold ptR; rw [hsl, if_pos hlen]
    rw [e1]
    clear e1
    have hr := readHex_any s w (by omega)
    generalize hexN s.data.toList = R at hr ⊢
    rcases hlen with h4 | ⟨h5, h6, h7⟩
    · have a1 : ¬ s.size < 4 := by omega
      have a2 : ¬ 6 < s.size := by omega
      have a3 : ¬ 4 < s.size := by omega
      clear h4
      go_enter Tryd.func85, Tryd.ntmps85
      go_wp2_with fail
      refine hr.mono ?_
      rintro e w1 ⟨rfl, rfl⟩
      cases R with
      | none => simp only [gotH]; go_wp2; go_ret2; exact ⟨rfl, rfl⟩
      | some n => simp only [gotH]; go_wp2; go_ret2; exact ⟨rfl, rfl⟩
    · have a1 : ¬ s.size < 4 := by omega
      have a2 : ¬ 6 < s.size := by omega
      have hz : s[0]'(by omega) ≠ 48 := fun e => h7 (by rw [head_at s (by omega), e])
      have hb : (((s[0]'(by omega)).toNat : Int) == 48) = false := byte_ne (b := 48) hz
      clear h7 hz
      go_enter Tryd.func85, Tryd.ntmps85
      go_wp2_with fail
      refine hr.mono ?_
      rintro e w1 ⟨rfl, rfl⟩
      cases R with
      | none => simp only [gotH]; go_wp2; go_ret2; exact ⟨rfl, rfl⟩
      | some n => simp only [gotH]; go_wp2; go_ret2; exact ⟨rfl, rfl⟩
  · have e1 : ptR s.data.toList = none := by unfold ptR; rw [hsl, if_neg hlen]
    rw [e1]
    clear e1
    by_cases a1 : s.size < 4
    · clear hlen
      go_enter Tryd.func85, Tryd.ntmps85
      go_wp2
      go_ret2
      exact ⟨rfl, rfl⟩
    · by_cases a2 : 6 < s.size
      · clear hlen
        go_enter Tryd.func85, Tryd.ntmps85
        go_wp2
        go_ret2
        exact ⟨rfl, rfl⟩
      · have a3 : 4 < s.size := by omega
        have hz : s[0]'(by omega) = 48 := by
          have h0 := head_at s (by omega)
          rcases Decidable.em (s[0]'(by omega) = 48) with h | h
          · exact h
          · exact absurd (.inr ⟨a3, by omega, fun e => h (Option.some.inj (h0.symm.trans e))⟩) hlen
        have hb : (((s[0]'(by omega)).toNat : Int) == 48) = true := byte_eq (b := 48) hz
        clear hz hlen
        go_enter Tryd.func85, Tryd.ntmps85
        go_wp2
        go_ret2
        exact ⟨rfl, rfl⟩

end Go.Proofs.YtfeppbiodbhpcaaDoor
