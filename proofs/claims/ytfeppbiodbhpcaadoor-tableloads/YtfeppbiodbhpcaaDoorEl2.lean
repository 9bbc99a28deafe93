/- What table's allRight and Implied do (contracts; nothing is claimed here). -/
import Derived.Test.YtfeppbiodbhpcaaDoorEl
namespace Go.Proofs.YtfeppbiodbhpcaaDoor
open Go.RowKit Go.Vf Go.Maps

def allB (l : List El) : Bool := decide (1 ≤ l.length) && decide (l.length ≤ 16) && l.all rightB
theorem all_drop (l : List El) (k : Nat) (h : k < l.length) : (l.drop k).all rightB = (rightB l[k] && (l.drop (k + 1)).all rightB) := by
  rw [List.drop_eq_getElem_cons h, List.all_cons]

set_option maxHeartbeats 1000000 in
theorem allRight_any (n₀ : Nat) (v : Value) (l : List El) (w : World) (hn₀ : n₀ ≤ w.heap.size) (hin : Els n₀ w v l) (hll : l.length ≤ 4611686018427387904) :
    Calls Tryd.prog 37 #[v] w fun e w' => e = .returned (.bool (allB l)) ∧ Below w.heap.size w w' := by
  obtain ⟨a, cap, rfl⟩ := hin.val
  by_cases h0 : l.length = 0
  · have hR : allB l = false := by simp [allB, h0]
    rw [hR]
    rw [h0]
    clear hR
    go_enter Tryd.func37, Tryd.ntmps37
    go_wp2
    go_ret
    exact ⟨rfl, Below.refl _ _⟩
  · by_cases h16 : 16 < l.length
    · have hR : allB l = false := by simp [allB]; omega
      rw [hR]
      clear hR
      go_enter Tryd.func37, Tryd.ntmps37
      go_wp2
      go_ret
      exact ⟨rfl, Below.refl _ _⟩
    · have hR : allB l = l.all rightB := by
        unfold allB
        rw [show decide (1 ≤ l.length) = true by simp; omega, show decide (l.length ≤ 16) = true by simp; omega]
        rfl
      generalize allB l = R at hR ⊢
      have HR : Hid (R = l.all rightB) := hR
      clear hR
      have b0 : ((l.length : Int) == 0) = false := beq_eq_false_iff_ne.2 (by omega)
      have b16 : decide ((16 : Int) < (l.length : Int)) = false := by simp; omega
      have H0 : Hid (1 ≤ l.length ∧ l.length ≤ 16) := ⟨by omega, by omega⟩
      clear h0 h16
      go_enter Tryd.func37, Tryd.ntmps37
      go_wp2_with fail
      go_loopw [15] (fun i wr => ∃ k : Nat, k ≤ l.length ∧ i = .int .i64 k ∧ Hid (R = (l.drop k).all rightB) ∧ Below w.heap.size w wr) (fun i _ => l.length - (intOf i).toNat)
      case atStart => exact ⟨0, by omega, rfl, HR, Below.refl _ _⟩
      case round =>
        clear HR
        obtain ⟨k, hk, rfl, HK, hbel⟩ := hrel
        by_cases hlt : k < l.length
        · obtain ⟨b, off, rfl, c0, c1, c2, c3⟩ := (hin.below hbel hn₀).at hlt
          have hd := all_drop l k hlt
          have hKK := HK.out
          rw [hd] at hKK
          generalize l[k] = e at c0 c1 c2 c3 hKK
          obtain ⟨va, pr, se, te⟩ := e
          simp only at c0 c1 c2 c3
          have hb1 := hbel.alloc hbel.size (.cells #[.bool va, .int .i64 pr, .int .i64 se, .int .i64 te] 49)
          have HKK : Hid (R = (rightB ⟨va, pr, se, te⟩ && (l.drop (k + 1)).all rightB)) := hKK
          clear hKK HK hd
          go_wp2_with fail
          generalize wr.alloc (.cells #[.bool va, .int .i64 pr, .int .i64 se, .int .i64 te] 49) = W at hb1 ⊢
          refine (isRight_any ⟨va, pr, se, te⟩ W).mono ?_
          rintro _ w2 ⟨rfl, hb2⟩
          have hb3 : Below w.heap.size w w2 := hb1.trans (hb2.mono hb1.size)
          cases hq : rightB ⟨va, pr, se, te⟩ with
          | false =>
            have hRn : R = false := by rw [HKK.out, hq]; rfl
            clear HKK hq
            go_wp2
            go_ret
            exact ⟨by rw [hRn]; rfl, hb3⟩
          | true =>
            have HK2 : Hid (R = (l.drop (k + 1)).all rightB) := by
              show _ = _
              rw [HKK.out, hq]; rfl
            clear HKK hq
            go_wp2
            go_roundw
            case rel => exact ⟨k + 1, by omega, by simp, HK2, hb3⟩
            case measure => simp only [intOf]; omega
        · have hRn : R = true := by rw [HK.out, List.drop_of_length_le (by omega)]; rfl
          clear HK
          go_wp2
          go_ret
          exact ⟨by rw [hRn]; rfl, hbel⟩

/-- What is implied. -/
def impR (n : Int) : List El := if isPtB n then [⟨false, baseR n + n / 32768, 32, 2⟩, ⟨false, 32768 + n % 32768, 0, 0⟩] else []
theorem base_in (n : Int) : 64320 ≤ baseR n ∧ baseR n ≤ 64448 := by
  unfold baseR; split
  · omega
  · split <;> omega
theorem and_low (u : Nat) (hu : u ≤ 1114111) : bits BinOp.and IntKind.i64 (u : Int) 32767 = ((u % 32768 : Nat) : Int) := by
  have h1 : (BitVec.ofInt 64 (u : Int)).toNat = u := by
    rw [BitVec.ofInt_natCast, BitVec.toNat_ofNat]; exact Nat.mod_eq_of_lt (by omega)
  have h2 : (BitVec.ofInt 64 (32767 : Int)).toNat = 32767 := by decide
  have h3 : u &&& 32767 = u % 32768 := Nat.and_two_pow_sub_one_eq_mod u 15
  show IntKind.i64.wrap ((BitVec.ofInt 64 (u : Int) &&& BitVec.ofInt 64 (32767 : Int)).toNat : Int) = _
  rw [BitVec.toNat_and, h1, h2, h3]
  have h4 : u % 32768 < 32768 := Nat.mod_lt _ (by omega)
  generalize u % 32768 = q at h4
  exact IntWalk.i64_in _ ⟨by omega, by omega⟩

theorem own_new (w : World) (l : List El) (hl : l.length ≤ 1048576) : EOwn (w.alloc (.cells (elsV l).toArray 49)) w.heap.size (.slice (some ⟨w.heap.size, 0, none⟩) l.length l.length) l := by
  refine ⟨?_, .inr ⟨w.heap.size, l.length, (elsV l).toArray, rfl, Nat.le_refl _, Blk.new w 49 _, Nat.le_refl _, ?_, ?_, ?_⟩⟩
  · simp [elsV_len]
  · unfold maxLen; omega
  · simp [elsV_len]
  · simp [elsV_len, List.take_of_length_le]

set_option maxHeartbeats 1000000 in
theorem implied_any (n : Int) (w : World) : Calls Tryd.prog 19 #[.int .i64 n] w fun e w' => ∃ v, e = .returned v ∧ EOwn w' w.heap.size v (impR n) ∧ Below w.heap.size w w' ∧ (v = .slice none 0 0 ∨ v = .slice (some ⟨w.heap.size, 0, none⟩) 2 2) := by
  cases hp : isPtB n with
  | false =>
    have hR : impR n = [] := by unfold impR; rw [hp]; rfl
    rw [hR]
    have h1 := fun w => isPoint_any n w
    rw [hp] at h1
    clear hR hp
    go_enter Tryd.func19, Tryd.ntmps19
    go_wp2_with fail
    refine (h1 _).mono ?_
    rintro _ w1 ⟨rfl, rfl⟩
    go_wp2
    go_ret
    exact ⟨_, rfl, EOwn.nil _ _, Below.refl _ _, .inl rfl⟩
  | true =>
    have h1 := fun w => isPoint_any n w
    rw [hp] at h1
    obtain ⟨u, rfl, hu⟩ := isPtB_nat hp
    have hR : impR (u : Int) = [⟨false, baseR u + (u : Int) / 32768, 32, 2⟩, ⟨false, 32768 + (u : Int) % 32768, 0, 0⟩] := by unfold impR; rw [hp]; rfl
    have hbi := base_in u
    have hand := and_low u hu
    have hq : (0 : Int) ≤ (u : Int) / 32768 ∧ (u : Int) / 32768 ≤ 34 := by omega
    have hm : ((u % 32768 : Nat) : Int) < 32768 := by omega
    generalize impR (u : Int) = R at hR ⊢
    have HR : Hid (R = [⟨false, baseR u + (u : Int) / 32768, 32, 2⟩, ⟨false, 32768 + (u : Int) % 32768, 0, 0⟩]) := hR
    clear hp hR
    have h2 := fun w => base_any (u : Int) w
    generalize baseR (u : Int) = B at hbi h2 HR
    go_enter Tryd.func19, Tryd.ntmps19
    go_wp2_with fail
    refine (h1 _).mono ?_
    rintro _ w1 ⟨rfl, rfl⟩
    go_wp2_with fail
    refine (h2 _).mono ?_
    rintro _ w1 ⟨rfl, rfl⟩
    go_wp2_with fail
    go_ret
    have ho := own_new w R (by rw [HR.out]; simp)
    refine ⟨_, rfl, ?_, (Below.refl _ _).alloc (Nat.le_refl _) _, .inr rfl⟩
    rw [HR.out] at ho ⊢
    exact ho

end Go.Proofs.YtfeppbiodbhpcaaDoor
