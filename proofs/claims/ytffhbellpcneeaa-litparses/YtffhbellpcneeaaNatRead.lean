/- What nat.readDigits and nat.needDigits do (contracts; nothing is claimed here). -/
import Derived.Test.YtffhbellpcneeaaNatAppT
namespace Go.Proofs.Ytffhbellpcneeaa
open Go.RowKit Go.Vf

def readE (l : List UInt8) : Ending := if (lowD (dval l)).length ≤ 255 then .returned (.string (bs (lowD (dval l)).reverse)) else lost 21 0

theorem extract_front (r : List UInt8) (n : Nat) : ((bs r).extract 0 n).data.toList = r.take n := by simp [bs]
theorem extract_back (r : List UInt8) (n : Nat) : (bs r).extract n (bs r).size = bs (r.drop n) := data_inj (by rw [bs_data, bs_size]; simp [bs]; exact List.take_of_length_le (by simp))
theorem dval_mono (a b : List UInt8) : dval a ≤ dval (a ++ b) := by
  rw [dval_append]
  have : dval a ≤ dval a * 10 ^ b.length := Nat.le_mul_of_pos_right _ (Nat.pos_of_ne_zero (by simp))
  omega

set_option maxHeartbeats 1000000 in
theorem readDigits_any (s : ByteArray) (hs : s.size ≤ 17179869184) (hdig : ∀ x ∈ s.data.toList, isDig x = true) (w : World) :
    Calls Try.prog 85 #[.string s] w fun e w' => e = readE s.data.toList ∧ Below w.heap.size w w' := by
  have hsl : s.data.toList.length = s.size := (Lib.size_eq s).symm
  go_enter Try.func85, Try.ntmps85
  go_wp2
  go_loopw [0, 3] (fun x v wr => ∃ a r : List UInt8, Hid (s.data.toList = a ++ r) ∧ r.length ≤ s.size ∧ x = .string (bs r) ∧ BOwn 5 wr w.heap.size v (lowD (dval a)) ∧ (lowD (dval a)).length ≤ 255 ∧ Below w.heap.size w wr ∧ w.heap.size ≤ wr.heap.size) (fun x _ _ => match x with | .string b => b.size | _ => 0)
  case atStart => exact ⟨[], s.data.toList, rfl, by omega, by rw [bs_of], by simpa [dval, tval, lowD_zero] using BOwn.nil _ _ _, by simp [dval, tval, lowD_zero], Below.refl _ _, Nat.le_refl _⟩
  case round =>
    obtain ⟨a, r, HA, hrl, rfl, hown, hlen, hbel, hsz⟩ := hrel
    have hbr := bs_size r
    by_cases hr : r.length = 0
    · obtain rfl : r = [] := List.eq_nil_of_length_eq_zero hr
      have ha := HA.out
      rw [List.append_nil] at ha
      go_wp2_with fail
      refine (turnedRound_own _ _ _ (by omega) _ hown).mono ?_
      rintro e w2 ⟨rfl, hb2⟩
      go_wp2
      go_ret
      refine ⟨?_, hbel.trans hb2⟩
      rw [readE, ha, if_pos hlen]
      rfl
    · have hdr : ∀ x ∈ r, isDig x = true := fun x hx => hdig x (by rw [HA.out]; simp [hx])
      go_wp2_with fail
      · have hn9 : 9 ≤ 9 := by omega
        have hnr : 9 ≤ r.length := by omega
        have hn0 : 0 < 9 := by omega
        have hfd := extract_front r 9
        have hfs : ((bs r).extract 0 9).size = 9 := by rw [Lib.size_eq, hfd, List.length_take]; omega
        refine (append10_own w.heap.size _ (dval a) (lowD_length_le.1 hlen) _ (by omega) (by rw [hfd]; exact fun x hx => hdr x (List.mem_of_mem_take hx)) _ hsz hown).mono ?_
        rintro e w1 ⟨v1, rfl, hown1, hbel1, hsz1⟩
        rw [hfd, hfs, show dval a * 10 ^ 9 + dval (r.take 9) = dval (a ++ r.take 9) by rw [dval_append, List.length_take, Nat.min_eq_left hnr]] at hown1
        have hbel2 := hbel.trans hbel1
        have HA2 : Hid (s.data.toList = (a ++ r.take 9) ++ r.drop 9) := by show _ = _; rw [HA.out, List.append_assoc, List.take_append_drop]
        have hxb : (bs r).extract 9 r.length = bs (r.drop 9) := by have := extract_back r 9; rwa [bs_size] at this
        have HL : Hid ((lowD (dval (a ++ r.take 9))).length ≤ (lowD (dval s.data.toList)).length) := lowD_length_mono (by rw [HA2.out]; exact dval_mono _ _)
        have hdl : (r.drop 9).length = r.length - 9 := by simp
        have hdb := bs_size (r.drop 9)
        have HM : Hid (∀ m, dval (a ++ r.take 9) = m → (lowD m).length ≤ (lowD (dval s.data.toList)).length) := fun m hm => by rw [← hm]; exact HL.out
        clear HL
        generalize hm1 : dval (a ++ r.take 9) = m1 at hown1
        have HM1 : Hid (dval (a ++ r.take 9) = m1) := hm1
        clear hfd hown HA hdr hm1 hdig
        rcases hown1.form with ⟨rfl, hnil⟩ | ⟨g, cap, rfl, _, _, _, _⟩
        · have hl1 : (lowD m1).length = 0 := by rw [hnil]; rfl
          clear hnil
          go_wp2
          go_roundw
          case rel => exact ⟨_, _, HA2, by omega, by rfl, by rw [HM1.out]; exact hown1, by rw [HM1.out]; omega, hbel2, hsz1⟩
          case measure => simp only; omega
        · by_cases hlong : 255 < (lowD m1).length
          · go_wp2
            refine ⟨rfl, ?_, hbel2⟩
            rw [readE, if_neg (by have := HM.out _ HM1.out; omega)]
          · go_wp2
            go_roundw
            case rel => exact ⟨_, _, HA2, by omega, by rfl, by rw [HM1.out]; exact hown1, by rw [HM1.out]; omega, hbel2, hsz1⟩
            case measure => simp only; omega
      · have hn9 : r.length ≤ 9 := by omega
        have hnr : r.length ≤ r.length := by omega
        have hn0 : 0 < r.length := by omega
        have hfd := extract_front r r.length
        have hfs : ((bs r).extract 0 r.length).size = r.length := by rw [Lib.size_eq, hfd, List.length_take]; omega
        refine (append10_own w.heap.size _ (dval a) (lowD_length_le.1 hlen) _ (by omega) (by rw [hfd]; exact fun x hx => hdr x (List.mem_of_mem_take hx)) _ hsz hown).mono ?_
        rintro e w1 ⟨v1, rfl, hown1, hbel1, hsz1⟩
        rw [hfd, hfs, show dval a * 10 ^ r.length + dval (r.take r.length) = dval (a ++ r.take r.length) by rw [dval_append, List.length_take, Nat.min_eq_left hnr]] at hown1
        have hbel2 := hbel.trans hbel1
        have HA2 : Hid (s.data.toList = (a ++ r.take r.length) ++ r.drop r.length) := by show _ = _; rw [HA.out, List.append_assoc, List.take_append_drop]
        have hxb : (bs r).extract r.length r.length = bs (r.drop r.length) := by have := extract_back r r.length; rwa [bs_size] at this
        have HL : Hid ((lowD (dval (a ++ r.take r.length))).length ≤ (lowD (dval s.data.toList)).length) := lowD_length_mono (by rw [HA2.out]; exact dval_mono _ _)
        have hdl : (r.drop r.length).length = r.length - r.length := by simp
        have hdb := bs_size (r.drop r.length)
        have HM : Hid (∀ m, dval (a ++ r.take r.length) = m → (lowD m).length ≤ (lowD (dval s.data.toList)).length) := fun m hm => by rw [← hm]; exact HL.out
        clear HL
        generalize hm1 : dval (a ++ r.take r.length) = m1 at hown1
        have HM1 : Hid (dval (a ++ r.take r.length) = m1) := hm1
        clear hfd hown HA hdr hm1 hdig
        rcases hown1.form with ⟨rfl, hnil⟩ | ⟨g, cap, rfl, _, _, _, _⟩
        · have hl1 : (lowD m1).length = 0 := by rw [hnil]; rfl
          clear hnil
          go_wp2
          go_roundw
          case rel => exact ⟨_, _, HA2, by omega, by rw [List.drop_length]; rfl, by rw [HM1.out]; exact hown1, by rw [HM1.out]; omega, hbel2, hsz1⟩
          case measure => show 0 < (bs r).size; omega
        · by_cases hlong : 255 < (lowD m1).length
          · go_wp2
            refine ⟨rfl, ?_, hbel2⟩
            rw [readE, if_neg (by have := HM.out _ HM1.out; omega)]
          · go_wp2
            go_roundw
            case rel => exact ⟨_, _, HA2, by omega, by rw [List.drop_length]; rfl, by rw [HM1.out]; exact hown1, by rw [HM1.out]; omega, hbel2, hsz1⟩
            case measure => show 0 < (bs r).size; omega
end Go.Proofs.Ytffhbellpcneeaa
