/- Contracts and lemmas (nothing is claimed here). -/
import Derived.Test.YtcbjnifoojjipaaGreatDoorJ6
import Derived.Test.YtcbjnifoojjipaaGreatDoorJ4
import Derived.Laws.OwnMore
namespace Go.Proofs.YtcbjnifoojjipaaGreatDoor
open Go.RowKit Go.Vf
theorem u8_wrap (x : Int) : IntKind.u8.wrap x = x % 256 := by simp [IntKind.wrap, IntKind.signed, IntKind.bits]
theorem own_set {e : TypeId} {w : World} {base g n cap : Nat} {l : List UInt8} (h : BOwn e w base (.slice (some ⟨g, 0, none⟩) n cap) l) (k : Nat) (x : UInt8) (hn : n = l.length) :
    BOwn e (w.setCell ⟨g, k, none⟩ (.int .u8 (x.toNat : Int))) base (.slice (some ⟨g, 0, none⟩) n cap) (l.set k x) := by
  subst hn
  unfold BOwn at h ⊢
  have := (World.ownsRow.stored h k (.int .u8 (x.toNat : Int))).1
  rw [List.length_set]
  rwa [show cellsL (l.set k x) = (cellsL l).set k (.int .u8 (x.toNat : Int)) by simp [cellsL, List.map_set]]
set_option maxHeartbeats 1000000 in
theorem append10_slice (base g cap n : Nat) (l : List UInt8) (hl : l.length = n) (hcan : l.getLast? ≠ some 0) (hn : n ≤ 1000) (d : ByteArray) (hd : d.size ≤ 9) (hdig : ∀ x ∈ d.data.toList, isDig x = true) (R : List UInt8) (HR : Hid (lowD (lval l * 10 ^ d.size + dval d.data.toList) = R)) (w : World)
    (hown : BOwn 5 w base (.slice (some ⟨g, 0, none⟩) n cap) l) :
    Calls Tryz.prog 179 #[.slice (some ⟨g, 0, none⟩) n cap, .string d] w fun e w' => ∃ v', e = .returned v' ∧ BOwn 5 w' base v' R ∧ Below base w w' ∧ base ≤ w'.heap.size := by
  have hdl : d.data.toList.length = d.size := (Lib.size_eq d).symm
  go_enter Tryz.func179, Tryz.ntmps179
  go_wp2
  go_loopw [5, 6, 11] (fun x y i wr => ∃ k : Nat, k ≤ d.size ∧ i = .int .i64 k ∧ x = .int .u64 ((10 ^ k : Nat) : Int) ∧ y = .int .u64 (dval (d.data.toList.take k) : Int) ∧ BOwn 5 wr base (.slice (some ⟨g, 0, none⟩) n cap) l ∧ Below base w wr) (fun _ _ i _ => d.size - (intOf i).toNat)
  case atStart => exact ⟨0, Nat.zero_le _, rfl, rfl, rfl, hown, Below.refl _ _⟩
  case round =>
    obtain ⟨k, hk, rfl, rfl, rfl, hown, hbel⟩ := hrel
    by_cases hlt : k < d.size
    · have hx := hdig d[k] (by show d.data.toList[k]'(by omega) ∈ _; exact List.getElem_mem _)
      simp [isDig] at hx
      have hc := dval_lt (l := d.data.toList.take k) (fun x h => hdig x (List.mem_of_mem_take h))
      rw [List.length_take, hdl, Nat.min_eq_left hk] at hc
      have hs : 10 ^ k ≤ 10 ^ 8 := Nat.pow_le_pow_right (by decide) (by omega)
      rw [show (10 : Nat) ^ 8 = 100000000 by decide] at hs
      have HS : Hid (dval (d.data.toList.take (k + 1)) = 10 * dval (d.data.toList.take k) + (d[k].toNat - 48)) := by
        show _ = _
        rw [List.take_succ_eq_append_getElem (by omega), dval_snoc]
        rfl
      have HP : Hid (10 ^ (k + 1) = 10 ^ k * 10) := Nat.pow_succ 10 k
      generalize 10 ^ k = sc at hs hc HP ⊢
      generalize dval (d.data.toList.take k) = c at hc HS ⊢
      have w1 : IntKind.u64.wrap ((sc : Int) * 10) = (sc : Int) * 10 := by rw [u64_wrap]; omega
      have w2 : IntKind.u64.wrap ((c : Int) * 10) = (c : Int) * 10 := by rw [u64_wrap]; omega
      have w3 : IntKind.u8.wrap ((d[k].toNat : Int) - 48) = (d[k].toNat : Int) - 48 := by rw [u8_wrap]; omega
      have w4 : IntKind.u64.wrap ((d[k].toNat : Int) - 48) = (d[k].toNat : Int) - 48 := by rw [u64_wrap]; omega
      have w5 : IntKind.u64.wrap ((c : Int) * 10 + ((d[k].toNat : Int) - 48)) = (c : Int) * 10 + ((d[k].toNat : Int) - 48) := by rw [u64_wrap]; omega
      go_wp2
      go_region
      go_wp2
      go_roundw
      case rel => exact ⟨k + 1, by omega, by go_num, by rw [HP.out]; go_num, by rw [HS.out]; go_num, hown.drew, hbel.drew⟩
      case measure => simp [intOf]; omega
    · obtain rfl : k = d.size := by omega
      have hc := dval_lt hdig
      rw [hdl] at hc
      have hs : 10 ^ d.size ≤ 10 ^ 9 := Nat.pow_le_pow_right (by decide) (by omega)
      have hs1 : 1 ≤ 10 ^ d.size := Nat.pos_of_ne_zero (by simp)
      rw [show (10 : Nat) ^ 9 = 1000000000 by decide] at hs
      rw [List.take_of_length_le (by omega)]
      clear hdig hdl
      generalize 10 ^ d.size = sc at hs hs1 hc HR ⊢
      generalize dval d.data.toList = c0 at hc HR ⊢
      have hR := HR.out
      clear HR
      have hml := mul_low hcan (sc := sc) (c := c0) hs1
      have hmc := mulL_carry (sc := sc) l c0 (by omega)
      have hqn := mulL_length sc l c0
      rw [hR] at hml
      have hRl : R.length ≤ 1010 := by
        rw [← hml, List.length_append, hqn]
        have : (lowD (mulL sc c0 l).2).length ≤ 4 := lowD_length_le.2 (by rw [show (256 : Nat) ^ 4 = 4294967296 by decide]; omega)
        omega
      obtain ⟨⟨q, C⟩, hqC⟩ : ∃ z, mulL sc c0 l = z := ⟨_, rfl⟩
      rw [hqC] at hml hmc hqn
      have HML : Hid (q ++ lowD C = R) := hml
      clear hml hR
      go_wp2
      go_loopw [6, 27] (fun x i wr => ∃ k c : Nat, k ≤ n ∧ i = .int .i64 k ∧ x = .int .u64 c ∧ c ≤ sc ∧ Hid (mulL sc c (l.drop k) = (q.drop k, C)) ∧ BOwn 5 wr base (.slice (some ⟨g, 0, none⟩) n cap) (q.take k ++ l.drop k) ∧ Below base w wr) (fun _ i _ => n - (intOf i).toNat)
      case atStart => exact ⟨0, c0, Nat.zero_le _, rfl, rfl, by omega, by simpa [Hid] using hqC, by simpa using hown, hbel⟩
      case round =>
        obtain ⟨k, c, hk, rfl, rfl, hcs, HQ, hown, hbel⟩ := hrel
        by_cases hlt : k < n
        · obtain ⟨x, hx, hkl⟩ : ∃ x, l[k]'(by omega) = x ∧ l.drop k = x :: l.drop (k + 1) := ⟨_, rfl, List.drop_eq_getElem_cons (by omega)⟩
          have hx255 := x.toNat_lt
          obtain ⟨p, hp⟩ : ∃ p, x.toNat * sc = p := ⟨_, rfl⟩
          have hpb : p ≤ 255 * sc := by rw [← hp]; exact Nat.mul_le_mul_right _ (by omega)
          have hq := HQ.out
          rw [hkl, mulL, hp, Prod.mk.injEq, List.drop_eq_getElem_cons (show k < q.length by omega), List.cons.injEq] at hq
          obtain ⟨⟨hq1, hq2⟩, hq3⟩ := hq
          have HQ2 : Hid (mulL sc ((c + p) / 256) (l.drop (k + 1)) = (q.drop (k + 1), C)) := Prod.ext hq2 hq3
          have hmix := mix_length (a := q) (l := l) hqn k (by omega)
          have hg := mix_get hqn k (by omega) (by omega)
          rw [hx] at hg
          rcases hown.form with ⟨h0, _⟩ | ⟨g', cap', he, hbg, hcap1, hcap2, hrow⟩
          · cases h0
          have he' := he
          simp only [Value.slice.injEq, Option.some.injEq, Addr.mk.injEq, and_true] at he'
          obtain ⟨rfl, -, rfl⟩ := he'
          have hcell := hrow.cell k (by omega)
          rw [hg] at hcell
          have hfr := hrow.free k (by omega)
          have hst := own_set hown k (q[k]'(by omega)) (by omega)
          rw [mix_set hqn k (by omega), ← hq1, ofNat_mod] at hst
          have hbel2 := hbel.setCell (p := ⟨g, k, none⟩) hbg (.int .u8 (((c + p) % 256 : Nat) : Int))
          have hpi : ((x.toNat : Int) * (sc : Int)) = (p : Int) := by rw [← hp]; simp
          have w1 : IntKind.u64.wrap ((x.toNat : Int) * (sc : Int)) = (p : Int) := by rw [hpi, u64_wrap]; omega
          clear hpi hp
          clear hrow hmix hg he hq1 hq2 hq3 hkl HQ hqC hown
          go_wp2
          go_roundw
          case rel => exact ⟨k + 1, (c + p) / 256, by omega, by go_num, by go_num, by omega, HQ2, hst, hbel2⟩
          case measure => simp [intOf]; omega
        · obtain rfl : k = n := by omega
          have e1 : q.take k ++ l.drop k = q := by rw [List.take_of_length_le (by omega), List.drop_of_length_le (by omega), List.append_nil]
          have hq := HQ.out
          rw [List.drop_of_length_le (by omega), mulL] at hq
          obtain rfl : c = C := (Prod.mk.injEq .. ▸ hq).2
          rw [e1] at hown
          have hsz : base ≤ wr.heap.size := by
            rcases hown.form with ⟨h0, _⟩ | ⟨g', cap', he, hbg, hcap1, hcap2, hrow⟩
            · cases h0
            · have := (World.ownsRow.lt hown g' (by rw [he]; rfl))
              omega
          clear HQ hq e1 hqC
          go_wp2
          go_loopw [0, 6] (fun v x wr => ∃ (u : Nat) (acc : List UInt8), u ≤ 1000000000 ∧ x = .int .u64 u ∧ BOwn 5 wr base v acc ∧ Hid (acc ++ lowD u = R) ∧ Below base w wr ∧ base ≤ wr.heap.size) (fun _ x _ => (intOf x).toNat)
          case atStart => exact ⟨c, q, by omega, rfl, hown, HML, hbel, hsz⟩
          case round =>
            obtain ⟨u, acc, hu, rfl, hown, hacc, hbel, hsz⟩ := hrel
            by_cases h0 : u = 0
            · subst h0
              obtain rfl : acc = R := by have := hacc.out; rwa [lowD_zero, List.append_nil] at this
              go_wp2
              go_ret
              exact ⟨_, rfl, hown, hbel, hsz⟩
            · have hstep : Hid ((acc ++ [UInt8.ofNat (u % 256)]) ++ lowD (u / 256) = R) := by
                show _ = _
                rw [← hacc.out, lowD_pos h0]
                simp
              have hlen : acc.length ≤ 1099511627776 := by
                have := congrArg List.length hacc.out
                rw [List.length_append] at this
                omega
              have hx : ((u % 256 : Nat) : Int) = ((UInt8.ofNat (u % 256)).toNat : Int) := by rw [ofNat_mod]
              go_wp2_with (at_builtin; refine wpList_append_byte rfl (.tmp 51) (.tmp 54) 130 rfl 5 Tryz.underlying130 info5 base _ _ rfl hown (UInt8.ofNat (u % 256)) _ hx 1 rfl hlen hsz base w hbel (Nat.le_refl _) ?_; intro v' w1 hown1 hbel1 hsz1)
              go_roundw
              case rel => exact ⟨u / 256, _, by omega, by go_num, hown1, hstep, hbel1, hsz1⟩
              case measure => simp [intOf]; omega
set_option maxHeartbeats 1000000 in
theorem append10_nil (base : Nat) (d : ByteArray) (hd : d.size ≤ 9) (hdig : ∀ x ∈ d.data.toList, isDig x = true) (R : List UInt8) (HR : Hid (lowD (dval d.data.toList) = R)) (w : World) (hsz : base ≤ w.heap.size) :
    Calls Tryz.prog 179 #[.slice none 0 0, .string d] w fun e w' => ∃ v', e = .returned v' ∧ BOwn 5 w' base v' R ∧ Below base w w' ∧ base ≤ w'.heap.size := by
  have hdl : d.data.toList.length = d.size := (Lib.size_eq d).symm
  go_enter Tryz.func179, Tryz.ntmps179
  go_wp2
  go_loopw [5, 6, 11] (fun x y i wr => ∃ k : Nat, k ≤ d.size ∧ i = .int .i64 k ∧ x = .int .u64 ((10 ^ k : Nat) : Int) ∧ y = .int .u64 (dval (d.data.toList.take k) : Int) ∧ Below base w wr ∧ base ≤ wr.heap.size) (fun _ _ i _ => d.size - (intOf i).toNat)
  case atStart => exact ⟨0, Nat.zero_le _, rfl, rfl, rfl, Below.refl _ _, hsz⟩
  case round =>
    obtain ⟨k, hk, rfl, rfl, rfl, hbel, hsz⟩ := hrel
    by_cases hlt : k < d.size
    · have hx := hdig d[k] (by show d.data.toList[k]'(by omega) ∈ _; exact List.getElem_mem _)
      simp [isDig] at hx
      have hc := dval_lt (l := d.data.toList.take k) (fun x h => hdig x (List.mem_of_mem_take h))
      rw [List.length_take, hdl, Nat.min_eq_left hk] at hc
      have hs : 10 ^ k ≤ 10 ^ 8 := Nat.pow_le_pow_right (by decide) (by omega)
      rw [show (10 : Nat) ^ 8 = 100000000 by decide] at hs
      have HS : Hid (dval (d.data.toList.take (k + 1)) = 10 * dval (d.data.toList.take k) + (d[k].toNat - 48)) := by
        show _ = _
        rw [List.take_succ_eq_append_getElem (by omega), dval_snoc]
        rfl
      have HP : Hid (10 ^ (k + 1) = 10 ^ k * 10) := Nat.pow_succ 10 k
      generalize 10 ^ k = sc at hs hc HP ⊢
      generalize dval (d.data.toList.take k) = c at hc HS ⊢
      have w1 : IntKind.u64.wrap ((sc : Int) * 10) = (sc : Int) * 10 := by rw [u64_wrap]; omega
      have w2 : IntKind.u64.wrap ((c : Int) * 10) = (c : Int) * 10 := by rw [u64_wrap]; omega
      have w3 : IntKind.u8.wrap ((d[k].toNat : Int) - 48) = (d[k].toNat : Int) - 48 := by rw [u8_wrap]; omega
      have w4 : IntKind.u64.wrap ((d[k].toNat : Int) - 48) = (d[k].toNat : Int) - 48 := by rw [u64_wrap]; omega
      have w5 : IntKind.u64.wrap ((c : Int) * 10 + ((d[k].toNat : Int) - 48)) = (c : Int) * 10 + ((d[k].toNat : Int) - 48) := by rw [u64_wrap]; omega
      go_wp2
      go_region
      go_wp2
      go_roundw
      case rel => exact ⟨k + 1, by omega, by go_num, by rw [HP.out]; go_num, by rw [HS.out]; go_num, hbel.drew, hsz⟩
      case measure => simp [intOf]; omega
    · obtain rfl : k = d.size := by omega
      have hc := dval_lt hdig
      rw [hdl] at hc
      have hs : 10 ^ d.size ≤ 10 ^ 9 := Nat.pow_le_pow_right (by decide) (by omega)
      rw [show (10 : Nat) ^ 9 = 1000000000 by decide] at hs
      rw [List.take_of_length_le (by omega)]
      clear hdig hdl
      generalize 10 ^ d.size = sc at hs hc ⊢
      generalize dval d.data.toList = c0 at hc HR ⊢
      have hRl : R.length ≤ 1010 := by
        rw [← HR.out]
        have : (lowD c0).length ≤ 4 := lowD_length_le.2 (by rw [show (256 : Nat) ^ 4 = 4294967296 by decide]; omega)
        omega
      go_wp2
      go_loopw [6, 27] (fun x i wr => i = .int .i64 0 ∧ x = .int .u64 c0 ∧ Below base w wr ∧ base ≤ wr.heap.size) (fun _ i _ => 0)
      case atStart => exact ⟨rfl, rfl, hbel, hsz⟩
      case round =>
        obtain ⟨rfl, rfl, hbel, hsz⟩ := hrel
        go_wp2
        go_loopw [0, 6] (fun v x wr => ∃ (u : Nat) (acc : List UInt8), u ≤ 1000000000 ∧ x = .int .u64 u ∧ BOwn 5 wr base v acc ∧ Hid (acc ++ lowD u = R) ∧ Below base w wr ∧ base ≤ wr.heap.size) (fun _ x _ => (intOf x).toNat)
        case atStart => exact ⟨c0, [], by omega, rfl, BOwn.nil _ _ _, HR, hbel, hsz⟩
        case round =>
          obtain ⟨u, acc, hu, rfl, hown, hacc, hbel, hsz⟩ := hrel
          by_cases h0 : u = 0
          · subst h0
            obtain rfl : acc = R := by have := hacc.out; rwa [lowD_zero, List.append_nil] at this
            go_wp2
            go_ret
            exact ⟨_, rfl, hown, hbel, hsz⟩
          · have hstep : Hid ((acc ++ [UInt8.ofNat (u % 256)]) ++ lowD (u / 256) = R) := by
              show _ = _
              rw [← hacc.out, lowD_pos h0]
              simp
            have hlen : acc.length ≤ 1099511627776 := by
              have := congrArg List.length hacc.out
              rw [List.length_append] at this
              omega
            have hx : ((u % 256 : Nat) : Int) = ((UInt8.ofNat (u % 256)).toNat : Int) := by rw [ofNat_mod]
            go_wp2_with (at_builtin; refine wpList_append_byte rfl (.tmp 51) (.tmp 54) 130 rfl 5 Tryz.underlying130 info5 base _ _ rfl hown (UInt8.ofNat (u % 256)) _ hx 1 rfl hlen hsz base w hbel (Nat.le_refl _) ?_; intro v' w1 hown1 hbel1 hsz1)
            go_roundw
            case rel => exact ⟨u / 256, _, by omega, by go_num, hown1, hstep, hbel1, hsz1⟩
            case measure => simp [intOf]; omega
theorem append10_own (base : Nat) (v : Value) (m : Nat) (hm : m < 256 ^ 255) (d : ByteArray) (hd : d.size ≤ 9) (hdig : ∀ x ∈ d.data.toList, isDig x = true) (w : World) (hsz : base ≤ w.heap.size) (hown : BOwn 5 w base v (lowD m)) :
    Calls Tryz.prog 179 #[v, .string d] w fun e w' => ∃ v', e = .returned v' ∧ BOwn 5 w' base v' (lowD (m * 10 ^ d.size + dval d.data.toList)) ∧ Below base w w' ∧ base ≤ w'.heap.size := by
  have hl := lowD_length_le.2 hm
  rcases hown.form with ⟨rfl, hn⟩ | ⟨g, cap, rfl, _, _, _, _⟩
  · obtain rfl := lowD_nil.1 hn
    exact append10_nil base d hd hdig _ (by show _ = _; simp) w hsz
  · exact append10_slice base g cap _ (lowD m) rfl (lowD_last m) (by omega) d hd hdig _ (by show _ = _; rw [lval_lowD]) w hown
def readE (l : List UInt8) : Ending := if (lowD (dval l)).length ≤ 255 then .returned (.string (bs (lowD (dval l)).reverse)) else lost 21 0
theorem extract_front (r : List UInt8) (n : Nat) : ((bs r).extract 0 n).data.toList = r.take n := by simp [bs]
theorem extract_back (r : List UInt8) (n : Nat) : (bs r).extract n (bs r).size = bs (r.drop n) := data_inj (by rw [bs_data, bs_size]; simp [bs]; exact List.take_of_length_le (by simp))
theorem dval_mono (a b : List UInt8) : dval a ≤ dval (a ++ b) := by
  rw [dval_append]
  have : dval a ≤ dval a * 10 ^ b.length := Nat.le_mul_of_pos_right _ (Nat.pos_of_ne_zero (by simp))
  omega
set_option maxHeartbeats 1000000 in
theorem readDigits_any (s : ByteArray) (hs : s.size ≤ 17179869184) (hdig : ∀ x ∈ s.data.toList, isDig x = true) (w : World) :
    Calls Tryz.prog 173 #[.string s] w fun e w' => e = readE s.data.toList ∧ Below w.heap.size w w' := by
  have hsl : s.data.toList.length = s.size := (Lib.size_eq s).symm
  go_enter Tryz.func173, Tryz.ntmps173
  go_wp2
  go_loopw [0, 3] (fun x v wr => ∃ a r : List UInt8, Hid (s.data.toList = a ++ r) ∧ r.length ≤ s.size ∧ x = .string (bs r) ∧ BOwn 5 wr w.heap.size v (lowD (dval a)) ∧ (lowD (dval a)).length ≤ 255 ∧ Below w.heap.size w wr ∧ w.heap.size ≤ wr.heap.size) (fun x _ _ => match x with | .string b => b.size | _ => 0)
  case atStart => exact ⟨[], s.data.toList, rfl, by omega, by rw [bs_of], by simpa [dval, tval, lowD_zero] using BOwn.nil _ _ _, by simp [dval, tval, lowD_zero], Below.refl _ _, Nat.le_refl _⟩
  case round =>
    obtain ⟨a, r, HA, hrl, rfl, hown, hlen, hbel, hsz⟩ := hrel
    have hbr := bs_size r
    by_cases hr : r.length = 0
    · obtain rfl : r = [] := List.eq_nil_of_length_eq_zero hr
      have ha := HA.out
      rw [List.append_nil] at ha
      go_wp2_with fail
      refine (turnedRound_own _ _ _ (by omega) _ hown).mono ?_
      rintro e w2 ⟨rfl, hb2⟩
      go_wp2
      go_ret
      refine ⟨?_, hbel.trans hb2⟩
      rw [readE, ha, if_pos hlen]
      rfl
    · have hdr : ∀ x ∈ r, isDig x = true := fun x hx => hdig x (by rw [HA.out]; simp [hx])
      go_wp2_with fail
      · have hn9 : 9 ≤ 9 := by omega
        have hnr : 9 ≤ r.length := by omega
        have hn0 : 0 < 9 := by omega
        have hfd := extract_front r 9
        have hfs : ((bs r).extract 0 9).size = 9 := by rw [Lib.size_eq, hfd, List.length_take]; omega
        refine (append10_own w.heap.size _ (dval a) (lowD_length_le.1 hlen) _ (by omega) (by rw [hfd]; exact fun x hx => hdr x (List.mem_of_mem_take hx)) _ hsz hown).mono ?_
        rintro e w1 ⟨v1, rfl, hown1, hbel1, hsz1⟩
        rw [hfd, hfs, show dval a * 10 ^ 9 + dval (r.take 9) = dval (a ++ r.take 9) by rw [dval_append, List.length_take, Nat.min_eq_left hnr]] at hown1
        have hbel2 := hbel.trans hbel1
        have HA2 : Hid (s.data.toList = (a ++ r.take 9) ++ r.drop 9) := by show _ = _; rw [HA.out, List.append_assoc, List.take_append_drop]
        have hxb : (bs r).extract 9 r.length = bs (r.drop 9) := by have := extract_back r 9; rwa [bs_size] at this
        have HL : Hid ((lowD (dval (a ++ r.take 9))).length ≤ (lowD (dval s.data.toList)).length) := lowD_length_mono (by rw [HA2.out]; exact dval_mono _ _)
        have hdl : (r.drop 9).length = r.length - 9 := by simp
        have hdb := bs_size (r.drop 9)
        have HM : Hid (∀ m, dval (a ++ r.take 9) = m → (lowD m).length ≤ (lowD (dval s.data.toList)).length) := fun m hm => by rw [← hm]; exact HL.out
        clear HL
        generalize hm1 : dval (a ++ r.take 9) = m1 at hown1
        have HM1 : Hid (dval (a ++ r.take 9) = m1) := hm1
        clear hfd hown HA hdr hm1 hdig
        rcases hown1.form with ⟨rfl, hnil⟩ | ⟨g, cap, rfl, _, _, _, _⟩
        · have hl1 : (lowD m1).length = 0 := by rw [hnil]; rfl
          clear hnil
          go_wp2
          go_roundw
          case rel => exact ⟨_, _, HA2, by omega, by rfl, by rw [HM1.out]; exact hown1, by rw [HM1.out]; omega, hbel2, hsz1⟩
          case measure => simp only; omega
        · by_cases hlong : 255 < (lowD m1).length
          · go_wp2
            refine ⟨rfl, ?_, hbel2⟩
            rw [readE, if_neg (by have := HM.out _ HM1.out; omega)]
          · go_wp2
            go_roundw
            case rel => exact ⟨_, _, HA2, by omega, by rfl, by rw [HM1.out]; exact hown1, by rw [HM1.out]; omega, hbel2, hsz1⟩
            case measure => simp only; omega
      · have hn9 : r.length ≤ 9 := by omega
        have hnr : r.length ≤ r.length := by omega
        have hn0 : 0 < r.length := by omega
        have hfd := extract_front r r.length
        have hfs : ((bs r).extract 0 r.length).size = r.length := by rw [Lib.size_eq, hfd, List.length_take]; omega
        refine (append10_own w.heap.size _ (dval a) (lowD_length_le.1 hlen) _ (by omega) (by rw [hfd]; exact fun x hx => hdr x (List.mem_of_mem_take hx)) _ hsz hown).mono ?_
        rintro e w1 ⟨v1, rfl, hown1, hbel1, hsz1⟩
        rw [hfd, hfs, show dval a * 10 ^ r.length + dval (r.take r.length) = dval (a ++ r.take r.length) by rw [dval_append, List.length_take, Nat.min_eq_left hnr]] at hown1
        have hbel2 := hbel.trans hbel1
        have HA2 : Hid (s.data.toList = (a ++ r.take r.length) ++ r.drop r.length) := by show _ = _; rw [HA.out, List.append_assoc, List.take_append_drop]
        have hxb : (bs r).extract r.length r.length = bs (r.drop r.length) := by have := extract_back r r.length; rwa [bs_size] at this
        have HL : Hid ((lowD (dval (a ++ r.take r.length))).length ≤ (lowD (dval s.data.toList)).length) := lowD_length_mono (by rw [HA2.out]; exact dval_mono _ _)
        have hdl : (r.drop r.length).length = r.length - r.length := by simp
        have hdb := bs_size (r.drop r.length)
        have HM : Hid (∀ m, dval (a ++ r.take r.length) = m → (lowD m).length ≤ (lowD (dval s.data.toList)).length) := fun m hm => by rw [← hm]; exact HL.out
        clear HL
        generalize hm1 : dval (a ++ r.take r.length) = m1 at hown1
        have HM1 : Hid (dval (a ++ r.take r.length) = m1) := hm1
        clear hfd hown HA hdr hm1 hdig
        rcases hown1.form with ⟨rfl, hnil⟩ | ⟨g, cap, rfl, _, _, _, _⟩
        · have hl1 : (lowD m1).length = 0 := by rw [hnil]; rfl
          clear hnil
          go_wp2
          go_roundw
          case rel => exact ⟨_, _, HA2, by omega, by rw [List.drop_length]; rfl, by rw [HM1.out]; exact hown1, by rw [HM1.out]; omega, hbel2, hsz1⟩
          case measure => show 0 < (bs r).size; omega
        · by_cases hlong : 255 < (lowD m1).length
          · go_wp2
            refine ⟨rfl, ?_, hbel2⟩
            rw [readE, if_neg (by have := HM.out _ HM1.out; omega)]
          · go_wp2
            go_roundw
            case rel => exact ⟨_, _, HA2, by omega, by rw [List.drop_length]; rfl, by rw [HM1.out]; exact hown1, by rw [HM1.out]; omega, hbel2, hsz1⟩
            case measure => show 0 < (bs r).size; omega
end Go.Proofs.YtcbjnifoojjipaaGreatDoor
