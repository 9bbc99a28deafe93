/- Contracts and lemmas (nothing is claimed here). -/
import Derived.Test.YtcbjnifoojjipaaGreatDoorJ6
namespace Go.Proofs.YtcbjnifoojjipaaGreatDoor
open Go.RowKit Go.Vf
def stripL (l : List UInt8) : List UInt8 := l.dropWhile (· == 0)
theorem stripL_zero (t : List UInt8) : stripL (0 :: t) = stripL t := by simp [stripL]
theorem stripL_val (l : List UInt8) : hvl (stripL l) = hvl l := by
  induction l with
  | nil => rfl
  | cons x t ih =>
    by_cases h : x = 0
    · subst h
      rw [stripL_zero, ih, hvl_cons]
      simp
    · simp [stripL, h]
theorem stripL_le (l : List UInt8) : (stripL l).length ≤ l.length := by
  induction l with
  | nil => exact Nat.le_refl _
  | cons x t ih =>
    by_cases h : x = 0
    · subst h
      rw [stripL_zero, List.length_cons]; omega
    · simp [stripL, h]
theorem stripL_head (l : List UInt8) : (stripL l).head? ≠ some 0 := by
  induction l with
  | nil => simp [stripL]
  | cons x t ih =>
    by_cases h : x = 0
    · subst h
      rw [stripL_zero]; exact ih
    · simp [stripL, h]
theorem stripL_self {l : List UInt8} (h : l.head? ≠ some 0) : stripL l = l := by
  cases l with
  | nil => rfl
  | cons x t =>
    have : x ≠ 0 := fun h1 => h (by rw [h1]; rfl)
    simp [stripL, this]
theorem digit_step {acc : List UInt8} {r H M e : Nat} (h : tval acc + 10 ^ acc.length * (r + 10 ^ (e + 1) * H) = M) :
    tval (acc ++ [UInt8.ofNat (48 + r % 10)]) + 10 ^ (acc ++ [UInt8.ofNat (48 + r % 10)]).length * (r / 10 + 10 ^ e * H) = M := by
  rw [tval_append, tval, ofNat_dig, List.length_append, List.length_singleton, Nat.pow_succ, tval, ← h]
  have e1 : 48 + r % 10 - 48 + 10 * 0 = r % 10 := by omega
  rw [e1, Nat.add_assoc, Nat.mul_assoc, ← Nat.mul_add]
  congr 2
  have e2 : 10 ^ (e + 1) * H = 10 * (10 ^ e * H) := by rw [Nat.pow_succ, Nat.mul_comm (10 ^ e) 10, Nat.mul_assoc]
  rw [e2]
  omega
theorem digs_snoc {acc : List UInt8} (h : ∀ x ∈ acc, isDig x = true) (r : Nat) : ∀ x ∈ acc ++ [UInt8.ofNat (48 + r % 10)], isDig x = true := by
  intro x hx
  rcases List.mem_append.1 hx with hx | hx
  · exact h x hx
  · rw [List.mem_singleton.1 hx]
    have := ofNat_dig r
    simp only [isDig, this, Bool.and_eq_true, decide_eq_true_eq]
    omega
theorem tval_drop {acc : List UInt8} (h : acc.getLast? = some 48) : tval acc.dropLast = tval acc := by
  obtain ⟨r, rfl⟩ := List.getLast?_eq_some_iff.1 h
  rw [tval_append, List.dropLast_concat]
  simp [tval]
theorem brow_front {w : World} {h : Nat} {a b : List UInt8} (hr : BRow w h (a ++ b)) : BRow w h a :=
  ⟨fun j hj => by have := hr.cell j (by rw [List.length_append]; omega); rwa [List.getElem_append_left hj] at this, fun j hj => hr.free j (by rw [List.length_append]; omega)⟩
theorem brow_below {w w' : World} {B h : Nat} {l : List UInt8} (hr : BRow w h l) (hb : Below B w w') (hB : h < B) : BRow w' h l :=
  ⟨fun j hj => (hb.cell (p := ⟨h, j, none⟩) hB).trans (hr.cell j hj), fun j hj => (hb.frozen (p := ⟨h, j, none⟩) hB).trans (hr.free j hj)⟩
theorem run_tail (W : World) (g off n cap : Nat) (hn : 1 ≤ n) :
    (Instr.slice 130 (.slice (some ⟨g, off, none⟩) n cap) (some (.int .i64 1)) none none).run Tryz.prog W = .ok (.slice (some ⟨g, if cap = 1 then off else off + 1, none⟩) (n - 1) (cap - 1)) W := by
  have ht' : Tryz.prog.underlying 130 = some (.slice (Tryz.prog.elem 130)) := by simp [Program.elem, Tryz.underlying130]
  have he : Tryz.prog.elem 130 = 5 := by simp [Program.elem, Tryz.underlying130]
  rw [run_slice_l W 130 _ _ _ ht' .i64 1 (by omega) (by omega), he, size5]
  by_cases h1 : cap = 1
  · simp [Result.andThen, sliced, h1]
  · simp [Result.andThen, sliced, Addr.add, h1]
theorem run_front (W : World) (g n k cap : Nat) (hk : k ≤ cap) (hc : cap ≠ 0) (i : Int) (hi : i = (k : Int)) :
    (Instr.slice 130 (.slice (some ⟨g, 0, none⟩) n cap) none (some (.int .i64 i)) none).run Tryz.prog W = .ok (.slice (some ⟨g, 0, none⟩) k cap) W := by
  subst hi
  have ht' : Tryz.prog.underlying 130 = some (.slice (Tryz.prog.elem 130)) := by simp [Program.elem, Tryz.underlying130]
  have he : Tryz.prog.elem 130 = 5 := by simp [Program.elem, Tryz.underlying130]
  rw [run_slice_h W 130 _ _ _ ht' .i64 (k : Int) (by omega) (by omega), he, size5]
  simp [Result.andThen, sliced, Addr.add, hc]
def sliceN : Value → Nat
  | .slice _ n _ => n
  | _ => 0
set_option maxHeartbeats 4000000 in
set_option maxRecDepth 20000 in
theorem writeDigits_any (m : ByteArray) (hm : m.size ≤ 255) (M : Nat) (HV : Hid (hvl m.data.toList = M)) (hpos : M ≠ 0) (hhead : m.data.toList.head? ≠ some 0) (w : World) :
    Calls Tryz.prog 163 #[.string m] w fun e w' => e = .returned (.string (bs (decD M).reverse)) ∧ Below w.heap.size w w' := by
  obtain ⟨cap0, wc, hcv, hcap, hrow0, hbel0, hsz0⟩ := run_bytes_ex (P := Tryz.prog) w 9 130 5 m Tryz.underlying9 Tryz.underlying130 Tryz.underlying5
  have hl : m.data.toList.length = m.size := (Lib.size_eq m).symm
  go_enter Tryz.func163, Tryz.ntmps163
  go_wp2
  clear hcv
  go_loopw [3, 4] (fun x v wr => ∃ (off n cap : Nat) (pre l acc : List UInt8), x = .slice (some ⟨w.heap.size, off, none⟩) n cap ∧ l.length = n ∧ n ≤ cap ∧ off + n ≤ 255 ∧ (0 < n → pre.length = off ∧ BRow wr w.heap.size (pre ++ l)) ∧ Hid (l.head? ≠ some 0) ∧ BOwn 5 wr (w.heap.size + 1) v acc ∧ Hid (∀ x ∈ acc, isDig x = true) ∧ acc.length + 9 * n ≤ 2300 ∧ Hid (tval acc + 10 ^ acc.length * hvl l = M) ∧ Below w.heap.size w wr ∧ w.heap.size + 1 ≤ wr.heap.size) (fun x _ _ => sliceN x)
  case atStart => exact ⟨0, m.size, cap0, [], m.data.toList, [], rfl, hl, hcap, by omega, fun _ => ⟨rfl, hrow0⟩, hhead, BOwn.nil _ _ _, by simp [Hid], by simp; omega, by show _ = _; rw [HV.out]; simp [tval], hbel0, by omega⟩
  case round =>
    obtain ⟨off, n, cap, pre, l, acc, rfl, hln, hncap, hoff, hrow, Hhd, hown, Hdg, hacc, HT, hbel, hsz⟩ := hrel
    by_cases hn : n = 0
    · subst hn
      obtain rfl : l = [] := List.eq_nil_of_length_eq_zero hln
      have ht : tval acc = M := by have := HT.out; simpa [hvl, lval] using this
      clear HT hrow Hhd
      rcases hown.form with ⟨_, h0⟩ | ⟨gl, capl, rfl, hgl, hcl1, hcl2, hrl⟩
      · rw [h0] at ht; exact absurd ht.symm hpos
      have hcl0 : capl ≠ 0 := by
        intro h0
        have : acc = [] := List.eq_nil_of_length_eq_zero (by omega)
        rw [this] at ht; exact hpos ht.symm
      have HT2 : Hid (tval acc = M) := ht
      clear ht
      go_wp2
      go_loopw [4] (fun v wr' => ∃ (a : List UInt8) (n : Nat), v = .slice (some ⟨gl, 0, none⟩) n capl ∧ a.length = n ∧ n ≤ capl ∧ n ≤ 2300 ∧ BRow wr gl a ∧ Hid (∀ x ∈ a, isDig x = true) ∧ Hid (tval a = M) ∧ wr = wr') (fun v _ => sliceN v)
      case atStart => exact ⟨acc, acc.length, rfl, rfl, hcl1, by omega, hrl, Hdg, HT2, rfl⟩
      case round =>
        obtain ⟨a, n, rfl, han, hnc, hn23, hra, Hda, HTa, rfl⟩ := hrel
        obtain ⟨b, y, rfl⟩ : ∃ b y, a = b ++ [y] := by
          rcases List.eq_nil_or_concat a with h | ⟨b, y, h⟩
          · exfalso; rw [h] at HTa; exact hpos HTa.out.symm
          · exact ⟨b, y, by rw [h, List.concat_eq_append]⟩
        have hbn : b.length + 1 = n := by simpa using han
        have hc := hra.cell b.length (by simp)
        rw [List.getElem_append_right (Nat.le_refl _)] at hc
        simp only [Nat.sub_self, List.getElem_cons_zero] at hc
        have hfront := run_front wr gl n b.length capl (by omega) hcl0 (b.length : Int) rfl
        subst hbn
        by_cases hy : y.toNat = 48
        · have HT3 : Hid (tval b = M) := by
            show _ = _
            rw [← HTa.out, tval_append]
            simp [tval, hy]
          have Hdb : Hid (∀ x ∈ b, isDig x = true) := fun x hx => Hda.out x (by simp [hx])
          clear HTa Hda
          go_wp2
          go_roundw
          case rel => exact ⟨b, b.length, rfl, rfl, by omega, by omega, brow_front hra, Hdb, HT3, trivial⟩
          case measure => simp only [sliceN]; omega
        · have hD : b ++ [y] = decD M := by
            rw [← HTa.out, decD_tval Hda.out]
            simp
            intro h
            exact hy (by rw [h]; rfl)
          clear hfront
          go_wp2_with fail
          refine (turnedRound_row gl _ capl (b ++ [y]) (by simp) (by omega) _ hra).mono ?_
          rintro e w2 ⟨rfl, hb2⟩
          rw [hD]
          go_wp2
          go_ret
          exact ⟨rfl, hbel.trans (hb2.mono (by omega))⟩
    · obtain ⟨hpo, hrow⟩ := hrow (by omega)
      obtain ⟨x0, t0, rfl⟩ : ∃ x t, l = x :: t := by
        cases l with
        | nil => exact absurd hln.symm hn
        | cons x t => exact ⟨x, t, rfl⟩
      go_wp2_with fail
      refine (split_any w.heap.size off n cap pre (x0 :: t0) hpo hln (by omega) (by omega) _ hrow).mono ?_
      rintro e w1 ⟨rfl, hrow1, hon⟩
      obtain ⟨q', hq'⟩ := divL_head (show 256 ≤ 1000000000 by decide) x0 t0
      obtain ⟨hv1, hv2⟩ := divL_val (show 0 < 1000000000 by decide) (x0 :: t0) 0 (by decide)
      have hql := divL_length 1000000000 (x0 :: t0) 0
      rw [hq'] at hrow1 hv1 hql
      generalize (divL 1000000000 0 (x0 :: t0)).2 = C at hv1 hv2 ⊢
      have hown1 := hon.own hown (Nat.lt_succ_self _)
      have hbel1 := hbel.trans hon.below
      have hsz1 : w.heap.size + 1 ≤ w1.heap.size := by have := hon.size; omega
      have HT1 : Hid (tval acc + 10 ^ acc.length * (C + 10 ^ 9 * hvl (0 :: q')) = M) := by
        show _ = _
        rw [← HT.out]
        congr 2
        rw [Nat.zero_mul, Nat.zero_add] at hv1
        rw [← hv1, show (10 : Nat) ^ 9 = 1000000000 by decide]
        omega
      clear HT hown hrow hon hv1 hq' hbel hsz
      go_wp2
      go_loopw [4, 5, 13] (fun v x i wr' => ∃ (k r : Nat) (ac : List UInt8), k ≤ 9 ∧ i = .int .i64 k ∧ x = .int .u64 r ∧ r < 1000000000 ∧ Hid (r < 10 ^ (9 - k)) ∧ BOwn 5 wr' (w.heap.size + 1) v ac ∧ Hid (∀ x ∈ ac, isDig x = true) ∧ ac.length = acc.length + k ∧ Hid (tval ac + 10 ^ ac.length * (r + 10 ^ (9 - k) * hvl (0 :: q')) = M) ∧ Below (w.heap.size + 1) w1 wr' ∧ w.heap.size + 1 ≤ wr'.heap.size) (fun _ _ i _ => 9 - (intOf i).toNat)
      case atStart => exact ⟨0, C, acc, by omega, rfl, rfl, hv2, by show _ < _; simpa using hv2, hown1, Hdg, rfl, HT1, Below.refl _ _, hsz1⟩
      case round =>
        obtain ⟨k, r, ac, hk, rfl, rfl, hr, Hr, hown2, Hdg2, hac, HT2, hbel2, hsz2⟩ := hrel
        by_cases hk9 : k < 9
        · have he : 9 - k = (9 - (k + 1)) + 1 := by omega
          have HT3 := HT2.out
          have Hr3 := Hr.out
          rw [he] at HT3 Hr3
          replace HT3 : Hid (tval (ac ++ [UInt8.ofNat (48 + r % 10)]) + 10 ^ (ac ++ [UInt8.ofNat (48 + r % 10)]).length * (r / 10 + 10 ^ (9 - (k + 1)) * hvl (0 :: q')) = M) := digit_step HT3
          replace Hr3 : Hid (r / 10 < 10 ^ (9 - (k + 1))) := by
            show _ < _
            rw [Nat.pow_succ] at Hr3
            omega
          have Hdg3 : Hid (∀ x ∈ ac ++ [UInt8.ofNat (48 + r % 10)], isDig x = true) := digs_snoc Hdg2.out r
          have HX : Hid ((48 + (r : Int) % 10) = ((UInt8.ofNat (48 + r % 10)).toNat : Int)) := by show _ = _; rw [ofNat_dig]; simp
          have hlen : ac.length ≤ 1099511627776 := by omega
          have hlen3 : (ac ++ [UInt8.ofNat (48 + r % 10)]).length = acc.length + (k + 1) := by rw [List.length_append, List.length_singleton]; omega
          clear HT2 Hr Hdg2 he
          go_wp2_with (at_builtin; refine wpList_append_byte rfl (.tmp 15) (.tmp 20) 130 rfl 5 Tryz.underlying130 info5 (w.heap.size + 1) _ _ rfl hown2 (UInt8.ofNat (48 + r % 10)) _ HX.out 1 rfl hlen hsz2 (w.heap.size + 1) w1 hbel2 (Nat.le_refl _) ?_; intro v' w2 hown3 hbel3 hsz3)
          go_roundw
          case rel => exact ⟨k + 1, r / 10, _, by omega, by go_num, by go_num, by omega, Hr3, hown3, Hdg3, hlen3, HT3, hbel3, hsz3⟩
          case measure => simp [intOf]; omega
        · have hk0 : 9 - k = 0 := by omega
          have HT3 := HT2.out
          have hr0 := Hr.out
          rw [hk0, Nat.pow_zero] at HT3 hr0
          obtain ⟨hr1⟩ : Nonempty (r = 0) := ⟨by omega⟩
          rw [hr1, Nat.zero_add, Nat.one_mul, ← stripL_val] at HT3
          replace HT3 : Hid (tval ac + 10 ^ ac.length * hvl (stripL (0 :: q')) = M) := HT3
          clear hr0 hr1 hk0
          have hrow2 := brow_below hrow1 hbel2 (Nat.lt_succ_self _)
          have hbel4 := hbel1.trans (hbel2.mono (Nat.le_succ _))
          have hsl : (stripL (0 :: q')).length ≤ q'.length := by rw [stripL_zero]; exact stripL_le _
          have hql' : q'.length + 1 = n := by
            have : (0 :: q').length = (x0 :: t0).length := hql
            simp only [List.length_cons] at this hln
            omega
          clear HT2 Hr hrow1
          go_wp2
          go_loopw [3] (fun x wr'' => ∃ (off n cap : Nat) (pre l : List UInt8), x = .slice (some ⟨w.heap.size, off, none⟩) n cap ∧ l.length = n ∧ n ≤ cap ∧ off + n ≤ 255 ∧ (0 < n → pre.length = off ∧ BRow wr w.heap.size (pre ++ l)) ∧ Hid (stripL l = stripL (0 :: q')) ∧ wr = wr'') (fun x _ => sliceN x)
          case atStart => exact ⟨off, n, cap, pre, 0 :: q', rfl, by simp only [List.length_cons]; exact hql', hncap, hoff, fun _ => ⟨hpo, hrow2⟩, rfl, rfl⟩
          case round =>
            obtain ⟨off2, n2, cap2, pre2, l2, rfl, hl2, hnc2, hoff2, hrw2, HS2, rfl⟩ := hrel
            by_cases hn2 : n2 = 0
            · subst hn2
              obtain rfl : l2 = [] := List.eq_nil_of_length_eq_zero hl2
              have hs0 : stripL (0 :: q') = [] := HS2.out.symm
              rw [hs0] at HT3
              clear HS2 hrw2
              go_wp2
              go_roundw
              case rel => exact ⟨off2, 0, cap2, [], [], ac, rfl, rfl, by omega, by omega, fun h => absurd h (by decide), by simp [Hid], hown2, Hdg2, by omega, HT3, hbel4, hsz2⟩
              case measure => simp only [sliceN]; omega
            · obtain ⟨hp2, hrow3⟩ := hrw2 (by omega)
              obtain ⟨y, t, rfl⟩ : ∃ x t, l2 = x :: t := by
                cases l2 with
                | nil => exact absurd hl2.symm hn2
                | cons x t => exact ⟨x, t, rfl⟩
              have hc := hrow3.cell off2 (by rw [List.length_append]; simp only [List.length_cons]; omega)
              rw [List.getElem_append_right (by omega)] at hc
              simp only [hp2, Nat.sub_self, List.getElem_cons_zero] at hc
              by_cases hy : y.toNat = 0
              · have hy0 : y = 0 := UInt8.toNat_inj.1 hy
                have htl := run_tail wr w.heap.size off2 n2 cap2 (by omega)
                have HS3 : Hid (stripL t = stripL (0 :: q')) := by
                  show _ = _
                  rw [← HS2.out, hy0, stripL_zero]
                have hrow4 : BRow wr w.heap.size ((pre2 ++ [y]) ++ t) := by rw [List.append_assoc]; exact hrow3
                have hl3 : t.length = n2 - 1 := by simp only [List.length_cons] at hl2; omega
                clear HS2 hrow3 hy0
                by_cases hc1 : cap2 = 1
                · subst hc1
                  obtain rfl : n2 = 1 := by omega
                  clear htl
                  go_wp2
                  go_roundw
                  case rel => exact ⟨off2, 0, 0, [], t, rfl, hl3, by omega, by omega, fun h => absurd h (by decide), HS3, trivial⟩
                  case measure => simp only [sliceN]; omega
                · rw [if_neg hc1] at htl
                  go_wp2
                  go_roundw
                  case rel => exact ⟨off2 + 1, n2 - 1, cap2 - 1, pre2 ++ [y], t, rfl, hl3, by omega, by omega, fun h => ⟨by rw [List.length_append, List.length_singleton, hp2], hrow4⟩, HS3, trivial⟩
                  case measure => simp only [sliceN]; omega
              · have hy0 : y ≠ 0 := fun h => hy (by rw [h]; rfl)
                have hs2 : stripL (y :: t) = y :: t := stripL_self (by simp [hy0])
                have hs3 : stripL (0 :: q') = y :: t := by rw [← HS2.out, hs2]
                rw [hs3] at HT3 hsl
                clear HS2 hs2
                go_wp2
                go_roundw
                case rel => exact ⟨off2, n2, cap2, pre2, y :: t, ac, rfl, hl2, hnc2, hoff2, fun _ => ⟨hp2, hrow3⟩, by simp [Hid, hy0], hown2, Hdg2, by omega, HT3, hbel4, hsz2⟩
                case measure => simp only [sliceN]; omega
def printL (b : Bool) (m : List UInt8) : List UInt8 := if m.isEmpty then [48] else if b then 45 :: (decD (hvl m)).reverse else (decD (hvl m)).reverse
def printE (b : Bool) (m : List UInt8) : Ending := .returned (.tuple #[.string (bs (if chk b m = 0 then printL b m else [])), .int .i64 (chk b m)])
theorem chk_zero {b : Bool} {m : List UInt8} (h : chk b m = 0) : m.length ≤ 255 ∧ m.head? ≠ some 0 ∧ (m = [] → b = false) := by
  unfold chk at h
  split at h
  · exact absurd h (by decide)
  · split at h
    · exact absurd h (by decide)
    · rename_i h1 h2
      simp at h2
      refine ⟨by omega, h2.2, fun h3 => by simpa [h3] using h2.1⟩
theorem hvl_pos {m : List UInt8} (h : m.head? ≠ some 0) (h0 : m ≠ []) : hvl m ≠ 0 := lval_pos (by rw [List.getLast?_reverse]; exact h) (by simpa using h0)
theorem decD_length_le : ∀ (k n : Nat), n < 10 ^ k → (decD n).length ≤ k
  | 0, n, h => by
    have : n = 0 := by simpa using h
    subst this; rw [decD_zero]; simp
  | k + 1, n, h => by
    by_cases h0 : n = 0
    · subst h0; rw [decD_zero]; simp
    · rw [decD_pos h0, List.length_cons]
      have := decD_length_le k (n / 10) (by rw [Nat.pow_succ] at h; omega)
      omega
theorem decD_three (k : Nat) : ∀ (n : Nat), n < 1000 ^ k → (decD n).length ≤ 3 * k := by
  intro n h
  refine decD_length_le _ _ ?_
  rw [Nat.pow_mul]
  exact h
theorem decD_bound {m : List UInt8} (h : m.length ≤ 255) : (decD (hvl m)).length ≤ 765 := by
  have h1 := lval_lt m.reverse
  rw [List.length_reverse] at h1
  have h2 : 256 ^ m.length ≤ 1000 ^ m.length := Nat.pow_le_pow_left (by decide) _
  have h3 := decD_three m.length (hvl m) (Nat.lt_of_lt_of_le h1 h2)
  omega
set_option maxHeartbeats 1000000 in
theorem print_any (b : Bool) (m : ByteArray) (hm : m.size ≤ 17179869184) (w : World) :
    Calls Tryz.prog 151 #[numV b m] w fun e w' => e = printE b m.data.toList ∧ Below w.heap.size w w' := by
  have hl : m.data.toList.length = m.size := (Lib.size_eq m).symm
  by_cases hc : chk b m.data.toList = 0
  · obtain ⟨h255, hhd, hnb⟩ := chk_zero hc
    by_cases h0 : m.size = 0
    · have hn : m.data.toList = [] := List.eq_nil_of_length_eq_zero (by omega)
      have he : m.toList.isEmpty = true := by rw [ByteArray.toList_eq, hn]; rfl
      have hR : printE b m.data.toList = .returned (.tuple #[.string (bs [48]), .int .i64 0]) := by rw [printE, hc, if_pos rfl, hn]; rfl
      rw [hR]
      have HC : Hid (chk b m.data.toList = 0) := hc
      clear hR hnb hhd h255 hn hc hl h0
      go_enter Tryz.func151, Tryz.ntmps151
      go_wp2_with fail
      refine (check_any b m hm _).mono ?_
      rintro e w1 ⟨rfl, hb1⟩
      obtain ⟨hc0, hc1, hc2⟩ := box_num hb1 (h := w.heap.size) (v0 := .bool b) (v1 := .string m) ⟨by simp, by simp, by simp⟩
      rw [HC.out]
      go_wp2
      go_ret2
      exact ⟨rfl, below_box hb1⟩
    · have hne : m.data.toList ≠ [] := fun h => h0 (by rw [← hl, h]; rfl)
      have he2 : m.data.toList.isEmpty = false := by simpa using hne
      have he : m.toList.isEmpty = false := by rw [ByteArray.toList_eq]; exact he2
      have hdb := decD_bound h255
      have hpos := hvl_pos hhd hne
      obtain ⟨M, hM⟩ : ∃ M, hvl m.data.toList = M := ⟨_, rfl⟩
      have HM : Hid (hvl m.data.toList = M) := hM
      rw [hM] at hdb hpos
      have hsz : (bs (decD M).reverse).size ≤ 765 := by rw [bs_size, List.length_reverse]; exact hdb
      clear hnb hdb
      cases b
      · have hR : printE false m.data.toList = .returned (.tuple #[.string (bs (decD M).reverse), .int .i64 0]) := by rw [printE, hc, if_pos rfl, printL, he2, hM]; rfl
        rw [hR]
        clear hR
        go_enter Tryz.func151, Tryz.ntmps151
        go_wp2_with fail
        refine (check_any false m hm _).mono ?_
        rintro e w1 ⟨rfl, hb1⟩
        obtain ⟨hc0, hc1, hc2⟩ := box_num hb1 (h := w.heap.size) (v0 := .bool false) (v1 := .string m) ⟨by simp, by simp, by simp⟩
        rw [hc]
        clear hc hM
        go_wp2_with fail
        refine (writeDigits_any m (by omega) M HM hpos hhd _).mono ?_
        rintro e w2 ⟨rfl, hb2⟩
        go_wp2
        go_ret2
        exact ⟨rfl, below_next (below_box hb1) hb2⟩
      · have hR : printE true m.data.toList = .returned (.tuple #[.string (⟨#[45]⟩ ++ bs (decD M).reverse), .int .i64 0]) := by
          rw [printE, hc, if_pos rfl, printL, he2, hM]
          have : (⟨#[45]⟩ : ByteArray) ++ bs (decD M).reverse = bs (45 :: (decD M).reverse) := bs_append [45] _
          rw [this]
          rfl
        rw [hR]
        clear hR
        go_enter Tryz.func151, Tryz.ntmps151
        go_wp2_with fail
        refine (check_any true m hm _).mono ?_
        rintro e w1 ⟨rfl, hb1⟩
        obtain ⟨hc0, hc1, hc2⟩ := box_num hb1 (h := w.heap.size) (v0 := .bool true) (v1 := .string m) ⟨by simp, by simp, by simp⟩
        rw [hc]
        clear hc hM
        go_wp2_with fail
        refine (writeDigits_any m (by omega) M HM hpos hhd _).mono ?_
        rintro e w2 ⟨rfl, hb2⟩
        go_wp2
        go_ret2
        exact ⟨rfl, below_next (below_box hb1) hb2⟩
  · have hR : printE b m.data.toList = .returned (.tuple #[.string (bs []), .int .i64 (chk b m.data.toList)]) := by simp [printE, hc]
    rw [hR]
    clear hR hl
    generalize hcc : chk b m.data.toList = c at hc ⊢
    go_enter Tryz.func151, Tryz.ntmps151
    go_wp2_with fail
    refine (check_any b m hm _).mono ?_
    rintro e w1 ⟨rfl, hb1⟩
    rw [hcc]
    go_wp2
    go_ret2
    exact ⟨rfl, below_box hb1⟩
end Go.Proofs.YtcbjnifoojjipaaGreatDoor
