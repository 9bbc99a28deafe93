/- What slices.Equal at ints and normal.Same do (contracts; nothing is claimed here). -/
import Derived.Test.YtfhpgmlfgjfknaaGreatDoorJ13
namespace Go.Proofs.YtfhpgmlfgjfknaaGreatDoor
open Go.RowKit Go.Vf Go.Maps
set_option maxHeartbeats 2000000 in
set_option maxRecDepth 20000 in
theorem equal_any (va vb : Value) (za zb : List Int) (n₁ n₂ : Nat) (w : World) (ha : Ints n₁ w va za) (hb : Ints n₂ w vb zb) (hla : za.length ≤ 4611686018427387904) (_hlb : zb.length ≤ 4611686018427387904) :
    Calls Tryz.prog 65 #[va, vb] w fun e w' => e = .returned (.bool (decide (za = zb))) ∧ Below w.heap.size w w' := by
  obtain ⟨R, HR⟩ : ∃ R, Hid (R = decide (za = zb)) := ⟨_, rfl⟩
  rw [← HR.out]
  by_cases hl : za.length = zb.length
  · rcases Nat.eq_zero_or_pos za.length with h0 | h0
    · obtain ⟨x, c, rfl⟩ := ha.val
      obtain ⟨y, d, rfl⟩ := hb.val
      have hb0 : zb.length = 0 := by omega
      have hR : R = true := by rw [HR.out, List.eq_nil_of_length_eq_zero h0, List.eq_nil_of_length_eq_zero hb0]; rfl
      rw [h0, hb0]
      clear ha hb h0 hb0 hl hla
      go_enter Tryz.func65, Tryz.ntmps65
      go_wp2
      go_loopw [13] (fun i wr => i = .int .i64 0 ∧ wr = w) (fun _ _ => 0)
      case atStart => exact ⟨rfl, rfl⟩
      case round =>
        obtain ⟨rfl, rfl⟩ := hrel
        go_wp2
        go_ret
        exact ⟨by rw [hR]; rfl, Below.refl _ _⟩
    · rcases ha with ⟨_, _, _, h⟩ | ⟨b1, o1, c1, rfl, hb1, hc1⟩
      · rw [h] at h0; simp at h0
      rcases hb with ⟨_, _, _, h⟩ | ⟨b2, o2, c2, rfl, hb2, hc2⟩
      · rw [hl, h] at h0; simp at h0
      rw [← hl]
      rw [← hl] at hc2
      obtain ⟨L, hL⟩ : ∃ L, L = za.length := ⟨_, rfl⟩
      have HL : Hid (L = za.length ∧ L = zb.length) := ⟨hL, by rw [hL]; exact hl⟩
      rw [← hL] at hc1 hc2 hla h0 ⊢
      clear hl hL
      go_enter Tryz.func65, Tryz.ntmps65
      go_wp2
      go_loopw [13] (fun i wr => ∃ k : Nat, k ≤ L ∧ i = .int .i64 k ∧ Hid (R = decide (za.drop k = zb.drop k)) ∧ Below w.heap.size w wr ∧ (∀ a, wr.cell? a = w.cell? a)) (fun i _ => L - (intOf i).toNat)
      case atStart => exact ⟨0, Nat.zero_le _, rfl, HR, Below.refl _ _, fun _ => rfl⟩
      case round =>
        obtain ⟨k, hk, rfl, HK, hbel, hsame⟩ := hrel
        by_cases hlt : k < L
        · have x1 := (hsame _).trans (hc1 k hlt)
          have x2 := (hsame _).trans (hc2 k hlt)
          have hK := HK.out
          rw [drop_getD za k (by rw [← HL.out.1]; exact hlt), drop_getD zb k (by rw [← HL.out.2]; exact hlt)] at hK
          obtain ⟨p, hp⟩ : ∃ p, p = za[k]?.getD 0 := ⟨_, rfl⟩
          obtain ⟨q, hq⟩ : ∃ q, q = zb[k]?.getD 0 := ⟨_, rfl⟩
          rw [← hp] at x1 hK
          rw [← hq] at x2 hK
          have HS : Hid (∀ a, wr.cell? a = w.cell? a) := hsame
          clear hp hq HK hc1 hc2 hsame
          by_cases hpq : p = q
          · have HK2 : Hid (R = decide (za.drop (k + 1) = zb.drop (k + 1))) := by show _ = _; rw [hK, hpq]; simp
            have t1 : (p == q) = true := by simpa using hpq
            have t2 : (p != q) = false := by simpa using hpq
            clear hK hpq
            go_wp2
            go_region
            go_wp2
            go_roundw
            case rel => exact ⟨k + 1, by omega, by go_num, HK2, hbel.drew, HS.out⟩
            case measure => simp [intOf]; omega
          · have hR : R = false := by rw [hK]; simp [hpq]
            have t1 : (p == q) = false := by simpa using hpq
            have t2 : (p != q) = true := by simpa using hpq
            clear hK hpq
            go_wp2
            go_region
            go_wp2
            go_ret
            exact ⟨by first | (rw [hR]; rfl) | rfl, hbel.drew⟩
        · obtain rfl : k = L := by omega
          have hR : R = true := by
            rw [HK.out, List.drop_eq_nil_of_le (by rw [← HL.out.1]; exact Nat.le_refl _), List.drop_eq_nil_of_le (by rw [← HL.out.2]; exact Nat.le_refl _)]; rfl
          clear HK
          go_wp2
          go_ret
          exact ⟨by first | (rw [hR]; rfl) | rfl, hbel⟩
  · obtain ⟨x, c, rfl⟩ := ha.val
    obtain ⟨y, d, rfl⟩ := hb.val
    have hR : R = false := by rw [HR.out]; simp; intro h; exact hl (by rw [h])
    clear ha hb
    go_enter Tryz.func65, Tryz.ntmps65
    go_wp2
    go_ret
    exact ⟨by rw [hR]; rfl, Below.refl _ _⟩
set_option maxHeartbeats 2000000 in
set_option maxRecDepth 20000 in
theorem same_any (bd : Nat) (L : List Mk) (E : Int → List Int) (a : Option Addr) (kp cap : Nat) (ps X : List Int) (b : Option Addr) (kq cbp : Nat) (qs Y : List Int) (w : World) (hps : ∀ q ∈ ps, InI q) (hpt : ∀ q ∈ flatR E ps, InI q) (hqs : ∀ q ∈ qs, InI q) (hqt : ∀ q ∈ flatR E qs, InI q) (hc0 : ∀ p, 0 ≤ classAt L p) (hd : DataAt w bd L E)
    (hin : Ints w.heap.size w (.slice a kp cap) ps) (hkp : kp = ps.length) (hkl : (flatR E ps).length ≤ 68719476736) (hkl2 : kp ≤ 68719476736) (hX : IsForm L E ps X) (hXl : X.length ≤ 68719476736)
    (hjn : Ints w.heap.size w (.slice b kq cbp) qs) (hkq : kq = qs.length) (hql : (flatR E qs).length ≤ 68719476736) (hql2 : kq ≤ 68719476736) (hY : IsForm L E qs Y) (hYl : Y.length ≤ 68719476736) :
    Calls Tryz.prog 31 #[.pointer (some ⟨bd, 0, none⟩), .slice a kp cap, .slice b kq cbp] w fun e w' => e = .returned (.bool (decide (X = Y))) ∧ Below w.heap.size w w' := by
  have hf := form_any bd L E a kp cap ps w hps hpt hc0 hd hin hkp hkl hkl2
  have hg : ∀ w1, Below w.heap.size w w1 → Calls Tryz.prog 20 #[.pointer (some ⟨bd, 0, none⟩), .slice b kq cbp] w1 fun e w' => FormPost L E w1 qs e w' := fun w1 hb => form_any bd L E b kq cbp qs w1 hqs hqt hc0 (hd.below hb) ((hjn.below hb (Nat.le_refl _)).mono hb.size) hkq hql hql2
  obtain ⟨R, HR⟩ : ∃ R, Hid (R = decide (X = Y)) := ⟨_, rfl⟩
  rw [← HR.out]
  have HX : Aside (IsForm L E ps X) := hX
  have HY : Aside (IsForm L E qs Y) := hY
  have HG : Aside _ := hg
  clear hX hY hg hin hjn hkp hkq hps hpt hqs hqt hc0 hd
  go_enter Tryz.func31, Tryz.ntmps31
  go_wp2_with fail
  refine hf.mono ?_
  rintro e w1 ⟨g, k, c, Z, rfl, hown, hform, hmem, hbel⟩
  obtain rfl : Z = X := hform.same HX.out
  have hg := HG.out w1 hbel
  clear hf hform hmem HG HX
  go_wp2_with fail
  refine hg.mono ?_
  rintro e w2 ⟨g2, k2, c2, Z2, rfl, hown2, hform2, hmem2, hbel2⟩
  obtain rfl : Z2 = Y := hform2.same HY.out
  have hownZ : IOwn w2 w.heap.size (.slice (some ⟨g, 0, none⟩) k c) Z := own_after hown hbel2
  have hq := equal_any _ _ Z Z2 w2.heap.size w2.heap.size w2 hownZ.ints hown2.ints (by omega) (by omega)
  rw [← HR.out] at hq
  clear hown hownZ hown2 hform2 hmem2 hg HY
  go_wp2_with fail
  refine hq.mono ?_
  rintro e w3 ⟨rfl, hbel3⟩
  go_wp2
  go_ret
  exact ⟨rfl, (hbel.trans (hbel2.mono hbel.size)).trans (hbel3.mono (Nat.le_trans hbel.size hbel2.size))⟩
theorem same_load {t : List UInt8} {L : List Mk} {E : Int → List Int} (h : loadR t = .ok (L, E)) {bd : Nat} {a b : Option Addr} {k c k2 c2 : Nat} {ps X qs Y : List Int} {w : World} (hd : DataAt w bd L E) (hn : Numb w a k c ps) (hm : Numb w b k2 c2 qs) (hX : IsForm L E ps X) (hXl : X.length ≤ 68719476736) (hY : IsForm L E qs Y) (hYl : Y.length ≤ 68719476736) :
    Calls Tryz.prog 31 #[.pointer (some ⟨bd, 0, none⟩), .slice a k c, .slice b k2 c2] w fun e w' => e = .returned (.bool (decide (X = Y))) ∧ Below w.heap.size w w' := by
  have := flat_len hd ps
  have h1 := hn.few
  have h2 := hn.len
  have := flat_len hd qs
  have h3 := hm.few
  have h4 := hm.len
  exact same_any bd L E a k c ps X b k2 c2 qs Y w hn.int (flat_in h hn.int) hm.int (flat_in h hm.int) (fun p => (load_cls h p).1) hd hn.ints hn.len (by omega) (by omega) hX hXl hm.ints hm.len (by omega) (by omega) hY hYl
end Go.Proofs.YtfhpgmlfgjfknaaGreatDoor
