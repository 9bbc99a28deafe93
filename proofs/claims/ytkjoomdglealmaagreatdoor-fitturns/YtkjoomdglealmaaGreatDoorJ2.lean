/- Contracts and lemmas (nothing is claimed here). -/
import Derived.Test.YtkjoomdglealmaaGreatDoorJ1
namespace Go.Proofs.YtkjoomdglealmaaGreatDoor
open Go.RowKit Go.Vf

/-- Strings and lists that a machine bears. -/
inductive Fits : Prt → Prop where
  | mk {p : Prt} : 0 ≤ p.kind → p.raw.size ≤ 281474976710656 → p.mag.size ≤ 281474976710656 → p.items.length ≤ 281474976710656 → (∀ x ∈ p.items, Fits x) → Fits p
theorem Fits.pos {p : Prt} (h : Fits p) : 0 ≤ p.kind := by cases h; assumption
theorem Fits.raw {p : Prt} (h : Fits p) : p.raw.size ≤ 281474976710656 := by cases h; assumption
theorem Fits.mag {p : Prt} (h : Fits p) : p.mag.size ≤ 281474976710656 := by cases h; assumption
theorem Fits.len {p : Prt} (h : Fits p) : p.items.length ≤ 281474976710656 := by cases h; assumption
theorem Fits.mem {p x : Prt} (h : Fits p) (hx : x ∈ p.items) : Fits x := by cases h; rename_i h1; exact h1 x hx

theorem hvy_le : ∀ (p : Prt), Fits p → ∀ (n d : Nat), n ≤ mostW → hvy p n d ≤ 600000000000000 := by
  intro p
  induction p using Prt.ind with
  | h k y b m r l ih =>
    intro hf n d hn
    have hr := hf.raw
    have hm := hf.mag
    simp only [Prt.raw, Prt.mag] at hr hm
    rw [hvy]
    have hW : mostW = 67108864 := rfl
    split
    · omega
    · have : ∀ (q : List Prt), (∀ x ∈ q, x ∈ l) → ∀ n', n' ≤ 600000000000000 → hvyL q n' (d + 1) ≤ 600000000000000 := by
        intro q
        induction q with
        | nil => intro _ n' h; rw [hvyL]; exact h
        | cons a t iht =>
          intro hq n' h
          rw [hvyL]
          split
          · exact iht (fun x hx => hq x (by simp [hx])) _ (ih a (hq a (by simp)) (hf.mem (hq a (by simp))) n' (d + 1) (by assumption))
          · exact h
      exact this l (fun x hx => hx) _ (by omega)

set_option maxHeartbeats 1000000 in
set_option maxRecDepth 20000 in
theorem heavy_any : ∀ (p : Prt), Fits p → ∀ (a : Option Addr) (c n d lo n₀ : Nat) (w : World), n₀ ≤ w.heap.size → PIn w lo n₀ p a → n ≤ mostW → d ≤ 301 →
    Calls Tryz.prog 38 #[pV p a c, .int .i64 n, .int .i64 d] w fun e w' => e = .returned (.int .i64 (hvy p n d : Nat)) ∧ Below w.heap.size w w' := by
  intro p
  induction p using Prt.ind with
  | h k y b m r l ih =>
    intro hf a c n d lo n₀ w hn₀ hin hn hd
    have hr := hf.raw
    have hm := hf.mag
    have hl := hf.len
    have hW : mostW = 67108864 := rfl
    have hn' : n ≤ 67108864 := hn
    clear hn
    simp only [Prt.raw, Prt.mag, Prt.items] at hr hm hl
    unfold pV
    simp only [Prt.kind, Prt.yes, Prt.neg, Prt.mag, Prt.raw, Prt.items]
    have hb0 := Blk.new w 30 #[.int .u8 k, .bool y, .bool b, .string m, .string r, .slice a l.length c]
    have hb1 := (Below.refl w.heap.size w).alloc (Nat.le_refl _) (.cells #[.int .u8 k, .bool y, .bool b, .string m, .string r, .slice a l.length c] 30)
    by_cases h300 : 300 < d
    · have hR : hvy (.mk k y b m r l) n d = 67108865 := by rw [hvy, if_pos h300]; rfl
      rw [hR]
      have t0 : decide ((300 : Int) < (d : Int)) = true := by simp; omega
      clear ih hin hf hR
      go_enter Tryz.func38, Tryz.ntmps38
      go_wp2_with fail
      go_ret
      exact ⟨rfl, hb1⟩
    · have hR : hvy (.mk k y b m r l) n d = hvyL l (n + 16 + r.size + m.size) (d + 1) := by rw [hvy, if_neg h300]
      generalize hvy (.mk k y b m r l) n d = R at hR ⊢
      have HR : Hid (R = hvyL l (n + 16 + r.size + m.size) (d + 1)) := hR
      clear hR
      have t0 : decide ((300 : Int) < (d : Int)) = false := by simp; omega
      have hin1 := hin.keep hb1 hn₀
      have hb2 : (w.alloc (.cells #[.int .u8 k, .bool y, .bool b, .string m, .string r, .slice a l.length c] 30)).heap.size = w.heap.size + 1 := alloc_size _ _
      obtain ⟨c0, c1, c2, c3, c4, c5⟩ := hb0.c6
      have HW : Hid (mostW = 67108864) := hW
      clear hW
      go_enter Tryz.func38, Tryz.ntmps38
      go_wp2_with fail
      generalize w.alloc (.cells #[.int .u8 k, .bool y, .bool b, .string m, .string r, .slice a l.length c] 30) = w1 at hb0 hb1 hin1 hb2 c0 c1 c2 c3 c4 c5 ⊢
      clear c0 c1 c2 c3 c4 c5
      go_loopw [1, 7] (fun x i wr => ∃ (j s : Nat), j ≤ l.length ∧ i = .int .i64 j ∧ x = .int .i64 s ∧ s ≤ 600000000000000 ∧ Hid (R = hvyL (l.drop j) s (d + 1)) ∧ Below w1.heap.size w1 wr) (fun _ i _ => l.length - (intOf i).toNat)
      case atStart => exact ⟨0, n + 16 + r.size + m.size, by omega, rfl, by simp, by have := HW.out; omega, HR, Below.refl _ _⟩
      case round =>
        clear HR
        obtain ⟨j, s, hj, rfl, rfl, hs, HS, hbel⟩ := hrel
        obtain ⟨c0, c1, c2, c3, c4, c5⟩ := (hb0.below hbel hb0.lt).c6
        have hbb : Below w.heap.size w wr := hb1.trans (hbel.mono (by omega))
        have hsz := hbb.size
        by_cases hlt : j < l.length
        · have hdr : l.drop j = l[j] :: l.drop (j + 1) := List.drop_eq_getElem_cons hlt
          by_cases hms : s ≤ mostW
          · have hR2 : Hid (R = hvyL (l.drop (j + 1)) (hvy l[j] s (d + 1)) (d + 1)) := by
              show _ = _
              rw [HS.out, hdr, hvyL, if_pos hms]
            have t1 : decide ((s : Int) ≤ 67108864) = true := by have := HW.out; simp; omega
            obtain ⟨bb, off, aj, cj, ha, _, _, hrow, hinj⟩ := (hin1.keep hbel (by omega)).at hlt
            simp only [Prt.items] at ha hrow hinj
            subst ha
            obtain ⟨r0, r1, r2, r3, r4, r5⟩ := hrow
            have hcall := ih l[j] (List.getElem_mem hlt) (hf.mem (List.getElem_mem hlt)) aj cj s (d + 1) lo n₀ wr (by omega) hinj hms (by omega)
            have hle := hvy_le l[j] (hf.mem (List.getElem_mem hlt)) s (d + 1) hms
            unfold pV at hcall
            clear hdr HS ih hin hf hin1 hinj
            generalize l[j] = x at *
            go_wp2_with fail
            refine hcall.mono ?_
            rintro _ w2 ⟨rfl, hb3⟩
            go_wp2_with fail
            go_roundw
            case rel => exact ⟨j + 1, _, by omega, by simp, rfl, hle, hR2, hbel.trans (hb3.mono hbel.size)⟩
            case measure => simp only [intOf]; omega
          · have hRs : R = s := by
              rw [HS.out, hdr, hvyL, if_neg hms]
            have t1 : decide ((s : Int) ≤ 67108864) = false := by have := HW.out; simp; omega
            clear hdr HS ih hin hf hin1
            go_wp2_with fail
            go_ret
            exact ⟨by rw [hRs]; rfl, hbb⟩
        · have hRs : R = s := by
            rw [HS.out, List.drop_of_length_le (by omega), hvyL]
          clear HS ih hin hf hin1
          go_wp2_with fail
          go_ret
          exact ⟨by rw [hRs]; rfl, hbb⟩

theorem weight_any (p : Prt) (hf : Fits p) (a : Option Addr) (c n lo n₀ : Nat) (w : World) (hn₀ : n₀ ≤ w.heap.size) (hin : PIn w lo n₀ p a) (hn : n ≤ mostW) :
    Calls Tryz.prog 10 #[pV p a c, .int .i64 n] w fun e w' => e = .returned (.int .i64 (hvy p n 0 : Nat)) ∧ Below w.heap.size w w' := by
  have hb1 := (Below.refl w.heap.size w).alloc (Nat.le_refl _) (.cells #[.int .u8 p.kind, .bool p.yes, .bool p.neg, .string p.mag, .string p.raw, .slice a p.items.length c] 30)
  have hc := heavy_any p hf a c n 0 lo n₀ _ (Nat.le_trans hn₀ hb1.size) (hin.keep hb1 hn₀) hn (by omega)
  unfold pV at hc ⊢
  clear hin hn hf
  go_enter Tryz.func10, Tryz.ntmps10
  go_wp2_with fail
  refine hc.mono ?_
  rintro _ w2 ⟨rfl, hb3⟩
  go_wp2_with fail
  go_ret
  exact ⟨rfl, hb1.trans (hb3.mono hb1.size)⟩
end Go.Proofs.YtkjoomdglealmaaGreatDoor

namespace Go.Proofs.YtkjoomdglealmaaGreatDoor
open Go.RowKit Go.Vf

/-- '==' on numbers. -/
theorem num_eq (p : Bool) (A : ByteArray) (q : Bool) (B : ByteArray) (w : World) : (Op.equalIn 10000 27 (.agg #[.bool p, .string A]) (.agg #[.bool q, .string B])).run Tryz.prog w = .ok (p == q && A.toList == B.toList) w := by
  have h : ∀ d, (Op.equalIn (d + 1 + 1) 27 (.agg #[.bool p, .string A]) (.agg #[.bool q, .string B])).run Tryz.prog w = .ok (p == q && A.toList == B.toList) w := fun d => by
    simp [go_sem]
    by_cases h1 : p = q <;> by_cases h2 : A.toList = B.toList <;> simp [h1, h2]
  exact h 9998
theorem drop_atV (s : ByteArray) (k : Nat) (hk : k < s.size) : s.data.toList.drop k = s[k] :: s.data.toList.drop (k + 1) := by
  rw [List.drop_eq_getElem_cons (by rw [← Lib.size_eq]; exact hk)]
  rfl
def chkV (b : Bool) (m : List UInt8) : Int := if 255 < m.length then 21 else if (m.isEmpty && b) || m.head? == some 0 then 20 else 0
theorem chk_okV (b : Bool) (m : ByteArray) : (chkV b m.data.toList == 0) = numOk b m := by
  unfold chkV numOk
  rw [← Lib.size_eq]
  by_cases h : 255 < m.size
  · have h2 : ¬ m.size ≤ 255 := by omega
    simp [h, h2]
  · simp only [h, if_false]
    rw [show decide (m.size ≤ 255) = true by simp; omega]
    cases (m.data.toList.isEmpty && b || m.data.toList.head? == some 0) <;> simp
set_option maxHeartbeats 400000 in
theorem rcheck_anyV (b : Bool) (m : ByteArray) (hm : m.size ≤ 281474976710656) (w : World) :
    Calls Tryz.prog 65 #[.agg #[.bool b, .string m]] w fun e w' => e = .returned (.int .i64 (chkV b m.data.toList)) ∧ Below w.heap.size w w' := by
  have hl : m.data.toList.length = m.size := (Lib.size_eq m).symm
  have hbel := (Below.refl w.heap.size w).alloc (Nat.le_refl _) (.cells #[.bool b, .string m] 27)
  by_cases h1 : 255 < m.size
  · have hR : chkV b m.data.toList = 21 := by simp [chkV, hl, h1]
    rw [hR]
    go_enter Tryz.func65, Tryz.ntmps65
    go_wp2
    go_ret
    exact ⟨rfl, hbel⟩
  · by_cases h2 : m.size = 0
    · have hn : m.data.toList = [] := List.eq_nil_of_length_eq_zero (by omega)
      have he : m.toList.isEmpty = true := by rw [ByteArray.toList_eq, hn]; rfl
      rw [hn]
      clear hn hl
      cases b
      all_goals
        go_enter Tryz.func65, Tryz.ntmps65
        go_wp2
        go_ret
        exact ⟨rfl, hbel⟩
    · have he : m.toList.isEmpty = false := by
        rw [ByteArray.toList_eq]
        cases h : m.data.toList with
        | nil => rw [h] at hl; exact absurd hl.symm h2
        | cons x r => rfl
      have h0 : 0 < m.size := by omega
      obtain ⟨r, hd⟩ : ∃ r, m.data.toList = m[0] :: r := ⟨_, (List.drop_zero (l := m.data.toList)).symm.trans (drop_atV m 0 h0)⟩
      by_cases h3 : m[0] = 0
      · have hR : chkV b m.data.toList = 20 := by
          have h4 : ¬ 255 < m.data.toList.length := by omega
          rw [hd] at h4 ⊢
          simp only [chkV, h4, if_false]
          simp [h3]
        have hx : (m[0].toNat : Int) = 0 := by rw [h3]; rfl
        rw [hR]
        clear hR h3 hd
        go_enter Tryz.func65, Tryz.ntmps65
        go_wp2
        go_ret
        exact ⟨rfl, hbel⟩
      · have hR : chkV b m.data.toList = 0 := by
          have h4 : ¬ 255 < m.data.toList.length := by omega
          rw [hd] at h4 ⊢
          simp only [chkV, h4, if_false]
          simp [h3]
        have hx : ¬ (m[0].toNat : Int) = 0 := fun h => h3 (UInt8.toNat_inj.1 (by simpa using h))
        rw [hR]
        clear hR h3 hd
        go_enter Tryz.func65, Tryz.ntmps65
        go_wp2
        go_ret
        exact ⟨rfl, hbel⟩

set_option maxHeartbeats 400000 in
theorem check_anyV (b : Bool) (m : ByteArray) (hm : m.size ≤ 281474976710656) (w : World) :
    Calls Tryz.prog 98 #[.agg #[.bool b, .string m]] w fun e w' => e = .returned (.int .i64 (chkV b m.data.toList)) ∧ Below w.heap.size w w' := by
  have hl : m.data.toList.length = m.size := (Lib.size_eq m).symm
  have hbel := (Below.refl w.heap.size w).alloc (Nat.le_refl _) (.cells #[.bool b, .string m] 27)
  by_cases h1 : 255 < m.size
  · have hR : chkV b m.data.toList = 21 := by simp [chkV, hl, h1]
    rw [hR]
    go_enter Tryz.func98, Tryz.ntmps98
    go_wp2
    go_ret
    exact ⟨rfl, hbel⟩
  · by_cases h2 : m.size = 0
    · have hn : m.data.toList = [] := List.eq_nil_of_length_eq_zero (by omega)
      have he : m.toList.isEmpty = true := by rw [ByteArray.toList_eq, hn]; rfl
      rw [hn]
      clear hn hl
      cases b
      all_goals
        go_enter Tryz.func98, Tryz.ntmps98
        go_wp2
        go_ret
        exact ⟨rfl, hbel⟩
    · have he : m.toList.isEmpty = false := by
        rw [ByteArray.toList_eq]
        cases h : m.data.toList with
        | nil => rw [h] at hl; exact absurd hl.symm h2
        | cons x r => rfl
      have h0 : 0 < m.size := by omega
      obtain ⟨r, hd⟩ : ∃ r, m.data.toList = m[0] :: r := ⟨_, (List.drop_zero (l := m.data.toList)).symm.trans (drop_atV m 0 h0)⟩
      by_cases h3 : m[0] = 0
      · have hR : chkV b m.data.toList = 20 := by
          have h4 : ¬ 255 < m.data.toList.length := by omega
          rw [hd] at h4 ⊢
          simp only [chkV, h4, if_false]
          simp [h3]
        have hx : (m[0].toNat : Int) = 0 := by rw [h3]; rfl
        rw [hR]
        clear hR h3 hd
        go_enter Tryz.func98, Tryz.ntmps98
        go_wp2
        go_ret
        exact ⟨rfl, hbel⟩
      · have hR : chkV b m.data.toList = 0 := by
          have h4 : ¬ 255 < m.data.toList.length := by omega
          rw [hd] at h4 ⊢
          simp only [chkV, h4, if_false]
          simp [h3]
        have hx : ¬ (m[0].toNat : Int) = 0 := fun h => h3 (UInt8.toNat_inj.1 (by simpa using h))
        rw [hR]
        clear hR h3 hd
        go_enter Tryz.func98, Tryz.ntmps98
        go_wp2
        go_ret
        exact ⟨rfl, hbel⟩


theorem isRaw_any (k : Int) (w : World) : Calls Tryz.prog 97 #[.int .u8 k] w fun e w' => e = .returned (.bool (isRawK k)) ∧ w' = w := by
  by_cases h3 : k = 3
  · subst h3
    go_enter Tryz.func97, Tryz.ntmps97
    go_wp2_with fail
    go_ret
    exact ⟨rfl, rfl⟩
  · by_cases h4 : k = 4
    · subst h4
      go_enter Tryz.func97, Tryz.ntmps97
      go_wp2_with fail
      go_ret
      exact ⟨rfl, rfl⟩
    · by_cases h5 : k = 5
      · subst h5
        go_enter Tryz.func97, Tryz.ntmps97
        go_wp2_with fail
        go_ret
        exact ⟨rfl, rfl⟩
      · by_cases h6 : k = 6
        · subst h6
          go_enter Tryz.func97, Tryz.ntmps97
          go_wp2_with fail
          go_ret
          exact ⟨rfl, rfl⟩
        · have hR : isRawK k = false := by simp [isRawK, h3, h4, h5, h6]
          rw [hR]
          have t3 : (k == 3) = false := by simpa using h3
          have t4 : (k == 4) = false := by simpa using h4
          have t5 : (k == 5) = false := by simpa using h5
          have t6 : (k == 6) = false := by simpa using h6
          go_enter Tryz.func97, Tryz.ntmps97
          go_wp2_with fail
          go_ret
          exact ⟨rfl, rfl⟩

theorem empty_iff (r : ByteArray) : r.toList.isEmpty = (r.size == 0) := by
  rw [ByteArray.toList_eq]
  rw [Lib.size_eq]
  cases r.data.toList <;> simp

set_option maxHeartbeats 4000000 in
set_option maxRecDepth 20000 in
theorem nothingElse_any (p : Prt) (hf : Fits p) (a : Option Addr) (c : Nat) (w : World) :
    Calls Tryz.prog 66 #[pV p a c] w fun e w' => e = .returned (.bool (own1 p)) ∧ Below w.heap.size w w' := by
  cases p with | mk k y n m r l =>
  have hl := hf.len
  simp only [Prt.items] at hl
  unfold pV own1
  simp only [Prt.kind, Prt.yes, Prt.neg, Prt.mag, Prt.raw, Prt.items]
  have hb1 := (Below.refl w.heap.size w).alloc (Nat.le_refl _) (.cells #[.int .u8 k, .bool y, .bool n, .string m, .string r, .slice a l.length c] 30)
  have hraw := isRaw_any k
  clear hf
  obtain ⟨q, hq⟩ : ∃ q, isRawK k = q := ⟨_, rfl⟩
  obtain ⟨z, hz⟩ : ∃ z, (!n && m.size == 0) = z := ⟨_, rfl⟩
  obtain ⟨er, her⟩ : ∃ z, (r.size == 0) = z := ⟨_, rfl⟩
  obtain ⟨el, hel⟩ : ∃ z, (l.length == 0) = z := ⟨_, rfl⟩
  have heq : ∀ w : World, (Op.equalIn 10000 27 (.agg #[.bool n, .string m]) (.agg #[.bool false, .string ⟨#[]⟩])).run Tryz.prog w = .ok z w := fun w => by
    rw [num_eq, ← hz]
    congr 1
    have := empty_iff m
    cases n <;> simp_all [ByteArray.toList_eq]
  have her' : r.toList.isEmpty = er := by rw [empty_iff, her]
  have hel' : ((l.length : Int) == 0) = el := by
    rw [← hel]
    rw [Bool.eq_iff_iff]; simp
  rw [hq, hz, her, hel]
  rw [hq] at hraw
  clear hz her hel
  obtain ⟨b1, h1⟩ : ∃ q, (k == 1) = q := ⟨_, rfl⟩
  obtain ⟨b2, h2⟩ : ∃ q, (k == 2) = q := ⟨_, rfl⟩
  obtain ⟨b7, h7⟩ : ∃ q, (k == 7) = q := ⟨_, rfl⟩
  rw [h1, h2, h7]
  have HQ : Hid (isRawK k = q) := hq
  clear hq
  clear HQ
  cases b1 with
  | true =>
    cases b2 with
    | true =>
      cases q with
      | true =>
        cases b7 with
        | true =>
          go_enter Tryz.func66, Tryz.ntmps66
          go_wp2_with fail
          refine (hraw _).mono ?_
          rintro _ _ ⟨rfl, rfl⟩
          go_wp2_with fail
          go_ret
          exact ⟨rfl, hb1⟩
        | false =>
          cases el with
          | true =>
            go_enter Tryz.func66, Tryz.ntmps66
            go_wp2_with fail
            refine (hraw _).mono ?_
            rintro _ _ ⟨rfl, rfl⟩
            go_wp2_with fail
            go_ret
            exact ⟨rfl, hb1⟩
          | false =>
            go_enter Tryz.func66, Tryz.ntmps66
            go_wp2_with fail
            refine (hraw _).mono ?_
            rintro _ _ ⟨rfl, rfl⟩
            go_wp2_with fail
            go_ret
            exact ⟨rfl, hb1⟩
      | false =>
        cases er with
        | false =>
          go_enter Tryz.func66, Tryz.ntmps66
          go_wp2_with fail
          refine (hraw _).mono ?_
          rintro _ _ ⟨rfl, rfl⟩
          go_wp2_with fail
          go_ret
          exact ⟨rfl, hb1⟩
        | true =>
          cases b7 with
          | true =>
            go_enter Tryz.func66, Tryz.ntmps66
            go_wp2_with fail
            refine (hraw _).mono ?_
            rintro _ _ ⟨rfl, rfl⟩
            go_wp2_with fail
            go_ret
            exact ⟨rfl, hb1⟩
          | false =>
            cases el with
            | true =>
              go_enter Tryz.func66, Tryz.ntmps66
              go_wp2_with fail
              refine (hraw _).mono ?_
              rintro _ _ ⟨rfl, rfl⟩
              go_wp2_with fail
              go_ret
              exact ⟨rfl, hb1⟩
            | false =>
              go_enter Tryz.func66, Tryz.ntmps66
              go_wp2_with fail
              refine (hraw _).mono ?_
              rintro _ _ ⟨rfl, rfl⟩
              go_wp2_with fail
              go_ret
              exact ⟨rfl, hb1⟩
    | false =>
      cases z with
      | false =>
        go_enter Tryz.func66, Tryz.ntmps66
        go_wp2_with fail
        go_ret
        exact ⟨rfl, hb1⟩
      | true =>
        cases q with
        | true =>
          cases b7 with
          | true =>
            go_enter Tryz.func66, Tryz.ntmps66
            go_wp2_with fail
            refine (hraw _).mono ?_
            rintro _ _ ⟨rfl, rfl⟩
            go_wp2_with fail
            go_ret
            exact ⟨rfl, hb1⟩
          | false =>
            cases el with
            | true =>
              go_enter Tryz.func66, Tryz.ntmps66
              go_wp2_with fail
              refine (hraw _).mono ?_
              rintro _ _ ⟨rfl, rfl⟩
              go_wp2_with fail
              go_ret
              exact ⟨rfl, hb1⟩
            | false =>
              go_enter Tryz.func66, Tryz.ntmps66
              go_wp2_with fail
              refine (hraw _).mono ?_
              rintro _ _ ⟨rfl, rfl⟩
              go_wp2_with fail
              go_ret
              exact ⟨rfl, hb1⟩
        | false =>
          cases er with
          | false =>
            go_enter Tryz.func66, Tryz.ntmps66
            go_wp2_with fail
            refine (hraw _).mono ?_
            rintro _ _ ⟨rfl, rfl⟩
            go_wp2_with fail
            go_ret
            exact ⟨rfl, hb1⟩
          | true =>
            cases b7 with
            | true =>
              go_enter Tryz.func66, Tryz.ntmps66
              go_wp2_with fail
              refine (hraw _).mono ?_
              rintro _ _ ⟨rfl, rfl⟩
              go_wp2_with fail
              go_ret
              exact ⟨rfl, hb1⟩
            | false =>
              cases el with
              | true =>
                go_enter Tryz.func66, Tryz.ntmps66
                go_wp2_with fail
                refine (hraw _).mono ?_
                rintro _ _ ⟨rfl, rfl⟩
                go_wp2_with fail
                go_ret
                exact ⟨rfl, hb1⟩
              | false =>
                go_enter Tryz.func66, Tryz.ntmps66
                go_wp2_with fail
                refine (hraw _).mono ?_
                rintro _ _ ⟨rfl, rfl⟩
                go_wp2_with fail
                go_ret
                exact ⟨rfl, hb1⟩
  | false =>
    cases y with
    | true =>
      go_enter Tryz.func66, Tryz.ntmps66
      go_wp2_with fail
      go_ret
      exact ⟨rfl, hb1⟩
    | false =>
      cases b2 with
      | true =>
        cases q with
        | true =>
          cases b7 with
          | true =>
            go_enter Tryz.func66, Tryz.ntmps66
            go_wp2_with fail
            refine (hraw _).mono ?_
            rintro _ _ ⟨rfl, rfl⟩
            go_wp2_with fail
            go_ret
            exact ⟨rfl, hb1⟩
          | false =>
            cases el with
            | true =>
              go_enter Tryz.func66, Tryz.ntmps66
              go_wp2_with fail
              refine (hraw _).mono ?_
              rintro _ _ ⟨rfl, rfl⟩
              go_wp2_with fail
              go_ret
              exact ⟨rfl, hb1⟩
            | false =>
              go_enter Tryz.func66, Tryz.ntmps66
              go_wp2_with fail
              refine (hraw _).mono ?_
              rintro _ _ ⟨rfl, rfl⟩
              go_wp2_with fail
              go_ret
              exact ⟨rfl, hb1⟩
        | false =>
          cases er with
          | false =>
            go_enter Tryz.func66, Tryz.ntmps66
            go_wp2_with fail
            refine (hraw _).mono ?_
            rintro _ _ ⟨rfl, rfl⟩
            go_wp2_with fail
            go_ret
            exact ⟨rfl, hb1⟩
          | true =>
            cases b7 with
            | true =>
              go_enter Tryz.func66, Tryz.ntmps66
              go_wp2_with fail
              refine (hraw _).mono ?_
              rintro _ _ ⟨rfl, rfl⟩
              go_wp2_with fail
              go_ret
              exact ⟨rfl, hb1⟩
            | false =>
              cases el with
              | true =>
                go_enter Tryz.func66, Tryz.ntmps66
                go_wp2_with fail
                refine (hraw _).mono ?_
                rintro _ _ ⟨rfl, rfl⟩
                go_wp2_with fail
                go_ret
                exact ⟨rfl, hb1⟩
              | false =>
                go_enter Tryz.func66, Tryz.ntmps66
                go_wp2_with fail
                refine (hraw _).mono ?_
                rintro _ _ ⟨rfl, rfl⟩
                go_wp2_with fail
                go_ret
                exact ⟨rfl, hb1⟩
      | false =>
        cases z with
        | false =>
          go_enter Tryz.func66, Tryz.ntmps66
          go_wp2_with fail
          go_ret
          exact ⟨rfl, hb1⟩
        | true =>
          cases q with
          | true =>
            cases b7 with
            | true =>
              go_enter Tryz.func66, Tryz.ntmps66
              go_wp2_with fail
              refine (hraw _).mono ?_
              rintro _ _ ⟨rfl, rfl⟩
              go_wp2_with fail
              go_ret
              exact ⟨rfl, hb1⟩
            | false =>
              cases el with
              | true =>
                go_enter Tryz.func66, Tryz.ntmps66
                go_wp2_with fail
                refine (hraw _).mono ?_
                rintro _ _ ⟨rfl, rfl⟩
                go_wp2_with fail
                go_ret
                exact ⟨rfl, hb1⟩
              | false =>
                go_enter Tryz.func66, Tryz.ntmps66
                go_wp2_with fail
                refine (hraw _).mono ?_
                rintro _ _ ⟨rfl, rfl⟩
                go_wp2_with fail
                go_ret
                exact ⟨rfl, hb1⟩
          | false =>
            cases er with
            | false =>
              go_enter Tryz.func66, Tryz.ntmps66
              go_wp2_with fail
              refine (hraw _).mono ?_
              rintro _ _ ⟨rfl, rfl⟩
              go_wp2_with fail
              go_ret
              exact ⟨rfl, hb1⟩
            | true =>
              cases b7 with
              | true =>
                go_enter Tryz.func66, Tryz.ntmps66
                go_wp2_with fail
                refine (hraw _).mono ?_
                rintro _ _ ⟨rfl, rfl⟩
                go_wp2_with fail
                go_ret
                exact ⟨rfl, hb1⟩
              | false =>
                cases el with
                | true =>
                  go_enter Tryz.func66, Tryz.ntmps66
                  go_wp2_with fail
                  refine (hraw _).mono ?_
                  rintro _ _ ⟨rfl, rfl⟩
                  go_wp2_with fail
                  go_ret
                  exact ⟨rfl, hb1⟩
                | false =>
                  go_enter Tryz.func66, Tryz.ntmps66
                  go_wp2_with fail
                  refine (hraw _).mono ?_
                  rintro _ _ ⟨rfl, rfl⟩
                  go_wp2_with fail
                  go_ret
                  exact ⟨rfl, hb1⟩
end Go.Proofs.YtkjoomdglealmaaGreatDoor
