/- What dovetaillaw09.heavy and weight do (contracts; nothing is claimed here). -/
import Derived.Test.YtedmmifflbnmbaaDoorVMem
namespace Go.Proofs.YtedmmifflbnmbaaDoor
open Go.RowKit Go.Vf

/-- Strings and lists that a machine bears. -/
inductive Fits : Prt → Prop where
  | mk {p : Prt} : 0 ≤ p.kind → p.raw.size ≤ 281474976710656 → p.mag.size ≤ 281474976710656 → p.items.length ≤ 281474976710656 → (∀ x ∈ p.items, Fits x) → Fits p
theorem Fits.pos {p : Prt} (h : Fits p) : 0 ≤ p.kind := by cases h; assumption
theorem Fits.raw {p : Prt} (h : Fits p) : p.raw.size ≤ 281474976710656 := by cases h; assumption
theorem Fits.mag {p : Prt} (h : Fits p) : p.mag.size ≤ 281474976710656 := by cases h; assumption
theorem Fits.len {p : Prt} (h : Fits p) : p.items.length ≤ 281474976710656 := by cases h; assumption
theorem Fits.mem {p x : Prt} (h : Fits p) (hx : x ∈ p.items) : Fits x := by cases h; rename_i h1; exact h1 x hx

theorem hvy_le : ∀ (p : Prt), Fits p → ∀ (n d : Nat), n ≤ mostW → hvy p n d ≤ 600000000000000 := by
  intro p
  induction p using Prt.ind with
  | h k y b m r l ih =>
    intro hf n d hn
    have hr := hf.raw
    have hm := hf.mag
    simp only [Prt.raw, Prt.mag] at hr hm
    rw [hvy]
    have hW : mostW = 134217728 := rfl
    split
    · omega
    · have : ∀ (q : List Prt), (∀ x ∈ q, x ∈ l) → ∀ n', n' ≤ 600000000000000 → hvyL q n' (d + 1) ≤ 600000000000000 := by
        intro q
        induction q with
        | nil => intro _ n' h; rw [hvyL]; exact h
        | cons a t iht =>
          intro hq n' h
          rw [hvyL]
          split
          · exact iht (fun x hx => hq x (by simp [hx])) _ (ih a (hq a (by simp)) (hf.mem (hq a (by simp))) n' (d + 1) (by assumption))
          · exact h
      exact this l (fun x hx => hx) _ (by omega)

set_option maxHeartbeats 1000000 in
set_option maxRecDepth 20000 in
theorem heavy_any : ∀ (p : Prt), Fits p → ∀ (a : Option Addr) (c n d lo n₀ : Nat) (w : World), n₀ ≤ w.heap.size → PIn w lo n₀ p a → n ≤ mostW → d ≤ 301 →
    Calls Tryd.prog 15 #[pV p a c, .int .i64 n, .int .i64 d] w fun e w' => e = .returned (.int .i64 (hvy p n d : Nat)) ∧ Below w.heap.size w w' := by
  intro p
  induction p using Prt.ind with
  | h k y b m r l ih =>
    intro hf a c n d lo n₀ w hn₀ hin hn hd
    have hr := hf.raw
    have hm := hf.mag
    have hl := hf.len
    have hW : mostW = 134217728 := rfl
    have hn' : n ≤ 134217728 := hn
    clear hn
    simp only [Prt.raw, Prt.mag, Prt.items] at hr hm hl
    unfold pV
    simp only [Prt.kind, Prt.yes, Prt.neg, Prt.mag, Prt.raw, Prt.items]
    have hb0 := Blk.new w 27 #[.int .u8 k, .bool y, .bool b, .string m, .string r, .slice a l.length c]
    have hb1 := (Below.refl w.heap.size w).alloc (Nat.le_refl _) (.cells #[.int .u8 k, .bool y, .bool b, .string m, .string r, .slice a l.length c] 27)
    by_cases h300 : 300 < d
    · have hR : hvy (.mk k y b m r l) n d = 134217729 := by rw [hvy, if_pos h300]; rfl
      rw [hR]
      have t0 : decide ((300 : Int) < (d : Int)) = true := by simp; omega
      clear ih hin hf hR
      go_enter Tryd.func15, Tryd.ntmps15
      go_wp2_with fail
      go_ret
      exact ⟨rfl, hb1⟩
    · have hR : hvy (.mk k y b m r l) n d = hvyL l (n + 16 + r.size + m.size) (d + 1) := by rw [hvy, if_neg h300]
      generalize hvy (.mk k y b m r l) n d = R at hR ⊢
      have HR : Hid (R = hvyL l (n + 16 + r.size + m.size) (d + 1)) := hR
      clear hR
      have t0 : decide ((300 : Int) < (d : Int)) = false := by simp; omega
      have hin1 := hin.keep hb1 hn₀
      have hb2 : (w.alloc (.cells #[.int .u8 k, .bool y, .bool b, .string m, .string r, .slice a l.length c] 27)).heap.size = w.heap.size + 1 := alloc_size _ _
      obtain ⟨c0, c1, c2, c3, c4, c5⟩ := hb0.c6
      have HW : Hid (mostW = 134217728) := hW
      clear hW
      go_enter Tryd.func15, Tryd.ntmps15
      go_wp2_with fail
      generalize w.alloc (.cells #[.int .u8 k, .bool y, .bool b, .string m, .string r, .slice a l.length c] 27) = w1 at hb0 hb1 hin1 hb2 c0 c1 c2 c3 c4 c5 ⊢
      clear c0 c1 c2 c3 c4 c5
      go_loopw [1, 7] (fun x i wr => ∃ (j s : Nat), j ≤ l.length ∧ i = .int .i64 j ∧ x = .int .i64 s ∧ s ≤ 600000000000000 ∧ Hid (R = hvyL (l.drop j) s (d + 1)) ∧ Below w1.heap.size w1 wr) (fun _ i _ => l.length - (intOf i).toNat)
      case atStart => exact ⟨0, n + 16 + r.size + m.size, by omega, rfl, by simp, by have := HW.out; omega, HR, Below.refl _ _⟩
      case round =>
        clear HR
        obtain ⟨j, s, hj, rfl, rfl, hs, HS, hbel⟩ := hrel
        obtain ⟨c0, c1, c2, c3, c4, c5⟩ := (hb0.below hbel hb0.lt).c6
        have hbb : Below w.heap.size w wr := hb1.trans (hbel.mono (by omega))
        have hsz := hbb.size
        by_cases hlt : j < l.length
        · have hdr : l.drop j = l[j] :: l.drop (j + 1) := List.drop_eq_getElem_cons hlt
          by_cases hms : s ≤ mostW
          · have hR2 : Hid (R = hvyL (l.drop (j + 1)) (hvy l[j] s (d + 1)) (d + 1)) := by
              show _ = _
              rw [HS.out, hdr, hvyL, if_pos hms]
            have t1 : decide ((s : Int) ≤ 134217728) = true := by have := HW.out; simp; omega
            obtain ⟨bb, off, aj, cj, ha, _, _, hrow, hinj⟩ := (hin1.keep hbel (by omega)).at hlt
            simp only [Prt.items] at ha hrow hinj
            subst ha
            obtain ⟨r0, r1, r2, r3, r4, r5⟩ := hrow
            have hcall := ih l[j] (List.getElem_mem hlt) (hf.mem (List.getElem_mem hlt)) aj cj s (d + 1) lo n₀ wr (by omega) hinj hms (by omega)
            have hle := hvy_le l[j] (hf.mem (List.getElem_mem hlt)) s (d + 1) hms
            unfold pV at hcall
            clear hdr HS ih hin hf hin1 hinj
            generalize l[j] = x at *
            go_wp2_with fail
            refine hcall.mono ?_
            rintro _ w2 ⟨rfl, hb3⟩
            go_wp2_with fail
            go_roundw
            case rel => exact ⟨j + 1, _, by omega, by simp, rfl, hle, hR2, hbel.trans (hb3.mono hbel.size)⟩
            case measure => simp only [intOf]; omega
          · have hRs : R = s := by
              rw [HS.out, hdr, hvyL, if_neg hms]
            have t1 : decide ((s : Int) ≤ 134217728) = false := by have := HW.out; simp; omega
            clear hdr HS ih hin hf hin1
            go_wp2_with fail
            go_ret
            exact ⟨by rw [hRs]; rfl, hbb⟩
        · have hRs : R = s := by
            rw [HS.out, List.drop_of_length_le (by omega), hvyL]
          clear HS ih hin hf hin1
          go_wp2_with fail
          go_ret
          exact ⟨by rw [hRs]; rfl, hbb⟩

theorem weight_any (p : Prt) (hf : Fits p) (a : Option Addr) (c n lo n₀ : Nat) (w : World) (hn₀ : n₀ ≤ w.heap.size) (hin : PIn w lo n₀ p a) (hn : n ≤ mostW) :
    Calls Tryd.prog 5 #[pV p a c, .int .i64 n] w fun e w' => e = .returned (.int .i64 (hvy p n 0 : Nat)) ∧ Below w.heap.size w w' := by
  have hb1 := (Below.refl w.heap.size w).alloc (Nat.le_refl _) (.cells #[.int .u8 p.kind, .bool p.yes, .bool p.neg, .string p.mag, .string p.raw, .slice a p.items.length c] 27)
  have hc := heavy_any p hf a c n 0 lo n₀ _ (Nat.le_trans hn₀ hb1.size) (hin.keep hb1 hn₀) hn (by omega)
  unfold pV at hc ⊢
  clear hin hn hf
  go_enter Tryd.func5, Tryd.ntmps5
  go_wp2_with fail
  refine hc.mono ?_
  rintro _ w2 ⟨rfl, hb3⟩
  go_wp2_with fail
  go_ret
  exact ⟨rfl, hb1.trans (hb3.mono hb1.size)⟩
end Go.Proofs.YtedmmifflbnmbaaDoor
