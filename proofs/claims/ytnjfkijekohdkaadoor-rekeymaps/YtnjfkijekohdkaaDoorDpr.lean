/- What value.deeper and the document's Deeper do (contracts; nothing is claimed here). -/
import Derived.Test.YtnjfkijekohdkaaDoorHvy
namespace Go.Proofs.YtnjfkijekohdkaaDoor
open Go.RowKit Go.Vf

theorem any_drop (f : Prt → Bool) (l : List Prt) (k : Nat) (h : k < l.length) : (l.drop k).any f = (f l[k] || (l.drop (k + 1)).any f) := by
  rw [List.drop_eq_getElem_cons h, List.any_cons]
theorem World.alloc_le (w : World) (o : Obj) : w.heap.size ≤ (w.alloc o).heap.size := by rw [alloc_size]; omega

set_option maxHeartbeats 1000000 in
set_option maxRecDepth 20000 in
theorem rdeeper_any : ∀ (d : Nat), d ≤ 1000 → ∀ (p : Prt), Fits p → ∀ (a : Option Addr) (c lo n₀ : Nat) (w : World), n₀ ≤ w.heap.size → PIn w lo n₀ p a →
    Calls Tryd.prog 25 #[pV p a c, .int .i64 d] w fun e w' => e = .returned (.bool (deeper d p)) ∧ Below w.heap.size w w' := by
  intro d
  induction d with
  | zero =>
    intro _ p hf a c lo n₀ w hn₀ hin
    cases p with | mk k y b m r l =>
    rw [deeper0]
    unfold pV
    simp only [Prt.kind, Prt.yes, Prt.neg, Prt.mag, Prt.raw, Prt.items]
    have hb1 := (Below.refl w.heap.size w).alloc (Nat.le_refl _) (.cells #[.int .u8 k, .bool y, .bool b, .string m, .string r, .slice a l.length c] 29)
    by_cases h7 : k = 7
    · subst h7
      clear hin hf
      go_enter Tryd.func25, Tryd.ntmps25
      go_wp2_with fail
      go_ret
      exact ⟨rfl, hb1⟩
    · have t0 : (k != 7) = true := by simpa using h7
      have t1 : (k == 7) = false := by simpa using h7
      rw [t1]
      clear hin hf
      go_enter Tryd.func25, Tryd.ntmps25
      go_wp2_with fail
      go_ret
      exact ⟨rfl, hb1⟩
  | succ d ih =>
    intro hd p hf a c lo n₀ w hn₀ hin
    cases p with | mk k y b m r l =>
    have hl := hf.len
    simp only [Prt.items] at hl
    rw [deeperS]
    unfold pV
    simp only [Prt.kind, Prt.yes, Prt.neg, Prt.mag, Prt.raw, Prt.items]
    have hb0 := Blk.new w 29 #[.int .u8 k, .bool y, .bool b, .string m, .string r, .slice a l.length c]
    have hb1 := (Below.refl w.heap.size w).alloc (Nat.le_refl _) (.cells #[.int .u8 k, .bool y, .bool b, .string m, .string r, .slice a l.length c] 29)
    by_cases h7 : k = 7
    · subst h7
      rw [show (((7 : Int) == 7) && l.any (deeper d)) = l.any (deeper d) by simp]
      generalize hR : l.any (deeper d) = R
      have HR : Hid (R = (l.drop 0).any (deeper d)) := hR.symm
      clear hR
      have hD1 : ((d + 1 : Nat) : Int) - 1 = (d : Int) := by omega
      have hD2 : (1 : Int) ≤ ((d + 1 : Nat) : Int) ∧ ((d + 1 : Nat) : Int) ≤ 1001 := by omega
      generalize ((d + 1 : Nat) : Int) = D at hD1 hD2 ⊢
      obtain ⟨hD3, hD4⟩ := hD2
      have t2 : decide (D < 1) = false := by simp; omega
      have hin1 := hin.keep hb1 hn₀
      have hb2 : (w.alloc (.cells #[.int .u8 7, .bool y, .bool b, .string m, .string r, .slice a l.length c] 29)).heap.size = w.heap.size + 1 := alloc_size _ _
      obtain ⟨c0, c1, c2, c3, c4, c5⟩ := hb0.c6
      go_enter Tryd.func25, Tryd.ntmps25
      go_wp2_with fail
      generalize w.alloc (.cells #[.int .u8 7, .bool y, .bool b, .string m, .string r, .slice a l.length c] 29) = w1 at hb0 hb1 hin1 hb2 c0 c1 c2 c3 c4 c5 ⊢
      clear c0 c1 c2 c3 c4 c5
      go_loopw [5] (fun i wr => ∃ (j : Nat), j ≤ l.length ∧ i = .int .i64 j ∧ Hid (R = (l.drop j).any (deeper d)) ∧ Below w1.heap.size w1 wr) (fun i _ => l.length - (intOf i).toNat)
      case atStart => exact ⟨0, by omega, rfl, HR, Below.refl _ _⟩
      case round =>
        clear HR
        obtain ⟨j, hj, rfl, HS, hbel⟩ := hrel
        obtain ⟨c0, c1, c2, c3, c4, c5⟩ := (hb0.below hbel hb0.lt).c6
        have hbb : Below w.heap.size w wr := hb1.trans (hbel.mono (by omega))
        have hsz := hbb.size
        by_cases hlt : j < l.length
        · have HD : Hid (R = (deeper d l[j] || (l.drop (j + 1)).any (deeper d))) := by
            show _ = _
            rw [HS.out, any_drop _ _ _ hlt]
          obtain ⟨bb, off, aj, cj, ha, _, _, hrow, hinj⟩ := (hin1.keep hbel (by omega)).at hlt
          simp only [Prt.items] at ha hrow hinj
          subst ha
          obtain ⟨r0, r1, r2, r3, r4, r5⟩ := hrow
          have hfj := hf.mem (p := .mk 7 y b m r l) (List.getElem_mem hlt)
          clear HS hin hf hin1
          generalize l[j] = x at *
          have hbx := hbel
          have hcall := ih (by omega) x hfj aj cj lo n₀ wr (by omega) hinj
          unfold pV at hcall
          clear ih hinj
          go_wp2_with fail
          refine hcall.mono ?_
          rintro _ w2 ⟨rfl, hb3⟩
          have hb4 : Below w1.heap.size w1 w2 := hbx.trans (hb3.mono hbx.size)
          cases hq : deeper d x with
          | true =>
            have hRn : R = true := by rw [HD.out, hq]; rfl
            clear HD hq
            go_wp2_with fail
            go_ret
            exact ⟨by rw [hRn]; rfl, hb1.trans (hb4.mono (by omega))⟩
          | false =>
            have HD2 : Hid (R = (l.drop (j + 1)).any (deeper d)) := by
              show _ = _
              rw [HD.out, hq]; rfl
            clear HD hq
            go_wp2_with fail
            go_roundw
            case rel => exact ⟨j + 1, by omega, by simp, HD2, hb4⟩
            case measure => simp only [intOf]; omega
        · have hRn : R = false := by rw [HS.out, List.drop_of_length_le (by omega)]; rfl
          clear HS ih hin hf hin1
          go_wp2_with fail
          go_ret
          exact ⟨by rw [hRn]; rfl, hbb⟩
    · have t0 : (k != 7) = true := by simpa using h7
      have t1 : (k == 7) = false := by simpa using h7
      rw [t1, Bool.false_and]
      clear hin hf ih
      go_enter Tryd.func25, Tryd.ntmps25
      go_wp2_with fail
      go_ret
      exact ⟨rfl, hb1⟩

set_option maxHeartbeats 1000000 in
set_option maxRecDepth 20000 in
theorem deeper_any : ∀ (d : Nat), d ≤ 1000 → ∀ (p : Prt), Fits p → ∀ (a : Option Addr) (c lo n₀ : Nat) (w : World), n₀ ≤ w.heap.size → PIn w lo n₀ p a →
    Calls Tryd.prog 22 #[pV p a c, .int .i64 d] w fun e w' => e = .returned (.bool (deeper d p)) ∧ Below w.heap.size w w' := by
  intro d
  induction d with
  | zero =>
    intro _ p hf a c lo n₀ w hn₀ hin
    cases p with | mk k y b m r l =>
    rw [deeper0]
    unfold pV
    simp only [Prt.kind, Prt.yes, Prt.neg, Prt.mag, Prt.raw, Prt.items]
    have hb1 := (Below.refl w.heap.size w).alloc (Nat.le_refl _) (.cells #[.int .u8 k, .bool y, .bool b, .string m, .string r, .slice a l.length c] 29)
    by_cases h7 : k = 7
    · subst h7
      clear hin hf
      go_enter Tryd.func22, Tryd.ntmps22
      go_wp2_with fail
      go_ret
      exact ⟨rfl, hb1⟩
    · have t0 : (k != 7) = true := by simpa using h7
      have t1 : (k == 7) = false := by simpa using h7
      rw [t1]
      clear hin hf
      go_enter Tryd.func22, Tryd.ntmps22
      go_wp2_with fail
      go_ret
      exact ⟨rfl, hb1⟩
  | succ d ih =>
    intro hd p hf a c lo n₀ w hn₀ hin
    cases p with | mk k y b m r l =>
    have hl := hf.len
    simp only [Prt.items] at hl
    rw [deeperS]
    unfold pV
    simp only [Prt.kind, Prt.yes, Prt.neg, Prt.mag, Prt.raw, Prt.items]
    have hb0 := Blk.new w 29 #[.int .u8 k, .bool y, .bool b, .string m, .string r, .slice a l.length c]
    have hb1 := (Below.refl w.heap.size w).alloc (Nat.le_refl _) (.cells #[.int .u8 k, .bool y, .bool b, .string m, .string r, .slice a l.length c] 29)
    by_cases h7 : k = 7
    · subst h7
      rw [show (((7 : Int) == 7) && l.any (deeper d)) = l.any (deeper d) by simp]
      generalize hR : l.any (deeper d) = R
      have HR : Hid (R = (l.drop 0).any (deeper d)) := hR.symm
      clear hR
      have hD1 : ((d + 1 : Nat) : Int) - 1 = (d : Int) := by omega
      have hD2 : (1 : Int) ≤ ((d + 1 : Nat) : Int) ∧ ((d + 1 : Nat) : Int) ≤ 1001 := by omega
      generalize ((d + 1 : Nat) : Int) = D at hD1 hD2 ⊢
      obtain ⟨hD3, hD4⟩ := hD2
      have t2 : (D == 0) = false := beq_eq_false_iff_ne.2 (by omega)
      have hin1 := hin.keep hb1 hn₀
      have hb2 : (w.alloc (.cells #[.int .u8 7, .bool y, .bool b, .string m, .string r, .slice a l.length c] 29)).heap.size = w.heap.size + 1 := alloc_size _ _
      obtain ⟨c0, c1, c2, c3, c4, c5⟩ := hb0.c6
      go_enter Tryd.func22, Tryd.ntmps22
      go_wp2_with fail
      generalize w.alloc (.cells #[.int .u8 7, .bool y, .bool b, .string m, .string r, .slice a l.length c] 29) = w1 at hb0 hb1 hin1 hb2 c0 c1 c2 c3 c4 c5 ⊢
      clear c0 c1 c2 c3 c4 c5
      go_loopw [15] (fun i wr => ∃ (j : Nat), j ≤ l.length ∧ i = .int .i64 j ∧ Hid (R = (l.drop j).any (deeper d)) ∧ Below w1.heap.size w1 wr) (fun i _ => l.length - (intOf i).toNat)
      case atStart => exact ⟨0, by omega, rfl, HR, Below.refl _ _⟩
      case round =>
        clear HR
        obtain ⟨j, hj, rfl, HS, hbel⟩ := hrel
        obtain ⟨c0, c1, c2, c3, c4, c5⟩ := (hb0.below hbel hb0.lt).c6
        have hbb : Below w.heap.size w wr := hb1.trans (hbel.mono (by omega))
        have hsz := hbb.size
        by_cases hlt : j < l.length
        · have HD : Hid (R = (deeper d l[j] || (l.drop (j + 1)).any (deeper d))) := by
            show _ = _
            rw [HS.out, any_drop _ _ _ hlt]
          obtain ⟨bb, off, aj, cj, ha, _, _, hrow, hinj⟩ := (hin1.keep hbel (by omega)).at hlt
          simp only [Prt.items] at ha hrow hinj
          subst ha
          obtain ⟨r0, r1, r2, r3, r4, r5⟩ := hrow
          have hfj := hf.mem (p := .mk 7 y b m r l) (List.getElem_mem hlt)
          clear HS hin hf hin1
          generalize l[j] = x at *
          have hbx := hbel.alloc hbel.size (.cells #[.int .u8 x.kind, .bool x.yes, .bool x.neg, .string x.mag, .string x.raw, .slice aj x.items.length cj] 29)
          have hby := (Below.refl wr.heap.size wr).alloc (Nat.le_refl _) (.cells #[.int .u8 x.kind, .bool x.yes, .bool x.neg, .string x.mag, .string x.raw, .slice aj x.items.length cj] 29)
          have hbz := hby.size
          have hcall := ih (by omega) x hfj aj cj lo n₀ _ (Nat.le_trans (by omega) hbz) (hinj.keep hby (by omega))
          clear hby hbz
          unfold pV at hcall
          clear ih hinj
          go_wp2_with fail
          refine hcall.mono ?_
          rintro _ w2 ⟨rfl, hb3⟩
          have hb4 : Below w1.heap.size w1 w2 := hbx.trans (hb3.mono hbx.size)
          cases hq : deeper d x with
          | true =>
            have hRn : R = true := by rw [HD.out, hq]; rfl
            clear HD hq
            go_wp2_with fail
            go_ret
            exact ⟨by rw [hRn]; rfl, hb1.trans (hb4.mono (by omega))⟩
          | false =>
            have HD2 : Hid (R = (l.drop (j + 1)).any (deeper d)) := by
              show _ = _
              rw [HD.out, hq]; rfl
            clear HD hq
            go_wp2_with fail
            go_roundw
            case rel => exact ⟨j + 1, by omega, by simp, HD2, hb4⟩
            case measure => simp only [intOf]; omega
        · have hRn : R = false := by rw [HS.out, List.drop_of_length_le (by omega)]; rfl
          clear HS ih hin hf hin1
          go_wp2_with fail
          go_ret
          exact ⟨by rw [hRn]; rfl, hbb⟩
    · have t0 : (k != 7) = true := by simpa using h7
      have t1 : (k == 7) = false := by simpa using h7
      rw [t1, Bool.false_and]
      clear hin hf ih
      go_enter Tryd.func22, Tryd.ntmps22
      go_wp2_with fail
      go_ret
      exact ⟨rfl, hb1⟩
end Go.Proofs.YtnjfkijekohdkaaDoor
