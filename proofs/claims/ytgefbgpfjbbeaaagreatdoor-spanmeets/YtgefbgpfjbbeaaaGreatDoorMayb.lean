/- What value.mayBe, ownMayBe, allMayBe do (contracts; nothing is claimed here). -/
import Derived.Test.YtgefbgpfjbbeaaaGreatDoorChk
namespace Go.Proofs.YtgefbgpfjbbeaaaGreatDoor
open Go.RowKit Go.Vf

theorem all_drop (f : Prt → Bool) (l : List Prt) (k : Nat) (h : k < l.length) : (l.drop k).all f = (f l[k] && (l.drop (k + 1)).all f) := by
  rw [List.drop_eq_getElem_cons h, List.all_cons]
def own3 (p : Prt) : Bool := own2 p && (p.kind != 7 || p.items.all may)
theorem may_own3 (p : Prt) : may p = (own1 p && own3 p) := by
  rw [may_eq, own3]
  cases h1 : own1 p with
  | false => rfl
  | true =>
    by_cases h7 : p.kind = 7
    · simp [h7]
    · have : p.items.length = 0 := by
        unfold own1 at h1
        simp [h7] at h1
        simpa using h1.2
      have hn : p.items = [] := List.eq_nil_of_length_eq_zero this
      simp [hn]
theorem own3_mk (k : Int) (y n : Bool) (m r : ByteArray) (l : List Prt) : own3 (.mk k y n m r l) = ((k == 0 || k == 1 || (k == 2 && numOk n m) || ((k == 3 || k == 5 || k == 6) && decide (r.size ≤ 65536)) || (k == 4 && r.size == 16) || (k == 7 && decide (l.length ≤ 1024))) && (k != 7 || l.all may)) := rfl
def MayOk (f : FuncId) (x : Prt) : Prop := ∀ (a : Option Addr) (c lo n₀ : Nat) (w : World), n₀ ≤ w.heap.size → PIn w lo n₀ x a →
    Calls Tryz.prog f #[pV x a c] w fun e w' => e = .returned (.bool (may x)) ∧ Below w.heap.size w w'

set_option maxHeartbeats 1000000 in
set_option maxRecDepth 20000 in
theorem allMay_step (p : Prt) (hl : p.items.length ≤ 281474976710656) (ih : ∀ x ∈ p.items, MayOk 21 x) (a : Option Addr) (c lo n₀ : Nat) (w : World) (hn₀ : n₀ ≤ w.heap.size) (hin : PIn w lo n₀ p a) :
    Calls Tryz.prog 56 #[.slice a p.items.length c] w fun e w' => e = .returned (.bool (p.items.all may)) ∧ Below w.heap.size w w' := by
  obtain ⟨l, hpl⟩ : ∃ l, p.items = l := ⟨_, rfl⟩
  generalize hR : p.items.all may = R
  rw [hpl] at hl hR ih ⊢
  have HR : Hid (R = (l.drop 0).all may) := hR.symm
  have HP : Hid (p.items = l) := hpl
  clear hR hpl
  go_enter Tryz.func56, Tryz.ntmps56
  go_wp2_with fail
  go_loopw [7] (fun i wr => ∃ (j : Nat), j ≤ l.length ∧ i = .int .i64 j ∧ Hid (R = (l.drop j).all may) ∧ Below w.heap.size w wr) (fun i _ => l.length - (intOf i).toNat)
  case atStart => exact ⟨0, by omega, rfl, HR, Below.refl _ _⟩
  case round =>
    clear HR
    obtain ⟨j, hj, rfl, HS, hbel⟩ := hrel
    have hsz := hbel.size
    by_cases hlt : j < l.length
    · have HD : Hid (R = (may l[j] && (l.drop (j + 1)).all may)) := by
        show _ = _
        rw [HS.out, all_drop _ _ _ hlt]
      have hlp : j < p.items.length := by rw [HP.out]; exact hlt
      obtain ⟨bb, off, aj, cj, ha, _, _, hrow, hinj⟩ := (hin.keep hbel hn₀).at hlp
      have hxe : p.items[j] = l[j] := by simp only [HP.out]
      rw [hxe] at hrow hinj
      subst ha
      obtain ⟨r0, r1, r2, r3, r4, r5⟩ := hrow
      have ihj := ih _ (List.getElem_mem hlt)
      clear HS hin ih hxe hlp
      generalize l[j] = x at *
      have hbx := hbel.alloc hbel.size (.cells #[.int .u8 x.kind, .bool x.yes, .bool x.neg, .string x.mag, .string x.raw, .slice aj x.items.length cj] 44)
      have hby := (Below.refl wr.heap.size wr).alloc (Nat.le_refl _) (.cells #[.int .u8 x.kind, .bool x.yes, .bool x.neg, .string x.mag, .string x.raw, .slice aj x.items.length cj] 44)
      have hbz := hby.size
      have hcall := ihj aj cj lo n₀ _ (Nat.le_trans (by omega) hbz) (hinj.keep hby (by omega))
      clear hby hbz
      unfold pV at hcall
      clear ihj hinj
      go_wp2_with fail
      refine hcall.mono ?_
      rintro _ w2 ⟨rfl, hb3⟩
      have hb4 : Below w.heap.size w w2 := hbx.trans (hb3.mono hbx.size)
      cases hq : may x with
      | false =>
        have hRn : R = false := by rw [HD.out, hq]; rfl
        clear HD hq
        go_wp2_with fail
        go_ret
        exact ⟨by rw [hRn]; rfl, hb4⟩
      | true =>
        have HD2 : Hid (R = (l.drop (j + 1)).all may) := by
          show _ = _
          rw [HD.out, hq]; rfl
        clear HD hq
        go_wp2_with fail
        go_roundw
        case rel => exact ⟨j + 1, by omega, by simp, HD2, hb4⟩
        case measure => simp only [intOf]; omega
    · have hRn : R = true := by rw [HS.out, List.drop_of_length_le (by omega)]; rfl
      clear HS hin ih
      go_wp2_with fail
      go_ret
      exact ⟨by rw [hRn]; rfl, hbel⟩

set_option maxHeartbeats 1000000 in
set_option maxRecDepth 20000 in
theorem ownMay_step (p : Prt) (hf : Fits p) (ih : ∀ x ∈ p.items, MayOk 21 x) (a : Option Addr) (c lo n₀ : Nat) (w : World) (hn₀ : n₀ ≤ w.heap.size) (hin : PIn w lo n₀ p a) :
    Calls Tryz.prog 37 #[pV p a c] w fun e w' => e = .returned (.bool (own3 p)) ∧ Below w.heap.size w w' := by
  have hb1 := (Below.refl w.heap.size w).alloc (Nat.le_refl _) (.cells #[.int .u8 p.kind, .bool p.yes, .bool p.neg, .string p.mag, .string p.raw, .slice a p.items.length c] 44)
  have hall := allMay_step p hf.len ih a c lo n₀ _ (Nat.le_trans hn₀ hb1.size) (hin.keep hb1 hn₀)
  have hchk := check_anyV p.neg p.mag hf.mag
  have hrs := hf.raw
  have hls := hf.len
  unfold pV
  clear hin ih hf
  have hck := chk_okV p.neg p.mag
  cases p with | mk k y n m r l =>
  rw [own3_mk]
  simp only [Prt.kind, Prt.yes, Prt.neg, Prt.mag, Prt.raw, Prt.items] at *
  generalize l.all may = A at hall ⊢
  generalize l.length = ln at *
  clear l
  have hS : ∀ (R : Bool), ((k == 0 || k == 1 || (k == 2 && numOk n m) || ((k == 3 || k == 5 || k == 6) && decide (r.size ≤ 65536)) || (k == 4 && r.size == 16) || (k == 7 && decide (ln ≤ 1024))) && (k != 7 || A)) = R →
      (Calls Tryz.prog 37 #[.agg #[.int .u8 k, .bool y, .bool n, .string m, .string r, .slice a ln c]] w fun e w' => e = .returned (.bool R) ∧ Below w.heap.size w w') → Calls Tryz.prog 37 #[.agg #[.int .u8 k, .bool y, .bool n, .string m, .string r, .slice a ln c]] w fun e w' => e = .returned (.bool ((k == 0 || k == 1 || (k == 2 && numOk n m) || ((k == 3 || k == 5 || k == 6) && decide (r.size ≤ 65536)) || (k == 4 && r.size == 16) || (k == 7 && decide (ln ≤ 1024))) && (k != 7 || A))) ∧ Below w.heap.size w w' := by
    intro R hR h
    rw [hR]; exact h
  by_cases e0 : k = 0
  · subst e0
    refine hS true rfl ?_
    clear hS hall hchk hck
    go_enter Tryz.func37, Tryz.ntmps37
    go_wp2_with fail
    go_ret
    exact ⟨rfl, hb1⟩
  by_cases e1 : k = 1
  · subst e1
    refine hS true rfl ?_
    clear hS hall hchk hck
    go_enter Tryz.func37, Tryz.ntmps37
    go_wp2_with fail
    go_ret
    exact ⟨rfl, hb1⟩
  by_cases e2 : k = 2
  · subst e2
    refine hS (chkV n m.data.toList == 0) (by rw [hck]; simp) ?_
    clear hS hall hck
    generalize chkV n m.data.toList = cv at hchk ⊢
    go_enter Tryz.func37, Tryz.ntmps37
    go_wp2_with fail
    refine (hchk _).mono ?_
    rintro _ w2 ⟨rfl, hb2⟩
    go_wp2_with fail
    go_ret
    exact ⟨rfl, hb1.trans (hb2.mono hb1.size)⟩
  by_cases e3 : k = 3
  · subst e3
    by_cases hr : r.size ≤ 65536
    · have t1 : decide ((r.size : Int) ≤ 65536) = true := by simp; omega
      refine hS true (by simp [hr]) ?_
      clear hS hall hchk hck
      go_enter Tryz.func37, Tryz.ntmps37
      go_wp2_with fail
      go_ret
      exact ⟨rfl, hb1⟩
    · have t1 : decide ((r.size : Int) ≤ 65536) = false := by simp; omega
      refine hS false (by simp [hr]) ?_
      clear hS hall hchk hck
      go_enter Tryz.func37, Tryz.ntmps37
      go_wp2_with fail
      go_ret
      exact ⟨rfl, hb1⟩
  by_cases e5 : k = 5
  · subst e5
    by_cases hr : r.size ≤ 65536
    · have t1 : decide ((r.size : Int) ≤ 65536) = true := by simp; omega
      refine hS true (by simp [hr]) ?_
      clear hS hall hchk hck
      go_enter Tryz.func37, Tryz.ntmps37
      go_wp2_with fail
      go_ret
      exact ⟨rfl, hb1⟩
    · have t1 : decide ((r.size : Int) ≤ 65536) = false := by simp; omega
      refine hS false (by simp [hr]) ?_
      clear hS hall hchk hck
      go_enter Tryz.func37, Tryz.ntmps37
      go_wp2_with fail
      go_ret
      exact ⟨rfl, hb1⟩
  by_cases e6 : k = 6
  · subst e6
    by_cases hr : r.size ≤ 65536
    · have t1 : decide ((r.size : Int) ≤ 65536) = true := by simp; omega
      refine hS true (by simp [hr]) ?_
      clear hS hall hchk hck
      go_enter Tryz.func37, Tryz.ntmps37
      go_wp2_with fail
      go_ret
      exact ⟨rfl, hb1⟩
    · have t1 : decide ((r.size : Int) ≤ 65536) = false := by simp; omega
      refine hS false (by simp [hr]) ?_
      clear hS hall hchk hck
      go_enter Tryz.func37, Tryz.ntmps37
      go_wp2_with fail
      go_ret
      exact ⟨rfl, hb1⟩
  by_cases e4 : k = 4
  · subst e4
    by_cases hr : r.size = 16
    · have t1 : ((r.size : Int) == 16) = true := by simp; omega
      refine hS true (by simp [hr]) ?_
      clear hS hall hchk hck hr
      go_enter Tryz.func37, Tryz.ntmps37
      go_wp2_with fail
      go_ret
      exact ⟨rfl, hb1⟩
    · have t1 : ((r.size : Int) == 16) = false := by simp; omega
      refine hS false (by simp [hr]) ?_
      clear hS hall hchk hck
      go_enter Tryz.func37, Tryz.ntmps37
      go_wp2_with fail
      go_ret
      exact ⟨rfl, hb1⟩
  by_cases e7 : k = 7
  · subst e7
    by_cases hr : ln ≤ 1024
    · have t1 : decide ((ln : Int) ≤ 1024) = true := by simp; omega
      refine hS A (by simp [hr]) ?_
      clear hS hchk hck
      go_enter Tryz.func37, Tryz.ntmps37
      go_wp2_with fail
      refine hall.mono ?_
      rintro _ w2 ⟨rfl, hb2⟩
      go_wp2_with fail
      go_ret
      exact ⟨rfl, hb1.trans (hb2.mono hb1.size)⟩
    · have t1 : decide ((ln : Int) ≤ 1024) = false := by simp; omega
      refine hS false (by simp [hr]) ?_
      clear hS hall hchk hck
      go_enter Tryz.func37, Tryz.ntmps37
      go_wp2_with fail
      go_ret
      exact ⟨rfl, hb1⟩
  have t0 : (k == 0) = false := by simpa using e0
  have t1 : (k == 1) = false := by simpa using e1
  have t2 : (k == 2) = false := by simpa using e2
  have t3 : (k == 3) = false := by simpa using e3
  have t4 : (k == 4) = false := by simpa using e4
  have t5 : (k == 5) = false := by simpa using e5
  have t6 : (k == 6) = false := by simpa using e6
  have t7 : (k == 7) = false := by simpa using e7
  refine hS false (by rw [t0, t1, t2, t3, t4, t5, t6, t7]; rfl) ?_
  clear hS hall hchk hck
  go_enter Tryz.func37, Tryz.ntmps37
  go_wp2_with fail
  go_ret
  exact ⟨rfl, hb1⟩

theorem mayBe_any : ∀ (p : Prt), Fits p → MayOk 21 p := by
  intro p
  induction p using Prt.ind with
  | h k y n m r l ih =>
    intro hf
    have ih' : ∀ x ∈ (Prt.mk k y n m r l).items, MayOk 21 x := fun x hx => ih x hx (hf.mem hx)
    generalize Prt.mk k y n m r l = p at hf ih'
    clear ih
    intro a c lo n₀ w hn₀ hin
    have hb1 := (Below.refl w.heap.size w).alloc (Nat.le_refl _) (.cells #[.int .u8 p.kind, .bool p.yes, .bool p.neg, .string p.mag, .string p.raw, .slice a p.items.length c] 44)
    have h1 := nothingElse_any p hf a c (w.alloc (.cells #[.int .u8 p.kind, .bool p.yes, .bool p.neg, .string p.mag, .string p.raw, .slice a p.items.length c] 44))
    have h2 := fun w' (hn : n₀ ≤ w'.heap.size) hi => ownMay_step p hf ih' a c lo n₀ w' hn hi
    have hb0 := Blk.new w 44 #[.int .u8 p.kind, .bool p.yes, .bool p.neg, .string p.mag, .string p.raw, .slice a p.items.length c]
    rw [may_own3]
    unfold pV at h1 h2 ⊢
    clear ih' hf
    cases ho : own1 p with
    | false =>
      rw [ho] at h1
      clear ho h2
      go_enter Tryz.func21, Tryz.ntmps21
      go_wp2_with fail
      refine h1.mono ?_
      rintro _ w2 ⟨rfl, hb2⟩
      go_wp2_with fail
      go_ret
      exact ⟨rfl, hb1.trans (hb2.mono hb1.size)⟩
    | true =>
      rw [ho] at h1
      clear ho
      have hin1 := hin.keep hb1 hn₀
      have hsz := hb1.size
      clear hin
      go_enter Tryz.func21, Tryz.ntmps21
      go_wp2_with fail
      refine h1.mono ?_
      rintro _ w2 ⟨rfl, hb2⟩
      have h3 := h2 w2 (by have := hb2.size; omega) (hin1.keep hb2 (by omega))
      obtain ⟨c0, c1, c2, c3, c4, c5⟩ := (hb0.old hb2).c6
      clear h2 hin1
      go_wp2_with fail
      refine h3.mono ?_
      rintro _ w3 ⟨rfl, hb3⟩
      go_wp2_with fail
      go_ret
      exact ⟨rfl, hb1.trans ((hb2.mono hb1.size).trans (hb3.mono (by have := hb2.size; omega)))⟩
end Go.Proofs.YtgefbgpfjbbeaaaGreatDoor
