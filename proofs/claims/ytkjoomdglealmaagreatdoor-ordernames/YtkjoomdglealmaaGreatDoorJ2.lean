/- Contracts and lemmas (nothing is claimed here). -/
import Derived.Test.YtkjoomdglealmaaGreatDoorJ1
namespace Go.Proofs.YtkjoomdglealmaaGreatDoor
open Go.RowKit Go.Vf

theorem num_eq (p : Bool) (A : ByteArray) (q : Bool) (B : ByteArray) (w : World) : (Op.equalIn 10000 27 (.agg #[.bool p, .string A]) (.agg #[.bool q, .string B])).run Tryz.prog w = .ok (p == q && A.toList == B.toList) w := by
  have h : ∀ d, (Op.equalIn (d + 1 + 1) 27 (.agg #[.bool p, .string A]) (.agg #[.bool q, .string B])).run Tryz.prog w = .ok (p == q && A.toList == B.toList) w := fun d => by
    simp [go_sem]
    by_cases h1 : p = q <;> by_cases h2 : A.toList = B.toList <;> simp [h1, h2]
  exact h 9998
theorem drop_atV (s : ByteArray) (k : Nat) (hk : k < s.size) : s.data.toList.drop k = s[k] :: s.data.toList.drop (k + 1) := by
  rw [List.drop_eq_getElem_cons (by rw [← Lib.size_eq]; exact hk)]
  rfl
def chkV (b : Bool) (m : List UInt8) : Int := if 255 < m.length then 21 else if (m.isEmpty && b) || m.head? == some 0 then 20 else 0
theorem chk_okV (b : Bool) (m : ByteArray) : (chkV b m.data.toList == 0) = numOk b m := by
  unfold chkV numOk
  rw [← Lib.size_eq]
  by_cases h : 255 < m.size
  · have h2 : ¬ m.size ≤ 255 := by omega
    simp [h, h2]
  · simp only [h, if_false]
    rw [show decide (m.size ≤ 255) = true by simp; omega]
    cases (m.data.toList.isEmpty && b || m.data.toList.head? == some 0) <;> simp
set_option maxHeartbeats 400000 in
theorem rcheck_anyV (b : Bool) (m : ByteArray) (hm : m.size ≤ 281474976710656) (w : World) :
    Calls Tryz.prog 65 #[.agg #[.bool b, .string m]] w fun e w' => e = .returned (.int .i64 (chkV b m.data.toList)) ∧ Below w.heap.size w w' := by
  have hl : m.data.toList.length = m.size := (Lib.size_eq m).symm
  have hbel := (Below.refl w.heap.size w).alloc (Nat.le_refl _) (.cells #[.bool b, .string m] 27)
  by_cases h1 : 255 < m.size
  · have hR : chkV b m.data.toList = 21 := by simp [chkV, hl, h1]
    rw [hR]
    go_enter Tryz.func65, Tryz.ntmps65
    go_wp2
    go_ret
    exact ⟨rfl, hbel⟩
  · by_cases h2 : m.size = 0
    · have hn : m.data.toList = [] := List.eq_nil_of_length_eq_zero (by omega)
      have he : m.toList.isEmpty = true := by rw [ByteArray.toList_eq, hn]; rfl
      rw [hn]
      clear hn hl
      cases b
      all_goals
        go_enter Tryz.func65, Tryz.ntmps65
        go_wp2
        go_ret
        exact ⟨rfl, hbel⟩
    · have he : m.toList.isEmpty = false := by
        rw [ByteArray.toList_eq]
        cases h : m.data.toList with
        | nil => rw [h] at hl; exact absurd hl.symm h2
        | cons x r => rfl
      have h0 : 0 < m.size := by omega
      obtain ⟨r, hd⟩ : ∃ r, m.data.toList = m[0] :: r := ⟨_, (List.drop_zero (l := m.data.toList)).symm.trans (drop_atV m 0 h0)⟩
      by_cases h3 : m[0] = 0
      · have hR : chkV b m.data.toList = 20 := by
          have h4 : ¬ 255 < m.data.toList.length := by omega
          rw [hd] at h4 ⊢
          simp only [chkV, h4, if_false]
          simp [h3]
        have hx : (m[0].toNat : Int) = 0 := by rw [h3]; rfl
        rw [hR]
        clear hR h3 hd
        go_enter Tryz.func65, Tryz.ntmps65
        go_wp2
        go_ret
        exact ⟨rfl, hbel⟩
      · have hR : chkV b m.data.toList = 0 := by
          have h4 : ¬ 255 < m.data.toList.length := by omega
          rw [hd] at h4 ⊢
          simp only [chkV, h4, if_false]
          simp [h3]
        have hx : ¬ (m[0].toNat : Int) = 0 := fun h => h3 (UInt8.toNat_inj.1 (by simpa using h))
        rw [hR]
        clear hR h3 hd
        go_enter Tryz.func65, Tryz.ntmps65
        go_wp2
        go_ret
        exact ⟨rfl, hbel⟩

set_option maxHeartbeats 400000 in
theorem check_anyV (b : Bool) (m : ByteArray) (hm : m.size ≤ 281474976710656) (w : World) :
    Calls Tryz.prog 98 #[.agg #[.bool b, .string m]] w fun e w' => e = .returned (.int .i64 (chkV b m.data.toList)) ∧ Below w.heap.size w w' := by
  have hl : m.data.toList.length = m.size := (Lib.size_eq m).symm
  have hbel := (Below.refl w.heap.size w).alloc (Nat.le_refl _) (.cells #[.bool b, .string m] 27)
  by_cases h1 : 255 < m.size
  · have hR : chkV b m.data.toList = 21 := by simp [chkV, hl, h1]
    rw [hR]
    go_enter Tryz.func98, Tryz.ntmps98
    go_wp2
    go_ret
    exact ⟨rfl, hbel⟩
  · by_cases h2 : m.size = 0
    · have hn : m.data.toList = [] := List.eq_nil_of_length_eq_zero (by omega)
      have he : m.toList.isEmpty = true := by rw [ByteArray.toList_eq, hn]; rfl
      rw [hn]
      clear hn hl
      cases b
      all_goals
        go_enter Tryz.func98, Tryz.ntmps98
        go_wp2
        go_ret
        exact ⟨rfl, hbel⟩
    · have he : m.toList.isEmpty = false := by
        rw [ByteArray.toList_eq]
        cases h : m.data.toList with
        | nil => rw [h] at hl; exact absurd hl.symm h2
        | cons x r => rfl
      have h0 : 0 < m.size := by omega
      obtain ⟨r, hd⟩ : ∃ r, m.data.toList = m[0] :: r := ⟨_, (List.drop_zero (l := m.data.toList)).symm.trans (drop_atV m 0 h0)⟩
      by_cases h3 : m[0] = 0
      · have hR : chkV b m.data.toList = 20 := by
          have h4 : ¬ 255 < m.data.toList.length := by omega
          rw [hd] at h4 ⊢
          simp only [chkV, h4, if_false]
          simp [h3]
        have hx : (m[0].toNat : Int) = 0 := by rw [h3]; rfl
        rw [hR]
        clear hR h3 hd
        go_enter Tryz.func98, Tryz.ntmps98
        go_wp2
        go_ret
        exact ⟨rfl, hbel⟩
      · have hR : chkV b m.data.toList = 0 := by
          have h4 : ¬ 255 < m.data.toList.length := by omega
          rw [hd] at h4 ⊢
          simp only [chkV, h4, if_false]
          simp [h3]
        have hx : ¬ (m[0].toNat : Int) = 0 := fun h => h3 (UInt8.toNat_inj.1 (by simpa using h))
        rw [hR]
        clear hR h3 hd
        go_enter Tryz.func98, Tryz.ntmps98
        go_wp2
        go_ret
        exact ⟨rfl, hbel⟩


theorem isRaw_any (k : Int) (w : World) : Calls Tryz.prog 97 #[.int .u8 k] w fun e w' => e = .returned (.bool (isRawK k)) ∧ w' = w := by
  by_cases h3 : k = 3
  · subst h3
    go_enter Tryz.func97, Tryz.ntmps97
    go_wp2_with fail
    go_ret
    exact ⟨rfl, rfl⟩
  · by_cases h4 : k = 4
    · subst h4
      go_enter Tryz.func97, Tryz.ntmps97
      go_wp2_with fail
      go_ret
      exact ⟨rfl, rfl⟩
    · by_cases h5 : k = 5
      · subst h5
        go_enter Tryz.func97, Tryz.ntmps97
        go_wp2_with fail
        go_ret
        exact ⟨rfl, rfl⟩
      · by_cases h6 : k = 6
        · subst h6
          go_enter Tryz.func97, Tryz.ntmps97
          go_wp2_with fail
          go_ret
          exact ⟨rfl, rfl⟩
        · have hR : isRawK k = false := by simp [isRawK, h3, h4, h5, h6]
          rw [hR]
          have t3 : (k == 3) = false := by simpa using h3
          have t4 : (k == 4) = false := by simpa using h4
          have t5 : (k == 5) = false := by simpa using h5
          have t6 : (k == 6) = false := by simpa using h6
          go_enter Tryz.func97, Tryz.ntmps97
          go_wp2_with fail
          go_ret
          exact ⟨rfl, rfl⟩

theorem empty_iff (r : ByteArray) : r.toList.isEmpty = (r.size == 0) := by
  rw [ByteArray.toList_eq]
  rw [Lib.size_eq]
  cases r.data.toList <;> simp

set_option maxHeartbeats 4000000 in
set_option maxRecDepth 20000 in
theorem nothingElse_any (p : Prt) (hf : Fits p) (a : Option Addr) (c : Nat) (w : World) :
    Calls Tryz.prog 66 #[pV p a c] w fun e w' => e = .returned (.bool (own1 p)) ∧ Below w.heap.size w w' := by
  cases p with | mk k y n m r l =>
  have hl := hf.len
  simp only [Prt.items] at hl
  unfold pV own1
  simp only [Prt.kind, Prt.yes, Prt.neg, Prt.mag, Prt.raw, Prt.items]
  have hb1 := (Below.refl w.heap.size w).alloc (Nat.le_refl _) (.cells #[.int .u8 k, .bool y, .bool n, .string m, .string r, .slice a l.length c] 30)
  have hraw := isRaw_any k
  clear hf
  obtain ⟨q, hq⟩ : ∃ q, isRawK k = q := ⟨_, rfl⟩
  obtain ⟨z, hz⟩ : ∃ z, (!n && m.size == 0) = z := ⟨_, rfl⟩
  obtain ⟨er, her⟩ : ∃ z, (r.size == 0) = z := ⟨_, rfl⟩
  obtain ⟨el, hel⟩ : ∃ z, (l.length == 0) = z := ⟨_, rfl⟩
  have heq : ∀ w : World, (Op.equalIn 10000 27 (.agg #[.bool n, .string m]) (.agg #[.bool false, .string ⟨#[]⟩])).run Tryz.prog w = .ok z w := fun w => by
    rw [num_eq, ← hz]
    congr 1
    have := empty_iff m
    cases n <;> simp_all [ByteArray.toList_eq]
  have her' : r.toList.isEmpty = er := by rw [empty_iff, her]
  have hel' : ((l.length : Int) == 0) = el := by
    rw [← hel]
    rw [Bool.eq_iff_iff]; simp
  rw [hq, hz, her, hel]
  rw [hq] at hraw
  clear hz her hel
  obtain ⟨b1, h1⟩ : ∃ q, (k == 1) = q := ⟨_, rfl⟩
  obtain ⟨b2, h2⟩ : ∃ q, (k == 2) = q := ⟨_, rfl⟩
  obtain ⟨b7, h7⟩ : ∃ q, (k == 7) = q := ⟨_, rfl⟩
  rw [h1, h2, h7]
  have HQ : Hid (isRawK k = q) := hq
  clear hq
  clear HQ
  cases b1 with
  | true =>
    cases b2 with
    | true =>
      cases q with
      | true =>
        cases b7 with
        | true =>
          go_enter Tryz.func66, Tryz.ntmps66
          go_wp2_with fail
          refine (hraw _).mono ?_
          rintro _ _ ⟨rfl, rfl⟩
          go_wp2_with fail
          go_ret
          exact ⟨rfl, hb1⟩
        | false =>
          cases el with
          | true =>
            go_enter Tryz.func66, Tryz.ntmps66
            go_wp2_with fail
            refine (hraw _).mono ?_
            rintro _ _ ⟨rfl, rfl⟩
            go_wp2_with fail
            go_ret
            exact ⟨rfl, hb1⟩
          | false =>
            go_enter Tryz.func66, Tryz.ntmps66
            go_wp2_with fail
            refine (hraw _).mono ?_
            rintro _ _ ⟨rfl, rfl⟩
            go_wp2_with fail
            go_ret
            exact ⟨rfl, hb1⟩
      | false =>
        cases er with
        | false =>
          go_enter Tryz.func66, Tryz.ntmps66
          go_wp2_with fail
          refine (hraw _).mono ?_
          rintro _ _ ⟨rfl, rfl⟩
          go_wp2_with fail
          go_ret
          exact ⟨rfl, hb1⟩
        | true =>
          cases b7 with
          | true =>
            go_enter Tryz.func66, Tryz.ntmps66
            go_wp2_with fail
            refine (hraw _).mono ?_
            rintro _ _ ⟨rfl, rfl⟩
            go_wp2_with fail
            go_ret
            exact ⟨rfl, hb1⟩
          | false =>
            cases el with
            | true =>
              go_enter Tryz.func66, Tryz.ntmps66
              go_wp2_with fail
              refine (hraw _).mono ?_
              rintro _ _ ⟨rfl, rfl⟩
              go_wp2_with fail
              go_ret
              exact ⟨rfl, hb1⟩
            | false =>
              go_enter Tryz.func66, Tryz.ntmps66
              go_wp2_with fail
              refine (hraw _).mono ?_
              rintro _ _ ⟨rfl, rfl⟩
              go_wp2_with fail
              go_ret
              exact ⟨rfl, hb1⟩
    | false =>
      cases z with
      | false =>
        go_enter Tryz.func66, Tryz.ntmps66
        go_wp2_with fail
        go_ret
        exact ⟨rfl, hb1⟩
      | true =>
        cases q with
        | true =>
          cases b7 with
          | true =>
            go_enter Tryz.func66, Tryz.ntmps66
            go_wp2_with fail
            refine (hraw _).mono ?_
            rintro _ _ ⟨rfl, rfl⟩
            go_wp2_with fail
            go_ret
            exact ⟨rfl, hb1⟩
          | false =>
            cases el with
            | true =>
              go_enter Tryz.func66, Tryz.ntmps66
              go_wp2_with fail
              refine (hraw _).mono ?_
              rintro _ _ ⟨rfl, rfl⟩
              go_wp2_with fail
              go_ret
              exact ⟨rfl, hb1⟩
            | false =>
              go_enter Tryz.func66, Tryz.ntmps66
              go_wp2_with fail
              refine (hraw _).mono ?_
              rintro _ _ ⟨rfl, rfl⟩
              go_wp2_with fail
              go_ret
              exact ⟨rfl, hb1⟩
        | false =>
          cases er with
          | false =>
            go_enter Tryz.func66, Tryz.ntmps66
            go_wp2_with fail
            refine (hraw _).mono ?_
            rintro _ _ ⟨rfl, rfl⟩
            go_wp2_with fail
            go_ret
            exact ⟨rfl, hb1⟩
          | true =>
            cases b7 with
            | true =>
              go_enter Tryz.func66, Tryz.ntmps66
              go_wp2_with fail
              refine (hraw _).mono ?_
              rintro _ _ ⟨rfl, rfl⟩
              go_wp2_with fail
              go_ret
              exact ⟨rfl, hb1⟩
            | false =>
              cases el with
              | true =>
                go_enter Tryz.func66, Tryz.ntmps66
                go_wp2_with fail
                refine (hraw _).mono ?_
                rintro _ _ ⟨rfl, rfl⟩
                go_wp2_with fail
                go_ret
                exact ⟨rfl, hb1⟩
              | false =>
                go_enter Tryz.func66, Tryz.ntmps66
                go_wp2_with fail
                refine (hraw _).mono ?_
                rintro _ _ ⟨rfl, rfl⟩
                go_wp2_with fail
                go_ret
                exact ⟨rfl, hb1⟩
  | false =>
    cases y with
    | true =>
      go_enter Tryz.func66, Tryz.ntmps66
      go_wp2_with fail
      go_ret
      exact ⟨rfl, hb1⟩
    | false =>
      cases b2 with
      | true =>
        cases q with
        | true =>
          cases b7 with
          | true =>
            go_enter Tryz.func66, Tryz.ntmps66
            go_wp2_with fail
            refine (hraw _).mono ?_
            rintro _ _ ⟨rfl, rfl⟩
            go_wp2_with fail
            go_ret
            exact ⟨rfl, hb1⟩
          | false =>
            cases el with
            | true =>
              go_enter Tryz.func66, Tryz.ntmps66
              go_wp2_with fail
              refine (hraw _).mono ?_
              rintro _ _ ⟨rfl, rfl⟩
              go_wp2_with fail
              go_ret
              exact ⟨rfl, hb1⟩
            | false =>
              go_enter Tryz.func66, Tryz.ntmps66
              go_wp2_with fail
              refine (hraw _).mono ?_
              rintro _ _ ⟨rfl, rfl⟩
              go_wp2_with fail
              go_ret
              exact ⟨rfl, hb1⟩
        | false =>
          cases er with
          | false =>
            go_enter Tryz.func66, Tryz.ntmps66
            go_wp2_with fail
            refine (hraw _).mono ?_
            rintro _ _ ⟨rfl, rfl⟩
            go_wp2_with fail
            go_ret
            exact ⟨rfl, hb1⟩
          | true =>
            cases b7 with
            | true =>
              go_enter Tryz.func66, Tryz.ntmps66
              go_wp2_with fail
              refine (hraw _).mono ?_
              rintro _ _ ⟨rfl, rfl⟩
              go_wp2_with fail
              go_ret
              exact ⟨rfl, hb1⟩
            | false =>
              cases el with
              | true =>
                go_enter Tryz.func66, Tryz.ntmps66
                go_wp2_with fail
                refine (hraw _).mono ?_
                rintro _ _ ⟨rfl, rfl⟩
                go_wp2_with fail
                go_ret
                exact ⟨rfl, hb1⟩
              | false =>
                go_enter Tryz.func66, Tryz.ntmps66
                go_wp2_with fail
                refine (hraw _).mono ?_
                rintro _ _ ⟨rfl, rfl⟩
                go_wp2_with fail
                go_ret
                exact ⟨rfl, hb1⟩
      | false =>
        cases z with
        | false =>
          go_enter Tryz.func66, Tryz.ntmps66
          go_wp2_with fail
          go_ret
          exact ⟨rfl, hb1⟩
        | true =>
          cases q with
          | true =>
            cases b7 with
            | true =>
              go_enter Tryz.func66, Tryz.ntmps66
              go_wp2_with fail
              refine (hraw _).mono ?_
              rintro _ _ ⟨rfl, rfl⟩
              go_wp2_with fail
              go_ret
              exact ⟨rfl, hb1⟩
            | false =>
              cases el with
              | true =>
                go_enter Tryz.func66, Tryz.ntmps66
                go_wp2_with fail
                refine (hraw _).mono ?_
                rintro _ _ ⟨rfl, rfl⟩
                go_wp2_with fail
                go_ret
                exact ⟨rfl, hb1⟩
              | false =>
                go_enter Tryz.func66, Tryz.ntmps66
                go_wp2_with fail
                refine (hraw _).mono ?_
                rintro _ _ ⟨rfl, rfl⟩
                go_wp2_with fail
                go_ret
                exact ⟨rfl, hb1⟩
          | false =>
            cases er with
            | false =>
              go_enter Tryz.func66, Tryz.ntmps66
              go_wp2_with fail
              refine (hraw _).mono ?_
              rintro _ _ ⟨rfl, rfl⟩
              go_wp2_with fail
              go_ret
              exact ⟨rfl, hb1⟩
            | true =>
              cases b7 with
              | true =>
                go_enter Tryz.func66, Tryz.ntmps66
                go_wp2_with fail
                refine (hraw _).mono ?_
                rintro _ _ ⟨rfl, rfl⟩
                go_wp2_with fail
                go_ret
                exact ⟨rfl, hb1⟩
              | false =>
                cases el with
                | true =>
                  go_enter Tryz.func66, Tryz.ntmps66
                  go_wp2_with fail
                  refine (hraw _).mono ?_
                  rintro _ _ ⟨rfl, rfl⟩
                  go_wp2_with fail
                  go_ret
                  exact ⟨rfl, hb1⟩
                | false =>
                  go_enter Tryz.func66, Tryz.ntmps66
                  go_wp2_with fail
                  refine (hraw _).mono ?_
                  rintro _ _ ⟨rfl, rfl⟩
                  go_wp2_with fail
                  go_ret
                  exact ⟨rfl, hb1⟩
end Go.Proofs.YtkjoomdglealmaaGreatDoor

namespace Go.Proofs.YtkjoomdglealmaaGreatDoor
open Go.RowKit Go.Vf

theorem all_drop (f : Prt → Bool) (l : List Prt) (k : Nat) (h : k < l.length) : (l.drop k).all f = (f l[k] && (l.drop (k + 1)).all f) := by
  rw [List.drop_eq_getElem_cons h, List.all_cons]
def own3 (p : Prt) : Bool := own2 p && (p.kind != 7 || p.items.all may)
theorem may_own3 (p : Prt) : may p = (own1 p && own3 p) := by
  rw [may_eq, own3]
  cases h1 : own1 p with
  | false => rfl
  | true =>
    by_cases h7 : p.kind = 7
    · simp [h7]
    · have : p.items.length = 0 := by
        unfold own1 at h1
        simp [h7] at h1
        simpa using h1.2
      have hn : p.items = [] := List.eq_nil_of_length_eq_zero this
      simp [hn]
theorem own3_mk (k : Int) (y n : Bool) (m r : ByteArray) (l : List Prt) : own3 (.mk k y n m r l) = ((k == 0 || k == 1 || (k == 2 && numOk n m) || ((k == 3 || k == 5 || k == 6) && decide (r.size ≤ 65536)) || (k == 4 && r.size == 16) || (k == 7 && decide (l.length ≤ 1024))) && (k != 7 || l.all may)) := rfl
def MayOk (f : FuncId) (x : Prt) : Prop := ∀ (a : Option Addr) (c lo n₀ : Nat) (w : World), n₀ ≤ w.heap.size → PIn w lo n₀ x a →
    Calls Tryz.prog f #[pV x a c] w fun e w' => e = .returned (.bool (may x)) ∧ Below w.heap.size w w'

set_option maxHeartbeats 1000000 in
set_option maxRecDepth 20000 in
theorem allMay_step (p : Prt) (hl : p.items.length ≤ 281474976710656) (ih : ∀ x ∈ p.items, MayOk 43 x) (a : Option Addr) (c lo n₀ : Nat) (w : World) (hn₀ : n₀ ≤ w.heap.size) (hin : PIn w lo n₀ p a) :
    Calls Tryz.prog 99 #[.slice a p.items.length c] w fun e w' => e = .returned (.bool (p.items.all may)) ∧ Below w.heap.size w w' := by
  obtain ⟨l, hpl⟩ : ∃ l, p.items = l := ⟨_, rfl⟩
  generalize hR : p.items.all may = R
  rw [hpl] at hl hR ih ⊢
  have HR : Hid (R = (l.drop 0).all may) := hR.symm
  have HP : Hid (p.items = l) := hpl
  clear hR hpl
  go_enter Tryz.func99, Tryz.ntmps99
  go_wp2_with fail
  go_loopw [7] (fun i wr => ∃ (j : Nat), j ≤ l.length ∧ i = .int .i64 j ∧ Hid (R = (l.drop j).all may) ∧ Below w.heap.size w wr) (fun i _ => l.length - (intOf i).toNat)
  case atStart => exact ⟨0, by omega, rfl, HR, Below.refl _ _⟩
  case round =>
    clear HR
    obtain ⟨j, hj, rfl, HS, hbel⟩ := hrel
    have hsz := hbel.size
    by_cases hlt : j < l.length
    · have HD : Hid (R = (may l[j] && (l.drop (j + 1)).all may)) := by
        show _ = _
        rw [HS.out, all_drop _ _ _ hlt]
      have hlp : j < p.items.length := by rw [HP.out]; exact hlt
      obtain ⟨bb, off, aj, cj, ha, _, _, hrow, hinj⟩ := (hin.keep hbel hn₀).at hlp
      have hxe : p.items[j] = l[j] := by simp only [HP.out]
      rw [hxe] at hrow hinj
      subst ha
      obtain ⟨r0, r1, r2, r3, r4, r5⟩ := hrow
      have ihj := ih _ (List.getElem_mem hlt)
      clear HS hin ih hxe hlp
      generalize l[j] = x at *
      have hbx := hbel.alloc hbel.size (.cells #[.int .u8 x.kind, .bool x.yes, .bool x.neg, .string x.mag, .string x.raw, .slice aj x.items.length cj] 30)
      have hby := (Below.refl wr.heap.size wr).alloc (Nat.le_refl _) (.cells #[.int .u8 x.kind, .bool x.yes, .bool x.neg, .string x.mag, .string x.raw, .slice aj x.items.length cj] 30)
      have hbz := hby.size
      have hcall := ihj aj cj lo n₀ _ (Nat.le_trans (by omega) hbz) (hinj.keep hby (by omega))
      clear hby hbz
      unfold pV at hcall
      clear ihj hinj
      go_wp2_with fail
      refine hcall.mono ?_
      rintro _ w2 ⟨rfl, hb3⟩
      have hb4 : Below w.heap.size w w2 := hbx.trans (hb3.mono hbx.size)
      cases hq : may x with
      | false =>
        have hRn : R = false := by rw [HD.out, hq]; rfl
        clear HD hq
        go_wp2_with fail
        go_ret
        exact ⟨by rw [hRn]; rfl, hb4⟩
      | true =>
        have HD2 : Hid (R = (l.drop (j + 1)).all may) := by
          show _ = _
          rw [HD.out, hq]; rfl
        clear HD hq
        go_wp2_with fail
        go_roundw
        case rel => exact ⟨j + 1, by omega, by simp, HD2, hb4⟩
        case measure => simp only [intOf]; omega
    · have hRn : R = true := by rw [HS.out, List.drop_of_length_le (by omega)]; rfl
      clear HS hin ih
      go_wp2_with fail
      go_ret
      exact ⟨by rw [hRn]; rfl, hbel⟩

set_option maxHeartbeats 1000000 in
set_option maxRecDepth 20000 in
theorem ownMay_step (p : Prt) (hf : Fits p) (ih : ∀ x ∈ p.items, MayOk 43 x) (a : Option Addr) (c lo n₀ : Nat) (w : World) (hn₀ : n₀ ≤ w.heap.size) (hin : PIn w lo n₀ p a) :
    Calls Tryz.prog 67 #[pV p a c] w fun e w' => e = .returned (.bool (own3 p)) ∧ Below w.heap.size w w' := by
  have hb1 := (Below.refl w.heap.size w).alloc (Nat.le_refl _) (.cells #[.int .u8 p.kind, .bool p.yes, .bool p.neg, .string p.mag, .string p.raw, .slice a p.items.length c] 30)
  have hall := allMay_step p hf.len ih a c lo n₀ _ (Nat.le_trans hn₀ hb1.size) (hin.keep hb1 hn₀)
  have hchk := check_anyV p.neg p.mag hf.mag
  have hrs := hf.raw
  have hls := hf.len
  unfold pV
  clear hin ih hf
  have hck := chk_okV p.neg p.mag
  cases p with | mk k y n m r l =>
  rw [own3_mk]
  simp only [Prt.kind, Prt.yes, Prt.neg, Prt.mag, Prt.raw, Prt.items] at *
  generalize l.all may = A at hall ⊢
  generalize l.length = ln at *
  clear l
  have hS : ∀ (R : Bool), ((k == 0 || k == 1 || (k == 2 && numOk n m) || ((k == 3 || k == 5 || k == 6) && decide (r.size ≤ 65536)) || (k == 4 && r.size == 16) || (k == 7 && decide (ln ≤ 1024))) && (k != 7 || A)) = R →
      (Calls Tryz.prog 67 #[.agg #[.int .u8 k, .bool y, .bool n, .string m, .string r, .slice a ln c]] w fun e w' => e = .returned (.bool R) ∧ Below w.heap.size w w') → Calls Tryz.prog 67 #[.agg #[.int .u8 k, .bool y, .bool n, .string m, .string r, .slice a ln c]] w fun e w' => e = .returned (.bool ((k == 0 || k == 1 || (k == 2 && numOk n m) || ((k == 3 || k == 5 || k == 6) && decide (r.size ≤ 65536)) || (k == 4 && r.size == 16) || (k == 7 && decide (ln ≤ 1024))) && (k != 7 || A))) ∧ Below w.heap.size w w' := by
    intro R hR h
    rw [hR]; exact h
  by_cases e0 : k = 0
  · subst e0
    refine hS true rfl ?_
    clear hS hall hchk hck
    go_enter Tryz.func67, Tryz.ntmps67
    go_wp2_with fail
    go_ret
    exact ⟨rfl, hb1⟩
  by_cases e1 : k = 1
  · subst e1
    refine hS true rfl ?_
    clear hS hall hchk hck
    go_enter Tryz.func67, Tryz.ntmps67
    go_wp2_with fail
    go_ret
    exact ⟨rfl, hb1⟩
  by_cases e2 : k = 2
  · subst e2
    refine hS (chkV n m.data.toList == 0) (by rw [hck]; simp) ?_
    clear hS hall hck
    generalize chkV n m.data.toList = cv at hchk ⊢
    go_enter Tryz.func67, Tryz.ntmps67
    go_wp2_with fail
    refine (hchk _).mono ?_
    rintro _ w2 ⟨rfl, hb2⟩
    go_wp2_with fail
    go_ret
    exact ⟨rfl, hb1.trans (hb2.mono hb1.size)⟩
  by_cases e3 : k = 3
  · subst e3
    by_cases hr : r.size ≤ 65536
    · have t1 : decide ((r.size : Int) ≤ 65536) = true := by simp; omega
      refine hS true (by simp [hr]) ?_
      clear hS hall hchk hck
      go_enter Tryz.func67, Tryz.ntmps67
      go_wp2_with fail
      go_ret
      exact ⟨rfl, hb1⟩
    · have t1 : decide ((r.size : Int) ≤ 65536) = false := by simp; omega
      refine hS false (by simp [hr]) ?_
      clear hS hall hchk hck
      go_enter Tryz.func67, Tryz.ntmps67
      go_wp2_with fail
      go_ret
      exact ⟨rfl, hb1⟩
  by_cases e5 : k = 5
  · subst e5
    by_cases hr : r.size ≤ 65536
    · have t1 : decide ((r.size : Int) ≤ 65536) = true := by simp; omega
      refine hS true (by simp [hr]) ?_
      clear hS hall hchk hck
      go_enter Tryz.func67, Tryz.ntmps67
      go_wp2_with fail
      go_ret
      exact ⟨rfl, hb1⟩
    · have t1 : decide ((r.size : Int) ≤ 65536) = false := by simp; omega
      refine hS false (by simp [hr]) ?_
      clear hS hall hchk hck
      go_enter Tryz.func67, Tryz.ntmps67
      go_wp2_with fail
      go_ret
      exact ⟨rfl, hb1⟩
  by_cases e6 : k = 6
  · subst e6
    by_cases hr : r.size ≤ 65536
    · have t1 : decide ((r.size : Int) ≤ 65536) = true := by simp; omega
      refine hS true (by simp [hr]) ?_
      clear hS hall hchk hck
      go_enter Tryz.func67, Tryz.ntmps67
      go_wp2_with fail
      go_ret
      exact ⟨rfl, hb1⟩
    · have t1 : decide ((r.size : Int) ≤ 65536) = false := by simp; omega
      refine hS false (by simp [hr]) ?_
      clear hS hall hchk hck
      go_enter Tryz.func67, Tryz.ntmps67
      go_wp2_with fail
      go_ret
      exact ⟨rfl, hb1⟩
  by_cases e4 : k = 4
  · subst e4
    by_cases hr : r.size = 16
    · have t1 : ((r.size : Int) == 16) = true := by simp; omega
      refine hS true (by simp [hr]) ?_
      clear hS hall hchk hck hr
      go_enter Tryz.func67, Tryz.ntmps67
      go_wp2_with fail
      go_ret
      exact ⟨rfl, hb1⟩
    · have t1 : ((r.size : Int) == 16) = false := by simp; omega
      refine hS false (by simp [hr]) ?_
      clear hS hall hchk hck
      go_enter Tryz.func67, Tryz.ntmps67
      go_wp2_with fail
      go_ret
      exact ⟨rfl, hb1⟩
  by_cases e7 : k = 7
  · subst e7
    by_cases hr : ln ≤ 1024
    · have t1 : decide ((ln : Int) ≤ 1024) = true := by simp; omega
      refine hS A (by simp [hr]) ?_
      clear hS hchk hck
      go_enter Tryz.func67, Tryz.ntmps67
      go_wp2_with fail
      refine hall.mono ?_
      rintro _ w2 ⟨rfl, hb2⟩
      go_wp2_with fail
      go_ret
      exact ⟨rfl, hb1.trans (hb2.mono hb1.size)⟩
    · have t1 : decide ((ln : Int) ≤ 1024) = false := by simp; omega
      refine hS false (by simp [hr]) ?_
      clear hS hall hchk hck
      go_enter Tryz.func67, Tryz.ntmps67
      go_wp2_with fail
      go_ret
      exact ⟨rfl, hb1⟩
  have t0 : (k == 0) = false := by simpa using e0
  have t1 : (k == 1) = false := by simpa using e1
  have t2 : (k == 2) = false := by simpa using e2
  have t3 : (k == 3) = false := by simpa using e3
  have t4 : (k == 4) = false := by simpa using e4
  have t5 : (k == 5) = false := by simpa using e5
  have t6 : (k == 6) = false := by simpa using e6
  have t7 : (k == 7) = false := by simpa using e7
  refine hS false (by rw [t0, t1, t2, t3, t4, t5, t6, t7]; rfl) ?_
  clear hS hall hchk hck
  go_enter Tryz.func67, Tryz.ntmps67
  go_wp2_with fail
  go_ret
  exact ⟨rfl, hb1⟩

theorem mayBe_any : ∀ (p : Prt), Fits p → MayOk 43 p := by
  intro p
  induction p using Prt.ind with
  | h k y n m r l ih =>
    intro hf
    have ih' : ∀ x ∈ (Prt.mk k y n m r l).items, MayOk 43 x := fun x hx => ih x hx (hf.mem hx)
    generalize Prt.mk k y n m r l = p at hf ih'
    clear ih
    intro a c lo n₀ w hn₀ hin
    have hb1 := (Below.refl w.heap.size w).alloc (Nat.le_refl _) (.cells #[.int .u8 p.kind, .bool p.yes, .bool p.neg, .string p.mag, .string p.raw, .slice a p.items.length c] 30)
    have h1 := nothingElse_any p hf a c (w.alloc (.cells #[.int .u8 p.kind, .bool p.yes, .bool p.neg, .string p.mag, .string p.raw, .slice a p.items.length c] 30))
    have h2 := fun w' (hn : n₀ ≤ w'.heap.size) hi => ownMay_step p hf ih' a c lo n₀ w' hn hi
    have hb0 := Blk.new w 30 #[.int .u8 p.kind, .bool p.yes, .bool p.neg, .string p.mag, .string p.raw, .slice a p.items.length c]
    rw [may_own3]
    unfold pV at h1 h2 ⊢
    clear ih' hf
    cases ho : own1 p with
    | false =>
      rw [ho] at h1
      clear ho h2
      go_enter Tryz.func43, Tryz.ntmps43
      go_wp2_with fail
      refine h1.mono ?_
      rintro _ w2 ⟨rfl, hb2⟩
      go_wp2_with fail
      go_ret
      exact ⟨rfl, hb1.trans (hb2.mono hb1.size)⟩
    | true =>
      rw [ho] at h1
      clear ho
      have hin1 := hin.keep hb1 hn₀
      have hsz := hb1.size
      clear hin
      go_enter Tryz.func43, Tryz.ntmps43
      go_wp2_with fail
      refine h1.mono ?_
      rintro _ w2 ⟨rfl, hb2⟩
      have h3 := h2 w2 (by have := hb2.size; omega) (hin1.keep hb2 (by omega))
      obtain ⟨c0, c1, c2, c3, c4, c5⟩ := (hb0.old hb2).c6
      clear h2 hin1
      go_wp2_with fail
      refine h3.mono ?_
      rintro _ w3 ⟨rfl, hb3⟩
      go_wp2_with fail
      go_ret
      exact ⟨rfl, hb1.trans ((hb2.mono hb1.size).trans (hb3.mono (by have := hb2.size; omega)))⟩
end Go.Proofs.YtkjoomdglealmaaGreatDoor
