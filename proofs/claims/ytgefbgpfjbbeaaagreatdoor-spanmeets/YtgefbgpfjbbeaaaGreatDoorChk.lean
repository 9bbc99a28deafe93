/- What nat.Check, its document's, value.isRaw and nothingElse do (contracts; nothing is claimed here). -/
import Derived.Test.YtgefbgpfjbbeaaaGreatDoorJ1
namespace Go.Proofs.YtgefbgpfjbbeaaaGreatDoor
open Go.RowKit Go.Vf

/-- '==' on numbers. -/
theorem num_eq (p : Bool) (A : ByteArray) (q : Bool) (B : ByteArray) (w : World) : (Op.equalIn 10000 41 (.agg #[.bool p, .string A]) (.agg #[.bool q, .string B])).run Tryz.prog w = .ok (p == q && A.toList == B.toList) w := by
  have h : ∀ d, (Op.equalIn (d + 1 + 1) 41 (.agg #[.bool p, .string A]) (.agg #[.bool q, .string B])).run Tryz.prog w = .ok (p == q && A.toList == B.toList) w := fun d => by
    simp [go_sem]
    by_cases h1 : p = q <;> by_cases h2 : A.toList = B.toList <;> simp [h1, h2]
  exact h 9998
theorem drop_atV (s : ByteArray) (k : Nat) (hk : k < s.size) : s.data.toList.drop k = s[k] :: s.data.toList.drop (k + 1) := by
  rw [List.drop_eq_getElem_cons (by rw [← Lib.size_eq]; exact hk)]
  rfl
def chkV (b : Bool) (m : List UInt8) : Int := if 255 < m.length then 21 else if (m.isEmpty && b) || m.head? == some 0 then 20 else 0
theorem chk_okV (b : Bool) (m : ByteArray) : (chkV b m.data.toList == 0) = numOk b m := by
  unfold chkV numOk
  rw [← Lib.size_eq]
  by_cases h : 255 < m.size
  · have h2 : ¬ m.size ≤ 255 := by omega
    simp [h, h2]
  · simp only [h, if_false]
    rw [show decide (m.size ≤ 255) = true by simp; omega]
    cases (m.data.toList.isEmpty && b || m.data.toList.head? == some 0) <;> simp
set_option maxHeartbeats 400000 in
theorem check_anyV (b : Bool) (m : ByteArray) (hm : m.size ≤ 281474976710656) (w : World) :
    Calls Tryz.prog 55 #[.agg #[.bool b, .string m]] w fun e w' => e = .returned (.int .i64 (chkV b m.data.toList)) ∧ Below w.heap.size w w' := by
  have hl : m.data.toList.length = m.size := (Lib.size_eq m).symm
  have hbel := (Below.refl w.heap.size w).alloc (Nat.le_refl _) (.cells #[.bool b, .string m] 41)
  by_cases h1 : 255 < m.size
  · have hR : chkV b m.data.toList = 21 := by simp [chkV, hl, h1]
    rw [hR]
    go_enter Tryz.func55, Tryz.ntmps55
    go_wp2
    go_ret
    exact ⟨rfl, hbel⟩
  · by_cases h2 : m.size = 0
    · have hn : m.data.toList = [] := List.eq_nil_of_length_eq_zero (by omega)
      have he : m.toList.isEmpty = true := by rw [ByteArray.toList_eq, hn]; rfl
      rw [hn]
      clear hn hl
      cases b
      all_goals
        go_enter Tryz.func55, Tryz.ntmps55
        go_wp2
        go_ret
        exact ⟨rfl, hbel⟩
    · have he : m.toList.isEmpty = false := by
        rw [ByteArray.toList_eq]
        cases h : m.data.toList with
        | nil => rw [h] at hl; exact absurd hl.symm h2
        | cons x r => rfl
      have h0 : 0 < m.size := by omega
      obtain ⟨r, hd⟩ : ∃ r, m.data.toList = m[0] :: r := ⟨_, (List.drop_zero (l := m.data.toList)).symm.trans (drop_atV m 0 h0)⟩
      by_cases h3 : m[0] = 0
      · have hR : chkV b m.data.toList = 20 := by
          have h4 : ¬ 255 < m.data.toList.length := by omega
          rw [hd] at h4 ⊢
          simp only [chkV, h4, if_false]
          simp [h3]
        have hx : (m[0].toNat : Int) = 0 := by rw [h3]; rfl
        rw [hR]
        clear hR h3 hd
        go_enter Tryz.func55, Tryz.ntmps55
        go_wp2
        go_ret
        exact ⟨rfl, hbel⟩
      · have hR : chkV b m.data.toList = 0 := by
          have h4 : ¬ 255 < m.data.toList.length := by omega
          rw [hd] at h4 ⊢
          simp only [chkV, h4, if_false]
          simp [h3]
        have hx : ¬ (m[0].toNat : Int) = 0 := fun h => h3 (UInt8.toNat_inj.1 (by simpa using h))
        rw [hR]
        clear hR h3 hd
        go_enter Tryz.func55, Tryz.ntmps55
        go_wp2
        go_ret
        exact ⟨rfl, hbel⟩


theorem isRaw_any (k : Int) (w : World) : Calls Tryz.prog 54 #[.int .u8 k] w fun e w' => e = .returned (.bool (isRawK k)) ∧ w' = w := by
  by_cases h3 : k = 3
  · subst h3
    go_enter Tryz.func54, Tryz.ntmps54
    go_wp2_with fail
    go_ret
    exact ⟨rfl, rfl⟩
  · by_cases h4 : k = 4
    · subst h4
      go_enter Tryz.func54, Tryz.ntmps54
      go_wp2_with fail
      go_ret
      exact ⟨rfl, rfl⟩
    · by_cases h5 : k = 5
      · subst h5
        go_enter Tryz.func54, Tryz.ntmps54
        go_wp2_with fail
        go_ret
        exact ⟨rfl, rfl⟩
      · by_cases h6 : k = 6
        · subst h6
          go_enter Tryz.func54, Tryz.ntmps54
          go_wp2_with fail
          go_ret
          exact ⟨rfl, rfl⟩
        · have hR : isRawK k = false := by simp [isRawK, h3, h4, h5, h6]
          rw [hR]
          have t3 : (k == 3) = false := by simpa using h3
          have t4 : (k == 4) = false := by simpa using h4
          have t5 : (k == 5) = false := by simpa using h5
          have t6 : (k == 6) = false := by simpa using h6
          go_enter Tryz.func54, Tryz.ntmps54
          go_wp2_with fail
          go_ret
          exact ⟨rfl, rfl⟩

theorem empty_iff (r : ByteArray) : r.toList.isEmpty = (r.size == 0) := by
  rw [ByteArray.toList_eq]
  rw [Lib.size_eq]
  cases r.data.toList <;> simp

set_option maxHeartbeats 4000000 in
set_option maxRecDepth 20000 in
theorem nothingElse_any (p : Prt) (hf : Fits p) (a : Option Addr) (c : Nat) (w : World) :
    Calls Tryz.prog 36 #[pV p a c] w fun e w' => e = .returned (.bool (own1 p)) ∧ Below w.heap.size w w' := by
  cases p with | mk k y n m r l =>
  have hl := hf.len
  simp only [Prt.items] at hl
  unfold pV own1
  simp only [Prt.kind, Prt.yes, Prt.neg, Prt.mag, Prt.raw, Prt.items]
  have hb1 := (Below.refl w.heap.size w).alloc (Nat.le_refl _) (.cells #[.int .u8 k, .bool y, .bool n, .string m, .string r, .slice a l.length c] 44)
  have hraw := isRaw_any k
  clear hf
  obtain ⟨q, hq⟩ : ∃ q, isRawK k = q := ⟨_, rfl⟩
  obtain ⟨z, hz⟩ : ∃ z, (!n && m.size == 0) = z := ⟨_, rfl⟩
  obtain ⟨er, her⟩ : ∃ z, (r.size == 0) = z := ⟨_, rfl⟩
  obtain ⟨el, hel⟩ : ∃ z, (l.length == 0) = z := ⟨_, rfl⟩
  have heq : ∀ w : World, (Op.equalIn 10000 41 (.agg #[.bool n, .string m]) (.agg #[.bool false, .string ⟨#[]⟩])).run Tryz.prog w = .ok z w := fun w => by
    rw [num_eq, ← hz]
    congr 1
    have := empty_iff m
    cases n <;> simp_all [ByteArray.toList_eq]
  have her' : r.toList.isEmpty = er := by rw [empty_iff, her]
  have hel' : ((l.length : Int) == 0) = el := by
    rw [← hel]
    rw [Bool.eq_iff_iff]; simp
  rw [hq, hz, her, hel]
  rw [hq] at hraw
  clear hz her hel
  obtain ⟨b1, h1⟩ : ∃ q, (k == 1) = q := ⟨_, rfl⟩
  obtain ⟨b2, h2⟩ : ∃ q, (k == 2) = q := ⟨_, rfl⟩
  obtain ⟨b7, h7⟩ : ∃ q, (k == 7) = q := ⟨_, rfl⟩
  rw [h1, h2, h7]
  have HQ : Hid (isRawK k = q) := hq
  clear hq
  clear HQ
  cases b1 with
  | true =>
    cases b2 with
    | true =>
      cases q with
      | true =>
        cases b7 with
        | true =>
          go_enter Tryz.func36, Tryz.ntmps36
          go_wp2_with fail
          refine (hraw _).mono ?_
          rintro _ _ ⟨rfl, rfl⟩
          go_wp2_with fail
          go_ret
          exact ⟨rfl, hb1⟩
        | false =>
          cases el with
          | true =>
            go_enter Tryz.func36, Tryz.ntmps36
            go_wp2_with fail
            refine (hraw _).mono ?_
            rintro _ _ ⟨rfl, rfl⟩
            go_wp2_with fail
            go_ret
            exact ⟨rfl, hb1⟩
          | false =>
            go_enter Tryz.func36, Tryz.ntmps36
            go_wp2_with fail
            refine (hraw _).mono ?_
            rintro _ _ ⟨rfl, rfl⟩
            go_wp2_with fail
            go_ret
            exact ⟨rfl, hb1⟩
      | false =>
        cases er with
        | false =>
          go_enter Tryz.func36, Tryz.ntmps36
          go_wp2_with fail
          refine (hraw _).mono ?_
          rintro _ _ ⟨rfl, rfl⟩
          go_wp2_with fail
          go_ret
          exact ⟨rfl, hb1⟩
        | true =>
          cases b7 with
          | true =>
            go_enter Tryz.func36, Tryz.ntmps36
            go_wp2_with fail
            refine (hraw _).mono ?_
            rintro _ _ ⟨rfl, rfl⟩
            go_wp2_with fail
            go_ret
            exact ⟨rfl, hb1⟩
          | false =>
            cases el with
            | true =>
              go_enter Tryz.func36, Tryz.ntmps36
              go_wp2_with fail
              refine (hraw _).mono ?_
              rintro _ _ ⟨rfl, rfl⟩
              go_wp2_with fail
              go_ret
              exact ⟨rfl, hb1⟩
            | false =>
              go_enter Tryz.func36, Tryz.ntmps36
              go_wp2_with fail
              refine (hraw _).mono ?_
              rintro _ _ ⟨rfl, rfl⟩
              go_wp2_with fail
              go_ret
              exact ⟨rfl, hb1⟩
    | false =>
      cases z with
      | false =>
        go_enter Tryz.func36, Tryz.ntmps36
        go_wp2_with fail
        go_ret
        exact ⟨rfl, hb1⟩
      | true =>
        cases q with
        | true =>
          cases b7 with
          | true =>
            go_enter Tryz.func36, Tryz.ntmps36
            go_wp2_with fail
            refine (hraw _).mono ?_
            rintro _ _ ⟨rfl, rfl⟩
            go_wp2_with fail
            go_ret
            exact ⟨rfl, hb1⟩
          | false =>
            cases el with
            | true =>
              go_enter Tryz.func36, Tryz.ntmps36
              go_wp2_with fail
              refine (hraw _).mono ?_
              rintro _ _ ⟨rfl, rfl⟩
              go_wp2_with fail
              go_ret
              exact ⟨rfl, hb1⟩
            | false =>
              go_enter Tryz.func36, Tryz.ntmps36
              go_wp2_with fail
              refine (hraw _).mono ?_
              rintro _ _ ⟨rfl, rfl⟩
              go_wp2_with fail
              go_ret
              exact ⟨rfl, hb1⟩
        | false =>
          cases er with
          | false =>
            go_enter Tryz.func36, Tryz.ntmps36
            go_wp2_with fail
            refine (hraw _).mono ?_
            rintro _ _ ⟨rfl, rfl⟩
            go_wp2_with fail
            go_ret
            exact ⟨rfl, hb1⟩
          | true =>
            cases b7 with
            | true =>
              go_enter Tryz.func36, Tryz.ntmps36
              go_wp2_with fail
              refine (hraw _).mono ?_
              rintro _ _ ⟨rfl, rfl⟩
              go_wp2_with fail
              go_ret
              exact ⟨rfl, hb1⟩
            | false =>
              cases el with
              | true =>
                go_enter Tryz.func36, Tryz.ntmps36
                go_wp2_with fail
                refine (hraw _).mono ?_
                rintro _ _ ⟨rfl, rfl⟩
                go_wp2_with fail
                go_ret
                exact ⟨rfl, hb1⟩
              | false =>
                go_enter Tryz.func36, Tryz.ntmps36
                go_wp2_with fail
                refine (hraw _).mono ?_
                rintro _ _ ⟨rfl, rfl⟩
                go_wp2_with fail
                go_ret
                exact ⟨rfl, hb1⟩
  | false =>
    cases y with
    | true =>
      go_enter Tryz.func36, Tryz.ntmps36
      go_wp2_with fail
      go_ret
      exact ⟨rfl, hb1⟩
    | false =>
      cases b2 with
      | true =>
        cases q with
        | true =>
          cases b7 with
          | true =>
            go_enter Tryz.func36, Tryz.ntmps36
            go_wp2_with fail
            refine (hraw _).mono ?_
            rintro _ _ ⟨rfl, rfl⟩
            go_wp2_with fail
            go_ret
            exact ⟨rfl, hb1⟩
          | false =>
            cases el with
            | true =>
              go_enter Tryz.func36, Tryz.ntmps36
              go_wp2_with fail
              refine (hraw _).mono ?_
              rintro _ _ ⟨rfl, rfl⟩
              go_wp2_with fail
              go_ret
              exact ⟨rfl, hb1⟩
            | false =>
              go_enter Tryz.func36, Tryz.ntmps36
              go_wp2_with fail
              refine (hraw _).mono ?_
              rintro _ _ ⟨rfl, rfl⟩
              go_wp2_with fail
              go_ret
              exact ⟨rfl, hb1⟩
        | false =>
          cases er with
          | false =>
            go_enter Tryz.func36, Tryz.ntmps36
            go_wp2_with fail
            refine (hraw _).mono ?_
            rintro _ _ ⟨rfl, rfl⟩
            go_wp2_with fail
            go_ret
            exact ⟨rfl, hb1⟩
          | true =>
            cases b7 with
            | true =>
              go_enter Tryz.func36, Tryz.ntmps36
              go_wp2_with fail
              refine (hraw _).mono ?_
              rintro _ _ ⟨rfl, rfl⟩
              go_wp2_with fail
              go_ret
              exact ⟨rfl, hb1⟩
            | false =>
              cases el with
              | true =>
                go_enter Tryz.func36, Tryz.ntmps36
                go_wp2_with fail
                refine (hraw _).mono ?_
                rintro _ _ ⟨rfl, rfl⟩
                go_wp2_with fail
                go_ret
                exact ⟨rfl, hb1⟩
              | false =>
                go_enter Tryz.func36, Tryz.ntmps36
                go_wp2_with fail
                refine (hraw _).mono ?_
                rintro _ _ ⟨rfl, rfl⟩
                go_wp2_with fail
                go_ret
                exact ⟨rfl, hb1⟩
      | false =>
        cases z with
        | false =>
          go_enter Tryz.func36, Tryz.ntmps36
          go_wp2_with fail
          go_ret
          exact ⟨rfl, hb1⟩
        | true =>
          cases q with
          | true =>
            cases b7 with
            | true =>
              go_enter Tryz.func36, Tryz.ntmps36
              go_wp2_with fail
              refine (hraw _).mono ?_
              rintro _ _ ⟨rfl, rfl⟩
              go_wp2_with fail
              go_ret
              exact ⟨rfl, hb1⟩
            | false =>
              cases el with
              | true =>
                go_enter Tryz.func36, Tryz.ntmps36
                go_wp2_with fail
                refine (hraw _).mono ?_
                rintro _ _ ⟨rfl, rfl⟩
                go_wp2_with fail
                go_ret
                exact ⟨rfl, hb1⟩
              | false =>
                go_enter Tryz.func36, Tryz.ntmps36
                go_wp2_with fail
                refine (hraw _).mono ?_
                rintro _ _ ⟨rfl, rfl⟩
                go_wp2_with fail
                go_ret
                exact ⟨rfl, hb1⟩
          | false =>
            cases er with
            | false =>
              go_enter Tryz.func36, Tryz.ntmps36
              go_wp2_with fail
              refine (hraw _).mono ?_
              rintro _ _ ⟨rfl, rfl⟩
              go_wp2_with fail
              go_ret
              exact ⟨rfl, hb1⟩
            | true =>
              cases b7 with
              | true =>
                go_enter Tryz.func36, Tryz.ntmps36
                go_wp2_with fail
                refine (hraw _).mono ?_
                rintro _ _ ⟨rfl, rfl⟩
                go_wp2_with fail
                go_ret
                exact ⟨rfl, hb1⟩
              | false =>
                cases el with
                | true =>
                  go_enter Tryz.func36, Tryz.ntmps36
                  go_wp2_with fail
                  refine (hraw _).mono ?_
                  rintro _ _ ⟨rfl, rfl⟩
                  go_wp2_with fail
                  go_ret
                  exact ⟨rfl, hb1⟩
                | false =>
                  go_enter Tryz.func36, Tryz.ntmps36
                  go_wp2_with fail
                  refine (hraw _).mono ?_
                  rintro _ _ ⟨rfl, rfl⟩
                  go_wp2_with fail
                  go_ret
                  exact ⟨rfl, hb1⟩

end Go.Proofs.YtgefbgpfjbbeaaaGreatDoor
