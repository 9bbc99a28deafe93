/- What mayBe, writeLines and Print do (contracts; nothing is claimed here). -/
import Derived.Test.YtpmckfmjegehgaaGreatDoorJ6
namespace Go.Vf
/-- A mark, as it is printed. -/
structure PM where
  point : Int
  cls : Int
  parts : List Int
def mayPM (m : PM) : Bool := m.parts.all mayB && (mayB m.point && (decide (0 ≤ m.cls) && decide (m.cls ≤ 254)))
def checkR : List PM → Int → Bool
  | [], _ => true
  | m :: r, ab => if m.point ≤ ab then false else if mayPM m then checkR r m.point else false
end Go.Vf
namespace Go.Proofs.YtpmckfmjegehgaaGreatDoor
open Go.RowKit Go.Vf Go.Maps

def markP (m : PM) : List UInt8 := markS m.point.toNat m.cls.toNat (m.parts.map Int.toNat)
def writeR : List PM → Bool → List UInt8 → Option (List UInt8)
  | [], _, acc => some acc
  | m :: r, f, acc =>
    if 65536 < m.parts.length then none
    else if 65536 < ((if f then acc else acc ++ [10]) ++ markP m).length then none
    else writeR r false ((if f then acc else acc ++ [10]) ++ markP m)
/-- What Print answers. -/
def printR (l : List PM) : Except Int (List UInt8) :=
  if 4096 < l.length then .error 2 else if checkR l (-1) then (match writeR l true [] with
    | none => .error 2
    | some t => .ok t) else .error 1

/-- Marks in memory. -/
def MIn (n₀ : Nat) (w : World) (v : Value) (l : List PM) : Prop :=
  (∃ a cap, v = .slice a 0 cap ∧ l = []) ∨ ∃ b off cap, v = .slice (some ⟨b, off, none⟩) l.length cap ∧ b < n₀ ∧ ∀ j (hj : j < l.length), ∃ pa pk pc, w.cell? ⟨b, off + j * 3, none⟩ = some (.int .i64 l[j].point) ∧ w.cell? ⟨b, off + j * 3 + 1, none⟩ = some (.int .i64 l[j].cls) ∧
    w.cell? ⟨b, off + j * 3 + 2, none⟩ = some (.slice pa pk pc) ∧ Ints n₀ w (.slice pa pk pc) l[j].parts
theorem MIn.val {n₀ : Nat} {w : World} {v : Value} {l : List PM} (h : MIn n₀ w v l) : ∃ a cap, v = .slice a l.length cap := by
  rcases h with ⟨a, cap, rfl, rfl⟩ | ⟨b, off, cap, rfl, _⟩
  · exact ⟨_, _, rfl⟩
  · exact ⟨_, _, rfl⟩
theorem MIn.below {n₀ n : Nat} {w w' : World} {v : Value} {l : List PM} (h : MIn n₀ w v l) (hb : Below n w w') (hn : n₀ ≤ n) : MIn n₀ w' v l := by
  rcases h with h | ⟨b, off, cap, e, hlt, hc⟩
  · exact .inl h
  · refine .inr ⟨b, off, cap, e, hlt, fun j hj => ?_⟩
    obtain ⟨pa, pk, pc, h1, h2, h3, h4⟩ := hc j hj
    exact ⟨pa, pk, pc, (hb.cell (p := ⟨b, _, none⟩) (show b < n by omega)).trans h1, (hb.cell (p := ⟨b, _, none⟩) (show b < n by omega)).trans h2, (hb.cell (p := ⟨b, _, none⟩) (show b < n by omega)).trans h3, h4.below hb hn⟩
theorem MIn.at {n₀ : Nat} {w : World} {a : Option Addr} {k cap : Nat} {l : List PM} (h : MIn n₀ w (.slice a k cap) l) {j : Nat} (hj : j < l.length) : ∃ b off, a = some ⟨b, off, none⟩ ∧ ∃ pa pk pc, w.cell? ⟨b, off + j * 3, none⟩ = some (.int .i64 l[j].point) ∧ w.cell? ⟨b, off + j * 3 + 1, none⟩ = some (.int .i64 l[j].cls) ∧
    w.cell? ⟨b, off + j * 3 + 2, none⟩ = some (.slice pa pk pc) ∧ Ints n₀ w (.slice pa pk pc) l[j].parts := by
  rcases h with ⟨a', cap', e, rfl⟩ | ⟨b, off, cap', e, hlt, hc⟩
  · simp at hj
  · simp only [Value.slice.injEq] at e
    exact ⟨b, off, e.1, hc j hj⟩

theorem all_drop (l : List Int) (k : Nat) (h : k < l.length) : (l.drop k).all mayB = (mayB l[k] && (l.drop (k + 1)).all mayB) := by
  rw [List.drop_eq_getElem_cons h, List.all_cons]

set_option maxHeartbeats 4000000 in
set_option maxRecDepth 20000 in
theorem mayBe_any (n₀ : Nat) (m : PM) (a : Option Addr) (k cap : Nat) (w : World) (hn₀ : n₀ ≤ w.heap.size) (hin : Ints n₀ w (.slice a k cap) m.parts) (hl : m.parts.length ≤ 4611686018427387904) :
    Calls Tryz.prog 38 #[.agg #[.int .i64 m.point, .int .i64 m.cls, .slice a k cap]] w fun e w' => e = .returned (.bool (mayPM m)) ∧ Below w.heap.size w w' := by
  obtain ⟨a', c', he⟩ := hin.val
  simp only [Value.slice.injEq] at he
  have HK : Hid (k = m.parts.length) := he.2.1
  have hkl : k ≤ 4611686018427387904 := by rw [he.2.1]; exact hl
  clear he
  have hb0 := (Below.refl w.heap.size w).alloc (Nat.le_refl _) (.cells #[.int .i64 m.point, .int .i64 m.cls, .slice a k cap] 36)
  have hbn := Blk.new w 36 #[.int .i64 m.point, .int .i64 m.cls, .slice a k cap]
  generalize hR : mayPM m = R
  have HR : Hid ((m.parts.all mayB && (mayB m.point && (decide (0 ≤ m.cls) && decide (m.cls ≤ 254)))) = R) := hR
  go_enter Tryz.func38, Tryz.ntmps38
  go_upto_region 1 with fail
  generalize w.alloc (.cells #[.int .i64 m.point, .int .i64 m.cls, .slice a k cap] 36) = W at hb0 hbn ⊢
  have e0 : W.cell? ⟨w.heap.size, 0, none⟩ = some (.int .i64 m.point) := hbn.cell 0
  have e1 : W.cell? ⟨w.heap.size, 1, none⟩ = some (.int .i64 m.cls) := hbn.cell 1
  have e2 : W.cell? ⟨w.heap.size, 2, none⟩ = some (.slice a k cap) := hbn.cell 2
  clear hR
  go_wp2_with fail
  go_loopw [8] (fun i wr => ∃ j : Nat, j ≤ k ∧ i = .int .i64 j ∧ Hid (((m.parts.drop j).all mayB && (mayB m.point && (decide (0 ≤ m.cls) && decide (m.cls ≤ 254)))) = R) ∧ W = wr) (fun i _ => k - (intOf i).toNat)
  case atStart => exact ⟨0, by omega, rfl, by simpa using HR, rfl⟩
  case round =>
    obtain ⟨j, hj, rfl, HJ, rfl⟩ := hrel
    by_cases hlt : j < k
    · have hltp : j < m.parts.length := by rw [← HK.out]; exact hlt
      obtain ⟨bp, op, hao, hnk, hblt, hcell⟩ := (hin.below hb0 hn₀).cell (fun e => by rw [e] at hltp; simp at hltp)
      have hcj := hcell j hltp
      rw [show m.parts[j]?.getD 0 = m.parts[j] by simp [List.getElem?_eq_getElem hltp]] at hcj
      have hJJ := HJ.out
      rw [all_drop _ _ hltp, Bool.and_assoc] at hJJ
      generalize m.parts[j] = q at hcj hJJ
      subst hao
      clear hcell hnk HJ HR
      go_wp2_with fail
      refine (mayStand_any q W).mono ?_
      rintro e w2 ⟨rfl, rfl⟩
      cases hq : mayB q with
      | false =>
        rw [hq] at hJJ
        have hRf : R = false := by rw [← hJJ]; rfl
        clear hJJ
        go_wp2_with fail
        go_ret
        exact ⟨by rw [hRf]; rfl, hb0⟩
      | true =>
        rw [hq, Bool.true_and] at hJJ
        have HJ2 : Hid (((m.parts.drop (j + 1)).all mayB && (mayB m.point && (decide (0 ≤ m.cls) && decide (m.cls ≤ 254)))) = R) := hJJ
        clear hJJ
        go_wp2_with fail
        go_roundw
        case rel => exact ⟨j + 1, by omega, by simp, HJ2, by trivial⟩
        case measure => simp only [intOf]; omega
    · have hJJ := HJ.out
      rw [List.drop_of_length_le (by rw [← HK.out]; omega)] at hJJ
      simp only [List.all_nil, Bool.true_and] at hJJ
      have HJ2 : Hid ((mayB m.point && (decide (0 ≤ m.cls) && decide (m.cls ≤ 254))) = R) := hJJ
      clear hJJ HJ HR
      go_wp2_with fail
      refine (mayStand_any m.point W).mono ?_
      rintro e w2 ⟨rfl, rfl⟩
      cases hq : mayB m.point with
      | false =>
        rw [hq] at HJ2
        have hRf : R = false := by rw [← HJ2.out]; rfl
        go_wp2_with fail
        go_ret
        exact ⟨by rw [hRf]; rfl, hb0⟩
      | true =>
        rw [hq] at HJ2
        by_cases h0 : 0 ≤ m.cls
        · by_cases h1 : m.cls ≤ 254
          · have hRf : R = true := by rw [← HJ2.out]; simp [h0, h1]
            go_wp2_with fail
            go_ret
            exact ⟨by rw [hRf]; rfl, hb0⟩
          · have hRf : R = false := by rw [← HJ2.out]; simp [h1]
            have h1' : decide (m.cls ≤ 254) = false := by simpa using h1
            go_wp2_with fail
            go_ret
            exact ⟨by rw [hRf]; rfl, hb0⟩
        · have hRf : R = false := by rw [← HJ2.out]; simp [h0]
          have h0' : decide (0 ≤ m.cls) = false := by simpa using h0
          go_wp2_with fail
          go_ret
          exact ⟨by rw [hRf]; rfl, hb0⟩

end Go.Proofs.YtpmckfmjegehgaaGreatDoor
