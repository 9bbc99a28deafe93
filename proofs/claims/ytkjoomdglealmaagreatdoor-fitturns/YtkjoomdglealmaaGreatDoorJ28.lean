/- Contracts and lemmas (nothing is claimed here). -/
import Derived.Test.YtkjoomdglealmaaGreatDoorJ27
import Derived.Test.YtkjoomdglealmaaGreatDoorMade
namespace Go.Proofs.YtkjoomdglealmaaGreatDoor
open Go.RowKit Go.Vf

def oAw : Go.Vf.Own := ⟨⟨#[97]⟩, 1, false, 0, false, false, ⟨#[]⟩, false, ⟨#[]⟩, 0, 0, false, false⟩
def oBw : Go.Vf.Own := ⟨⟨#[98]⟩, 7, false, 0, false, false, ⟨#[]⟩, false, ⟨#[]⟩, 0, 0, false, false⟩
def oCw : Go.Vf.Own := ⟨⟨#[99]⟩, 2, false, 0, false, false, ⟨#[]⟩, false, ⟨#[]⟩, 0, 0, false, false⟩
def lAw : List Fld := [.mk oAw [], .mk oBw [.mk oCw []]]
def pAw (k : Int) : Prt := .mk 7 false false ⟨#[]⟩ ⟨#[]⟩ [.mk 1 false false ⟨#[]⟩ ⟨#[]⟩ [], .mk 7 false false ⟨#[]⟩ ⟨#[]⟩ [.mk k false false ⟨#[]⟩ ⟨#[]⟩ []]]

theorem awk_tour : (chkS bndQ 9 lAw).1 = 0 := by
  have h1 : seeF bndQ 1 1 [] (.mk oAw []) = 0 := by decide
  have h2 : seeF bndQ 1 2 [.mk oAw []] (.mk oBw [.mk oCw []]) = 0 := by decide
  have h3 : seeF bndQ 2 3 [] (.mk oCw []) = 0 := by decide
  have t3 : tourL bndQ ([] ++ [((([Fld.mk oAw []] : List Fld).length : Nat) : Int)]) [] (1 + 1) [.mk oCw []] = .ok 3 := by
    show tourL bndQ [((1 : Nat) : Int)] [] 2 [.mk oCw []] = .ok 3
    rw [tourL_on bndQ [((1 : Nat) : Int)] [] 2 (.mk oCw []) [] h3 (tourL_nil _ _ _ _), tourL_nil]
  have t2 : tourL bndQ [] ([] ++ [.mk oAw []]) 1 [.mk oBw [.mk oCw []]] = .ok 3 := by
    rw [List.nil_append, tourL_on bndQ [] [.mk oAw []] 1 (.mk oBw [.mk oCw []]) [] h2 t3, tourL_nil]
  have t1 : tourL bndQ [] [] 0 lAw = .ok 3 := by
    rw [lAw, tourL_on bndQ [] [] 0 (.mk oAw []) _ h1 (tourL_nil _ _ _ _)]
    exact t2
  exact tour_chkS t1 (by decide) (by decide) (by simp [lAw])
theorem awk_good : unf utfAt (.mk tupO lAw) (pAw 2) = none := by
  simp [unf, unfL, tupO, lAw, pAw, oAw, oBw, oCw, isRawK, oobR]
theorem awk_bad : unf utfAt (.mk tupO lAw) (pAw 1) = some (120, 0, [1, 0], 4) := by
  simp [unf, unfL, tupO, lAw, pAw, oAw, oBw, oCw, isRawK, ahead]
theorem awk_may (k : Int) (hk : k = 1 ∨ k = 2) : may (pAw k) = true ∧ deeper 16 (pAw k) = false ∧ dep (pAw k) ≤ 100 := by
  rcases hk with rfl | rfl <;> decide
theorem awk_fits : ∀ x ∈ lAw, FitsF 17179869184 x := by
  have ho : ∀ o, o = oAw ∨ o = oBw ∨ o = oCw → OwnFits 17179869184 o := by
    rintro o (rfl | rfl | rfl) <;> exact ⟨by decide, by decide, by decide, by decide, by decide, by decide, by decide, by decide, by decide, by decide, by decide⟩
  intro x hx
  simp only [lAw, List.mem_cons, List.not_mem_nil, or_false] at hx
  rcases hx with rfl | rfl
  · exact .mk (ho oAw (.inl rfl)) (by simp [Fld.fields]) (fun y hy => by cases hy)
  · refine .mk (ho oBw (.inr (.inl rfl))) (by simp [Fld.fields]) (fun y hy => ?_)
    simp only [Fld.fields, List.mem_cons, List.not_mem_nil, or_false] at hy
    subst hy
    exact .mk (ho oCw (.inr (.inr rfl))) (by simp [Fld.fields]) (fun z hz => by cases hz)
theorem awk_pfits (k : Int) (hk : 0 ≤ k) : Fits (pAw k) := by
  refine .mk (by show (0 : Int) ≤ 7; decide) (by show 0 ≤ _; decide) (by show 0 ≤ _; decide) (by show 2 ≤ _; decide) (fun x hx => ?_)
  simp only [pAw, Prt.items, List.mem_cons, List.not_mem_nil, or_false] at hx
  rcases hx with rfl | rfl
  · exact .mk (by show (0 : Int) ≤ 1; decide) (by show 0 ≤ _; decide) (by show 0 ≤ _; decide) (by show 0 ≤ _; decide) (fun y hy => by cases hy)
  · refine .mk (by show (0 : Int) ≤ 7; decide) (by show 0 ≤ _; decide) (by show 0 ≤ _; decide) (by show 1 ≤ _; decide) (fun y hy => ?_)
    simp only [Prt.items, List.mem_cons, List.not_mem_nil, or_false] at hy
    subst hy
    exact .mk hk (by show 0 ≤ _; decide) (by show 0 ≤ _; decide) (by show 0 ≤ _; decide) (fun z hz => by cases hz)

theorem awk_fin (w : World) : FIn (((w.alloc (.cells #[.string ⟨#[99]⟩, .int .u8 2, .bool false, .int .u8 0, .bool false, .bool false, .string ⟨#[]⟩, .bool false, .string ⟨#[]⟩, .int .i64 0, .int .i64 0, .bool false, .bool false, .slice none 0 0] 57)).alloc (.cells #[.string ⟨#[97]⟩, .int .u8 1, .bool false, .int .u8 0, .bool false, .bool false, .string ⟨#[]⟩, .bool false, .string ⟨#[]⟩, .int .i64 0, .int .i64 0, .bool false, .bool false, .slice none 0 0, .string ⟨#[98]⟩, .int .u8 7, .bool false, .int .u8 0, .bool false, .bool false, .string ⟨#[]⟩, .bool false, .string ⟨#[]⟩, .int .i64 0, .int .i64 0, .bool false, .bool false, .slice (some ⟨w.heap.size, 0, none⟩) 1 1] 57)).alloc (.cells #[.int .i64 9, .slice (some ⟨w.heap.size + 1, 0, none⟩) 2 2] 24)) w.heap.size (w.heap.size + 1 + 1) lAw (some ⟨w.heap.size + 1, 0, none⟩) ∧ Blk (((w.alloc (.cells #[.string ⟨#[99]⟩, .int .u8 2, .bool false, .int .u8 0, .bool false, .bool false, .string ⟨#[]⟩, .bool false, .string ⟨#[]⟩, .int .i64 0, .int .i64 0, .bool false, .bool false, .slice none 0 0] 57)).alloc (.cells #[.string ⟨#[97]⟩, .int .u8 1, .bool false, .int .u8 0, .bool false, .bool false, .string ⟨#[]⟩, .bool false, .string ⟨#[]⟩, .int .i64 0, .int .i64 0, .bool false, .bool false, .slice none 0 0, .string ⟨#[98]⟩, .int .u8 7, .bool false, .int .u8 0, .bool false, .bool false, .string ⟨#[]⟩, .bool false, .string ⟨#[]⟩, .int .i64 0, .int .i64 0, .bool false, .bool false, .slice (some ⟨w.heap.size, 0, none⟩) 1 1] 57)).alloc (.cells #[.int .i64 9, .slice (some ⟨w.heap.size + 1, 0, none⟩) 2 2] 24)) (w.heap.size + 1 + 1) 24 #[.int .i64 9, .slice (some ⟨w.heap.size + 1, 0, none⟩) 2 2] ∧ Below w.heap.size w (((w.alloc (.cells #[.string ⟨#[99]⟩, .int .u8 2, .bool false, .int .u8 0, .bool false, .bool false, .string ⟨#[]⟩, .bool false, .string ⟨#[]⟩, .int .i64 0, .int .i64 0, .bool false, .bool false, .slice none 0 0] 57)).alloc (.cells #[.string ⟨#[97]⟩, .int .u8 1, .bool false, .int .u8 0, .bool false, .bool false, .string ⟨#[]⟩, .bool false, .string ⟨#[]⟩, .int .i64 0, .int .i64 0, .bool false, .bool false, .slice none 0 0, .string ⟨#[98]⟩, .int .u8 7, .bool false, .int .u8 0, .bool false, .bool false, .string ⟨#[]⟩, .bool false, .string ⟨#[]⟩, .int .i64 0, .int .i64 0, .bool false, .bool false, .slice (some ⟨w.heap.size, 0, none⟩) 1 1] 57)).alloc (.cells #[.int .i64 9, .slice (some ⟨w.heap.size + 1, 0, none⟩) 2 2] 24)) := by
  have b1 := (Below.refl w.heap.size w).alloc (Nat.le_refl _) (.cells #[.string ⟨#[99]⟩, .int .u8 2, .bool false, .int .u8 0, .bool false, .bool false, .string ⟨#[]⟩, .bool false, .string ⟨#[]⟩, .int .i64 0, .int .i64 0, .bool false, .bool false, .slice none 0 0] 57)
  have s1 := alloc_size w (.cells #[.string ⟨#[99]⟩, .int .u8 2, .bool false, .int .u8 0, .bool false, .bool false, .string ⟨#[]⟩, .bool false, .string ⟨#[]⟩, .int .i64 0, .int .i64 0, .bool false, .bool false, .slice none 0 0] 57)
  have n1 := Blk.new w 57 #[.string ⟨#[99]⟩, .int .u8 2, .bool false, .int .u8 0, .bool false, .bool false, .string ⟨#[]⟩, .bool false, .string ⟨#[]⟩, .int .i64 0, .int .i64 0, .bool false, .bool false, .slice none 0 0]
  have b2 := (Below.refl _ (w.alloc (.cells #[.string ⟨#[99]⟩, .int .u8 2, .bool false, .int .u8 0, .bool false, .bool false, .string ⟨#[]⟩, .bool false, .string ⟨#[]⟩, .int .i64 0, .int .i64 0, .bool false, .bool false, .slice none 0 0] 57))).alloc (Nat.le_refl _) (.cells #[.string ⟨#[97]⟩, .int .u8 1, .bool false, .int .u8 0, .bool false, .bool false, .string ⟨#[]⟩, .bool false, .string ⟨#[]⟩, .int .i64 0, .int .i64 0, .bool false, .bool false, .slice none 0 0, .string ⟨#[98]⟩, .int .u8 7, .bool false, .int .u8 0, .bool false, .bool false, .string ⟨#[]⟩, .bool false, .string ⟨#[]⟩, .int .i64 0, .int .i64 0, .bool false, .bool false, .slice (some ⟨w.heap.size, 0, none⟩) 1 1] 57)
  have s2 := alloc_size (w.alloc (.cells #[.string ⟨#[99]⟩, .int .u8 2, .bool false, .int .u8 0, .bool false, .bool false, .string ⟨#[]⟩, .bool false, .string ⟨#[]⟩, .int .i64 0, .int .i64 0, .bool false, .bool false, .slice none 0 0] 57)) (.cells #[.string ⟨#[97]⟩, .int .u8 1, .bool false, .int .u8 0, .bool false, .bool false, .string ⟨#[]⟩, .bool false, .string ⟨#[]⟩, .int .i64 0, .int .i64 0, .bool false, .bool false, .slice none 0 0, .string ⟨#[98]⟩, .int .u8 7, .bool false, .int .u8 0, .bool false, .bool false, .string ⟨#[]⟩, .bool false, .string ⟨#[]⟩, .int .i64 0, .int .i64 0, .bool false, .bool false, .slice (some ⟨w.heap.size, 0, none⟩) 1 1] 57)
  have n2 := Blk.new (w.alloc (.cells #[.string ⟨#[99]⟩, .int .u8 2, .bool false, .int .u8 0, .bool false, .bool false, .string ⟨#[]⟩, .bool false, .string ⟨#[]⟩, .int .i64 0, .int .i64 0, .bool false, .bool false, .slice none 0 0] 57)) 57 #[.string ⟨#[97]⟩, .int .u8 1, .bool false, .int .u8 0, .bool false, .bool false, .string ⟨#[]⟩, .bool false, .string ⟨#[]⟩, .int .i64 0, .int .i64 0, .bool false, .bool false, .slice none 0 0, .string ⟨#[98]⟩, .int .u8 7, .bool false, .int .u8 0, .bool false, .bool false, .string ⟨#[]⟩, .bool false, .string ⟨#[]⟩, .int .i64 0, .int .i64 0, .bool false, .bool false, .slice (some ⟨w.heap.size, 0, none⟩) 1 1]
  have b3 := (Below.refl _ ((w.alloc (.cells #[.string ⟨#[99]⟩, .int .u8 2, .bool false, .int .u8 0, .bool false, .bool false, .string ⟨#[]⟩, .bool false, .string ⟨#[]⟩, .int .i64 0, .int .i64 0, .bool false, .bool false, .slice none 0 0] 57)).alloc (.cells #[.string ⟨#[97]⟩, .int .u8 1, .bool false, .int .u8 0, .bool false, .bool false, .string ⟨#[]⟩, .bool false, .string ⟨#[]⟩, .int .i64 0, .int .i64 0, .bool false, .bool false, .slice none 0 0, .string ⟨#[98]⟩, .int .u8 7, .bool false, .int .u8 0, .bool false, .bool false, .string ⟨#[]⟩, .bool false, .string ⟨#[]⟩, .int .i64 0, .int .i64 0, .bool false, .bool false, .slice (some ⟨w.heap.size, 0, none⟩) 1 1] 57))).alloc (Nat.le_refl _) (.cells #[.int .i64 9, .slice (some ⟨w.heap.size + 1, 0, none⟩) 2 2] 24)
  have n3 := Blk.new ((w.alloc (.cells #[.string ⟨#[99]⟩, .int .u8 2, .bool false, .int .u8 0, .bool false, .bool false, .string ⟨#[]⟩, .bool false, .string ⟨#[]⟩, .int .i64 0, .int .i64 0, .bool false, .bool false, .slice none 0 0] 57)).alloc (.cells #[.string ⟨#[97]⟩, .int .u8 1, .bool false, .int .u8 0, .bool false, .bool false, .string ⟨#[]⟩, .bool false, .string ⟨#[]⟩, .int .i64 0, .int .i64 0, .bool false, .bool false, .slice none 0 0, .string ⟨#[98]⟩, .int .u8 7, .bool false, .int .u8 0, .bool false, .bool false, .string ⟨#[]⟩, .bool false, .string ⟨#[]⟩, .int .i64 0, .int .i64 0, .bool false, .bool false, .slice (some ⟨w.heap.size, 0, none⟩) 1 1] 57)) 24 #[.int .i64 9, .slice (some ⟨w.heap.size + 1, 0, none⟩) 2 2]
  have m1 := (n1.old b2).old b3
  have m2 := n2.old b3
  rw [s1] at m2
  rw [s2, s1] at n3
  refine ⟨?_, n3, b1.trans ((b2.trans (b3.mono (by rw [s2]; omega))).mono (by rw [s1]; omega))⟩
  refine .cons (fun j => if j = 0 then none else some ⟨w.heap.size, 0, none⟩) (fun j => if j = 0 then 0 else 1) (by omega) (by omega) (fun j hj => ?_) (fun j hj => ?_) (fun j hj => ?_)
  · rcases j with _ | _ | j
    · exact ⟨m2.cell 0, m2.cell 1, m2.cell 2, m2.cell 3, m2.cell 4, m2.cell 5, m2.cell 6, m2.cell 7, m2.cell 8, m2.cell 9, m2.cell 10, m2.cell 11, m2.cell 12, m2.cell 13⟩
    · exact ⟨m2.cell 14, m2.cell 15, m2.cell 16, m2.cell 17, m2.cell 18, m2.cell 19, m2.cell 20, m2.cell 21, m2.cell 22, m2.cell 23, m2.cell 24, m2.cell 25, m2.cell 26, m2.cell 27⟩
    · simp [lAw] at hj; omega
  · rcases j with _ | _ | j
    · exact Nat.le_refl _
    · exact Nat.le_refl _
    · simp [lAw] at hj; omega
  · rcases j with _ | _ | j
    · exact .nil
    · refine .cons (fun _ => none) (fun _ => 0) (by omega) (by omega) (fun i hi => ?_) (fun i hi => ?_) (fun i hi => ?_)
      · rcases i with _ | i
        · exact ⟨m1.cell 0, m1.cell 1, m1.cell 2, m1.cell 3, m1.cell 4, m1.cell 5, m1.cell 6, m1.cell 7, m1.cell 8, m1.cell 9, m1.cell 10, m1.cell 11, m1.cell 12, m1.cell 13⟩
        · simp [lAw, Fld.fields] at hi
      · rcases i with _ | i
        · exact Nat.le_refl _
        · simp [lAw, Fld.fields] at hi
      · rcases i with _ | i
        · exact .nil
        · simp [lAw, Fld.fields] at hi
    · simp [lAw] at hj; omega
theorem awk_pin (w : World) (k : Int) : PIn ((w.alloc (.cells #[.int .u8 k, .bool false, .bool false, .string ⟨#[]⟩, .string ⟨#[]⟩, .slice none 0 0] 30)).alloc (.cells #[.int .u8 1, .bool false, .bool false, .string ⟨#[]⟩, .string ⟨#[]⟩, .slice none 0 0, .int .u8 7, .bool false, .bool false, .string ⟨#[]⟩, .string ⟨#[]⟩, .slice (some ⟨w.heap.size, 0, none⟩) 1 1] 30)) w.heap.size (w.heap.size + 1 + 1) (pAw k) (some ⟨w.heap.size + 1, 0, none⟩) ∧ ((w.alloc (.cells #[.int .u8 k, .bool false, .bool false, .string ⟨#[]⟩, .string ⟨#[]⟩, .slice none 0 0] 30)).alloc (.cells #[.int .u8 1, .bool false, .bool false, .string ⟨#[]⟩, .string ⟨#[]⟩, .slice none 0 0, .int .u8 7, .bool false, .bool false, .string ⟨#[]⟩, .string ⟨#[]⟩, .slice (some ⟨w.heap.size, 0, none⟩) 1 1] 30)).heap.size = w.heap.size + 1 + 1 ∧ Below w.heap.size w ((w.alloc (.cells #[.int .u8 k, .bool false, .bool false, .string ⟨#[]⟩, .string ⟨#[]⟩, .slice none 0 0] 30)).alloc (.cells #[.int .u8 1, .bool false, .bool false, .string ⟨#[]⟩, .string ⟨#[]⟩, .slice none 0 0, .int .u8 7, .bool false, .bool false, .string ⟨#[]⟩, .string ⟨#[]⟩, .slice (some ⟨w.heap.size, 0, none⟩) 1 1] 30)) := by
  have b1 := (Below.refl w.heap.size w).alloc (Nat.le_refl _) (.cells #[.int .u8 k, .bool false, .bool false, .string ⟨#[]⟩, .string ⟨#[]⟩, .slice none 0 0] 30)
  have s1 := alloc_size w (.cells #[.int .u8 k, .bool false, .bool false, .string ⟨#[]⟩, .string ⟨#[]⟩, .slice none 0 0] 30)
  have n1 := Blk.new w 30 #[.int .u8 k, .bool false, .bool false, .string ⟨#[]⟩, .string ⟨#[]⟩, .slice none 0 0]
  have b2 := (Below.refl _ (w.alloc (.cells #[.int .u8 k, .bool false, .bool false, .string ⟨#[]⟩, .string ⟨#[]⟩, .slice none 0 0] 30))).alloc (Nat.le_refl _) (.cells #[.int .u8 1, .bool false, .bool false, .string ⟨#[]⟩, .string ⟨#[]⟩, .slice none 0 0, .int .u8 7, .bool false, .bool false, .string ⟨#[]⟩, .string ⟨#[]⟩, .slice (some ⟨w.heap.size, 0, none⟩) 1 1] 30)
  have s2 := alloc_size (w.alloc (.cells #[.int .u8 k, .bool false, .bool false, .string ⟨#[]⟩, .string ⟨#[]⟩, .slice none 0 0] 30)) (.cells #[.int .u8 1, .bool false, .bool false, .string ⟨#[]⟩, .string ⟨#[]⟩, .slice none 0 0, .int .u8 7, .bool false, .bool false, .string ⟨#[]⟩, .string ⟨#[]⟩, .slice (some ⟨w.heap.size, 0, none⟩) 1 1] 30)
  have n2 := Blk.new (w.alloc (.cells #[.int .u8 k, .bool false, .bool false, .string ⟨#[]⟩, .string ⟨#[]⟩, .slice none 0 0] 30)) 30 #[.int .u8 1, .bool false, .bool false, .string ⟨#[]⟩, .string ⟨#[]⟩, .slice none 0 0, .int .u8 7, .bool false, .bool false, .string ⟨#[]⟩, .string ⟨#[]⟩, .slice (some ⟨w.heap.size, 0, none⟩) 1 1]
  have m1 := n1.old b2
  rw [s1] at n2
  refine ⟨?_, by rw [s2, s1], b1.trans (b2.mono (by rw [s1]; omega))⟩
  refine .cons (fun j => if j = 0 then none else some ⟨w.heap.size, 0, none⟩) (fun j => if j = 0 then 0 else 1) (by omega) (by omega) (fun j hj => ?_) (fun j hj => ?_)
  · rcases j with _ | _ | j
    · exact ⟨n2.cell 0, n2.cell 1, n2.cell 2, n2.cell 3, n2.cell 4, n2.cell 5⟩
    · exact ⟨n2.cell 6, n2.cell 7, n2.cell 8, n2.cell 9, n2.cell 10, n2.cell 11⟩
    · simp [pAw, Prt.items] at hj; omega
  · rcases j with _ | _ | j
    · exact .nil rfl
    · refine .cons (fun _ => none) (fun _ => 0) (by omega) (by omega) (fun i hi => ?_) (fun i hi => ?_)
      · rcases i with _ | i
        · exact ⟨m1.cell 0, m1.cell 1, m1.cell 2, m1.cell 3, m1.cell 4, m1.cell 5⟩
        · simp [pAw, Prt.items] at hi
      · rcases i with _ | i
        · exact .nil rfl
        · simp [pAw, Prt.items] at hi
    · simp [pAw, Prt.items] at hj; omega
end Go.Proofs.YtkjoomdglealmaaGreatDoor

namespace Go.Proofs.YtkjoomdglealmaaGreatDoor
open Go.RowKit Go.Vf

theorem awk_make (w : World) (k : Int) (hk : k = 1 ∨ k = 2) : Calls Tryz.prog 13 #[.agg #[.int .u8 7, .bool false, .bool false, .string ⟨#[]⟩, .string ⟨#[]⟩, .slice (some ⟨w.heap.size + 1, 0, none⟩) 2 2]] ((w.alloc (.cells #[.int .u8 k, .bool false, .bool false, .string ⟨#[]⟩, .string ⟨#[]⟩, .slice none 0 0] 30)).alloc (.cells #[.int .u8 1, .bool false, .bool false, .string ⟨#[]⟩, .string ⟨#[]⟩, .slice none 0 0, .int .u8 7, .bool false, .bool false, .string ⟨#[]⟩, .string ⟨#[]⟩, .slice (some ⟨w.heap.size, 0, none⟩) 1 1] 30)) fun e w' => Below w.heap.size w w' ∧ ∃ v, e = .returned (.tuple #[v, .int .i64 0]) ∧ VIn w' w.heap.size w'.heap.size v (pAw k) := by
  obtain ⟨h1, h2, h3⟩ := awk_pin w k
  obtain ⟨m1, m2, _⟩ := awk_may k hk
  refine (make_any (pAw k) (awk_pfits k (by omega)) (some ⟨w.heap.size + 1, 0, none⟩) 2 w.heap.size (w.heap.size + 1 + 1) ((w.alloc (.cells #[.int .u8 k, .bool false, .bool false, .string ⟨#[]⟩, .string ⟨#[]⟩, .slice none 0 0] 30)).alloc (.cells #[.int .u8 1, .bool false, .bool false, .string ⟨#[]⟩, .string ⟨#[]⟩, .slice none 0 0, .int .u8 7, .bool false, .bool false, .string ⟨#[]⟩, .string ⟨#[]⟩, .slice (some ⟨w.heap.size, 0, none⟩) 1 1] 30)) (by rw [h2]; exact Nat.le_refl _) h1).mono ?_
  rintro e w' ⟨hb, ⟨h4, _⟩ | ⟨_, h4, _⟩ | ⟨_, _, v, he, hv⟩⟩
  · rw [m2] at h4; cases h4
  · rw [m1] at h4; cases h4
  · exact ⟨h3.trans (hb.mono h3.size), v, he, hv.mono (Nat.le_refl _) h3.size⟩

set_option maxHeartbeats 4000000 in
set_option maxRecDepth 20000 in
theorem awake_any (w : World) (hT : Tabs w) (hE : ErrT w) : Calls Tryz.prog 9 #[] w fun e w' => e = .returned (.bool true) ∧ Below w.heap.size w w' := by
  have h3z := hT.size
  obtain ⟨hin, hS, hb3⟩ := awk_fin w
  go_enter Tryz.func9, Tryz.ntmps9
  go_upto_region 2 with fail
  generalize (((w.alloc (.cells #[.string ⟨#[99]⟩, .int .u8 2, .bool false, .int .u8 0, .bool false, .bool false, .string ⟨#[]⟩, .bool false, .string ⟨#[]⟩, .int .i64 0, .int .i64 0, .bool false, .bool false, .slice none 0 0] 57)).alloc (.cells #[.string ⟨#[97]⟩, .int .u8 1, .bool false, .int .u8 0, .bool false, .bool false, .string ⟨#[]⟩, .bool false, .string ⟨#[]⟩, .int .i64 0, .int .i64 0, .bool false, .bool false, .slice none 0 0, .string ⟨#[98]⟩, .int .u8 7, .bool false, .int .u8 0, .bool false, .bool false, .string ⟨#[]⟩, .bool false, .string ⟨#[]⟩, .int .i64 0, .int .i64 0, .bool false, .bool false, .slice (some ⟨w.heap.size, 0, none⟩) 1 1] 57)).alloc (.cells #[.int .i64 9, .slice (some ⟨w.heap.size + 1, 0, none⟩) 2 2] 24)) = w3 at *
  have hsz3 := hb3.size
  have hmk := awk_make w3 2 (.inr rfl)
  go_wp2_with fail
  refine hmk.mono ?_
  rintro _ w4 ⟨hb4, v, rfl, hv⟩
  have hmk2 := awk_make w4 1 (.inl rfl)
  clear hmk
  go_wp2_with fail
  refine hmk2.mono ?_
  rintro _ w5 ⟨hb5, u, rfl, hu⟩
  have hb35 := hb4.trans (hb5.mono hb4.size)
  have hb05 := hb3.trans (hb35.mono hb3.size)
  have hS5 := hS.old hb35
  have hsl := hS.lt
  have hsz5 := hb05.size
  have hck := fitCheck_any 9 lAw awk_fits (by decide) (some ⟨w.heap.size + 1, 0, none⟩) 2 w.heap.size (w.heap.size + 1 + 1) (Nat.le_refl _) v (pAw 2) (awk_may 2 (.inr rfl)).1 (awk_may 2 (.inr rfl)).2.2 w3.heap.size w4.heap.size w5 (by have := hb35.size; omega) hb5.size (hin.keep hb35 (by omega)) (hv.old hb5 (Nat.le_refl _)) (hT.own hb05) (hE.old (by omega) hb05)
  rw [awk_tour, awk_good] at hck
  have x0 : w5.cell? ⟨w.heap.size + 1 + 1, 0, none⟩ = some (.int .i64 9) := hS5.cell 0
  have x1 : w5.cell? ⟨w.heap.size + 1 + 1, 1, none⟩ = some (.slice (some ⟨w.heap.size + 1, 0, none⟩) 2 2) := hS5.cell 1
  clear hmk2
  go_wp2_with fail
  refine hck.mono ?_
  rintro e w6 ⟨hb6, he⟩
  have he' : e = .returned .nilIface := he
  subst he'
  have hb36 := hb35.trans (hb6.mono hb35.size)
  have hb06 := hb05.trans (hb6.mono hb05.size)
  have hS6 := hS5.old hb6
  have hck2 := fitCheck_any 9 lAw awk_fits (by decide) (some ⟨w.heap.size + 1, 0, none⟩) 2 w.heap.size (w.heap.size + 1 + 1) (Nat.le_refl _) u (pAw 1) (awk_may 1 (.inl rfl)).1 (awk_may 1 (.inl rfl)).2.2 w4.heap.size w5.heap.size w6 (by have := hb36.size; omega) hb6.size (hin.keep hb36 (by omega)) (hu.old hb6 (Nat.le_refl _)) (hT.own hb06) (hE.old (by omega) hb06)
  rw [awk_tour, awk_bad] at hck2
  have y0 : w6.cell? ⟨w.heap.size + 1 + 1, 0, none⟩ = some (.int .i64 9) := hS6.cell 0
  have y1 : w6.cell? ⟨w.heap.size + 1 + 1, 1, none⟩ = some (.slice (some ⟨w.heap.size + 1, 0, none⟩) 2 2) := hS6.cell 1
  clear hck x0 x1 he
  go_wp2_with fail
  refine hck2.mono ?_
  rintro e w7 ⟨hb7, v7, why, hev, ⟨F, pa, pc, rfl, hF0, hF1, hF2, hF3⟩, hW⟩
  subst hev
  obtain ⟨G, ga, gn, gc, rfl, hG⟩ : ∃ G a n c, why = .iface 98 (.pointer (some ⟨G, 0, none⟩)) ∧ Blk w7 G 100 #[.int .i64 4, .int .i64 0, .slice a n c, .nilIface] := by
    rcases hW with ⟨h, _⟩ | ⟨h, _⟩ | ⟨_, G, a, n, c, h1, h2⟩
    · cases h
    · cases h
    · exact ⟨G, a, n, c, h1, h2⟩
  have hb07 := hb06.trans (hb7.mono hb06.size)
  have hb78 := (Below.refl w7.heap.size w7).alloc (Nat.le_refl _) (.cells #[.int .i64 1, .int .i64 0] 3)
  have hn8 := Blk.new w7 3 #[.int .i64 1, .int .i64 0]
  have hs8 := alloc_size w7 (.cells #[.int .i64 1, .int .i64 0] 3)
  have hsz7 := hb07.size
  have hi1 : Ints (w7.alloc (.cells #[.int .i64 1, .int .i64 0] 3)).heap.size (w7.alloc (.cells #[.int .i64 1, .int .i64 0] 3)) (.slice pa ([1, 0] : List Int).length pc) [1, 0] := (hF2.ints.below hb78 (Nat.le_refl _)).mono hb78.size
  have hi2 : Ints (w7.alloc (.cells #[.int .i64 1, .int .i64 0] 3)).heap.size (w7.alloc (.cells #[.int .i64 1, .int .i64 0] 3)) (.slice (some ⟨w7.heap.size, 0, none⟩) 2 2) [1, 0] := by
    refine .inr ⟨w7.heap.size, 0, 2, rfl, by rw [hs8]; omega, fun j hj => ?_⟩
    rcases j with _ | _ | j
    · exact hn8.cell 0
    · exact hn8.cell 1
    · simp at hj; omega
  have htold := told_fault F G 120 0 4 (.slice pa ([1, 0] : List Int).length pc) (.slice (some ⟨w7.heap.size, 0, none⟩) 2 2) [1, 0] (by decide) (w7.alloc (.cells #[.int .i64 1, .int .i64 0] 3)) (by decide) (by decide) (hE.old (by omega) (hb07.trans (hb78.mono hb07.size))) (hF1.old hb78) ((hG.old hb78).cell 0) hi1 hi2 (by rw [hs8]; omega)
  have hb08 := hb07.trans (hb78.mono hb07.size)
  clear hck2 y0 y1 hF1 hF2 hF3 hW hG hn8 hi1 hi2 hS hS5 hS6 hin hv hu
  go_wp2_with fail
  refine htold.mono ?_
  rintro _ w9 ⟨rfl, hb9⟩
  have hb09 := hb08.trans (hb9.mono hb08.size)
  clear htold
  go_wp2_with fail
  go_ret
  exact ⟨rfl, hb09⟩
end Go.Proofs.YtkjoomdglealmaaGreatDoor
