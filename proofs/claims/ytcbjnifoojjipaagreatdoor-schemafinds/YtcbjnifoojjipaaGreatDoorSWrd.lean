/- What schema's wordsOf does (a contract; nothing is claimed here). -/
import Derived.Test.YtcbjnifoojjipaaGreatDoorSSay
namespace Go.Proofs.YtcbjnifoojjipaaGreatDoor
open Go.RowKit Go.Vf
def wordsL (s : List UInt8) : List ByteArray := Lib.goFieldsP (fun r => r == 32) (bs (Lib.cut (Lib.trimSuffix s [10]) [35]).1)
theorem wpred (r : Int) (w : World) : Calls Tryz.prog 101 #[.int .i32 r] w fun e w' => e = .returned (.bool (r == 32)) ∧ w' = w := by
  go_enter Tryz.func101, Tryz.ntmps101
  go_wp2
  go_ret
  exact ⟨rfl, rfl⟩
set_option maxHeartbeats 2000000 in
theorem wordsOf_any (s : List UInt8) (hs : s.length ≤ 70000) (w : World) (hE : Env w) (hl : (Lib.trimSuffix s [10]).length ≤ 70000) (hl2 : (Lib.cut (Lib.trimSuffix s [10]) [35]).1.length ≤ 70000) :
    Calls Tryz.prog 76 #[.string (bs s)] w fun e w' => ∃ A, e = .returned (.slice (some ⟨A, 0, none⟩) (wordsL s).length (wordsL s).length) ∧ w.heap.size ≤ A ∧ w'.ownsRow w.heap.size 9 1 (.slice (some ⟨A, 0, none⟩) (wordsL s).length (wordsL s).length) (wordsL s).length ((wordsL s).map Value.string) ∧ Below w.heap.size w w' := by
  obtain ⟨m, hm⟩ := hE.mx
  have h1 := Tryz.strings_TrimSuffix (bs s) ⟨#[10]⟩ w (by rw [bs_size]; omega)
  rw [show (⟨#[10]⟩ : ByteArray).data.toList = [10] from rfl, show (bs s).data.toList = s by simp [bs]] at h1
  have h2 := Tryz.strings_Cut (bs (Lib.trimSuffix s [10])) ⟨#[35]⟩ m w (by rw [bs_size]; omega) hm
  rw [show (⟨#[35]⟩ : ByteArray).data.toList = [35] from rfl, show (bs (Lib.trimSuffix s [10])).data.toList = Lib.trimSuffix s [10] by simp [bs]] at h2
  have hp : ∀ W, Below w.heap.size w W → PredAt Tryz.prog 101 #[] encR (fun r => r == 32) W := fun W _ W2 x _ => by
    refine (wpred (x : Int) W2).mono ?_
    rintro e w' ⟨rfl, rfl⟩
    have h : ((x : Int) == 32) = (x == 32) := by
      by_cases h : x = 32
      · subst h; rfl
      · have h2 : ¬ (x : Int) = 32 := by omega
        rw [beq_eq_false_iff_ne.2 h, beq_eq_false_iff_ne.2 h2]
    exact ⟨by rw [h], 0, rfl⟩
  have heg : ∀ args w, (callFunc 101 args).run Tryz.prog w = .ok (.enter 101 args) w := enters_of Tryz.func101 (by kernel_rfl) rfl
  have h3 : ∀ W, Below w.heap.size w W → Calls Tryz.prog 100 #[.string (bs (Lib.cut (Lib.trimSuffix s [10]) [35]).1), .func (.func 101) #[] #[]] W fun e w' => ∃ A, e = .returned (.slice (some ⟨A, 0, none⟩) (wordsL s).length (wordsL s).length) ∧ W.heap.size ≤ A ∧ w'.ownsRow W.heap.size 9 1 (.slice (some ⟨A, 0, none⟩) (wordsL s).length (wordsL s).length) (wordsL s).length ((wordsL s).map Value.string) ∧ Below W.heap.size W w' := fun W hW =>
    Tryz.strings_FieldsFunc 101 #[] heg (fun r => r == 32) (bs (Lib.cut (Lib.trimSuffix s [10]) [35]).1) W (by rw [bs_size]; omega) (hp W hW)
  generalize wordsL s = WS at *
  generalize (Lib.cut (Lib.trimSuffix s [10]) [35]) = C at *
  generalize Lib.trimSuffix s [10] = TS at *
  clear hp heg
  go_enter Tryz.func76, Tryz.ntmps76
  go_wp2_with fail
  refine h1.mono ?_
  rintro _ w2 ⟨rfl, rfl⟩
  go_wp2_with fail
  refine h2.mono ?_
  rintro _ w3 ⟨rfl, n, rfl⟩
  have hb3 : Below w2.heap.size w2 (w2.drewN n) := ⟨rfl, rfl, rfl, Nat.le_refl _, fun _ _ => rfl⟩
  have q3 := h3 _ hb3
  clear h1 h2 h3
  go_wp2_with fail
  refine q3.mono ?_
  rintro _ w4 ⟨A, rfl, hA, hown, hb4⟩
  clear q3
  go_wp2_with fail
  go_ret
  exact ⟨A, rfl, hA, hown, hb3.trans hb4⟩
end Go.Proofs.YtcbjnifoojjipaaGreatDoor
