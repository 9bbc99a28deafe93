/- What slices.SortFunc of rows does (a contract; nothing is claimed here). -/
import Derived.Test.YtfeppbiodbhpcaaDoorCmpR
import Derived.Test.YtfeppbiodbhpcaaDoorShelfS
namespace Go.Proofs.YtfeppbiodbhpcaaDoor
open Go.RowKit Go.Vf Go.Maps Go.Sort Go.Lib

theorem aheadL_ntrans : ∀ a b c : List Int, ¬ aheadL a b < 0 → ¬ aheadL b c < 0 → ¬ aheadL a c < 0 := by
  intro a
  induction a with
  | nil =>
    intro b c h1 h2
    cases b with
    | nil => exact h2
    | cons y t => simp [aheadL] at h1
  | cons x r ih =>
    intro b c h1 h2
    cases b with
    | nil => cases c with
      | nil => simp [aheadL]
      | cons z u => simp [aheadL] at h2
    | cons y t => cases c with
      | nil => simp [aheadL]
      | cons z u =>
        unfold aheadL at h1 h2 ⊢
        by_cases hxy : x < y
        · rw [if_pos hxy] at h1; exact absurd (by decide) h1
        · rw [if_neg hxy] at h1
          by_cases hyz : y < z
          · rw [if_pos hyz] at h2; exact absurd (by decide) h2
          · rw [if_neg hyz] at h2
            rw [if_neg (by omega)]
            by_cases hzx : z < x
            · rw [if_pos hzx]; decide
            · rw [if_neg hzx]
              rw [if_neg (by omega)] at h1 h2
              exact ih t u h1 h2
theorem swo8 : SWO (ltOf cmp8) where
  irrefl x := by unfold ltOf cmp8; rw [aheadL_self]; rfl
  trans x y z h1 h2 := by
    unfold ltOf cmp8 at *
    rw [decide_eq_true_eq] at *
    exact aheadL_trans _ _ _ h1 h2
  ntrans x y z h1 h2 := by
    unfold ltOf cmp8 at *
    rw [decide_eq_false_iff_not] at *
    exact aheadL_ntrans _ _ _ h1 h2
theorem agg73 : ∀ w, (isAgg 73).run Tryd.prog w = .ok true w := fun w => by kernel_rfl
theorem size73 : ∀ w, (Go.sizeOf 73).run Tryd.prog w = .ok 8 w := fun w => by kernel_rfl
theorem sortRows_any (blk off cap : Nat) (d : Array R8) (w : World) (hH : HoldsK enc8 8 w blk off d) (hblk : blk < w.heap.size) (hsz : d.size < 4611686018427387904) :
    Calls Tryd.prog 64 #[.slice (some ⟨blk, off, none⟩) d.size cap, .func (.func 49) #[] #[]] w fun e w' =>
      e = .returned (.tuple #[]) ∧ ∃ d' n os, PermIn 0 d.size d d' ∧ SortedIn (ltOf cmp8) 0 d.size d' ∧ w' = sortWorldK enc8 8 w blk off n d' os :=
  AnyQ.slices_SortFunc Tryd.sortRow 8 agg73 size73 enc8 enc8_len enc8_one cmp8 swo8 49 #[] blk off cap d w (fun args w => by kernel_rfl) (fun m os dk _ x y => by
    simpa using compRows_any x y (sortWorldK enc8 8 w blk off m dk os)) hH hblk hsz

end Go.Proofs.YtfeppbiodbhpcaaDoor
