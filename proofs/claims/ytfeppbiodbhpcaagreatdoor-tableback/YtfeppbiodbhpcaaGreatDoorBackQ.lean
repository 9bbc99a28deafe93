/- Why a text is refused; how neighbours stand (plain functions; nothing is claimed here). -/
import Derived.Test.YtfeppbiodbhpcaaGreatDoorBackP
namespace Go.Proofs.YtfeppbiodbhpcaaGreatDoor
open Go.RowKit Go.Vf Go.Maps

theorem tabL_why : ∀ (C : List (List UInt8)) (n : Int) (acc : List Ent) (why line : Int), tabL C n acc = .error (why, line) → why = 60 ∨ why = 61 ∨ why = 2 ∨ why = 62 := by
  intro C
  induction C with
  | nil => intro n acc why line h; simp [tabL] at h
  | cons s r ih =>
    intro n acc why line h
    unfold tabL at h
    split at h
    · exact ih _ _ _ _ h
    · split at h
      · cases h; exact .inl rfl
      · split at h
        · split at h
          · cases h; exact .inr (.inl rfl)
          · split at h
            · cases h; exact .inr (.inr (.inl rfl))
            · exact ih _ _ _ _ h
        · cases h; exact .inr (.inr (.inr rfl))
theorem loadT_why {s : List UInt8} {why line : Int} (h : loadT s = .error (why, line)) : why = 60 ∨ why = 61 ∨ why = 2 ∨ why = 62 := by
  unfold loadT at h
  split at h
  · cases h; exact .inr (.inr (.inl rfl))
  · exact tabL_why _ _ _ _ _ h
theorem rise_at {es : List Ent} (h : RiseE es) {j : Nat} (h0 : 0 < j) (hj : j < es.length) : aheadL (es[j - 1]'(by omega)).1 es[j].1 < 0 := by
  unfold RiseE at h
  exact List.pairwise_iff_getElem.1 h (j - 1) j (by omega) hj (by omega)
end Go.Proofs.YtfeppbiodbhpcaaGreatDoor
