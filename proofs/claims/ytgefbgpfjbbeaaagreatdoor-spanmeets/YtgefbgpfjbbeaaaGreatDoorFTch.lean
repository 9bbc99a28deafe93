/- A list of fields that the tour finds right; the two fields of the document's example of spans (lemmas; nothing is claimed here). -/
import Derived.Test.YtgefbgpfjbbeaaaGreatDoorJ8
import Derived.Test.YtgefbgpfjbbeaaaGreatDoorFRaw
import Derived.Test.YtgefbgpfjbbeaaaGreatDoorMade
namespace Go.Proofs.YtgefbgpfjbbeaaaGreatDoor
open Go.RowKit Go.Vf

theorem tour_chkS {Q : Go.Vf.Own → Bool} {limit : Int} {l : List Fld} {m : Nat} (h : tourL Q [] [] 0 l = .ok m) (h1 : 1 ≤ limit) (h2 : limit ≤ 65536) (hl : l ≠ []) : (chkS Q limit l).1 = 0 := by
  unfold chkS
  rw [if_neg (by omega), if_neg hl, h]
def oA : Go.Vf.Own := ⟨⟨#[97]⟩, 2, false, 0, false, false, ⟨#[]⟩, false, ⟨#[]⟩, 0, 0, false, false⟩
def oB : Go.Vf.Own := ⟨⟨#[98]⟩, 3, false, 0, false, false, ⟨#[]⟩, false, ⟨#[]⟩, 9, 0, false, false⟩
theorem oA_chk : (chkS bndQ 65536 [.mk oA []]).1 = 0 := by
  have h1 : seeF bndQ 1 1 [] (.mk oA []) = 0 := by decide
  have t1 : tourL bndQ [] [] 0 [.mk oA []] = .ok 1 := by
    rw [tourL_on bndQ [] [] 0 (.mk oA []) [] h1 (tourL_nil _ _ _ _), tourL_nil]
  exact tour_chkS t1 (by decide) (by decide) (by simp)
theorem oB_chk : (chkS bndQ 65536 [.mk oB []]).1 = 0 := by
  have h1 : seeF bndQ 1 1 [] (.mk oB []) = 0 := by decide
  have t1 : tourL bndQ [] [] 0 [.mk oB []] = .ok 1 := by
    rw [tourL_on bndQ [] [] 0 (.mk oB []) [] h1 (tourL_nil _ _ _ _), tourL_nil]
  exact tour_chkS t1 (by decide) (by decide) (by simp)
theorem oAB_chk : (chkS bndQ 64 [.mk oA [], .mk oB []]).1 = 0 := by
  have h1 : seeF bndQ 1 1 [] (.mk oA []) = 0 := by decide
  have h2 : seeF bndQ 1 2 [.mk oA []] (.mk oB []) = 0 := by decide
  have t1 : tourL bndQ [] [] 0 [.mk oA [], .mk oB []] = .ok (0 + 1 + 1) := by
    rw [tourL_on bndQ [] [] 0 (.mk oA []) [.mk oB []] h1 (tourL_nil _ _ _ _), tourL_on bndQ [] ([] ++ [Fld.mk oA []] : List Fld) (0 + 1) (.mk oB []) [] h2 (tourL_nil _ _ _ _), tourL_nil]
  exact tour_chkS t1 (by decide) (by decide) (by simp)
theorem oA_fits : FitsF 17179869184 (.mk oA []) :=
  .mk ⟨by decide, by decide, by decide, by decide, by decide, by decide, by decide, by decide, by decide, by decide, by decide⟩ (by simp [Fld.fields]) (fun y hy => by cases hy)
theorem oB_fits : FitsF 17179869184 (.mk oB []) :=
  .mk ⟨by decide, by decide, by decide, by decide, by decide, by decide, by decide, by decide, by decide, by decide, by decide⟩ (by simp [Fld.fields]) (fun y hy => by cases hy)
/-- fit.Field at the first field: the number is one of its own. -/
theorem fitA (x : UInt8) (hx : x = 1) (w : World) : Calls Tryz.prog 65 #[fV oA none 0 0, .iface 106 (.agg #[.bool false, .string ⟨#[x]⟩])] w fun e w' => e = .returned .nilIface ∧ Below w.heap.size w w' := by
  subst hx
  have h := fitField_of (.mk oA []) oA_fits none 0 0 0 (Nat.le_refl _) (.iface 106 (.agg #[.bool false, .string ⟨#[1]⟩])) w (Nat.zero_le _) .nil none (fun _ W _ => by
    have h := unfit_num oA none 0 0 false ⟨#[1]⟩ rfl (by decide) (by decide) (by decide) (by decide) (fun h => by cases h) W
    exact h)
  rw [oA_chk] at h
  refine h.mono ?_
  rintro e w' ⟨hb, he⟩
  exact ⟨he, hb⟩
/-- fit.Field at the second: bytes. -/
theorem fitB (w : World) : Calls Tryz.prog 65 #[fV oB none 0 0, .iface 111 (.agg #[.int .u8 3, .string ⟨#[]⟩])] w fun e w' => e = .returned .nilIface ∧ Below w.heap.size w w' := by
  have h := fitField_of (.mk oB []) oB_fits none 0 0 0 (Nat.le_refl _) (.iface 111 (.agg #[.int .u8 3, .string ⟨#[]⟩])) w (Nat.zero_le _) .nil none (fun _ W _ => unfit_bytes oB none 0 0 ⟨#[]⟩ rfl (by decide) W)
  rw [oB_chk] at h
  refine h.mono ?_
  rintro e w' ⟨hb, he⟩
  exact ⟨he, hb⟩

end Go.Proofs.YtgefbgpfjbbeaaaGreatDoor
