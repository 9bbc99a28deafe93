/- What the listed variables hold when a call begins gives the walks their cells (nothing is claimed here). -/
import Derived.Test.YtnjfkijekohdkaaDoorKLay
import Derived.Test.YtnjfkijekohdkaaDoorKErr
import Derived.Stop.LaidErr
namespace Go.Proofs.YtnjfkijekohdkaaDoor
open Go.RowKit Go.Vf Go.Extern.Stop Go.Stop Go.Extern

theorem et_at : Tryd.prog.globalNamed "errors.errorType" = some 0 := by kernel_rfl
theorem et_rtype : (Tryd.prog.cutTypes.find? (·.1 == "internal/reflectlite.rtype")).map (·.2) = some 122 := by kernel_rfl
theorem et_size : Tryd.prog.types.size = 171 := by kernel_rfl
theorem et_one : ((List.range 171).filter fun t => Tryd.prog.rowNamed t [101, 114, 114, 111, 114]) = [44] := by kernel_rfl
theorem ni_at : Tryd.prog.globalNamed "dovetail/rekey.errNoItem" = some 1 := by kernel_rfl
theorem ni_type : (Tryd.prog.globals[1]?).map (·.type) = some 44 := by kernel_rfl
theorem ni_row (u : TypeId) (h : Tryd.prog.typeName? 3 u = some "*errors.errorString") : u = 137 :=
  typeName_ptr_named (nm := "errors.errorString") (by rw [show "*" ++ "errors.errorString" = "*errors.errorString" by decide]; kernel_rfl) (by kernel_rfl) (by decide) u (by rw [show "*" ++ "errors.errorString" = "*errors.errorString" by decide]; exact h)
theorem ni_cells : Tryd.prog.cellsOf 159 = 1 := by kernel_rfl
theorem ni_cells9 : Tryd.prog.cellsOf 9 = 1 := by kernel_rfl

/-- WHAT THE CONDITIONS GIVE THE WALKS. -/
theorem env_of_laid {W : World} (h : laidMetH Tryd.prog laidK W) : ∃ en, EnvK W en := by
  have h' : laidMet Tryd.prog [("dovetail/rekey.errNoItem", Rows.laid_dovetail_rekey_errNoItem)] W ∧ handlesMet Tryd.prog [("errors.errorType", Rows.laid_errors_errorType)] W := h
  obtain ⟨name, u, ty, e1, e2, e3, e4, e5⟩ := h'.2 _ (List.mem_singleton.2 rfl)
  have en : name = [101, 114, 114, 111, 114] := (Option.some.inj e1).symm
  subst en
  obtain rfl := Option.some.inj (et_rtype.symm.trans e2)
  have hm : ty ∈ (List.range 171).filter fun t => Tryd.prog.rowNamed t [101, 114, 114, 111, 114] := List.mem_filter.2 ⟨List.mem_range.2 (by rw [← et_size]; exact e3), e4⟩
  rw [et_one] at hm
  obtain rfl := List.mem_singleton.1 hm
  have hh : typeHandle Tryd.prog 44 = .pointer (some ⟨2, 44, none⟩) := by kernel_rfl
  rw [hh] at e5
  obtain ⟨a1, s1, hv1, _, _, _⟩ := laid_sentinel h'.1 ni_at ni_type Tryd.underlying44 ni_row Tryd.underlying137 Tryd.underlying159 rfl rfl Tryd.underlying9 ni_cells ni_cells9
  exact ⟨a1, by simpa using World.var?_cell et_at e5 0, by simpa using World.var?_cell ni_at hv1 0⟩
end Go.Proofs.YtnjfkijekohdkaaDoor
