/- What (*node).find and (*Shelf).Get do (contracts; nothing is claimed here). -/
import Derived.Test.YtklnnkdcnaieoaaMem
namespace Go.Proofs.Ytklnnkdcnaieoaa
open Go.RowKit Go.Vf

/-- The way to a key. -/
def wayV (b : Nat) : Value := .func (.func 43) #[] #[.pointer (some ⟨b, 0, none⟩)]
/-- What is found. -/
def FndPost (k : ByteArray) (L : List Pr) (w : World) (e : Ending) (w' : World) : Prop := w = w' ∧
  ((e = .returned (.pointer none) ∧ get k L = none) ∨ ∃ b v, e = .returned (.pointer (some ⟨b, 0, none⟩)) ∧ get k L = some v ∧ w.cell? ⟨b, 1, none⟩ = some (.string v))
set_option maxHeartbeats 4000000 in
theorem find_any (T : Tr) (k : ByteArray) (bk : Nat) (w : World) (hT : TAt w T) (hs : Srt T.toL) (hk : w.cell? ⟨bk, 0, none⟩ = some (.string k)) :
    Calls Try.prog 34 #[.pointer T.ptr, .func (.func 43) #[] #[.pointer (some ⟨bk, 0, none⟩)]] w (FndPost k T.toL w) := by
  have HW : Hid (∀ m, Calls Try.prog 43 #[.string m, .pointer (some ⟨bk, 0, none⟩)] w fun e w' => e = .returned (.int .i64 (sd k m)) ∧ w = w') := fun m => toward1_any k m bk w hk
  obtain ⟨L, HL⟩ : ∃ L, Hid (L = T.toL) := ⟨_, rfl⟩
  rw [← HL.out]
  have HT : Hid (TAt w T) := hT
  have HS : Hid (Srt T.toL) := hs
  have HG : Hid (get k T.toL = get k L) := by rw [HL.out]; exact rfl
  clear hT hs hk HL
  go_enter Try.func34, Try.ntmps34
  go_wp2_with fail
  go_loopg [0] (T.toL.length) (fun g p wr => ∃ U : Tr, p = .pointer U.ptr ∧ Hid (g = U.toL.length) ∧ Hid (TAt w U) ∧ Hid (Srt U.toL) ∧ Hid (get k U.toL = get k L) ∧ w = wr)
  case atStart => exact ⟨T, rfl, rfl, HT, HS, HG, rfl⟩
  case round =>
    obtain ⟨U, rfl, hg, hT, hs, hG, rfl⟩ := hrel
    clear HT HS HG
    cases U with
    | leaf =>
      have e0 : Tr.leaf.ptr = none := rfl
      rw [e0]
      go_wp2
      go_ret
      exact ⟨rfl, .inl ⟨rfl, hG.out.symm⟩⟩
    | node b m v l r =>
      have e0 : (Tr.node b m v l r).ptr = some ⟨b, 0, none⟩ := rfl
      rw [e0]
      obtain ⟨c0, c1, c2, c3, _⟩ := hT.out.cells
      go_wp2_with fail
      refine (HW.out m).mono ?_
      rintro e w1 ⟨rfl, rfl⟩
      rcases sd_three k m with h | h | h
      · have hlt : Hid (lt k m = true) := sd_lt.1 (by omega)
        generalize sd k m = s at *
        subst h
        go_wp2
        go_roundg l.toL.length
        case measure =>
          rw [hg.out]
          simp only [Tr.toL, List.length_append, List.length_cons]
          omega
        case rel =>
          exact ⟨l, rfl, rfl, hT.out.2.1, hs.out.parts.1, (get_low hs.out hlt.out).symm.trans hG.out, rfl⟩
      · have hq : Hid (k = m) := sd_eq.1 h
        generalize sd k m = s at *
        subst h
        go_wp2
        go_ret
        refine ⟨rfl, .inr ⟨b, v, rfl, ?_, c1⟩⟩
        have := hG.out
        rw [hq.out] at this ⊢
        rw [← this]
        exact get_here (p := (m, v)) hs.out
      · have hlt : Hid (lt m k = true) := sd_gt.1 (by omega)
        generalize sd k m = s at *
        subst h
        go_wp2
        go_roundg r.toL.length
        case measure =>
          rw [hg.out]
          simp only [Tr.toL, List.length_append, List.length_cons]
          omega
        case rel =>
          exact ⟨r, rfl, rfl, hT.out.2.2, hs.out.parts.2.1, (get_high hs.out hlt.out).symm.trans hG.out, rfl⟩
end Go.Proofs.Ytklnnkdcnaieoaa
