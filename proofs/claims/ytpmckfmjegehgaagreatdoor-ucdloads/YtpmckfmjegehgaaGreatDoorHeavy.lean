/- What dovetaillaw04.heavy does (a contract; nothing is claimed here). -/
import Derived.Test.YtpmckfmjegehgaaGreatDoorPrint
namespace Go.Proofs.YtpmckfmjegehgaaGreatDoor
open Go.RowKit Go.Vf Go.Maps

def wtM (l : List PM) : Nat := (l.map fun m => 1 + m.parts.length).sum
theorem wtM_take (l : List PM) (k : Nat) (hk : k < l.length) : wtM (l.take (k + 1)) = wtM (l.take k) + 1 + (l[k]).parts.length := by
  rw [List.take_succ_eq_append_getElem hk]
  unfold wtM
  rw [List.map_append, List.sum_append]
  simp; omega
theorem wtM_len (l : List PM) : l.length ≤ wtM l := by
  induction l with
  | nil => simp
  | cons a r ih => simp [wtM] at ih ⊢; omega
theorem wtM_parts {l : List PM} {m : PM} (h : m ∈ l) : m.parts.length ≤ wtM l := by
  obtain ⟨a, b, rfl⟩ := List.append_of_mem h
  simp [wtM]; omega

set_option maxHeartbeats 4000000 in
set_option maxRecDepth 20000 in
theorem heavy_any (l : List PM) (hll : l.length ≤ 17592186044416) (hpl : ∀ m ∈ l, m.parts.length ≤ 17592186044416) (v : Value) (n₀ : Nat) (w : World) (hin : MIn n₀ w v l) :
    Calls Tryz.prog 14 #[v] w fun e w' => (e = .returned (.bool true) ∨ (e = .returned (.bool false) ∧ wtM l ≤ 1048576)) ∧ Below w.heap.size w w' := by
  obtain ⟨a, cap, rfl⟩ := hin.val
  go_enter Tryz.func14, Tryz.ntmps14
  go_wp2_with fail
  go_loopw [3, 4] (fun x i wr => ∃ (k s : Nat), k ≤ l.length ∧ i = .int .i64 k ∧ x = .int .i64 s ∧ Hid (s = wtM (l.take k)) ∧ s ≤ 1048576 ∧ wr = w) (fun _ i _ => l.length - (intOf i).toNat)
  case atStart => exact ⟨0, 0, by omega, rfl, rfl, by show _ = _; simp [wtM], by omega, rfl⟩
  case round =>
    obtain ⟨k, s, hk, rfl, rfl, HS, hs, rfl⟩ := hrel
    by_cases hlt : k < l.length
    · obtain ⟨b, off, rfl, pa, pk, pc, c0, c1, c2, hpi⟩ := hin.at hlt
      have hml := hpl _ (List.getElem_mem hlt)
      have HT : Hid (wtM (l.take (k + 1)) = s + 1 + (l[k]).parts.length) := by
        show _ = _
        rw [wtM_take l k hlt, ← HS.out]
      generalize l[k] = mm at c0 c1 c2 hpi hml HT
      obtain ⟨_, _, e⟩ := hpi.val
      cases e
      by_cases hgt : 1048576 < s + 1 + mm.parts.length
      · go_wp2_with fail
        go_ret
        exact ⟨.inl rfl, Below.refl _ _⟩
      · go_wp2_with fail
        go_roundw
        case rel => exact ⟨k + 1, s + 1 + mm.parts.length, by omega, by go_num, by go_num, HT.out.symm, by omega, trivial⟩
        case measure => simp only [intOf]; omega
    · obtain rfl : k = l.length := by omega
      go_wp2_with fail
      go_ret
      exact ⟨.inr ⟨rfl, by rw [← List.take_length (l := l), ← HS.out]; exact hs⟩, Below.refl _ _⟩

end Go.Proofs.YtpmckfmjegehgaaGreatDoor
