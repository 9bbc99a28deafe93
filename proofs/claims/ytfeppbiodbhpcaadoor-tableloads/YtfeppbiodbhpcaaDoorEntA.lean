/- Lists of entries in memory; what dovetaillaw06.heavy does (contracts; nothing is claimed here). -/
import Derived.Test.YtfeppbiodbhpcaaDoorCmp
namespace Go.Proofs.YtfeppbiodbhpcaaDoor
open Go.RowKit Go.Vf Go.Maps

/-- A slice of these entries, in a block that lies here. -/
def EIn (n₀ : Nat) (w : World) (v : Value) (l : List Ent) : Prop :=
  (∃ a cap, v = .slice a 0 cap ∧ l = []) ∨ ∃ b off cap, v = .slice (some ⟨b, off, none⟩) l.length cap ∧ b < n₀ ∧ ∀ j (hj : j < l.length), ∃ pa pc ea ec,
    w.cell? ⟨b, off + j * 2, none⟩ = some (.slice pa l[j].1.length pc) ∧ w.cell? ⟨b, off + j * 2 + 1, none⟩ = some (.slice ea l[j].2.length ec) ∧ Ints n₀ w (.slice pa l[j].1.length pc) l[j].1 ∧ Els n₀ w (.slice ea l[j].2.length ec) l[j].2
theorem EIn.val {n₀ : Nat} {w : World} {v : Value} {l : List Ent} (h : EIn n₀ w v l) : ∃ a cap, v = .slice a l.length cap := by
  rcases h with ⟨a, cap, rfl, rfl⟩ | ⟨b, off, cap, rfl, _⟩
  · exact ⟨a, cap, rfl⟩
  · exact ⟨_, cap, rfl⟩
theorem EIn.below {n₀ n : Nat} {w w' : World} {v : Value} {l : List Ent} (h : EIn n₀ w v l) (hb : Below n w w') (hn : n₀ ≤ n) : EIn n₀ w' v l := by
  rcases h with h | ⟨b, off, cap, e, hlt, hc⟩
  · exact .inl h
  · refine .inr ⟨b, off, cap, e, hlt, fun j hj => ?_⟩
    obtain ⟨pa, pc, ea, ec, h0, h1, h2, h3⟩ := hc j hj
    have q : ∀ k, w'.cell? ⟨b, k, none⟩ = w.cell? ⟨b, k, none⟩ := fun k => hb.cell (p := ⟨b, k, none⟩) (show b < n by omega)
    exact ⟨pa, pc, ea, ec, (q _).trans h0, (q _).trans h1, Ints.below hb hn h2, h3.below hb hn⟩
theorem EIn.at {n₀ : Nat} {w : World} {a : Option Addr} {k cap : Nat} {l : List Ent} (h : EIn n₀ w (.slice a k cap) l) {j : Nat} (hj : j < l.length) : ∃ b off, a = some ⟨b, off, none⟩ ∧ ∃ pa pc ea ec,
    w.cell? ⟨b, off + j * 2, none⟩ = some (.slice pa l[j].1.length pc) ∧ w.cell? ⟨b, off + j * 2 + 1, none⟩ = some (.slice ea l[j].2.length ec) ∧ Ints n₀ w (.slice pa l[j].1.length pc) l[j].1 ∧ Els n₀ w (.slice ea l[j].2.length ec) l[j].2 := by
  rcases h with ⟨a', cap', e, rfl⟩ | ⟨b, off, cap', e, hlt, hc⟩
  · simp at hj
  · cases e
    exact ⟨b, off, rfl, hc j hj⟩

def wtT (l : List Ent) : Nat := (l.map fun x => 1 + x.1.length + x.2.length).sum
theorem wtT_take (l : List Ent) (k : Nat) (hk : k < l.length) : wtT (l.take (k + 1)) = wtT (l.take k) + 1 + (l[k]).1.length + (l[k]).2.length := by
  rw [List.take_succ_eq_append_getElem hk]
  unfold wtT
  rw [List.map_append, List.sum_append]
  simp; omega
theorem wtT_len (l : List Ent) : l.length ≤ wtT l := by
  induction l with
  | nil => simp
  | cons a r ih => simp [wtT] at ih ⊢; omega
theorem wtT_mem {l : List Ent} {x : Ent} (h : x ∈ l) : x.1.length ≤ wtT l ∧ x.2.length ≤ wtT l := by
  obtain ⟨a, b, rfl⟩ := List.append_of_mem h
  simp [wtT]; omega

set_option maxHeartbeats 4000000 in
set_option maxRecDepth 20000 in
theorem heavy_any (l : List Ent) (hll : l.length ≤ 17592186044416) (hpl : ∀ x ∈ l, x.1.length ≤ 17592186044416 ∧ x.2.length ≤ 17592186044416) (v : Value) (n₀ : Nat) (w : World) (hin : EIn n₀ w v l) :
    Calls Tryd.prog 14 #[v] w fun e w' => (e = .returned (.bool true) ∨ (e = .returned (.bool false) ∧ wtT l ≤ 1048576)) ∧ Below w.heap.size w w' := by
  obtain ⟨a, cap, rfl⟩ := hin.val
  go_enter Tryd.func14, Tryd.ntmps14
  go_wp2_with fail
  go_loopw [3, 4] (fun x i wr => ∃ (k s n : Nat), k ≤ l.length ∧ i = .int .i64 k ∧ x = .int .i64 s ∧ Hid (s = wtT (l.take k)) ∧ s ≤ 1048576 ∧ wr = w.drewN n) (fun _ i _ => l.length - (intOf i).toNat)
  case atStart => exact ⟨0, 0, 0, by omega, rfl, rfl, by show _ = _; simp [wtT], by omega, rfl⟩
  case round =>
    obtain ⟨k, s, nd, hk, rfl, rfl, HS, hs, rfl⟩ := hrel
    by_cases hlt : k < l.length
    · obtain ⟨b, off, rfl, pa, pc, ea, ec, c0, c1, _, _⟩ := hin.at hlt
      have hml := hpl _ (List.getElem_mem hlt)
      have HT : Hid (wtT (l.take (k + 1)) = s + 1 + (l[k]).1.length + (l[k]).2.length) := by
        show _ = _
        rw [wtT_take l k hlt, ← HS.out]
      generalize (l[k]).1.length = m1 at c0 hml HT
      generalize (l[k]).2.length = m2 at c1 hml HT
      obtain ⟨hm1, hm2⟩ := hml
      have e1 : IntKind.i64.wrap ((s : Int) + 1) = (s : Int) + 1 := IntWalk.i64_in _ ⟨by omega, by omega⟩
      have e2 : IntKind.i64.wrap ((s : Int) + 1 + (m1 : Int)) = (s : Int) + 1 + (m1 : Int) := IntWalk.i64_in _ ⟨by omega, by omega⟩
      have e3 : IntKind.i64.wrap ((s : Int) + 1 + (m1 : Int) + (m2 : Int)) = (s : Int) + 1 + (m1 : Int) + (m2 : Int) := IntWalk.i64_in _ ⟨by omega, by omega⟩
      go_upto_region 5 with fail
      by_cases hgt : 1048576 < s + 1 + m1 + m2
      · have g1 : decide ((1048576 : Int) < (s : Int) + 1 + (m1 : Int) + (m2 : Int)) = true := by simp; omega
        go_region
        go_wp2_with fail
        go_ret
        exact ⟨.inl rfl, (below_drewN w nd).drew⟩
      · have g1 : decide ((1048576 : Int) < (s : Int) + 1 + (m1 : Int) + (m2 : Int)) = false := by simp; omega
        go_region
        go_wp2_with fail
        go_roundw
        case rel => exact ⟨k + 1, s + 1 + m1 + m2, nd + 1, by omega, by simp, by simp, HT.out.symm, by omega, rfl⟩
        case measure => simp only [intOf]; omega
    · have hkl : k = l.length := by omega
      have hfin : wtT l ≤ 1048576 := by rw [← List.take_length (l := l), ← hkl, ← HS.out]; exact hs
      clear hkl
      go_wp2_with fail
      go_ret
      exact ⟨.inr ⟨rfl, hfin⟩, below_drewN _ _⟩

end Go.Proofs.YtfeppbiodbhpcaaDoor
