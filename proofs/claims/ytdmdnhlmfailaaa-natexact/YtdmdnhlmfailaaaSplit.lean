/- What nat.split does (a contract; nothing is claimed here). -/
import Derived.Test.YtdmdnhlmfailaaaOf
import Derived.Test.YtdmdnhlmfailaaaMathD
namespace Go.Proofs.Ytdmdnhlmfailaaa
open Go.RowKit Go.Vf

/-- Nothing has turned but the block g. -/
structure OnlyAt (g : Nat) (w w' : World) : Prop where
  os : w'.os = w.os
  tape : w'.tape = w.tape
  output : w'.output = w.output
  size : w'.heap.size = w.heap.size
  block : ∀ k, k ≠ g → w'.heap[k]? = w.heap[k]?
theorem OnlyAt.refl (g : Nat) (w : World) : OnlyAt g w w := ⟨rfl, rfl, rfl, rfl, fun _ _ => rfl⟩
theorem OnlyAt.setCell {g : Nat} {a w : World} (h : OnlyAt g a w) (o : Nat) (v : Value) : OnlyAt g a (w.setCell ⟨g, o, none⟩ v) :=
  ⟨h.os, h.tape, h.output, by simp [h.size], fun k hk => (Below.heap_setCell w ⟨g, o, none⟩ v k hk).trans (h.block k hk)⟩
theorem OnlyAt.below {g : Nat} {w w' : World} (h : OnlyAt g w w') : Below g w w' := ⟨h.os, h.tape, h.output, Nat.le_of_eq h.size.symm, fun k hk => h.block k (by omega)⟩
theorem OnlyAt.own {g : Nat} {w w' : World} (h : OnlyAt g w w') {e : TypeId} {base : Nat} {v : Value} {acc : List UInt8} (ho : BOwn e w base v acc) (hb : g < base) : BOwn e w' base v acc := by
  obtain ⟨h1, h2⟩ := ho
  refine ⟨h1, ?_⟩
  rcases h2 with h2 | ⟨k, cap, cur, h3, h4, h5, h6⟩
  · exact .inl h2
  · exact .inr ⟨k, cap, cur, h3, h4, by rw [h.block k (by omega)]; exact h5, h6⟩

set_option maxHeartbeats 1000000 in
theorem split_any (g off n cap : Nat) (pre l : List UInt8) (hp : pre.length = off) (hl : l.length = n) (hn : n ≤ 1000000) (_ho : off ≤ 1000000) (w : World) (hr : BRow w g (pre ++ l)) :
    Calls Try.prog 44 #[.slice (some ⟨g, off, none⟩) n cap] w fun e w' => e = .returned (.int .u64 ((divL 1000000000 0 l).2 : Int)) ∧ BRow w' g (pre ++ (divL 1000000000 0 l).1) ∧ OnlyAt g w w' := by
  obtain ⟨⟨q, C⟩, hqC⟩ : ∃ z, divL 1000000000 0 l = z := ⟨_, rfl⟩
  have hqn := divL_length 1000000000 l 0
  rw [hqC] at hqn ⊢
  simp only at hqn ⊢
  go_enter Try.func44, Try.ntmps44
  go_wp2
  go_loopw [3, 8] (fun x i wr => ∃ k c : Nat, k ≤ n ∧ i = .int .i64 k ∧ x = .int .u64 c ∧ c < 1000000000 ∧ Hid (divL 1000000000 c (l.drop k) = (q.drop k, C)) ∧ BRow wr g (pre ++ (q.take k ++ l.drop k)) ∧ OnlyAt g w wr) (fun _ i _ => n - (intOf i).toNat)
  case atStart => exact ⟨0, 0, Nat.zero_le _, rfl, rfl, by omega, by simpa [Hid] using hqC, by simpa using hr, OnlyAt.refl _ _⟩
  case round =>
    obtain ⟨k, c, hk, rfl, rfl, hc, HQ, hrow, honly⟩ := hrel
    by_cases hlt : k < n
    · obtain ⟨x, hx, hkl⟩ : ∃ x, l[k]'(by omega) = x ∧ l.drop k = x :: l.drop (k + 1) := ⟨_, rfl, List.drop_eq_getElem_cons (by omega)⟩
      have hx255 := x.toNat_lt
      have hq := HQ.out
      rw [hkl, divL, Prod.mk.injEq, List.drop_eq_getElem_cons (show k < q.length by omega), List.cons.injEq] at hq
      obtain ⟨⟨hq1, hq2⟩, hq3⟩ := hq
      have HQ2 : Hid (divL 1000000000 ((c * 256 + x.toNat) % 1000000000) (l.drop (k + 1)) = (q.drop (k + 1), C)) := Prod.ext hq2 hq3
      have hmix := mix_length (a := q) (l := l) hqn k (by omega)
      have hg := mix_get hqn k (by omega) (by omega)
      rw [hx] at hg
      have hcell := hrow.cell (off + k) (by rw [List.length_append]; omega)
      rw [List.getElem_append_right (by omega)] at hcell
      simp only [hp, Nat.add_sub_cancel_left] at hcell
      rw [hg] at hcell
      have hfr := hrow.free (off + k) (by rw [List.length_append]; omega)
      have hst := hrow.set (off + k) (q[k]'(by omega))
      rw [List.set_append_right _ _ (by omega), hp, Nat.add_sub_cancel_left, mix_set hqn k (by omega), ← hq1, UInt8.toNat_ofNat_of_lt' (show (c * 256 + x.toNat) / 1000000000 < 256 by omega)] at hst
      have hon := honly.setCell (off + k) (.int .u8 (((c * 256 + x.toNat) / 1000000000 : Nat) : Int))
      clear hrow hmix hg hq1 hq2 hq3 hkl HQ hqC
      go_wp2
      go_roundw
      case rel => exact ⟨k + 1, (c * 256 + x.toNat) % 1000000000, by omega, by go_num, by go_num, by omega, HQ2, hst, hon⟩
      case measure => simp [intOf]; omega
    · obtain rfl : k = n := by omega
      have hq := HQ.out
      rw [List.drop_of_length_le (by omega), divL] at hq
      obtain rfl : c = C := (Prod.mk.injEq .. ▸ hq).2
      rw [List.take_of_length_le (by omega), List.drop_of_length_le (by omega), List.append_nil] at hrow
      clear HQ hq hqC
      go_wp2
      go_ret
      exact ⟨rfl, hrow, honly⟩
end Go.Proofs.Ytdmdnhlmfailaaa
