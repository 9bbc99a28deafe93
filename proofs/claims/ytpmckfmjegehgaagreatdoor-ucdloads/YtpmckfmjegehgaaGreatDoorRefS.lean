/- What dovetailref04.Data's place does (a contract; nothing is claimed here). -/
import Derived.Test.YtpmckfmjegehgaaGreatDoorRefM
namespace Go.Proofs.YtpmckfmjegehgaaGreatDoor
open Go.RowKit Go.Vf Go.Maps

/-- Where a point stands, or would stand. -/
structure PlaceAt (l : List PM) (p : Int) (k : Nat) : Prop where
  le : k ≤ l.length
  lo : ∀ i (h : i < l.length), i < k → (l[i]).point < p
  hi : ∀ i (h : i < l.length), k ≤ i → p ≤ (l[i]).point
def PlacePost (l : List PM) (p : Int) (w : World) (e : Ending) (w' : World) : Prop := ∃ (k : Nat) (b : Bool), PlaceAt l p k ∧ e = .returned (.tuple #[.int .i64 k, .bool b]) ∧ ((b = true ∧ ∃ h : k < l.length, (l[k]).point = p) ∨ (b = false ∧ ∀ i (h : i < l.length), (l[i]).point ≠ p)) ∧ Below w.heap.size w w'
theorem results32_run {tmps : Array Value} {w : World} {a b : Value} (t2 : tmps[4]?.getD undef = a) (t3 : tmps[5]?.getD undef = b) : (results Tryz.f32 tmps).run Tryz.prog w = .ok (.tuple #[a, b]) w := by
  simp [results, Tryz.results32, go_sem, t2, t3]
theorem rise_at {l : List PM} (h : (l.map PM.point).Pairwise (· < ·)) {i j : Nat} (hi : i < l.length) (hj : j < l.length) (hij : i < j) : (l[i]).point < (l[j]).point := by
  have := List.pairwise_iff_getElem.1 h i j (by simpa using hi) (by simpa using hj) hij
  simpa using this

set_option maxHeartbeats 4000000 in
set_option maxRecDepth 20000 in
theorem refPlace_any (l : List PM) (hrise : (l.map PM.point).Pairwise (· < ·)) (hll : l.length ≤ 1048576) (v : Value) (p : Int) (n₀ : Nat) (w : World) (hn₀ : n₀ ≤ w.heap.size) (hin : MIn n₀ w v l) :
    Calls Tryz.prog 32 #[.agg #[v], .int .i64 p] w fun e w' => PlacePost l p w e w' := by
  obtain ⟨a, cap, rfl⟩ := hin.val
  have hb0 := (Below.refl w.heap.size w).alloc (Nat.le_refl _) (.cells #[.slice a l.length cap] 29)
  have hbn := Blk.new w 29 #[.slice a l.length cap]
  have hin0 := hin.below hb0 hn₀
  go_enter Tryz.func32, Tryz.ntmps32
  go_upto_region 1 with fail
  generalize w.alloc (.cells #[.slice a l.length cap] 29) = W at hb0 hbn hin0 ⊢
  have e0 : W.cell? ⟨w.heap.size, 0, none⟩ = some (.slice a l.length cap) := hbn.cell 0
  go_wp2_with fail
  go_loopw [6, 7, 8] (fun x y _ wr => ∃ (lo hi : Nat), lo ≤ hi ∧ hi ≤ l.length ∧ x = .int .i64 lo ∧ y = .int .i64 hi ∧ Hid ((∀ i (h : i < l.length), i < lo → (l[i]).point < p) ∧ (∀ i (h : i < l.length), hi ≤ i → p ≤ (l[i]).point)) ∧ wr = W) (fun x y _ _ => (intOf y).toNat - (intOf x).toNat)
  case atStart => exact ⟨0, l.length, by omega, by omega, rfl, rfl, ⟨fun i h h2 => absurd h2 (by omega), fun i h h2 => absurd h (by omega)⟩, rfl⟩
  case round =>
    obtain ⟨lo, hi, hle, hhi, rfl, rfl, HI, rfl⟩ := hrel
    by_cases hlt : lo < hi
    · have hmid : (lo + hi) / 2 < l.length := by omega
      obtain ⟨b, off, hao, pa, pk, pc, c0, _⟩ := hin0.at hmid
      subst hao
      have HL : Hid (∀ i (h : i < l.length), i < (lo + hi) / 2 + 1 → (l[i]).point < p ∨ (l[(lo + hi) / 2]).point ≥ p) := fun i h h2 => by
        by_cases hp : (l[(lo + hi) / 2]).point < p
        · left
          rcases Nat.lt_or_ge i ((lo + hi) / 2) with h3 | h3
          · have := rise_at hrise h hmid h3; omega
          · obtain rfl : i = (lo + hi) / 2 := by omega
            exact hp
        · right; omega
      have HH : Hid (∀ i (h : i < l.length), (lo + hi) / 2 ≤ i → p ≤ (l[i]).point ∨ (l[(lo + hi) / 2]).point < p) := fun i h h2 => by
        by_cases hp : (l[(lo + hi) / 2]).point < p
        · right; exact hp
        · left
          rcases Nat.lt_or_ge ((lo + hi) / 2) i with h3 | h3
          · have := rise_at hrise hmid h h3; omega
          · obtain rfl : i = (lo + hi) / 2 := by omega
            omega
      generalize (l[(lo + hi) / 2]).point = pt at c0 HL HH
      have hm1 : lo ≤ (lo + hi) / 2 ∧ (lo + hi) / 2 < hi := by omega
      obtain ⟨M, hM⟩ : ∃ M, (lo + hi) / 2 = M := ⟨_, rfl⟩
      have hMi : ((lo : Int) + (hi : Int)) / 2 = (M : Int) := by omega
      rw [hM] at c0 HL HH hm1 hmid
      by_cases hp : pt < p
      · have HI2 : Hid ((∀ i (h : i < l.length), i < M + 1 → (l[i]).point < p) ∧ (∀ i (h : i < l.length), hi ≤ i → p ≤ (l[i]).point)) := ⟨fun i h h2 => (HL.out i h h2).resolve_right (by omega), HI.out.2⟩
        clear HI HL HH hM
        go_wp2_with fail
        exact ⟨⟨M + 1, hi, by omega, by omega, by go_num, rfl, HI2, trivial⟩, by simp only [intOf]; omega⟩
      · have HI2 : Hid ((∀ i (h : i < l.length), i < lo → (l[i]).point < p) ∧ (∀ i (h : i < l.length), M ≤ i → p ≤ (l[i]).point)) := ⟨HI.out.1, fun i h h2 => (HH.out i h h2).resolve_right hp⟩
        clear HI HL HH hM
        go_wp2_with fail
        exact ⟨⟨lo, M, by omega, by omega, rfl, congrArg (Value.int .i64) hMi, HI2, trivial⟩, by simp only [intOf]; omega⟩
    · obtain rfl : hi = lo := by omega
      have HPA : Hid (PlaceAt l p hi) := ⟨hhi, HI.out.1, HI.out.2⟩
      clear HI
      by_cases hk : hi < l.length
      · obtain ⟨b, off, hao, pa, pk, pc, c0, _⟩ := hin0.at hk
        subst hao
        obtain ⟨pt, hpt⟩ : ∃ pt, (l[hi]).point = pt := ⟨_, rfl⟩
        have HPT : Hid ((l[hi]).point = pt) := hpt
        rw [hpt] at c0
        clear hpt
        have d1 : decide ((hi : Int) < (l.length : Int)) = true := by simp; omega
        by_cases hp : pt = p
        · have d2 : (pt == p) = true := by simp [hp]
          have HY : Hid (∃ h : hi < l.length, (l[hi]).point = p) := ⟨hk, by rw [HPT.out, hp]⟩
          clear hp
          go_wp2_with fail
          go_quiet (fail)
          go_wp2
          refine bodyPost_ret (results32_run rfl rfl) rfl ?_
          exact ⟨hi, true, HPA.out, rfl, .inl ⟨rfl, HY.out⟩, hb0.trans (below_drewN wr _ _)⟩
        · have d2 : (pt == p) = false := by simp [hp]
          have HN : Hid (∀ i (h : i < l.length), (l[i]).point ≠ p) := fun i h e => by
            rcases Nat.lt_or_ge i hi with h1 | h1
            · have := HPA.out.lo i h h1; omega
            · rcases Nat.lt_or_ge hi i with h2 | h2
              · have h3 := rise_at hrise hk h h2
                have h4 := HPA.out.hi hi hk (Nat.le_refl _)
                omega
              · obtain rfl : i = hi := by omega
                exact hp (HPT.out.symm.trans e)
          clear hp
          go_wp2_with fail
          go_quiet (fail)
          go_wp2
          refine bodyPost_ret (results32_run rfl rfl) rfl ?_
          exact ⟨hi, false, HPA.out, rfl, .inr ⟨rfl, HN.out⟩, hb0.trans (below_drewN wr _ _)⟩
      · have d1 : decide ((hi : Int) < (l.length : Int)) = false := by simp; omega
        have HN : Hid (∀ i (h : i < l.length), (l[i]).point ≠ p) := fun i h e => by
          have := HPA.out.lo i h (by omega); omega
        go_wp2_with fail
        go_quiet (fail)
        go_wp2
        refine bodyPost_ret (results32_run rfl rfl) rfl ?_
        exact ⟨hi, false, HPA.out, rfl, .inr ⟨rfl, HN.out⟩, hb0.trans (below_drewN wr _ _)⟩

end Go.Proofs.YtpmckfmjegehgaaGreatDoor
