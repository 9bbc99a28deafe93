/- What dovetailref03's long, second, One do (contracts; nothing is claimed here). -/
import Derived.Test.YtjlgmoakdaeinaaDoorPoint
namespace Go.Proofs.YtjlgmoakdaeinaaDoor
open Go.RowKit Go.Vf

/-- How many bytes a character has that begins so. -/
def longN (c : Nat) : Nat := match rowB c with
  | some k => (utab k).size
  | none => 0

theorem longN_cases (c : Nat) : (c ≤ 127 ∧ longN c = 1) ∨ (194 ≤ c ∧ c ≤ 223 ∧ longN c = 2) ∨ (224 ≤ c ∧ c ≤ 239 ∧ longN c = 3) ∨ (240 ≤ c ∧ c ≤ 244 ∧ longN c = 4) ∨ ((127 < c ∧ c < 194 ∨ 244 < c) ∧ longN c = 0) := by
  unfold longN
  cases h : rowB c with
  | none =>
    refine .inr (.inr (.inr (.inr ⟨?_, rfl⟩)))
    refine Classical.byContradiction fun hn => ?_
    have hc : ∃ k, k < 9 ∧ (utab k).first ≤ c ∧ c ≤ (utab k).last := by
      have : c ≤ 127 ∨ (194 ≤ c ∧ c ≤ 223) ∨ c = 224 ∨ (225 ≤ c ∧ c ≤ 236) ∨ c = 237 ∨ (238 ≤ c ∧ c ≤ 239) ∨ c = 240 ∨ (241 ≤ c ∧ c ≤ 243) ∨ c = 244 := by omega
      rcases this with h | h | h | h | h | h | h | h | h
      · exact ⟨0, by decide, by simp only [utab]; omega, by simp only [utab]; omega⟩
      · exact ⟨1, by decide, by simp only [utab]; omega, by simp only [utab]; omega⟩
      · exact ⟨2, by decide, by simp only [utab]; omega, by simp only [utab]; omega⟩
      · exact ⟨3, by decide, by simp only [utab]; omega, by simp only [utab]; omega⟩
      · exact ⟨4, by decide, by simp only [utab]; omega, by simp only [utab]; omega⟩
      · exact ⟨5, by decide, by simp only [utab]; omega, by simp only [utab]; omega⟩
      · exact ⟨6, by decide, by simp only [utab]; omega, by simp only [utab]; omega⟩
      · exact ⟨7, by decide, by simp only [utab]; omega, by simp only [utab]; omega⟩
      · exact ⟨8, by decide, by simp only [utab]; omega, by simp only [utab]; omega⟩
    obtain ⟨k, hk, h1, h2⟩ := hc
    rw [rowB_hit hk h1 h2] at h
    cases h
  | some k =>
    obtain ⟨hk, h1, h2⟩ := rowB_lt h
    rcases cases_nine hk with rfl | rfl | rfl | rfl | rfl | rfl | rfl | rfl | rfl <;> simp only [utab] at h1 h2 <;>
      first | exact .inl ⟨by omega, rfl⟩ | exact .inr (.inl ⟨by omega, by omega, rfl⟩) | exact .inr (.inr (.inl ⟨by omega, by omega, rfl⟩)) | exact .inr (.inr (.inr (.inl ⟨by omega, by omega, rfl⟩)))

set_option maxHeartbeats 400000 in
theorem long_any (c : Nat) (w : World) : Calls Tryd.prog 30 #[.int .i64 (c : Int)] w fun e w' => e = .returned (.int .i64 (longN c : Int)) ∧ w = w' := by
  rcases longN_cases c with ⟨h1, e⟩ | ⟨h1, h2, e⟩ | ⟨h1, h2, e⟩ | ⟨h1, h2, e⟩ | ⟨h1, e⟩
  · rw [e]
    go_enter Tryd.func30, Tryd.ntmps30
    go_wp2
    go_ret
    exact ⟨rfl, rfl⟩
  · rw [e]
    have a1 : ¬ c ≤ 127 := by omega
    clear e
    go_enter Tryd.func30, Tryd.ntmps30
    go_wp2
    go_ret
    exact ⟨rfl, rfl⟩
  · rw [e]
    have a1 : ¬ c ≤ 127 := by omega
    have a2 : ¬ c ≤ 223 := by omega
    clear e
    go_enter Tryd.func30, Tryd.ntmps30
    go_wp2
    go_ret
    exact ⟨rfl, rfl⟩
  · rw [e]
    have a1 : ¬ c ≤ 127 := by omega
    have a2 : ¬ c ≤ 223 := by omega
    have a3 : ¬ c ≤ 239 := by omega
    clear e
    go_enter Tryd.func30, Tryd.ntmps30
    go_wp2
    go_ret
    exact ⟨rfl, rfl⟩
  · rw [e]
    have a1 : ¬ c ≤ 127 := by omega
    clear e
    rcases h1 with ⟨_, h1⟩ | h1
    · have a2 : ¬ 194 ≤ c := by omega
      have a3 : ¬ 224 ≤ c := by omega
      have a4 : ¬ 240 ≤ c := by omega
      go_enter Tryd.func30, Tryd.ntmps30
      go_wp2
      go_ret
      exact ⟨rfl, rfl⟩
    · have a2 : ¬ c ≤ 223 := by omega
      have a3 : ¬ c ≤ 239 := by omega
      have a4 : ¬ c ≤ 244 := by omega
      go_enter Tryd.func30, Tryd.ntmps30
      go_wp2
      go_ret
      exact ⟨rfl, rfl⟩

/-- May a byte be the second one behind a first one? -/
theorem second_any (c b k : Nat) (hk : rowB c = some k) (hz : 2 ≤ (utab k).size) (w : World) :
    Calls Tryd.prog 31 #[.int .i64 (c : Int), .int .i64 (b : Int)] w fun e w' => e = .returned (.bool (decide ((utab k).low ≤ b) && decide (b ≤ (utab k).high))) ∧ w = w' := by
  obtain ⟨hk9, h1, h2⟩ := rowB_lt hk
  obtain ⟨R, HR⟩ : ∃ R, Hid (R = (decide ((utab k).low ≤ b) && decide (b ≤ (utab k).high))) := ⟨_, rfl⟩
  rw [← HR.out]
  have fin : ∀ (lo hi : Nat), (utab k).low = lo → (utab k).high = hi → R = (decide (lo ≤ b) && decide (b ≤ hi)) := fun lo hi e1 e2 => by rw [HR.out, e1, e2]
  have hcase : (c ≠ 0xe0 ∧ c ≠ 0xed ∧ c ≠ 0xf0 ∧ c ≠ 0xf4 ∧ (utab k).low = 128 ∧ (utab k).high = 191) ∨ (c = 0xe0 ∧ (utab k).low = 160 ∧ (utab k).high = 191) ∨ (c = 0xed ∧ (utab k).low = 128 ∧ (utab k).high = 159) ∨ (c = 0xf0 ∧ (utab k).low = 144 ∧ (utab k).high = 191) ∨ (c = 0xf4 ∧ (utab k).low = 128 ∧ (utab k).high = 143) := by
    rcases cases_nine hk9 with rfl | rfl | rfl | rfl | rfl | rfl | rfl | rfl | rfl <;> simp only [utab] at h1 h2 hz <;>
      first | omega | exact .inl ⟨by omega, by omega, by omega, by omega, rfl, rfl⟩ | exact .inr (.inl ⟨by omega, rfl, rfl⟩) | exact .inr (.inr (.inl ⟨by omega, rfl, rfl⟩)) | exact .inr (.inr (.inr (.inl ⟨by omega, rfl, rfl⟩))) | exact .inr (.inr (.inr (.inr ⟨by omega, rfl, rfl⟩)))
  clear HR h1 h2 hk hz
  rcases hcase with ⟨n1, n2, n3, n4, e1, e2⟩ | ⟨rfl, e1, e2⟩ | ⟨rfl, e1, e2⟩ | ⟨rfl, e1, e2⟩ | ⟨rfl, e1, e2⟩
  · have hR := fin _ _ e1 e2
    have m1 : ((c : Int) == 224) = false := by simp; omega
    have m2 : ((c : Int) == 237) = false := by simp; omega
    have m3 : ((c : Int) == 240) = false := by simp; omega
    have m4 : ((c : Int) == 244) = false := by simp; omega
    clear fin e1 e2
    by_cases l1 : 128 ≤ b <;> by_cases l2 : b ≤ 191 <;>
    · go_enter Tryd.func31, Tryd.ntmps31
      go_wp2
      all_goals go_ret
      all_goals exact ⟨by first | rfl | (rw [hR]; simp [l1, l2]; done) | (rw [hR]; simp [l1, l2]; omega), rfl⟩
  all_goals
    have hR := fin _ _ e1 e2
    clear fin e1 e2
  · by_cases l1 : 160 ≤ b <;> by_cases l2 : b ≤ 191 <;>
    · go_enter Tryd.func31, Tryd.ntmps31
      go_wp2
      all_goals go_ret
      all_goals exact ⟨by first | rfl | (rw [hR]; simp [l1, l2]; done) | (rw [hR]; simp [l1, l2]; omega), rfl⟩
  · by_cases l1 : 128 ≤ b <;> by_cases l2 : b ≤ 159 <;>
    · go_enter Tryd.func31, Tryd.ntmps31
      go_wp2
      all_goals go_ret
      all_goals exact ⟨by first | rfl | (rw [hR]; simp [l1, l2]; done) | (rw [hR]; simp [l1, l2]; omega), rfl⟩
  · by_cases l1 : 144 ≤ b <;> by_cases l2 : b ≤ 191 <;>
    · go_enter Tryd.func31, Tryd.ntmps31
      go_wp2
      all_goals go_ret
      all_goals exact ⟨by first | rfl | (rw [hR]; simp [l1, l2]; done) | (rw [hR]; simp [l1, l2]; omega), rfl⟩
  · by_cases l1 : 128 ≤ b <;> by_cases l2 : b ≤ 143 <;>
    · go_enter Tryd.func31, Tryd.ntmps31
      go_wp2
      all_goals go_ret
      all_goals exact ⟨by first | rfl | (rw [hR]; simp [l1, l2]; done) | (rw [hR]; simp [l1, l2]; omega), rfl⟩


/-- What One tells of a text's beginning. -/
def oneN (l : List UInt8) : Nat × Nat := match rowB (l[0]?.getD 0).toNat with
  | some k => if wholeL k l then (accL (l.take (utab k).size) (utab k).size, (utab k).size) else (0, 0)
  | none => (0, 0)

theorem oneN_enc {p : Nat} (hp : IsPt p) (t : List UInt8) : oneN (enc p ++ t) = (p, (enc p).length) := by
  obtain ⟨k, hk, h1, _, h2, h3, h4⟩ := enc_row hp t
  have h0 : (enc p ++ t)[0]?.getD 0 = (enc p)[0]?.getD 0 := by rw [List.getElem?_append_left (enc_pos p)]
  unfold oneN
  rw [h0, h1]
  simp only [h3, if_true]
  rw [h2, List.take_left, h4]

theorem oneN_none {l : List UInt8} (h : noChar l) : oneN l = (0, 0) := by
  unfold oneN
  cases hr : rowB (l[0]?.getD 0).toNat with
  | none => rfl
  | some k => simp [h.2 k hr]

theorem tail_all {l : List UInt8} {z : Nat} (h : z ≤ l.length) : ((l.take z).drop 2).all tailB = true ↔ ∀ i, 2 ≤ i → i < z → tailB (l[i]?.getD 0) = true := by
  have hi : ∀ i, 2 ≤ i → i < z → ((l.take z).drop 2)[i - 2]? = l[i]? := fun i h1 h2 => by
    rw [List.getElem?_drop, List.getElem?_take, if_pos (by omega)]
    congr 1
    omega
  rw [List.all_eq_true]
  constructor
  · intro ha i h1 h2
    have hm : l[i]?.getD 0 ∈ (l.take z).drop 2 := by
      have h3 := hi i h1 h2
      rw [List.getElem?_eq_getElem (show i < l.length by omega)] at h3
      rw [List.getElem?_eq_getElem (show i < l.length by omega)]
      exact List.mem_of_getElem? h3
    exact ha _ hm
  · intro ha x hx
    obtain ⟨n, hn, rfl⟩ := List.mem_iff_getElem.1 hx
    have hlen : n + 2 < z := by simp at hn; omega
    have := ha (n + 2) (by omega) hlen
    have h3 := hi (n + 2) (by omega) hlen
    rw [Nat.add_sub_cancel, List.getElem?_eq_getElem hn] at h3
    rw [← h3] at this
    exact this

theorem results21_run {tmps : Array Value} {w : World} {a b : Int} (t4 : tmps[4]?.getD undef = .int .i64 a) (t5 : tmps[5]?.getD undef = .int .i64 b) :
    (results Tryd.f21 tmps).run Tryd.prog w = .ok (.tuple #[.int .i64 a, .int .i64 b]) w := by
  simp [results, Tryd.results21, go_sem, t4, t5]

end Go.Proofs.YtjlgmoakdaeinaaDoor
