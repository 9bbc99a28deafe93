/- Each text is characters and what is none behind them; characters stand by their bytes as their points (lemmas of the verifier's own, of no program). -/
import Derived.Test.YtjlgmoakdaeinaaDoorUtf
namespace Go.Vf

theorem byte_of {n : Nat} {c : UInt8} (h : n = c.toNat) : UInt8.ofNat n = c := by subst h; simp

/-- A whole character is a point's. -/
theorem whole_enc {l : List UInt8} {k : Nat} (hne : l ≠ []) (hk : rowB (l[0]?.getD 0).toNat = some k) (hw : wholeL k l = true) : ∃ p, IsPt p ∧ l = enc p ++ l.drop (enc p).length := by
  obtain ⟨hk9, h1, h2⟩ := rowB_lt hk
  cases l with
  | nil => exact absurd rfl hne
  | cons a l =>
    simp only [List.getElem?_cons_zero, Option.getD_some] at h1 h2
    have ha := a.toNat_lt
    simp only [wholeL, Bool.and_eq_true, decide_eq_true_eq, Bool.or_eq_true] at hw
    obtain ⟨w1, w2, w3⟩ := hw
    have hcase : k = 0 ∨ k = 1 ∨ (k = 2 ∨ k = 3 ∨ k = 4 ∨ k = 5) ∨ (k = 6 ∨ k = 7 ∨ k = 8) := by omega
    rcases hcase with rfl | rfl | hk3 | hk4
    · simp only [utab] at h1 h2
      refine ⟨a.toNat, by unfold IsPt; omega, ?_⟩
      have e : enc a.toNat = [a] := by unfold enc; rw [if_pos (by omega), byte_of rfl]
      rw [e]; simp
    · simp only [utab, secB, List.length_cons] at h1 h2 w1 w2
      cases l with
      | nil => simp at w1
      | cons b l =>
        simp at w2
        have e : enc ((a.toNat - 0xc0) * 64 + (b.toNat - 0x80)) = [a, b] := by
          unfold enc
          rw [if_neg (by omega), if_pos (by omega), byte_of (c := a) (by omega), byte_of (c := b) (by omega)]
        exact ⟨(a.toNat - 0xc0) * 64 + (b.toNat - 0x80), by unfold IsPt; omega, by rw [e]; simp⟩
    · have hz : (utab k).size = 3 := by rcases hk3 with rfl | rfl | rfl | rfl <;> rfl
      rw [hz] at w1 w2 w3
      match l, w1, w2, w3 with
      | b :: c :: l, _, w2, w3 =>
        simp [secB] at w2
        simp [tailB] at w3
        have e : ∀ p, p = ((a.toNat - 0xe0) * 64 + (b.toNat - 0x80)) * 64 + (c.toNat - 0x80) → 0x800 ≤ p → p < 0x10000 → 0xe0 ≤ a.toNat → 0x80 ≤ b.toNat → b.toNat ≤ 0xbf → enc p = [a, b, c] := by
          intro p hp g1 g2 g3 g4 g5
          unfold enc
          rw [if_neg (by omega), if_neg (by omega), if_pos (by omega), byte_of (c := a) (by omega), byte_of (c := b) (by omega), byte_of (c := c) (by omega)]
        rcases hk3 with rfl | rfl | rfl | rfl <;> simp only [utab] at h1 h2 w2 <;>
          exact ⟨((a.toNat - 0xe0) * 64 + (b.toNat - 0x80)) * 64 + (c.toNat - 0x80), by unfold IsPt; omega, by rw [e _ rfl (by omega) (by omega) (by omega) (by omega) (by omega)]; simp⟩
      | [b], w1, _, _ => simp at w1
      | [], w1, _, _ => simp at w1
    · have hz : (utab k).size = 4 := by rcases hk4 with rfl | rfl | rfl <;> rfl
      rw [hz] at w1 w2 w3
      match l, w1, w2, w3 with
      | b :: c :: d :: l, _, w2, w3 =>
        simp [secB] at w2
        simp [tailB] at w3
        have e : ∀ p, p = (((a.toNat - 0xf0) * 64 + (b.toNat - 0x80)) * 64 + (c.toNat - 0x80)) * 64 + (d.toNat - 0x80) → 0x10000 ≤ p → 0xf0 ≤ a.toNat → 0x80 ≤ b.toNat → b.toNat ≤ 0xbf → enc p = [a, b, c, d] := by
          intro p hp g1 g3 g4 g5
          unfold enc
          rw [if_neg (by omega), if_neg (by omega), if_neg (by omega), byte_of (c := a) (by omega), byte_of (c := b) (by omega), byte_of (c := c) (by omega), byte_of (c := d) (by omega)]
        rcases hk4 with rfl | rfl | rfl <;> simp only [utab] at h1 h2 w2 <;>
          exact ⟨(((a.toNat - 0xf0) * 64 + (b.toNat - 0x80)) * 64 + (c.toNat - 0x80)) * 64 + (d.toNat - 0x80), by unfold IsPt; omega, by rw [e _ rfl (by omega) (by omega) (by omega) (by omega)]; simp⟩
      | [b, c], w1, _, _ => simp at w1
      | [b], w1, _, _ => simp at w1
      | [], w1, _, _ => simp at w1

/-- Each text is characters, and then what begins with none. -/
theorem split_bytes (l : List UInt8) : ∃ (ps : List Nat) (rest : List UInt8), l = encs ps ++ rest ∧ (∀ p ∈ ps, IsPt p) ∧ (rest = [] ∨ noChar rest) := by
  generalize hn : l.length = n
  induction n using Nat.strongRecOn generalizing l with
  | ind n ih =>
    by_cases hne : l = []
    · exact ⟨[], [], by simp [hne, encs], by simp, .inl rfl⟩
    · by_cases hc : ∃ k, rowB (l[0]?.getD 0).toNat = some k ∧ wholeL k l = true
      · obtain ⟨k, h1, h2⟩ := hc
        obtain ⟨p, hp, hl⟩ := whole_enc hne h1 h2
        have hlen := congrArg List.length hl
        rw [List.length_append] at hlen
        have hpos := enc_pos p
        obtain ⟨ps, rest, e1, e2, e3⟩ := ih (l.drop (enc p).length).length (by omega) (l.drop (enc p).length) rfl
        exact ⟨p :: ps, rest, by rw [hl, e1]; simp [encs], by simpa using ⟨hp, e2⟩, e3⟩
      · exact ⟨[], l, by simp [encs], by simp, .inr ⟨hne, fun k h1 => by
          cases h2 : wholeL k l with
          | false => rfl
          | true => exact absurd ⟨k, h1, h2⟩ hc⟩⟩

theorem cmpL_lt {a b : UInt8} {x y : List UInt8} (h : a.toNat < b.toNat) : cmpL (a :: x) (b :: y) = -1 := by
  simp only [cmpL, UInt8.lt_iff_toNat_lt]; rw [if_pos h]
theorem cmpL_cons {a b : UInt8} {x y : List UInt8} (h : a = b) : cmpL (a :: x) (b :: y) = cmpL x y := by
  subst h; simp [cmpL]

/-- A lesser point's character is ahead by its bytes, whatever stands behind. -/
theorem enc_lt {p q : Nat} (_hp : IsPt p) (hq : IsPt q) (h : p < q) (x y : List UInt8) : cmpL (enc p ++ x) (enc q ++ y) = -1 := by
  unfold IsPt at hq
  have b : ∀ n, n < 256 → (UInt8.ofNat n).toNat = n := fun n hn => ofNat_toNat hn
  unfold enc
  by_cases p1 : p < 0x80
  · rw [if_pos p1]
    by_cases q1 : q < 0x80
    · rw [if_pos q1]; exact cmpL_lt (by rw [b _ (by omega), b _ (by omega)]; omega)
    · rw [if_neg q1]
      by_cases q2 : q < 0x800
      · rw [if_pos q2]; exact cmpL_lt (by rw [b _ (by omega), b _ (by omega)]; omega)
      · rw [if_neg q2]
        by_cases q3 : q < 0x10000
        · rw [if_pos q3]; exact cmpL_lt (by rw [b _ (by omega), b _ (by omega)]; omega)
        · rw [if_neg q3]; exact cmpL_lt (by rw [b _ (by omega), b _ (by omega)]; omega)
  · rw [if_neg p1, if_neg (show ¬ q < 0x80 by omega)]
    by_cases p2 : p < 0x800
    · rw [if_pos p2]
      by_cases q2 : q < 0x800
      · rw [if_pos q2]
        by_cases e : p / 64 = q / 64
        · rw [e]
          exact (cmpL_cons rfl).trans (cmpL_lt (by rw [b _ (by omega), b _ (by omega)]; omega))
        · exact cmpL_lt (by rw [b _ (by omega), b _ (by omega)]; omega)
      · rw [if_neg q2]
        by_cases q3 : q < 0x10000
        · rw [if_pos q3]; exact cmpL_lt (by rw [b _ (by omega), b _ (by omega)]; omega)
        · rw [if_neg q3]; exact cmpL_lt (by rw [b _ (by omega), b _ (by omega)]; omega)
    · rw [if_neg p2, if_neg (show ¬ q < 0x800 by omega)]
      by_cases p3 : p < 0x10000
      · rw [if_pos p3]
        by_cases q3 : q < 0x10000
        · rw [if_pos q3]
          by_cases e : p / 4096 = q / 4096
          · rw [e]
            refine (cmpL_cons rfl).trans ?_
            by_cases e2 : p / 64 % 64 = q / 64 % 64
            · rw [e2]
              exact (cmpL_cons rfl).trans (cmpL_lt (by rw [b _ (by omega), b _ (by omega)]; omega))
            · exact cmpL_lt (by rw [b _ (by omega), b _ (by omega)]; omega)
          · exact cmpL_lt (by rw [b _ (by omega), b _ (by omega)]; omega)
        · rw [if_neg q3]; exact cmpL_lt (by rw [b _ (by omega), b _ (by omega)]; omega)
      · rw [if_neg p3, if_neg (show ¬ q < 0x10000 by omega)]
        by_cases e : p / 262144 = q / 262144
        · rw [e]
          refine (cmpL_cons rfl).trans ?_
          by_cases e2 : p / 4096 % 64 = q / 4096 % 64
          · rw [e2]
            refine (cmpL_cons rfl).trans ?_
            by_cases e3 : p / 64 % 64 = q / 64 % 64
            · rw [e3]
              exact (cmpL_cons rfl).trans (cmpL_lt (by rw [b _ (by omega), b _ (by omega)]; omega))
            · exact cmpL_lt (by rw [b _ (by omega), b _ (by omega)]; omega)
          · exact cmpL_lt (by rw [b _ (by omega), b _ (by omega)]; omega)
        · exact cmpL_lt (by rw [b _ (by omega), b _ (by omega)]; omega)

/-- How lists of points stand: by the first that are unlike. -/
def cmpP : List Nat → List Nat → Int
  | [], [] => 0
  | [], _ :: _ => -1
  | _ :: _, [] => 1
  | p :: x, q :: y => if p = q then cmpP x y else if p < q then -1 else 1

theorem cmp_points (x y : List Nat) (hx : ∀ p ∈ x, IsPt p) (hy : ∀ p ∈ y, IsPt p) : cmpL (encs x) (encs y) = cmpP x y := by
  fun_induction cmpP x y with
  | case1 => rfl
  | case2 q y =>
    have := enc_pos q
    cases h : encs (q :: y) with
    | nil => have := congrArg List.length h; simp only [encs, List.length_append, List.length_nil] at this; omega
    | cons c t => rfl
  | case3 p x =>
    have := enc_pos p
    cases h : encs (p :: x) with
    | nil => have := congrArg List.length h; simp only [encs, List.length_append, List.length_nil] at this; omega
    | cons c t => rfl
  | case4 x q y ih =>
    simp only [encs]
    rw [cmpL_append]
    exact ih (fun p hp => hx p (List.mem_cons_of_mem _ hp)) (fun p hp => hy p (List.mem_cons_of_mem _ hp))
  | case5 p x q y h1 h2 => exact enc_lt (hx p (by simp)) (hy q (by simp)) h2 _ _
  | case6 p x q y h1 h2 =>
    have := enc_lt (hy q (by simp)) (hx p (by simp)) (by omega) (encs y) (encs x)
    simp only [encs]
    rw [cmpL_neg, this]
    rfl

end Go.Vf
