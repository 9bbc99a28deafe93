/- Contracts and lemmas (nothing is claimed here). -/
import Derived.Test.YtcbjnifoojjipaaGreatDoorSPar
import Derived.Lib.FieldsP
import Derived.Lib.TrimU
import Derived.Test.YtcbjnifoojjipaaGreatDoorJ27
import Derived.Lib.TrimUEq
import Derived.Lib.TrimAscii
import Derived.Lib.IndexBytes
namespace Go.Proofs.YtcbjnifoojjipaaGreatDoor
open Go.RowKit Go.Vf
theorem spans_ok (p : Nat → Bool) (s : ByteArray) : ∀ (f pos : Nat) (st : Option Nat) (acc : List (Nat × Nat)), (∀ x ∈ acc, x.1 < x.2 ∧ x.2 ≤ s.size) → (∀ a, st = some a → a < pos ∧ a < s.size) →
    (∀ x ∈ (Lib.spansFromP p s f pos st acc).1, x.1 < x.2 ∧ x.2 ≤ s.size) ∧ (∀ a, (Lib.spansFromP p s f pos st acc).2 = some a → a < s.size) ∧ (Lib.spansFromP p s f pos st acc).1.length ≤ acc.length + f := by
  intro f
  induction f with
  | zero => intro pos st acc h1 h2; exact ⟨h1, fun a ha => (h2 a ha).2, Nat.le_refl _⟩
  | succ f ih =>
    intro pos st acc h1 h2
    unfold Lib.spansFromP
    have hw := Lib.width_pos s pos
    by_cases hp : pos < s.size
    · simp only [if_pos hp]
      by_cases hq : p (Utf8.decode s pos).1 = true
      · simp only [if_pos hq]
        cases st with
        | none =>
          obtain ⟨a1, a2, a3⟩ := ih (pos + (Utf8.decode s pos).2) none acc h1 (fun a ha => by cases ha)
          exact ⟨a1, a2, Nat.le_trans a3 (by omega)⟩
        | some b =>
          obtain ⟨b1, b2⟩ := h2 b rfl
          obtain ⟨a1, a2, a3⟩ := ih (pos + (Utf8.decode s pos).2) none (acc ++ [(b, pos)]) (fun x hx => by
            rcases List.mem_append.1 hx with hx | hx
            · exact h1 x hx
            · rw [List.mem_singleton.1 hx]; exact ⟨b1, by omega⟩) (fun a ha => by cases ha)
          exact ⟨a1, a2, Nat.le_trans a3 (by simp only [List.length_append, List.length_cons, List.length_nil]; omega)⟩
      · simp only [if_neg hq]
        cases st with
        | none =>
          obtain ⟨a1, a2, a3⟩ := ih (pos + (Utf8.decode s pos).2) (some pos) acc h1 (fun a ha => by cases ha; exact ⟨by omega, hp⟩)
          exact ⟨a1, a2, Nat.le_trans a3 (by omega)⟩
        | some b =>
          obtain ⟨b1, b2⟩ := h2 b rfl
          obtain ⟨a1, a2, a3⟩ := ih (pos + (Utf8.decode s pos).2) (some b) acc h1 (fun a ha => by cases ha; exact ⟨by omega, b2⟩)
          exact ⟨a1, a2, Nat.le_trans a3 (by omega)⟩
    · simp only [if_neg hp]
      exact ⟨h1, fun a ha => (h2 a ha).2, by show acc.length ≤ _; omega⟩
theorem fields_ok (p : Nat → Bool) (s : ByteArray) : (Lib.goFieldsP p s).length ≤ s.size + 1 ∧ ∀ x ∈ Lib.goFieldsP p s, 0 < x.size ∧ x.size ≤ s.size := by
  obtain ⟨a1, a2, a3⟩ := spans_ok p s s.size 0 none [] (fun x hx => by cases hx) (fun a ha => by cases ha)
  have hc : (∀ x ∈ Lib.spansOfP p s, x.1 < x.2 ∧ x.2 ≤ s.size) ∧ (Lib.spansOfP p s).length ≤ s.size + 1 := by
    unfold Lib.spansOfP Lib.closeSpans
    generalize Lib.spansFromP p s s.size 0 none [] = r at a1 a2 a3
    obtain ⟨r1, r2⟩ := r
    cases r2 with
    | none => exact ⟨a1, by show r1.length ≤ _; simp at a3; omega⟩
    | some b =>
      refine ⟨fun x hx => ?_, ?_⟩
      · rcases List.mem_append.1 hx with hx | hx
        · exact a1 x hx
        · rw [List.mem_singleton.1 hx]; exact ⟨a2 b rfl, Nat.le_refl _⟩
      · simp only [List.length_append, List.length_cons, List.length_nil] at a3 ⊢; omega
  unfold Lib.goFieldsP
  refine ⟨by rw [List.length_map]; exact hc.2, fun x hx => ?_⟩
  obtain ⟨y, hy, rfl⟩ := List.mem_map.1 hx
  have := hc.1 y hy
  rw [ByteArray.size_extract]
  omega
theorem cut_len (s t : List UInt8) : (Lib.cut s t).1.length ≤ s.length := by
  unfold Lib.cut
  split
  · show (s.take _).length ≤ _; rw [List.length_take]; omega
  · exact Nat.le_refl _
theorem trim_len (s t : List UInt8) : (Lib.trimSuffix s t).length ≤ s.length := by
  unfold Lib.trimSuffix
  split
  · rw [List.length_take]; omega
  · exact Nat.le_refl _
theorem words_ok {s : List UInt8} (h : s.length ≤ 65536) : WsOK (wordsL s) := by
  have h1 := cut_len (Lib.trimSuffix s [10]) [35]
  have h2 := trim_len s [10]
  have h3 := fields_ok (fun r => r == 32) (bs (Lib.cut (Lib.trimSuffix s [10]) [35]).1)
  rw [bs_size] at h3
  unfold wordsL
  exact ⟨by have := h3.1; omega, fun x hx => ⟨(h3.2 x hx).1, by have := (h3.2 x hx).2; omega⟩⟩
theorem lnF_words : ∀ (n : Int) (ls : List (List UInt8)), ∀ l ∈ lnF n ls, ∃ x ∈ ls, l.2 = wordsL x
  | _, [], l, h => by cases h
  | n, x :: ls, l, h => by
    rw [lnF] at h
    split at h
    · obtain ⟨y, hy, e⟩ := lnF_words (n + 1) ls l h; exact ⟨y, List.mem_cons_of_mem _ hy, e⟩
    · rcases List.mem_cons.1 h with rfl | h
      · exact ⟨x, List.mem_cons_self, rfl⟩
      · obtain ⟨y, hy, e⟩ := lnF_words (n + 1) ls l h; exact ⟨y, List.mem_cons_of_mem _ hy, e⟩
theorem lines_ok (s : List UInt8) : s.length ≤ 65536 → ∀ l ∈ lnF 1 (linesL s), WsOK l.2 := by
  intro hs l hl
  obtain ⟨x, hx, e⟩ := lnF_words 1 (linesL s) l hl
  rw [e]
  exact words_ok (Nat.le_trans ((linesL_len s).2 x hx) hs)
theorem cntV_le : ∀ (l : List UInt8) (a : Int) (B : Nat), l.all isDigU = true → 0 ≤ a → a ≤ (B : Int) → 0 ≤ cntV l a ∧ cntV l a ≤ (((B + 1) * 10 ^ l.length : Nat) : Int)
  | [], a, B, _, h0, h1 => ⟨h0, by show a ≤ _; simp; omega⟩
  | c :: r, a, B, h, h0, h1 => by
    rw [List.all_cons, Bool.and_eq_true] at h
    have hc := h.1
    unfold isDigU at hc
    rw [Bool.and_eq_true, decide_eq_true_eq, decide_eq_true_eq] at hc
    have := cntV_le r (a * 10 + ((c.toNat : Int) - 48)) (B * 10 + 9) h.2 (by omega) (by push_cast; omega)
    rw [cntV]
    refine ⟨this.1, Int.le_trans this.2 ?_⟩
    rw [List.length_cons, Nat.pow_succ]
    have e : (B * 10 + 9 + 1) * 10 ^ r.length = (B + 1) * (10 ^ r.length * 10) := by
      rw [show B * 10 + 9 + 1 = (B + 1) * 10 by omega, Nat.mul_assoc, Nat.mul_comm 10]
    rw [e]
    exact Int.le_refl _
theorem cnt_range {ws : List ByteArray} {z : Int × List ByteArray} (h : cntW ws = some z) : 0 ≤ z.1 ∧ z.1 ≤ 10000000 := by
  cases ws with
  | nil => cases h
  | cons x r =>
    rw [cntW] at h
    split at h
    · rename_i y hy
      cases h
      unfold cntL at hy
      split at hy
      · rename_i hc
        cases hy
        have := cntV_le x.data.toList 0 0 hc.2.2 (by omega) (by omega)
        refine ⟨this.1, Int.le_trans this.2 ?_⟩
        have hp : 10 ^ x.data.toList.length ≤ 10 ^ 7 := Nat.pow_le_pow_right (by omega) hc.1
        simp only [Nat.zero_add, Nat.one_mul]
        omega
      · cases hy
    · cases h
theorem num_range {ws : List ByteArray} {z : (Bool × List UInt8) × List ByteArray} (h : numW ws = some z) : z.1.2.length ≤ 255 := by
  cases ws with
  | nil => cases h
  | cons x r =>
    rw [numW] at h
    split at h
    · rename_i y hy
      cases h
      unfold parseR at hy
      split at hy
      · split at hy
        · rename_i hl; cases hy; show (List.reverse _).length ≤ 255; rw [List.length_reverse]; exact hl
        · cases hy
      · cases hy
    · cases h
theorem readKL_fits {k : Nat} {ws : List ByteArray} {o : Go.Vf.Own} {z : List ByteArray × Go.Vf.Own} (ho : OwnFits 17179869184 o) (h : readKL k ws o = some z) : OwnFits 17179869184 z.2 := by
  obtain ⟨k0, k1, n0, n1, nm, lm, hm, m0, m1, s0, s1⟩ := ho
  unfold readKL at h
  split at h
  · unfold readBoundsL at h
    split at h
    · split at h
      · rename_i y hy
        split at h
        · split at h
          · rename_i y2 hy2
            cases h
            have a1 := num_range hy
            have a2 := num_range hy2
            exact ⟨k0, k1, n0, n1, nm, by show (bs _).size ≤ _; rw [bs_size]; omega, by show (bs _).size ≤ _; rw [bs_size]; omega, m0, m1, s0, s1⟩
          · cases h
        · cases h
      · cases h
    · cases h; exact ⟨k0, k1, n0, n1, nm, lm, hm, m0, m1, s0, s1⟩
  · split at h
    · unfold readMostL at h
      split at h
      · split at h
        · rename_i y hy
          cases h
          have a1 := cnt_range hy
          exact ⟨k0, k1, n0, n1, nm, lm, hm, by show _ ≤ y.1; omega, by show y.1 < _; omega, s0, s1⟩
        · cases h
      · cases h
    · split at h
      · unfold readCollateL at h
        split at h
        · split at h
          · rename_i y hy
            cases h
            have a1 := cnt_range hy
            exact ⟨k0, k1, n0, n1, nm, lm, hm, m0, m1, by show _ ≤ y.1; omega, by show y.1 < _; omega⟩
          · cases h
        · cases h
      · cases h; exact ⟨k0, k1, n0, n1, nm, lm, hm, m0, m1, s0, s1⟩
theorem nulls_range (ws : List ByteArray) : 0 ≤ (nullsW ws).1 ∧ (nullsW ws).1 < 256 := by
  unfold nullsW
  split
  · exact ⟨by show (0 : Int) ≤ 1; decide, by show (1 : Int) < 256; decide⟩
  split
  · exact ⟨by show (0 : Int) ≤ 2; decide, by show (2 : Int) < 256; decide⟩
  · exact ⟨by show (0 : Int) ≤ 0; decide, by show (0 : Int) < 256; decide⟩
theorem line_fits {ws : List ByteArray} {o : Go.Vf.Own} (hw : WsOK ws) (h : lineL ws = some o) : OwnFits 17179869184 o := by
  unfold lineL at h
  split at h
  · split at h
    · rename_i x hx
      split at h
      · rename_i k hk
        split at h
        · rename_i z hz
          split at h
          · cases h
            have hw2 := hw.skip ⟨#[102, 105, 101, 108, 100]⟩
            generalize (skipL ws ⟨#[102, 105, 101, 108, 100]⟩).2 = u at hx hw2
            cases u with
            | nil => cases hx
            | cons y r =>
              rw [takeW] at hx
              cases hx
              have hk8 := (kindW_ok (z := k.1) (r := k.2) hw2.tail hk).2
              have hn := nulls_range (skipL k.2 ⟨#[100, 111, 119, 110]⟩).2
              have hy := (hw2.2 y List.mem_cons_self).2
              refine readKL_fits ⟨?_, ?_, hn.1, hn.2, ?_, ?_, ?_, ?_, ?_, ?_, ?_⟩ hz
              · show (0 : Int) ≤ (k.1 : Int); omega
              · show (k.1 : Int) < 256; omega
              · show y.size ≤ _; omega
              · show (⟨#[]⟩ : ByteArray).size ≤ _; decide
              · show (⟨#[]⟩ : ByteArray).size ≤ _; decide
              · show _ ≤ (0 : Int); decide
              · show (0 : Int) < _; decide
              · show _ ≤ (0 : Int); decide
              · show (0 : Int) < _; decide
          · cases h
        · cases h
      · cases h
    · cases h
  · cases h
def numF : List Fld → Nat
  | [] => 0
  | .mk _ g :: r => 1 + numF g + numF r
termination_by l => SizeOf.sizeOf l
theorem numF_nil : numF [] = 0 := by rw [numF]
theorem numF_cons (o : Go.Vf.Own) (g r : List Fld) : numF (.mk o g :: r) = 1 + numF g + numF r := by rw [numF]
theorem numF_snoc (o : Go.Vf.Own) (g : List Fld) : ∀ l : List Fld, numF (l ++ [.mk o g]) = numF l + (1 + numF g)
  | [] => by rw [List.nil_append, numF_cons, numF_nil]; omega
  | .mk o2 g2 :: r => by rw [List.cons_append, numF_cons, numF_cons, numF_snoc o g r]; omega
theorem numF_len : ∀ l : List Fld, l.length ≤ numF l
  | [] => by simp
  | .mk o g :: r => by rw [numF_cons, List.length_cons]; have := numF_len r; omega
theorem tour_num {Q : Go.Vf.Own → Bool} : ∀ (k : Nat) (l : List Fld), SizeOf.sizeOf l ≤ k → ∀ (P : List Int) (ah : List Fld) (n : Nat), (∀ m, tourL Q P ah n l = .ok m → m = n + numF l) ∧ (∀ c p m, tourL Q P ah n l = .bad c p m → m ≤ n + numF l) := by
  intro k
  induction k with
  | zero => intro l hk; cases l <;> simp at hk
  | succ k ih =>
    intro l hk P ah n
    cases l with
    | nil => rw [tourL_nil, numF_nil]; exact ⟨fun m h => (by cases h; rfl), fun c p m h => (by cases h)⟩
    | cons f r =>
      obtain ⟨o, g⟩ := f
      have s1 : SizeOf.sizeOf g ≤ k := by simp at hk; omega
      have s2 : SizeOf.sizeOf r ≤ k := by simp at hk; omega
      rw [numF_cons]
      by_cases he : seeF Q (P.length + 1) (n + 1) ah (.mk o g) = 0
      · cases hb : tourL Q (P ++ [(ah.length : Int)]) [] (n + 1) g with
        | bad c p q =>
          rw [tourL_in Q P ah n (.mk o g) r he hb]
          have := (ih g s1 (P ++ [(ah.length : Int)]) [] (n + 1)).2 c p q hb
          exact ⟨fun m h => (by cases h), fun c p m h => (by cases h; omega)⟩
        | ok q =>
          rw [tourL_on Q P ah n (.mk o g) r he hb]
          have e1 := (ih g s1 (P ++ [(ah.length : Int)]) [] (n + 1)).1 q hb
          have e2 := ih r s2 P (ah ++ [.mk o g]) q
          exact ⟨fun m h => by have := e2.1 m h; omega, fun c p m h => by have := e2.2 c p m h; omega⟩
      · rw [tourL_bad Q P ah n (.mk o g) r he]
        exact ⟨fun m h => (by cases h), fun c p m h => (by cases h; omega)⟩
theorem within_rk (n : Nat) : ∀ (after : Int) (ls : List Ln) (ns : List Int) (acc : List Fld) (r : List Fld × List Ln × List Int), (∀ l ∈ ls, WsOK l.2) → ls.length ≤ 1000000 → (∀ x ∈ acc, FitsF 17179869184 x) → withinP n after ls ns acc = .ok r →
    (∀ x ∈ r.1, FitsF 17179869184 x) ∧ (∀ l ∈ r.2.1, l ∈ ls) ∧ r.2.2.length + numF acc = ns.length + numF r.1 ∧ r.2.2.length + r.2.1.length ≤ ns.length + ls.length ∧ r.1.length + r.2.1.length ≤ acc.length + ls.length := by
  induction n with
  | zero => intro _ _ _ _ _ _ _ _ h; cases h
  | succ n ih =>
    intro after ls ns acc r hw hl ha h
    cases ls with
    | nil => cases h
    | cons l ls =>
      rw [withinP] at h
      have hw1 : ∀ l ∈ ls, WsOK l.2 := fun x hx => hw x (List.mem_cons_of_mem _ hx)
      rw [List.length_cons] at hl
      split at h
      · cases h; exact ⟨ha, fun x hx => List.mem_cons_of_mem _ hx, rfl, by simp only [List.length_cons]; omega, by simp only [List.length_cons]; omega⟩
      · split at h
        · cases h
        · rename_i o ho
          have hf := line_fits (hw l List.mem_cons_self) ho
          split at h
          · split at h
            · cases h
            · rename_i q hq
              obtain ⟨a1, a2, a3, a4, a5⟩ := ih after ls (ns ++ [l.1]) [] q hw1 (by omega) (fun x hx => by cases hx) hq
              rw [numF_nil] at a3
              simp only [List.length_append, List.length_cons, List.length_nil] at a3 a4 a5
              obtain ⟨b1, b2, b3, b4, b5⟩ := ih after q.2.1 q.2.2 (acc ++ [⟨o, q.1⟩]) r (fun x hx => hw1 x (a2 x hx)) (by omega) (fun x hx => by
                rcases List.mem_append.1 hx with hx | hx
                · exact ha x hx
                · rw [List.mem_singleton.1 hx]; exact .mk hf (by show q.1.length ≤ _; omega) a1) h
              rw [numF_snoc] at b3
              simp only [List.length_append, List.length_cons, List.length_nil] at b3 b4 b5 ⊢
              exact ⟨b1, fun x hx => List.mem_cons_of_mem _ (a2 x (b2 x hx)), by omega, by omega, by omega⟩
          · obtain ⟨b1, b2, b3, b4, b5⟩ := ih after ls (ns ++ [l.1]) (acc ++ [⟨o, []⟩]) r hw1 (by omega) (fun x hx => by
              rcases List.mem_append.1 hx with hx | hx
              · exact ha x hx
              · rw [List.mem_singleton.1 hx]; exact .mk hf (by show 0 ≤ _; omega) (fun y hy => by cases hy)) h
            rw [numF_snoc, numF_nil] at b3
            simp only [List.length_append, List.length_cons, List.length_nil] at b3 b4 b5 ⊢
            exact ⟨b1, fun x hx => List.mem_cons_of_mem _ (b2 x hx), by omega, by omega, by omega⟩
theorem field_rk {after num : Int} {ws : List ByteArray} {ls : List Ln} {ns : List Int} {r : Fld × List Ln × List Int} (hw0 : WsOK ws) (hw : ∀ l ∈ ls, WsOK l.2) (hl : ls.length ≤ 1000000) (h : fieldP after num ws ls ns = .ok r) :
    FitsF 17179869184 r.1 ∧ (∀ l ∈ r.2.1, l ∈ ls) ∧ r.2.2.length = ns.length + numF [r.1] ∧ r.2.2.length + r.2.1.length ≤ ns.length + ls.length + 1 := by
  unfold fieldP at h
  split at h
  · cases h
  · rename_i o ho
    have hf := line_fits hw0 ho
    split at h
    · split at h
      · cases h
      · rename_i q hq
        cases h
        obtain ⟨a1, a2, a3, a4, a5⟩ := within_rk _ after ls (ns ++ [num]) [] q hw hl (fun x hx => by cases hx) hq
        rw [numF_nil] at a3
        simp only [List.length_append, List.length_cons, List.length_nil] at a3 a4 a5
        refine ⟨.mk hf (by show q.1.length ≤ _; omega) a1, a2, ?_, ?_⟩
        · show q.2.2.length = _; rw [numF_cons, numF_nil]; omega
        · show q.2.2.length + q.2.1.length ≤ _; omega
    · cases h
      refine ⟨.mk hf (by show 0 ≤ _; omega) (fun y hy => by cases hy), fun l hl => hl, ?_, ?_⟩
      · show (ns ++ [num]).length = _; rw [numF_cons, numF_nil]; simp
      · show (ns ++ [num]).length + ls.length ≤ _; simp; omega
theorem top_rk (n : Nat) : ∀ (after : Int) (ls : List Ln) (ns : List Int) (acc : List Fld) (r : List Fld × List Int), (∀ l ∈ ls, WsOK l.2) → ls.length ≤ 1000000 → (∀ x ∈ acc, FitsF 17179869184 x) → topP n after ls ns acc = .ok r →
    (∀ x ∈ r.1, FitsF 17179869184 x) ∧ r.2.length + numF acc = ns.length + numF r.1 ∧ r.2.length ≤ ns.length + ls.length := by
  induction n with
  | zero => intro _ _ _ _ _ _ _ ha h; cases h; exact ⟨ha, rfl, by simp⟩
  | succ n ih =>
    intro after ls ns acc r hw hl ha h
    cases ls with
    | nil => cases h; exact ⟨ha, rfl, by simp⟩
    | cons l ls =>
      rw [topP] at h
      have hw1 : ∀ l ∈ ls, WsOK l.2 := fun x hx => hw x (List.mem_cons_of_mem _ hx)
      rw [List.length_cons] at hl
      split at h
      · cases h
      · rename_i q hq
        obtain ⟨a1, a2, a3, a4⟩ := field_rk (hw l List.mem_cons_self) hw1 (by omega) hq
        have hless := fieldP_less hq
        obtain ⟨⟨o, g⟩, q2, q3⟩ := q
        obtain ⟨b1, b2, b3⟩ := ih after q2 q3 (acc ++ [.mk o g]) r (fun x hx => hw1 x (a2 x hx)) (by simp only at hless; omega) (fun x hx => by
          rcases List.mem_append.1 hx with hx | hx
          · exact ha x hx
          · rw [List.mem_singleton.1 hx]; exact a1) h
        rw [numF_snoc] at b2
        rw [numF_cons, numF_nil] at a3
        simp only [List.length_cons] at a3 a4 b3 ⊢
        exact ⟨b1, by omega, by omega⟩
theorem sch_rk {after num : Int} {ws : List ByteArray} {ls : List Ln} {q : Int × List Fld × List Int} (hw : ∀ l ∈ ls, WsOK l.2) (hl : ls.length ≤ 100000) (h : schP after num ws ls [] = .ok q) : ReadOk q := by
  unfold schP limP at h
  split at h
  · cases h
  · rename_i z hz
    have hzr : 0 ≤ z ∧ z ≤ 10000000 := by
      unfold limL at hz
      split at hz
      · split at hz
        · rename_i y hy
          split at hz
          · cases hz; exact cnt_range hy
          · cases hz
        · cases hz
      · cases hz
    unfold finP at h
    split at h
    · cases h
    · rename_i r hr
      cases h
      unfold topA at hr
      obtain ⟨a1, a2, a3⟩ := top_rk _ after ls ([] ++ [num]) [] r hw (by omega) (fun x hx => by cases hx) hr
      rw [numF_nil] at a2
      simp only [List.length_append, List.length_cons, List.length_nil] at a2 a3
      have hn := numF_len r.1
      refine ⟨a1, by show r.1.length ≤ _; omega, by show _ ≤ z; omega, by show z ≤ _; omega, ?_, by show r.2.length ≤ _; omega, fun h => chkS_good h⟩
      intro hne
      show ∃ k : Nat, chkN bndQ z r.1 = (k : Int) ∧ k < r.2.length
      unfold chkN
      unfold chkS at hne
      split
      · exact ⟨0, rfl, by omega⟩
      · rename_i h1
        rw [if_neg h1] at hne
        split
        · exact ⟨0, rfl, by omega⟩
        · rename_i h2
          rw [if_neg h2] at hne
          cases ht : tourL bndQ [] [] 0 r.1 with
          | ok m => rw [ht] at hne; exact absurd rfl hne
          | bad c p m =>
            have := (tour_num (Q := bndQ) _ r.1 (Nat.le_refl _) [] [] 0).2 c p m ht
            exact ⟨m, rfl, by omega⟩
theorem read_ok (s : List UInt8) : s.length ≤ 65536 → ∀ q, schemaP (1 + ((linesL s).length : Int)) (lnF 1 (linesL s)) [] = .ok q → ReadOk q := by
  intro hs q h
  have hw := lines_ok s hs
  have hl := Nat.le_trans (lnF_len 1 (linesL s)) (linesL_len s).1
  generalize lnF 1 (linesL s) = ls at h hw hl
  cases ls with
  | nil => exact sch_rk (fun x hx => by cases hx) (by simp) h
  | cons l ls =>
    rw [List.length_cons] at hl
    exact sch_rk (fun x hx => hw x (List.mem_cons_of_mem _ hx)) (by omega) h
theorem parse_all (s : List UInt8) (w : World) (hE : Env w) : Calls Tryz.prog 27 #[.string (bs s)] w (ParPost (parseS s) w) :=
  parse_s s (lines_ok s) (read_ok s) w hE
def spl : List UInt8 → List UInt8 → List (List UInt8)
  | [], cur => if cur = [] then [] else [cur]
  | c :: r, cur => if c = 32 then (if cur = [] then spl r [] else cur :: spl r []) else spl r (cur ++ [c])
theorem bs_extract (L : List UInt8) (a b : Nat) : ((bs L).extract a b).data.toList = (L.take b).drop a := by
  simp [bs, ByteArray.data_extract, List.extract_eq_take_drop, List.drop_take]
theorem decode_bs {L : List UInt8} {pos : Nat} (h : pos < L.length) (ha : L[pos].toNat < 128) : Utf8.decode (bs L) pos = (L[pos].toNat, 1) := by
  rw [← Lib.decodeL_drop]
  show Lib.decodeL (L.drop pos) = _
  rw [List.drop_eq_getElem_cons h]
  exact Lib.decodeL_ascii _ _ ha
theorem indexByte_no : ∀ (L : List UInt8) (c : UInt8), (∀ x ∈ L, x ≠ c) → Lib.indexByte L c = -1
  | [], _, _ => rfl
  | b :: l, c, h => by
    rw [Lib.indexByte, indexByte_no l c (fun x hx => h x (List.mem_cons_of_mem _ hx)), if_neg (by simpa using h b List.mem_cons_self)]
    rfl
theorem indexByte_at : ∀ (L r : List UInt8) (c : UInt8), (∀ x ∈ L, x ≠ c) → Lib.indexByte (L ++ c :: r) c = (L.length : Int)
  | [], r, c, _ => by rw [List.nil_append, Lib.indexByte, if_pos (by simp)]; rfl
  | b :: l, r, c, h => by
    rw [List.cons_append, Lib.indexByte, indexByte_at l r c (fun x hx => h x (List.mem_cons_of_mem _ hx)), if_neg (by simpa using h b List.mem_cons_self), if_neg (by rw [beq_iff_eq]; omega), List.length_cons]
    omega
theorem linesL_line {L r : List UInt8} (h : ∀ x ∈ L, x ≠ 10) : linesL (L ++ 10 :: r) = (L ++ [10]) :: linesL r := by
  rw [linesL_some (k := L.length) (indexByte_at L r 10 h) (by simp)]
  have e1 : (L ++ 10 :: r).take (L.length + 1) = L ++ [10] := by
    rw [show L ++ 10 :: r = (L ++ [10]) ++ r by simp, List.take_append_of_le_length (by simp), List.take_of_length_le (by simp)]
  have e2 : (L ++ 10 :: r).drop (L.length + 1) = r := by
    rw [show L ++ 10 :: r = (L ++ [10]) ++ r by simp, List.drop_append_of_le_length (by simp), List.drop_of_length_le (by simp), List.nil_append]
  rw [e1, e2]
theorem trim_line (L : List UInt8) : Lib.trimSuffix (L ++ [10]) [10] = L := by
  unfold Lib.trimSuffix
  rw [if_pos (by simp [Lib.hasSuffix])]
  simp
end Go.Proofs.YtcbjnifoojjipaaGreatDoor
