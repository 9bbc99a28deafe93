/- What is read is the text of what it was read as (lemmas; nothing is claimed here). -/
import Derived.Test.YtffhbellpcneeaaLNum
import Derived.Test.YtffhbellpcneeaaJ10
namespace Go.Proofs.Ytffhbellpcneeaa
open Go.RowKit Go.Vf

theorem txt_num (b : Bool) (m : List UInt8) : txt (numP b m) = printL b m := by simp [txt, numP, bs_data]
theorem txt_raw {k : Int} (h : isRawK k = true) (r : List UInt8) : txt (rawP k r) = rawTxt k r := by
  have h0 : k ≠ 0 := by rintro rfl; simp [isRawK] at h
  have h1 : k ≠ 1 := by rintro rfl; simp [isRawK] at h
  have h2 : k ≠ 2 := by rintro rfl; simp [isRawK] at h
  have h7 : k ≠ 7 := by rintro rfl; simp [isRawK] at h
  simp [txt, rawP, h0, h1, h2, h7, bs_data]
theorem txt_tup (l : List Prt) : txt (tupP l) = 40 :: ((txtB l).drop 1 ++ [41]) := by simp [txt, tupP]
/-- What a reader says of what it reads. -/
def Says (f : List UInt8 → Got) (n : Nat) : Prop := ∀ t p rest, t.length ≤ 65536 → f t = .ok (p, rest) → t = txt p ++ rest ∧ may p = true ∧ dep p ≤ n
theorem Leaf.dep {p : Prt} (h : Leaf p) : dep p = 0 := by
  cases p with | mk k y b m r l => rw [Go.Vf.dep, if_neg (by simpa [Prt.kind] using h.kind)]
theorem flat_len (q : UInt8) (l : List UInt8) : l.length ≤ (l.flatMap (spelt q)).length := by
  induction l with
  | nil => simp
  | cons a r ih => rw [List.flatMap_cons, List.length_append, List.length_cons]; have := spelt_pos q a; omega
theorem nullLeaf : Leaf nullP := ⟨rfl, by simp [nullP, Prt.kind], rfl, leafFits (by decide) (by decide) (by decide)⟩

theorem num_inv {c : UInt8} {t rest : List UInt8} {p : Prt} (h : numR c t = .ok (p, rest)) : c :: t = txt p ++ rest ∧ Leaf p := by
  unfold numR at h
  split at h
  · rename_i b m hp
    simp only [Except.ok.injEq, Prod.mk.injEq] at h
    obtain ⟨rfl, rfl⟩ := h
    obtain ⟨h1, h2⟩ := print_parse hp
    refine ⟨?_, numLeaf h1⟩
    rw [txt_num, h2, List.cons_append, List.takeWhile_append_dropWhile]
  · cases h
theorem bytes_inv {t rest : List UInt8} {p : Prt} (ht : t.length ≤ 65536) (h : bytesR t = .ok (p, rest)) : 120 :: t = txt p ++ rest ∧ Leaf p := by
  unfold bytesR at h
  split at h
  · rename_i he
    simp only [Except.ok.injEq, Prod.mk.injEq] at h
    obtain ⟨rfl, rfl⟩ := h
    have := takeW_len (P := isHex) t
    refine ⟨?_, rawLeaf (.inl rfl) (by rw [unhex_length]; omega)⟩
    rw [txt_raw rfl]
    show _ = 120 :: ((unhex (t.takeWhile isHex)).flatMap hex2) ++ _
    rw [hex2_unhex _ he (takeW_all t), List.cons_append, List.takeWhile_append_dropWhile]
  · cases h
theorem id_inv {t rest : List UInt8} {p : Prt} (h : idR t = .ok (p, rest)) : 35 :: t = txt p ++ rest ∧ Leaf p := by
  unfold idR at h
  split at h
  · rename_i he
    simp only [Except.ok.injEq, Prod.mk.injEq] at h
    obtain ⟨rfl, rfl⟩ := h
    refine ⟨?_, idLeaf (by rw [unhex_length, he])⟩
    rw [txt_raw rfl]
    show _ = 35 :: ((unhex (t.takeWhile isHex)).flatMap hex2) ++ _
    rw [hex2_unhex _ (by rw [he]) (takeW_all t), List.cons_append, List.takeWhile_append_dropWhile]
  · cases h
theorem quo_inv {k : Int} {q : UInt8} (hk : k = 5 ∧ q = 39 ∨ k = 6 ∧ q = 34) {t rest : List UInt8} {p : Prt} (ht : t.length ≤ 65536) (h : quoR k q t = .ok (p, rest)) : q :: t = txt p ++ rest ∧ Leaf p := by
  unfold quoR at h
  split at h
  · rename_i r rest' hu
    simp only [Except.ok.injEq, Prod.mk.injEq] at h
    obtain ⟨rfl, rfl⟩ := h
    have e := unq_inv _ _ _ _ _ hu
    have hl := flat_len q r
    have hl2 := congrArg List.length e
    simp only [List.length_append, List.length_cons] at hl2
    refine ⟨?_, rawLeaf (by omega) (by omega)⟩
    rw [txt_raw (by rcases hk with ⟨rfl, _⟩ | ⟨rfl, _⟩ <;> rfl)]
    have e2 : rawTxt k r = q :: (r.flatMap (spelt q) ++ [q]) := by rcases hk with ⟨rfl, rfl⟩ | ⟨rfl, rfl⟩ <;> rfl
    rw [e2, List.cons_append, List.append_assoc]
    exact congrArg (q :: ·) e
  · cases h
theorem word_inv {l rest : List UInt8} {p : Prt} (h : wordR l = .ok (p, rest)) : l = txt p ++ rest ∧ Leaf p := by
  unfold wordR at h
  split at h
  · rename_i hp
    simp only [Except.ok.injEq, Prod.mk.injEq] at h
    obtain ⟨rfl, rfl⟩ := h
    exact ⟨prefix_split hp, nullLeaf⟩
  · split at h
    · rename_i hp
      simp only [Except.ok.injEq, Prod.mk.injEq] at h
      obtain ⟨rfl, rfl⟩ := h
      exact ⟨prefix_split hp, boolLeaf true⟩
    · split at h
      · rename_i hp
        simp only [Except.ok.injEq, Prod.mk.injEq] at h
        obtain ⟨rfl, rfl⟩ := h
        exact ⟨prefix_split hp, boolLeaf false⟩
      · cases h
theorem tup_inv {f : List UInt8 → Got} {n : Nat} (hf : Says f n) : ∀ (k : Nat) (acc : List Prt) (t : List UInt8) (p : Prt) (rest : List UInt8), t.length ≤ 65536 → acc.length ≤ 1024 → tupR f k acc t = .ok (p, rest) →
    ∃ l, p = tupP (acc ++ l) ∧ t = (if acc.length = 0 then (txtB l).drop 1 else txtB l) ++ 41 :: rest ∧ (∀ x ∈ l, may x = true ∧ dep x ≤ n) ∧ acc.length + l.length ≤ 1024
  | 0, _, _, _, _, _, _, h => by simp [tupR] at h
  | k + 1, acc, t, p, rest, ht, ha, h => by
    rw [tupR] at h
    split at h
    · rename_i hp
      simp only [Except.ok.injEq, Prod.mk.injEq] at h
      obtain ⟨rfl, rfl⟩ := h
      refine ⟨[], by simp, ?_, by simp, by simpa using ha⟩
      have : (if acc.length = 0 then (txtB []).drop 1 else txtB []) = [] := by split <;> simp [txtB]
      rw [this]
      simpa using prefix_split hp
    · split at h
      · rename_i h0
        split at h
        · rename_i x t' hx
          obtain ⟨e1, e2, e3⟩ := hf _ _ _ ht hx
          have hlt : t'.length ≤ 65536 := by rw [e1] at ht; simp at ht; omega
          obtain ⟨l, q1, q2, q3, q4⟩ := tup_inv hf k (acc ++ [x]) t' p rest hlt (by simp; omega) h
          refine ⟨x :: l, by rw [q1]; simp, ?_, ?_, by simp at q4 ⊢; omega⟩
          · rw [if_pos h0]
            rw [if_neg (by simp)] at q2
            rw [e1, q2, txtB]; simp
          · intro y hy
            rcases List.mem_cons.1 hy with rfl | hy
            · exact ⟨e2, e3⟩
            · exact q3 y hy
        · cases h
      · rename_i h0
        split at h
        · rename_i hc
          split at h
          · rename_i x t' hx
            have hp := prefix_split hc.2
            have hl1 : (t.drop 1).length ≤ 65536 := by rw [List.length_drop]; omega
            obtain ⟨e1, e2, e3⟩ := hf _ _ _ hl1 hx
            have hlt : t'.length ≤ 65536 := by rw [e1] at hl1; simp at hl1; omega
            obtain ⟨l, q1, q2, q3, q4⟩ := tup_inv hf k (acc ++ [x]) t' p rest hlt (by simp; omega) h
            refine ⟨x :: l, by rw [q1]; simp, ?_, ?_, by simp at q4 ⊢; omega⟩
            · rw [if_neg h0]
              rw [if_neg (by simp)] at q2
              rw [hp, show ([32] : List UInt8).length = 1 from rfl, e1, q2, txtB]; simp
            · intro y hy
              rcases List.mem_cons.1 hy with rfl | hy
              · exact ⟨e2, e3⟩
              · exact q3 y hy
          · cases h
        · cases h
theorem rdV_inv {f : List UInt8 → Got} {n : Nat} (hf : ∀ t p rest, t.length ≤ 65536 → f t = .ok (p, rest) → 40 :: t = txt p ++ rest ∧ may p = true ∧ dep p ≤ n) : Says (rdV f) n := by
  intro t p rest ht h
  cases t with
  | nil => simp [rdV] at h
  | cons c t =>
    have ht' : t.length ≤ 65536 := by simp at ht; omega
    have leaf : c :: t = txt p ++ rest ∧ Leaf p → c :: t = txt p ++ rest ∧ may p = true ∧ dep p ≤ n := fun ⟨e, hl⟩ => ⟨e, hl.may, by rw [hl.dep]; omega⟩
    rw [rdV] at h
    split at h
    · exact leaf (num_inv h)
    · split at h
      · rename_i hc; subst hc; exact leaf (bytes_inv ht' h)
      · split at h
        · rename_i hc; subst hc; exact leaf (id_inv h)
        · split at h
          · rename_i hc; subst hc; exact leaf (quo_inv (.inl ⟨rfl, rfl⟩) ht' h)
          · split at h
            · rename_i hc; subst hc; exact leaf (quo_inv (.inr ⟨rfl, rfl⟩) ht' h)
            · split at h
              · rename_i hc; subst hc; exact hf t p rest ht' h
              · exact leaf (word_inv h)
theorem rd_inv : ∀ (n : Nat), Says (rd n) n
  | 0 => rdV_inv fun t p rest _ h => by cases h
  | n + 1 => rdV_inv fun t p rest ht h => by
    obtain ⟨l, q1, q2, q3, q4⟩ := tup_inv (rd_inv n) _ [] t p rest ht (by simp) h
    simp only [List.nil_append] at q1
    subst q1
    refine ⟨?_, ?_, ?_⟩
    · rw [txt_tup]
      rw [if_pos (show ([] : List Prt).length = 0 from rfl)] at q2
      rw [q2]; simp
    · rw [tupP, may_mk]
      have hall : l.all may = true := List.all_eq_true.2 fun x hx => (q3 x hx).1
      have h0 : (⟨#[]⟩ : ByteArray).size = 0 := rfl
      generalize (⟨#[]⟩ : ByteArray) = E at *
      have q4' : l.length ≤ 1024 := by simpa using q4
      simp [hall, h0, q4', isRawK]
    · rw [tupP, dep, if_pos rfl]
      have : depL l ≤ n := by
        have hx : ∀ x ∈ l, dep x ≤ n := fun x hx => (q3 x hx).2
        clear q2 q3 q4 h
        induction l with
        | nil => simp [depL]
        | cons a r ih =>
          rw [depL]
          have h1 := hx a (by simp)
          have h2 := ih (fun x hx' => hx x (by simp [hx']))
          omega
      omega
end Go.Proofs.Ytffhbellpcneeaa
