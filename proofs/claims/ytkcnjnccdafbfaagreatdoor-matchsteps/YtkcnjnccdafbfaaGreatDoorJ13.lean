/- Contracts and lemmas (nothing is claimed here). -/
import Derived.Test.YtkcnjnccdafbfaaGreatDoorJ12
import Derived.Test.YtkcnjnccdafbfaaGreatDoorLoad
import Derived.Test.YtkcnjnccdafbfaaGreatDoorMark
import Derived.Test.YtkcnjnccdafbfaaGreatDoorJ2
import Derived.Test.YtkcnjnccdafbfaaGreatDoorJ1
import Derived.Test.YtkcnjnccdafbfaaGreatDoorProg
namespace Go.Vf
theorem ptR_pointS {u : Nat} (hu : u ≤ 1114111) : ptR (pointS u) = some (u : Int) := by
  have hl6 : (upHex u).length ≤ 6 := upHex_len u 6 (by omega) (by omega)
  have hp := upHex_pos u
  have hlt := upHex_lt u _ (Nat.le_refl _)
  have hlen : (pointS u).length = (4 - (upHex u).length) + (upHex u).length := by rw [pointS_pad, padHex_len]
  unfold ptR hexN
  rw [if_pos, pointS_pad, numB_pad]
  · have hmod : u % 16 ^ ((4 - (upHex u).length) + (upHex u).length) = u := Nat.mod_eq_of_lt (Nat.lt_of_lt_of_le hlt (Nat.pow_le_pow_right (by omega) (by omega)))
    rw [hmod, Nat.zero_mul, Nat.zero_add]
    rfl
  · by_cases h4 : (upHex u).length ≤ 4
    · exact .inl (by omega)
    · refine .inr ⟨by omega, by omega, ?_⟩
      rw [pointS_pad]
      obtain ⟨k, hk⟩ : ∃ k, (upHex u).length = k + 1 := ⟨(upHex u).length - 1, by omega⟩
      have hge : 16 ^ k ≤ u := Nat.not_lt.1 fun h => by have := upHex_len u k h (by omega); omega
      rw [hk] at hlt
      rw [show (4 - (upHex u).length) + (upHex u).length = k + 1 by omega, padHex_head]
      intro e
      have e2 := upDig_zero _ (Nat.mod_lt _ (by omega)) (Option.some.inj e)
      have h1 : 1 ≤ u / 16 ^ k := (Nat.le_div_iff_mul_le (Nat.pow_pos (by omega))).2 (by omega)
      have h2 : u / 16 ^ k < 16 := (Nat.div_lt_iff_lt_mul (Nat.pow_pos (by omega))).2 (by rw [Nat.pow_succ] at hlt; omega)
      omega
theorem pointS_ptR {s : List UInt8} {p : Int} (h : ptR s = some p) : ∃ u : Nat, p = (u : Int) ∧ s = pointS u := by
  unfold ptR hexN at h
  split at h
  · rename_i hs
    cases hn : numB hexV 16 s 0 with
    | none => rw [hn] at h; cases h
    | some n =>
      rw [hn] at h
      have hpn : (n : Int) = p := by simpa using h
      obtain ⟨r, hr, hnr, hpad⟩ := pad_numB s 0 n hn
      have hrn : r = n := by simpa using hnr.symm
      subst hrn
      refine ⟨r, hpn.symm, ?_⟩
      have hl := upHex_len r s.length hr (by omega)
      rw [pointS_pad]
      suffices hE : (4 - (upHex r).length) + (upHex r).length = s.length by rw [hE]; exact hpad
      rcases hs with h4 | ⟨h5, h6, hh⟩
      · omega
      · obtain ⟨k, hk⟩ : ∃ k, s.length = k + 1 := ⟨s.length - 1, by omega⟩
        have hgt : ¬ (upHex r).length ≤ k := fun hle => by
          have hlt := upHex_lt r k hle
          rw [hpad, hk, padHex_head, Nat.div_eq_of_lt hlt] at hh
          exact hh rfl
        omega
  · cases h
theorem upDig_not2 : ∀ d, d < 16 → upDig d ≠ 46 ∧ upDig d ≠ 91 ∧ upDig d ≠ 42 ∧ upDig d ≠ 93 := by decide
theorem pointS_mem2 {u : Nat} {b : UInt8} (h : b ∈ pointS u) : b ≠ 46 ∧ b ≠ 91 ∧ b ≠ 42 ∧ b ≠ 93 := by
  rw [pointS_pad] at h
  obtain ⟨d, hd, rfl⟩ := padHex_mem _ _ b h
  exact upDig_not2 d hd
theorem pointS_four {u : Nat} (hu : u < 65536) : pointS u = padHex 4 u := by
  have hl := upHex_len u 4 hu (by omega)
  rw [pointS_pad, show (4 - (upHex u).length) + (upHex u).length = 4 by omega]
theorem pointS_len4 {u : Nat} (hu : u < 65536) : (pointS u).length = 4 := by rw [pointS_four hu, padHex_len]
theorem fieldR_pointS {u : Nat} (hu : u < 65536) : fieldR (pointS u) = some (u : Int) := by
  unfold fieldR hexN
  rw [pointS_four hu, numB_pad]
  show (if (padHex 4 u).length = 4 then _ else _) = _
  rw [if_pos (padHex_len 4 u), Nat.mod_eq_of_lt hu, Nat.zero_mul, Nat.zero_add]
theorem pointS_fieldR {s : List UInt8} {n : Int} (h : fieldR s = some n) : ∃ u : Nat, u < 65536 ∧ n = (u : Int) ∧ s = pointS u := by
  unfold fieldR hexN at h
  split at h
  · cases h
  · rename_i m hm
    split at h
    · rename_i h4
      obtain ⟨r, hr, hnr, hpad⟩ := pad_numB s 0 m hm
      have hrn : r = m := by simpa using hnr.symm
      subst hrn
      rw [h4] at hr hpad
      refine ⟨r, by omega, by simpa using h.symm, ?_⟩
      rw [pointS_four (by omega)]
      exact hpad
    · cases h
def elP (e : El) : List UInt8 := 91 :: (if e.va then 42 else 46) :: (pointS e.pr.toNat ++ 46 :: (pointS e.se.toNat ++ 46 :: (pointS e.te.toNat ++ [93])))
def wtE (e : El) : Prop := wtB e.pr = true ∧ wtB e.se = true ∧ wtB e.te = true
theorem wtB_nat {n : Int} (h : wtB n = true) : ∃ u : Nat, n = (u : Int) ∧ u < 65536 := by
  unfold wtB at h
  simp at h
  exact ⟨n.toNat, by omega, by omega⟩
theorem elP_len {e : El} (h : wtE e) : (elP e).length = 17 := by
  obtain ⟨h1, h2, h3⟩ := h
  obtain ⟨a, ea, ha⟩ := wtB_nat h1
  obtain ⟨b, eb, hb⟩ := wtB_nat h2
  obtain ⟨c, ec, hc⟩ := wtB_nat h3
  unfold elP
  rw [ea, eb, ec]
  simp [pointS_len4 ha, pointS_len4 hb, pointS_len4 hc]
theorem four {l : List UInt8} (h : l.length = 4) : ∃ a b c d, l = [a, b, c, d] := by
  match l, h with
  | [a, b, c, d], _ => exact ⟨a, b, c, d, rfl⟩
theorem elR_elP {e : El} (h : wtE e) : elR (elP e) = some e := by
  obtain ⟨h1, h2, h3⟩ := h
  obtain ⟨a, ea, ha⟩ := wtB_nat h1
  obtain ⟨b, eb, hb⟩ := wtB_nat h2
  obtain ⟨c, ec, hc⟩ := wtB_nat h3
  have hA : ∀ x ∈ pointS a, x ≠ 46 := fun x hx => (pointS_mem2 hx).1
  have hB : ∀ x ∈ pointS b, x ≠ 46 := fun x hx => (pointS_mem2 hx).1
  have hC : ∀ x ∈ pointS c, x ≠ 46 := fun x hx => (pointS_mem2 hx).1
  have hcut : cutL 46 (pointS a ++ 46 :: (pointS b ++ 46 :: pointS c)) = [pointS a, pointS b, pointS c] := by
    rw [cutL_split 46 _ _ hA, cutL_split 46 _ _ hB, cutL_plain 46 _ hC]
  obtain ⟨a0, a1, a2, a3, pa⟩ := four (pointS_len4 ha)
  obtain ⟨b0, b1, b2, b3, pb⟩ := four (pointS_len4 hb)
  obtain ⟨c0, c1, c2, c3, pc⟩ := four (pointS_len4 hc)
  have fa := fieldR_pointS ha
  have fb := fieldR_pointS hb
  have fc := fieldR_pointS hc
  obtain ⟨va, pr, se, te⟩ := e
  simp only at ea eb ec
  subst ea eb ec
  unfold elP
  simp only [Int.toNat_natCast]
  simp only [pa, pb, pc] at hcut fa fb fc ⊢
  unfold elR
  rw [if_pos (by cases va <;> simp)]
  have : (List.drop 2 (91 :: (if va = true then 42 else 46) :: ([a0, a1, a2, a3] ++ 46 :: ([b0, b1, b2, b3] ++ 46 :: ([c0, c1, c2, c3] ++ [93]))))).take 14 = [a0, a1, a2, a3] ++ 46 :: ([b0, b1, b2, b3] ++ 46 :: [c0, c1, c2, c3]) := rfl
  rw [this, hcut]
  simp only [fieldsR, fa, fb, fc]
  cases va <;> simp
theorem elP_elR {s : List UInt8} {e : El} (hl : s.length = 17) (h : elR s = some e) : wtE e ∧ s = elP e := by
  unfold elR at h
  split at h
  · rename_i hc
    obtain ⟨h0, h1, h16⟩ := hc
    have hsplit : s = s.take 2 ++ ((s.drop 2).take 14 ++ s.drop 16) := by
      rw [show s.drop 16 = (s.drop 2).drop 14 by rw [List.drop_drop], List.take_append_drop, List.take_append_drop]
    have ht2 : s.take 2 = [s[0]'(by omega), s[1]'(by omega)] := by
      match s, hl with
      | a :: b :: r, _ => simp
    have hd : s.drop 16 = [93] := by
      rw [List.drop_eq_getElem_cons (by omega), List.drop_of_length_le (by omega)]
      rw [List.getElem?_eq_getElem (by omega)] at h16
      rw [Option.some.inj h16]
    rw [List.getElem?_eq_getElem (by omega)] at h0 h1
    have hj := cut_join 46 ((s.drop 2).take 14)
    unfold fieldsR at h
    split at h
    · rename_i va0 a b c hcut
      rw [hcut] at hj
      simp only at hj
      split at h
      · cases h
      · rename_i x hx
        split at h
        · cases h
        · rename_i y hy
          split at h
          · cases h
          · rename_i z hz
            obtain ⟨u, hu, rfl, rfl⟩ := pointS_fieldR hx
            obtain ⟨v, hv, rfl, rfl⟩ := pointS_fieldR hy
            obtain ⟨t, ht, rfl, rfl⟩ := pointS_fieldR hz
            have he := Option.some.inj h
            subst he
            refine ⟨⟨by simp [wtB]; omega, by simp [wtB]; omega, by simp [wtB]; omega⟩, ?_⟩
            have e0 : s[0]'(by omega) = 91 := Option.some.inj h0
            have hsp : s = ([91, s[1]'(by omega)] : List UInt8) ++ (pointS u ++ List.flatMap (fun x => 46 :: x) [pointS v, pointS t] ++ [93]) := by
              rw [← hj, ← hd, ← e0, ← ht2]
              exact hsplit
            have hq : s[1]? = some (s[1]'(by omega)) := List.getElem?_eq_getElem (by omega)
            rw [hq]
            generalize s[1]'(by omega) = q at h1 hsp
            rw [hsp]
            unfold elP
            rcases h1 with h1 | h1
            · have e1 : q = 46 := Option.some.inj h1
              rw [e1]; simp
            · have e1 : q = 42 := Option.some.inj h1
              rw [e1]; simp
    · cases h
  · cases h
def elsP (l : List El) : List UInt8 := l.flatMap elP
theorem elsP_len : ∀ (l : List El), (∀ e ∈ l, wtE e) → (elsP l).length = 17 * l.length := by
  intro l
  induction l with
  | nil => intro _; rfl
  | cons e r ih =>
    intro h
    have := ih (fun x hx => h x (by simp [hx]))
    simp only [elsP, List.flatMap_cons, List.length_append] at this ⊢
    rw [this, elP_len (h e (by simp))]
    simp; omega
theorem elsL_elsP : ∀ (l : List El) (n : Nat), n = l.length → (∀ e ∈ l, wtE e) → elsL n (elsP l) = some l := by
  intro l
  induction l with
  | nil => intro n hn _; subst hn; rfl
  | cons e r ih =>
    intro n hn h
    subst hn
    have hel := elP_len (h e (by simp))
    show elsL (r.length + 1) (elP e ++ elsP r) = _
    rw [elsL, List.take_left' hel, List.drop_left' hel, elR_elP (h e (by simp))]
    simp only
    rw [ih _ rfl (fun x hx => h x (by simp [hx]))]
theorem elsP_elsL : ∀ (n : Nat) (s : List UInt8) (l : List El), s.length = 17 * n → elsL n s = some l → s = elsP l ∧ ∀ e ∈ l, wtE e := by
  intro n
  induction n with
  | zero =>
    intro s l hs h
    simp [elsL] at h; subst h
    refine ⟨List.eq_nil_of_length_eq_zero (by omega), by simp⟩
  | succ n ih =>
    intro s l hs h
    unfold elsL at h
    split at h
    · cases h
    · rename_i e he
      split at h
      · cases h
      · rename_i q hq
        have := Option.some.inj h
        subst this
        obtain ⟨h1, h2⟩ := ih _ _ (by rw [List.length_drop]; omega) hq
        obtain ⟨h3, h4⟩ := elP_elR (by rw [List.length_take]; omega) he
        refine ⟨?_, ?_⟩
        · show s = elP e ++ elsP q
          rw [← h1, ← h4, List.take_append_drop]
        · intro x hx
          rcases List.mem_cons.1 hx with rfl | hx
          · exact h3
          · exact h2 x hx
theorem elsR_elsP {l : List El} (h0 : 1 ≤ l.length) (h1 : l.length ≤ 16) (h : ∀ e ∈ l, wtE e) : elsR (elsP l) = some l := by
  have hl := elsP_len l h
  unfold elsR
  rw [if_neg]
  · exact elsL_elsP l _ (by omega) h
  · rintro (e | e | e)
    · rw [e] at hl; simp at hl; omega
    · omega
    · omega
theorem elsP_elsR {s : List UInt8} {l : List El} (h : elsR s = some l) : s = elsP l ∧ ∀ e ∈ l, wtE e := by
  have h2 := (elsR_len h).2.2
  unfold elsR at h
  split at h
  · cases h
  · exact elsP_elsL _ _ _ (by omega) h
theorem cut1_plain (c : UInt8) : ∀ l : List UInt8, (∀ x ∈ l, x ≠ c) → cut1 c l = (l, []) := by
  intro l
  induction l with
  | nil => intro _; rfl
  | cons b r ih =>
    intro h
    rw [cut1, if_neg (h b (by simp)), ih (fun x hx => h x (by simp [hx]))]
theorem cut1_split (c : UInt8) : ∀ (a r : List UInt8), (∀ x ∈ a, x ≠ c) → cut1 c (a ++ c :: r) = (a, r) := by
  intro a
  induction a with
  | nil => intro r _; simp [cut1]
  | cons b t ih =>
    intro r h
    rw [List.cons_append, cut1, if_neg (h b (by simp)), ih r (fun x hx => h x (by simp [hx]))]
theorem cut1_join (c : UInt8) : ∀ l : List UInt8, (l = (cut1 c l).1 ∧ (cut1 c l).2 = []) ∨ l = (cut1 c l).1 ++ c :: (cut1 c l).2 := by
  intro l
  induction l with
  | nil => exact .inl ⟨rfl, rfl⟩
  | cons b r ih =>
    by_cases h : b = c
    · subst h
      rw [cut1, if_pos rfl]
      exact .inr rfl
    · rw [cut1, if_neg h]
      rcases ih with ⟨h1, h2⟩ | h1
      · exact .inl ⟨by simp [← h1], h2⟩
      · exact .inr (by simp [← h1])
theorem cut1_len (c : UInt8) (l : List UInt8) : (cut1 c l).1.length ≤ l.length ∧ (cut1 c l).2.length ≤ l.length := by
  rcases cut1_join c l with ⟨h1, h2⟩ | h1
  · exact ⟨by rw [← h1]; exact Nat.le_refl _, by rw [h2]; simp⟩
  · have := congrArg List.length h1
    simp at this
    omega
theorem ptsR_map : ∀ (us : List Nat), (∀ q ∈ us, q ≤ 1114111) → ptsR (us.map pointS) = some (us.map fun q : Nat => (q : Int)) := by
  intro us
  induction us with
  | nil => intro _; rfl
  | cons a r ih =>
    intro h
    rw [List.map_cons, ptsR, ptR_pointS (h a (by simp))]
    simp only
    rw [ih (fun q hq => h q (by simp [hq]))]
    rfl
theorem ptsR_line : ∀ (C : List (List UInt8)) (ps : List Int), ptsR C = some ps → C = (ps.map Int.toNat).map pointS ∧ C.length = ps.length := by
  intro C
  induction C with
  | nil => intro ps h; simp [ptsR] at h; subst h; exact ⟨rfl, rfl⟩
  | cons a r ih =>
    intro ps h
    unfold ptsR at h
    split at h
    · cases h
    · rename_i p hp
      split at h
      · cases h
      · rename_i q hq
        simp at h; subst h
        obtain ⟨u, rfl, hs⟩ := pointS_ptR hp
        obtain ⟨h1, h2⟩ := ih _ hq
        refine ⟨?_, by simp [h2]⟩
        rw [hs]
        simp only [List.map_cons, Int.toNat_natCast]
        rw [← h1]
def rowP (p : List Int) : List UInt8 := joinS (p.map Int.toNat)
theorem isPtB_nat {n : Int} (h : isPtB n = true) : ∃ u : Nat, n = (u : Int) ∧ u ≤ 1114111 := by
  unfold isPtB at h
  simp at h
  exact ⟨n.toNat, by omega, by omega⟩
theorem rowB_nat {p : List Int} (h : rowB p = true) : ∃ us : List Nat, p = us.map (fun q : Nat => (q : Int)) ∧ us ≠ [] ∧ us.length ≤ 8 ∧ ∀ q ∈ us, q ≤ 1114111 := by
  unfold rowB at h
  simp only [Bool.and_eq_true, decide_eq_true_eq, List.all_eq_true] at h
  obtain ⟨⟨h1, h2⟩, h3⟩ := h
  refine ⟨p.map Int.toNat, ?_, ?_, by simpa using h2, ?_⟩
  · rw [List.map_map]
    conv => lhs; rw [← List.map_id p]
    apply List.map_congr_left
    intro x hx
    obtain ⟨u, rfl, _⟩ := isPtB_nat (h3 x hx)
    simp
  · intro e
    have := congrArg List.length e
    simp at this
    subst this
    simp at h1
  · intro q hq
    obtain ⟨x, hx, rfl⟩ := List.mem_map.1 hq
    obtain ⟨u, rfl, h⟩ := isPtB_nat (h3 x hx)
    simpa using h
theorem toNat_map (us : List Nat) : (us.map (fun q : Nat => (q : Int))).map Int.toNat = us := by
  rw [List.map_map]
  conv => rhs; rw [← List.map_id us]
  apply List.map_congr_left
  intro x _
  simp
theorem rowP_rowR {s : List UInt8} {p : List Int} (h : rowR s = some p) : s = rowP p := by
  have hb := rowR_ok h
  obtain ⟨us, rfl, hne, _, hq⟩ := rowB_nat hb
  unfold rowR at h
  split at h
  · cases h
  · rename_i l hl
    split at h
    · have := Option.some.inj h
      subst this
      obtain ⟨h1, _⟩ := ptsR_line _ _ hl
      rw [toNat_map] at h1
      unfold rowP
      rw [toNat_map]
      have hj := cut_join 32 s
      rw [h1] at hj
      cases us with
      | nil => exact absurd rfl hne
      | cons a r =>
        rw [joinS_flat]
        simp only [List.map_cons] at hj
        rw [hj, List.flatMap_map]
    · cases h
theorem rowP_mem {p : List Int} : ∀ b ∈ rowP p, b ≠ 10 ∧ b ≠ 59 := joinS_mem _
def entP (x : Ent) : List UInt8 := rowP x.1 ++ 59 :: elsP x.2
theorem entP_entR {s : List UInt8} {x : Ent} (h : entR s = some x) : s = entP x := by
  unfold entR at h
  split at h
  · cases h
  · rename_i p hp
    split at h
    · cases h
    · rename_i l hl
      have := Option.some.inj h
      subst this
      unfold entP
      have h1 := rowP_rowR hp
      obtain ⟨h2, _⟩ := elsP_elsR hl
      have h3 := (elsR_len hl).2.2
      have h4 := (elsR_len hl).1
      rcases cut1_join 59 s with ⟨_, e⟩ | e
      · rw [e] at h3; simp at h3; omega
      · simp only
        rw [← h1, ← h2]
        exact e
end Go.Vf
namespace Go.Proofs.YtkcnjnccdafbfaaGreatDoor
open Go.RowKit Go.Vf Go.Maps
theorem own_other {w w' : World} {b1 : Nat} {e1 : TypeId} {s1 k1 : Nat} {v1 : Value} {x1 : List Value} (h1 : w.ownsRow b1 e1 s1 v1 k1 x1) (hk : ∀ g, v1.ownBlock = some g → w'.heap[g]? = w.heap[g]?) : w'.ownsRow b1 e1 s1 v1 k1 x1 := by
  refine ⟨h1.1, h1.2.imp id fun ⟨g, cap, cur, q1, q2, q3, q4⟩ => ⟨g, cap, cur, q1, q2, ?_, q4⟩⟩
  exact (hk g (by rw [q1]; rfl)).trans q3
def Apt (u v : Value) : Prop := ∀ g, u.ownBlock = some g → v.ownBlock ≠ some g
theorem Apt.symm {u v : Value} (h : Apt u v) : Apt v u := fun g hv hu => h g hu hv
theorem apt_types {w : World} {b1 b2 : Nat} {e1 e2 : TypeId} {s1 s2 k1 k2 : Nat} {v1 v2 : Value} {x1 x2 : List Value} (h1 : w.ownsRow b1 e1 s1 v1 k1 x1) (h2 : w.ownsRow b2 e2 s2 v2 k2 x2) (ht : e1 ≠ e2) : Apt v1 v2 := fun g hg1 hg2 => by
  obtain ⟨_, c1, f1, q1⟩ := own_ge h1 hg1
  obtain ⟨_, c2, f2, q2⟩ := own_ge h2 hg2
  rw [q1] at q2
  simp only [Option.some.injEq, Obj.cells.injEq] at q2
  exact ht q2.2.1
theorem row_lt {w : World} {base : Nat} {e : TypeId} {size k : Nat} {v : Value} {xs : List Value} (h : w.ownsRow base e size v k xs) {g : Nat} (hg : v.ownBlock = some g) : g < w.heap.size := by
  obtain ⟨_, c, f, q⟩ := own_ge h hg
  exact (Array.getElem?_eq_some_iff.1 q).1
theorem apt_new {w : World} {b1 b2 : Nat} {e1 e2 : TypeId} {s1 s2 k1 k2 : Nat} {v1 v2 : Value} {x1 x2 : List Value} {w2 : World} (h1 : w.ownsRow b1 e1 s1 v1 k1 x1) (h2 : w2.ownsRow b2 e2 s2 v2 k2 x2) (hb : w.heap.size ≤ b2) : Apt v1 v2 := fun g hg1 hg2 => by
  have := row_lt h1 hg1
  have := (own_ge h2 hg2).1
  omega
theorem own_grown {w w' : World} {b : Nat} {e : TypeId} {s k : Nat} {v u : Value} {xs : List Value} (h : w.ownsRow b e s v k xs) (hg : w.grownBy w' u.ownBlock) (ha : Apt u v) : w'.ownsRow b e s v k xs :=
  own_other h (fun g hv => hg.block g (row_lt h hv) (fun e => ha g e.symm hv))
theorem blk_grown {w w' : World} {b : Nat} {e : TypeId} {s k B : Nat} {t : TypeId} {u : Value} {xs : List Value} {cs : Array Value} (hb : Blk w B t cs) (hu : w.ownsRow b e s u k xs) (ht : e ≠ t) (hg : w.grownBy w' u.ownBlock) : Blk w' B t cs := by
  refine (hg.block B hb.lt (fun eq => ?_)).trans hb
  obtain ⟨_, c, f, q⟩ := own_ge hu eq.symm
  have := q.symm.trans hb
  simp only [Option.some.injEq, Obj.cells.injEq] at this
  exact ht this.2.1
theorem own_lt {w : World} {b1 : Nat} {e1 : TypeId} {s1 k1 : Nat} {v1 : Value} {x1 : List Value} (h1 : w.ownsRow b1 e1 s1 v1 k1 x1) : ∀ g, v1.ownBlock = some g → g < w.heap.size := fun g hg => by
  obtain ⟨_, cs, f, q⟩ := own_ge h1 hg
  exact (Array.getElem?_eq_some_iff.1 q).1
end Go.Proofs.YtkcnjnccdafbfaaGreatDoor
