/- A value's text, and a text's value, as plain functions; there and back (lemmas; nothing is claimed here). -/
import Derived.Test.YtffhbellpcneeaaLHex
import Derived.Test.YtffhbellpcneeaaJ6
namespace Go.Proofs.Ytffhbellpcneeaa
open Go.RowKit Go.Vf

def rawTxt (k : Int) (r : List UInt8) : List UInt8 :=
  if k = 3 then 120 :: r.flatMap hex2 else if k = 4 then 35 :: r.flatMap hex2 else if k = 5 then 39 :: (r.flatMap (spelt 39) ++ [39]) else 34 :: (r.flatMap (spelt 34) ++ [34])
mutual
def txt : Prt → List UInt8
  | .mk k y b m r l => if k = 0 then [110, 117, 108, 108] else if k = 1 then (if y then [121, 101, 115] else [110, 111]) else if k = 2 then printL b m.data.toList
      else if k = 7 then 40 :: ((txtB l).drop 1 ++ [41]) else rawTxt k r.data.toList
def txtB : List Prt → List UInt8
  | [] => []
  | x :: r => 32 :: (txt x ++ txtB r)
end
theorem txtB_snoc (l : List Prt) (x : Prt) : txtB (l ++ [x]) = txtB l ++ 32 :: txt x := by
  induction l with
  | nil => simp [txtB]
  | cons a r ih => rw [List.cons_append, txtB, txtB, ih]; simp
theorem txtB_take (l : List Prt) (k : Nat) (hk : k < l.length) : txtB (l.take (k + 1)) = txtB (l.take k) ++ 32 :: txt l[k] := by
  rw [List.take_succ_eq_append_getElem hk, txtB_snoc]
theorem txtB_ne {l : List Prt} (h : l ≠ []) : txtB l ≠ [] := by
  cases l with
  | nil => exact absurd rfl h
  | cons a r => rw [txtB]; simp

def nullP : Prt := .mk 0 false false ⟨#[]⟩ ⟨#[]⟩ []
def boolP (y : Bool) : Prt := .mk 1 y false ⟨#[]⟩ ⟨#[]⟩ []
def numP (b : Bool) (m : List UInt8) : Prt := .mk 2 false b (bs m) ⟨#[]⟩ []
def rawP (k : Int) (r : List UInt8) : Prt := .mk k false false ⟨#[]⟩ (bs r) []
def tupP (l : List Prt) : Prt := .mk 7 false false ⟨#[]⟩ ⟨#[]⟩ l

abbrev Got := Except Nat (Prt × List UInt8)
def quoR (k : Int) (q : UInt8) (t : List UInt8) : Got := match unq q (t.length + 1) t with
  | some (r, rest) => .ok (rawP k r, rest)
  | none => .error (t.length + 1)
def wordR (l : List UInt8) : Got :=
  if [110, 117, 108, 108].isPrefixOf l then .ok (nullP, l.drop 4) else if [121, 101, 115].isPrefixOf l then .ok (boolP true, l.drop 3)
  else if [110, 111].isPrefixOf l then .ok (boolP false, l.drop 2) else .error l.length
def numR (c : UInt8) (t : List UInt8) : Got := match parseR (c :: t.takeWhile isDig) with
  | .ok (b, m) => .ok (numP b m, t.dropWhile isDig)
  | .error _ => .error (t.length + 1)
def bytesR (t : List UInt8) : Got := if (t.takeWhile isHex).length % 2 = 0 then .ok (rawP 3 (unhex (t.takeWhile isHex)), t.dropWhile isHex) else .error (t.length + 1)
def idR (t : List UInt8) : Got := if (t.takeWhile isHex).length = 32 then .ok (rawP 4 (unhex (t.takeWhile isHex)), t.dropWhile isHex) else .error (t.length + 1)
/-- A value, read from the left; tuples by f. With an error: how many bytes are left there. -/
def rdV (f : List UInt8 → Got) : List UInt8 → Got
  | [] => .error 0
  | c :: t => if c = 45 ∨ isDig c = true then numR c t else if c = 120 then bytesR t else if c = 35 then idR t else if c = 39 then quoR 5 39 t else if c = 34 then quoR 6 34 t
      else if c = 40 then f t else wordR (c :: t)
def tupR (f : List UInt8 → Got) : Nat → List Prt → List UInt8 → Got
  | 0, _, t => .error t.length
  | k + 1, acc, t =>
    if [41].isPrefixOf t then .ok (tupP acc, t.drop 1)
    else if acc.length = 0 then
      match f t with
      | .ok (p, t') => tupR f k (acc ++ [p]) t'
      | .error e => .error e
    else if acc.length < 1024 ∧ [32].isPrefixOf t = true then
      match f (t.drop 1) with
      | .ok (p, t') => tupR f k (acc ++ [p]) t'
      | .error e => .error e
    else .error t.length
def rd : Nat → List UInt8 → Got
  | 0 => rdV fun t => .error (t.length + 1)
  | n + 1 => rdV fun t => tupR (rd n) (t.length + 1) [] t

/-- What may stand behind a value. -/
def Stop (l : List UInt8) : Prop := ∀ x, l.head? = some x → x = 32 ∨ x = 41
theorem Stop.hex {l : List UInt8} (h : Stop l) : ∀ x, l.head? = some x → isHex x = false := fun x hx => by
  rcases h x hx with rfl | rfl <;> rfl
theorem Stop.dig {l : List UInt8} (h : Stop l) : ∀ x, l.head? = some x → isDig x = false := fun x hx => by
  rcases h x hx with rfl | rfl <;> rfl
theorem numOk_chk {b : Bool} {m : ByteArray} (h : numOk b m = true) : chk b m.data.toList = 0 := by
  unfold numOk at h
  unfold chk
  simp only [Bool.and_eq_true, decide_eq_true_eq, Bool.not_eq_true'] at h
  have : m.data.toList.length ≤ 255 := by rw [← Lib.size_eq]; exact h.1
  rw [if_neg (by omega), if_neg (by rw [h.2]; simp)]
theorem chk_numOk {b : Bool} {m : List UInt8} (h : chk b m = 0) : numOk b (bs m) = true := by
  unfold numOk
  unfold chk at h
  rw [bs_data, bs_size]
  split at h
  · omega
  · split at h
    · omega
    · rename_i h1 h2
      simp only [Bool.and_eq_true, decide_eq_true_eq, Bool.not_eq_true']
      exact ⟨by omega, by simpa using h2⟩
theorem dig_hex {x : UInt8} (h : isDig x = true) : isHex x = true := by simp [isHex, h]
/-- A number's text: '-' or a digit first, then digits. -/
theorem printL_form {b : Bool} {m : List UInt8} (h : chk b m = 0) : ∃ c d, printL b m = c :: d ∧ (c = 45 ∨ isDig c = true) ∧ ∀ x ∈ d, isDig x = true := by
  obtain ⟨h1, h2, h3⟩ := chk_zero h
  unfold printL
  by_cases hm : m = []
  · subst hm; exact ⟨48, [], rfl, .inr rfl, by simp⟩
  · have hi : m.isEmpty = false := by simpa using hm
    rw [hi]
    have hp := hvl_pos h2 hm
    have hd : ∀ x ∈ (decD (hvl m)).reverse, isDig x = true := fun x hx => decD_digs _ x (List.mem_reverse.1 hx)
    cases b with
    | true => exact ⟨45, _, rfl, .inl rfl, hd⟩
    | false =>
      cases hr : (decD (hvl m)).reverse with
      | nil => exact absurd (decD_nil.1 (List.reverse_eq_nil_iff.1 hr)) hp
      | cons c d =>
        rw [hr] at hd
        exact ⟨c, d, rfl, .inr (hd c (by simp)), fun x hx => hd x (by simp [hx])⟩
theorem isDig_ne {x : UInt8} (h : isDig x = true) : x ≠ 45 ∧ x ≠ 120 ∧ x ≠ 35 ∧ x ≠ 39 ∧ x ≠ 34 ∧ x ≠ 40 ∧ x ≠ 41 := by
  refine ⟨?_, ?_, ?_, ?_, ?_, ?_, ?_⟩ <;> rintro rfl <;> simp [isDig] at h

/-- A text begins with no ')'. -/
theorem txt_head {p : Prt} (hp : may p = true) (t : List UInt8) : [41].isPrefixOf (txt p ++ t) = false := by
  have hs := may_shape hp
  cases hs with
  | null => rfl
  | truth y => cases y <;> rfl
  | num b m =>
    have hn : numOk b m = true := by
      rw [may_eq] at hp
      simp [own2, Prt.kind, Prt.neg, Prt.mag] at hp
      exact hp.1.2
    obtain ⟨c, d, e, hc, _⟩ := printL_form (numOk_chk hn)
    have : txt (.mk 2 false b m ⟨#[]⟩ []) = printL b m.data.toList := by simp [txt]
    rw [this, e]
    have hne : c ≠ 41 := by
      rcases hc with rfl | hc
      · decide
      · exact (isDig_ne hc).2.2.2.2.2.2
    simp [List.isPrefixOf, Ne.symm hne]
  | raw k r hk =>
    have h0 : k ≠ 0 := by rintro rfl; simp [isRawK] at hk
    have h1 : k ≠ 1 := by rintro rfl; simp [isRawK] at hk
    have h2 : k ≠ 2 := by rintro rfl; simp [isRawK] at hk
    have h7 : k ≠ 7 := by rintro rfl; simp [isRawK] at hk
    have : txt (.mk k false false ⟨#[]⟩ r []) = rawTxt k r.data.toList := by simp [txt, h0, h1, h2, h7]
    rw [this]
    unfold rawTxt
    split
    · rfl
    · split
      · rfl
      · split <;> rfl
  | tup l _ _ => simp [txt, List.isPrefixOf]

theorem tup_read {f : List UInt8 → Got} (rest : List UInt8) : ∀ (l acc : List Prt) (k : Nat), l.length < k → acc.length + l.length ≤ 1024 → (∀ x ∈ l, may x = true) → (∀ x ∈ l, ∀ r, Stop r → f (txt x ++ r) = .ok (x, r)) →
    tupR f k acc ((if acc.length = 0 then (txtB l).drop 1 else txtB l) ++ 41 :: rest) = .ok (tupP (acc ++ l), rest) := by
  intro l
  induction l with
  | nil =>
    intro acc k hk _ _ _
    obtain ⟨k, rfl⟩ : ∃ j, k = j + 1 := ⟨k - 1, by simp at hk; omega⟩
    have : (if acc.length = 0 then (txtB []).drop 1 else txtB []) = [] := by split <;> simp [txtB]
    rw [this, tupR]
    simp [List.isPrefixOf]
  | cons x l ih =>
    intro acc k hk hlen hm hf
    obtain ⟨k, rfl⟩ : ∃ j, k = j + 1 := ⟨k - 1, by simp at hk; omega⟩
    have hst : Stop (txtB l ++ 41 :: rest) := by
      intro y hy
      cases l with
      | nil => simp [txtB] at hy; exact .inr hy.symm
      | cons a r => rw [txtB] at hy; simp at hy; exact .inl hy.symm
    have hx := hf x (by simp) _ hst
    have hrest := ih (acc ++ [x]) k (by simp at hk; omega) (by simp at hlen ⊢; omega) (fun y hy => hm y (by simp [hy])) (fun y hy => hf y (by simp [hy]))
    rw [if_neg (by simp)] at hrest
    rw [tupR]
    by_cases ha : acc.length = 0
    · rw [if_pos ha, if_pos ha]
      have e : (txtB (x :: l)).drop 1 ++ 41 :: rest = txt x ++ (txtB l ++ 41 :: rest) := by rw [txtB]; simp
      rw [e, if_neg (by rw [txt_head (hm x (by simp))]; simp), hx]
      simp only
      rw [hrest]
      simp
    · rw [if_neg ha, if_neg ha]
      have e : txtB (x :: l) ++ 41 :: rest = 32 :: (txt x ++ (txtB l ++ 41 :: rest)) := by rw [txtB]; simp
      rw [e, if_neg (by simp [List.isPrefixOf]), if_pos ⟨by simp at hlen; omega, by simp [List.isPrefixOf]⟩, List.drop_one, List.tail_cons, hx]
      simp only
      rw [hrest]
      simp
theorem txtB_len (l : List Prt) : l.length ≤ (txtB l).length := by
  induction l with
  | nil => simp
  | cons a r ih => rw [txtB]; simp; omega

/-- What is printed is read. -/
theorem rd_txt : ∀ (p : Prt), may p = true → ∀ (n : Nat), dep p ≤ n → ∀ rest, Stop rest → rd n (txt p ++ rest) = .ok (p, rest) := by
  intro p
  induction p using Prt.ind with
  | h k y b m r l ih =>
    intro hp n hd rest hst
    have hs := may_shape hp
    obtain ⟨f, hf⟩ : ∃ f, rd n = rdV f := by cases n <;> exact ⟨_, rfl⟩
    generalize hpp : Prt.mk k y b m r l = p at hs hp hd ⊢
    cases hs with
    | null => rw [hf]; simp [txt, rdV, wordR, List.isPrefixOf, isDig, nullP]
    | truth y => rw [hf]; cases y <;> simp [txt, rdV, wordR, List.isPrefixOf, isDig, boolP]
    | num b m =>
      have hn : numOk b m = true := by
        rw [may_eq] at hp
        simp [own2, Prt.kind, Prt.neg, Prt.mag] at hp
        exact hp.1.2
      have hc0 := numOk_chk hn
      have ht : txt (.mk 2 false b m ⟨#[]⟩ []) = printL b m.data.toList := by simp [txt]
      obtain ⟨c, d, e, hc, hd'⟩ := printL_form hc0
      obtain ⟨t1, t2⟩ := takeW hd' hst.dig
      rw [ht, hf, e, List.cons_append, rdV, if_pos hc, numR, t1, t2, ← e, parse_print hc0]
      simp [numP, bs_of]
    | raw k r hk =>
      have h0 : k ≠ 0 := by rintro rfl; simp [isRawK] at hk
      have h1 : k ≠ 1 := by rintro rfl; simp [isRawK] at hk
      have h2 : k ≠ 2 := by rintro rfl; simp [isRawK] at hk
      have h7 : k ≠ 7 := by rintro rfl; simp [isRawK] at hk
      have ht : txt (.mk k false false ⟨#[]⟩ r []) = rawTxt k r.data.toList := by simp [txt, h0, h1, h2, h7]
      have hlen : r.data.toList.length ≤ 65536 ∧ (k = 4 → r.data.toList.length = 16) := by
        rw [may_eq] at hp
        simp only [own2, Prt.kind, Prt.neg, Prt.mag, Prt.raw, Prt.items, Bool.and_eq_true, Bool.or_eq_true, beq_iff_eq] at hp
        rw [← Lib.size_eq]
        rcases hp.1.2 with ((((h | h) | h) | h) | h) | h
        · exact absurd h h0
        · exact absurd h h1
        · exact absurd h.1 h2
        · exact ⟨of_decide_eq_true h.2, fun e => by subst e; simp at h⟩
        · exact ⟨by omega, fun _ => h.2⟩
        · exact absurd h.1 h7
      rw [ht, hf]
      obtain ⟨t1, t2⟩ := takeW (hex2_all r.data.toList) hst.hex
      have hk' : k = 3 ∨ k = 4 ∨ k = 5 ∨ k = 6 := by simpa [isRawK, or_assoc] using hk
      rcases hk' with rfl | rfl | rfl | rfl
      · show rdV f (120 :: (r.data.toList.flatMap hex2 ++ rest)) = _
        rw [rdV, if_neg (by simp [isDig]), if_pos rfl, bytesR, t1, t2, if_pos (by rw [hex2_length]; omega), unhex_hex2]
        simp [rawP, bs_of]
      · show rdV f (35 :: (r.data.toList.flatMap hex2 ++ rest)) = _
        rw [rdV, if_neg (by simp [isDig]), if_neg (by decide), if_pos rfl, idR, t1, t2, if_pos (by rw [hex2_length, hlen.2 rfl]), unhex_hex2]
        simp [rawP, bs_of]
      · have e : rawTxt 5 r.data.toList ++ rest = 39 :: (r.data.toList.flatMap (spelt 39) ++ 39 :: rest) := by simp [rawTxt]
        rw [e, rdV, if_neg (by simp [isDig]), if_neg (by decide), if_neg (by decide), if_pos rfl, quoR, unq_read (.inl rfl) rest _ _ (by
          have : r.data.toList.length ≤ (r.data.toList.flatMap (spelt 39)).length := by
            generalize r.data.toList = L
            induction L with
            | nil => simp
            | cons a q ihq => rw [List.flatMap_cons, List.length_append, List.length_cons]; have := spelt_pos 39 a; omega
          rw [List.length_append]; simp only [List.length_cons]; omega)]
        simp [rawP, bs_of]
      · have e : rawTxt 6 r.data.toList ++ rest = 34 :: (r.data.toList.flatMap (spelt 34) ++ 34 :: rest) := by simp [rawTxt]
        rw [e, rdV, if_neg (by simp [isDig]), if_neg (by decide), if_neg (by decide), if_neg (by decide), if_pos rfl, quoR, unq_read (.inr rfl) rest _ _ (by
          have : r.data.toList.length ≤ (r.data.toList.flatMap (spelt 34)).length := by
            generalize r.data.toList = L
            induction L with
            | nil => simp
            | cons a q ihq => rw [List.flatMap_cons, List.length_append, List.length_cons]; have := spelt_pos 34 a; omega
          rw [List.length_append]; simp only [List.length_cons]; omega)]
        simp [rawP, bs_of]
    | tup l' hlen hall =>
      injection hpp with e1 e2 e3 e4 e5 e6
      subst e6
      have hdl : dep (.mk 7 false false ⟨#[]⟩ ⟨#[]⟩ l) = depL l + 1 := by rw [dep, if_pos rfl]
      rw [hdl] at hd
      obtain ⟨n, rfl⟩ : ∃ j, n = j + 1 := ⟨n - 1, by omega⟩
      have hm : ∀ x ∈ l, may x = true := List.all_eq_true.1 hall
      have e : txt (.mk 7 false false ⟨#[]⟩ ⟨#[]⟩ l) ++ rest = 40 :: ((txtB l).drop 1 ++ 41 :: rest) := by simp [txt]
      rw [e, rd, rdV, if_neg (by simp [isDig]), if_neg (by decide), if_neg (by decide), if_neg (by decide), if_neg (by decide), if_pos rfl]
      have := tup_read (f := rd n) rest l [] (((txtB l).drop 1 ++ 41 :: rest).length + 1) (by
        have := txtB_len l
        simp; omega) (by simpa using hlen) hm (fun x hx r hr => ih x hx (hm x hx) n (by have := depL_mem hx; omega) r hr)
      simpa [tupP] using this
end Go.Proofs.Ytffhbellpcneeaa
