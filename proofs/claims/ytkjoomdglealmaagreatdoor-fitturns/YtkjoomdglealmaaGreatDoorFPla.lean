/- Which values a field has, as plain data (lemmas; nothing is claimed here). -/
import Derived.Test.YtkjoomdglealmaaGreatDoorJ25
namespace Go.Proofs.YtkjoomdglealmaaGreatDoor
open Go.RowKit Go.Vf

/-- Why a value is none: the number, the place, the path, the number of why. -/
abbrev Bad := Option (Int × Int × List Int × Int)
/-- The path's front. -/
def ahead (i : Nat) : Bad → Bad
  | none => none
  | some (c, a, P, y) => some (c, a, (i : Int) :: P, y)

mutual
/-- Why a part is none of a field's; U: what utf.Check says of bytes. -/
def unf (U : ByteArray → Int) : Fld → Prt → Bad
  | .mk o l, .mk k _ b m r t =>
    if k = 0 then (if o.nulls = 0 then some (121, 0, [], 0) else none)
    else if k ≠ o.kind then some (120, 0, [], 4)
    else if k = 2 then (if oobR o b m then some (123, 0, [], 0) else none)
    else if isRawK k then bytE (bytR o r.size (U r)) (U r)
    else if k = 7 then (if t.length ≠ l.length then some (122, 0, [], 0) else unfL U 0 l t)
    else none
def unfL (U : ByteArray → Int) (i : Nat) : List Fld → List Prt → Bad
  | f :: l, p :: t => match unf U f p with
    | none => unfL U (i + 1) l t
    | some r => ahead i (some r)
  | _, _ => none
end

theorem unfL_hit {U : ByteArray → Int} {i : Nat} {f : Fld} {l : List Fld} {p : Prt} {t : List Prt} {r : Int × Int × List Int × Int} (h : unf U f p = some r) : unfL U i (f :: l) (p :: t) = ahead i (some r) := by rw [unfL, h]
theorem unfL_on {U : ByteArray → Int} {i : Nat} {f : Fld} {l : List Fld} {p : Prt} {t : List Prt} (h : unf U f p = none) : unfL U i (f :: l) (p :: t) = unfL U (i + 1) l t := by rw [unfL, h]
theorem unfL_nil {U : ByteArray → Int} {i : Nat} {t : List Prt} : unfL U i [] t = none := by rw [unfL]; simp
theorem unfL_none {U : ByteArray → Int} : ∀ {i : Nat} {l : List Fld} {t : List Prt}, l.length = t.length → (unfL U i l t = none ↔ ∀ j (h1 : j < l.length) (h2 : j < t.length), unf U l[j] t[j] = none) := by
  intro i l
  induction l generalizing i with
  | nil => intro t h; cases t with | nil => simp [unfL] | cons a b => simp at h
  | cons f l ih =>
    intro t h
    cases t with
    | nil => simp at h
    | cons p t =>
      have h' : l.length = t.length := by simpa using h
      cases hu : unf U f p with
      | some r =>
        rw [unfL_hit hu]
        obtain ⟨c, a, P, y⟩ := r
        constructor
        · intro h; simp [ahead] at h
        · intro hh; have := hh 0 (by simp) (by simp); simp [hu] at this
      | none =>
        rw [unfL_on hu, ih h']
        constructor
        · intro hh j h1 h2
          cases j with
          | zero => simpa using hu
          | succ j => simpa using hh j (by simpa using h1) (by simpa using h2)
        · intro hh j h1 h2
          exact hh (j + 1) (Nat.succ_lt_succ h1) (Nat.succ_lt_succ h2)

/-- The path is no longer than the part is deep. -/
theorem unf_len {U : ByteArray → Int} : ∀ (p : Prt) (f : Fld) (c a : Int) (P : List Int) (y : Int), unf U f p = some (c, a, P, y) → P.length ≤ dep p := by
  intro p
  induction p using Prt.ind with
  | h k yy b m r t ih =>
    rintro ⟨o, l⟩ c a P y
    rw [unf]
    by_cases h0 : k = 0
    · rw [if_pos h0]; split
      · intro h; cases h; simp
      · intro h; cases h
    rw [if_neg h0]
    by_cases h1 : k ≠ o.kind
    · rw [if_pos h1]; intro h; cases h; simp
    rw [if_neg h1]
    by_cases h2 : k = 2
    · rw [if_pos h2]; split
      · intro h; cases h; simp
      · intro h; cases h
    rw [if_neg h2]
    by_cases h3 : isRawK k = true
    · rw [if_pos h3, bytE]; split
      · intro h; cases h
      · intro h; cases h; simp
    rw [if_neg h3]
    by_cases h4 : k = 7
    · rw [if_pos h4]
      split
      · intro h; cases h; simp
      · rw [dep, if_pos h4]
        have : ∀ (l : List Fld) (q : List Prt) (i : Nat), (∀ x ∈ q, x ∈ t) → unfL U i l q = some (c, a, P, y) → P.length ≤ depL q + 1 := by
          intro l
          induction l with
          | nil => intro q i _ h; rw [unfL_nil] at h; cases h
          | cons f l ihl =>
            intro q i hq h
            cases q with
            | nil => rw [unfL] at h; cases h; simp
            | cons p q =>
              rw [depL]
              cases hu : unf U f p with
              | none =>
                rw [unfL_on hu] at h
                have := ihl q (i + 1) (fun x hx => hq x (by simp [hx])) h
                omega
              | some z =>
                rw [unfL_hit hu] at h
                obtain ⟨c', a', P', y'⟩ := z
                have := ih p (hq p (by simp)) f _ _ _ _ hu
                simp only [ahead, Option.some.injEq, Prod.mk.injEq] at h
                obtain ⟨_, _, rfl, _⟩ := h
                simp; omega
        exact this l t 0 (fun x hx => hx)
    · rw [if_neg h4]; intro h; cases h

/-- A field that may be, as far as unfit goes. -/
inductive GoodF : Fld → Prop where
  | mk {f : Fld} : 1 ≤ f.own.kind → f.own.kind ≤ 7 → f.own.lm.size ≤ 17179869184 → f.own.hm.size ≤ 17179869184 → (f.own.bnd = true → chk f.own.ln f.own.lm.data.toList = 0 ∧ chk f.own.hn f.own.hm.data.toList = 0) → f.fields.length ≤ 17179869184 → (∀ x ∈ f.fields, GoodF x) → GoodF f

/-- All that a tour sees may be. -/
theorem maySay_good {o : Go.Vf.Own} {n : Nat} (h : maySayO (bndQ o) o n = true) : 1 ≤ o.kind ∧ o.kind ≤ 7 ∧ 0 ≤ o.nulls + 2 - o.nulls ∧ (o.bnd = true → o.kind = 2 ∧ bndQ o = true) ∧ (o.kind = 7 ∨ n = 0) := by
  unfold maySayO at h
  simp only [Bool.and_eq_true, decide_eq_true_eq] at h
  obtain ⟨⟨⟨⟨⟨⟨h1, h2⟩, h3⟩, h4⟩, h5⟩, h6⟩, h7⟩ := h
  refine ⟨h1, h2, by omega, ?_, by simpa using h7⟩
  intro hb
  by_cases hk : o.kind = 2
  · rw [if_pos hk, if_pos hb] at h4; exact ⟨hk, h4⟩
  · rw [if_neg hk, hb] at h4; simp at h4
theorem bndQ_chk {o : Go.Vf.Own} (h : bndQ o = true) : chk o.ln o.lm.data.toList = 0 ∧ chk o.hn o.hm.data.toList = 0 ∧ cmpN o.ln o.lm.data.toList o.hn o.hm.data.toList ≤ 0 := by
  unfold bndQ at h
  simp only [Bool.and_eq_true, decide_eq_true_eq] at h
  exact ⟨h.1.1, h.1.2, h.2⟩
theorem seeF_may {Q : Go.Vf.Own → Bool} {n c : Nat} {ah : List Fld} {f : Fld} (h : seeF Q n c ah f = 0) : c ≤ 64 ∧ n ≤ 16 ∧ isNameS f.own.name = true ∧ maySayO (Q f.own) f.own f.fields.length = true ∧ ¬(f.own.kind = 7 ∧ f.fields = []) := by
  unfold seeF at h
  split at h; · cases h
  split at h; · cases h
  split at h; · cases h
  split at h; · cases h
  split at h; · cases h
  split at h; · cases h
  rename_i h1 h2 h3 _ h5 h6
  exact ⟨by omega, by omega, by simpa using h3, by simpa using h5, h6⟩
theorem seeF_of {Q : Go.Vf.Own → Bool} {n c n' c' : Nat} {ah : List Fld} {f : Fld} (h : seeF Q n c ah f = 0) (hn : n' ≤ n) (hc : c' ≤ c) : seeF Q n' c' [] f = 0 := by
  obtain ⟨h1, h2, h3, h4, h5⟩ := seeF_may h
  unfold seeF
  rw [if_neg (by omega), if_neg (by omega), if_neg (by simp [h3]), if_neg (by simp), if_neg (by simp [h4]), if_neg h5]

/-- A tour that ends well saw each field so. -/
inductive SeenF (Q : Go.Vf.Own → Bool) : Nat → Fld → Prop where
  | mk {n : Nat} {f : Fld} : n ≤ 16 → isNameS f.own.name = true → maySayO (Q f.own) f.own f.fields.length = true → ¬(f.own.kind = 7 ∧ f.fields = []) → (∀ x ∈ f.fields, SeenF Q (n + 1) x) → SeenF Q n f
theorem tour_seen {Q : Go.Vf.Own → Bool} : ∀ (k : Nat) (l : List Fld), SizeOf.sizeOf l ≤ k → ∀ (P : List Int) (ah : List Fld) (n m : Nat), tourL Q P ah n l = .ok m → ∀ x ∈ l, SeenF Q (P.length + 1) x := by
  intro k
  induction k with
  | zero => intro l hk; cases l <;> simp at hk
  | succ k ih =>
    intro l hk P ah n m h x hx
    cases l with
    | nil => cases hx
    | cons f r =>
      obtain ⟨o, g⟩ := f
      have s1 : SizeOf.sizeOf g ≤ k := by simp at hk; omega
      have s2 : SizeOf.sizeOf r ≤ k := by simp at hk; omega
      by_cases he : seeF Q (P.length + 1) (n + 1) ah (.mk o g) = 0
      · cases hb : tourL Q (P ++ [(ah.length : Int)]) [] (n + 1) g with
        | bad c p q => rw [tourL_in Q P ah n (.mk o g) r he hb] at h; cases h
        | ok q =>
          rw [tourL_on Q P ah n (.mk o g) r he hb] at h
          rcases List.mem_cons.1 hx with rfl | hx
          · obtain ⟨_, h2, h3, h4, h5⟩ := seeF_may he
            refine .mk h2 h3 h4 h5 (fun y hy => ?_)
            have := ih g s1 (P ++ [(ah.length : Int)]) [] (n + 1) q hb y hy
            simpa using this
          · exact ih r s2 P _ q m h x hx
      · rw [tourL_bad Q P ah n (.mk o g) r he] at h; cases h
theorem SeenF.good {n : Nat} {f : Fld} (h : SeenF bndQ n f) (hf : FitsF 17179869184 f) : GoodF f := by
  induction h with
  | mk _ _ h1 _ _ ih =>
    obtain ⟨k1, k2, _, k3, _⟩ := maySay_good h1
    refine .mk k1 k2 hf.own.lm hf.own.hm (fun hb => ?_) hf.len (fun x hx => ih x hx (hf.mem hx))
    have := bndQ_chk (k3 hb).2
    exact ⟨this.1, this.2.1⟩

/-- How many fields lie in a list, all in all. -/
def cntL : List Fld → Nat
  | [] => 0
  | .mk _ l :: r => 1 + cntL l + cntL r
termination_by l => SizeOf.sizeOf l
theorem tour_count {Q : Go.Vf.Own → Bool} : ∀ (k : Nat) (l : List Fld), SizeOf.sizeOf l ≤ k → ∀ (P : List Int) (ah : List Fld) (n m : Nat), tourL Q P ah n l = .ok m → m = n + cntL l := by
  intro k
  induction k with
  | zero => intro l hk; cases l <;> simp at hk
  | succ k ih =>
    intro l hk P ah n m h
    cases l with
    | nil => rw [tourL_nil] at h; cases h; rw [cntL]; rfl
    | cons f r =>
      obtain ⟨o, g⟩ := f
      have s1 : SizeOf.sizeOf g ≤ k := by simp at hk; omega
      have s2 : SizeOf.sizeOf r ≤ k := by simp at hk; omega
      by_cases he : seeF Q (P.length + 1) (n + 1) ah (.mk o g) = 0
      · cases hb : tourL Q (P ++ [(ah.length : Int)]) [] (n + 1) g with
        | bad c p q => rw [tourL_in Q P ah n (.mk o g) r he hb] at h; cases h
        | ok q =>
          rw [tourL_on Q P ah n (.mk o g) r he hb] at h
          have e1 := ih g s1 _ _ _ _ hb
          have e2 := ih r s2 _ _ _ _ h
          rw [cntL]; omega
      · rw [tourL_bad Q P ah n (.mk o g) r he] at h; cases h
/-- What was well deeper, behind others, is well here. -/
theorem tour_less {Q : Go.Vf.Own → Bool} : ∀ (k : Nat) (l : List Fld), SizeOf.sizeOf l ≤ k → ∀ (P : List Int) (ah : List Fld) (n m : Nat), tourL Q P ah n l = .ok m → ∀ (P' : List Int) (n' : Nat), P'.length ≤ P.length → n' ≤ n → tourL Q P' ah n' l = .ok (n' + cntL l) := by
  intro k
  induction k with
  | zero => intro l hk; cases l <;> simp at hk
  | succ k ih =>
    intro l hk P ah n m h P' n' hP hn
    cases l with
    | nil => rw [tourL_nil, cntL]; rfl
    | cons f r =>
      obtain ⟨o, g⟩ := f
      have s1 : SizeOf.sizeOf g ≤ k := by simp at hk; omega
      have s2 : SizeOf.sizeOf r ≤ k := by simp at hk; omega
      by_cases he : seeF Q (P.length + 1) (n + 1) ah (.mk o g) = 0
      · cases hb : tourL Q (P ++ [(ah.length : Int)]) [] (n + 1) g with
        | bad c p q => rw [tourL_in Q P ah n (.mk o g) r he hb] at h; cases h
        | ok q =>
          rw [tourL_on Q P ah n (.mk o g) r he hb] at h
          have eq := tour_count _ g (Nat.le_refl _) _ _ _ _ hb
          have he' : seeF Q (P'.length + 1) (n' + 1) ah (.mk o g) = 0 := by
            unfold seeF at he ⊢
            split at he; · cases he
            split at he; · cases he
            rw [if_neg (by omega), if_neg (by omega)]
            exact he
          have hb' := ih g s1 _ _ _ _ hb (P' ++ [(ah.length : Int)]) (n' + 1) (by simpa using hP) (by omega)
          rw [tourL_on Q P' ah n' (.mk o g) r he' hb']
          have := ih r s2 _ _ _ _ h P' (n' + 1 + cntL g) hP (by omega)
          rw [this, cntL]; congr 1; omega
      · rw [tourL_bad Q P ah n (.mk o g) r he] at h; cases h
/-- A field of a list that is well is well alone. -/
theorem tour_alone {Q : Go.Vf.Own → Bool} : ∀ (l : List Fld) (P : List Int) (ah : List Fld) (n m : Nat), tourL Q P ah n l = .ok m → ∀ x ∈ l, ∃ q, tourL Q [] [] 0 [x] = .ok q := by
  intro l
  induction l with
  | nil => intro P ah n m _ x hx; cases hx
  | cons f r ih =>
    intro P ah n m h x hx
    by_cases he : seeF Q (P.length + 1) (n + 1) ah f = 0
    · cases hb : tourL Q (P ++ [(ah.length : Int)]) [] (n + 1) f.fields with
      | bad c p q => rw [tourL_in Q P ah n f r he hb] at h; cases h
      | ok q =>
        rw [tourL_on Q P ah n f r he hb] at h
        rcases List.mem_cons.1 hx with rfl | hx
        · have h1 := seeF_of he (n' := 1) (c' := 1) (by omega) (by omega)
          have h2 := tour_less _ _ (Nat.le_refl _) _ _ _ _ hb [((0 : Nat) : Int)] 1 (by simp) (by omega)
          exact ⟨_, by rw [tourL_on Q [] [] 0 x [] h1 h2, tourL_nil]⟩
        · exact ih P _ q m h x hx
    · rw [tourL_bad Q P ah n f r he] at h; cases h
theorem tour_bad {Q : Go.Vf.Own → Bool} : ∀ (k : Nat) (l : List Fld), SizeOf.sizeOf l ≤ k → ∀ (P : List Int) (ah : List Fld) (n : Nat) (c : Int) (p : List Int) (m : Nat), tourL Q P ah n l = .bad c p m → c ≠ 0 := by
  intro k
  induction k with
  | zero => intro l hk; cases l <;> simp at hk
  | succ k ih =>
    intro l hk P ah n c p m h
    cases l with
    | nil => rw [tourL_nil] at h; cases h
    | cons f r =>
      obtain ⟨o, g⟩ := f
      have s1 : SizeOf.sizeOf g ≤ k := by simp at hk; omega
      have s2 : SizeOf.sizeOf r ≤ k := by simp at hk; omega
      by_cases he : seeF Q (P.length + 1) (n + 1) ah (.mk o g) = 0
      · cases hb : tourL Q (P ++ [(ah.length : Int)]) [] (n + 1) g with
        | bad c' p' q => rw [tourL_in Q P ah n (.mk o g) r he hb] at h; cases h; exact ih g s1 _ _ _ _ _ _ hb
        | ok q => rw [tourL_on Q P ah n (.mk o g) r he hb] at h; exact ih r s2 _ _ _ _ _ _ h
      · rw [tourL_bad Q P ah n (.mk o g) r he] at h; cases h; exact he
theorem chkS_tour {Q : Go.Vf.Own → Bool} {limit : Int} {l : List Fld} (h : (chkS Q limit l).1 = 0) : ∃ m, tourL Q [] [] 0 l = .ok m := by
  unfold chkS at h
  split at h; · cases h
  split at h; · cases h
  cases ht : tourL Q [] [] 0 l with
  | ok m => exact ⟨m, rfl⟩
  | bad c p n => rw [ht] at h; exact absurd h (tour_bad _ l (Nat.le_refl _) _ _ _ _ _ _ ht)
theorem tour_chkS {Q : Go.Vf.Own → Bool} {limit : Int} {l : List Fld} {m : Nat} (h : tourL Q [] [] 0 l = .ok m) (h1 : 1 ≤ limit) (h2 : limit ≤ 65536) (hl : l ≠ []) : (chkS Q limit l).1 = 0 := by
  unfold chkS
  rw [if_neg (by omega), if_neg hl, h]
/-- A field's own fields are well alone, if it is. -/
theorem chkS_item {Q : Go.Vf.Own → Bool} {f : Fld} (h : (chkS Q 65536 [f]).1 = 0) {x : Fld} (hx : x ∈ f.fields) : (chkS Q 65536 [x]).1 = 0 := by
  obtain ⟨m, hm⟩ := chkS_tour h
  by_cases he : seeF Q 1 1 [] f = 0
  · cases hb : tourL Q [((0 : Nat) : Int)] [] 1 f.fields with
    | bad c p q =>
      have := tourL_in Q [] [] 0 f [] he hb
      rw [this] at hm; cases hm
    | ok q =>
      obtain ⟨r, hr⟩ := tour_alone _ _ _ _ _ hb x hx
      exact tour_chkS hr (by omega) (by omega) (by simp)
  · have := tourL_bad Q [] [] 0 f [] he
    rw [this] at hm; cases hm
/-- It is well with other names, turned, with other nulls. -/
theorem chkS_turn {Q : Go.Vf.Own → Bool} {o o' : Go.Vf.Own} {l : List Fld} (h : (chkS Q 65536 [.mk o l]).1 = 0) (hn : isNameS o'.name = true) (hm : maySayO (Q o') o' l.length = true) (hk : o'.kind = o.kind) : (chkS Q 65536 [.mk o' l]).1 = 0 := by
  obtain ⟨m, hm0⟩ := chkS_tour h
  by_cases he : seeF Q 1 1 [] (.mk o l) = 0
  · have he' : seeF Q 1 1 [] (.mk o' l) = 0 := by
      obtain ⟨_, _, _, _, h5⟩ := seeF_may he
      unfold seeF
      rw [if_neg (by omega), if_neg (by omega), if_neg (by rw [Fld.own, hn]; simp), if_neg (by simp), if_neg (by rw [Fld.own, Fld.fields, hm]; simp), if_neg (by rw [Fld.own, hk]; exact h5)]
    cases hb : tourL Q [((0 : Nat) : Int)] [] 1 l with
    | bad c p q =>
      have := tourL_in Q [] [] 0 (.mk o l) [] he hb
      rw [this] at hm0; cases hm0
    | ok q =>
      have := tourL_on Q [] [] 0 (.mk o' l) [] he' hb
      rw [tourL_nil] at this
      exact tour_chkS this (by omega) (by omega) (by simp)
  · have := tourL_bad Q [] [] 0 (.mk o l) [] he
    rw [this] at hm0; cases hm0
/-- The Limit does not matter to the fields. -/
theorem chkS_limit {Q : Go.Vf.Own → Bool} {f : Fld} (h : (chkS Q 65536 [f]).1 = 0) {limit : Int} (h1 : 1 ≤ limit) (h2 : limit ≤ 65536) : (chkS Q limit [f]).1 = 0 := by
  obtain ⟨m, hm⟩ := chkS_tour h
  exact tour_chkS hm h1 h2 (by simp)
theorem chkS_seen {Q : Go.Vf.Own → Bool} {limit : Int} {l : List Fld} (h : (chkS Q limit l).1 = 0) : ∀ x ∈ l, SeenF Q 1 x := by
  obtain ⟨m, hm⟩ := chkS_tour h
  exact fun x hx => tour_seen _ l (Nat.le_refl _) [] [] 0 m hm x hx
end Go.Proofs.YtkjoomdglealmaaGreatDoor
