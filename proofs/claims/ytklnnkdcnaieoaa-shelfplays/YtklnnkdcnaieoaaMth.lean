/- Keys by their bytes, and lists of pairs by rising keys (the verifier's own lemmas; nothing of any program). -/
import Derived.WalkKit
import Derived.Lib.Strings
namespace Go.Vf

/-- The order of bytes. -/
def cmpL : List UInt8 → List UInt8 → Int
  | [], [] => 0
  | [], _ :: _ => -1
  | _ :: _, [] => 1
  | a :: x, b :: y => if a < b then -1 else if b < a then 1 else cmpL x y
theorem cmpL_same (a : List UInt8) : cmpL a a = 0 := by
  induction a with
  | nil => rfl
  | cons c r ih => simp [cmpL, ih]
theorem cmpL_eq {a b : List UInt8} : cmpL a b = 0 ↔ a = b := by
  fun_induction cmpL a b <;> simp_all
  · rename_i h; intro e; subst e; simp at h
  · rename_i h; intro e; subst e; simp at h
  · rename_i h1 h2 _
    intro _
    exact UInt8.le_antisymm h2 h1
theorem cmpL_three (a b : List UInt8) : cmpL a b = -1 ∨ cmpL a b = 0 ∨ cmpL a b = 1 := by
  fun_induction cmpL a b <;> simp_all
theorem cmpL_neg (a b : List UInt8) : cmpL b a = - cmpL a b := by
  fun_induction cmpL a b <;> simp_all [cmpL]
  · rename_i h; exact UInt8.le_of_lt h
  · rename_i h1 h2 ih
    rw [if_neg (by simpa using h2), if_neg (by simpa using h1)]
theorem less_cmp (a b : List UInt8) : Op.bytesLess a b = decide (cmpL a b = -1) := by
  fun_induction cmpL a b
  · rfl
  · rfl
  · rfl
  · rename_i h; simp [Op.bytesLess, h]
  · rename_i a x b y h1 h2
    have : ¬ a = b := fun e => by subst e; exact absurd h2 (UInt8.lt_irrefl _)
    simp [Op.bytesLess, h1, this]
  · rename_i a x b y h1 h2 ih
    have e : a = b := UInt8.le_antisymm (UInt8.not_lt.1 h2) (UInt8.not_lt.1 h1)
    subst e
    simp [Op.bytesLess, ih]
theorem cmpL_le {a b c : List UInt8} : cmpL a b ≤ 0 → cmpL b c ≤ 0 → cmpL a c ≤ 0 := by
  induction a generalizing b c with
  | nil => intro _ _; cases c <;> simp [cmpL]
  | cons x a ih =>
    intro h1 h2
    cases b with
    | nil => simp [cmpL] at h1
    | cons y b =>
      cases c with
      | nil => simp [cmpL] at h2
      | cons z c =>
        simp only [cmpL, UInt8.lt_iff_toNat_lt] at h1 h2 ⊢
        have := @ih b c
        by_cases hxy : x.toNat < y.toNat
        · by_cases hyz : y.toNat < z.toNat
          · rw [if_pos (by omega)]; omega
          · rw [if_neg hyz] at h2
            by_cases hzy : z.toNat < y.toNat
            · rw [if_pos hzy] at h2; omega
            · rw [if_pos (by omega)]; omega
        · rw [if_neg hxy] at h1
          by_cases hyx : y.toNat < x.toNat
          · rw [if_pos hyx] at h1; omega
          · rw [if_neg hyx] at h1
            by_cases hyz : y.toNat < z.toNat
            · rw [if_pos (by omega)]; omega
            · rw [if_neg hyz] at h2
              by_cases hzy : z.toNat < y.toNat
              · rw [if_pos hzy] at h2; omega
              · rw [if_neg hzy] at h2
                rw [if_neg (by omega), if_neg (by omega)]
                exact this h1 h2

theorem ba_toList (s : ByteArray) : s.toList = s.data.toList := by rw [ByteArray.toList_eq]
theorem ba_ext {a b : ByteArray} (h : a.toList = b.toList) : a = b := by
  rw [ba_toList, ba_toList] at h
  cases a; cases b
  simp only [ByteArray.mk.injEq]
  exact Array.toList_inj.1 h
/-- Does one key stand ahead of another? -/
def lt (a b : ByteArray) : Bool := Op.bytesLess a.toList b.toList
/-- How a key stands to another one. -/
def sd (k a : ByteArray) : Int := cmpL k.data.toList a.data.toList
theorem lt_sd (a b : ByteArray) : lt a b = decide (sd a b = -1) := by
  unfold lt sd
  rw [less_cmp, ba_toList, ba_toList]
theorem sd_neg (a b : ByteArray) : sd b a = - sd a b := cmpL_neg _ _
theorem sd_three (a b : ByteArray) : sd a b = -1 ∨ sd a b = 0 ∨ sd a b = 1 := cmpL_three _ _
theorem sd_eq {a b : ByteArray} : sd a b = 0 ↔ a = b := by
  unfold sd
  rw [cmpL_eq]
  constructor
  · intro h; exact ba_ext (by rw [ba_toList, ba_toList, h])
  · intro h; rw [h]
theorem sd_lt {a b : ByteArray} : sd a b < 0 ↔ lt a b = true := by
  rw [lt_sd, decide_eq_true_eq]
  have := sd_three a b
  omega
theorem sd_gt {a b : ByteArray} : 0 < sd a b ↔ lt b a = true := by
  rw [lt_sd, decide_eq_true_eq]
  have := sd_three a b
  have := sd_neg a b
  omega
theorem lt_irrefl (a : ByteArray) : lt a a = false := by
  rw [lt_sd, sd_eq.2 rfl]; rfl
theorem lt_asymm {a b : ByteArray} (h : lt a b = true) : lt b a = false := by
  rw [lt_sd] at h ⊢
  have := sd_neg a b
  simp only [decide_eq_true_eq] at h
  simp only [decide_eq_false_iff_not]
  omega
theorem lt_trans {a b c : ByteArray} (h : lt a b = true) (k : lt b c = true) : lt a c = true := by
  have h' := sd_lt.2 h
  have k' := sd_lt.2 k
  have q : sd a c ≤ 0 := cmpL_le (Int.le_of_lt h') (Int.le_of_lt k')
  rcases Int.lt_or_eq_of_le q with q | q
  · exact sd_lt.1 q
  · rw [sd_eq] at q
    subst q
    rw [lt_asymm h] at k
    cases k
theorem lt_total (a b : ByteArray) : lt a b = true ∨ a = b ∨ lt b a = true := by
  rcases sd_three a b with h | h | h
  · exact .inl (sd_lt.1 (by omega))
  · exact .inr (.inl (sd_eq.1 h))
  · exact .inr (.inr (sd_gt.1 (by omega)))
theorem lt_ne {a b : ByteArray} (h : lt a b = true) : a ≠ b := by
  rintro rfl
  rw [lt_irrefl] at h
  cases h
/-- b is not ahead of a, and they are unlike. -/
theorem lt_of_not {a b : ByteArray} (h : lt a b = false) (hn : a ≠ b) : lt b a = true := by
  rcases lt_total a b with q | q | q
  · rw [h] at q; cases q
  · exact (hn q).elim
  · exact q
theorem lt_of_le {a b c : ByteArray} (h : lt b a = false) (k : lt b c = true) : lt a c = true := by
  by_cases e : a = b
  · subst e; exact k
  · exact lt_trans (lt_of_not h (fun q => e q.symm)) k

/-- A pair. -/
abbrev Pr := ByteArray × ByteArray
/-- By rising keys. -/
def Srt (l : List Pr) : Prop := l.Pairwise (fun p q => lt p.1 q.1 = true)
/-- A pair put in. -/
def ins (k v : ByteArray) (l : List Pr) : List Pr := l.filter (fun p => lt p.1 k) ++ (k, v) :: l.filter (fun p => lt k p.1)
/-- A key's pair taken away. -/
def del (k : ByteArray) (l : List Pr) : List Pr := l.filter (fun p => decide (p.1 ≠ k))
/-- What is kept under a key. -/
def get (k : ByteArray) (l : List Pr) : Option ByteArray := (l.find? (fun p => decide (p.1 = k))).map (·.2)

theorem filter_all {α : Type} {f : α → Bool} {l : List α} (h : ∀ x ∈ l, f x = true) : l.filter f = l := List.filter_eq_self.2 h
theorem filter_nil {α : Type} {f : α → Bool} {l : List α} (h : ∀ x ∈ l, f x = false) : l.filter f = [] := by
  rw [List.filter_eq_nil_iff]
  intro x hx
  rw [h x hx]
  decide

theorem Srt.parts {L R : List Pr} {p : Pr} (h : Srt (L ++ p :: R)) : Srt L ∧ Srt R ∧ (∀ q ∈ L, lt q.1 p.1 = true) ∧ (∀ q ∈ R, lt p.1 q.1 = true) := by
  unfold Srt at h
  rw [List.pairwise_append] at h
  obtain ⟨h1, h2, h3⟩ := h
  rw [List.pairwise_cons] at h2
  exact ⟨h1, h2.2, fun q hq => h3 q hq p (by simp), fun q hq => h2.1 q hq⟩
theorem Srt.join {L R : List Pr} {p : Pr} (h1 : Srt L) (h2 : Srt R) (h3 : ∀ q ∈ L, lt q.1 p.1 = true) (h4 : ∀ q ∈ R, lt p.1 q.1 = true) : Srt (L ++ p :: R) := by
  unfold Srt
  rw [List.pairwise_append]
  refine ⟨h1, List.pairwise_cons.2 ⟨h4, h2⟩, fun a ha b hb => ?_⟩
  rcases List.mem_cons.1 hb with rfl | hb
  · exact h3 a ha
  · exact lt_trans (h3 a ha) (h4 b hb)
theorem Srt.ins {l : List Pr} (h : Srt l) (k v : ByteArray) : Srt (ins k v l) := by
  refine Srt.join (List.Pairwise.filter _ h) (List.Pairwise.filter _ h) (fun q hq => ?_) (fun q hq => ?_)
  · exact (List.mem_filter.1 hq).2
  · exact (List.mem_filter.1 hq).2
theorem Srt.del {l : List Pr} (h : Srt l) (k : ByteArray) : Srt (del k l) := List.Pairwise.filter _ h

theorem ins_low {L R : List Pr} {p : Pr} {k v : ByteArray} (h : Srt (L ++ p :: R)) (hk : lt k p.1 = true) : ins k v (L ++ p :: R) = ins k v L ++ p :: R := by
  obtain ⟨_, _, _, h4⟩ := h.parts
  unfold ins
  rw [List.filter_append, List.filter_append, List.filter_cons_of_neg (by rw [lt_asymm hk]; decide), List.filter_cons_of_pos (by exact hk),
    filter_nil (l := R) (fun x hx => lt_asymm (lt_trans hk (h4 x hx))), filter_all (l := R) (fun x hx => lt_trans hk (h4 x hx))]
  simp
theorem ins_high {L R : List Pr} {p : Pr} {k v : ByteArray} (h : Srt (L ++ p :: R)) (hk : lt p.1 k = true) : ins k v (L ++ p :: R) = L ++ p :: ins k v R := by
  obtain ⟨_, _, h3, _⟩ := h.parts
  unfold ins
  rw [List.filter_append, List.filter_append, List.filter_cons_of_pos (by exact hk), List.filter_cons_of_neg (by rw [lt_asymm hk]; decide),
    filter_nil (f := fun p => lt k p.1) (l := L) (fun x hx => lt_asymm (lt_trans (h3 x hx) hk)), filter_all (f := fun p => lt p.1 k) (l := L) (fun x hx => lt_trans (h3 x hx) hk)]
  simp
theorem ins_here {L R : List Pr} {p : Pr} {v : ByteArray} (h : Srt (L ++ p :: R)) : ins p.1 v (L ++ p :: R) = L ++ (p.1, v) :: R := by
  obtain ⟨_, _, h3, h4⟩ := h.parts
  unfold ins
  rw [List.filter_append, List.filter_append, List.filter_cons_of_neg (by rw [lt_irrefl]; decide), List.filter_cons_of_neg (by rw [lt_irrefl]; decide),
    filter_nil (f := fun q => lt p.1 q.1) (l := L) (fun x hx => lt_asymm (h3 x hx)), filter_all (f := fun q => lt q.1 p.1) (l := L) (fun x hx => h3 x hx),
    filter_nil (f := fun q => lt q.1 p.1) (l := R) (fun x hx => lt_asymm (h4 x hx)), filter_all (f := fun q => lt p.1 q.1) (l := R) (fun x hx => h4 x hx)]
  simp
theorem del_low {L R : List Pr} {p : Pr} {k : ByteArray} (h : Srt (L ++ p :: R)) (hk : lt k p.1 = true) : del k (L ++ p :: R) = del k L ++ p :: R := by
  obtain ⟨_, _, _, h4⟩ := h.parts
  unfold del
  rw [List.filter_append, List.filter_cons_of_pos (by simpa using (lt_ne hk).symm), filter_all (l := R) (fun x hx => by simpa using (lt_ne (lt_trans hk (h4 x hx))).symm)]
theorem del_high {L R : List Pr} {p : Pr} {k : ByteArray} (h : Srt (L ++ p :: R)) (hk : lt p.1 k = true) : del k (L ++ p :: R) = L ++ p :: del k R := by
  obtain ⟨_, _, h3, _⟩ := h.parts
  unfold del
  rw [List.filter_append, List.filter_cons_of_pos (by simpa using lt_ne hk), filter_all (l := L) (fun x hx => by simpa using lt_ne (lt_trans (h3 x hx) hk))]
theorem del_here {L R : List Pr} {p : Pr} (h : Srt (L ++ p :: R)) : del p.1 (L ++ p :: R) = L ++ R := by
  obtain ⟨_, _, h3, h4⟩ := h.parts
  unfold del
  rw [List.filter_append, List.filter_cons_of_neg (by simp), filter_all (l := L) (fun x hx => by simpa using lt_ne (h3 x hx)), filter_all (l := R) (fun x hx => by simpa using (lt_ne (h4 x hx)).symm)]
theorem get_low {L R : List Pr} {p : Pr} {k : ByteArray} (h : Srt (L ++ p :: R)) (hk : lt k p.1 = true) : get k (L ++ p :: R) = get k L := by
  obtain ⟨_, _, _, h4⟩ := h.parts
  unfold get
  rw [List.find?_append, List.find?_cons_of_neg (by simpa using (lt_ne hk).symm), (List.find?_eq_none (l := R)).2 (fun x hx => by simpa using (lt_ne (lt_trans hk (h4 x hx))).symm)]
  simp
theorem get_high {L R : List Pr} {p : Pr} {k : ByteArray} (h : Srt (L ++ p :: R)) (hk : lt p.1 k = true) : get k (L ++ p :: R) = get k R := by
  obtain ⟨_, _, h3, _⟩ := h.parts
  unfold get
  rw [List.find?_append, List.find?_cons_of_neg (by simpa using lt_ne hk), List.find?_eq_none.2 (fun x hx => by simpa using lt_ne (lt_trans (h3 x hx) hk))]
  simp
theorem get_here {L R : List Pr} {p : Pr} (h : Srt (L ++ p :: R)) : get p.1 (L ++ p :: R) = some p.2 := by
  obtain ⟨_, _, h3, _⟩ := h.parts
  unfold get
  rw [List.find?_append, List.find?_eq_none.2 (fun x hx => by simpa using lt_ne (h3 x hx)), List.find?_cons_of_pos (by simp)]
  simp
theorem get_mem {k v : ByteArray} {l : List Pr} (h : Srt l) : get k l = some v ↔ (k, v) ∈ l := by
  constructor
  · intro hg
    unfold get at hg
    obtain ⟨p, hp, rfl⟩ := Option.map_eq_some_iff.1 hg
    have h1 := List.find?_some hp
    have h2 := List.mem_of_find?_eq_some hp
    simp only [decide_eq_true_eq] at h1
    subst h1
    exact h2
  · intro hm
    obtain ⟨L, R, rfl⟩ := List.append_of_mem hm
    exact get_here (p := (k, v)) h
theorem get_none {k : ByteArray} {l : List Pr} : get k l = none ↔ ∀ p ∈ l, p.1 ≠ k := by
  unfold get
  rw [Option.map_eq_none_iff, List.find?_eq_none]
  simp
theorem ins_length {k v : ByteArray} {l : List Pr} (h : Srt l) : (ins k v l).length = if (get k l).isSome then l.length else l.length + 1 := by
  cases hg : get k l with
  | none =>
    have h0 := get_none.1 hg
    have e : ∀ m : List Pr, (∀ p ∈ m, p.1 ≠ k) → (m.filter (fun p => lt p.1 k)).length + (m.filter (fun p => lt k p.1)).length = m.length := by
      intro m
      induction m with
      | nil => intro _; rfl
      | cons a r ih =>
        intro hm
        have := ih (fun p hp => hm p (by simp [hp]))
        rcases lt_total a.1 k with q | q | q
        · rw [List.filter_cons_of_pos (by exact q), List.filter_cons_of_neg (by rw [lt_asymm q]; decide)]; simp only [List.length_cons]; omega
        · exact (hm a (by simp) q).elim
        · rw [List.filter_cons_of_neg (by rw [lt_asymm q]; decide), List.filter_cons_of_pos (by exact q)]; simp only [List.length_cons]; omega
    have h1 := e l h0
    have h2 : (ins k v l).length = (l.filter (fun p => lt p.1 k)).length + ((l.filter (fun p => lt k p.1)).length + 1) := by simp [ins]
    rw [h2]
    simp only [Option.isSome_none, Bool.false_eq_true, if_false]
    rw [← h1]
    omega
  | some x =>
    obtain ⟨L, R, rfl⟩ := List.append_of_mem ((get_mem h).1 hg)
    rw [ins_here (p := (k, x)) h]
    simp
theorem ins_le {k v : ByteArray} {l : List Pr} (h : Srt l) : (ins k v l).length ≤ l.length + 1 := by
  rw [ins_length h]
  split <;> omega
theorem del_length {k v : ByteArray} {l : List Pr} (h : Srt l) (hg : get k l = some v) : (del k l).length + 1 = l.length := by
  obtain ⟨L, R, rfl⟩ := List.append_of_mem ((get_mem h).1 hg)
  rw [del_here (p := (k, v)) h]
  simp
  omega
theorem del_none {k : ByteArray} {l : List Pr} (hg : get k l = none) : del k l = l := filter_all (fun x hx => by simpa using get_none.1 hg x hx)
theorem get_ins {k v j : ByteArray} {l : List Pr} (h : Srt l) : get j (ins k v l) = if j = k then some v else get j l := by
  by_cases e : j = k
  · rw [if_pos e]
    subst e
    refine (get_mem (h.ins j v)).2 ?_
    unfold ins
    simp
  · rw [if_neg e]
    cases hg : get j l with
    | none =>
      rw [get_none] at hg ⊢
      intro p hp
      unfold ins at hp
      rcases List.mem_append.1 hp with hp | hp
      · exact hg p (List.mem_filter.1 hp).1
      · rcases List.mem_cons.1 hp with rfl | hp
        · exact fun q => e q.symm
        · exact hg p (List.mem_filter.1 hp).1
    | some x =>
      rw [get_mem h] at hg
      rw [get_mem (h.ins k v)]
      unfold ins
      rcases lt_total j k with q | q | q
      · exact List.mem_append.2 (.inl (List.mem_filter.2 ⟨hg, q⟩))
      · exact (e q).elim
      · exact List.mem_append.2 (.inr (List.mem_cons_of_mem _ (List.mem_filter.2 ⟨hg, q⟩)))
theorem get_del {k j : ByteArray} {l : List Pr} (h : Srt l) : get j (del k l) = if j = k then none else get j l := by
  by_cases e : j = k
  · rw [if_pos e, get_none]
    intro p hp
    have := (List.mem_filter.1 hp).2
    subst e
    simpa using this
  · rw [if_neg e]
    cases hg : get j l with
    | none =>
      rw [get_none] at hg ⊢
      intro p hp
      exact hg p (List.mem_filter.1 hp).1
    | some x =>
      rw [get_mem h] at hg
      rw [get_mem (h.del k)]
      exact List.mem_filter.2 ⟨hg, by simpa using e⟩
/-- Two lists by rising keys that keep the same are the same. -/
theorem srt_same {a b : List Pr} (ha : Srt a) (hb : Srt b) (h : ∀ k, get k a = get k b) : a = b := by
  have hm : ∀ p, p ∈ a ↔ p ∈ b := fun p => by
    have e : p = (p.1, p.2) := rfl
    rw [e, ← get_mem ha, ← get_mem hb, h]
  induction a generalizing b with
  | nil =>
    cases b with
    | nil => rfl
    | cons y s => exact absurd ((hm y).2 (by simp)) (by simp)
  | cons x r ih =>
    cases b with
    | nil => exact absurd ((hm x).1 (by simp)) (by simp)
    | cons y s =>
      have a1 := List.pairwise_cons.1 ha
      have b1 := List.pairwise_cons.1 hb
      have e : x = y := by
        rcases List.mem_cons.1 ((hm x).1 (by simp)) with q | q
        · exact q
        · rcases List.mem_cons.1 ((hm y).2 (by simp)) with q2 | q2
          · exact q2.symm
          · have := lt_asymm (a1.1 y q2)
            rw [b1.1 x q] at this
            cases this
      subst e
      have hm' : ∀ p, p ∈ r ↔ p ∈ s := by
        intro p
        constructor
        · intro hp
          rcases List.mem_cons.1 ((hm p).1 (by simp [hp])) with q | q
          · subst q; have := a1.1 p hp; rw [lt_irrefl] at this; cases this
          · exact q
        · intro hp
          rcases List.mem_cons.1 ((hm p).2 (by simp [hp])) with q | q
          · subst q; have := b1.1 p hp; rw [lt_irrefl] at this; cases this
          · exact q
      rw [ih a1.2 b1.2 (fun k => ?_) hm']
      cases hg : get k r with
      | none =>
        rw [get_none] at hg
        exact (get_none.2 (fun p hp => hg p ((hm' p).2 hp))).symm
      | some v =>
        rw [get_mem a1.2] at hg
        exact ((get_mem b1.2).2 ((hm' _).1 hg)).symm
/-- Does a key lie in a span? -/
def inSp (f t : ByteArray) (o : Bool) (k : ByteArray) : Bool := !lt k f && (o || lt k t)
/-- The way into a span. -/
def way (f t : ByteArray) (o : Bool) (k : ByteArray) : Int := if lt k f = true then 1 else if o = false ∧ lt k t = false then -1 else 0
theorem way_zero {f t : ByteArray} {o : Bool} {k : ByteArray} : way f t o k = 0 ↔ inSp f t o k = true := by
  unfold way inSp
  cases lt k f <;> cases o <;> cases lt k t <;> simp
theorem way_three (f t : ByteArray) (o : Bool) (k : ByteArray) : way f t o k = -1 ∨ way f t o k = 0 ∨ way f t o k = 1 := by
  unfold way
  split
  · simp
  · split <;> simp
/-- What stands lower than a key that lies ahead of the span lies ahead of it, too. -/
theorem way_up {f t : ByteArray} {o : Bool} {k j : ByteArray} (h : 0 < way f t o k) (hj : lt j k = true) : inSp f t o j = false := by
  unfold way at h
  unfold inSp
  by_cases q : lt k f = true
  · rw [lt_trans hj q]; rfl
  · rw [if_neg q] at h
    split at h <;> omega
theorem way_down {f t : ByteArray} {o : Bool} {k j : ByteArray} (h : way f t o k < 0) (hj : lt k j = true) : inSp f t o j = false := by
  unfold way at h
  unfold inSp
  by_cases q : lt k f = true
  · rw [if_pos q] at h; omega
  · rw [if_neg q] at h
    by_cases q2 : o = false ∧ lt k t = false
    · have : lt j t = false := by
        by_cases q3 : lt j t = true
        · rw [lt_trans hj q3] at q2; simp at q2
        · simpa using q3
      rw [q2.1, this]
      simp
    · rw [if_neg q2] at h; omega
end Go.Vf
