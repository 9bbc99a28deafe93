/- Contracts and lemmas (nothing is claimed here). -/
import Derived.Test.YtkcnjnccdafbfaaGreatDoorJ17
import Derived.ArgAppend
namespace Go.Proofs.YtkcnjnccdafbfaaGreatDoor
open Go.RowKit Go.Vf Go.Maps
structure BF (l : List PM) (p : Int) (todo : List Int) (mt : List Bool) (x : Int) (rest : List Int) : Prop where
  len : mt.length = l.length
  reach : ∀ t ∈ todo, Lead0 (partsP l) p t
  left : ∀ q ∈ rest, Lead (partsP l) p q
  done : ∀ y, (y = p ∨ ∃ k, ∃ h : k < l.length, mt[k]? = some true ∧ (l[k]).point = y) → y ∈ todo ∨ ∀ q ∈ partsP l y, (q ∈ rest ∧ y = x) ∨ (q ≠ p ∧ ∀ k, ∀ h : k < l.length, (l[k]).point = q → mt[k]? = some true)
theorem BF.start (l : List PM) (p x : Int) : BF l p [p] (List.replicate l.length false) x [] where
  len := by simp
  reach := by simp [Lead0.refl]
  left := by simp
  done := by
    rintro y (rfl | ⟨k, h, hm, _⟩)
    · exact .inl (by simp)
    · simp [h] at hm
theorem BF.pop {l : List PM} {p t x : Int} {ts : List Int} {mt : List Bool} (h : BF l p (t :: ts) mt x []) : BF l p ts mt t (partsP l t) where
  len := h.len
  reach := fun y hy => h.reach y (by simp [hy])
  left := fun q hq => (h.reach t (by simp)).step hq
  done := fun y hy => by
    rcases h.done y hy with h1 | h1
    · rcases List.mem_cons.1 h1 with rfl | h2
      · exact .inr fun q hq => .inl ⟨hq, rfl⟩
      · exact .inl h2
    · refine .inr fun q hq => ?_
      rcases h1 q hq with ⟨h2, _⟩ | h2
      · simp at h2
      · exact .inr h2
theorem BF.found {l : List PM} {p x : Int} {todo r : List Int} {mt : List Bool} (h : BF l p todo mt x (p :: r)) : Lead (partsP l) p p := h.left p (by simp)
theorem BF.pass {l : List PM} {p x q : Int} {todo r : List Int} {mt : List Bool} (h : BF l p todo mt x (q :: r)) (hq : q ≠ p) (hm : ∀ k, ∀ h : k < l.length, (l[k]).point = q → mt[k]? = some true) : BF l p todo mt x r where
  len := h.len
  reach := h.reach
  left := fun y hy => h.left y (by simp [hy])
  done := fun y hy => by
    rcases h.done y hy with h1 | h1
    · exact .inl h1
    · refine .inr fun z hz => ?_
      rcases h1 z hz with ⟨h2, h3⟩ | h2
      · rcases List.mem_cons.1 h2 with rfl | h4
        · exact .inr ⟨hq, hm⟩
        · exact .inl ⟨h4, h3⟩
      · exact .inr h2
theorem BF.meet {l : List PM} (hrise : (l.map PM.point).Pairwise (· < ·)) {p x q : Int} {todo r : List Int} {mt : List Bool} (h : BF l p todo mt x (q :: r)) (hq : q ≠ p) {k : Nat} (hk : k < l.length) (hkq : (l[k]).point = q) : BF l p (todo ++ [q]) (mt.set k true) x r where
  len := by rw [List.length_set]; exact h.len
  reach := fun y hy => by
    rcases List.mem_append.1 hy with h1 | h1
    · exact h.reach y h1
    · simp at h1
      subst h1
      exact .inr (h.left y (by simp))
  left := fun y hy => h.left y (by simp [hy])
  done := fun y hy => by
    have up : ∀ j, mt[j]? = some true → (mt.set k true)[j]? = some true := fun j hj => by
      by_cases e : k = j
      · subst e
        rw [List.getElem?_set_self (by rw [h.len]; exact hk)]
      · rw [List.getElem?_set_ne e]; exact hj
    have uniq : ∀ j, ∀ hj : j < l.length, (l[j]).point = q → j = k := fun j hj e => by
      rcases Nat.lt_trichotomy j k with h1 | h1 | h1
      · have := rise_at hrise hj hk h1; omega
      · exact h1
      · have := rise_at hrise hk hj h1; omega
    by_cases hyq : y = q
    · exact .inl (by simp [hyq])
    · have hy' : y = p ∨ ∃ j, ∃ h : j < l.length, mt[j]? = some true ∧ (l[j]).point = y := by
        rcases hy with h1 | ⟨j, hj, h1, h2⟩
        · exact .inl h1
        · refine .inr ⟨j, hj, ?_, h2⟩
          have hjk : k ≠ j := fun e => by subst e; exact hyq (h2.symm.trans hkq)
          rwa [List.getElem?_set_ne hjk] at h1
      rcases h.done y hy' with h1 | h1
      · exact .inl (by simp [h1])
      · refine .inr fun z hz => ?_
        rcases h1 z hz with ⟨h2, h3⟩ | ⟨h2, h3⟩
        · rcases List.mem_cons.1 h2 with rfl | h4
          · refine .inr ⟨hq, fun j hj e => ?_⟩
            have := uniq j hj e
            subst this
            rw [List.getElem?_set_self (by rw [h.len]; exact hk)]
          · exact .inl ⟨h4, h3⟩
        · exact .inr ⟨h2, fun j hj e => up j (h3 j hj e)⟩
theorem partsP_at {l : List PM} {p : Int} (h : partsP l p ≠ []) : ∃ k, ∃ h : k < l.length, (l[k]).point = p := by
  unfold partsP at h
  cases hp : pmAt l p with
  | none => rw [hp] at h; simp at h
  | some m =>
    obtain ⟨k, hk, e⟩ := List.mem_iff_getElem.1 (List.mem_of_find?_eq_some hp)
    exact ⟨k, hk, by rw [e]; simpa using List.find?_some hp⟩
theorem BF.none {l : List PM} {p x : Int} {mt : List Bool} (h : BF l p [] mt x []) : ¬ Lead (partsP l) p p := by
  have step : ∀ y, (y = p ∨ ∃ k, ∃ h : k < l.length, mt[k]? = some true ∧ (l[k]).point = y) → ∀ q ∈ partsP l y, q ≠ p ∧ ∀ k, ∀ h : k < l.length, (l[k]).point = q → mt[k]? = some true := fun y hy q hq => by
    rcases h.done y hy with h1 | h1
    · simp at h1
    · rcases h1 q hq with ⟨h2, _⟩ | h2
      · simp at h2
      · exact h2
  have key : ∀ {y z : Int}, Lead (partsP l) y z → (y = p ∨ ∃ k, ∃ h : k < l.length, mt[k]? = some true ∧ (l[k]).point = y) → z ≠ p := by
    intro y z hl
    induction hl with
    | one hq => intro hy; exact (step _ hy _ hq).1
    | more hq hl2 ih =>
      intro hy
      obtain ⟨_, h2⟩ := step _ hy _ hq
      obtain ⟨k, hk, e⟩ := partsP_at (lead_ne hl2)
      exact ih (.inr ⟨k, hk, h2 k hk e, e⟩)
  exact fun hl => key hl (.inl rfl) rfl
structure TR (w : World) (base g o c : Nat) (zs : List Int) : Prop where
  ge : base ≤ g
  le : zs.length ≤ c
  blk : ∃ cur, w.heap[g]? = some (.cells cur 3 (0, 0)) ∧ o + c ≤ cur.size ∧ ∀ j, j < zs.length → cur[o + j]? = some (.int .i64 (zs[j]?.getD 0))
theorem TR.alloc {w : World} {base g o c : Nat} {zs : List Int} (h : TR w base g o c zs) (ob : Obj) : TR (w.alloc ob) base g o c zs := by
  obtain ⟨cur, h1, h2⟩ := h.blk
  exact ⟨h.ge, h.le, cur, (Below.heap_alloc w ob g (Array.getElem?_eq_some_iff.1 h1).1).trans h1, h2⟩
theorem TR.keep {w w' : World} {base g o c : Nat} {zs : List Int} (h : TR w base g o c zs) (hg : w'.heap[g]? = w.heap[g]?) : TR w' base g o c zs := by
  obtain ⟨cur, h1, h2⟩ := h.blk
  exact ⟨h.ge, h.le, cur, hg.trans h1, h2⟩
theorem TR.tail {w : World} {base g o c : Nat} {z : Int} {zs : List Int} (h : TR w base g o c (z :: zs)) (_ : c ≠ 1) : TR w base g (o + 1) (c - 1) zs := by
  obtain ⟨cur, h1, h2, h3⟩ := h.blk
  have hle := h.le
  simp only [List.length_cons] at hle
  refine ⟨h.ge, by omega, cur, h1, by omega, fun j hj => ?_⟩
  have := h3 (j + 1) (by simp; omega)
  rw [show o + 1 + j = o + (j + 1) by omega, this]
  simp
theorem TR.tail1 {w : World} {base g o : Nat} {z : Int} {zs : List Int} (h : TR w base g o 1 (z :: zs)) : zs = [] ∧ TR w base g o 0 [] := by
  obtain ⟨cur, h1, h2, h3⟩ := h.blk
  have hle := h.le
  simp only [List.length_cons] at hle
  exact ⟨List.eq_nil_of_length_eq_zero (by omega), h.ge, by simp, cur, h1, by omega, fun j hj => by simp at hj⟩
theorem TR.head {w : World} {base g o c : Nat} {z : Int} {zs : List Int} (h : TR w base g o c (z :: zs)) : w.cell? ⟨g, o, none⟩ = some (.int .i64 z) := by
  obtain ⟨cur, h1, _, h3⟩ := h.blk
  have := h3 0 (by simp)
  simp only [World.cell?, h1]
  simpa using this
theorem wpList_append_todo {w : World} {ops : Array Oper} {rest : List Oper} {o : Oper} {a : Act} {Q : Exit → Act → World → Prop} (hgd : o.guard = none) (s x : Operand)
    (ho : o.op = .call { callee := .builtin .append, args := #[s, x], argTypes := #[24, 24] })
    (base g off c : Nat) (zs : List Int) (hs : a.eval s = .slice (some ⟨g, off, none⟩) zs.length c) (ht : TR w base g off c zs) (q : Int) (hx : a.eval x = .slice (some ⟨w.heap.size, 0, none⟩) 1 1)
    (hlen : zs.length ≤ 1099511627776) (hbase : base ≤ w.heap.size)
    (h : ∀ g' o' c' w', TR w' base g' o' c' (zs ++ [q]) → (w.alloc (.cells #[.int .i64 q] 3)).grownBy w' (some g) → wpList Tryz.prog ops Q rest (a.put o.dst (.slice (some ⟨g', o', none⟩) (zs.length + 1) c')) w') :
    wpList Tryz.prog ops Q (o :: rest) a (w.alloc (.cells #[.int .i64 q] 3)) := by
  obtain ⟨i, hi, hz, hsz, hby⟩ := info_parts info3
  have hb := Blk.new w 3 #[.int .i64 q]
  have ht1 := ht.alloc (.cells #[.int .i64 q] 3)
  obtain ⟨cur, k1, k2, k3⟩ := ht1.blk
  have hblk : Blk (w.alloc (.cells #[.int .i64 q] 3)) g 3 cur := k1
  refine wpList_append_arg (P := Tryz.prog) (w.alloc (.cells #[.int .i64 q] 3)) hgd s x 24 ho 3 i (.int .i64 0) 1 8 Tryz.underlying24 hi hz hsz hby rfl (by decide) g off zs.length c (zs.map (Value.int .i64)) hs (by simp) ?_ ⟨w.heap.size, 0, none⟩ 1 1 [.int .i64 q] hx (by rfl) ?_ ?_ ?_ ?_ ?_ ?_ ?_
  · intro j u hu
    have hj : j < zs.length := by have := (List.getElem?_eq_some_iff.1 hu).1; simpa using this
    rw [hblk.cell, k3 j hj, ← hu]
    simp [hj]
  · intro j u hu
    match j, hu with
    | 0, hu => simp at hu; subst hu; exact hb.cell 0
  · intro u hu; simp at hu; subst hu; rfl
  · intro hr j hj
    have : j = 0 := by simp at hj; omega
    subst this
    refine ⟨?_, hblk.frozen _⟩
    rw [hblk.cell]
    simp
    omega
  · unfold maxLen; omega
  · omega
  · intro hr
    have e : (w.alloc (.cells #[.int .i64 q] 3)).setCells g (off + zs.length * 1) [.int .i64 q] = (w.alloc (.cells #[.int .i64 q] 3)).setCell ⟨g, off + zs.length, none⟩ (.int .i64 q) := by
      simp [World.setCells]
    rw [e]
    refine h g off c _ ⟨ht.ge, by simp; omega, cur.setIfInBounds (off + zs.length) (.int .i64 q), hblk.set _ _, by simpa using k2, fun j hj => ?_⟩ ⟨rfl, rfl, rfl, by simp [World.setCell], fun k hk hne => Below.heap_setCell _ ⟨g, off + zs.length, none⟩ _ k (fun e => hne (by rw [e]))⟩
    have hle := ht.le
    rw [List.length_append] at hj
    simp at hj
    by_cases hjl : j < zs.length
    · rw [Array.getElem?_setIfInBounds_ne (by omega), k3 j hjl, List.getElem?_append_left hjl]
    · obtain rfl : j = zs.length := by omega
      rw [Array.getElem?_setIfInBounds_self_of_lt (by omega)]
      simp
  · intro hr v' w' h1 h2
    rcases h1.2 with ⟨_, h0⟩ | ⟨g', cap, cur', hv, hbb, hg', hn', hm', hs', ht'⟩
    · omega
    · subst hv
      refine h g' 0 cap w' ⟨by simp at hbb; omega, by simpa using hn', cur', hg', by rw [hs']; omega, fun j hj => ?_⟩ ⟨h2.os, h2.tape, h2.output, h2.size, fun k hk _ => h2.block k hk (by simp)⟩
      rw [List.length_append] at hj
      simp at hj
      have e1 : (cur'.toList.take ((zs.length + 1) * 1))[j]? = (zs.map (Value.int .i64) ++ [.int .i64 q])[j]? := by rw [ht']
      rw [List.getElem?_take_of_lt (by omega)] at e1
      rw [Nat.zero_add, ← Array.getElem?_toList, e1]
      by_cases hjl : j < zs.length
      · rw [List.getElem?_append_left (by simpa using hjl), List.getElem?_append_left hjl]
        simp [hjl]
      · obtain rfl : j = zs.length := by omega
        simp
theorem perm_rise : ∀ {a b : List PM}, a.Perm b → (a.map PM.point).Pairwise (· < ·) → (b.map PM.point).Pairwise (· < ·) → a = b := by
  intro a b hp ha hb
  rw [List.pairwise_map] at ha hb
  exact hp.eq_of_pairwise (fun x y _ _ h1 h2 => by exact absurd h1 (by omega)) ha hb
theorem rise_put {l : List PM} (h : (l.map PM.point).Pairwise (· < ·)) {m : PM} {k : Nat} (hk : PlaceAt l m.point k) (hno : ∀ i (h : i < l.length), (l[i]).point ≠ m.point) : ((l.take k ++ [m] ++ l.drop k).map PM.point).Pairwise (· < ·) := by
  rw [List.pairwise_map] at h ⊢
  have h1 := h.sublist (List.take_sublist k l)
  have h2 := h.sublist (List.drop_sublist k l)
  have lo : ∀ x ∈ l.take k, x.point < m.point := fun x hx => by
    obtain ⟨i, hi, e⟩ := List.mem_iff_getElem.1 hx
    rw [List.length_take] at hi
    rw [List.getElem_take] at e
    rw [← e]
    exact hk.lo i (by omega) (by omega)
  have hi' : ∀ x ∈ l.drop k, m.point < x.point := fun x hx => by
    obtain ⟨i, hi, e⟩ := List.mem_iff_getElem.1 hx
    rw [List.length_drop] at hi
    rw [List.getElem_drop] at e
    rw [← e]
    have g1 := hk.hi (k + i) (by omega) (by omega)
    have g2 := hno (k + i) (by omega)
    omega
  rw [List.append_assoc, List.pairwise_append]
  refine ⟨h1, ?_, ?_⟩
  · rw [List.singleton_append, List.pairwise_cons]
    exact ⟨hi', h2⟩
  · intro x hx y hy
    have g1 := lo x hx
    rcases List.mem_append.1 hy with hy | hy
    · simp at hy; subst hy; exact g1
    · have := hi' y hy; omega
theorem marksR_put {L : List Mk} (hnd : (L.map Mk.point).Nodup) {m : Mk} (hm : m.point ∉ L.map Mk.point) {k : Nat} (hk : PlaceAt (marksR L) m.point k) : marksR (L ++ [m]) = (marksR L).take k ++ [pmOf m] ++ (marksR L).drop k := by
  have hnd' : ((L ++ [m]).map Mk.point).Nodup := by
    rw [List.map_append, List.nodup_append]
    refine ⟨hnd, by simp, ?_⟩
    intro a ha b hb
    simp at hb
    subst hb
    exact fun e => hm (e ▸ ha)
  have hp := marksR_perm hnd
  have hno : ∀ i (h : i < (marksR L).length), ((marksR L)[i]).point ≠ m.point := fun i h e => by
    have h1 : (marksR L)[i] ∈ L.map pmOf := hp.mem_iff.1 (List.getElem_mem h)
    obtain ⟨x, hx, e1⟩ := List.mem_map.1 h1
    refine hm (List.mem_map.2 ⟨x, hx, ?_⟩)
    rw [← e, ← e1]
    rfl
  refine perm_rise ?_ (marksR_rise hnd') (rise_put (marksR_rise hnd) (m := pmOf m) hk hno)
  refine (marksR_perm hnd').trans ?_
  rw [List.map_append]
  refine (hp.symm.append_right _).trans ?_
  conv => lhs; rw [← List.take_append_drop k (marksR L)]
  rw [List.append_assoc, List.append_assoc]
  exact List.Perm.append_left _ List.perm_append_comm
theorem find_first {α : Type} {p : α → Bool} {a b : List α} {m : α} (ha : ∀ x ∈ a, p x = false) (hm : p m = true) : (a ++ m :: b).find? p = some m := by
  rw [List.find?_append, List.find?_eq_none.2 (fun x hx => by simp [ha x hx])]
  simp [hm]
theorem load_loop {t : List UInt8} {L a b : List Mk} {m : Mk} (hlen : t.length ≤ 65536) (hl : linesR (cutL 10 t) 0 [] = .ok L) (hL : L = a ++ m :: b) (ha : ∀ x ∈ a, ¬ Lead (partsAt L) x.point x.point) (hm : Lead (partsAt L) m.point m.point) : loadR t = .error (42, m.line) := by
  obtain ⟨S, hS, hI, hmet⟩ := walk_total (load_total hlen hl).2.2.2.2
  unfold loadR
  rw [if_neg (by omega), hl]
  simp only [hS]
  have hf : L.find? (fun m => decide (S.loops m.point > 0)) = some m := by
    rw [hL]
    refine find_first (fun x hx => ?_) ?_
    · rcases (hI.loop x.point).2 with h | h
      · exact absurd ((hI.loop x.point).1.1 h).2 (ha x hx)
      · simp; omega
    · have h1 := hmet m.point (List.mem_map.2 ⟨m, by rw [hL]; simp, rfl⟩)
      have ho : m.point ∈ S.ord := by
        rcases hI.met_range m.point with h | ⟨h, _⟩ | ⟨h, _⟩
        · exact absurd h h1
        · rw [hI.shut] at h; simp at h
        · exact h
      rw [(hI.loop m.point).1.2 ⟨ho, hm⟩]
      simp
  rw [hf]
theorem endsG_len {G : Int → List Int} {k : Nat} {p : Int} : 18 < (endsG G k p).length ↔ 18 < (wh G k p).length := by
  unfold endsG
  by_cases h : G p = []
  · rw [if_pos h, wh_leaf h]
    simp
  · rw [if_neg h, List.length_take]
    omega
theorem load_deep {t : List UInt8} {L : List Mk} (hlen : t.length ≤ 65536) (hl : linesR (cutL 10 t) 0 [] = .ok L) (hno : ∀ m ∈ L, ¬ Lead (partsAt L) m.point m.point) :
    ∃ k, (∀ p, Dep (partsAt L) k p) ∧ (∀ a m b, L = a ++ m :: b → (∀ x ∈ a, (wh (partsAt L) k x.point).length ≤ 18) → 18 < (wh (partsAt L) k m.point).length → loadR t = .error (43, m.line)) ∧
      ((∀ m ∈ L, (wh (partsAt L) k m.point).length ≤ 18) → ∃ E, loadR t = .ok (L, E) ∧ ∀ p, E p = endsG (partsAt L) k p) := by
  obtain ⟨S, hS, hI, hmet⟩ := walk_total (load_total hlen hl).2.2.2.2
  obtain ⟨ht, he⟩ := fill_all hI hmet hno
  have he' := he (S.ord.length + 1) (Nat.le_refl _)
  have h1 : L.find? (fun m => decide (S.loops m.point > 0)) = none := by
    rw [List.find?_eq_none]
    intro m hm hgt
    have hgt' : S.loops m.point > 0 := by simpa using hgt
    rcases (hI.loop m.point).2 with h | h
    · exact hno m hm ((hI.loop m.point).1.1 h).2
    · omega
  refine ⟨S.ord.length + 1, fun p => ?_, fun a m b hL ha hm => ?_, fun hs => ⟨fillF (hasAt L) (partsAt L) S.ord (fun _ => []), ?_, he'⟩⟩
  · by_cases hG : partsAt L p = []
    · exact Dep.leaf hG _
    · obtain ⟨m, hm, e⟩ := partsAt_has hG
      have hp : p ∈ S.ord := by
        have h1 := hmet p (List.mem_map.2 ⟨m, hm, e⟩)
        rcases hI.met_range p with h | ⟨h, _⟩ | ⟨h, _⟩
        · exact absurd h h1
        · rw [hI.shut] at h; simp at h
        · exact h
      obtain ⟨pre, post, hs⟩ := List.append_of_mem hp
      exact Dep.of_topo ht (S.ord.length + 1) pre p post (by rw [hs]; simp; omega) hs
  · unfold loadR
    rw [if_neg (by omega), hl]
    simp only [hS]
    rw [h1]
    have h2 : L.find? (fun m => decide (18 < (fillF (hasAt L) (partsAt L) S.ord (fun _ => []) m.point).length)) = some m := by
      conv => lhs; arg 2; rw [hL]
      refine find_first (fun x hx => ?_) ?_
      · rw [he']
        have := ha x hx
        exact decide_eq_false (fun h => by have := endsG_len.1 h; omega)
      · rw [he']
        exact decide_eq_true (endsG_len.2 hm)
    simp only [h2]
  · unfold loadR
    rw [if_neg (by omega), hl]
    simp only [hS]
    rw [h1]
    have h2 : L.find? (fun m => decide (18 < (fillF (hasAt L) (partsAt L) S.ord (fun _ => []) m.point).length)) = none := by
      rw [List.find?_eq_none]
      intro m hm hgt
      rw [he'] at hgt
      have := endsG_len.1 (of_decide_eq_true hgt)
      have := hs m hm
      omega
    simp only [h2]
end Go.Proofs.YtkcnjnccdafbfaaGreatDoor
