/- What a text's marks print is no longer than it, and is read as the same; parts to the end have none of their own (nothing is claimed here). -/
import Derived.Test.YtpmckfmjegehgaaGreatDoorPrM
import Derived.Test.YtpmckfmjegehgaaGreatDoorSylM
namespace Go.Proofs.YtpmckfmjegehgaaGreatDoor
open Go.RowKit Go.Vf Go.Maps

/-! ### what Load's answer is, by what leads where -/
def endsG (G : Int → List Int) (N : Nat) (p : Int) : List Int := if G p = [] then [] else (wh G N p).take 19
theorem lead_ne {G : Int → List Int} {p q : Int} (h : Lead G p q) : G p ≠ [] := by
  induction h with
  | one h => intro e; rw [e] at h; simp at h
  | more h _ _ => intro e; rw [e] at h; simp at h
theorem partsAt_has {L : List Mk} {p : Int} (h : partsAt L p ≠ []) : ∃ m ∈ L, m.point = p := by
  cases hp : partsAt L p with
  | nil => exact absurd hp h
  | cons a r =>
    obtain ⟨m, hm, he, _⟩ := partsAt_mem (L := L) (p := p) (q := a) (by rw [hp]; simp)
    exact ⟨m, hm, he⟩
theorem hasAt_no {L : List Mk} (x : Int) (h : hasAt L x = false) : partsAt L x = [] := by
  unfold hasAt at h
  unfold partsAt
  cases hm : markAt L x with
  | none => rfl
  | some m => rw [hm] at h; simp at h
theorem fill_all {L : List Mk} {S : TS} (hI : Inv (partsAt L) S []) (hmet : ∀ x ∈ L.map Mk.point, S.met x ≠ 0) (hno : ∀ m ∈ L, ¬ Lead (partsAt L) m.point m.point) : Topo (partsAt L) S.ord ∧ ∀ N, S.ord.length + 1 ≤ N → ∀ p, fillF (hasAt L) (partsAt L) S.ord (fun _ => []) p = endsG (partsAt L) N p := by
  have hno' : ∀ x, ¬ Lead (partsAt L) x x := fun x h => by
    obtain ⟨m, hm, e⟩ := partsAt_has (lead_ne h)
    exact hno m hm (by rw [e]; exact h)
  have ht : Topo (partsAt L) S.ord := fun pre x post e y hy => hI.topo pre x post e (hno' x) y hy
  refine ⟨ht, fun N hN p => ?_⟩
  rw [fill_ok ht hN (has := hasAt L) hasAt_no S.ord [] (fun _ => []) rfl (by simp) p]
  unfold endsG
  by_cases hG : partsAt L p = []
  · simp [hG]
  · obtain ⟨m, hm, e⟩ := partsAt_has hG
    have hp : p ∈ S.ord := by
      have h1 := hmet p (List.mem_map.2 ⟨m, hm, e⟩)
      rcases hI.met_range p with h | ⟨h, _⟩ | ⟨h, _⟩
      · exact absurd h h1
      · rw [hI.shut] at h; simp at h
      · exact h
    rw [if_pos ⟨hp, hG⟩, if_neg hG]
/-- WHAT LOAD'S ANSWER SAYS. -/
theorem load_says {t : List UInt8} {L : List Mk} {E : Int → List Int} (h : loadR t = .ok (L, E)) : t.length ≤ 65536 ∧ linesR (cutL 10 t) 0 [] = .ok L ∧ (∀ m ∈ L, ¬ Lead (partsAt L) m.point m.point) ∧ (∀ m ∈ L, (E m.point).length ≤ 18) ∧
    ∃ ord, Topo (partsAt L) ord ∧ (∀ m ∈ L, m.point ∈ ord) ∧ ∀ N, ord.length + 1 ≤ N → ∀ p, E p = endsG (partsAt L) N p := by
  unfold loadR at h
  split at h
  · cases h
  · rename_i hlen
    split at h
    · cases h
    · rename_i L' hl
      obtain ⟨S, hS, hI, hmet⟩ := walk_total (load_total (by omega) hl).2.2.2.2
      rw [hS] at h
      simp only at h
      split at h
      · cases h
      · rename_i hf
        split at h
        · cases h
        · rename_i hg
          simp only [Except.ok.injEq, Prod.mk.injEq] at h
          obtain ⟨rfl, rfl⟩ := h
          have hord : ∀ m ∈ L', m.point ∈ S.ord := fun m hm => by
            have h1 := hmet m.point (List.mem_map.2 ⟨m, hm, rfl⟩)
            rcases hI.met_range m.point with h | ⟨h, _⟩ | ⟨h, _⟩
            · exact absurd h h1
            · rw [hI.shut] at h; simp at h
            · exact h
          have hno : ∀ m ∈ L', ¬ Lead (partsAt L') m.point m.point := fun m hm hl => by
            have h1 := List.find?_eq_none.1 hf m hm
            have := (hI.loop m.point).1.2 ⟨hord m hm, hl⟩
            rw [this] at h1
            simp at h1
          obtain ⟨ht, he⟩ := fill_all hI hmet hno
          refine ⟨by omega, hl, hno, fun m hm => ?_, S.ord, ht, hord, he⟩
          have h1 := List.find?_eq_none.1 hg m hm
          simp at h1
          omega
/-- And what makes it so. -/
theorem load_made {t : List UInt8} {L : List Mk} (hlen : t.length ≤ 65536) (hl : linesR (cutL 10 t) 0 [] = .ok L) (hno : ∀ m ∈ L, ¬ Lead (partsAt L) m.point m.point) {M : Nat} (hs : ∀ N, M ≤ N → ∀ m ∈ L, (endsG (partsAt L) N m.point).length ≤ 18) :
    ∃ E M', loadR t = .ok (L, E) ∧ ∀ N, M' ≤ N → ∀ p, E p = endsG (partsAt L) N p := by
  obtain ⟨S, hS, hI, hmet⟩ := walk_total (load_total hlen hl).2.2.2.2
  obtain ⟨ht, he⟩ := fill_all hI hmet hno
  refine ⟨fillF (hasAt L) (partsAt L) S.ord (fun _ => []), S.ord.length + 1, ?_, he⟩
  unfold loadR
  rw [if_neg (by omega), hl]
  simp only [hS]
  have h1 : L.find? (fun m => decide (S.loops m.point > 0)) = none := by
    rw [List.find?_eq_none]
    intro m hm hgt
    have hgt' : S.loops m.point > 0 := by simpa using hgt
    rcases (hI.loop m.point).2 with h | h
    · exact hno m hm ((hI.loop m.point).1.1 h).2
    · omega
  have h2 : L.find? (fun m => decide (18 < (fillF (hasAt L) (partsAt L) S.ord (fun _ => []) m.point).length)) = none := by
    rw [List.find?_eq_none]
    intro m hm hgt
    have := hs (S.ord.length + 1 + M) (by omega) m hm
    rw [← he (S.ord.length + 1 + M) (by omega)] at this
    simp at hgt
    omega
  rw [h1]
  simp only [h2]

/-! ### parts to the end have none of their own -/
theorem wh_from {G : Int → List Int} : ∀ (k : Nat) (p z : Int), z ∈ wh G k p → z = p ∨ ∃ q, z ∈ G q := by
  intro k
  induction k with
  | zero => intro p z hz; simp [wh] at hz; exact .inl hz
  | succ k ih =>
    intro p z hz
    unfold wh at hz
    split at hz
    · simp at hz; exact .inl hz
    · obtain ⟨y, hy, hz⟩ := List.mem_flatMap.1 hz
      rcases ih y z hz with rfl | h
      · exact .inr ⟨p, hy⟩
      · exact .inr h
theorem may_not_syl {z : Int} (h : mayB z = true) : isSyl z = false := by
  unfold mayB at h
  cases hs : isSyl z with
  | false => rfl
  | true => rw [hs] at h; simp at h
theorem ends_end {t : List UInt8} {L : List Mk} {E : Int → List Int} (h : loadR t = .ok (L, E)) {p z : Int} (hp : isSyl p = false) (hz : z ∈ endsOfF E p) : isSyl z = false ∧ endsOfF E z = [z] := by
  obtain ⟨hlen, hl, hno, _, ord, ht, hord, he⟩ := load_says h
  have hok := (load_total hlen hl).1
  have hEz : ∀ z, partsAt L z = [] → endsOfF E z = [z] := fun z hG => by
    unfold endsOfF
    rw [if_pos (by rw [he _ (Nat.le_refl _)]; unfold endsG; rw [if_pos hG])]
  by_cases hG : partsAt L p = []
  · rw [hEz p hG] at hz
    simp at hz
    subst hz
    exact ⟨hp, hEz z hG⟩
  · obtain ⟨m, hm, e⟩ := partsAt_has hG
    have hEp : E p = (wh (partsAt L) (ord.length + 1) p).take 19 := by rw [he _ (Nat.le_refl _)]; unfold endsG; rw [if_neg hG]
    have hz2 : z ∈ wh (partsAt L) (ord.length + 1) p := by
      unfold endsOfF at hz
      split at hz
      · rename_i e0
        rw [hEp, List.take_eq_nil_iff] at e0
        rcases e0 with e0 | e0
        · omega
        · exact absurd e0 (wh_ne _ _)
      · rw [hEp] at hz; exact List.mem_of_mem_take hz
    have hpo : p ∈ ord := by rw [← e]; exact hord m hm
    obtain ⟨pre, post, hs⟩ := List.append_of_mem hpo
    have hGz := wh_ends ht (Nat.le_refl _) pre.length pre p post (Nat.le_refl _) hs z hz2
    refine ⟨?_, hEz z hGz⟩
    rcases wh_from _ _ _ hz2 with rfl | ⟨q, hq⟩
    · exact hp
    · obtain ⟨m', hm', _, hq'⟩ := partsAt_mem hq
      exact may_not_syl ((hok m' hm').2.1 z hq')
/-- No point among the parts to the end has parts of its own, or is a syllable. -/
theorem parts_end {t : List UInt8} {L : List Mk} {E : Int → List Int} (h : loadR t = .ok (L, E)) {p z : Int} (hz : z ∈ partsR' E p) : isSyl z = false ∧ partsR' E z = [z] := by
  suffices hh : isSyl z = false ∧ endsOfF E z = [z] by
    refine ⟨hh.1, ?_⟩
    unfold partsR'
    rw [if_neg (by rw [hh.1]; simp), hh.2]
  unfold partsR' at hz
  split at hz
  · rename_i hs
    obtain ⟨q, hq, hz⟩ := List.mem_flatMap.1 hz
    exact ends_end h (letters_not hs hq) hz
  · rename_i hs
    exact ends_end h (by simpa using hs) hz
theorem parts_short {t : List UInt8} {L : List Mk} {E : Int → List Int} (h : loadR t = .ok (L, E)) {m : Mk} (hm : m ∈ L) : (partsR' E m.point).length ≤ 18 := by
  obtain ⟨hlen, hl, _, hsh, _⟩ := load_says h
  have hok := (load_total hlen hl).1
  unfold partsR'
  rw [if_neg (by rw [may_not_syl (hok m hm).1]; simp)]
  unfold endsOfF
  split
  · simp
  · exact hsh m hm
theorem class_in {L : List Mk} (hok : ∀ m ∈ L, MkOk m) (p : Int) : 0 ≤ classAt L p ∧ classAt L p ≤ 254 := by
  unfold classAt
  cases hm : markAt L p with
  | none => simp
  | some m => exact ⟨(hok m (List.mem_of_find?_eq_some hm)).2.2.1, (hok m (List.mem_of_find?_eq_some hm)).2.2.2⟩

/-! ### a line is the line of its mark -/
def itoaS (c : Nat) : List UInt8 := if c < 10 then [UInt8.ofNat (48 + c)] else if c < 100 then [UInt8.ofNat (48 + c / 10), UInt8.ofNat (48 + c % 10)] else [UInt8.ofNat (48 + c / 100), UInt8.ofNat (48 + c / 10 % 10), UInt8.ofNat (48 + c % 10)]
theorem itoaS_all : ((List.range 255).all fun c => Lib.itoa (c : Int) == itoaS c) = true := by kernel_rfl
theorem itoa_eq {c : Nat} (hc : c ≤ 254) : Lib.itoa (c : Int) = itoaS c := by
  have := List.all_eq_true.1 itoaS_all c (List.mem_range.2 (by omega))
  simpa using this
theorem decV_dig {c : UInt8} {d : Nat} (h : decV c = some d) : d < 10 ∧ c = UInt8.ofNat (48 + d) ∧ (d = 0 → c = 48) := by
  unfold decV at h
  split at h
  · rename_i hh
    simp only [Option.some.injEq] at h
    have hc : c = UInt8.ofNat (48 + d) := by
      apply UInt8.toNat_inj.1
      rw [UInt8.toNat_ofNat']
      omega
    refine ⟨by omega, hc, fun e => ?_⟩
    subst e
    exact hc
  · cases h
theorem itoa_classR {s : List UInt8} {k : Int} (h : classR s = some k) : ∃ c : Nat, k = (c : Int) ∧ c ≤ 254 ∧ s = Lib.itoa (c : Int) := by
  unfold classR at h
  split at h
  · rename_i hs
    split at h
    · cases h
    · rename_i n hn
      split at h
      · rename_i hle
        refine ⟨n, by simpa using h.symm, hle, ?_⟩
        rw [itoa_eq hle]
        rcases hs with rfl | ⟨h1, h2, h3⟩
        · simp [numB, decV] at hn
          subst hn
          rfl
        · match s, h1, h2, h3, hn with
          | [a], _, h2, _, hn =>
            simp only [numB] at hn
            cases ha : decV a with
            | none => rw [ha] at hn; cases hn
            | some d =>
              rw [ha] at hn
              obtain ⟨q1, q2, _⟩ := decV_dig ha
              have e : 0 * 10 + d = n := by simpa using hn
              subst e
              unfold itoaS
              rw [if_pos (by omega), q2]
              simp
          | [a, b], _, h2, _, hn =>
            simp only [numB] at hn
            cases ha : decV a with
            | none => rw [ha] at hn; cases hn
            | some d =>
              rw [ha] at hn
              simp only at hn
              cases hb : decV b with
              | none => rw [hb] at hn; cases hn
              | some d2 =>
                rw [hb] at hn
                obtain ⟨q1, q2, q3⟩ := decV_dig ha
                obtain ⟨r1, r2, _⟩ := decV_dig hb
                have e : (0 * 10 + d) * 10 + d2 = n := by simpa using hn
                have hd : d ≠ 0 := fun e0 => by rw [q3 e0] at h2; simp at h2
                subst e
                unfold itoaS
                rw [if_neg (by omega), if_pos (by omega), q2, r2, show ((0 * 10 + d) * 10 + d2) / 10 = d by omega, show ((0 * 10 + d) * 10 + d2) % 10 = d2 by omega]
          | [a, b, c], _, h2, _, hn =>
            simp only [numB] at hn
            cases ha : decV a with
            | none => rw [ha] at hn; cases hn
            | some d =>
              rw [ha] at hn
              simp only at hn
              cases hb : decV b with
              | none => rw [hb] at hn; cases hn
              | some d2 =>
                rw [hb] at hn
                simp only at hn
                cases hc : decV c with
                | none => rw [hc] at hn; cases hn
                | some d3 =>
                  rw [hc] at hn
                  obtain ⟨q1, q2, q3⟩ := decV_dig ha
                  obtain ⟨r1, r2, _⟩ := decV_dig hb
                  obtain ⟨s1, s2, _⟩ := decV_dig hc
                  have e : ((0 * 10 + d) * 10 + d2) * 10 + d3 = n := by simpa using hn
                  have hd : d ≠ 0 := fun e0 => by rw [q3 e0] at h2; simp at h2
                  subst e
                  unfold itoaS
                  rw [if_neg (by omega), if_neg (by omega), q2, r2, s2, show (((0 * 10 + d) * 10 + d2) * 10 + d3) / 100 = d by omega, show (((0 * 10 + d) * 10 + d2) * 10 + d3) / 10 % 10 = d2 by omega, show (((0 * 10 + d) * 10 + d2) * 10 + d3) % 10 = d3 by omega]
          | a :: b :: c :: x :: r, _, _, h3, _ => simp at h3
      · cases h
  · cases h
theorem joinS_points : ∀ (C : List (List UInt8)) (ps : List Int), pointsR C = some ps → C = (ps.map Int.toNat).map pointS := by
  intro C
  induction C with
  | nil => intro ps h; simp [pointsR] at h; subst h; rfl
  | cons a r ih =>
    intro ps h
    unfold pointsR at h
    split at h
    · cases h
    · rename_i p hp
      split at h
      · cases h
      · rename_i q hq
        simp at h; subst h
        obtain ⟨u, rfl, _, _, hs⟩ := pointS_pointR hp
        rw [ih _ hq, hs]
        simp
theorem cut_join (c : UInt8) : ∀ (s : List UInt8), s = (match cutL c s with
    | [] => []
    | a :: r => a ++ r.flatMap fun x => c :: x) := by
  intro s
  induction s with
  | nil => simp [cutL]
  | cons b r ih =>
    cases hc : cutL c r with
    | nil => exact absurd hc (cutL_ne c r)
    | cons a t =>
      rw [hc] at ih
      simp only at ih
      by_cases hb : b = c
      · have e : cutL c (b :: r) = [] :: a :: t := by rw [cutL, if_pos hb, hc]
        rw [e]
        simp only [List.nil_append, List.flatMap_cons, List.cons_append]
        rw [← ih, hb]
      · have e : cutL c (b :: r) = (b :: a) :: t := by rw [cutL, if_neg hb, hc]
        rw [e]
        simp only [List.cons_append]
        rw [← ih]
theorem partsR_line {s : List UInt8} {l : List Int} (h : partsR s = some l) : s = joinS (l.map Int.toNat) := by
  unfold partsR at h
  split at h
  · rename_i e
    simp at h; subst h e
    rfl
  · rename_i hne
    have := joinS_points _ _ h
    have hc := cut_join 32 s
    rw [this] at hc
    cases hl : l.map Int.toNat with
    | nil =>
      rw [hl] at this
      exact absurd this (cutL_ne 32 s)
    | cons a r =>
      rw [hl] at hc
      rw [joinS_flat]
      simpa [List.flatMap_map] using hc
/-- A line that is read is the line of what was read. -/
theorem markR_line {s : List UInt8} {p k : Int} {l : List Int} (h : markR s = some (p, k, l)) : s = markP ⟨p, k, l⟩ := by
  have hc := cut_join 59 s
  unfold markR markC at h
  split at h
  · rename_i a b c hcut
    split at h
    · cases h
    · rename_i p' hp
      split at h
      · cases h
      · rename_i k' hk
        split at h
        · cases h
        · rename_i l' hl
          simp only [Option.some.injEq, Prod.mk.injEq] at h
          obtain ⟨rfl, rfl, rfl⟩ := h
          obtain ⟨u, rfl, _, _, ha⟩ := pointS_pointR hp
          obtain ⟨n, rfl, _, hb⟩ := itoa_classR hk
          have hcl := partsR_line hl
          rw [hcut] at hc
          rw [hc, ha, hb, hcl]
          simp [markP, markS]
  · cases h

/-! ### the text of a text's marks -/
def lensP (l : List PM) : Nat := (l.map fun m => (markP m).length + 1).sum
def pmOf (m : Mk) : PM := ⟨m.point, m.cls, m.parts⟩
theorem linesR_lens : ∀ (C : List (List UInt8)) (n : Int) (acc L : List Mk), linesR C n acc = .ok L → lensP (L.map pmOf) ≤ lensP (acc.map pmOf) + (C.map (fun x => x.length + 1)).sum := by
  intro C
  induction C with
  | nil =>
    intro n acc L h
    simp only [linesR, Except.ok.injEq] at h
    subst h; simp
  | cons s r ih =>
    intro n acc L h
    rw [linesR] at h
    split at h
    · have := ih _ _ _ h
      simp; omega
    · split at h
      · cases h
      · rename_i p k l hm
        split at h
        · cases h
        · split at h
          · cases h
          · have h1 := ih _ _ _ h
            have e : lensP ((acc ++ [(⟨n + 1, p, k, l⟩ : Mk)]).map pmOf) = lensP (acc.map pmOf) + (s.length + 1) := by
              have := markR_line hm
              simp [lensP, pmOf, ← this]
            rw [e] at h1
            simp; omega
theorem writeR_some : ∀ (l : List PM) (f : Bool) (acc : List UInt8), (∀ m ∈ l, m.parts.length ≤ 65536) → (acc.length + (if f then 0 else 1) + lensP l ≤ 65537) → ∃ t, writeR l f acc = some t ∧ t.length ≤ acc.length + (if f then 0 else 1) + lensP l := by
  intro l
  induction l with
  | nil => intro f acc _ _; exact ⟨acc, rfl, by omega⟩
  | cons m r ih =>
    intro f acc h1 h2
    have e : lensP (m :: r) = (markP m).length + 1 + lensP r := by simp [lensP]
    rw [e] at h2
    have el : ((if f then acc else acc ++ [10]) ++ markP m).length = acc.length + (if f then 0 else 1) + (markP m).length := by
      cases f <;> simp <;> omega
    obtain ⟨t, ht, hl⟩ := ih false ((if f then acc else acc ++ [10]) ++ markP m) (fun x hx => h1 x (by simp [hx])) (by
      have := h1
      simp only [Bool.false_eq_true, if_false, el]; omega)
    refine ⟨t, ?_, ?_⟩
    · rw [writeR_cons, if_neg (by have := h1 m (by simp); omega), if_neg (by rw [el]; omega), ht]
    · simp only [Bool.false_eq_true, if_false, el] at hl
      rw [e]; omega
theorem markAt_of_mem {L : List Mk} {m : Mk} (hnd : (L.map Mk.point).Nodup) (hm : m ∈ L) : markAt L m.point = some m := by
  unfold markAt
  induction L with
  | nil => simp at hm
  | cons a r ih =>
    rw [List.map_cons, List.nodup_cons] at hnd
    rcases List.mem_cons.1 hm with rfl | hm
    · simp
    · rw [List.find?_cons_of_neg]
      · exact ih hnd.2 hm
      · simp only [beq_iff_eq]
        intro e
        exact hnd.1 (List.mem_map.2 ⟨m, hm, e.symm⟩)
theorem marksR_perm {L : List Mk} (hnd : (L.map Mk.point).Nodup) : (marksR L).Perm (L.map pmOf) := by
  unfold marksR
  refine ((List.mergeSort_perm (L.map Mk.point) _).map _).trans ?_
  rw [List.map_map]
  have this : ∀ m ∈ L, ((fun p => (⟨p, classAt L p, partsAt L p⟩ : PM)) ∘ Mk.point) m = pmOf m := fun m hm => by
    have hma := markAt_of_mem hnd hm
    simp [classAt, partsAt, hma, pmOf]
  rw [List.map_congr_left this]
theorem sorted_strict : ∀ {l : List Int}, l.Pairwise (fun a b => decide (a ≤ b) = true) → l.Nodup → l.Pairwise (· < ·) := by
  intro l
  induction l with
  | nil => intro _ _; simp
  | cons a r ih =>
    intro h1 h2
    rw [List.pairwise_cons] at h1 ⊢
    rw [List.nodup_cons] at h2
    refine ⟨fun b hb => ?_, ih h1.2 h2.2⟩
    have := h1.1 b hb
    have hne : a ≠ b := fun e => h2.1 (e ▸ hb)
    simp at this
    omega
theorem marksR_points (L : List Mk) : (marksR L).map PM.point = (L.map Mk.point).mergeSort (fun x y => decide (x ≤ y)) := by
  unfold marksR
  rw [List.map_map]
  conv => rhs; rw [← List.map_id ((L.map Mk.point).mergeSort _)]
  rfl
theorem marksR_rise {L : List Mk} (hnd : (L.map Mk.point).Nodup) : ((marksR L).map PM.point).Pairwise (· < ·) := by
  rw [marksR_points]
  refine sorted_strict (List.pairwise_mergeSort (le := fun x y => decide (x ≤ y)) (fun a b c h1 h2 => by simp at h1 h2 ⊢; omega) (fun a b => by simp; omega) _) ?_
  exact (List.mergeSort_perm _ _).nodup_iff.2 hnd
theorem checkR_ok : ∀ (l : List PM) (ab : Int), (l.map PM.point).Pairwise (· < ·) → (∀ m ∈ l, ab < m.point) → (∀ m ∈ l, mayPM m = true) → checkR l ab = true := by
  intro l
  induction l with
  | nil => intro ab _ _ _; rfl
  | cons a r ih =>
    intro ab h1 h2 h3
    rw [List.map_cons, List.pairwise_cons] at h1
    unfold checkR
    rw [if_neg (by have := h2 a (by simp); omega), if_pos (h3 a (by simp))]
    exact ih _ h1.2 (fun m hm => h1.1 _ (List.mem_map.2 ⟨m, hm, rfl⟩)) (fun m hm => h3 m (by simp [hm]))
theorem okPM {m : Mk} (h : MkOk m) : mayPM (pmOf m) = true := by
  obtain ⟨h1, h2, h3, h4⟩ := h
  have e : m.parts.all mayB = true := List.all_eq_true.2 h2
  simp [mayPM, pmOf, h1, h3, h4, e]
theorem lensP_perm {a b : List PM} (h : a.Perm b) : lensP a = lensP b := (h.map _).sum_nat
theorem find_perm {L L' : List Mk} (h : ∀ p, (markAt L p).map pmOf = (markAt L' p).map pmOf) : partsAt L = partsAt L' ∧ classAt L = classAt L' := by
  refine ⟨funext fun p => ?_, funext fun p => ?_⟩
  · have := h p
    unfold partsAt
    cases h1 : markAt L p with
    | none => rw [h1] at this; cases h2 : markAt L' p with
      | none => rfl
      | some m => rw [h2] at this; simp at this
    | some m => rw [h1] at this; cases h2 : markAt L' p with
      | none => rw [h2] at this; simp at this
      | some m' =>
        rw [h2] at this
        simp [pmOf] at this
        simp [this]
  · have := h p
    unfold classAt
    cases h1 : markAt L p with
    | none => rw [h1] at this; cases h2 : markAt L' p with
      | none => rfl
      | some m => rw [h2] at this; simp at this
    | some m => rw [h1] at this; cases h2 : markAt L' p with
      | none => rw [h2] at this; simp at this
      | some m' =>
        rw [h2] at this
        simp [pmOf] at this
        simp [this]
theorem markAt_mem {L : List Mk} (p : Int) : (markAt L p = none ∧ p ∉ L.map Mk.point) ∨ ∃ m ∈ L, m.point = p ∧ markAt L p = some m := by
  cases h : markAt L p with
  | none =>
    refine .inl ⟨rfl, fun hp => ?_⟩
    obtain ⟨m, hm, e⟩ := List.mem_map.1 hp
    have := List.find?_eq_none.1 h m hm
    simp [e] at this
  | some m => exact .inr ⟨m, List.mem_of_find?_eq_some h, by simpa using List.find?_some h, rfl⟩
theorem joinS_ge (us : List Nat) : us.length ≤ (joinS us).length := by
  cases us with
  | nil => simp
  | cons a r =>
    rw [joinS_flat]
    have h4 : ∀ (l : List Nat), l.length ≤ (l.flatMap fun x => (32 : UInt8) :: pointS x).length := by
      intro l
      induction l with
      | nil => simp
      | cons b t ih => simp at ih ⊢; omega
    have h5 := h4 r
    have h6 : 0 < (pointS a).length := List.length_pos_iff.2 (pointS_ne a)
    rw [List.length_append]; simp only [List.length_cons]; omega
/-- THERE AND BACK. -/
theorem back_load {t : List UInt8} {L : List Mk} {E : Int → List Int} (h : loadR t = .ok (L, E)) : ∃ s L', printR (marksR L) = .ok s ∧ s.length ≤ t.length ∧ loadR s = .ok (L', E) ∧ marksR L' = marksR L ∧ classAt L' = classAt L := by
  obtain ⟨hlen, hl, hno, hsh, ord, ht, hord, he⟩ := load_says h
  obtain ⟨hok, hnd, h4096, hsum, _⟩ := load_total hlen hl
  have hperm := marksR_perm hnd
  have hrise := marksR_rise hnd
  have hmay : ∀ m ∈ marksR L, mayPM m = true := fun m hm => by
    obtain ⟨x, hx, rfl⟩ := List.mem_map.1 (hperm.subset hm)
    exact okPM (hok x hx)
  have hlens : lensP (marksR L) ≤ t.length + 1 := by
    rw [lensP_perm hperm]
    have := linesR_lens _ _ _ _ hl
    rw [cutL_sum] at this
    simpa [lensP] using this
  have hpl : ∀ m ∈ marksR L, m.parts.length ≤ 65536 := fun m hm => by
    have h1 : (markP m).length + 1 ≤ lensP (marksR L) := by
      obtain ⟨a, b, e⟩ := List.append_of_mem hm
      rw [e]; simp [lensP]; omega
    obtain ⟨u, c, us, e1, hu, hc, hus, e2⟩ := mayPM_nat (hmay m hm)
    have h2 := joinS_ge us
    have h3 : m.parts.length = us.length := by rw [e1]; simp
    have h7 : (joinS us).length ≤ (markP m).length := by rw [e2]; simp [markS]; omega
    omega
  obtain ⟨s, hs, hsl⟩ := writeR_some (marksR L) true [] hpl (by simp; omega)
  have hs0 : s.length ≤ t.length := by
    have e := (writeR_textP hs).1
    cases hm : marksR L with
    | nil => rw [hm] at e; rw [e]; simp [textP]
    | cons a r =>
      rw [hm] at e hlens
      have : s.length + 1 = lensP (a :: r) := by
        rw [e]
        have h4 : ∀ (l : List PM), (l.flatMap fun x => (10 : UInt8) :: markP x).length = lensP l := by
          intro l
          induction l with
          | nil => rfl
          | cons b t ih => simp [lensP] at ih ⊢; omega
        simp only [textP, List.length_append, h4]
        simp [lensP]; omega
      omega
  have hpr : printR (marksR L) = .ok s := by
    unfold printR
    have hml : (marksR L).length = L.length := by rw [hperm.length_eq, List.length_map]
    rw [if_neg (by omega), if_pos (checkR_ok _ _ hrise (fun m hm => by
      have := (mayPM_may (hmay m hm)).1
      unfold mayB at this
      simp at this
      omega) hmay), hs]
  obtain ⟨_, _, hlines, _, _, _⟩ := printR_lines hpr
  have hmk : ∀ p, (markAt (marksL (marksR L) 0) p).map pmOf = (markAt L p).map pmOf := fun p => by
    rcases markAt_mem (L := L) p with ⟨h0, hn⟩ | ⟨m, hm, rfl, h0⟩
    · rcases markAt_mem (L := marksL (marksR L) 0) p with ⟨h1, _⟩ | ⟨m, hm, rfl, h1⟩
      · rw [h0, h1]
      · have : m.point ∈ (marksL (marksR L) 0).map Mk.point := List.mem_map.2 ⟨m, hm, rfl⟩
        rw [marksL_points, marksR_points] at this
        exact absurd ((List.mergeSort_perm _ _).subset this) hn
    · have hin : pmOf m ∈ marksR L := hperm.symm.subset (List.mem_map.2 ⟨m, hm, rfl⟩)
      obtain ⟨k, hk⟩ := markAt_marksL (marksR L) 0 hrise (pmOf m) hin
      rw [h0, show m.point = (pmOf m).point from rfl, hk]
      rfl
  obtain ⟨hparts, hclass⟩ := find_perm hmk
  have hpts : ∀ m ∈ marksL (marksR L) 0, ∃ x ∈ L, x.point = m.point := fun m hm => by
    have : m.point ∈ (marksL (marksR L) 0).map Mk.point := List.mem_map.2 ⟨m, hm, rfl⟩
    rw [marksL_points, marksR_points] at this
    obtain ⟨x, hx, e⟩ := List.mem_map.1 ((List.mergeSort_perm _ _).subset this)
    exact ⟨x, hx, e⟩
  obtain ⟨E', M', hld, he'⟩ := load_made (t := s) (by omega) hlines (fun m hm => by
    obtain ⟨x, hx, e⟩ := hpts m hm
    rw [hparts, ← e]
    exact hno x hx) (M := ord.length + 1) (fun N hN m hm => by
    obtain ⟨x, hx, e⟩ := hpts m hm
    rw [hparts, ← e, ← he N hN]
    exact hsh x hx)
  have hEE : E' = E := funext fun p => by
    rw [he' (M' + (ord.length + 1)) (by omega), he (M' + (ord.length + 1)) (by omega), hparts]
  exact ⟨s, _, hpr, hs0, hEE ▸ hld, marksR_marksL _ _ hrise, hclass⟩

end Go.Proofs.YtpmckfmjegehgaaGreatDoor
