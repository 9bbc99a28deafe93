/- Contracts and lemmas (nothing is claimed here). -/
import Derived.Test.YtghjmfpjaabilaaGreatDoorSByt
import Derived.Test.YtghjmfpjaabilaaGreatDoorJ28
namespace Go.Proofs.YtghjmfpjaabilaaGreatDoor
open Go.RowKit Go.Vf

/-- What stands for a sign where a number and a remark are given. -/
def putR (c : UInt8) (n : Nat) (ws : List UInt8) : List UInt8 :=
  (if c = 32 ∧ n < 3 then List.replicate n 32 else []) ++ (if c = 10 then List.replicate n 32 ++ (if 1 < n then 35 :: (ws.take 30).filter (· != 10) else []) ++ (if n = 4 then [10, 32, 32, 35, 32] else []) else []) ++ [c]
def pickN (z : Int) : Nat := (if z < 0 then -(z + 1) else z).toNat % 5
def roomL : List UInt8 → List (Int × List UInt8) → List UInt8
  | [], _ => []
  | c :: t, [] => putR c 0 [] ++ roomL t []
  | c :: t, r :: rs => putR c (pickN r.1) r.2 ++ roomL t rs
theorem roomL_app : ∀ (a b : List UInt8) (rs : List (Int × List UInt8)), roomL (a ++ b) rs = roomL a rs ++ roomL b (rs.drop a.length)
  | [], b, rs => by simp [roomL]
  | c :: a, b, [] => by rw [List.cons_append, roomL, roomL, roomL_app a b []]; simp
  | c :: a, b, r :: rs => by rw [List.cons_append, roomL, roomL, roomL_app a b rs]; simp
/-- One sign, whatever is given. -/
theorem roomL_one (c : UInt8) (t : List UInt8) (rs : List (Int × List UInt8)) : ∃ n ws, n < 5 ∧ roomL (c :: t) rs = putR c n ws ++ roomL t (rs.drop 1) := by
  cases rs with
  | nil => exact ⟨0, [], by omega, by rw [roomL]; rfl⟩
  | cons r rs => exact ⟨pickN r.1, r.2, Nat.mod_lt _ (by omega), by rw [roomL]; rfl⟩
end Go.Proofs.YtghjmfpjaabilaaGreatDoor

namespace Go.Proofs.YtghjmfpjaabilaaGreatDoor
open Go.RowKit Go.Vf

theorem spl_rep (n : Nat) (r cur : List UInt8) : spl (List.replicate n 32 ++ 32 :: r) cur = spl (32 :: r) cur := by
  induction n generalizing cur with
  | zero => rfl
  | succ n ih =>
    rw [List.replicate_succ, List.cons_append, spl, if_pos rfl, ih, spl_blank, spl, if_pos rfl]
theorem spl_end (n : Nat) : ∀ (L cur : List UInt8), spl (L ++ List.replicate n 32) cur = spl L cur
  | [], cur => by
    rw [List.nil_append]
    have h0 : ∀ n, spl (List.replicate n 32) [] = [] := by
      intro n
      induction n with
      | zero => rfl
      | succ n ih => rw [List.replicate_succ, spl_blank, ih]
    cases n with
    | zero => rfl
    | succ n =>
      rw [List.replicate_succ]
      have e1 : spl (32 :: List.replicate n 32) cur = if cur = [] then spl (List.replicate n 32) [] else cur :: spl (List.replicate n 32) [] := by rw [spl, if_pos rfl]
      rw [e1, h0, spl]
  | c :: L, cur => by
    rw [List.cons_append, spl, spl, spl_end n L [], spl_end n L (cur ++ [c])]
/-- Within a line more blanks part no more. -/
theorem spl_room : ∀ (L : List UInt8) (rs : List (Int × List UInt8)) (Z cur : List UInt8), (∀ c ∈ L, c ≠ 10) → spl (roomL L rs ++ Z) cur = spl (L ++ Z) cur
  | [], rs, Z, cur, _ => by rw [roomL]
  | c :: L, rs, Z, cur, h => by
    obtain ⟨n, ws, hn, e⟩ := roomL_one c L rs
    have h10 : c ≠ 10 := h c List.mem_cons_self
    have ih := fun cu => spl_room L (rs.drop 1) Z cu (fun x hx => h x (List.mem_cons_of_mem _ hx))
    rw [e, putR, if_neg h10, List.append_nil, List.cons_append]
    by_cases h3 : c = 32 ∧ n < 3
    · rw [if_pos h3, h3.1, List.append_assoc, List.append_assoc, List.singleton_append, spl_rep]
      have e1 : ∀ x : List UInt8, spl (32 :: x) cur = if cur = [] then spl x [] else cur :: spl x [] := fun x => by rw [spl, if_pos rfl]
      rw [e1, e1, ih]
    · rw [if_neg h3, List.nil_append, List.append_assoc, List.singleton_append, spl, spl, ih, ih]
/-- And what it is made of stays. -/
theorem room_mem : ∀ (L : List UInt8) (rs : List (Int × List UInt8)), (∀ c ∈ L, c ≠ 10) → ∀ x ∈ roomL L rs, x ∈ L
  | [], rs, _, x, hx => by rw [roomL] at hx; exact hx
  | c :: L, rs, h, x, hx => by
    obtain ⟨n, ws, hn, e⟩ := roomL_one c L rs
    have h10 : c ≠ 10 := h c List.mem_cons_self
    rw [e, putR, if_neg h10, List.append_nil, List.append_assoc, List.mem_append, List.mem_append] at hx
    rcases hx with hx | hx | hx
    · by_cases h3 : c = 32 ∧ n < 3
      · rw [if_pos h3] at hx
        rw [List.eq_of_mem_replicate hx, ← h3.1]; exact List.mem_cons_self
      · rw [if_neg h3] at hx; cases hx
    · rw [List.mem_singleton.1 hx]; exact List.mem_cons_self
    · exact List.mem_cons_of_mem _ (room_mem L _ (fun y hy => h y (List.mem_cons_of_mem _ hy)) x hx)
theorem cut_at {L : List UInt8} (r : List UInt8) (h : ∀ x ∈ L, x ≠ 35) : (Lib.cut (L ++ 35 :: r) [35]).1 = L := by
  unfold Lib.cut
  rw [Lib.index_one, indexByte_at L r 35 h, if_pos (by omega)]
  simp
/-- A remark is none of a line's words. -/
theorem words_remark {L r : List UInt8} {ws : List (List UInt8)} (hA : ∀ c ∈ L, c.toNat < 128) (h : ∀ x ∈ L, x ≠ 35) (hs : spl L [] = ws) : wordsL (L ++ 35 :: r ++ [10]) = ws.map bs := by
  rw [← words_eq hA h hs]
  unfold wordsL
  rw [trim_line, trim_line, cut_at r h, cut_line h]
/-- The words of the lines, whatever they are numbered. -/
abbrev lnW (s : List UInt8) : List (List ByteArray) := (lnF 1 (linesL s)).map Prod.snd
theorem lnF_same : ∀ (ls : List (List UInt8)) (n m : Int), (lnF n ls).map Prod.snd = (lnF m ls).map Prod.snd
  | [], _, _ => rfl
  | l :: ls, n, m => by
    rw [lnF, lnF]
    split
    · exact lnF_same ls _ _
    · rw [List.map_cons, List.map_cons, lnF_same ls (n + 1) (m + 1)]
theorem lnW_line {L r : List UInt8} (h : ∀ x ∈ L, x ≠ 10) : lnW (L ++ 10 :: r) = (if (wordsL (L ++ [10])).isEmpty then [] else [wordsL (L ++ [10])]) ++ lnW r := by
  unfold lnW
  rw [linesL_line h, lnF]
  split
  · rw [List.nil_append]; exact lnF_same _ _ _
  · rw [List.map_cons, List.singleton_append, lnF_same _ (1 + 1) 1]
theorem words_note : wordsL ([32, 32, 35, 32] ++ [10]) = [] := by
  have h := words_remark (L := [32, 32]) (r := [32]) (ws := []) (by decide) (by decide) (by decide)
  exact h
/-- Each line is ended. -/
inductive Ended : List UInt8 → Prop where
  | nil : Ended []
  | line {L r : List UInt8} : (∀ x ∈ L, x ≠ 10 ∧ x.toNat < 128 ∧ x ≠ 35) → Ended r → Ended (L ++ 10 :: r)
theorem Ended.app {a b : List UInt8} (ha : Ended a) (hb : Ended b) : Ended (a ++ b) := by
  induction ha with
  | nil => exact hb
  | line h _ ih => rw [List.append_assoc, List.cons_append]; exact .line h ih
theorem room_lines {t : List UInt8} (ht : Ended t) : ∀ rs, lnW (roomL t rs) = lnW t := by
  induction ht with
  | nil => intro rs; rw [roomL]
  | @line L r h _ ih =>
    intro rs
    have h10 : ∀ x ∈ L, x ≠ 10 := fun x hx => (h x hx).1
    rw [roomL_app]
    obtain ⟨n, ws, hn, e⟩ := roomL_one 10 r (rs.drop L.length)
    rw [e]
    generalize (rs.drop L.length).drop 1 = rs2
    have hm : ∀ x ∈ roomL L rs ++ List.replicate n 32, x ≠ 10 ∧ x.toNat < 128 ∧ x ≠ 35 := by
      intro x hx
      rcases List.mem_append.1 hx with hx | hx
      · exact h x (room_mem L rs h10 x hx)
      · rw [List.eq_of_mem_replicate hx]; decide
    have hs : spl (roomL L rs ++ List.replicate n 32) [] = spl L [] := by
      rw [spl_end]
      have := spl_room L rs [] [] h10
      rw [List.append_nil, List.append_nil] at this
      exact this
    have hw0 := words_eq (fun c hc => (h c hc).2.1) (fun c hc => (h c hc).2.2) (rfl : spl L [] = spl L [])
    rw [lnW_line h10, hw0, ← ih rs2]
    generalize roomL L rs = L1 at hm hs ⊢
    generalize roomL r rs2 = r1
    rw [putR, if_neg (fun h => by revert h; simp), if_pos rfl, List.nil_append]
    by_cases h1 : 1 < n
    · rw [if_pos h1]
      have hj : ∀ x ∈ L1 ++ List.replicate n 32 ++ 35 :: (ws.take 30).filter (· != 10), x ≠ 10 := by
        intro x hx
        rcases List.mem_append.1 hx with hx | hx
        · exact (hm x hx).1
        · rcases List.mem_cons.1 hx with rfl | hx
          · decide
          · have := (List.mem_filter.1 hx).2
            simpa using this
      have hw1 := words_remark (r := (ws.take 30).filter (· != 10)) (fun c hc => (hm c hc).2.1) (fun c hc => (hm c hc).2.2) hs
      generalize (ws.take 30).filter (· != 10) = J at hj hw1 ⊢
      by_cases h4 : n = 4
      · rw [if_pos h4]
        have e2 : L1 ++ ((List.replicate n 32 ++ 35 :: J ++ [10, 32, 32, 35, 32] ++ [10]) ++ r1) = (L1 ++ List.replicate n 32 ++ 35 :: J) ++ 10 :: ([32, 32, 35, 32] ++ 10 :: r1) := by simp
        rw [e2, lnW_line hj, hw1, lnW_line (by decide), words_note]
        rfl
      · rw [if_neg h4]
        have e2 : L1 ++ ((List.replicate n 32 ++ 35 :: J ++ [] ++ [10]) ++ r1) = (L1 ++ List.replicate n 32 ++ 35 :: J) ++ 10 :: r1 := by simp
        rw [e2, lnW_line hj, hw1]
    · rw [if_neg h1, if_neg (by omega)]
      have e2 : L1 ++ ((List.replicate n 32 ++ [] ++ [] ++ [10]) ++ r1) = (L1 ++ List.replicate n 32) ++ 10 :: r1 := by simp
      rw [e2, lnW_line (fun x hx => (hm x hx).1), words_eq (fun c hc => (hm c hc).2.1) (fun c hc => (hm c hc).2.2) hs]
/-- What is read of the words does not hang on the lines' numbers. -/
theorem within_words (n : Nat) : ∀ (after after' : Int) (ls ls' : List Ln) (ns ns' : List Int) (acc : List Fld) (r : List Fld × List Ln × List Int), ls'.map Prod.snd = ls.map Prod.snd → withinP n after ls ns acc = .ok r → ∃ r', withinP n after' ls' ns' acc = .ok r' ∧ r'.1 = r.1 ∧ r'.2.1.map Prod.snd = r.2.1.map Prod.snd := by
  induction n with
  | zero => intro _ _ _ _ _ _ _ _ _ h; cases h
  | succ n ih =>
    intro after after' ls ls' ns ns' acc r he h
    cases ls with
    | nil => cases h
    | cons l ls =>
      cases ls' with
      | nil => cases he
      | cons l' ls' =>
        rw [List.map_cons, List.map_cons, List.cons.injEq] at he
        obtain ⟨h1, h2⟩ := he
        rw [withinP] at h
        rw [withinP, h1]
        split at h
        · rename_i hend
          cases h
          exact ⟨_, if_pos hend, rfl, h2⟩
        · rename_i hend
          rw [if_neg hend]
          cases hl : lineL l.2 with
          | none => rw [hl] at h; cases h
          | some o =>
            rw [hl] at h
            dsimp only at h ⊢
            by_cases h7 : o.kind = 7
            · rw [if_pos h7] at h
              rw [if_pos h7]
              cases hq : withinP n after ls (ns ++ [l.1]) [] with
              | error m => rw [hq] at h; cases h
              | ok q =>
                rw [hq] at h
                dsimp only at h
                obtain ⟨q', e1, e2, e3⟩ := ih after after' ls ls' _ (ns' ++ [l'.1]) [] q h2 hq
                rw [e1]
                dsimp only
                rw [e2]
                exact ih after after' _ _ _ _ _ r e3 h
            · rw [if_neg h7] at h
              rw [if_neg h7]
              exact ih after after' _ _ _ _ _ r h2 h
theorem field_words {after num after' num' : Int} {ws : List ByteArray} {ls ls' : List Ln} {ns ns' : List Int} {r : Fld × List Ln × List Int} (he : ls'.map Prod.snd = ls.map Prod.snd) (h : fieldP after num ws ls ns = .ok r) : ∃ r', fieldP after' num' ws ls' ns' = .ok r' ∧ r'.1 = r.1 ∧ r'.2.1.map Prod.snd = r.2.1.map Prod.snd := by
  have hlen : ls'.length = ls.length := by have := congrArg List.length he; simpa using this
  unfold fieldP at h ⊢
  cases hl : lineL ws with
  | none => rw [hl] at h; cases h
  | some o =>
    rw [hl] at h
    dsimp only at h ⊢
    by_cases h7 : o.kind = 7
    · rw [if_pos h7] at h
      rw [if_pos h7]
      unfold allP at h ⊢
      rw [hlen]
      cases hq : withinP (ls.length + 1) after ls (ns ++ [num]) [] with
      | error m => rw [hq] at h; cases h
      | ok q =>
        rw [hq] at h
        cases h
        obtain ⟨q', e1, e2, e3⟩ := within_words _ after after' ls ls' _ (ns' ++ [num']) [] q he hq
        rw [e1]
        exact ⟨_, rfl, by dsimp only; rw [e2], e3⟩
    · rw [if_neg h7] at h
      rw [if_neg h7]
      cases h
      exact ⟨_, rfl, rfl, he⟩
theorem top_words (n : Nat) : ∀ (after after' : Int) (ls ls' : List Ln) (ns ns' : List Int) (acc : List Fld) (r : List Fld × List Int), ls'.map Prod.snd = ls.map Prod.snd → topP n after ls ns acc = .ok r → ∃ r', topP n after' ls' ns' acc = .ok r' ∧ r'.1 = r.1 := by
  induction n with
  | zero => intro _ _ _ _ _ _ _ _ _ h; cases h; exact ⟨_, rfl, rfl⟩
  | succ n ih =>
    intro after after' ls ls' ns ns' acc r he h
    cases ls with
    | nil =>
      cases ls' with
      | nil => cases h; exact ⟨_, rfl, rfl⟩
      | cons _ _ => cases he
    | cons l ls =>
      cases ls' with
      | nil => cases he
      | cons l' ls' =>
        rw [List.map_cons, List.map_cons, List.cons.injEq] at he
        obtain ⟨h1, h2⟩ := he
        rw [topP] at h
        rw [topP, h1]
        cases hq : fieldP after l.1 l.2 ls ns with
        | error m => rw [hq] at h; cases h
        | ok q =>
          rw [hq] at h
          obtain ⟨q', e1, e2, e3⟩ := field_words (after' := after') (num' := l'.1) (ns' := ns') h2 hq
          rw [e1]
          dsimp only
          rw [e2]
          exact ih after after' _ _ _ _ _ r e3 h
theorem schema_words {after after' : Int} {ls ls' : List Ln} {q : Int × List Fld × List Int} (he : ls'.map Prod.snd = ls.map Prod.snd) (h : schemaP after ls [] = .ok q) : ∃ ns, schemaP after' ls' [] = .ok (q.1, q.2.1, ns) := by
  have key : ∀ (num num' : Int) (ws : List ByteArray) (ls ls' : List Ln), ls'.map Prod.snd = ls.map Prod.snd → schP after num ws ls [] = .ok q → ∃ ns, schP after' num' ws ls' [] = .ok (q.1, q.2.1, ns) := by
    intro num num' ws ls ls' he h
    have hlen : ls'.length = ls.length := by have := congrArg List.length he; simpa using this
    unfold schP limP at h ⊢
    cases hz : limL ws with
    | none => rw [hz] at h; cases h
    | some z =>
      rw [hz] at h
      dsimp only at h ⊢
      unfold topA at h ⊢
      rw [hlen]
      cases hq : topP (ls.length + 1) after ls ([] ++ [num]) [] with
      | error m => rw [hq] at h; cases h
      | ok p =>
        rw [hq] at h
        cases h
        obtain ⟨p', e1, e2⟩ := top_words _ after after' ls ls' _ ([] ++ [num']) [] p he hq
        rw [e1]
        exact ⟨p'.2, by rw [finP, e2]⟩
  cases ls with
  | nil =>
    cases ls' with
    | nil => exact key _ _ _ _ _ rfl h
    | cons _ _ => cases he
  | cons l ls =>
    cases ls' with
    | nil => cases he
    | cons l' ls' =>
      rw [List.map_cons, List.map_cons, List.cons.injEq] at he
      unfold schemaP at h ⊢
      dsimp only at h ⊢
      rw [he.1]
      exact key _ _ _ _ _ he.2 h
theorem told_ended {o : Go.Vf.Own} {n : Nat} {a : List UInt8} (ha : ∀ c ∈ a, c = 32) (hn : isNameS o.name = true) (h : maySayO (bndQ o) o n = true) : ∀ x ∈ a ++ [102, 105, 101, 108, 100] ++ toldF o, x ≠ 10 ∧ x.toNat < 128 ∧ x ≠ 35 := by
  intro x hx
  rcases List.mem_append.1 hx with hx | hx
  · rcases List.mem_append.1 hx with hx | hx
    · rw [ha x hx]; decide
    · exact (by decide : ∀ x ∈ ([102, 105, 101, 108, 100] : List UInt8), x ≠ 10 ∧ x.toNat < 128 ∧ x ≠ 35) x hx
  · rw [← join_field] at hx
    have := join_plain (field_plain hn h) x hx
    exact ⟨this.2.2, this.1, this.2.1⟩
theorem fields_ended : ∀ (k : Nat) (l : List Fld), SizeOf.sizeOf l ≤ k → (∀ x ∈ l, GodF x) → ∀ (a : List UInt8), (∀ c ∈ a, c = 32) → Ended (fieldsL l a) := by
  intro k
  induction k with
  | zero => intro l h; cases l <;> simp at h
  | succ k ih =>
    intro l hk hg a ha
    cases l with
    | nil => rw [fieldsL]; exact .nil
    | cons f r =>
      obtain ⟨o, fl⟩ := f
      have hs1 : SizeOf.sizeOf fl ≤ k := by simp at hk; omega
      have hs2 : SizeOf.sizeOf r ≤ k := by simp at hk; omega
      obtain ⟨g1, g2, g3⟩ : isNameS o.name = true ∧ maySayO (bndQ o) o fl.length = true ∧ (∀ x ∈ fl, GodF x) := by
        cases hg (.mk o fl) List.mem_cons_self with
        | mk a b c => exact ⟨a, b, c⟩
      have ha2 : ∀ c ∈ a ++ [32, 32], c = 32 := by
        intro c hc
        rcases List.mem_append.1 hc with hc | hc
        · exact ha c hc
        · exact (by decide : ∀ c ∈ ([32, 32] : List UInt8), c = 32) c hc
      have e := line_eq o fl r a []
      rw [List.append_nil] at e
      rw [e]
      refine .line (told_ended ha g1 g2) ?_
      rw [List.append_nil]
      refine Ended.app ?_ (ih r hs2 (fun x hx => hg x (List.mem_cons_of_mem _ hx)) a ha)
      split
      · refine Ended.app (ih fl hs1 g3 _ ha2) ?_
        refine .line ?_ .nil
        intro x hx
        rcases List.mem_append.1 hx with hx | hx
        · rw [ha x hx]; decide
        · exact (by decide : ∀ x ∈ ([101, 110, 100] : List UInt8), x ≠ 10 ∧ x.toNat < 128 ∧ x ≠ 35) x hx
      · exact .nil
theorem prn_ended {limit : Int} {l : List Fld} (h : (chkS bndQ limit l).1 = 0) : Ended (prnS limit l) := by
  obtain ⟨g1, g2, g3, _⟩ := chkS_god h
  unfold prnS
  rw [List.append_assoc ([108, 105, 109, 105, 116] ++ (32 :: Lib.itoa limit)), List.singleton_append]
  refine .line ?_ (fields_ended _ l (Nat.le_refl _) g1 [] (by simp))
  intro x hx
  rcases List.mem_append.1 hx with hx | hx
  · exact (by decide : ∀ x ∈ ([108, 105, 109, 105, 116] : List UInt8), x ≠ 10 ∧ x.toNat < 128 ∧ x ≠ 35) x hx
  · rcases List.mem_cons.1 hx with rfl | hx
    · decide
    · have := (itoa_plain (by omega : 0 ≤ limit)).2 x hx
      exact ⟨this.2.2.2, this.1, this.2.2.1⟩
/-- THE PLAIN HALF: a right schema's text with more blanks, remarks and lines that say nothing is read as it. -/
theorem room_back {limit : Int} {l : List Fld} (h : (chkS bndQ limit l).1 = 0) (hf : ∀ x ∈ l, FitsF 17179869184 x) (hlen : (prnS limit l).length ≤ 65536) (rs : List (Int × List UInt8)) (hr : (roomL (prnS limit l) rs).length ≤ 65536) : parseS (roomL (prnS limit l) rs) = .ok (limit, l) := by
  have hb := parse_back h hf hlen
  have hw := room_lines (prn_ended h) rs
  generalize roomL (prnS limit l) rs = s at hr hw ⊢
  generalize hP : prnS limit l = P at hb hw hlen
  unfold parseS at hb ⊢
  rw [if_neg (by omega)] at hb ⊢
  cases hq : schemaP (1 + ((linesL P).length : Int)) (lnF 1 (linesL P)) [] with
  | error m => rw [hq] at hb; cases hb
  | ok q =>
    rw [hq] at hb
    obtain ⟨ns, e⟩ := schema_words (after' := 1 + ((linesL s).length : Int)) hw hq
    rw [e]
    simp only [afterS] at hb ⊢
    split at hb
    · rename_i hc
      rw [if_pos hc]
      split at hb
      · cases hb
      · rename_i hp
        rw [if_neg hp]
        exact hb
    · cases hb
end Go.Proofs.YtghjmfpjaabilaaGreatDoor
