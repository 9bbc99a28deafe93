/- What schema's readSchema reads, as a plain function (lemmas; nothing is claimed here). -/
import Derived.Test.YtcbjnifoojjipaaGreatDoorSWic
namespace Go.Proofs.YtcbjnifoojjipaaGreatDoor
open Go.RowKit Go.Vf Go.Maps
def topP : Nat → Int → List Ln → List Int → List Fld → Except Int (List Fld × List Int)
  | 0, _, _, ns, acc => .ok (acc, ns)
  | _ + 1, _, [], ns, acc => .ok (acc, ns)
  | n + 1, after, l :: ls, ns, acc => match fieldP after l.1 l.2 ls ns with
    | .error e => .error e
    | .ok r => topP n after r.2.1 r.2.2 (acc ++ [r.1])
def limL (ws : List ByteArray) : Option Int :=
  if (skipL ws ⟨#[108, 105, 109, 105, 116]⟩).1 then (match cntW (skipL ws ⟨#[108, 105, 109, 105, 116]⟩).2 with
    | some z => if z.2.isEmpty then some z.1 else none
    | none => none)
  else none
theorem topP_more (n : Nat) : ∀ (m : Nat) (after : Int) (ls : List Ln) (ns : List Int) (acc : List Fld), ls.length < n → n ≤ m → topP m after ls ns acc = topP n after ls ns acc := by
  induction n with
  | zero => intro m _ ls _ _ h; omega
  | succ n ih =>
    intro m after ls ns acc hl hm
    obtain ⟨m, rfl⟩ : ∃ k, m = k + 1 := ⟨m - 1, by omega⟩
    cases ls with
    | nil => rfl
    | cons l ls =>
      simp only [List.length_cons] at hl
      rw [topP, topP]
      cases hq : fieldP after l.1 l.2 ls ns with
      | error e => rfl
      | ok r =>
        have h1 := fieldP_less hq
        exact ih m after _ _ _ (by omega) (by omega)
def topA (after : Int) (ls : List Ln) (ns : List Int) (acc : List Fld) : Except Int (List Fld × List Int) := topP (ls.length + 1) after ls ns acc
theorem topA_nil (after : Int) (ns : List Int) (acc : List Fld) : topA after [] ns acc = .ok (acc, ns) := rfl
theorem topA_bad {after : Int} {l : Ln} {ls : List Ln} {ns : List Int} {m : Int} (h : fieldP after l.1 l.2 ls ns = .error m) (acc : List Fld) : topA after (l :: ls) ns acc = .error m := by
  unfold topA
  rw [topP, h]
theorem topA_ok {after : Int} {l : Ln} {ls : List Ln} {ns : List Int} {r : Fld × List Ln × List Int} (h : fieldP after l.1 l.2 ls ns = .ok r) (acc : List Fld) : topA after (l :: ls) ns acc = topA after r.2.1 r.2.2 (acc ++ [r.1]) := by
  unfold topA
  rw [topP, h]
  exact topP_more _ _ _ _ _ _ (by omega) (by have := fieldP_less h; simp only [List.length_cons]; omega)
def finP (z : Int) : Except Int (List Fld × List Int) → Except Int (Int × List Fld × List Int)
  | .error e => .error e
  | .ok r => .ok (z, r.1, r.2)
def limP (num : Int) (o : Option Int) (T : Except Int (List Fld × List Int)) : Except Int (Int × List Fld × List Int) := match o with
  | none => .error num
  | some z => finP z T
def schP (after num : Int) (ws : List ByteArray) (ls : List Ln) (ns : List Int) : Except Int (Int × List Fld × List Int) := limP num (limL ws) (topA after ls (ns ++ [num]) [])
def schemaP (after : Int) (ls : List Ln) (ns : List Int) : Except Int (Int × List Fld × List Int) := match ls with
  | [] => schP after after [] [] ns
  | l :: ls => schP after l.1 l.2 ls ns
def ScPost (K R : Nat) (after : Int) (ob : Option Nat) (w : World) (r : Except Int (Int × List Fld × List Int)) (e : Ending) (w' : World) : Prop :=
  match r with
  | .error num => e = lostL num ∧ Grw K R ob w w'
  | .ok q => ∃ fa fc a c, e = .returned (.agg #[.int .i64 q.1, .slice fa q.2.1.length fc]) ∧ q.2.1.length ≤ fc ∧ FT w' w.heap.size none q.2.1 fa fc ∧ Rs K R after ob w w' [] a c q.2.2
structure ScAt (K R : Nat) (after : Int) (ob : Option Nat) (w0 wr : World) (C S : Nat) (lim : Int) (ls : List Ln) (ns : List Int) (a : Option Addr) (c : Nat) (fa : Option Addr) (fc : Nat) (qs : List FQ) : Prop where
  res : Blk wr C 25 #[.int .i64 0, .slice none 0 0]
  box : Blk wr S 25 #[.int .i64 lim, .slice fa qs.length fc]
  hC : w0.heap.size ≤ C
  hS : w0.heap.size ≤ S
  hCS : C ≠ S
  lok : ∀ l ∈ ls, WsOK l.2
  frow : FRow wr w0.heap.size (.slice fa qs.length fc) qs
  rs : Rs K R after ob w0 wr ls a c ns
variable {K R : Nat} {after : Int} {ob : Option Nat} {w0 w w' : World} {C S : Nat} {lim : Int} {l : Ln} {ls ls2 : List Ln} {ns ns2 : List Int} {a a2 : Option Addr} {c c2 : Nat} {fa : Option Addr} {fc : Nat} {qs : List FQ}
theorem ScAt.ne (h : ScAt K R after ob w0 w C S lim ls ns a c fa fc qs) : some C ≠ (Value.slice a ns.length c).ownBlock ∧ some S ≠ (Value.slice a ns.length c).ownBlock := by
  constructor
  all_goals
    intro e
    obtain ⟨_, cs, f, hh⟩ := own_ge h.rs.own e.symm
  · rw [show w.heap[C]? = _ from h.res] at hh; cases hh
  · rw [show w.heap[S]? = _ from h.box] at hh; cases hh
theorem ScAt.next (h : ScAt K R after ob w0 w C S lim (l :: ls) ns a c fa fc qs) (hK : K ≤ w0.heap.size) (hr : RdAt K R w' ls after (.slice a ns.length c)) (hO : Oth R w w') : ScAt K R after ob w0 w' C S lim ls ns a c fa fc qs := by
  have hR := h.rs.rd.hR
  have hC := h.hC
  have hS := h.hS
  refine ⟨(hO.block C h.res.lt (by omega)).trans h.res, (hO.block S h.box.lt (by omega)).trans h.box, hC, hS, h.hCS, fun x hx => h.lok x (List.mem_cons_of_mem _ hx), h.frow.oth hO ?_, h.rs.next hr hO⟩
  obtain ⟨_, _, hB, _⟩ := h.rs.rd.row
  exact not48 hB (by decide)
theorem ScAt.field (h : ScAt K R after ob w0 w C S lim ls ns a c fa fc qs) (hK : K ≤ w0.heap.size) (hr : Rs K R after (Value.slice a ns.length c).ownBlock w w' ls2 a2 c2 ns2) (lok : ∀ l ∈ ls2, WsOK l.2) : ScAt K R after ob w0 w' C S lim ls2 ns2 a2 c2 fa fc qs := by
  have hR := h.rs.rd.hR
  have hC := h.hC
  have hS := h.hS
  exact ⟨(hr.grw.block C h.res.lt (by omega) h.ne.1).trans h.res, (hr.grw.block S h.box.lt (by omega) h.ne.2).trans h.box, hC, hS, h.hCS, lok, h.frow.keep fun b _ hb => hr.grw.block b hb.lt (h.rs.t48 hb).1 (h.rs.t48 hb).2, hr.rd, hr.own, h.rs.obn.trans hr.obn h.rs.grw.size, h.rs.grw.trans hr.grw h.rs.obn⟩
theorem ScAt.old (h : ScAt K R after ob w0 w C S lim ls ns a c fa fc qs) (hK : K ≤ w0.heap.size) (hb : Below w.heap.size w w') : ScAt K R after ob w0 w' C S lim ls ns a c fa fc qs := by
  refine ⟨h.res.old hb, h.box.old hb, h.hC, h.hS, h.hCS, h.lok, h.frow.keep fun b _ hb' => hb.block b hb'.lt, h.rs.oth hK (Oth.of (B := w.heap.size) hb) h.rs.grw.size fun e => ?_⟩
  obtain ⟨_, cs, f, hh⟩ := own_ge h.rs.own e.symm
  have := (Array.getElem?_eq_some_iff.1 hh).1
  omega
theorem ScAt.put (h : ScAt K R after ob w0 w C S lim ls ns a c fa fc qs) (hK : K ≤ w0.heap.size) {g7 c7 : Nat} {q : FQ} (hf : FRow w' w0.heap.size (.slice (some ⟨g7, 0, none⟩) (qs.length + 1) c7) (qs ++ [q])) (hg : w.grownBy w' (Value.slice fa qs.length fc).ownBlock) :
    (w'.cell? ⟨S, 1, none⟩ = some (.slice fa qs.length fc) ∧ w'.frozen? ⟨S, 1, none⟩ = false) ∧ ScAt K R after ob w0 (w'.setCell ⟨S, 1, none⟩ (.slice (some ⟨g7, 0, none⟩) (qs.length + 1) c7)) C S lim ls ns a c (some ⟨g7, 0, none⟩) c7 (qs ++ [q]) := by
  obtain ⟨X, hX, hO⟩ := Oth.grown hg
  have hXT : w0.heap.size ≤ X ∧ some X ≠ (Value.slice a ns.length c).ownBlock ∧ C ≠ X ∧ S ≠ X := by
    rcases hX with e | ⟨e, rfl⟩
    · obtain ⟨e1, e2⟩ := h.frow.t48 e
      refine ⟨e1, (h.rs.t48 e2).2, ?_, ?_⟩
      · rintro rfl; exact not48 h.res (by decide) e2
      · rintro rfl; exact not48 h.box (by decide) e2
    · refine ⟨h.rs.grw.size, fun e => ?_, Nat.ne_of_lt h.res.lt, Nat.ne_of_lt h.box.lt⟩
      obtain ⟨_, cs, f', hh⟩ := own_ge h.rs.own e.symm
      have := (Array.getElem?_eq_some_iff.1 hh).1
      omega
  have hS7 : Blk w' S 25 #[.int .i64 lim, .slice fa qs.length fc] := (hO.block S h.box.lt hXT.2.2.2).trans h.box
  have hC7 : Blk w' C 25 #[.int .i64 0, .slice none 0 0] := (hO.block C h.res.lt hXT.2.2.1).trans h.res
  have hrs7 := h.rs.oth hK hO hXT.1 hXT.2.1
  have hO8 : Oth S w' (w'.setCell ⟨S, 1, none⟩ (.slice (some ⟨g7, 0, none⟩) (qs.length + 1) c7)) := Oth.set S 1 w' _
  have hnS : some S ≠ (Value.slice a ns.length c).ownBlock := h.ne.2
  refine ⟨⟨hS7.cell 1, hS7.frozen 1⟩, (hO8.block C hC7.lt h.hCS).trans hC7, ?_, h.hC, h.hS, h.hCS, h.lok, ?_, hrs7.oth hK hO8 h.hS hnS⟩
  · have := hS7.set 1 (.slice (some ⟨g7, 0, none⟩) (qs.length + 1) c7)
    rw [List.length_append]
    exact this
  · rw [List.length_append]
    exact hf.oth hO8 (not48 hS7 (by decide))
theorem step_append_field {w : World} {ops : Array Oper} {o : Oper} {a : Act} {Kk : Act → World → Prop} {Q : Exit → Act → World → Prop} {E : Prop} (hgd : o.guard = none) (s x : Operand)
    (ho : o.op = .call { callee := .builtin .append, args := #[s, x], argTypes := #[23, 23] })
    (lo : Nat) (v : Value) (qs : List FQ) (hs : a.eval s = v) (hrow : FRow w lo v qs) (q : FQ) (hq : q.1.fields.length ≤ q.2.2 ∧ FT w lo v.ownBlock q.1.fields q.2.1 q.2.2) (b c : Nat) (hx : a.eval x = .slice (some ⟨b, 0, none⟩) 1 c)
    (hb : Blk w b 48 (cellQ q).toArray) (hlen : qs.length ≤ 1000000) (hbase : lo ≤ w.heap.size)
    (h : ∀ g c' w', FRow w' lo (.slice (some ⟨g, 0, none⟩) (qs.length + 1) c') (qs ++ [q]) → w.grownBy w' v.ownBlock → (v.ownBlock = some g ∨ g = w.heap.size) → Kk (a.put o.dst (.slice (some ⟨g, 0, none⟩) (qs.length + 1) c')) w') :
    if Region.wanted o (yielded ops a.tmps) = true then Oper.wp Tryz.prog o a w Kk Q else E := by
  obtain ⟨i, hi, hz, hsz, hby⟩ := info_parts info57
  refine step_append_lies w hgd s x 23 ho lo 48 i _ 14 120 Tryz.underlying23 hi hz hsz hby rfl (by decide) v qs.length (qs.flatMap cellQ) hs hrow.own ⟨b, 0, none⟩ 1 c (cellQ q) hx rfl ?_ ?_ (by omega) ?_ ?_ hbase w.heap.size rfl ?_
  · intro j u hu
    rw [show (⟨b, 0, none⟩ : Addr).add j = ⟨b, j, none⟩ by simp [Addr.add]; omega, hb.cell j]
    simpa using hu
  · intro u hu
    simp only [cellQ, List.mem_cons, List.not_mem_nil, or_false] at hu
    rcases hu with h | h | h | h | h | h | h | h | h | h | h | h | h | h <;> (subst h; rfl)
  · unfold maxLen; omega
  · omega
  · intro g cap w' h1 h2 hat _
    refine h g cap w' ⟨by rw [List.flatMap_append, List.length_append]; simpa using h1, fun p hp => ?_⟩ h2 hat
    have hpp : p.1.fields.length ≤ p.2.2 ∧ FT w lo v.ownBlock p.1.fields p.2.1 p.2.2 := by
      rcases List.mem_append.1 hp with hp | hp
      · exact hrow.inn p hp
      · rw [List.mem_singleton] at hp; subst hp; exact hq
    refine ⟨hpp.1, ?_⟩
    refine hpp.2.kept (Nat.le_refl _) (fun b _ e1 e2 => ⟨h2.block b e2.lt e1, ?_⟩)
    have := e2.lt
    show some b ≠ some g
    rcases hat with e | e
    · rw [← e]; exact e1
    · rw [e]; simp; omega
theorem next_two {K R : Nat} {after : Int} {ob : Option Nat} {w0 w : World} {ls : List Ln} {a : Option Addr} {c : Nat} {ns : List Int} (hs : Rs K R after ob w0 w ls a c ns) (hok : ∀ l ∈ ls, WsOK l.2) (hl : ls.length ≤ 1000000) :
    Calls Tryz.prog 77 #[.pointer (some ⟨R, 0, none⟩)] w fun e w' => ∃ num ws ls' wa wc, e = .returned (.agg #[.int .i64 num, .slice wa ws.length wc]) ∧ WRow K R w' wa wc ws ∧ WsOK ws ∧ (∀ l ∈ ls', WsOK l.2) ∧ Rs K R after ob w0 w' ls' a c ns ∧ Oth R w w' ∧ ls'.length ≤ ls.length ∧ Hid (schemaP after ls ns = schP after num ws ls' ns) := by
  cases ls with
  | nil =>
    refine (next_nil K R after _ w hs.rd).mono ?_
    rintro e w' ⟨rfl, hb⟩
    have hO : Oth R w w' := Oth.of hb
    have hKs := hs.rd.hK
    exact ⟨after, [], [], none, 0, rfl, ⟨Nat.le_refl _, fun j hj => by simp at hj⟩, ⟨by simp, fun x hx => by cases hx⟩, hok, hs.next (hs.rd.kp hb.size fun k hk => hb.block k (by omega)) hO, hO, Nat.le_refl _, rfl⟩
  | cons l ls =>
    simp only [List.length_cons] at hl
    refine (next_cons K R after _ l ls (by omega) w hs.rd).mono ?_
    rintro e w' ⟨wa, wc, rfl, h1, h2, h3⟩
    exact ⟨l.1, l.2, ls, wa, wc, rfl, h1, hok l (List.mem_cons_self ..), fun x hx => hok x (List.mem_cons_of_mem _ hx), hs.next h2 h3, h3, by simp, rfl⟩
end Go.Proofs.YtcbjnifoojjipaaGreatDoor
