/- What schema's readField does with all that is within (contracts; nothing is claimed here). -/
import Derived.Test.YtcbjnifoojjipaaGreatDoorJ15
import Derived.Test.YtcbjnifoojjipaaGreatDoorSFld
namespace Go.Proofs.YtcbjnifoojjipaaGreatDoor
open Go.RowKit Go.Vf Go.Maps
def allP (after : Int) (ls : List Ln) (ns : List Int) (acc : List Fld) : Except Int (List Fld × List Ln × List Int) := withinP (ls.length + 1) after ls ns acc
def fieldP (after num : Int) (ws : List ByteArray) (ls : List Ln) (ns : List Int) : Except Int (Fld × List Ln × List Int) :=
  match lineL ws with
  | none => .error num
  | some o => if o.kind = 7 then (match allP after ls (ns ++ [num]) [] with
      | .error e => .error e
      | .ok r => .ok (⟨o, r.1⟩, r.2.1, r.2.2))
    else .ok (⟨o, []⟩, ls, ns ++ [num])
def curP (after num : Int) (ws : List ByteArray) (ls : List Ln) (ns : List Int) (acc : List Fld) : Except Int (List Fld × List Ln × List Int) :=
  if isEndL ws then .ok (acc, ls, ns) else match fieldP after num ws ls ns with
    | .error e => .error e
    | .ok r => allP after r.2.1 r.2.2 (acc ++ [r.1])
def wl (ws : List ByteArray) : Nat := match ws with
  | [] => 0
  | _ => 1
theorem lineL_wl {ws : List ByteArray} {o : Own} (h : lineL ws = some o) : wl ws = 1 := by
  cases ws with
  | nil => cases h
  | cons x r => rfl
theorem withinP_len (n : Nat) : ∀ (after : Int) (ls : List Ln) (ns : List Int) (acc : List Fld) (r : List Fld × List Ln × List Int), withinP n after ls ns acc = .ok r → ns.length ≤ r.2.2.length ∧ r.2.2.length + r.2.1.length + 1 ≤ ns.length + ls.length ∧ ∀ l ∈ r.2.1, l ∈ ls := by
  induction n with
  | zero => intro _ _ _ _ _ h; cases h
  | succ n ih =>
    intro after ls ns acc r h
    cases ls with
    | nil => cases h
    | cons l ls =>
      rw [withinP] at h
      split at h
      · cases h
        exact ⟨Nat.le_refl _, by simp only [List.length_cons]; omega, fun x hx => List.mem_cons_of_mem _ hx⟩
      · split at h
        · cases h
        · split at h
          · split at h
            · cases h
            · rename_i q hq
              obtain ⟨a1, a2, a3⟩ := ih _ _ _ _ _ hq
              obtain ⟨b1, b2, b3⟩ := ih _ _ _ _ _ h
              simp only [List.length_append, List.length_cons, List.length_nil] at a1 a2 ⊢
              exact ⟨by omega, by omega, fun x hx => List.mem_cons_of_mem _ (a3 _ (b3 _ hx))⟩
          · obtain ⟨b1, b2, b3⟩ := ih _ _ _ _ _ h
            simp only [List.length_append, List.length_cons, List.length_nil] at b1 b2 ⊢
            exact ⟨by omega, by omega, fun x hx => List.mem_cons_of_mem _ (b3 _ hx)⟩
theorem fieldP_len {after num : Int} {ws : List ByteArray} {ls : List Ln} {ns : List Int} {r : Fld × List Ln × List Int} (h : fieldP after num ws ls ns = .ok r) : wl ws = 1 ∧ ns.length + 1 ≤ r.2.2.length ∧ r.2.2.length + r.2.1.length ≤ ns.length + 1 + ls.length ∧ ∀ l ∈ r.2.1, l ∈ ls := by
  unfold fieldP at h
  split at h
  · cases h
  · rename_i o ho
    refine ⟨lineL_wl ho, ?_⟩
    split at h
    · split at h
      · cases h
      · rename_i q hq
        cases h
        obtain ⟨a1, a2, a3⟩ := withinP_len _ _ _ _ _ _ hq
        simp only [List.length_append, List.length_cons, List.length_nil] at a1 a2 ⊢
        exact ⟨by omega, by omega, a3⟩
    · cases h
      simp only [List.length_append, List.length_cons, List.length_nil]
      exact ⟨by omega, by omega, fun _ h => h⟩
theorem allP_nil (after : Int) (ns : List Int) (acc : List Fld) : allP after [] ns acc = curP after after [] [] ns acc := rfl
theorem fieldP_less {after num : Int} {ws : List ByteArray} {ls : List Ln} {ns : List Int} {r : Fld × List Ln × List Int} (h : fieldP after num ws ls ns = .ok r) : r.2.1.length ≤ ls.length := by
  unfold fieldP at h
  split at h
  · cases h
  · split at h
    · split at h
      · cases h
      · rename_i q hq
        cases h
        exact Nat.le_of_lt (withinP_less _ _ _ _ _ _ hq)
    · cases h; exact Nat.le_refl _
theorem allP_cons (after : Int) (l : Ln) (ls : List Ln) (ns : List Int) (acc : List Fld) : allP after (l :: ls) ns acc = curP after l.1 l.2 ls ns acc := by
  unfold allP curP
  rw [List.length_cons, withinP]
  split
  · rfl
  · unfold fieldP
    cases hl : lineL l.2 with
    | none => rfl
    | some o =>
      simp only
      split
      · rw [show withinP (ls.length + 1) after ls (ns ++ [l.1]) [] = allP after ls (ns ++ [l.1]) [] from rfl]
        cases hq : allP after ls (ns ++ [l.1]) [] with
        | error e => rfl
        | ok r =>
          simp only
          exact withinP_more _ _ _ _ _ _ (by omega) (by have := withinP_less _ _ _ _ _ _ hq; omega)
      · rfl
def OBn (ob : Option Nat) (w : World) (ob' : Option Nat) : Prop := ob' = ob ∨ ∃ g, ob' = some g ∧ w.heap.size ≤ g
theorem Grw.refl (K R : Nat) (ob : Option Nat) (w : World) : Grw K R ob w w := ⟨rfl, rfl, rfl, Nat.le_refl _, fun _ _ _ _ => rfl⟩
theorem Grw.trans {K R : Nat} {ob ob' : Option Nat} {a b c : World} (h : Grw K R ob a b) (k : Grw K R ob' b c) (ho : OBn ob a ob') : Grw K R ob a c :=
  ⟨k.os.trans h.os, k.tape.trans h.tape, k.output.trans h.output, Nat.le_trans h.size k.size, fun i hi hR hn => (k.block i (Nat.lt_of_lt_of_le hi h.size) hR (by
    rcases ho with rfl | ⟨g, rfl, hg⟩
    · exact hn
    · simp; omega)).trans (h.block i hi hR hn)⟩
theorem OBn.trans {ob ob' ob'' : Option Nat} {a b : World} (h : OBn ob a ob') (k : OBn ob' b ob'') (hs : a.heap.size ≤ b.heap.size) : OBn ob a ob'' := by
  rcases k with rfl | ⟨g, rfl, hg⟩
  · exact h
  · exact .inr ⟨g, rfl, by omega⟩
theorem OBn.of {ob : Option Nat} {w : World} {g : Nat} (h : ob = some g ∨ w.heap.size ≤ g) : OBn ob w (some g) := by
  rcases h with rfl | h
  · exact .inl rfl
  · exact .inr ⟨g, rfl, h⟩
theorem OBn.or {ob : Option Nat} {w : World} {g : Nat} (h : OBn ob w (some g)) : ob = some g ∨ w.heap.size ≤ g := by
  rcases h with h | ⟨g', h, hg⟩
  · exact .inl h.symm
  · cases h; exact .inr hg
structure Rs (K R : Nat) (after : Int) (ob : Option Nat) (w0 w : World) (ls : List Ln) (a : Option Addr) (c : Nat) (ns : List Int) : Prop where
  rd : RdAt K R w ls after (.slice a ns.length c)
  own : IOwn w K (.slice a ns.length c) ns
  obn : OBn ob w0 (Value.slice a ns.length c).ownBlock
  grw : Grw K R ob w0 w
theorem Rs.t48 {K R : Nat} {after : Int} {ob : Option Nat} {w0 w : World} {ls : List Ln} {a : Option Addr} {c : Nat} {ns : List Int} (h : Rs K R after ob w0 w ls a c ns) {b : Nat} (hb : T48 w b) : b ≠ R ∧ some b ≠ (Value.slice a ns.length c).ownBlock := by
  obtain ⟨cs, f, hb⟩ := hb
  obtain ⟨la, lc, hB, _⟩ := h.rd.row
  refine ⟨fun e => ?_, fun e => ?_⟩
  · subst e
    rw [show w.heap[b]? = _ from hB] at hb
    cases hb
  · obtain ⟨_, cs', f', hh⟩ := own_ge h.own e.symm
    rw [hb] at hh
    cases hh
def RfPost (K R : Nat) (after : Int) (ob : Option Nat) (w : World) (r : Except Int (Fld × List Ln × List Int)) (e : Ending) (w' : World) : Prop :=
  match r with
  | .error num => e = lostL num ∧ Grw K R ob w w'
  | .ok q => ∃ fa fc a c, e = .returned (fV q.1.own fa q.1.fields.length fc) ∧ q.1.fields.length ≤ fc ∧ FT w' w.heap.size none q.1.fields fa fc ∧ Rs K R after ob w w' q.2.1 a c q.2.2
def WiPost (K R : Nat) (after : Int) (ob : Option Nat) (w : World) (r : Except Int (List Fld × List Ln × List Int)) (e : Ending) (w' : World) : Prop :=
  match r with
  | .error num => e = lostL num ∧ Grw K R ob w w'
  | .ok q => ∃ fa fc a c, e = .returned (.slice fa q.1.length fc) ∧ q.1.length ≤ fc ∧ FT w' w.heap.size none q.1 fa fc ∧ Rs K R after ob w w' q.2.1 a c q.2.2
def WiOk (n : Nat) : Prop := ∀ (K R : Nat) (after : Int) (ls : List Ln), ls.length ≤ n → (∀ l ∈ ls, WsOK l.2) → ∀ (ns : List Int), ns.length + ls.length + 1 ≤ 1000000 → ∀ (a : Option Addr) (c : Nat) (w : World), RdAt K R w ls after (.slice a ns.length c) → IOwn w K (.slice a ns.length c) ns →
  Calls Tryz.prog 109 #[.pointer (some ⟨R, 0, none⟩)] w (WiPost K R after (Value.slice a ns.length c).ownBlock w (allP after ls ns []))
theorem readField_all (K R : Nat) (after num : Int) (ws : List ByteArray) (hws : WsOK ws) (ls : List Ln) (ih : wl ws = 1 → ∃ n, WiOk n ∧ ls.length ≤ n) (hok : ∀ l ∈ ls, WsOK l.2) (ns : List Int) (hns : ns.length + 1 + ls.length + wl ws ≤ 1000000) (wa : Option Addr) (wcp : Nat) (w : World) (hrow : WRow K R w wa wcp ws) (a : Option Addr) (c : Nat) (hrd : RdAt K R w ls after (.slice a ns.length c)) (hown : IOwn w K (.slice a ns.length c) ns) :
    Calls Tryz.prog 81 #[.pointer (some ⟨R, 0, none⟩), .agg #[.int .i64 num, .slice wa ws.length wcp]] w (RfPost K R after (Value.slice a ns.length c).ownBlock w (fieldP after num ws ls ns)) := by
  refine readField_any K R after num ws hws ls ns (by omega) wa wcp w hrow a c hrd hown _ ?_ ?_ ?_
  · intro w' hl hg
    unfold fieldP
    rw [hl]
    exact ⟨rfl, hg⟩
  · intro w' o g cap hl hk hg hr ho hgn
    unfold fieldP
    rw [hl]
    simp only [if_neg hk]
    exact ⟨none, 0, some ⟨g, 0, none⟩, cap, rfl, Nat.le_refl _, .nil, by rw [List.length_append]; exact hr, by rw [List.length_append]; exact ho, OBn.of hgn, hg⟩
  · intro o w1 g cap hl hk hg hr ho hgn
    unfold fieldP
    rw [hl]
    simp only [if_pos hk]
    have hwl := lineL_wl hl
    have hn1 : (ns ++ [num]).length = ns.length + 1 := by simp
    rw [← hn1] at hr ho
    obtain ⟨n, ih, hls⟩ := ih hwl
    refine (ih K R after ls hls hok (ns ++ [num]) (by rw [hn1]; omega) _ _ w1 hr ho).mono ?_
    intro e w2 hp
    have hoR : ∀ k, K ≤ k → k ≠ R := fun k hk => by have := hrd.hR; omega
    cases hq : allP after ls (ns ++ [num]) [] with
    | error m =>
      rw [hq] at hp
      obtain ⟨rfl, hG⟩ := hp
      exact .inl ⟨m, rfl, rfl, hg.trans hG (OBn.of hgn)⟩
    | ok q =>
      rw [hq] at hp
      obtain ⟨fa, fc, a2, c2, rfl, hfc, hFT, hrs⟩ := hp
      refine .inr ⟨fa, _, fc, rfl, hrs.grw, fun wF h1 h2 h3 h4 h5 => ?_⟩
      have hsz1 := hg.size
      have hsz2 := hrs.grw.size
      have hKw := hrd.hK
      have hgw : Grw K R (Value.slice a ns.length c).ownBlock w w2 := hg.trans hrs.grw (OBn.of hgn)
      refine ⟨fa, fc, a2, c2, rfl, hfc, ?_, ?_, ?_, (OBn.of hgn).trans hrs.obn hsz1, ?_⟩
      · exact hFT.kept hsz1 fun b e1 _ e2 => ⟨h5 b e2.lt (.inr (.inl e1)), by simp⟩
      · exact hrs.rd.kp h4 fun k hk => h5 k (by omega) (.inl (by omega))
      · refine own_same hrs.own fun j hj => h5 j ?_ ?_
        · obtain ⟨_, cs, f, hh⟩ := own_ge hrs.own hj
          exact (Array.getElem?_eq_some_iff.1 hh).1
        · rcases hrs.obn with e | ⟨g', e, hg'⟩
          · rw [hj] at e
            cases e
            exact .inr (.inr rfl)
          · rw [hj] at e
            cases e
            exact .inr (.inl hg')
      · exact ⟨h1.trans hgw.os, h2.trans hgw.tape, h3.trans hgw.output, by omega, fun k hk hkR hkn => (h5 k (by omega) (.inl hk)).trans (hgw.block k hk hkR hkn)⟩
end Go.Proofs.YtcbjnifoojjipaaGreatDoor
