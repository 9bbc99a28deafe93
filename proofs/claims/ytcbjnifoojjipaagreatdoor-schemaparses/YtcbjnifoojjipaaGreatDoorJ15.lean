/- Contracts and lemmas (nothing is claimed here). -/
import Derived.Test.YtcbjnifoojjipaaGreatDoorJ14
import Derived.Test.YtcbjnifoojjipaaGreatDoorSFld
import Derived.Deep.LoopGhost
namespace Go.Proofs.YtcbjnifoojjipaaGreatDoor
open Go.RowKit Go.Vf Go.Maps
def allP (after : Int) (ls : List Ln) (ns : List Int) (acc : List Fld) : Except Int (List Fld × List Ln × List Int) := withinP (ls.length + 1) after ls ns acc
def fieldP (after num : Int) (ws : List ByteArray) (ls : List Ln) (ns : List Int) : Except Int (Fld × List Ln × List Int) :=
  match lineL ws with
  | none => .error num
  | some o => if o.kind = 7 then (match allP after ls (ns ++ [num]) [] with
      | .error e => .error e
      | .ok r => .ok (⟨o, r.1⟩, r.2.1, r.2.2))
    else .ok (⟨o, []⟩, ls, ns ++ [num])
def curP (after num : Int) (ws : List ByteArray) (ls : List Ln) (ns : List Int) (acc : List Fld) : Except Int (List Fld × List Ln × List Int) :=
  if isEndL ws then .ok (acc, ls, ns) else match fieldP after num ws ls ns with
    | .error e => .error e
    | .ok r => allP after r.2.1 r.2.2 (acc ++ [r.1])
def wl (ws : List ByteArray) : Nat := match ws with
  | [] => 0
  | _ => 1
theorem lineL_wl {ws : List ByteArray} {o : Own} (h : lineL ws = some o) : wl ws = 1 := by
  cases ws with
  | nil => cases h
  | cons x r => rfl
theorem withinP_len (n : Nat) : ∀ (after : Int) (ls : List Ln) (ns : List Int) (acc : List Fld) (r : List Fld × List Ln × List Int), withinP n after ls ns acc = .ok r → ns.length ≤ r.2.2.length ∧ r.2.2.length + r.2.1.length + 1 ≤ ns.length + ls.length ∧ ∀ l ∈ r.2.1, l ∈ ls := by
  induction n with
  | zero => intro _ _ _ _ _ h; cases h
  | succ n ih =>
    intro after ls ns acc r h
    cases ls with
    | nil => cases h
    | cons l ls =>
      rw [withinP] at h
      split at h
      · cases h
        exact ⟨Nat.le_refl _, by simp only [List.length_cons]; omega, fun x hx => List.mem_cons_of_mem _ hx⟩
      · split at h
        · cases h
        · split at h
          · split at h
            · cases h
            · rename_i q hq
              obtain ⟨a1, a2, a3⟩ := ih _ _ _ _ _ hq
              obtain ⟨b1, b2, b3⟩ := ih _ _ _ _ _ h
              simp only [List.length_append, List.length_cons, List.length_nil] at a1 a2 ⊢
              exact ⟨by omega, by omega, fun x hx => List.mem_cons_of_mem _ (a3 _ (b3 _ hx))⟩
          · obtain ⟨b1, b2, b3⟩ := ih _ _ _ _ _ h
            simp only [List.length_append, List.length_cons, List.length_nil] at b1 b2 ⊢
            exact ⟨by omega, by omega, fun x hx => List.mem_cons_of_mem _ (b3 _ hx)⟩
theorem fieldP_len {after num : Int} {ws : List ByteArray} {ls : List Ln} {ns : List Int} {r : Fld × List Ln × List Int} (h : fieldP after num ws ls ns = .ok r) : wl ws = 1 ∧ ns.length + 1 ≤ r.2.2.length ∧ r.2.2.length + r.2.1.length ≤ ns.length + 1 + ls.length ∧ ∀ l ∈ r.2.1, l ∈ ls := by
  unfold fieldP at h
  split at h
  · cases h
  · rename_i o ho
    refine ⟨lineL_wl ho, ?_⟩
    split at h
    · split at h
      · cases h
      · rename_i q hq
        cases h
        obtain ⟨a1, a2, a3⟩ := withinP_len _ _ _ _ _ _ hq
        simp only [List.length_append, List.length_cons, List.length_nil] at a1 a2 ⊢
        exact ⟨by omega, by omega, a3⟩
    · cases h
      simp only [List.length_append, List.length_cons, List.length_nil]
      exact ⟨by omega, by omega, fun _ h => h⟩
theorem allP_nil (after : Int) (ns : List Int) (acc : List Fld) : allP after [] ns acc = curP after after [] [] ns acc := rfl
theorem fieldP_less {after num : Int} {ws : List ByteArray} {ls : List Ln} {ns : List Int} {r : Fld × List Ln × List Int} (h : fieldP after num ws ls ns = .ok r) : r.2.1.length ≤ ls.length := by
  unfold fieldP at h
  split at h
  · cases h
  · split at h
    · split at h
      · cases h
      · rename_i q hq
        cases h
        exact Nat.le_of_lt (withinP_less _ _ _ _ _ _ hq)
    · cases h; exact Nat.le_refl _
theorem allP_cons (after : Int) (l : Ln) (ls : List Ln) (ns : List Int) (acc : List Fld) : allP after (l :: ls) ns acc = curP after l.1 l.2 ls ns acc := by
  unfold allP curP
  rw [List.length_cons, withinP]
  split
  · rfl
  · unfold fieldP
    cases hl : lineL l.2 with
    | none => rfl
    | some o =>
      simp only
      split
      · rw [show withinP (ls.length + 1) after ls (ns ++ [l.1]) [] = allP after ls (ns ++ [l.1]) [] from rfl]
        cases hq : allP after ls (ns ++ [l.1]) [] with
        | error e => rfl
        | ok r =>
          simp only
          exact withinP_more _ _ _ _ _ _ (by omega) (by have := withinP_less _ _ _ _ _ _ hq; omega)
      · rfl
def OBn (ob : Option Nat) (w : World) (ob' : Option Nat) : Prop := ob' = ob ∨ ∃ g, ob' = some g ∧ w.heap.size ≤ g
theorem Grw.refl (K R : Nat) (ob : Option Nat) (w : World) : Grw K R ob w w := ⟨rfl, rfl, rfl, Nat.le_refl _, fun _ _ _ _ => rfl⟩
theorem Grw.trans {K R : Nat} {ob ob' : Option Nat} {a b c : World} (h : Grw K R ob a b) (k : Grw K R ob' b c) (ho : OBn ob a ob') : Grw K R ob a c :=
  ⟨k.os.trans h.os, k.tape.trans h.tape, k.output.trans h.output, Nat.le_trans h.size k.size, fun i hi hR hn => (k.block i (Nat.lt_of_lt_of_le hi h.size) hR (by
    rcases ho with rfl | ⟨g, rfl, hg⟩
    · exact hn
    · simp; omega)).trans (h.block i hi hR hn)⟩
theorem OBn.trans {ob ob' ob'' : Option Nat} {a b : World} (h : OBn ob a ob') (k : OBn ob' b ob'') (hs : a.heap.size ≤ b.heap.size) : OBn ob a ob'' := by
  rcases k with rfl | ⟨g, rfl, hg⟩
  · exact h
  · exact .inr ⟨g, rfl, by omega⟩
theorem OBn.of {ob : Option Nat} {w : World} {g : Nat} (h : ob = some g ∨ w.heap.size ≤ g) : OBn ob w (some g) := by
  rcases h with rfl | h
  · exact .inl rfl
  · exact .inr ⟨g, rfl, h⟩
structure Rs (K R : Nat) (after : Int) (ob : Option Nat) (w0 w : World) (ls : List Ln) (a : Option Addr) (c : Nat) (ns : List Int) : Prop where
  rd : RdAt K R w ls after (.slice a ns.length c)
  own : IOwn w K (.slice a ns.length c) ns
  obn : OBn ob w0 (Value.slice a ns.length c).ownBlock
  grw : Grw K R ob w0 w
theorem Rs.t48 {K R : Nat} {after : Int} {ob : Option Nat} {w0 w : World} {ls : List Ln} {a : Option Addr} {c : Nat} {ns : List Int} (h : Rs K R after ob w0 w ls a c ns) {b : Nat} (hb : T48 w b) : b ≠ R ∧ some b ≠ (Value.slice a ns.length c).ownBlock := by
  obtain ⟨cs, f, hb⟩ := hb
  obtain ⟨la, lc, hB, _⟩ := h.rd.row
  refine ⟨fun e => ?_, fun e => ?_⟩
  · subst e
    rw [show w.heap[b]? = _ from hB] at hb
    cases hb
  · obtain ⟨_, cs', f', hh⟩ := own_ge h.own e.symm
    rw [hb] at hh
    cases hh
def RfPost (K R : Nat) (after : Int) (ob : Option Nat) (w : World) (r : Except Int (Fld × List Ln × List Int)) (e : Ending) (w' : World) : Prop :=
  match r with
  | .error num => e = lostL num ∧ Grw K R ob w w'
  | .ok q => ∃ fa fc a c, e = .returned (fV q.1.own fa q.1.fields.length fc) ∧ q.1.fields.length ≤ fc ∧ FT w' w.heap.size none q.1.fields fa fc ∧ Rs K R after ob w w' q.2.1 a c q.2.2
def WiPost (K R : Nat) (after : Int) (ob : Option Nat) (w : World) (r : Except Int (List Fld × List Ln × List Int)) (e : Ending) (w' : World) : Prop :=
  match r with
  | .error num => e = lostL num ∧ Grw K R ob w w'
  | .ok q => ∃ fa fc a c, e = .returned (.slice fa q.1.length fc) ∧ q.1.length ≤ fc ∧ FT w' w.heap.size none q.1 fa fc ∧ Rs K R after ob w w' q.2.1 a c q.2.2
def WiOk (n : Nat) : Prop := ∀ (K R : Nat) (after : Int) (ls : List Ln), ls.length ≤ n → (∀ l ∈ ls, WsOK l.2) → ∀ (ns : List Int), ns.length + ls.length + 1 ≤ 1000000 → ∀ (a : Option Addr) (c : Nat) (w : World), RdAt K R w ls after (.slice a ns.length c) → IOwn w K (.slice a ns.length c) ns →
  Calls Tryz.prog 109 #[.pointer (some ⟨R, 0, none⟩)] w (WiPost K R after (Value.slice a ns.length c).ownBlock w (allP after ls ns []))
theorem readField_all (K R : Nat) (after num : Int) (ws : List ByteArray) (hws : WsOK ws) (ls : List Ln) (ih : wl ws = 1 → ∃ n, WiOk n ∧ ls.length ≤ n) (hok : ∀ l ∈ ls, WsOK l.2) (ns : List Int) (hns : ns.length + 1 + ls.length + wl ws ≤ 1000000) (wa : Option Addr) (wcp : Nat) (w : World) (hrow : WRow K R w wa wcp ws) (a : Option Addr) (c : Nat) (hrd : RdAt K R w ls after (.slice a ns.length c)) (hown : IOwn w K (.slice a ns.length c) ns) :
    Calls Tryz.prog 81 #[.pointer (some ⟨R, 0, none⟩), .agg #[.int .i64 num, .slice wa ws.length wcp]] w (RfPost K R after (Value.slice a ns.length c).ownBlock w (fieldP after num ws ls ns)) := by
  refine readField_any K R after num ws hws ls ns (by omega) wa wcp w hrow a c hrd hown _ ?_ ?_ ?_
  · intro w' hl hg
    unfold fieldP
    rw [hl]
    exact ⟨rfl, hg⟩
  · intro w' o g cap hl hk hg hr ho hgn
    unfold fieldP
    rw [hl]
    simp only [if_neg hk]
    exact ⟨none, 0, some ⟨g, 0, none⟩, cap, rfl, Nat.le_refl _, .nil, by rw [List.length_append]; exact hr, by rw [List.length_append]; exact ho, OBn.of hgn, hg⟩
  · intro o w1 g cap hl hk hg hr ho hgn
    unfold fieldP
    rw [hl]
    simp only [if_pos hk]
    have hwl := lineL_wl hl
    have hn1 : (ns ++ [num]).length = ns.length + 1 := by simp
    rw [← hn1] at hr ho
    obtain ⟨n, ih, hls⟩ := ih hwl
    refine (ih K R after ls hls hok (ns ++ [num]) (by rw [hn1]; omega) _ _ w1 hr ho).mono ?_
    intro e w2 hp
    have hoR : ∀ k, K ≤ k → k ≠ R := fun k hk => by have := hrd.hR; omega
    cases hq : allP after ls (ns ++ [num]) [] with
    | error m =>
      rw [hq] at hp
      obtain ⟨rfl, hG⟩ := hp
      exact .inl ⟨m, rfl, rfl, hg.trans hG (OBn.of hgn)⟩
    | ok q =>
      rw [hq] at hp
      obtain ⟨fa, fc, a2, c2, rfl, hfc, hFT, hrs⟩ := hp
      refine .inr ⟨fa, _, fc, rfl, hrs.grw, fun wF h1 h2 h3 h4 h5 => ?_⟩
      have hsz1 := hg.size
      have hsz2 := hrs.grw.size
      have hKw := hrd.hK
      have hgw : Grw K R (Value.slice a ns.length c).ownBlock w w2 := hg.trans hrs.grw (OBn.of hgn)
      refine ⟨fa, fc, a2, c2, rfl, hfc, ?_, ?_, ?_, (OBn.of hgn).trans hrs.obn hsz1, ?_⟩
      · exact hFT.kept hsz1 fun b e1 _ e2 => ⟨h5 b e2.lt (.inr (.inl e1)), by simp⟩
      · exact hrs.rd.kp h4 fun k hk => h5 k (by omega) (.inl (by omega))
      · refine own_same hrs.own fun j hj => h5 j ?_ ?_
        · obtain ⟨_, cs, f, hh⟩ := own_ge hrs.own hj
          exact (Array.getElem?_eq_some_iff.1 hh).1
        · rcases hrs.obn with e | ⟨g', e, hg'⟩
          · rw [hj] at e
            cases e
            exact .inr (.inr rfl)
          · rw [hj] at e
            cases e
            exact .inr (.inl hg')
      · exact ⟨h1.trans hgw.os, h2.trans hgw.tape, h3.trans hgw.output, by omega, fun k hk hkR hkn => (h5 k (by omega) (.inl hk)).trans (hgw.block k hk hkR hkn)⟩
theorem Oth.grown {w w' : World} {ob : Option Nat} (h : w.grownBy w' ob) : ∃ X, (ob = some X ∨ (ob = none ∧ X = w.heap.size)) ∧ Oth X w w' := by
  cases ob with
  | none => exact ⟨w.heap.size, .inr ⟨rfl, rfl⟩, h.os, h.tape, h.output, h.size, fun k hk _ => h.block k hk (by simp)⟩
  | some j => exact ⟨j, .inl rfl, h.os, h.tape, h.output, h.size, fun k hk hn => h.block k hk (by simpa using hn)⟩
theorem Rs.oth {K R : Nat} {after : Int} {ob : Option Nat} {w0 w w' : World} {ls : List Ln} {a : Option Addr} {c : Nat} {ns : List Int} (h : Rs K R after ob w0 w ls a c ns) (hK : K ≤ w0.heap.size) {X : Nat} (hO : Oth X w w') (hX : w0.heap.size ≤ X) (hn : some X ≠ (Value.slice a ns.length c).ownBlock) : Rs K R after ob w0 w' ls a c ns := by
  have hs := h.grw.size
  refine ⟨h.rd.kp hO.size fun k hk => hO.block k (by omega) (by omega), own_same h.own fun j hj => hO.block j ?_ ?_, h.obn, hO.os.trans h.grw.os, hO.tape.trans h.grw.tape, hO.output.trans h.grw.output, Nat.le_trans hs hO.size, fun k hk hkR hkn => (hO.block k (by omega) (by omega)).trans (h.grw.block k hk hkR hkn)⟩
  · obtain ⟨_, cs, f, hh⟩ := own_ge h.own hj
    exact (Array.getElem?_eq_some_iff.1 hh).1
  · rintro rfl
    exact hn hj.symm
theorem Rs.next {K R : Nat} {after : Int} {ob : Option Nat} {w0 w w' : World} {ls ls' : List Ln} {a : Option Addr} {c : Nat} {ns : List Int} (h : Rs K R after ob w0 w ls a c ns) (hr : RdAt K R w' ls' after (.slice a ns.length c)) (hO : Oth R w w') : Rs K R after ob w0 w' ls' a c ns := by
  have hs := h.grw.size
  refine ⟨hr, own_same h.own fun j hj => hO.block j ?_ ?_, h.obn, hO.os.trans h.grw.os, hO.tape.trans h.grw.tape, hO.output.trans h.grw.output, Nat.le_trans hs hO.size, fun k hk hkR hkn => (hO.block k (by omega) hkR).trans (h.grw.block k hk hkR hkn)⟩
  · obtain ⟨_, cs, f, hh⟩ := own_ge h.own hj
    exact (Array.getElem?_eq_some_iff.1 hh).1
  · rintro rfl
    exact own_R h.own h.rd.hR hj.symm
theorem FRow.oth {w w' : World} {lo X : Nat} {v : Value} {qs : List FQ} (h : FRow w lo v qs) (hO : Oth X w w') (hX : ¬ T48 w X) : FRow w' lo v qs :=
  h.keep fun b _ hb => hO.block b hb.lt (by rintro rfl; exact hX hb)
theorem not48 {w : World} {b : Nat} {t : TypeId} {cs : Array Value} (h : Blk w b t cs) (ht : t ≠ 48) : ¬ T48 w b := by
  rintro ⟨cs', f, hh⟩
  rw [show w.heap[b]? = _ from h] at hh
  cases hh
  exact ht rfl
structure WiAt (K R : Nat) (after : Int) (ob : Option Nat) (w0 wr : World) (B : Nat) (num : Int) (ws : List ByteArray) (ls : List Ln) (ns : List Int) (a : Option Addr) (c : Nat) (wa : Option Addr) (wc : Nat) (fa : Option Addr) (fc : Nat) (qs : List FQ) : Prop where
  box : Blk wr B 139 #[.int .i64 num, .slice wa ws.length wc]
  hB : w0.heap.size ≤ B
  row : WRow K R wr wa wc ws
  wok : WsOK ws
  lok : ∀ l ∈ ls, WsOK l.2
  frow : FRow wr w0.heap.size (.slice fa qs.length fc) qs
  rs : Rs K R after ob w0 wr ls a c ns
  len : ns.length + 1 + ls.length + wl ws ≤ 1000000
  qlen : qs.length ≤ ns.length
theorem WiAt.first {K R : Nat} {after : Int} {ob : Option Nat} {w0 w9 wE : World} {B : Nat} {num : Int} {ws : List ByteArray} {ls : List Ln} {ns : List Int} {a : Option Addr} {c : Nat} {wa : Option Addr} {wc : Nat} {fa : Option Addr} {fc : Nat} {qs : List FQ}
    (hK : K ≤ w0.heap.size) {v0 v1 : Value} (hb : Blk w9 B 139 #[v0, v1]) (hB : w0.heap.size ≤ B) (hrow : WRow K R w9 wa wc ws) (hok : WsOK ws) (lok : ∀ l ∈ ls, WsOK l.2) (hf : FRow w9 w0.heap.size (.slice fa qs.length fc) qs) (hrs : Rs K R after ob w0 w9 ls a c ns) (hlen : ns.length + 1 + ls.length + wl ws ≤ 1000000) (hq : qs.length ≤ ns.length)
    (hE : wE = (w9.setCell ⟨B, 0, none⟩ (.int .i64 num)).setCell ⟨B, 1, none⟩ (.slice wa ws.length wc)) : WiAt K R after ob w0 wE B num ws ls ns a c wa wc fa fc qs := by
  subst hE
  have h1 := (hb.set 0 (.int .i64 num)).set 1 (.slice wa ws.length wc)
  have hO : Oth B w9 ((w9.setCell ⟨B, 0, none⟩ (.int .i64 num)).setCell ⟨B, 1, none⟩ (.slice wa ws.length wc)) := (Oth.set B 0 w9 _).trans (Oth.set B 1 _ _)
  have hn : some B ≠ (Value.slice a ns.length c).ownBlock := fun e => by
    obtain ⟨_, cs, f, hh⟩ := own_ge hrs.own e.symm
    rw [show w9.heap[B]? = _ from hb] at hh
    cases hh
  have hKs := hrs.rd.hK
  exact ⟨h1, hB, hrow.kp fun k hk _ => hO.block k (by omega) (by omega), hok, lok, hf.oth hO (not48 hb (by decide)), hrs.oth hK hO hB hn, hlen, hq⟩
theorem next_any {K R : Nat} {after : Int} {ob : Option Nat} {w0 w : World} {ls : List Ln} {a : Option Addr} {c : Nat} {ns : List Int} (hs : Rs K R after ob w0 w ls a c ns) (hok : ∀ l ∈ ls, WsOK l.2) (hl : ls.length ≤ 1000000) :
    Calls Tryz.prog 77 #[.pointer (some ⟨R, 0, none⟩)] w fun e w' => ∃ num ws ls' wa wc, e = .returned (.agg #[.int .i64 num, .slice wa ws.length wc]) ∧ WRow K R w' wa wc ws ∧ WsOK ws ∧ (∀ l ∈ ls', WsOK l.2) ∧ Rs K R after ob w0 w' ls' a c ns ∧ Oth R w w' ∧ ls'.length + wl ws ≤ ls.length ∧ (wl ws = 1 → ls'.length < ls.length) ∧ ∀ acc, allP after ls ns acc = curP after num ws ls' ns acc := by
  cases ls with
  | nil =>
    refine (next_nil K R after _ w hs.rd).mono ?_
    rintro e w' ⟨rfl, hb⟩
    have hO : Oth R w w' := Oth.of hb
    have hKs := hs.rd.hK
    exact ⟨after, [], [], none, 0, rfl, ⟨Nat.le_refl _, fun j hj => by simp at hj⟩, ⟨by simp, fun x hx => by cases hx⟩, hok, hs.next (hs.rd.kp hb.size fun k hk => hb.block k (by omega)) hO, hO, Nat.le_refl _, (fun h => by simp [wl] at h), fun acc => allP_nil after ns acc⟩
  | cons l ls =>
    simp only [List.length_cons] at hl
    refine (next_cons K R after _ l ls (by omega) w hs.rd).mono ?_
    rintro e w' ⟨wa, wc, rfl, h1, h2, h3⟩
    have hw : wl l.2 ≤ 1 := by unfold wl; split <;> omega
    exact ⟨l.1, l.2, ls, wa, wc, rfl, h1, hok l (List.mem_cons_self ..), fun x hx => hok x (List.mem_cons_of_mem _ hx), hs.next h2 h3, h3, by simp only [List.length_cons]; omega, fun _ => by simp, fun acc => allP_cons after l ls ns acc⟩
set_option maxHeartbeats 4000000 in
theorem readWithin_step (n : Nat) (ih : ∀ m, m < n → WiOk m) : WiOk n := by
  intro K R after ls hls hok ns hns a c w hrd hown
  obtain ⟨G, hG⟩ : ∃ G, allP after ls ns [] = G := ⟨_, rfl⟩
  rw [hG]
  obtain ⟨ob, hob⟩ : ∃ ob, (Value.slice a ns.length c).ownBlock = ob := ⟨_, rfl⟩
  rw [hob]
  have hK := hrd.hK
  have hrs : Rs K R after ob w w ls a c ns := ⟨hrd, hown, .inl hob, Grw.refl _ _ _ _⟩
  have hnx := next_any hrs hok (by omega)
  clear hob hrs hrd hown
  go_enter Tryz.func109, Tryz.ntmps109
  go_wp2_with fail
  refine hnx.mono ?_
  clear hnx
  rintro _ w1 ⟨num, ws, ls1, wa, wc, rfl, h1, h2, h3, h4, h5, h6, h7, h8⟩
  have HG : Hid (G = curP after num ws ls1 ns []) := by show G = _; rw [← hG, h8]
  clear hG h8
  go_upto_region 3 with fail
  have hst : WiAt K R after ob w (w1.alloc (.cells #[.int .i64 num, .slice wa ws.length wc] 139)) w1.heap.size num ws ls1 ns a c wa wc none 0 [] := by
    have hb1 := (Below.refl w1.heap.size w1).alloc (Nat.le_refl _) (.cells #[.int .i64 num, .slice wa ws.length wc] 139)
    have hKs := h4.rd.hK
    refine ⟨Blk.new w1 139 #[.int .i64 num, .slice wa ws.length wc], h5.size, h1.kp fun k hk _ => hb1.block k (by omega), h2, h3, FRow.nil _ _, h4.oth hK (Oth.of (B := w1.heap.size) hb1) h5.size (fun e => ?_), by omega, by simp⟩
    obtain ⟨_, cs, f, hh⟩ := own_ge h4.own e.symm
    have := (Array.getElem?_eq_some_iff.1 hh).1
    omega
  have hlt : wl ws = 1 → ls1.length < n := fun h => by have := h7 h; omega
  generalize w1.alloc (.cells #[.int .i64 num, .slice wa ws.length wc] 139) = w2 at hst ⊢
  generalize w1.heap.size = B0 at hst ⊢
  clear h1 h2 h3 h4 h5 h6 h7 hls hok hns
  go_loopg [3, 4] (2 * ls1.length + wl ws) (fun k fv lp wr => ∃ B num ws ls ns a c wa wc fa fc qs, k = 2 * ls.length + wl ws ∧ fv = .slice fa qs.length fc ∧ lp = .pointer (some ⟨B, 0, none⟩) ∧ WiAt K R after ob w wr B num ws ls ns a c wa wc fa fc qs ∧ (wl ws = 1 → ls.length < n) ∧ Hid (G = curP after num ws ls ns (qs.map Prod.fst)))
  case atStart => exact ⟨B0, num, ws, ls1, ns, a, c, wa, wc, none, 0, [], rfl, rfl, rfl, hst, hlt, HG⟩
  case round =>
    clear HG hlt hst w2
    obtain ⟨B, num, ws, ls, ns, a, c, wa, wc, fa, fc, qs, hgk, rfl, rfl, hst, hlt, HG⟩ := hrel
    have hend := isEnd_any B num ws hst.wok.1 wr ⟨wa, wc, hst.box, hst.row.wat (Nat.le_trans hK hst.hB)⟩
    have hgk' : Hid (gk = 2 * ls.length + wl ws) := hgk
    have hlt' : Hid (wl ws = 1 → ls.length < n) := hlt
    clear hgk hlt
    cases hE : isEndL ws with
    | true =>
      rw [hE] at hend
      have hGq : Hid (G = .ok (qs.map Prod.fst, ls, ns)) := by show G = _; rw [HG.out, curP, if_pos hE]
      obtain ⟨_, hfc, hFT⟩ := hst.frow.fin
      have hrs := hst.rs
      clear hst HG ih
      go_wp2_with fail
      refine hend.mono ?_
      rintro _ w3 ⟨rfl, rfl⟩
      clear hend
      go_wp2_with fail
      go_ret
      rw [hGq.out]
      exact ⟨fa, fc, a, c, by simp, by simpa using hfc, hFT, hrs⟩
    | false =>
      rw [hE] at hend
      have hrf := readField_all K R after num ws hst.wok ls (fun h => ⟨ls.length, ih _ (hlt'.out h), Nat.le_refl _⟩) hst.lok ns hst.len wa wc wr hst.row a c hst.rs.rd hst.rs.own
      have c0 : wr.cell? ⟨B, 0, none⟩ = some (.int .i64 num) := hst.box.cell 0
      have c1 : wr.cell? ⟨B, 1, none⟩ = some (.slice wa ws.length wc) := hst.box.cell 1
      have HST : Hid (WiAt K R after ob w wr B num ws ls ns a c wa wc fa fc qs) := hst
      have HE : Hid (isEndL ws = false) := hE
      clear hst ih hE
      go_wp2_with fail
      refine hend.mono ?_
      rintro _ wq ⟨rfl, rfl⟩
      clear hend
      go_wp2_with fail
      refine hrf.mono ?_
      clear hrf
      intro e w3 hp
      cases hF : fieldP after num ws ls ns with
      | error m =>
        rw [hF] at hp
        obtain ⟨rfl, hg⟩ := hp
        have hGq : Hid (G = .error m) := by show G = _; rw [HG.out, curP, if_neg (by rw [HE.out]; simp), hF]
        have hgr := HST.out.rs.grw.trans hg HST.out.rs.obn
        clear HST HG HE hF
        unfold lostL at *
        go_wp2_with fail
        refine ⟨rfl, ?_⟩
        rw [hGq.out]
        exact ⟨rfl, hgr⟩
      | ok q =>
        rw [hF] at hp
        obtain ⟨f, ls2, ns2⟩ := q
        obtain ⟨ga, gc, a2, c2, he, hgc, hFT, hrs2⟩ := hp
        simp only at he hgc hFT hrs2
        unfold fV at he
        subst he
        obtain ⟨l1, l2, l3, l4⟩ := fieldP_len hF
        have l5 := fieldP_less hF
        simp only at l2 l3 l4 l5
        have hGq : Hid (G = allP after ls2 ns2 ((qs ++ [(f, ga, gc)]).map Prod.fst)) := by show G = _; rw [HG.out, curP, if_neg (by rw [HE.out]; simp), hF]; simp
        have hst := HST.out
        have hrs3 : Rs K R after ob w w3 ls2 a2 c2 ns2 := ⟨hrs2.rd, hrs2.own, hst.rs.obn.trans hrs2.obn hst.rs.grw.size, hst.rs.grw.trans hrs2.grw hst.rs.obn⟩
        have hf3 : FRow w3 w.heap.size (.slice fa qs.length fc) qs := hst.frow.keep fun b _ hb => hrs2.grw.block b hb.lt (hst.rs.t48 hb).1 (hst.rs.t48 hb).2
        have hBR : B ≠ R := by have := hst.rs.rd.hR; have := hst.hB; omega
        have hBo : some B ≠ (Value.slice a ns.length c).ownBlock := fun e => by
          obtain ⟨_, cs, f', hh⟩ := own_ge hst.rs.own e.symm
          rw [show wq.heap[B]? = _ from hst.box] at hh
          cases hh
        have hbox3 : Blk w3 B 139 #[.int .i64 num, .slice wa ws.length wc] := (hrs2.grw.block B hst.box.lt hBR hBo).trans hst.box
        have hFT3 : FT w3 w.heap.size (Value.slice fa qs.length fc).ownBlock f.fields ga gc := hFT.mono hst.rs.grw.size fun b hb _ _ e => by
          have := (hst.frow.t48 e.symm).2.lt
          omega
        have hlen := hst.len
        have hql := hst.qlen
        have hBs := hst.hB
        have lok2 : ∀ l ∈ ls2, WsOK l.2 := fun l hl => hst.lok l (l4 l hl)
        obtain ⟨W4, hW4⟩ : ∃ W4, w3.alloc (.cells #[.string f.own.name, .int .u8 f.own.kind, .bool f.own.down, .int .u8 f.own.nulls, .bool f.own.bnd, .bool f.own.ln, .string f.own.lm, .bool f.own.hn, .string f.own.hm, .int .i64 f.own.most, .int .i64 f.own.str, .bool f.own.shf, .bool f.own.bck, .slice ga f.fields.length gc] 48) = W4 := ⟨_, rfl⟩
        have hb4 : Below w3.heap.size w3 W4 := by rw [← hW4]; exact (Below.refl w3.heap.size w3).alloc (Nat.le_refl _) _
        have hN4 : Blk W4 w3.heap.size 48 (cellQ (f, ga, gc)).toArray := by rw [← hW4]; exact Blk.new w3 48 (cellQ (f, ga, gc)).toArray
        have hn3 : some w3.heap.size ≠ (Value.slice a2 ns2.length c2).ownBlock := fun e => by
          obtain ⟨_, cs, f', hh⟩ := own_ge hrs3.own e.symm
          have := (Array.getElem?_eq_some_iff.1 hh).1
          omega
        have hs3 := hrs3.grw.size
        have hrs4 : Rs K R after ob w W4 ls2 a2 c2 ns2 := hrs3.oth hK (Oth.of (B := w3.heap.size) hb4) hs3 hn3
        have hf4 : FRow W4 w.heap.size (.slice fa qs.length fc) qs := hf3.keep fun b _ hb => hb4.block b hb.lt
        have hFT4 : FT W4 w.heap.size (Value.slice fa qs.length fc).ownBlock f.fields ga gc := hFT3.keep fun b _ _ hb => hb4.block b hb.lt
        have hbox4 := hbox3.old hb4
        have hbase : w.heap.size ≤ W4.heap.size := Nat.le_trans hs3 hb4.size
        have hq4 : qs.length ≤ 1000000 := by omega
        clear hrs3 hf3 hbox3 hFT3 hFT HST hst hF HG HE hrs2 hb4 hs3 hn3 hBo c0 c1
        go_upto_region 6 with (first | (at_builtin; refine wpList_append_field rfl _ _ rfl w.heap.size _ qs rfl hf4 (f, ga, gc) ⟨hgc, hFT4⟩ w3.heap.size 1 rfl hN4 hq4 hbase ?_; intro a7 c7 w7 hfr7 hgr7 hat7))
        obtain ⟨X, hX, hO7⟩ := Oth.grown hgr7
        have hXT : w.heap.size ≤ X ∧ some X ≠ (Value.slice a2 ns2.length c2).ownBlock ∧ B ≠ X := by
          rcases hX with e | ⟨e, rfl⟩
          · obtain ⟨e1, e2⟩ := hf4.t48 e
            refine ⟨e1, (hrs4.t48 e2).2, ?_⟩
            rintro rfl
            exact not48 hbox4 (by decide) e2
          · refine ⟨hbase, fun e => ?_, Nat.ne_of_lt hbox4.lt⟩
            obtain ⟨_, cs, f', hh⟩ := own_ge hrs4.own e.symm
            have := (Array.getElem?_eq_some_iff.1 hh).1
            omega
        have hrs7 : Rs K R after ob w w7 ls2 a2 c2 ns2 := hrs4.oth hK hO7 hXT.1 hXT.2.1
        have hbox7 : Blk w7 B 139 #[.int .i64 num, .slice wa ws.length wc] := (hO7.block B hbox4.lt hXT.2.2).trans hbox4
        have z0 : w7.cell? ⟨B, 0, none⟩ = some (.int .i64 num) := hbox7.cell 0
        have z1 : w7.cell? ⟨B, 1, none⟩ = some (.slice wa ws.length wc) := hbox7.cell 1
        have hb8 := (Below.refl w7.heap.size w7).alloc (Nat.le_refl _) (.cells #[.int .i64 num, .slice wa ws.length wc] 139)
        have hN8 := Blk.new w7 139 #[.int .i64 num, .slice wa ws.length wc]
        have hs7 := hrs7.grw.size
        have hn7 : some w7.heap.size ≠ (Value.slice a2 ns2.length c2).ownBlock := fun e => by
          obtain ⟨_, cs, f', hh⟩ := own_ge hrs7.own e.symm
          have := (Array.getElem?_eq_some_iff.1 hh).1
          omega
        have hrs8 := hrs7.oth hK (Oth.of (B := w7.heap.size) hb8) hs7 hn7
        have hfr8 := hfr7.keep (w' := w7.alloc (.cells #[.int .i64 num, .slice wa ws.length wc] 139)) (fun b _ hb => hb8.block b hb.lt)
        have hRw : R < w7.heap.size := by have := hrs7.rd.hR; have := hrs7.rd.hK; omega
        have hR8 : ¬ T48 (w7.alloc (.cells #[.int .i64 num, .slice wa ws.length wc] 139)) R := by
          obtain ⟨_, _, hB, _⟩ := hrs8.rd.row
          exact not48 hB (by decide)
        have hnx := next_any hrs8 lok2 (by omega)
        clear hf4 hFT4 hN4 hgr7 hat7 hrs4 hbox4 hX hO7 hXT hb8 hrs7 hfr7 hn7 hrs8 hbox7 hW4
        go_wp2_with fail
        refine hnx.mono ?_
        clear hnx
        rintro _ w9 ⟨num9, ws9, ls9, wa9, wc9, rfl, h1, h2, h3, h4, h5, h6, h7, h8⟩
        have hG9 : Hid (G = curP after num9 ws9 ls9 ns2 ((qs ++ [(f, ga, gc)]).map Prod.fst)) := by show G = _; rw [hGq.out, h8]
        have hN9 : Blk w9 w7.heap.size 139 #[.int .i64 num, .slice wa ws.length wc] := (h5.block _ (by rw [alloc_size]; omega) (by omega)).trans hN8
        have hf9 : FRow w9 w.heap.size (.slice a7 (qs ++ [(f, ga, gc)]).length c7) (qs ++ [(f, ga, gc)]) := by
          rw [List.length_append]
          exact hfr8.oth h5 hR8
        have y0 : w9.cell? ⟨w7.heap.size, 0, none⟩ = some (.int .i64 num) := hN9.cell 0
        have y1 : w9.cell? ⟨w7.heap.size, 1, none⟩ = some (.slice wa ws.length wc) := hN9.cell 1
        have yf0 : w9.frozen? ⟨w7.heap.size, 0, none⟩ = false := hN9.frozen 0
        have yf1 : w9.frozen? ⟨w7.heap.size, 1, none⟩ = false := hN9.frozen 1
        have hlt9 : Hid (wl ws9 = 1 → ls9.length < n) := fun h => by
          have := h7 h
          have := hlt'.out l1
          omega
        clear h8 hGq hfr8 hN8 h5 h7
        go_wp2_with fail
        go_roundg (2 * ls9.length + wl ws9)
        case measure =>
          have := hgk'.out
          omega
        case rel =>
          have hst := WiAt.first (num := num9) hK hN9 (by omega) h1 h2 h3 hf9 h4 (by omega) (by simp; omega) rfl
          exact ⟨w7.heap.size, num9, ws9, ls9, ns2, a2, c2, wa9, wc9, a7, c7, qs ++ [(f, ga, gc)], rfl, by simp, rfl, hst, hlt9.out, hG9⟩
theorem readWithin_any (n : Nat) : WiOk n := by
  induction n using Nat.strongRecOn with
  | _ n ih => exact readWithin_step n ih
theorem readField_whole (K R : Nat) (after num : Int) (ws : List ByteArray) (hws : WsOK ws) (ls : List Ln) (hok : ∀ l ∈ ls, WsOK l.2) (ns : List Int) (hns : ns.length + 1 + ls.length + wl ws ≤ 1000000) (wa : Option Addr) (wcp : Nat) (w : World) (hrow : WRow K R w wa wcp ws) (a : Option Addr) (c : Nat) (hrd : RdAt K R w ls after (.slice a ns.length c)) (hown : IOwn w K (.slice a ns.length c) ns) :
    Calls Tryz.prog 81 #[.pointer (some ⟨R, 0, none⟩), .agg #[.int .i64 num, .slice wa ws.length wcp]] w (RfPost K R after (Value.slice a ns.length c).ownBlock w (fieldP after num ws ls ns)) :=
  readField_all K R after num ws hws ls (fun _ => ⟨_, readWithin_any _, Nat.le_refl _⟩) hok ns hns wa wcp w hrow a c hrd hown
end Go.Proofs.YtcbjnifoojjipaaGreatDoor
