/- What schema's readField reads, and the reader's memory beside it (contracts; nothing is claimed here). -/
import Derived.Test.YtcbjnifoojjipaaGreatDoorJ14
import Derived.Test.YtcbjnifoojjipaaGreatDoorJ6
import Derived.Deep.AppendLies
import Derived.Deep.RegionLaw
namespace Go.Proofs.YtcbjnifoojjipaaGreatDoor
open Go.RowKit Go.Vf Go.Maps
def RdL (K R : Nat) (w : World) (ls : List Ln) (after : Int) (ns : List Int) : Prop := ∃ a c, RdAt K R w ls after (.slice a ns.length c) ∧ IOwn w K (.slice a ns.length c) ns
structure Grw (K R : Nat) (ob : Option Nat) (w w' : World) : Prop where
  os : w'.os = w.os
  tape : w'.tape = w.tape
  output : w'.output = w.output
  size : w.heap.size ≤ w'.heap.size
  block : ∀ k, k < w.heap.size → k ≠ R → some k ≠ ob → w'.heap[k]? = w.heap[k]?
def readKL (k : Nat) (ws : List ByteArray) (o : Own) : Option (List ByteArray × Own) :=
  if k = 2 then readBoundsL ws o else if k = 3 ∨ k = 5 then readMostL ws o else if k = 6 then readCollateL ws o else some (ws, o)
def own0 (nm : ByteArray) : Own := ⟨nm, 0, false, 0, false, false, ⟨#[]⟩, false, ⟨#[]⟩, 0, 0, false, false⟩
def lineL (ws : List ByteArray) : Option Own :=
  if (skipL ws ⟨#[102, 105, 101, 108, 100]⟩).1 then
    (match takeW (skipL ws ⟨#[102, 105, 101, 108, 100]⟩).2 with
    | some x => (match kindW x.2 with
      | some k => (match readKL k.1 (nullsW (skipL k.2 ⟨#[100, 111, 119, 110]⟩).2).2 { own0 x.1 with kind := (k.1 : Int), down := (skipL k.2 ⟨#[100, 111, 119, 110]⟩).1, nulls := (nullsW (skipL k.2 ⟨#[100, 111, 119, 110]⟩).2).1 } with
        | some z => if z.1.isEmpty then some z.2 else none
        | none => none)
      | none => none)
    | none => none)
  else none
theorem own_same {w w' : World} {K : Nat} {v : Value} {ns : List Int} (h : IOwn w K v ns) (hs : ∀ j, v.ownBlock = some j → w'.heap[j]? = w.heap[j]?) : IOwn w' K v ns := by
  obtain ⟨h1, h2⟩ := h
  refine ⟨h1, ?_⟩
  rcases h2 with h2 | ⟨g, cap, cur, rfl, e2, e3, e4⟩
  · exact .inl h2
  · exact .inr ⟨g, cap, cur, rfl, e2, (hs g rfl).trans e3, e4⟩
theorem RdAt.kp {K R : Nat} {w w' : World} {ls : List Ln} {after : Int} {lv : Value} (h : RdAt K R w ls after lv) (hs : w.heap.size ≤ w'.heap.size) (hk : ∀ k, k < K → w'.heap[k]? = w.heap[k]?) : RdAt K R w' ls after lv := by
  obtain ⟨a, c, h1, h2⟩ := h.row
  exact ⟨h.hR, Nat.le_trans h.hK hs, a, c, (hk R h.hR).trans h1, h2.kp (fun k hk1 _ => hk k hk1)⟩
structure FSt (K R B : Nat) (ob : Option Nat) (ls : List Ln) (after : Int) (g cap n : Nat) (ns : List Int) (w0 w : World) : Prop where
  grw : Grw K R ob w0 w
  rd : RdAt K R w ls after (.slice (some ⟨g, 0, none⟩) n cap)
  own : IOwn w K (.slice (some ⟨g, 0, none⟩) n cap) ns
  res : Blk w (B + 1) 48 #[.string ⟨#[]⟩, .int .u8 0, .bool false, .int .u8 0, .bool false, .bool false, .string ⟨#[]⟩, .bool false, .string ⟨#[]⟩, .int .i64 0, .int .i64 0, .bool false, .bool false, .slice none 0 0]
  hgB : g ≠ B
  hgT : g ≠ B + 1
  hKB : K ≤ B
  h0B : w0.heap.size ≤ B
theorem FSt.othF {K R B F : Nat} {ob : Option Nat} {ls : List Ln} {after : Int} {g cap n : Nat} {ns : List Int} {w0 w w' : World} (h : FSt K R B ob ls after g cap n ns w0 w) (hO : OthF B F w w') (hF : B + 1 < F) (hg : g ≠ F) : FSt K R B ob ls after g cap n ns w0 w' := by
  have h1 := h.hKB
  have h2 := h.h0B
  have hs := h.grw.size
  have hgl : g < w.heap.size := by
    obtain ⟨_, cs, f, hh⟩ := own_ge h.own (j := g) rfl
    exact (Array.getElem?_eq_some_iff.1 hh).1
  refine ⟨⟨hO.os.trans h.grw.os, hO.tape.trans h.grw.tape, hO.output.trans h.grw.output, Nat.le_trans hs hO.size, fun k hk a1 a2 => (hO.block k (by omega) (by omega) (by omega)).trans (h.grw.block k hk a1 a2)⟩, h.rd.kp hO.size (fun k hk => hO.block k (by have := h.rd.hK; omega) (by omega) (by omega)), own_same h.own (fun j hj => ?_), (hO.block (B + 1) h.res.lt (by omega) (by omega)).trans h.res, h.hgB, h.hgT, h.hKB, h.h0B⟩
  cases hj
  exact hO.block g hgl h.hgB hg
theorem FSt.oth {K R B : Nat} {ob : Option Nat} {ls : List Ln} {after : Int} {g cap n : Nat} {ns : List Int} {w0 w w' : World} (h : FSt K R B ob ls after g cap n ns w0 w) (hO : Oth B w w') : FSt K R B ob ls after g cap n ns w0 w' :=
  h.othF (F := g + B + 2) (OthF.of _ hO) (by omega) (by omega)
theorem FSt.old {K R B : Nat} {ob : Option Nat} {ls : List Ln} {after : Int} {g cap n : Nat} {ns : List Int} {w0 w w' : World} (h : FSt K R B ob ls after g cap n ns w0 w) (hb : Below w.heap.size w w') : FSt K R B ob ls after g cap n ns w0 w' := h.oth (Oth.of hb)
theorem FSt.glt {K R B : Nat} {ob : Option Nat} {ls : List Ln} {after : Int} {g cap n : Nat} {ns : List Int} {w0 w : World} (h : FSt K R B ob ls after g cap n ns w0 w) : g < w.heap.size := by
  obtain ⟨_, cs, f, hh⟩ := own_ge h.own (j := g) rfl
  exact (Array.getElem?_eq_some_iff.1 hh).1
theorem FAt.kind {w : World} {F : Nat} {o : Own} (h : FAt w F o) (z : Int) : FAt (w.setCell ⟨F, 1, none⟩ (.int .u8 z)) F { o with kind := z } := Blk.set 1 (.int .u8 z) h
theorem FAt.down {w : World} {F : Nat} {o : Own} (h : FAt w F o) (z : Bool) : FAt (w.setCell ⟨F, 2, none⟩ (.bool z)) F { o with down := z } := Blk.set 2 (.bool z) h
theorem FAt.nulls {w : World} {F : Nat} {o : Own} (h : FAt w F o) (z : Int) : FAt (w.setCell ⟨F, 3, none⟩ (.int .u8 z)) F { o with nulls := z } := Blk.set 3 (.int .u8 z) h
theorem nullsW_ok {ws : List ByteArray} (h : WsOK ws) : WsOK (nullsW ws).2 := by
  unfold nullsW
  split
  · exact h.skip _
  · split
    · exact h.skip _
    · exact h
def kread (k : Nat) : Nat := if k = 2 then 129 else if k = 3 ∨ k = 5 then 133 else if k = 6 then 137 else 125
theorem kread_at {w : World} {g : Nat} (h : Blk w g 184 kindC) {k : Nat} (h1 : 1 ≤ k) (h8 : k < 8) : w.cell? ⟨g, k * 5 + 3, none⟩ = some (.func (.func (kread k)) #[] #[]) := by
  match k, h1, h8 with
  | 1, _, _ => exact h.cell 8
  | 2, _, _ => exact h.cell 13
  | 3, _, _ => exact h.cell 18
  | 4, _, _ => exact h.cell 23
  | 5, _, _ => exact h.cell 28
  | 6, _, _ => exact h.cell 33
  | 7, _, _ => exact h.cell 38
theorem kcall_125 (args : Array Value) (w : World) : Sem.run Tryz.prog (callFunc 125 args) w = .ok (.enter 125 args) w := by kernel_rfl
theorem kcall_129 (args : Array Value) (w : World) : Sem.run Tryz.prog (callFunc 129 args) w = .ok (.enter 129 args) w := by kernel_rfl
theorem kcall_133 (args : Array Value) (w : World) : Sem.run Tryz.prog (callFunc 133 args) w = .ok (.enter 133 args) w := by kernel_rfl
theorem kcall_137 (args : Array Value) (w : World) : Sem.run Tryz.prog (callFunc 137 args) w = .ok (.enter 137 args) w := by kernel_rfl
theorem kread_call {k : Nat} (h1 : 1 ≤ k) (h8 : k < 8) (args : Array Value) (w : World) : Sem.run Tryz.prog (callFunc (kread k) args) w = .ok (.enter (kread k) args) w := by
  match k, h1, h8 with
  | 1, _, _ => exact kcall_125 args w
  | 2, _, _ => exact kcall_129 args w
  | 3, _, _ => exact kcall_133 args w
  | 4, _, _ => exact kcall_125 args w
  | 5, _, _ => exact kcall_133 args w
  | 6, _, _ => exact kcall_137 args w
  | 7, _, _ => exact kcall_125 args w
theorem kindW_pos {ws : List ByteArray} (h : WsOK ws) {z : Nat} {r : List ByteArray} (hz : kindW ws = some (z, r)) : 1 ≤ z := by
  cases ws with
  | nil => cases hz
  | cons x s =>
    rw [kindW] at hz
    split at hz
    · rename_i z2 h2
      cases hz
      have hx := (h.2 x (List.mem_cons_self ..)).1
      unfold kindL kwords at h2
      rw [kfind, if_neg] at h2
      · exact (kfind_lt _ _ _ _ h2).1
      · intro e
        have e2 := of_decide_eq_true e
        subst e2
        exact absurd hx (by decide)
    · cases hz
theorem readK_any (k : Nat) (B F : Nat) (num : Int) (ws : List ByteArray) (o : Own) (hBF : B < F) (hws : WsOK ws) (w : World) (hL : LnAt w B num ws) (hF : FAt w F o) :
    Calls Tryz.prog (kread k) #[.pointer (some ⟨B, 0, none⟩), .pointer (some ⟨F, 0, none⟩)] w (ReadPost B F num w (readKL k ws o)) := by
  unfold kread readKL
  split
  · exact readBounds_any B F num ws o hBF hws w hL hF
  · split
    · exact readMost_any B F num ws o hBF hws w hL hF
    · split
      · exact readCollate_any B F num ws o hBF hws w hL hF
      · refine (readNothing_any _ _ w).mono ?_
        rintro _ w2 ⟨rfl, rfl⟩
        exact ⟨rfl, hL, hF, OthF.refl _ _ _⟩
theorem readKL_kind {k : Nat} {ws : List ByteArray} {o : Own} {z : List ByteArray × Own} (h : readKL k ws o = some z) : z.2.kind = o.kind := by
  unfold readKL at h
  split at h
  · unfold readBoundsL at h
    split at h
    · split at h
      · split at h
        · split at h
          · cases h; rfl
          · cases h
        · cases h
      · cases h
    · cases h; rfl
  · split at h
    · unfold readMostL at h
      split at h
      · split at h
        · cases h; rfl
        · cases h
      · cases h
    · split at h
      · unfold readCollateL at h
        split at h
        · split at h
          · cases h; rfl
          · cases h
        · cases h
      · cases h; rfl
theorem readKL_ok {k : Nat} {ws : List ByteArray} {o : Own} {z : List ByteArray × Own} (hw : WsOK ws) (h : readKL k ws o = some z) : WsOK z.1 := by
  unfold readKL at h
  split at h
  · unfold readBoundsL at h
    split at h
    · split at h
      · rename_i y hy
        split at h
        · split at h
          · rename_i y2 hy2
            cases h
            exact numW_ok (z := y2.1) (r := y2.2) ((numW_ok (z := y.1) (r := y.2) (hw.skip _) hy).skip _) hy2
          · cases h
        · cases h
      · cases h
    · cases h; exact hw
  · split at h
    · unfold readMostL at h
      split at h
      · split at h
        · rename_i y hy
          cases h
          exact cntW_ok (z := y.1) (r := y.2) (hw.skip _) hy
        · cases h
      · cases h
    · split at h
      · unfold readCollateL at h
        split at h
        · split at h
          · rename_i y hy
            cases h
            exact ((cntW_ok (z := y.1) (r := y.2) (hw.skip _) hy).skip _).skip _
          · cases h
        · cases h
      · cases h; exact hw
theorem own_R {K : Nat} {w : World} {v : Value} {ns : List Int} (h : IOwn w K v ns) {k : Nat} (hR : k < K) : some k ≠ v.ownBlock := fun e => by
  have := (own_ge h e.symm).1
  omega
theorem lines_grow {K R : Nat} {w1 w7 : World} {ls : List Ln} {after num : Int} {ns : List Int} {la a : Option Addr} {lc c : Nat} (hR : R < K) (hK : K ≤ w1.heap.size)
    (hB : Blk w1 R 107 #[.slice la ls.length lc, .int .i64 after, .slice a ns.length c]) (hL : LRow K R w1 la lc ls) (hown : IOwn w1 K (.slice a ns.length c) ns) {g cap : Nat}
    (h7 : w7.ownsRow K 3 1 (.slice (some ⟨g, 0, none⟩) (ns.length + 1) cap) (ns.length + 1) (ns.map (Value.int .i64) ++ [.int .i64 num]))
    (hg : (w1.alloc (.cells #[.int .i64 num] 3)).drew.grownBy w7 (Value.slice a ns.length c).ownBlock) :
    Blk w7 R 107 #[.slice la ls.length lc, .int .i64 after, .slice a ns.length c] ∧ RdAt K R (w7.setCell ⟨R, 2, none⟩ (.slice (some ⟨g, 0, none⟩) (ns.length + 1) cap)) ls after (.slice (some ⟨g, 0, none⟩) (ns.length + 1) cap) ∧ IOwn (w7.setCell ⟨R, 2, none⟩ (.slice (some ⟨g, 0, none⟩) (ns.length + 1) cap)) K (.slice (some ⟨g, 0, none⟩) (ns.length + 1) cap) (ns ++ [num]) ∧ Grw K R (Value.slice a ns.length c).ownBlock w1 (w7.setCell ⟨R, 2, none⟩ (.slice (some ⟨g, 0, none⟩) (ns.length + 1) cap)) := by
  have hb0 : Below w1.heap.size w1 (w1.alloc (.cells #[.int .i64 num] 3)).drew := ((Below.refl w1.heap.size w1).alloc (Nat.le_refl _) (.cells #[.int .i64 num] 3)).drew
  have hbk : ∀ k, k < w1.heap.size → some k ≠ (Value.slice a ns.length c).ownBlock → w7.heap[k]? = w1.heap[k]? := fun k hk hne =>
    (hg.block k (Nat.lt_of_lt_of_le hk hb0.size) hne).trans (hb0.block k hk)
  have hRl := hB.lt
  have hB7 : Blk w7 R 107 #[.slice la ls.length lc, .int .i64 after, .slice a ns.length c] := (hbk R hRl (own_R hown hR)).trans hB
  have hO : Oth R w7 (w7.setCell ⟨R, 2, none⟩ (.slice (some ⟨g, 0, none⟩) (ns.length + 1) cap)) := Oth.set R 2 w7 _
  have hsz7 : w1.heap.size ≤ w7.heap.size := Nat.le_trans hb0.size hg.size
  have hkp : Kp K R w1 (w7.setCell ⟨R, 2, none⟩ (.slice (some ⟨g, 0, none⟩) (ns.length + 1) cap)) := fun k hk hne => (hO.block k (by omega) hne).trans (hbk k (by omega) (own_R hown hk))
  refine ⟨hB7, ⟨hR, by have := hO.size; omega, la, lc, hB7.set 2 _, hL.kp hkp⟩, ?_, ⟨?_, ?_, ?_, Nat.le_trans hsz7 hO.size, fun k hk h1 h2 => (hO.block k (by omega) h1).trans (hbk k hk h2)⟩⟩
  · have h8 : IOwn w7 K (.slice (some ⟨g, 0, none⟩) (ns.length + 1) cap) (ns ++ [num]) := by
      unfold IOwn
      rw [List.map_append, List.length_append]
      exact h7
    refine World.ownsRow.kept h8 (row := some R) ⟨hO.os, hO.tape, hO.output, hO.size, fun k hk hne => hO.block k hk (fun e => hne (by rw [e]))⟩ (.inr ?_)
    exact fun e => own_R h8 hR e.symm
  · exact hO.os.trans (hg.os.trans hb0.os)
  · exact hO.tape.trans (hg.tape.trans hb0.tape)
  · exact hO.output.trans (hg.output.trans hb0.output)
theorem res_set {T : Nat} {w : World} {y0 y1 y2 y3 y4 y5 y6 y7 y8 y9 y10 y11 y12 y13 : Value} (hT : Blk w T 48 #[y0, y1, y2, y3, y4, y5, y6, y7, y8, y9, y10, y11, y12, y13]) (v0 v1 v2 v3 v4 v5 v6 v7 v8 v9 v10 v11 v12 v13 : Value) {wF : World} (hF : wF = ((((((((((((((w.setCell ⟨T, 0, none⟩ v0).setCell ⟨T, 1, none⟩ v1).setCell ⟨T, 2, none⟩ v2).setCell ⟨T, 3, none⟩ v3).setCell ⟨T, 4, none⟩ v4).setCell ⟨T, 5, none⟩ v5).setCell ⟨T, 6, none⟩ v6).setCell ⟨T, 7, none⟩ v7).setCell ⟨T, 8, none⟩ v8).setCell ⟨T, 9, none⟩ v9).setCell ⟨T, 10, none⟩ v10).setCell ⟨T, 11, none⟩ v11).setCell ⟨T, 12, none⟩ v12).setCell ⟨T, 13, none⟩ v13)) : Blk wF T 48 #[v0, v1, v2, v3, v4, v5, v6, v7, v8, v9, v10, v11, v12, v13] ∧ Oth T w wF := by
  subst hF
  have h0 : Blk (_) T 48 #[v0, y1, y2, y3, y4, y5, y6, y7, y8, y9, y10, y11, y12, y13] := hT.set 0 v0
  have h1 : Blk (_) T 48 #[v0, v1, y2, y3, y4, y5, y6, y7, y8, y9, y10, y11, y12, y13] := h0.set 1 v1
  have h2 : Blk (_) T 48 #[v0, v1, v2, y3, y4, y5, y6, y7, y8, y9, y10, y11, y12, y13] := h1.set 2 v2
  have h3 : Blk (_) T 48 #[v0, v1, v2, v3, y4, y5, y6, y7, y8, y9, y10, y11, y12, y13] := h2.set 3 v3
  have h4 : Blk (_) T 48 #[v0, v1, v2, v3, v4, y5, y6, y7, y8, y9, y10, y11, y12, y13] := h3.set 4 v4
  have h5 : Blk (_) T 48 #[v0, v1, v2, v3, v4, v5, y6, y7, y8, y9, y10, y11, y12, y13] := h4.set 5 v5
  have h6 : Blk (_) T 48 #[v0, v1, v2, v3, v4, v5, v6, y7, y8, y9, y10, y11, y12, y13] := h5.set 6 v6
  have h7 : Blk (_) T 48 #[v0, v1, v2, v3, v4, v5, v6, v7, y8, y9, y10, y11, y12, y13] := h6.set 7 v7
  have h8 : Blk (_) T 48 #[v0, v1, v2, v3, v4, v5, v6, v7, v8, y9, y10, y11, y12, y13] := h7.set 8 v8
  have h9 : Blk (_) T 48 #[v0, v1, v2, v3, v4, v5, v6, v7, v8, v9, y10, y11, y12, y13] := h8.set 9 v9
  have h10 : Blk (_) T 48 #[v0, v1, v2, v3, v4, v5, v6, v7, v8, v9, v10, y11, y12, y13] := h9.set 10 v10
  have h11 : Blk (_) T 48 #[v0, v1, v2, v3, v4, v5, v6, v7, v8, v9, v10, v11, y12, y13] := h10.set 11 v11
  have h12 : Blk (_) T 48 #[v0, v1, v2, v3, v4, v5, v6, v7, v8, v9, v10, v11, v12, y13] := h11.set 12 v12
  have h13 : Blk (_) T 48 #[v0, v1, v2, v3, v4, v5, v6, v7, v8, v9, v10, v11, v12, v13] := h12.set 13 v13
  exact ⟨h13, ((((((((((((((Oth.set T 0 w v0).trans (Oth.set T 1 _ v1)).trans (Oth.set T 2 _ v2)).trans (Oth.set T 3 _ v3)).trans (Oth.set T 4 _ v4)).trans (Oth.set T 5 _ v5)).trans (Oth.set T 6 _ v6)).trans (Oth.set T 7 _ v7)).trans (Oth.set T 8 _ v8)).trans (Oth.set T 9 _ v9)).trans (Oth.set T 10 _ v10)).trans (Oth.set T 11 _ v11)).trans (Oth.set T 12 _ v12)).trans (Oth.set T 13 _ v13))⟩
theorem FSt.done {K R B : Nat} {ob : Option Nat} {ls : List Ln} {after : Int} {g cap n : Nat} {ns : List Int} {w0 w w' : World} (h : FSt K R B ob ls after g cap n ns w0 w) (hO : Oth (B + 1) w w') : Grw K R ob w0 w' ∧ RdAt K R w' ls after (.slice (some ⟨g, 0, none⟩) n cap) ∧ IOwn w' K (.slice (some ⟨g, 0, none⟩) n cap) ns := by
  have h1 := h.hKB
  have h2 := h.h0B
  have hs := h.grw.size
  refine ⟨⟨hO.os.trans h.grw.os, hO.tape.trans h.grw.tape, hO.output.trans h.grw.output, Nat.le_trans hs hO.size, fun k hk a1 a2 => (hO.block k (by omega) (by omega)).trans (h.grw.block k hk a1 a2)⟩, h.rd.kp hO.size (fun k hk => hO.block k (by have := h.rd.hK; omega) (by omega)), own_same h.own (fun j hj => ?_)⟩
  cases hj
  exact hO.block g h.glt h.hgT
end Go.Proofs.YtcbjnifoojjipaaGreatDoor
