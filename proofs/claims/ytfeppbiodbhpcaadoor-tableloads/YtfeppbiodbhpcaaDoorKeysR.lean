/- The keys of a map of rows, one by one (contracts; nothing is claimed here). -/
import Derived.Test.YtfeppbiodbhpcaaDoorR8
import Derived.Shelf.SlIter.Sorted
import Derived.RangeFuncNested
namespace Go.Proofs.YtfeppbiodbhpcaaDoor
open Go.RowKit Go.Vf Go.Maps Go.Sort Go.Shelf
attribute [local go_sem] Oper.semAt_some

def rowR (r : R8) : Value := .agg (enc8 r).toArray
theorem rowR_A (r : R8) : rowR r = rowA r.l := rfl
theorem rowR_inj {r s : R8} (h : rowR r = rowR s) : r = s := R8.l_inj (rowA_inj h)

theorem eight8 {α : Type} {l : List α} (h : l.length = 8) : ∃ a b c d e f g i, l = [a, b, c, d, e, f, g, i] := by
  match l, h with
  | [a, b, c, d, e, f, g, i], _ => exact ⟨a, b, c, d, e, f, g, i, rfl⟩
theorem lits3 {d : Nat} {cs : List Value} {ls : List Lit} (h : Tryd.prog.keyLits (d + 1) 3 cs = some ls) : ∃ z, cs = [.int .i64 z] ∧ InI z := by
  unfold Program.keyLits at h
  simp only [Tryd.underlying3] at h
  rcases cs with _ | ⟨c, _ | ⟨c', r⟩⟩
  · simp at h
  · cases c with
    | int q n =>
      simp only at h
      split at h
      · rename_i hw
        obtain ⟨rfl, hw⟩ := hw
        refine ⟨n, rfl, ?_⟩
        simp [Lit.wf, IntKind.min, IntKind.max, IntKind.signed, IntKind.bits] at hw
        unfold InI; omega
      · simp at h
    | _ => simp at h
  · simp at h
theorem key73_inv {v : Value} {kl : Lit} (h : keyOf Tryd.prog 73 v = some kl) : ∃ r : R8, v = rowR r ∧ RowOk r.l ∧ ∃ s, kl = .string s := by
  unfold keyOf at h
  simp only [Tryd.underlying73] at h
  split at h
  · rename_i hf
    simp only [Bool.and_eq_true] at hf
    obtain ⟨_, hf⟩ := hf
    simp only [Option.map_eq_some_iff] at h
    obtain ⟨ls, hls, rfl⟩ := h
    cases v with
    | agg cs =>
      simp only [Value.formed, Tryd.underlying73, cells73, beq_iff_eq] at hf
      obtain ⟨m, hm⟩ := types0
      rw [hm] at hls
      unfold Program.keyLits at hls
      simp only [Tryd.underlying73, Value.cells] at hls
      have hl8 : cs.toList.length = 8 := by simpa using hf
      rw [if_pos (by rw [cells73]; exact hl8), show List.range 8 = [0, 1, 2, 3, 4, 5, 6, 7] from rfl] at hls
      obtain ⟨c0, c1, c2, c3, c4, c5, c6, c7, hcs⟩ := eight8 hl8
      rw [hcs] at hls
      simp only [List.mapM_cons, List.mapM_nil, cells3, Option.map_eq_some_iff, Option.bind_eq_bind, Option.bind_eq_some_iff, Option.pure_def, Option.some.injEq, Nat.mul_one] at hls
      obtain ⟨_, ⟨l0, h0, _, ⟨l1, h1, _, ⟨l2, h2, _, ⟨l3, h3, _, ⟨l4, h4, _, ⟨l5, h5, _, ⟨l6, h6, _, ⟨l7, h7, _⟩, _⟩, _⟩, _⟩, _⟩, _⟩, _⟩, _⟩, _⟩ := hls
      obtain ⟨z0, e0, i0⟩ := lits3 h0
      obtain ⟨z1, e1, i1⟩ := lits3 h1
      obtain ⟨z2, e2, i2⟩ := lits3 h2
      obtain ⟨z3, e3, i3⟩ := lits3 h3
      obtain ⟨z4, e4, i4⟩ := lits3 h4
      obtain ⟨z5, e5, i5⟩ := lits3 h5
      obtain ⟨z6, e6, i6⟩ := lits3 h6
      obtain ⟨z7, e7, i7⟩ := lits3 h7
      simp at e0 e1 e2 e3 e4 e5 e6 e7
      subst e0 e1 e2 e3 e4 e5 e6 e7
      refine ⟨⟨z0, z1, z2, z3, z4, z5, z6, z7⟩, ?_, ⟨rfl, ?_⟩, _, rfl⟩
      · exact congrArg Value.agg (Array.ext' hcs)
      · intro x hx
        simp only [R8.l, List.mem_cons, List.not_mem_nil, or_false] at hx
        rcases hx with rfl | rfl | rfl | rfl | rfl | rfl | rfl | rfl <;> assumption
    | _ => simp [Value.formed, Tryd.underlying73] at hf
  · simp at h

/-- What has come so far. -/
def CollR (D0 : DataW Value) (left : Lit → Bool) (ss : List R8) : Prop :=
  ss.Nodup ∧ ∀ r, r ∈ ss ↔ ∃ kl, keyOf Tryd.prog 73 (rowR r) = some kl ∧ has D0 kl = true ∧ left kl = false
theorem CollR.start (D0 : DataW Value) : CollR D0 (has D0) [] := ⟨List.nodup_nil, fun r => by
  constructor
  · intro h; cases h
  · rintro ⟨kl, _, h1, h2⟩; rw [h1] at h2; cases h2⟩
theorem CollR.step {D0 : DataW Value} {left : Lit → Bool} {ss : List R8} (h : CollR D0 left ss) {x : R8} {kl : Lit} {y : DataW Value} (hk : keyOf Tryd.prog 73 (rowR x) = some kl) (hlk : left kl = true) (hat : ∀ zd, D0.atKey kl zd = y) :
    CollR D0 (fun z => left z && !z.sameKey kl) (ss ++ [x]) := by
  have hhas : has D0 kl = true := has_true_of_atKey hat
  have hnew : x ∉ ss := fun hx => by
    obtain ⟨kl', hk', _, hl⟩ := (h.2 x).1 hx
    rw [hk] at hk'
    cases hk'
    rw [hlk] at hl; cases hl
  obtain ⟨_, _, _, s, rfl⟩ := key73_inv hk
  refine ⟨List.nodup_append.2 ⟨h.1, by simp, fun a ha b hb => by simp at hb; subst hb; exact fun e => hnew (e ▸ ha)⟩, fun r => ?_⟩
  rw [List.mem_append, List.mem_singleton, h.2 r]
  constructor
  · rintro (⟨kl, hkr, h1, h2⟩ | rfl)
    · exact ⟨kl, hkr, h1, by simp [h2]⟩
    · exact ⟨_, hk, hhas, by simp [Lit.sameKey]⟩
  · rintro ⟨kl, hkr, h1, h2⟩
    obtain ⟨_, _, _, s', rfl⟩ := key73_inv hkr
    by_cases e : s' = s
    · subst e
      exact .inr (rowR_inj (keyed73.inj hkr hk))
    · refine .inl ⟨_, hkr, h1, ?_⟩
      simpa [Lit.sameKey, e] using h2
theorem CollR.done {f : List Int → Option Value} {D0 : DataW Value} {left : Lit → Bool} {ss : List R8} (h : CollR D0 left ss) (hl : ∀ kl, left kl = false)
    (h2 : ∀ l, RowOk l → ∀ kl, keyOf Tryd.prog 73 (rowA l) = some kl → Maps.has D0 kl = (f l).isSome ∧ ∀ z, D0.atKey kl (.held z) = .held ((f l).getD z)) : ss.Nodup ∧ ∀ r, r ∈ ss ↔ RowOk r.l ∧ (f r.l).isSome = true := by
  refine ⟨h.1, fun r => ?_⟩
  rw [h.2 r]
  constructor
  · rintro ⟨kl, hk, hh, _⟩
    obtain ⟨r', e, ok, _⟩ := key73_inv hk
    have := rowR_inj e
    subst this
    exact ⟨ok, by rw [← (h2 r.l ok kl hk).1]; exact hh⟩
  · rintro ⟨ok, hs⟩
    obtain ⟨kl, hk⟩ := key73 ok
    exact ⟨kl, hk, by rw [(h2 r.l ok kl hk).1]; exact hs, hl kl⟩

set_option maxHeartbeats 1000000 in
/-- maps.Keys(m): the map is boxed; the function value holds the box. -/
theorem keys_in (n : Nat) (mb : Option Nat) (w : World) :
    CallsIn Fence.wide n Tryd.prog 48 #[.map mb] w fun e w' => e = .returned (.func (.func 65) #[] #[.pointer (some ⟨w.heap.size, 0, none⟩)]) ∧ w' = w.alloc (.cells #[.map mb] 56) := by
  refine callsIn_of_wp Tryd.func48 rfl trivial ?_ rfl
  simp only [Tryd.ntmps48, List.size_toArray, List.length_cons, List.length_nil, Nat.reduceAdd, Nat.reduceSub, Array.replicate_succ, Array.replicate_zero, List.push_toArray, List.append_toArray, List.nil_append, List.cons_append]
  gi_wp2
  go_ret
  exact ⟨rfl, rfl⟩

set_option maxRecDepth 100000 in
set_option maxHeartbeats 1000000 in
theorem keys1_in (n : Nat) (hn : 1 ≤ n) (l Bm b nn : Nat) (D0 : DataW Value) (J Jx : List R8 → World → Prop)
    (W : World) (hJ : AbidesFrom W.heap.size J)
    (hY : ∀ pre x W1, J pre W1 → pre.length < Maps.size D0 → YieldAt Fence.wide (n - 1) Tryd.prog l #[rowR x] W1 fun e W' => (e = .returned (.bool true) ∧ J (pre ++ [x]) W' ∧ KeepsWalks W1 W') ∨ (e = .returned (.bool false) ∧ Jx (pre ++ [x]) W'))
    (hm : W.cell? ⟨Bm, 0, none⟩ = some (.map (some b))) (hown : W.ownsMap Tryd.prog 73 tokR b nn D0) (h0 : J [] W) :
    CallsIn Fence.wide n Tryd.prog 65 #[.func (.yield l) #[] #[], .pointer (some ⟨Bm, 0, none⟩)] W fun e W' => (∃ v, e = .returned v) ∧ ((∃ ss : List R8, ((∃ left, CollR D0 left ss ∧ ∀ kl, left kl = false) ∧ ss.length ≤ Maps.size D0) ∧ J ss W') ∨ ∃ pre, True ∧ Jx pre W') := by
  refine callsIn_of_wp Tryd.func65 rfl trivial ?_ rfl
  simp only [Tryd.ntmps65, List.size_toArray, List.length_cons, List.length_nil, Nat.reduceAdd, Nat.reduceSub, Array.replicate_succ, Array.replicate_zero, List.push_toArray, List.append_toArray, List.nil_append, List.cons_append]
  gi_wp2_with (first
    | (gi_at_range; refine wpListIn_range_own _ rfl _ 56 rfl 73 35 keyed73 Tryd.underlying56 _ b nn _ rfl hown ?_; intro w0 hrg0 hg0 hs0)
    | gi_in)
  go_frame
  gi_loopw [3] (fun _ wr => ∃ (left : Lit → Bool) (cnt : Nat) (ss : List R8), wr.ranges Tryd.prog 73 tokR b W.heap.size nn D0 left cnt ∧ ss.length + cnt ≤ Maps.size D0 ∧ CollR D0 left ss ∧ J ss wr)
    (fun _ wr => wr.rangeLeft b W.heap.size)
  case atStart =>
    exact ⟨_, _, [], hrg0, by simp, CollR.start D0, hJ [] W w0 none h0 hg0 (fun r e => by cases e)⟩
  case round =>
    obtain ⟨left, cnt, ss, hrg, hcs, hC, hJs⟩ := hrel
    gi_wp2_with (first
      | (gi_at_next; refine wpListIn_next_ranges _ rfl _ rfl 73 keyed73 tokR rowR id (fun key kl hk => by obtain ⟨x, hx, _⟩ := key73_inv hk; exact ⟨x, hx⟩) (fun v _ _ => ⟨v, rfl⟩) b W.heap.size nn _ _ _ rfl hrg ?_ ?_)
      | gi_in)
    · intro hc0 hl0
      gi_wp2
      go_end0
      exact ⟨⟨_, rfl⟩, .inl ⟨ss, ⟨⟨left, hC, hl0⟩, by omega⟩, hJs⟩⟩
    · intro x c kl yd yp w2 cnt2 hkey hlk hv hat hrg2 hlt hg2 hs2 hen
      have hJ2 : J ss w2 := hJ ss wr w2 (some W.heap.size) hJs hg2 (fun r e => by cases e; exact ⟨Nat.le_refl _, hrg.iter_walk⟩)
      have hCs := hC.step hkey hlk hat
      have hss : ss.length < Maps.size D0 := by omega
      have hyy := hY ss x
      generalize hxs : ss ++ [x] = xs at hCs hyy
      have hxl : xs.length = ss.length + 1 := by rw [← hxs]; simp
      obtain ⟨a0, a1, a2, a3, a4, a5, a6, a7⟩ := x
      have hB3 := Blk.new w2 73 #[.int .i64 a0, .int .i64 a1, .int .i64 a2, .int .i64 a3, .int .i64 a4, .int .i64 a5, .int .i64 a6, .int .i64 a7]
      have hen' : (Instr.entry (.pointer (some ⟨W.heap.size, 0, none⟩))).run Tryd.prog w2 = .ok (.tuple #[.agg #[.int .i64 a0, .int .i64 a1, .int .i64 a2, .int .i64 a3, .int .i64 a4, .int .i64 a5, .int .i64 a6, .int .i64 a7], c]) w2 := hen
      have hg3 := World.grownBy_alloc w2 (.cells #[.int .i64 a0, .int .i64 a1, .int .i64 a2, .int .i64 a3, .int .i64 a4, .int .i64 a5, .int .i64 a6, .int .i64 a7] 73) none
      have hJ3 := hJ ss _ _ none hJ2 hg3 (fun r e => by cases e)
      have hk3 := KeepsWalks.alloc w2 (.cells #[.int .i64 a0, .int .i64 a1, .int .i64 a2, .int .i64 a3, .int .i64 a4, .int .i64 a5, .int .i64 a6, .int .i64 a7] 73)
      clear hs2 hen
      rw [show rowR ⟨a0, a1, a2, a3, a4, a5, a6, a7⟩ = .agg #[.int .i64 a0, .int .i64 a1, .int .i64 a2, .int .i64 a3, .int .i64 a4, .int .i64 a5, .int .i64 a6, .int .i64 a7] from rfl]
      obtain ⟨fn, tmps, assign, body, hy, hR⟩ := hyy _ hJ3 hss
      have hy' : (Instr.yield l #[.agg #[.int .i64 a0, .int .i64 a1, .int .i64 a2, .int .i64 a3, .int .i64 a4, .int .i64 a5, .int .i64 a6, .int .i64 a7]]).run Tryd.prog (w2.alloc (.cells #[.int .i64 a0, .int .i64 a1, .int .i64 a2, .int .i64 a3, .int .i64 a4, .int .i64 a5, .int .i64 a6, .int .i64 a7] 73)) = _ := hy
      clear hy hB3 hJ3 hg3 hJ2
      gi_wp2
      refine hR.mono ?_
      rintro e W3 (⟨rfl, hJ3, hk4⟩ | ⟨rfl, hJx⟩)
      · gi_wp2
        have hrg3 := hrg2.of_walks (hk3.trans hk4)
        go_roundw
        case rel => exact ⟨_, cnt2, xs, hrg3, by omega, hCs, hJ3⟩
        case measure => rw [hrg3.left_eq, hrg.left_eq]; exact hlt
      · gi_wp2
        refine bodyPost_ret (results_none rfl _ _ _) rfl ?_
        exact ⟨⟨_, rfl⟩, .inr ⟨xs, trivial, hJx⟩⟩

/-- maps.Keys(m)'s iterator, behind the call. -/
theorem keys_stops (n : Nat) (hn : 1 ≤ n) (Bm b nn : Nat) (f : List Int → Option Value) (w : World) (hBm : Bm < w.heap.size) (hm : w.cell? ⟨Bm, 0, none⟩ = some (.map (some b))) (hown : MapR w b nn f) :
    SeqStopsK Fence.wide n Tryd.prog 65 #[.pointer (some ⟨Bm, 0, none⟩)] (fun x => #[rowR x]) KeepsWalks (fun ss => (ss.Nodup ∧ ∀ r, r ∈ ss ↔ RowOk r.l ∧ (f r.l).isSome = true) ∧ ss.length ≤ nn) (fun _ => True) nn w := by
  intro l J Jx W hW hJ _ hY h0
  obtain ⟨D0, hown, hsz, h2⟩ := hown
  have hown' : W.ownsMap Tryd.prog 73 tokR b nn D0 := by
    have hbl := hown.lt
    obtain ⟨es, clock, hb, Ft, hs, hD⟩ := hown
    exact ⟨es, clock, (hW.block b hbl).trans hb, Ft, hs, hD⟩
  refine (keys1_in n hn l Bm b nn D0 J Jx W hJ (by rw [hsz]; exact hY) ((hW.cell (p := ⟨Bm, 0, none⟩) hBm).trans hm) hown' h0).mono ?_
  rintro e W' ⟨hv, (⟨ss, ⟨⟨left, hC, hl⟩, hlen⟩, hJ'⟩ | h)⟩
  · exact ⟨hv, .inl ⟨ss, ⟨hC.done hl h2, hsz ▸ hlen⟩, hJ'⟩⟩
  · exact ⟨hv, .inr h⟩

/-! ### slices.AppendSeq(nil, seq), slices.Collect(seq) -/
def cells8 (ss : List R8) : List Value := (ss.map enc8).flatten
theorem cells8_len (ss : List R8) : (cells8 ss).length = ss.length * 8 := by
  induction ss with
  | nil => rfl
  | cons a r ih => simp [cells8, enc8_len] at ih ⊢; omega
theorem cells8_snoc (ss : List R8) (x : R8) : cells8 (ss ++ [x]) = cells8 ss ++ enc8 x := by simp [cells8]
theorem info73 : (Tryd.prog.info? 73).map (fun i => (i.zero, i.size, i.bytes)) = some (some (.agg #[.int .i64 0, .int .i64 0, .int .i64 0, .int .i64 0, .int .i64 0, .int .i64 0, .int .i64 0, .int .i64 0]), 8, 64) := by kernel_rfl
theorem cell_new8 (W : World) (r : R8) : ∀ j u, (enc8 r)[j]? = some u → (W.alloc (.cells (enc8 r).toArray 73)).cell? ((⟨W.heap.size, 0, none⟩ : Addr).add j) = some u := by
  intro j u hu
  have hb := Blk.new W 73 (enc8 r).toArray
  have := hb.cell j
  have e : (⟨W.heap.size, 0, none⟩ : Addr).add j = ⟨W.heap.size, j, none⟩ := by
    unfold Addr.add
    split
    · rename_i h; subst h; rfl
    · simp
  rw [e, this]
  simpa using hu
/-- 'x = append(x, row)' within a box. -/
theorem rows_appended {W w1 : World} {n₁ B : Nat} {t e : TypeId} {size : Nat} {v v' : Value} {k m : Nat} {xs ys : List Value} {tmp : Obj}
    (hv : Boxed W B t v) (hB : B < n₁) (hrow : W.ownsRow n₁ e size v k xs) (hn₁ : n₁ ≤ W.heap.size)
    (hown' : w1.ownsRow n₁ e size v' m ys) (hgrow : (W.alloc tmp).grownBy w1 v.ownBlock) :
    Boxed w1 B t v ∧ Boxed (w1.setCell ⟨B, 0, none⟩ v') B t v' ∧ (w1.setCell ⟨B, 0, none⟩ v').ownsRow n₁ e size v' m ys ∧ KeepsOthers W (w1.setCell ⟨B, 0, none⟩ v') ∧ Below B W (w1.setCell ⟨B, 0, none⟩ v') ∧ KeepsWalks W (w1.setCell ⟨B, 0, none⟩ v') := by
  have hkeep : ∀ (j : Nat) (t : TypeId) (cs : Array Value), some j ≠ v.ownBlock → Blk W j t cs → Blk w1 j t cs := fun j t cs hne hj =>
    (hgrow.block j (by have := hj.lt; simp; omega) hne).trans ((Below.heap_alloc W tmp j hj.lt).trans hj)
  have hv1 : Boxed w1 B t v := hkeep B t #[v] (fun e => by have := (own_ge hrow e.symm).1; omega) hv
  have hne : v'.ownBlock ≠ some B := fun e => by have := (own_ge hown' e).1; omega
  refine ⟨hv1, hv1.set v', hown'.kept (grownBy_setCell' w1 B v') (.inr hne), ?_, ?_, ?_⟩
  · refine ((KeepsOthers.alloc W tmp).trans (KeepsOthers.of_grownBy hgrow fun j o ej hj => ?_)).trans (KeepsOthers.setCell _ _ _)
    obtain ⟨_, cs, f, h3⟩ := own_ge (hrow.alloc tmp) ej
    rw [h3] at hj; cases hj; rfl
  · refine (((Below.refl B W).alloc (by omega) tmp).grown hgrow (by simp; omega) fun j ej => ?_).setCell (p := ⟨B, 0, none⟩) (Nat.le_refl _) v'
    have := (own_ge hrow ej).1
    omega
  · exact ((KeepsWalks.alloc _ _).trans (KeepsWalks.of_grownBy hgrow (ownsRow_not_walk_a (hrow.alloc _)))).trans (KeepsWalks.setCell _ _ _)

set_option maxRecDepth 100000 in
set_option maxHeartbeats 2000000 in
theorem appendSeq_in (n : Nat) (hn : 2 ≤ n) (lb : Array Value) (S : List R8 → Prop) (N : Nat) (hN : N ≤ 1048576) (w : World) (hseq : SeqStopsK Fence.wide (n - 1) Tryd.prog 65 lb (fun x => #[rowR x]) KeepsWalks S (fun _ => True) N w) :
    CallsIn Fence.wide n Tryd.prog 77 #[.slice none 0 0, .func (.func 65) #[] lb] w fun e w' => ∃ (v : Value) (ss : List R8), e = .returned v ∧ S ss ∧ w'.ownsRow w.heap.size 73 8 v ss.length (cells8 ss) ∧ Below w.heap.size w w' := by
  refine callsIn_of_wp_marks Tryd.func77 rfl trivial ?_ rfl
  simp only [Tryd.ntmps77, List.size_toArray, List.length_cons, List.length_nil, Nat.reduceAdd, Nat.reduceSub, Array.replicate_succ, Array.replicate_zero, List.push_toArray, List.append_toArray, List.nil_append, List.cons_append]
  gi_wp2
  obtain ⟨h, hh⟩ : ∃ h, h = w.heap.size := ⟨_, rfl⟩
  obtain ⟨W0, hW0⟩ : ∃ W0, W0 = w.alloc (.cells #[.slice none 0 0] 84) := ⟨_, rfl⟩
  have hs0 : W0.heap.size = h + 1 := by rw [hW0, hh]; simp
  have b0 : Boxed W0 h 84 (.slice none 0 0) := by rw [hW0, hh]; exact Boxed.new w 84 _
  have hB0 : Below h w W0 := by rw [hW0, hh]; exact (Below.refl _ w).alloc (Nat.le_refl _) _
  rw [← hW0, ← hh]
  have HH : Hid (h = w.heap.size) := hh
  clear hh hW0
  refine wpIn_rangeFunc_ownH (F := Fence.wide) rfl (by omega) (gf := 65) (lb := lb) rfl trivial (enters_of Tryd.func65 (by kernel_rfl) rfl)
    hseq (fun h k => h.trans k) (fun W l o o' hl h1 h2 h3 => KeepsWalks.putObj _ h1 h3) (HH.out ▸ hB0) (fun _ => rfl)
    (fun pre W => (∃ v, Boxed W h 84 v ∧ W.ownsRow (h + 1) 73 8 v pre.length (cells8 pre) ∧ True) ∧ Below h w W)
    (fun c pre W => False)
    (OwnFrom.and (Own.from (holdsRow_own (h + 1) h 84 73 8 (fun pre : List R8 => pre.length) (fun pre => cells8 pre) (fun _ _ => True)) _) (ownFrom_below (by rw [HH.out]; exact Nat.le_refl _) (by omega)))
    (fun c => fun _ _ _ _ h _ _ => h)
    ⟨⟨_, b0, World.ownsRow_nil _ _ _ _, trivial⟩, hB0⟩
    (fun x a' W => ∃ g, h + 1 ≤ g ∧ Blk W g 73 (enc8 x).toArray ∧ a' = { tmps := #[.slice none 0 0, .func (.func 65) #[] lb, .pointer (some ⟨h, 0, none⟩), undef, .slice none 0 0, .pointer (some ⟨g, 0, none⟩), .func (.func 65) #[] lb, rowR x, undef, undef, undef, undef, undef], defers := [] }) ?Ax ?assign ?body ?done ?stop
  case Ax =>
    intro x a' _ A B row ⟨g, hg1, hg2, e⟩ hg hr
    refine ⟨g, hg1, (hg.block g hg2.lt (fun e' => ?_)).trans hg2, e⟩
    obtain ⟨_, o, ho, hc⟩ := hr g e'.symm
    rw [show A.heap[g]? = _ from hg2] at ho
    cases ho
    cases hc
  case assign =>
    intro l pre x W K hI hK
    obtain ⟨a0, a1, a2, a3, a4, a5, a6, a7⟩ := x
    simp only [rowR, enc8, R8.l]
    have hB := Blk.new W 73 #[.int .i64 a0, .int .i64 a1, .int .i64 a2, .int .i64 a3, .int .i64 a4, .int .i64 a5, .int .i64 a6, .int .i64 a7]
    have hsz : h + 1 ≤ W.heap.size := by
      obtain ⟨⟨v, hv, _⟩, _⟩ := hI
      exact Blk.lt (show Blk W h 84 #[v] from hv)
    gi_wp2
    refine hK _ _ ((KeepsOthers.alloc _ _).from _) (KeepsWalks.alloc _ _) ?_ ⟨W.heap.size, hsz, hB, rfl⟩
    obtain ⟨⟨v, hv, hrow, _⟩, hbel⟩ := hI
    exact ⟨⟨v, hv.alloc _, hrow.alloc _, trivial⟩, hbel.alloc (by omega) _⟩
  case body =>
    rintro l pre x a' W hl _ ⟨⟨v, hv, hrow, _⟩, hbel⟩ ⟨g, hg1, hg2, rfl⟩ hlt
    obtain ⟨i0, hi, hz0, hz1, hz2⟩ := info_parts info73
    have hc := hv.cell
    have hsz : h + 1 ≤ W.heap.size := Blk.lt (show Blk W h 84 #[v] from hv)
    have hcell := cell_new8 W x
    have hxl : (enc8 x).length = 1 * 8 := rfl
    have hx1 := enc8_one x
    have hsn := cells8_snoc pre x
    have hsn2 : (pre ++ [x]).length = pre.length + 1 := by simp
    obtain ⟨a0, a1, a2, a3, a4, a5, a6, a7⟩ := x
    simp only [rowR, enc8, R8.l, List.map_cons, List.map_nil] at hg2 hcell hxl hx1 hsn ⊢
    generalize pre ++ [(⟨a0, a1, a2, a3, a4, a5, a6, a7⟩ : R8)] = xs at hsn hsn2 ⊢
    have g0 := hg2.cell 0
    have g1 := hg2.cell 1
    have g2 := hg2.cell 2
    have g3 := hg2.cell 3
    have g4 := hg2.cell 4
    have g5 := hg2.cell 5
    have g6 := hg2.cell 6
    have g7 := hg2.cell 7
    simp at g0 g1 g2 g3 g4 g5 g6 g7
    gi_wp2_with (gi_at_builtin; refine wpListIn_append_own _ rfl _ _ 84 rfl (h + 1) 73 i0 _ 8 64 Tryd.underlying84 hi hz0 hz1 hz2 rfl (by decide) _ _ _ rfl (hrow.alloc _) ⟨W.heap.size, 0, none⟩ 1 1 _ rfl hxl hcell hx1 (by unfold maxLen; omega) (by omega) (by simp; omega) ?_; intro v' w1 hown' hgrow _; obtain ⟨g', cap', rfl⟩ := ownsRow_succ hown'; obtain ⟨hv1, hv2, hr2, hk2, hb2, hkw2⟩ := rows_appended hv (by omega) hrow hsz hown' hgrow; have hc1 := hv1.cell; have hf1 := hv1.frozen)
    exact ⟨hk2.from _, hkw2, ⟨_, hv2, by rw [hsn, hsn2]; exact hr2, trivial⟩, hbel.trans hb2⟩
  case done =>
    rintro D ss W hD hS ⟨⟨v, hv, hrow, _⟩, hbel⟩ hK
    have hc := hv.cell
    gi_wp2
    refine ⟨by simp, .inl ⟨_, _, rfl, run_takeDeferred hK, ?_⟩⟩
    refine ⟨_, results_tmp rfl _ _ _, v, ss, rfl, hS, ?_, ?_⟩
    · rw [← HH.out]
      exact ownsRow_mono (ownsRow_putObj hrow _ hK rfl) (by omega)
    · rw [← HH.out]
      exact hbel.trans (belowK_b (w := w) (by rw [HH.out]; exact Nat.le_refl _) _ D _ _ (by rw [← HH.out]; omega) hK rfl rfl)
  case stop =>
    rintro D c pre W hD _ h
    exact h.elim

set_option maxHeartbeats 1000000 in
/-- slices.Collect(seq). -/
theorem collect_in (n : Nat) (hn : 3 ≤ n) (lb : Array Value) (S : List R8 → Prop) (N : Nat) (hN : N ≤ 1048576) (w : World) (hseq : SeqStopsK Fence.wide (n - 1 - 1) Tryd.prog 65 lb (fun x => #[rowR x]) KeepsWalks S (fun _ => True) N w) :
    CallsIn Fence.wide n Tryd.prog 63 #[.func (.func 65) #[] lb] w fun e w' => ∃ (v : Value) (ss : List R8), e = .returned v ∧ S ss ∧ w'.ownsRow w.heap.size 73 8 v ss.length (cells8 ss) ∧ Below w.heap.size w w' := by
  refine callsIn_of_wp Tryd.func63 rfl trivial ?_ rfl
  simp only [Tryd.ntmps63, List.size_toArray, List.length_cons, List.length_nil, Nat.reduceAdd, Nat.reduceSub, Array.replicate_succ, Array.replicate_zero, List.push_toArray, List.append_toArray, List.nil_append, List.cons_append]
  gi_wp2
  refine ⟨trivial, fun _ => by omega, (appendSeq_in (n - 1) (by omega) lb S N hN w hseq).mono ?_⟩
  rintro e w' ⟨v, ss, rfl, hS, hrow, hb⟩
  gi_wp2
  go_ret
  exact ⟨v, ss, rfl, hS, hrow, hb⟩
end Go.Proofs.YtfeppbiodbhpcaaDoor
