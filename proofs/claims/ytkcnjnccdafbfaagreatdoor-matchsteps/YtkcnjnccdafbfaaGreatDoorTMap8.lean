/- Maps keyed by rows; what a row's size does; a table in memory (lemmas; nothing is claimed here). -/
import Derived.Test.YtkcnjnccdafbfaaGreatDoorJ24
import Derived.DeepKeys5
namespace Go.Proofs.YtkcnjnccdafbfaaGreatDoor
open Go.RowKit Go.Vf Go.Maps
theorem laid0 : laidOutB Tryz.prog = true := by kernel_rfl
theorem row73 : (96 : TypeId) < Tryz.prog.types.size := of_decide_eq_true (by kernel_rfl)
theorem wide73 : (match Tryz.prog.underlying 96 with | some (.array _ _) | some (.struct _) => true | _ => false) = true := by kernel_rfl
theorem kt73 : Tryz.prog.keyTypeAt 2 96 = true := by kernel_rfl
theorem law_of {P : Program} (h : laidOutB P = true) {k : TypeId} (hr : k < P.types.size) (ht : P.keyTypeAt 2 k = true) (hw : (match P.underlying k with | some (.array _ _) | some (.struct _) => true | _ => false) = true) : WideMaps.KeyLaw P k := deep_law_laid h (m := 2) (by omega) hr ht hw
theorem succ_of {a n : Nat} (h : a < n) : ∃ m, n = m + 1 := ⟨n - 1, by omega⟩
theorem law73 : WideMaps.KeyLaw Tryz.prog 96 := law_of laid0 row73 kt73 wide73
theorem keyed73 : Keyed Tryz.prog 96 := Keyed.of_law law73
theorem cells73 : Tryz.prog.cellsOf 96 = 8 := by kernel_rfl
theorem cells3 : Tryz.prog.cellsOf 3 = 1 := by kernel_rfl
theorem keyType73 : Tryz.prog.keyType 96 = true := by kernel_rfl
theorem types0 : ∃ m, Tryz.prog.types.size = m + 1 := succ_of row73
def RowOk (l : List Int) : Prop := l.length = 8 ∧ ∀ x ∈ l, InI x
theorem wf_in {x : Int} (h : InI x) : (Lit.int .i64 x).wf = true := by obtain ⟨h1, h2⟩ := h; exact WalkArith.wf_i64 (by omega)
theorem key73 {l : List Int} (h : RowOk l) : ∃ kl, keyOf Tryz.prog 96 (rowA l) = some kl := by
  obtain ⟨h8, hx⟩ := h
  obtain ⟨a0, a1, a2, a3, a4, a5, a6, a7, rfl⟩ := eight h8
  have w0 := wf_in (hx a0 (by simp))
  have w1 := wf_in (hx a1 (by simp))
  have w2 := wf_in (hx a2 (by simp))
  have w3 := wf_in (hx a3 (by simp))
  have w4 := wf_in (hx a4 (by simp))
  have w5 := wf_in (hx a5 (by simp))
  have w6 := wf_in (hx a6 (by simp))
  have w7 := wf_in (hx a7 (by simp))
  obtain ⟨m, hm⟩ := types0
  refine ⟨.string (keyBytes [.int .i64 a0, .int .i64 a1, .int .i64 a2, .int .i64 a3, .int .i64 a4, .int .i64 a5, .int .i64 a6, .int .i64 a7]), ?_⟩
  show keyOf Tryz.prog 96 (.agg #[.int .i64 a0, .int .i64 a1, .int .i64 a2, .int .i64 a3, .int .i64 a4, .int .i64 a5, .int .i64 a6, .int .i64 a7]) = _
  unfold keyOf
  simp only [Tryz.underlying96]
  rw [if_pos (by simp [keyType73, Value.formed, Tryz.underlying96, cells73]), hm]
  unfold Program.keyLits
  simp only [Tryz.underlying96, Value.cells]
  rw [if_pos (by rw [cells73]; rfl), show List.range 8 = [0, 1, 2, 3, 4, 5, 6, 7] from rfl]
  simp only [List.mapM_cons, List.mapM_nil]
  simp [cells3, Program.keyLits, Tryz.underlying3, w0, w1, w2, w3, w4, w5, w6, w7]
theorem rowA_inj {a b : List Int} (h : rowA a = rowA b) : a = b := by
  unfold rowA rc at h
  simp only [Value.agg.injEq, Array.mk.injEq] at h
  have := congrArg (List.map (fun v => match v with | Value.int _ z => z | _ => 0)) h
  simpa [List.map_map, Function.comp_def] using this
def MapR (w : World) (b n : Nat) (f : List Int → Option Value) : Prop :=
  ∃ D : DataW Value, w.ownsMap Tryz.prog 96 tokR b n D ∧ Maps.size D = n ∧ ∀ l, RowOk l → ∀ kl, keyOf Tryz.prog 96 (rowA l) = some kl → Maps.has D kl = (f l).isSome ∧ ∀ z, D.atKey kl (.held z) = .held ((f l).getD z)
section
variable {w : World} {b n : Nat} {f : List Int → Option Value}
theorem MapR.made (w : World) : MapR (w.alloc (.map #[] 0)) w.heap.size 0 (fun _ => none) := ⟨_, World.ownsMap_made w _ _ _, rfl, fun _ _ _ _ => ⟨rfl, fun _ => rfl⟩⟩
theorem MapR.lt (h : MapR w b n f) : b < w.heap.size := let ⟨_, h, _⟩ := h; h.lt
theorem MapR.block {w' : World} (h : MapR w b n f) (hg : w'.heap[b]? = w.heap[b]?) : MapR w' b n f := by
  obtain ⟨D, ⟨es, clock, hb, F, hs, hD⟩, h2⟩ := h
  exact ⟨D, ⟨es, clock, hg.trans hb, F, hs, hD⟩, h2⟩
theorem MapR.below {w' : World} {B : Nat} (h : MapR w b n f) (hg : Below B w w') (hb : b < B) : MapR w' b n f := h.block (hg.block b hb)
theorem MapR.kept {w' : World} {row : Option Nat} (h : MapR w b n f) (hg : w.grownBy w' row) (hne : some b ≠ row) : MapR w' b n f := let ⟨D, h, h2⟩ := h; ⟨D, h.kept hg hne, h2⟩
theorem MapR.look_ok (h : MapR w b n f) {z : Value} (hz : (zeroValue 43).run Tryz.prog w = .ok z w) {l : List Int} (hl : RowOk l) :
    (Instr.lookup 100 (.map (some b)) (rowA l) true).run Tryz.prog w = .ok (.tuple #[(f l).getD z, .bool (f l).isSome]) w := by
  obtain ⟨D, hown, _, h2⟩ := h
  obtain ⟨kl, hk⟩ := key73 hl
  obtain ⟨v, ps, hrun, hv⟩ := hown.look_ok keyed73 Tryz.underlying100 hz (zd := .held z) (zp := []) rfl hk
  rw [(h2 l hl kl hk).2 z] at hv
  simp only [tokR, Option.some.injEq, Prod.mk.injEq, DataW.held.injEq] at hv
  rw [hrun, hv.1, (h2 l hl kl hk).1]
theorem MapR.len (h : MapR w b n f) (ty : TypeId) : (Builtin.len_ #[100] ty #[.map (some b)]).run Tryz.prog w = .ok (.int .i64 (n : Int)) w := by
  obtain ⟨D, hown, hs, _⟩ := h
  rw [hown.len Tryz.underlying100 ty, hs]
def updR (f : List Int → Option Value) (x : List Int) (v : Value) : List Int → Option Value := fun y => if y = x then some v else f y
theorem MapR.update (h : MapR w b n f) (hn : n < maxLen) {l : List Int} (hl : RowOk l) (hf : f l = none) (v : Value) :
    ∃ w', (Instr.mapUpdate 100 (.map (some b)) (rowA l) v).run Tryz.prog w = .ok () w' ∧ MapR w' b (n + 1) (updR f l v) ∧ w.grownBy w' (some b) ∧ w'.heap.size = w.heap.size := by
  obtain ⟨D, hown, hs, h2⟩ := h
  have him := hown.isMap
  have htd := hown.tidy keyed73
  obtain ⟨kl, hk⟩ := key73 hl
  obtain ⟨w', hrun, hown', hturn⟩ := hown.store keyed73 Tryz.underlying100 hn hk (d := .held v) (ps := []) (val := v) rfl
  refine ⟨w', hrun, ⟨_, hown', ?_, fun x hx kx hkx => ?_⟩, hturn.grown, ?_⟩
  · rw [Maps.size_put htd, (h2 l hl kl hk).1, hf, hs]; rfl
  · by_cases e : x = l
    · subst e
      have : kx = kl := Option.some.inj (hkx.symm.trans hk)
      subst this
      refine ⟨?_, fun z => ?_⟩
      · rw [Maps.has_put_same him (keyed73.key hk)]; simp [updR]
      · rw [Maps.atKey_put_same him (keyed73.key hk)]; simp [updR]
    · have hne : kx ≠ kl := fun e' => e (rowA_inj (keyed73.inj hkx (e' ▸ hk)))
      refine ⟨?_, fun z => ?_⟩
      · rw [Maps.has_put_other hne, (h2 x hx kx hkx).1]; simp [updR, e]
      · rw [Maps.atKey_put_other hne, (h2 x hx kx hkx).2]; simp [updR, e]
  · obtain ⟨es, clock, es', clock', _, e⟩ := hturn
    rw [e]; simp [ChangeMaps.setBlock]
end
theorem idx_pad : ∀ (p : List Int) (k i : Nat), (∀ x ∈ p, x ≠ -1) → Lib.idxFrom (p ++ List.replicate k (-1)) (-1) i = if k = 0 then -1 else ((i + p.length : Nat) : Int) := by
  intro p
  induction p with
  | nil =>
    intro k i _
    cases k with
    | zero => simp [Lib.idxFrom]
    | succ k => simp [Lib.idxFrom, List.replicate_succ]
  | cons a r ih =>
    intro k i h
    have ha : a ≠ -1 := h a (by simp)
    have := ih k (i + 1) (fun x hx => h x (by simp [hx]))
    simp only [List.cons_append, Lib.idxFrom]
    rw [if_neg (by simpa using ha), this]
    split
    · rfl
    · simp; omega
theorem row_neg {p : List Int} (h : rowB p = true) : ∀ x ∈ p, x ≠ -1 := by
  intro x hx e
  unfold rowB at h
  simp only [Bool.and_eq_true, List.all_eq_true] at h
  have := h.2 x hx
  rw [e] at this
  simp [isPtB] at this
theorem row_in {p : List Int} (h : rowB p = true) : RowOk (padL p) := by
  refine ⟨padL_len (rowB_len h).2, fun x hx => ?_⟩
  unfold padL at hx
  rcases List.mem_append.1 hx with hx | hx
  · unfold rowB at h
    simp only [Bool.and_eq_true, List.all_eq_true] at h
    obtain ⟨u, rfl, hu⟩ := isPtB_nat (h.2 x hx)
    unfold InI; omega
  · rw [(List.mem_replicate.1 hx).2]; unfold InI; omega
theorem idx_row {p : List Int} (h : rowB p = true) : Lib.idxOf ((padL p).take 8) (-1) = if p.length = 8 then -1 else (p.length : Int) := by
  rw [List.take_of_length_le (by rw [padL_len (rowB_len h).2]; exact Nat.le_refl _)]
  unfold Lib.idxOf padL
  rw [idx_pad p _ 0 (row_neg h)]
  have := (rowB_len h).2
  by_cases e : p.length = 8
  · rw [if_pos (by omega), if_pos e]
  · rw [if_neg (by omega), if_neg e]; simp
set_option maxHeartbeats 1000000 in
theorem size_any {p : List Int} (h : rowB p = true) {a0 a1 a2 a3 a4 a5 a6 a7 : Int} (hp : padL p = [a0, a1, a2, a3, a4, a5, a6, a7]) (w : World) :
    Calls Tryz.prog 45 #[.agg #[.int .i64 a0, .int .i64 a1, .int .i64 a2, .int .i64 a3, .int .i64 a4, .int .i64 a5, .int .i64 a6, .int .i64 a7]] w fun e w' => e = .returned (.int .i64 (p.length : Int)) ∧ w' = w.alloc (.cells #[.int .i64 a0, .int .i64 a1, .int .i64 a2, .int .i64 a3, .int .i64 a4, .int .i64 a5, .int .i64 a6, .int .i64 a7] 96) := by
  have hB := Blk.new w 96 (rc (padL p))
  have hi := Tryz.slices_Index_int w.heap.size 0 8 8 (padL p) (-1) (w.alloc (.cells (rc (padL p)) 96)) (by rw [padL_len (rowB_len h).2]; exact Nat.le_refl _) (by omega) (fun j hj => by
    rw [Nat.zero_add, hB.cell, rc_at _ _ hj]
    simp [List.getD, hj])
  rw [idx_row h] at hi
  have hl := rowB_len h
  have hrc : rc (padL p) = #[.int .i64 a0, .int .i64 a1, .int .i64 a2, .int .i64 a3, .int .i64 a4, .int .i64 a5, .int .i64 a6, .int .i64 a7] := by rw [hp]; rfl
  rw [hrc] at hi
  clear hB hrc hp
  by_cases e : p.length = 8
  · rw [if_pos e] at hi
    have E : Hid ((p.length : Int) = 8) := by show _ = _; omega
    clear e hl
    go_enter Tryz.func45, Tryz.ntmps45
    go_wp2_with fail
    refine hi.mono ?_
    rintro _ w1 ⟨rfl, rfl⟩
    go_wp2
    go_ret
    exact ⟨by rw [E.out]; rfl, rfl⟩
  · rw [if_neg e] at hi
    generalize p.length = k at hi hl
    clear e
    go_enter Tryz.func45, Tryz.ntmps45
    go_wp2_with fail
    refine hi.mono ?_
    rintro _ w1 ⟨rfl, rfl⟩
    go_wp2
    go_ret
    exact ⟨rfl, rfl⟩
end Go.Proofs.YtkcnjnccdafbfaaGreatDoor
