/- Lists of ints that came in, opened: their cells, how many (nothing is claimed here). · Two texts that came in as one, and lists of numbers, opened (nothing is claimed here). · What MatchNil does (a contract; nothing is claimed here). -/
import Derived.Test.YtkcnjnccdafbfaaDoorJ14
import Derived.Test.YtkcnjnccdafbfaaDoorJ15
import Derived.ProofKit
import Derived.OpenShut
import Derived.Lib.SmallJoins
namespace Go.Proofs.YtkcnjnccdafbfaaDoor
open Go.ChangeShapes Go.WideShapes Go.ChangeAt Go.RowKit Go.Deep Go.Vf

theorem cells3' : Tryd.prog.cellsOf 3 = 1 := by kernel_rfl
theorem cells22' : Tryd.prog.cellsOf 24 = 1 := by kernel_rfl
theorem bytes3' : Tryd.prog.bytesOf 3 = 8 := by kernel_rfl
theorem reach_eq : reachBytes = 140737488351232 := rfl

theorem choose_list {α : Type} {P : Nat → α → Prop} : ∀ n, (∀ i, i < n → ∃ z, P i z) → ∃ zs : List α, zs.length = n ∧ ∀ i (h : i < zs.length), P i zs[i]
  | 0, _ => ⟨[], rfl, fun i h => absurd h (by simp)⟩
  | n + 1, h => by
    obtain ⟨zs, hl, hz⟩ := choose_list n (fun i hi => h i (by omega))
    obtain ⟨z, hzn⟩ := h n (by omega)
    refine ⟨zs ++ [z], by simp [hl], fun i hi => ?_⟩
    by_cases hin : i < n
    · rw [List.getElem_append_left (by omega)]; exact hz i (by omega)
    · obtain rfl : i = n := by simp [hl] at hi; omega
      rw [List.getElem_append_right (by omega)]
      simpa [hl] using hzn

theorem bulk_one {H : Type} (d : DataW H) : 1 ≤ Rows.uptoBulk d := by
  cases d with
  | lit l => cases l <;> simp [Rows.uptoBulk]
  | nil => simp [Rows.uptoBulk]
  | ptr d => simp [Rows.uptoBulk]
  | slice elems spare => simp [Rows.uptoBulk]
  | agg parts => simp [Rows.uptoBulk]
  | iface t d => simp [Rows.uptoBulk]
  | map entries => simp [Rows.uptoBulk]
  | held h => simp [Rows.uptoBulk]
theorem bulk_len {H : Type} (l : List (DataW H)) : l.length ≤ Rows.uptoBulkAll l := by
  induction l with
  | nil => simp [Rows.uptoBulkAll]
  | cons x r ih => have := bulk_one x; simp only [Rows.uptoBulkAll, List.length_cons]; omega
theorem bulk_slice {H : Type} (elems spare : List (DataW H)) : elems.length + 1 ≤ Rows.uptoBulk (.slice elems spare) := by
  have h1 := bulk_len elems
  simp only [Rows.uptoBulk]
  omega

set_option maxRecDepth 20000 in
theorem ints_trod {H : Type} {enc : TypeId × Value → H} {W : World} {fuel : Nat} {cs : List Value} {x : DataW H × List MemPlace} (h : DataW.trod enc Tryd.prog W 0 (fun _ => true) true fuel 24 cs = some x) (hw : ∀ n ∈ x.1.weights Tryd.prog 24, n ≤ reachBytes) :
    ∃ a len cap, cs = [.slice a len cap] ∧ ∃ zs : List Int, Ints W.heap.size W (.slice a len cap) zs ∧ zs.length ≤ 17592186044416 ∧ zs.length ≤ Rows.uptoBulk x.1 ∧ ∀ z ∈ zs, InI z := by
  rcases open_slice Tryd.underlying24 h with ⟨hcs, _⟩ | ⟨a, len, cap, m, n, D, Pl, hcs, _, hl, hm, hmm, hd, hx⟩
  · exact ⟨_, _, _, hcs, [], .inl ⟨_, _, rfl, rfl⟩, by simp, by simp, by simp⟩
  · subst hd
    have hwl : len ≤ 17592186044416 := by
      have := hw ((((List.range len).map D).length + ((List.range (m - len)).map fun j => D (len + j)).length) * Tryd.prog.bytesOf 3) (by simp [DataW.weights, Tryd.underlying24])
      rw [bytes3', reach_eq] at this
      simp at this
      omega
    have hbk : len ≤ Rows.uptoBulk (.slice ((List.range len).map D) ((List.range (m - len)).map fun j => D (len + j))) := by
      have := bulk_slice ((List.range len).map D) ((List.range (m - len)).map fun j => D (len + j))
      simp at this
      omega
    simp at hmm
    rw [hmm] at hx
    clear hmm
    have each : ∀ i, i < len → ∃ z : Int, W.cell? (a.add i) = some (.int .i64 z) ∧ InI z := by
      intro i hi
      obtain ⟨cs', h1, h2⟩ := hx i (by omega)
      rw [cells3'] at h1
      obtain ⟨_, hlen, hcell⟩ := World.cells?_some h1
      obtain ⟨z, e, _, hwf⟩ := DataW.trod_int Tryd.underlying3 h2
      have := hcell 0 (by omega)
      subst e
      refine ⟨z, by simpa [Addr.add] using this, ?_⟩
      have := bounds_i64 hwf
      unfold InI
      omega
    obtain ⟨zs, hzl, hz⟩ := choose_list len each
    refine ⟨_, _, _, hcs, zs, ?_, by omega, by rw [hzl]; exact hbk, fun z hzm => ?_⟩
    · rcases Nat.eq_zero_or_pos len with h0 | h0
      · subst h0
        exact .inl ⟨_, _, rfl, List.eq_nil_of_length_eq_zero hzl⟩
      · obtain ⟨b, off, spot⟩ := a
        have hspot : spot = none := by simpa [Addr.add] using World.cell?_spot (hz 0 (by omega)).1
        subst hspot
        refine .inr ⟨b, off, cap, by rw [hzl], ?_, fun j hj => ?_⟩
        · have := World.block_lt_of_cell? W _ (hz 0 (by omega)).1
          simpa [Addr.add] using this
        · have := (hz j hj).1
          rw [Go.WideShapes.add_plain] at this
          rw [this]
          simp [hj]
    · obtain ⟨i, hi, rfl⟩ := List.mem_iff_getElem.1 hzm
      exact (hz i hi).2

theorem ints_open {H : Type} {enc : TypeId × Value → H} {W : World} (v : Value) (d : DataW H) (pl : List MemPlace)
    (h : DataW.Trod enc Tryd.prog W 0 (fun _ => true) true 24 v d pl) (hok : ∃ a len cap, v = .slice a len cap) (hw : ∀ n ∈ d.weights Tryd.prog 24, n ≤ reachBytes) : ∃ zs : List Int, Ints W.heap.size W v zs ∧ zs.length ≤ 17592186044416 ∧ zs.length ≤ Rows.uptoBulk d ∧ ∀ z ∈ zs, InI z := by
  obtain ⟨a0, len0, cap0, rfl⟩ := hok
  obtain ⟨fuel, hf⟩ := h
  obtain ⟨a, len, cap, hcs, zs, h1, h2, h2b, h3⟩ := ints_trod hf hw
  simp [Value.cells] at hcs
  obtain ⟨rfl, rfl, rfl⟩ := hcs
  exact ⟨zs, h1, h2, h2b, h3⟩


set_option maxRecDepth 100000 in
/-- A list that came in, small enough. -/
theorem numb_open {H : Type} {enc : TypeId × Value → H} {W : World} {base : Nat} (v : Value) (d : DataW H) (pl : List MemPlace) (hval : Value.okWide Tryd.prog W .any base 24 v)
    (h : DataW.Trod enc Tryd.prog W 0 (fun _ => true) true 24 v d pl) (hw : ∀ n ∈ d.weights Tryd.prog 24, n ≤ reachBytes) (hb : Rows.uptoBulk d ≤ 1048576) : ∃ a k c zs, v = .slice a k c ∧ Numb W a k c zs ∧ zs.length ≤ 1048576 := by
  obtain ⟨a, k, c, rfl⟩ := okWide_slice Tryd.underlying24 hval
  obtain ⟨zs, h1, h2, h3, h4⟩ := ints_open _ d pl h ⟨a, k, c, rfl⟩ hw
  refine ⟨a, k, c, zs, rfl, ⟨h1, ?_, h4, by omega⟩, by omega⟩
  rcases h1 with ⟨_, _, e, e2⟩ | ⟨_, _, _, e, _⟩
  · cases e; rw [e2]; rfl
  · exact (Value.slice.inj e).2.1
end Go.Proofs.YtkcnjnccdafbfaaDoor

namespace Go.Proofs.YtkcnjnccdafbfaaDoor
open Go.ChangeShapes Go.WideShapes Go.ChangeAt Go.RowKit Go.Vf

set_option maxRecDepth 100000 in
theorem texts_open {H : Type} {enc : TypeId × Value → H} {base : Nat} {W : World} (v : Value) (d : DataW H) (pl : List MemPlace) (hok : Value.okWide Tryd.prog W .any base 23 v) (h : DataW.Trod enc Tryd.prog W 0 (fun _ => true) true 23 v d pl) (hw : ∀ n ∈ d.weights Tryd.prog 23, n ≤ reachBytes) :
    ∃ m e : ByteArray, v = .agg #[.string m, .string e] ∧ m.size ≤ 281474976710656 ∧ e.size ≤ 281474976710656 := by
  obtain ⟨v0, v1, y0, y1, n, rfl, hd, _, h0, h1⟩ := Go.Joins.open_agg2 Tryd.underlying23 (by kernel_rfl) (by kernel_rfl) hok h
  obtain ⟨m, e0, q0, _⟩ := DataW.trod_string Tryd.underlying9 h0
  obtain ⟨e, e1, q1, _⟩ := DataW.trod_string Tryd.underlying9 h1
  simp at e0 e1
  subst e0 e1 q0 q1
  subst hd
  have hr := reach_eq
  have g0 := hw m.data.toList.length (by simp [DataW.weights, DataW.weightsEach, Tryd.underlying23])
  have g1 := hw e.data.toList.length (by simp [DataW.weights, DataW.weightsEach, Tryd.underlying23])
  rw [← Lib.size_eq] at g0 g1
  exact ⟨m, e, rfl, by omega, by omega⟩
set_option maxRecDepth 100000 in
theorem lst_open {H : Type} {enc : TypeId × Value → H} {base : Nat} {W : World} (v : Value) (d : DataW H) (pl : List MemPlace) (hval : Value.okWide Tryd.prog W .any base 24 v) (h : DataW.Trod enc Tryd.prog W 0 (fun _ => true) true 24 v d pl) (hw : ∀ n ∈ d.weights Tryd.prog 24, n ≤ reachBytes) :
    ∃ a k c zs, v = .slice a k c ∧ Lst W a k c zs := by
  obtain ⟨a, k, c, rfl⟩ := okWide_slice Tryd.underlying24 hval
  obtain ⟨zs, h1, h2, _, h4⟩ := ints_open _ d pl h ⟨a, k, c, rfl⟩ hw
  refine ⟨a, k, c, zs, rfl, h1, ?_, h4, h2⟩
  rcases h1 with ⟨_, _, e, rfl⟩ | ⟨_, _, _, e, _⟩
  · cases e; rfl
  · cases e; rfl
end Go.Proofs.YtkcnjnccdafbfaaDoor

namespace Go.Proofs.YtkcnjnccdafbfaaDoor
open Go.RowKit Go.Vf Go.Maps

theorem elements_nil (d t : Option Addr) (v : Value) (w : World) (h : d = none ∨ t = none) : Calls Tryd.prog 15 #[.pointer d, .pointer t, v] w fun e w' => e = .returned (.slice none 0 0) ∧ Below w.heap.size w w' := by
  have hs := steps_nil d t v w h
  go_enter Tryd.func15, Tryd.ntmps15
  go_wp2_with fail
  refine hs.mono ?_
  rintro e w1 ⟨rfl, hb1⟩
  go_wp2_with fail
  go_loopw [7, 17] (fun lv iv wr => lv = .slice none 0 0 ∧ iv = .int .i64 0 ∧ wr = w1) (fun _ _ _ => 0)
  case atStart => exact ⟨rfl, rfl, rfl⟩
  case round =>
    obtain ⟨rfl, rfl, rfl⟩ := hrel
    go_wp2_with fail
    go_ret
    exact ⟨rfl, hb1⟩
theorem box_new (w : World) (m e : ByteArray) : ∃ w0, w0 = w.alloc (.cells #[.string m, .string e] 23) ∧ Below w.heap.size w w0 ∧ w0.cell? ⟨w.heap.size, 0, none⟩ = some (.string m) ∧ w0.cell? ⟨w.heap.size, 1, none⟩ = some (.string e) :=
  ⟨_, rfl, (Below.refl _ w).alloc (Nat.le_refl _) _, (Blk.new w 23 #[.string m, .string e]).cell 0, (Blk.new w 23 #[.string m, .string e]).cell 1⟩

set_option maxHeartbeats 4000000 in
set_option maxRecDepth 20000 in
theorem nil_walk (m e : ByteArray) (hm : m.size ≤ 281474976710656) (he : e.size ≤ 281474976710656) (v : Value) (w : World) (hg : Glob w) :
    Calls Tryd.prog 5 #[.agg #[.string m, .string e], v] w fun r w' => r = .returned (.bool true) ∧ Below w.heap.size w w' := by
  obtain ⟨w0, hw0, hb0, c0, c1⟩ := box_new w m e
  have hbo := both_any m e hm he w0 (hg.below hb0)
  go_enter Tryd.func5, Tryd.ntmps5
  go_wp2_with fail
  rw [← hw0]
  clear hw0
  go_wp2_with fail
  refine hbo.mono ?_
  rintro r w1 ⟨hb1, hcase⟩
  have hb01 := hb0.trans (hb1.mono hb0.size)
  have hg1 := hg.below hb01
  obtain ⟨d, t, b, rfl⟩ : ∃ d t b, r = .returned (.tuple #[.pointer d, .pointer t, .bool b]) := by
    rcases hcase with ⟨L, F, E, bd, T, rfl, _⟩ | ⟨d, t, rfl, _⟩
    · exact ⟨_, _, _, rfl⟩
    · exact ⟨_, _, _, rfl⟩
  clear hcase hbo c0 c1
  go_wp2_with fail
  refine (awake_any w1 hg1).mono ?_
  rintro r w2 ⟨rfl, hb2⟩
  go_wp2_with fail
  refine (steps_nil none t v w2 (.inl rfl)).mono ?_
  rintro r w3 ⟨rfl, hb3⟩
  go_wp2_with fail
  refine (steps_nil d none v w3 (.inr rfl)).mono ?_
  rintro r w4 ⟨rfl, hb4⟩
  go_wp2_with fail
  refine (elements_nil none none v w4 (.inl rfl)).mono ?_
  rintro r w5 ⟨rfl, hb5⟩
  go_wp2_with fail
  refine (elements_nil d none v w5 (.inr rfl)).mono ?_
  rintro r w6 ⟨rfl, hb6⟩
  have h1 := hb01.trans (hb2.mono hb01.size)
  have h2 := h1.trans (hb3.mono h1.size)
  have h3 := h2.trans (hb4.mono h2.size)
  have h4 := h3.trans (hb5.mono h3.size)
  have h5 := h4.trans (hb6.mono h4.size)
  go_wp2
  go_ret
  exact ⟨rfl, h5⟩
set_option maxRecDepth 100000 in
theorem nil_open {H : Type} {enc : TypeId × Value → H} {base : Nat} {W : World} (v0 : Value) (d0 : DataW H) (p0 : List MemPlace) (ok0 : Value.okWide Tryd.prog W .any base 23 v0) (h0 : DataW.Trod enc Tryd.prog W 0 (fun _ => true) true 23 v0 d0 p0) (y0 : ∀ n ∈ d0.weights Tryd.prog 23, n ≤ reachBytes)
    (v1 : Value) (d1 : DataW H) (p1 : List MemPlace) (_ok1 : Value.okWide Tryd.prog W .any base 24 v1) (_h1 : DataW.Trod enc Tryd.prog W 0 (fun _ => true) true 24 v1 d1 p1) (_y1 : ∀ n ∈ d1.weights Tryd.prog 24, n ≤ reachBytes) (W' : World) (hg : Glob W') (hW : W' = W) :
    Calls Tryd.prog 5 #[v0, v1] W' fun e w' => e = .returned (.bool true) ∧ Below W'.heap.size W' w' := by
  subst hW
  obtain ⟨m, e, rfl, hm, he⟩ := texts_open v0 d0 p0 ok0 h0 y0
  exact nil_walk m e hm he v1 W' hg
end Go.Proofs.YtkcnjnccdafbfaaDoor
