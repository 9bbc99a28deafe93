/- Contracts and lemmas (nothing is claimed here). -/
import Derived.Test.YtkcnjnccdafbfaaGreatDoorJ27
import Derived.Test.YtkcnjnccdafbfaaGreatDoorJ29
import Derived.ProofKit
import Derived.OpenShut
import Derived.Lib.SmallJoins
import Derived.Test.YtkcnjnccdafbfaaGreatDoorMSw
namespace Go.Proofs.YtkcnjnccdafbfaaGreatDoor
open Go.ChangeShapes Go.WideShapes Go.ChangeAt Go.RowKit Go.Deep Go.Vf
theorem cells3' : Tryz.prog.cellsOf 3 = 1 := by kernel_rfl
theorem bytes3' : Tryz.prog.bytesOf 3 = 8 := by kernel_rfl
theorem reach_eq : reachBytes = 140737488351232 := rfl
theorem choose_list {α : Type} {P : Nat → α → Prop} : ∀ n, (∀ i, i < n → ∃ z, P i z) → ∃ zs : List α, zs.length = n ∧ ∀ i (h : i < zs.length), P i zs[i]
  | 0, _ => ⟨[], rfl, fun i h => absurd h (by simp)⟩
  | n + 1, h => by
    obtain ⟨zs, hl, hz⟩ := choose_list n (fun i hi => h i (by omega))
    obtain ⟨z, hzn⟩ := h n (by omega)
    refine ⟨zs ++ [z], by simp [hl], fun i hi => ?_⟩
    by_cases hin : i < n
    · rw [List.getElem_append_left (by omega)]; exact hz i (by omega)
    · obtain rfl : i = n := by simp [hl] at hi; omega
      rw [List.getElem_append_right (by omega)]
      simpa [hl] using hzn
theorem bulk_one {H : Type} (d : DataW H) : 1 ≤ Rows.uptoBulk d := by
  cases d with
  | lit l => cases l <;> simp [Rows.uptoBulk]
  | nil => simp [Rows.uptoBulk]
  | ptr d => simp [Rows.uptoBulk]
  | slice elems spare => simp [Rows.uptoBulk]
  | agg parts => simp [Rows.uptoBulk]
  | iface t d => simp [Rows.uptoBulk]
  | map entries => simp [Rows.uptoBulk]
  | held h => simp [Rows.uptoBulk]
theorem bulk_len {H : Type} (l : List (DataW H)) : l.length ≤ Rows.uptoBulkAll l := by
  induction l with
  | nil => simp [Rows.uptoBulkAll]
  | cons x r ih => have := bulk_one x; simp only [Rows.uptoBulkAll, List.length_cons]; omega
theorem bulk_slice {H : Type} (elems spare : List (DataW H)) : elems.length + 1 ≤ Rows.uptoBulk (.slice elems spare) := by
  have h1 := bulk_len elems
  simp only [Rows.uptoBulk]
  omega
set_option maxRecDepth 20000 in
theorem ints_trod {H : Type} {enc : TypeId × Value → H} {W : World} {fuel : Nat} {cs : List Value} {x : DataW H × List MemPlace} (h : DataW.trod enc Tryz.prog W 0 (fun _ => true) true fuel 24 cs = some x) (hw : ∀ n ∈ x.1.weights Tryz.prog 24, n ≤ reachBytes) :
    ∃ a len cap, cs = [.slice a len cap] ∧ ∃ zs : List Int, Ints W.heap.size W (.slice a len cap) zs ∧ zs.length ≤ 17592186044416 ∧ zs.length ≤ Rows.uptoBulk x.1 ∧ ∀ z ∈ zs, InI z := by
  rcases open_slice Tryz.underlying24 h with ⟨hcs, _⟩ | ⟨a, len, cap, m, n, D, Pl, hcs, _, hl, hm, hmm, hd, hx⟩
  · exact ⟨_, _, _, hcs, [], .inl ⟨_, _, rfl, rfl⟩, by simp, by simp, by simp⟩
  · subst hd
    have hwl : len ≤ 17592186044416 := by
      have := hw ((((List.range len).map D).length + ((List.range (m - len)).map fun j => D (len + j)).length) * Tryz.prog.bytesOf 3) (by simp [DataW.weights, Tryz.underlying24])
      rw [bytes3', reach_eq] at this
      simp at this
      omega
    have hbk : len ≤ Rows.uptoBulk (.slice ((List.range len).map D) ((List.range (m - len)).map fun j => D (len + j))) := by
      have := bulk_slice ((List.range len).map D) ((List.range (m - len)).map fun j => D (len + j))
      simp at this
      omega
    simp at hmm
    rw [hmm] at hx
    clear hmm
    have each : ∀ i, i < len → ∃ z : Int, W.cell? (a.add i) = some (.int .i64 z) ∧ InI z := by
      intro i hi
      obtain ⟨cs', h1, h2⟩ := hx i (by omega)
      rw [cells3'] at h1
      obtain ⟨_, hlen, hcell⟩ := World.cells?_some h1
      obtain ⟨z, e, _, hwf⟩ := DataW.trod_int Tryz.underlying3 h2
      have := hcell 0 (by omega)
      subst e
      refine ⟨z, by simpa [Addr.add] using this, ?_⟩
      have := bounds_i64 hwf
      unfold InI
      omega
    obtain ⟨zs, hzl, hz⟩ := choose_list len each
    refine ⟨_, _, _, hcs, zs, ?_, by omega, by rw [hzl]; exact hbk, fun z hzm => ?_⟩
    · rcases Nat.eq_zero_or_pos len with h0 | h0
      · subst h0
        exact .inl ⟨_, _, rfl, List.eq_nil_of_length_eq_zero hzl⟩
      · obtain ⟨b, off, spot⟩ := a
        have hspot : spot = none := by simpa [Addr.add] using World.cell?_spot (hz 0 (by omega)).1
        subst hspot
        refine .inr ⟨b, off, cap, by rw [hzl], ?_, fun j hj => ?_⟩
        · have := World.block_lt_of_cell? W _ (hz 0 (by omega)).1
          simpa [Addr.add] using this
        · have := (hz j hj).1
          rw [Go.WideShapes.add_plain] at this
          rw [this]
          simp [hj]
    · obtain ⟨i, hi, rfl⟩ := List.mem_iff_getElem.1 hzm
      exact (hz i hi).2
theorem ints_open {H : Type} {enc : TypeId × Value → H} {W : World} (v : Value) (d : DataW H) (pl : List MemPlace)
    (h : DataW.Trod enc Tryz.prog W 0 (fun _ => true) true 24 v d pl) (hok : ∃ a len cap, v = .slice a len cap) (hw : ∀ n ∈ d.weights Tryz.prog 24, n ≤ reachBytes) : ∃ zs : List Int, Ints W.heap.size W v zs ∧ zs.length ≤ 17592186044416 ∧ zs.length ≤ Rows.uptoBulk d ∧ ∀ z ∈ zs, InI z := by
  obtain ⟨a0, len0, cap0, rfl⟩ := hok
  obtain ⟨fuel, hf⟩ := h
  obtain ⟨a, len, cap, hcs, zs, h1, h2, h2b, h3⟩ := ints_trod hf hw
  simp [Value.cells] at hcs
  obtain ⟨rfl, rfl, rfl⟩ := hcs
  exact ⟨zs, h1, h2, h2b, h3⟩
end Go.Proofs.YtkcnjnccdafbfaaGreatDoor
namespace Go.Proofs.YtkcnjnccdafbfaaGreatDoor
open Go.ChangeShapes Go.WideShapes Go.ChangeAt Go.RowKit Go.Vf
set_option maxRecDepth 100000 in
theorem texts_open {H : Type} {enc : TypeId × Value → H} {base : Nat} {W : World} (v : Value) (d : DataW H) (pl : List MemPlace) (hok : Value.okWide Tryz.prog W .any base 23 v) (h : DataW.Trod enc Tryz.prog W 0 (fun _ => true) true 23 v d pl) (hw : ∀ n ∈ d.weights Tryz.prog 23, n ≤ reachBytes) :
    ∃ m e : ByteArray, v = .agg #[.string m, .string e] ∧ m.size ≤ 281474976710656 ∧ e.size ≤ 281474976710656 := by
  obtain ⟨v0, v1, y0, y1, n, rfl, hd, _, h0, h1⟩ := Go.Joins.open_agg2 Tryz.underlying23 (by kernel_rfl) (by kernel_rfl) hok h
  obtain ⟨m, e0, q0, _⟩ := DataW.trod_string Tryz.underlying9 h0
  obtain ⟨e, e1, q1, _⟩ := DataW.trod_string Tryz.underlying9 h1
  simp at e0 e1
  subst e0 e1 q0 q1
  subst hd
  have hr := reach_eq
  have g0 := hw m.data.toList.length (by simp [DataW.weights, DataW.weightsEach, Tryz.underlying23])
  have g1 := hw e.data.toList.length (by simp [DataW.weights, DataW.weightsEach, Tryz.underlying23])
  rw [← Lib.size_eq] at g0 g1
  exact ⟨m, e, rfl, by omega, by omega⟩
set_option maxRecDepth 100000 in
theorem lst_open {H : Type} {enc : TypeId × Value → H} {base : Nat} {W : World} (v : Value) (d : DataW H) (pl : List MemPlace) (hval : Value.okWide Tryz.prog W .any base 24 v) (h : DataW.Trod enc Tryz.prog W 0 (fun _ => true) true 24 v d pl) (hw : ∀ n ∈ d.weights Tryz.prog 24, n ≤ reachBytes) :
    ∃ a k c zs, v = .slice a k c ∧ Lst W a k c zs := by
  obtain ⟨a, k, c, rfl⟩ := okWide_slice Tryz.underlying24 hval
  obtain ⟨zs, h1, h2, _, h4⟩ := ints_open _ d pl h ⟨a, k, c, rfl⟩ hw
  refine ⟨a, k, c, zs, rfl, h1, ?_, h4, h2⟩
  rcases h1 with ⟨_, _, e, rfl⟩ | ⟨_, _, _, e, _⟩
  · cases e; rfl
  · cases e; rfl
set_option maxRecDepth 100000 in
theorem stepsLaw_open {H : Type} {enc : TypeId × Value → H} {base : Nat} {W : World} (v0 : Value) (d0 : DataW H) (p0 : List MemPlace) (ok0 : Value.okWide Tryz.prog W .any base 23 v0) (h0 : DataW.Trod enc Tryz.prog W 0 (fun _ => true) true 23 v0 d0 p0) (y0 : ∀ n ∈ d0.weights Tryz.prog 23, n ≤ reachBytes)
    (v1 : Value) (d1 : DataW H) (p1 : List MemPlace) (ok1 : Value.okWide Tryz.prog W .any base 24 v1) (h1 : DataW.Trod enc Tryz.prog W 0 (fun _ => true) true 24 v1 d1 p1) (y1 : ∀ n ∈ d1.weights Tryz.prog 24, n ≤ reachBytes)
    (W' : World) (hg : Glob W') (hW : W' = W) :
    Calls Tryz.prog 3 #[v0, v1] W' fun e w' => e = .returned (.bool true) ∧ Below W'.heap.size W' w' := by
  subst hW
  obtain ⟨m, e, rfl, hm, he⟩ := texts_open v0 d0 p0 ok0 h0 y0
  obtain ⟨a, k, c, zs, rfl, ha⟩ := lst_open v1 d1 p1 ok1 h1 y1
  exact stepsLaw_walk m e hm he a k c zs W' hg ha
end Go.Proofs.YtkcnjnccdafbfaaGreatDoor
