/- Lists of ints that came in, opened: their cells, how many (nothing is claimed here). -/
import Derived.Test.YtadbkkakjekopaaDoorTwiceW
namespace Go.Proofs.YtadbkkakjekopaaDoor
open Go.ChangeShapes Go.WideShapes Go.ChangeAt Go.RowKit Go.Deep Go.Vf

theorem cells3' : Tryd.prog.cellsOf 3 = 1 := by kernel_rfl
theorem cells22' : Tryd.prog.cellsOf 22 = 1 := by kernel_rfl
theorem bytes3' : Tryd.prog.bytesOf 3 = 8 := by kernel_rfl
theorem reach_eq : reachBytes = 140737488351232 := rfl

theorem choose_list {α : Type} {P : Nat → α → Prop} : ∀ n, (∀ i, i < n → ∃ z, P i z) → ∃ zs : List α, zs.length = n ∧ ∀ i (h : i < zs.length), P i zs[i]
  | 0, _ => ⟨[], rfl, fun i h => absurd h (by simp)⟩
  | n + 1, h => by
    obtain ⟨zs, hl, hz⟩ := choose_list n (fun i hi => h i (by omega))
    obtain ⟨z, hzn⟩ := h n (by omega)
    refine ⟨zs ++ [z], by simp [hl], fun i hi => ?_⟩
    by_cases hin : i < n
    · rw [List.getElem_append_left (by omega)]; exact hz i (by omega)
    · obtain rfl : i = n := by simp [hl] at hi; omega
      rw [List.getElem_append_right (by omega)]
      simpa [hl] using hzn

theorem bulk_one {H : Type} (d : DataW H) : 1 ≤ Rows.uptoBulk d := by
  cases d with
  | lit l => cases l <;> simp [Rows.uptoBulk]
  | nil => simp [Rows.uptoBulk]
  | ptr d => simp [Rows.uptoBulk]
  | slice elems spare => simp [Rows.uptoBulk]
  | agg parts => simp [Rows.uptoBulk]
  | iface t d => simp [Rows.uptoBulk]
  | map entries => simp [Rows.uptoBulk]
  | held h => simp [Rows.uptoBulk]
theorem bulk_len {H : Type} (l : List (DataW H)) : l.length ≤ Rows.uptoBulkAll l := by
  induction l with
  | nil => simp [Rows.uptoBulkAll]
  | cons x r ih => have := bulk_one x; simp only [Rows.uptoBulkAll, List.length_cons]; omega
theorem bulk_slice {H : Type} (elems spare : List (DataW H)) : elems.length + 1 ≤ Rows.uptoBulk (.slice elems spare) := by
  have h1 := bulk_len elems
  simp only [Rows.uptoBulk]
  omega

set_option maxRecDepth 20000 in
theorem ints_trod {H : Type} {enc : TypeId × Value → H} {W : World} {fuel : Nat} {cs : List Value} {x : DataW H × List MemPlace} (h : DataW.trod enc Tryd.prog W 0 (fun _ => true) true fuel 22 cs = some x) (hw : ∀ n ∈ x.1.weights Tryd.prog 22, n ≤ reachBytes) :
    ∃ a len cap, cs = [.slice a len cap] ∧ ∃ zs : List Int, Ints W.heap.size W (.slice a len cap) zs ∧ zs.length ≤ 17592186044416 ∧ zs.length ≤ Rows.uptoBulk x.1 ∧ ∀ z ∈ zs, InI z := by
  rcases open_slice Tryd.underlying22 h with ⟨hcs, _⟩ | ⟨a, len, cap, m, n, D, Pl, hcs, _, hl, hm, hmm, hd, hx⟩
  · exact ⟨_, _, _, hcs, [], .inl ⟨_, _, rfl, rfl⟩, by simp, by simp, by simp⟩
  · subst hd
    have hwl : len ≤ 17592186044416 := by
      have := hw ((((List.range len).map D).length + ((List.range (m - len)).map fun j => D (len + j)).length) * Tryd.prog.bytesOf 3) (by simp [DataW.weights, Tryd.underlying22])
      rw [bytes3', reach_eq] at this
      simp at this
      omega
    have hbk : len ≤ Rows.uptoBulk (.slice ((List.range len).map D) ((List.range (m - len)).map fun j => D (len + j))) := by
      have := bulk_slice ((List.range len).map D) ((List.range (m - len)).map fun j => D (len + j))
      simp at this
      omega
    simp at hmm
    rw [hmm] at hx
    clear hmm
    have each : ∀ i, i < len → ∃ z : Int, W.cell? (a.add i) = some (.int .i64 z) ∧ InI z := by
      intro i hi
      obtain ⟨cs', h1, h2⟩ := hx i (by omega)
      rw [cells3'] at h1
      obtain ⟨_, hlen, hcell⟩ := World.cells?_some h1
      obtain ⟨z, e, _, hwf⟩ := DataW.trod_int Tryd.underlying3 h2
      have := hcell 0 (by omega)
      subst e
      refine ⟨z, by simpa [Addr.add] using this, ?_⟩
      have := bounds_i64 hwf
      unfold InI
      omega
    obtain ⟨zs, hzl, hz⟩ := choose_list len each
    refine ⟨_, _, _, hcs, zs, ?_, by omega, by rw [hzl]; exact hbk, fun z hzm => ?_⟩
    · rcases Nat.eq_zero_or_pos len with h0 | h0
      · subst h0
        exact .inl ⟨_, _, rfl, List.eq_nil_of_length_eq_zero hzl⟩
      · obtain ⟨b, off, spot⟩ := a
        have hspot : spot = none := by simpa [Addr.add] using World.cell?_spot (hz 0 (by omega)).1
        subst hspot
        refine .inr ⟨b, off, cap, by rw [hzl], ?_, fun j hj => ?_⟩
        · have := World.block_lt_of_cell? W _ (hz 0 (by omega)).1
          simpa [Addr.add] using this
        · have := (hz j hj).1
          rw [Go.WideShapes.add_plain] at this
          rw [this]
          simp [hj]
    · obtain ⟨i, hi, rfl⟩ := List.mem_iff_getElem.1 hzm
      exact (hz i hi).2

theorem ints_open {H : Type} {enc : TypeId × Value → H} {W : World} (v : Value) (d : DataW H) (pl : List MemPlace)
    (h : DataW.Trod enc Tryd.prog W 0 (fun _ => true) true 22 v d pl) (hok : ∃ a len cap, v = .slice a len cap) (hw : ∀ n ∈ d.weights Tryd.prog 22, n ≤ reachBytes) : ∃ zs : List Int, Ints W.heap.size W v zs ∧ zs.length ≤ 17592186044416 ∧ zs.length ≤ Rows.uptoBulk d ∧ ∀ z ∈ zs, InI z := by
  obtain ⟨a0, len0, cap0, rfl⟩ := hok
  obtain ⟨fuel, hf⟩ := h
  obtain ⟨a, len, cap, hcs, zs, h1, h2, h2b, h3⟩ := ints_trod hf hw
  simp [Value.cells] at hcs
  obtain ⟨rfl, rfl, rfl⟩ := hcs
  exact ⟨zs, h1, h2, h2b, h3⟩


set_option maxRecDepth 100000 in
/-- A list that came in, small enough. -/
theorem numb_open {H : Type} {enc : TypeId × Value → H} {W : World} {base : Nat} (v : Value) (d : DataW H) (pl : List MemPlace) (hval : Value.okWide Tryd.prog W .any base 22 v)
    (h : DataW.Trod enc Tryd.prog W 0 (fun _ => true) true 22 v d pl) (hw : ∀ n ∈ d.weights Tryd.prog 22, n ≤ reachBytes) (hb : Rows.uptoBulk d ≤ 1048576) : ∃ a k c zs, v = .slice a k c ∧ Numb W a k c zs ∧ zs.length ≤ 1048576 := by
  obtain ⟨a, k, c, rfl⟩ := okWide_slice Tryd.underlying22 hval
  obtain ⟨zs, h1, h2, h3, h4⟩ := ints_open _ d pl h ⟨a, k, c, rfl⟩ hw
  refine ⟨a, k, c, zs, rfl, ⟨h1, ?_, h4, by omega⟩, by omega⟩
  rcases h1 with ⟨_, _, e, e2⟩ | ⟨_, _, _, e, _⟩
  · cases e; rw [e2]; rfl
  · exact (Value.slice.inj e).2.1
end Go.Proofs.YtadbkkakjekopaaDoor
