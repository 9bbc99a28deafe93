/- A list of ints that came in, opened: its cells (nothing is claimed here). -/
import Derived.Test.YtjlgmoakdaeinaaDoorTxt
import Derived.ProofKit
import Derived.OpenShut
import Derived.Deep.Slices
namespace Go.Proofs.YtjlgmoakdaeinaaDoor
open Go.ChangeShapes Go.WideShapes Go.ChangeAt Go.RowKit Go.Deep Go.Vf

theorem cells3' : Tryd.prog.cellsOf 3 = 1 := by kernel_rfl

theorem choose_list {P : Nat → Int → Prop} : ∀ n, (∀ i, i < n → ∃ z, P i z) → ∃ zs : List Int, zs.length = n ∧ ∀ i, i < n → P i (zs[i]?.getD 0)
  | 0, _ => ⟨[], rfl, fun i h => absurd h (by omega)⟩
  | n + 1, h => by
    obtain ⟨zs, hl, hz⟩ := choose_list n (fun i hi => h i (by omega))
    obtain ⟨z, hzn⟩ := h n (by omega)
    refine ⟨zs ++ [z], by simp [hl], fun i hi => ?_⟩
    by_cases hin : i < n
    · rw [List.getElem?_append_left (by omega)]; exact hz i hin
    · obtain rfl : i = n := by omega
      rw [List.getElem?_append_right (by omega)]
      simpa [hl] using hzn

theorem ints_open {H : Type} {enc : TypeId × Value → H} {base : Nat} (v : Value) (d : DataW H) (pl : List MemPlace) {W : World} (hok : Value.okWide Tryd.prog W .any base 25 v)
    (h : DataW.Trod enc Tryd.prog W 0 (fun _ => true) true 25 v d pl) : ∃ zs : List Int, Ints W.heap.size W v zs ∧ zs.length ≤ maxLen := by
  obtain ⟨a0, len, cap, rfl⟩ := okWide_slice Tryd.underlying25 hok
  obtain ⟨fuel, hf⟩ := h
  rcases open_slice Tryd.underlying25 hf with ⟨hcs, _⟩ | ⟨a, len', cap', m, n, D, Pl, hcs, _, hl, hm, hmm, _, hx⟩
  · simp [Value.cells] at hcs
    obtain ⟨rfl, rfl, rfl⟩ := hcs
    exact ⟨[], .inl ⟨_, _, rfl, rfl⟩, by simp⟩
  · simp [Value.cells] at hcs
    obtain ⟨rfl, rfl, rfl⟩ := hcs
    simp at hmm
    rw [hmm] at hx
    clear hmm
    have each : ∀ i, i < len → ∃ z : Int, W.cell? (a.add i) = some (.int .i64 z) := by
      intro i hi
      obtain ⟨cs', h1, h2⟩ := hx i (by omega)
      rw [cells3'] at h1
      obtain ⟨_, hlen, hcell⟩ := World.cells?_some h1
      obtain ⟨z, e, _⟩ := DataW.trod_int Tryd.underlying3 h2
      have := hcell 0 (by omega)
      subst e
      exact ⟨z, by simpa [Addr.add] using this⟩
    obtain ⟨zs, hzl, hz⟩ := choose_list len each
    refine ⟨zs, ?_, by omega⟩
    rcases Nat.eq_zero_or_pos len with h0 | h0
    · subst h0
      exact .inl ⟨_, _, rfl, List.eq_nil_of_length_eq_zero hzl⟩
    · obtain ⟨b, off, spot⟩ := a
      have hspot : spot = none := by simpa [Addr.add] using World.cell?_spot (hz 0 h0)
      subst hspot
      refine .inr ⟨b, off, cap, by rw [hzl], ?_, fun j hj => ?_⟩
      · have := World.block_lt_of_cell? W _ (hz 0 h0)
        simpa [Addr.add] using this
      · have := hz j (by omega)
        rwa [Go.WideShapes.add_plain] at this

end Go.Proofs.YtjlgmoakdaeinaaDoor
