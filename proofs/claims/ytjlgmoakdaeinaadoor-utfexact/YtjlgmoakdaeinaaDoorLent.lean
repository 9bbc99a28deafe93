/- What dovetaillaw03's add, lent and back do (contracts; nothing is claimed here). -/
import Derived.Test.YtjlgmoakdaeinaaDoorSame
import Derived.Laws.CopyRow
import Derived.Laws.CopyOwn
import Derived.Laws.IdiomCopy
import Derived.Deep.OwnRows
namespace Go.Proofs.YtjlgmoakdaeinaaDoor
open Go.RowKit Go.Vf

/-- A sum that ends above the bound. -/
def addN (n k : Nat) : Nat := if 2147483647 < n ∨ 2147483647 < k then 2147483648 else n + k

theorem add_any (n k : Nat) (hn : n ≤ 9223372036854775807) (hk : k ≤ 9223372036854775807) (w : World) : Calls Tryd.prog 9 #[.int .i64 (n : Int), .int .i64 (k : Int)] w fun e w' => e = .returned (.int .i64 (addN n k : Int)) ∧ w = w' := by
  by_cases h1 : 2147483647 < n
  · have e : addN n k = 2147483648 := by unfold addN; rw [if_pos (.inl h1)]
    rw [e]
    clear e
    go_enter Tryd.func9, Tryd.ntmps9
    go_wp2
    go_ret
    exact ⟨rfl, rfl⟩
  · by_cases h2 : 2147483647 < k
    · have e : addN n k = 2147483648 := by unfold addN; rw [if_pos (.inr h2)]
      rw [e]
      clear e
      go_enter Tryd.func9, Tryd.ntmps9
      go_wp2
      go_ret
      exact ⟨rfl, rfl⟩
    · have e : addN n k = n + k := by unfold addN; rw [if_neg (by omega)]
      rw [e]
      clear e
      go_enter Tryd.func9, Tryd.ntmps9
      go_wp2
      go_ret
      exact ⟨by simp, rfl⟩

theorem size3l : (Tryd.prog.info? 3).map (·.size) = some 1 := by kernel_rfl

/-- 'copy(out, l)' into a new row with two places more. -/
theorem copy_lent (w : World) (ty : TypeId) (v : Value) (zs : List Int) (g : Nat) (hg : g = w.heap.size) (hv : Ints g w v zs) :
    ∃ W2, (Builtin.copy_ #[25, 25] ty #[.slice (some ⟨g, 0, none⟩) (zs.length + 2) (zs.length + 2), v]).run Tryd.prog (w.alloc (.cells (madeCells #[.int .i64 0] (zs.length + 2)) 3)) = .ok (goInt (zs.map (Value.int .i64)).length) W2 ∧
      Blk W2 g 3 ((zs.map (Value.int .i64)) ++ [Value.int .i64 0, Value.int .i64 0]).toArray ∧ Below w.heap.size w W2 := by
  subst hg
  have hb0 := (Below.refl w.heap.size w).alloc (Nat.le_refl _) (.cells (madeCells #[.int .i64 0] (zs.length + 2)) 3)
  have hblk : Blk (w.alloc (.cells (madeCells #[.int .i64 0] (zs.length + 2)) 3)) w.heap.size 3 (madeCells #[.int .i64 0] (zs.length + 2)) := Blk.new w 3 _
  have hmc : (madeCells #[Value.int .i64 0] (zs.length + 2)).toList = List.replicate (zs.length + 2) (.int .i64 0) := by
    simp only [madeCells, List.size_toArray, List.length_cons, List.length_nil, Nat.zero_add, Nat.mod_one]
    simp [List.map_const']
  rcases hv with ⟨a, cap, rfl, rfl⟩ | ⟨b, off, cap, rfl, hb, hc⟩
  · refine ⟨_, run_copy_none _ 25 25 ty 3 _ _ _ _ _ _ Tryd.underlying25 size3l (by simp), ?_, hb0⟩
    have : madeCells #[Value.int .i64 0] (([] : List Int).length + 2) = (([] : List Int).map (Value.int .i64) ++ [Value.int .i64 0, Value.int .i64 0]).toArray := by
      apply Array.toList_inj.1
      rw [hmc]; rfl
    rw [← this]
    exact hblk
  · have hrun := run_copy_row (P := Tryd.prog) (w.alloc (.cells (madeCells #[.int .i64 0] (zs.length + 2)) 3)) 25 25 ty 3 w.heap.size 0 (zs.length + 2) (zs.length + 2) ⟨b, off, none⟩ zs.length cap (madeCells #[.int .i64 0] (zs.length + 2)) 3 (zs.map (Value.int .i64)) Tryd.underlying25 size3l hblk
      (by simp)
      (fun j u hj => by
        have hjl : j < zs.length := by
          have := (List.getElem?_eq_some_iff.1 hj).1
          simpa using this
        rw [Go.WideShapes.add_plain, hb0.cell (p := ⟨b, off + j, none⟩) hb, hc j hjl]
        rw [List.getElem?_map, List.getElem?_eq_getElem hjl] at hj
        rw [List.getElem?_eq_getElem hjl]
        exact hj)
      (by rw [← Array.length_toList, hmc]; simp) (fun u hu => by obtain ⟨z, _, rfl⟩ := List.mem_map.1 hu; rfl)
    have e : (madeCells #[Value.int .i64 0] (zs.length + 2)).toList.take 0 ++ zs.map (Value.int .i64) ++ (madeCells #[Value.int .i64 0] (zs.length + 2)).toList.drop (0 + (zs.map (Value.int .i64)).length) = zs.map (Value.int .i64) ++ [Value.int .i64 0, Value.int .i64 0] := by
      rw [hmc]
      simp
    rw [e] at hrun
    exact ⟨_, hrun, setRow_heap _ _ _ _ 3 (0, 0) hblk, below_setRow hb0 (Nat.le_refl _) _⟩

theorem blk_marks {w : World} {g : Nat} {zs : List Int} (h : Blk w g 3 (zs.map (Value.int .i64) ++ [Value.int .i64 0, Value.int .i64 0]).toArray) :
    Blk ((w.setCell ⟨g, zs.length, none⟩ (.int .i64 (-7))).setCell ⟨g, zs.length + 1, none⟩ (.int .i64 (-8))) g 3 (zs.map (Value.int .i64) ++ [Value.int .i64 (-7), Value.int .i64 (-8)]).toArray := by
  have h1 := (h.set zs.length (.int .i64 (-7))).set (zs.length + 1) (.int .i64 (-8))
  have e : ((zs.map (Value.int .i64) ++ [Value.int .i64 0, Value.int .i64 0]).toArray.setIfInBounds zs.length (.int .i64 (-7))).setIfInBounds (zs.length + 1) (.int .i64 (-8)) = (zs.map (Value.int .i64) ++ [Value.int .i64 (-7), Value.int .i64 (-8)]).toArray := by
    rw [List.setIfInBounds_toArray, List.setIfInBounds_toArray, List.set_append_right _ _ (by simp), List.set_append_right _ _ (by simp)]
    simp
  rwa [e] at h1

set_option maxHeartbeats 1000000 in
set_option maxRecDepth 20000 in
/-- A list in memory of its own, with two marks behind it. -/
theorem lent_any (v : Value) (zs : List Int) (hl : zs.length ≤ 4294967296) (w : World) (hv : Ints w.heap.size w v zs) :
    Calls Tryd.prog 15 #[v] w fun e w' => ∃ g, w.heap.size ≤ g ∧ e = .returned (.slice (some ⟨g, 0, none⟩) zs.length (zs.length + 2)) ∧ Blk w' g 3 (zs.map (Value.int .i64) ++ [Value.int .i64 (-7), Value.int .i64 (-8)]).toArray ∧ Below w.heap.size w w' := by
  have ht' : Tryd.prog.underlying 25 = some (.slice (Tryd.prog.elem 25)) := by simp [Program.elem, Tryd.underlying25]
  have he : Tryd.prog.elem 25 = 3 := by simp [Program.elem, Tryd.underlying25]
  have hs3 : ∀ w : World, (Go.sizeOf 3).run Tryd.prog w = .ok 1 w := fun w => by kernel_rfl
  have hsl : ∀ (W : World) (g : Nat), (Instr.slice 25 (.slice (some ⟨g, 0, none⟩) (zs.length + 2) (zs.length + 2)) none (some (.int .i64 (zs.length : Int))) none).run Tryd.prog W = .ok (.slice (some ⟨g, 0, none⟩) zs.length (zs.length + 2)) W := fun W g => by
    rw [run_slice_h W 25 _ _ _ ht' .i64 _ (by omega) (by omega), he, hs3]
    simp [Result.andThen, sliced, Addr.add]
  have hmk : ∀ w : World, (Instr.makeSlice 25 (.int .i64 ((zs.length : Int) + 2)) (.int .i64 ((zs.length : Int) + 2))).run Tryd.prog w = .ok (.slice (some ⟨w.heap.size, 0, none⟩) (zs.length + 2) (zs.length + 2)) (w.alloc (.cells (madeCells #[.int .i64 0] (zs.length + 2)) 3)) := fun w => by
    have h := run_make_row' (P := Tryd.prog) 25 3 (.int .i64 0) 8 Tryd.underlying25 info3 rfl .i64 .i64 (zs.length + 2) (by omega) (by omega) w
    rwa [show ((zs.length + 2 : Nat) : Int) = (zs.length : Int) + 2 by omega] at h
  obtain ⟨W2, hcp, hblk, hbel⟩ := copy_lent w 3 v zs w.heap.size rfl hv
  obtain ⟨va, vc, rfl⟩ := hv.val
  rw [List.length_map] at hcp
  obtain ⟨L, hL⟩ : ∃ L, L = zs.length := ⟨_, rfl⟩
  have hbm := blk_marks hblk
  have hc0 : W2.cell? ⟨w.heap.size, zs.length, none⟩ = some (.int .i64 0) := by rw [hblk.cell]; simp
  have hc1 : W2.cell? ⟨w.heap.size, zs.length + 1, none⟩ = some (.int .i64 0) := by rw [hblk.cell]; simp
  have hf0 := hblk.frozen zs.length
  have hf1 := hblk.frozen (zs.length + 1)
  rw [← hL] at hcp hsl hmk hl hc0 hc1 hf0 hf1 hbm ⊢
  have HBM : Hid (Blk ((W2.setCell ⟨w.heap.size, L, none⟩ (.int .i64 (-7))).setCell ⟨w.heap.size, L + 1, none⟩ (.int .i64 (-8))) w.heap.size 3 (zs.map (Value.int .i64) ++ [Value.int .i64 (-7), Value.int .i64 (-8)]).toArray) := hbm
  clear hL hblk hbm hv ht' he hs3
  go_enter Tryd.func15, Tryd.ntmps15
  go_wp2
  go_ret
  refine ⟨w.heap.size, Nat.le_refl _, rfl, HBM.out, ?_⟩
  exact (hbel.setCell (p := ⟨w.heap.size, L, none⟩) (Nat.le_refl _) _).setCell (p := ⟨w.heap.size, L + 1, none⟩) (Nat.le_refl _) _

set_option maxHeartbeats 1000000 in
set_option maxRecDepth 20000 in
/-- Is a list that was lent as it was, marks and all? -/
theorem back_any (g : Nat) (zs : List Int) (hl : zs.length ≤ 4294967296) (v : Value) (n₁ : Nat) (w : World) (hblk : Blk w g 3 (zs.map (Value.int .i64) ++ [Value.int .i64 (-7), Value.int .i64 (-8)]).toArray) (hv : Ints n₁ w v zs) :
    Calls Tryd.prog 18 #[.slice (some ⟨g, 0, none⟩) zs.length (zs.length + 2), v] w fun e w' => e = .returned (.bool true) ∧ Below g w w' := by
  have ht' : Tryd.prog.underlying 25 = some (.slice (Tryd.prog.elem 25)) := by simp [Program.elem, Tryd.underlying25]
  have he : Tryd.prog.elem 25 = 3 := by simp [Program.elem, Tryd.underlying25]
  have hs3 : ∀ w : World, (Go.sizeOf 3).run Tryd.prog w = .ok 1 w := fun w => by kernel_rfl
  have hsl : ∀ (W : World), (Instr.slice 25 (.slice (some ⟨g, 0, none⟩) zs.length (zs.length + 2)) none (some (.int .i64 ((zs.length : Int) + 2))) none).run Tryd.prog W = .ok (.slice (some ⟨g, 0, none⟩) (zs.length + 2) (zs.length + 2)) W := fun W => by
    rw [run_slice_h W 25 _ _ _ ht' .i64 _ (by omega) (by omega), he, hs3]
    have e : ((zs.length : Int) + 2).toNat = zs.length + 2 := by omega
    simp [Result.andThen, sliced, Addr.add, e]
  have hix : Ints (g + 1) w (.slice (some ⟨g, 0, none⟩) zs.length (zs.length + 2)) zs := .inr ⟨g, 0, _, rfl, Nat.lt_succ_self _, fun j hj => by
    rw [hblk.cell, Nat.zero_add]
    simp [List.getElem?_append_left, hj]⟩
  have hsame := sameInts_any _ v zs zs (g + 1) n₁ w hix hv (by omega) (by omega)
  rw [decide_eq_true rfl] at hsame
  have hb7 : ∀ w1, Below w.heap.size w w1 → w1.cell? ⟨g, zs.length, none⟩ = some (.int .i64 (-7)) := fun w1 h => by
    rw [(hblk.below h hblk.lt).cell]; simp
  have hb8 : ∀ w1, Below w.heap.size w w1 → w1.cell? ⟨g, zs.length + 1, none⟩ = some (.int .i64 (-8)) := fun w1 h => by
    rw [(hblk.below h hblk.lt).cell]; simp
  have hcs : ∃ cs, Blk w g 3 cs ∧ cs.size = zs.length + 2 := ⟨_, hblk, by simp⟩
  obtain ⟨va, vc, rfl⟩ := hv.val
  obtain ⟨L, hL⟩ : ∃ L, L = zs.length := ⟨_, rfl⟩
  rw [← hL] at hsl hl hb7 hb8 hcs hsame ⊢
  obtain ⟨cs, hblk2, hcs2⟩ := hcs
  clear hL hblk hix hv ht' he hs3
  go_enter Tryd.func18, Tryd.ntmps18
  go_wp2_with fail
  refine hsame.mono ?_
  rintro e w1 ⟨rfl, hb1⟩
  have c7 := hb7 w1 hb1
  have c8 := hb8 w1 hb1
  have hblk3 := hblk2.below hb1 hblk2.lt
  have hbg : Below g w w1 := hb1.mono (Nat.le_of_lt hblk2.lt)
  clear hb7 hb8 hsame hblk2
  go_wp2
  go_loopw [7] (fun i wr => ∃ (k : Nat) (ds : Array Value), k ≤ L + 2 ∧ i = .int .i64 k ∧ Blk wr g 3 ds ∧ ds.size = L + 2 ∧ Below g w wr) (fun i _ => L + 2 - (intOf i).toNat)
  case atStart => exact ⟨0, cs, Nat.zero_le _, rfl, hblk3, hcs2, hbg⟩
  case round =>
    obtain ⟨k, ds, hk, rfl, hd, hds, hbel⟩ := hrel
    clear c7 c8 hblk3
    by_cases hlt : k < L + 2
    · have hck : wr.cell? ⟨g, k, none⟩ = some (ds[k]'(by omega)) := by rw [hd.cell]; simp
      have hfk := hd.frozen k
      have hd2 := hd.set k (.int .i64 65)
      have hbel2 := hbel.setCell (p := ⟨g, k, none⟩) (Nat.le_refl _) (.int .i64 65)
      have hds2 : (ds.setIfInBounds k (.int .i64 65)).size = L + 2 := by simp [hds]
      have hklt : (k : Int) < (L : Int) + 2 := by omega
      go_wp2
      go_roundw
      case rel => exact ⟨k + 1, _, by omega, by go_num, hd2, hds2, hbel2⟩
      case measure => simp [intOf]; omega
    · have hklt : ¬ (k : Int) < (L : Int) + 2 := by omega
      go_wp2
      go_ret
      exact ⟨rfl, hbel⟩

end Go.Proofs.YtjlgmoakdaeinaaDoor
