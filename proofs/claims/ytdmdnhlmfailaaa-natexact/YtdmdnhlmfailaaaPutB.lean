/- What the heads and nat.Put do (contracts; nothing is claimed here). -/
import Derived.Test.YtdmdnhlmfailaaaPut
import Derived.Deep.RegionHeld
namespace Go.Proofs.Ytdmdnhlmfailaaa
open Go.RowKit Go.Vf

def headL (b : Bool) (n : Nat) : List UInt8 :=
  if 126 < n then (if b then [1, UInt8.ofNat (255 - n)] else [255, UInt8.ofNat n]) else if b then [UInt8.ofNat (128 - n)] else [UInt8.ofNat (128 + n)]
def putL (b : Bool) (m : List UInt8) : List UInt8 := headL b m.length ++ turnB b m

theorem ofNat_int {n : Nat} (h : n < 256) : ((UInt8.ofNat n).toNat : Int) = (n : Int) := by
  rw [UInt8.toNat_ofNat_of_lt' (by simpa using h)]
theorem bs_append (a b : List UInt8) : bs a ++ bs b = bs (a ++ b) := data_inj (by simp [bs_data])

set_option maxHeartbeats 400000 in
theorem aboveHead_any (n : Nat) (hn : n ≤ 255) (w : World) :
    Calls Try.prog 31 #[.int .i64 (n : Int)] w fun e w' => e = .returned (.string (bs (headL false n))) ∧ Below w.heap.size w w' := by
  by_cases h : 126 < n
  · have hcv := run_string_cells (P := Try.prog) w 60 9 5 Try.underlying60 Try.underlying5 Try.underlying9 [255, UInt8.ofNat n] #[.int .u8 255, .int .u8 (n : Int)] (by simp only [cellsL, List.map_cons, List.map_nil, ofNat_int (show n < 256 by omega)]; rfl) 2 2 rfl
    have hR : headL false n = [255, UInt8.ofNat n] := by simp [headL, h]
    rw [hR]
    clear hR
    go_enter Try.func31, Try.ntmps31
    go_wp2
    go_ret
    exact ⟨rfl, (Below.refl _ _).alloc (Nat.le_refl _) _⟩
  · have hcv := run_string_cells (P := Try.prog) w 60 9 5 Try.underlying60 Try.underlying5 Try.underlying9 [UInt8.ofNat (128 + n)] #[.int .u8 (128 + (n : Int))] (by simp only [cellsL, List.map_cons, List.map_nil, ofNat_int (show 128 + n < 256 by omega)]; simp) 1 1 rfl
    have hR : headL false n = [UInt8.ofNat (128 + n)] := by simp only [headL, h, if_false, Bool.false_eq_true]
    rw [hR]
    clear hR
    generalize UInt8.ofNat (128 + n) = x at hcv ⊢
    go_enter Try.func31, Try.ntmps31
    go_wp2
    go_ret
    exact ⟨rfl, (Below.refl _ _).alloc (Nat.le_refl _) _⟩

set_option maxHeartbeats 400000 in
theorem belowHead_any (n : Nat) (hn : n ≤ 255) (w : World) :
    Calls Try.prog 29 #[.int .i64 (n : Int)] w fun e w' => e = .returned (.string (bs (headL true n))) ∧ Below w.heap.size w w' := by
  by_cases h : 126 < n
  · have hcv := run_string_cells (P := Try.prog) w 60 9 5 Try.underlying60 Try.underlying5 Try.underlying9 [1, UInt8.ofNat (255 - n)] #[.int .u8 1, .int .u8 (255 - (n : Int))] (by simp only [cellsL, List.map_cons, List.map_nil, ofNat_int (show 255 - n < 256 by omega), Int.ofNat_sub hn]; rfl) 2 2 rfl
    have hR : headL true n = [1, UInt8.ofNat (255 - n)] := by simp [headL, h]
    rw [hR]
    clear hR
    go_enter Try.func29, Try.ntmps29
    go_wp2
    go_ret
    exact ⟨rfl, (Below.refl _ _).alloc (Nat.le_refl _) _⟩
  · have hcv := run_string_cells (P := Try.prog) w 60 9 5 Try.underlying60 Try.underlying5 Try.underlying9 [UInt8.ofNat (128 - n)] #[.int .u8 (128 - (n : Int))] (by simp only [cellsL, List.map_cons, List.map_nil, ofNat_int (show 128 - n < 256 by omega), Int.ofNat_sub (show n ≤ 128 by omega)]; rfl) 1 1 rfl
    have hR : headL true n = [UInt8.ofNat (128 - n)] := by simp [headL, h]
    rw [hR]
    clear hR
    go_enter Try.func29, Try.ntmps29
    go_wp2
    go_ret
    exact ⟨rfl, (Below.refl _ _).alloc (Nat.le_refl _) _⟩

/-- The box of a number: its cells, still there behind a call. -/
theorem box_num {h : Nat} {v0 v1 : Value} {w w' : World} (hb : Below w.heap.size w w')
    (hS : w.cell? ⟨h, 0, none⟩ = some v0 ∧ w.cell? ⟨h, 1, none⟩ = some v1 ∧ h < w.heap.size) :
    w'.cell? ⟨h, 0, none⟩ = some v0 ∧ w'.cell? ⟨h, 1, none⟩ = some v1 ∧ h < w'.heap.size := by
  obtain ⟨h0, h1, h2⟩ := hS
  exact ⟨(hb.cell (p := ⟨h, 0, none⟩) h2).trans h0, (hb.cell (p := ⟨h, 1, none⟩) h2).trans h1, Nat.lt_of_lt_of_le h2 hb.size⟩
theorem below_box {w w2 : World} {o : Obj} (hb : Below (w.alloc o).heap.size (w.alloc o) w2) : Below w.heap.size w w2 :=
  ((Below.refl _ _).alloc (Nat.le_refl _) o).trans (hb.mono (by simp))
theorem below_next {w0 w1 w2 : World} (h1 : Below w0.heap.size w0 w1) (h2 : Below w1.heap.size w1 w2) : Below w0.heap.size w0 w2 := h1.trans (h2.mono h1.size)

theorem headL_length (b : Bool) (n : Nat) : (bs (headL b n)).size ≤ 2 := by
  rw [bs_size]
  unfold headL
  split <;> split <;> simp

def putE (b : Bool) (m : List UInt8) : Ending := .returned (.tuple #[.string (bs (if chk b m = 0 then putL b m else [])), .int .i64 (chk b m)])

set_option maxHeartbeats 1000000 in
theorem put_any (b : Bool) (m : ByteArray) (hm : m.size ≤ 17179869184) (w : World) :
    Calls Try.prog 13 #[numV b m] w fun e w' => e = putE b m.data.toList ∧ Below w.heap.size w w' := by
  have hl : m.data.toList.length = m.size := (Lib.size_eq m).symm
  by_cases hc : chk b m.data.toList = 0
  · have hle : m.size ≤ 255 := by
      unfold chk at hc
      split at hc
      · exact absurd hc (by decide)
      · omega
    have hR : putE b m.data.toList = .returned (.tuple #[.string (bs (headL b m.size) ++ bs (turnB b m.data.toList)), .int .i64 0]) := by simp [putE, hc, putL, hl, bs_append]
    rw [hR]
    clear hR
    go_enter Try.func13, Try.ntmps13
    go_wp2_with fail
    refine (check_any b m hm _).mono ?_
    rintro e w1 ⟨rfl, hb1⟩
    have hS := box_num hb1 (h := w.heap.size) (v0 := .bool b) (v1 := .string m) ⟨by simp, by simp, by simp⟩
    obtain ⟨hc0, hc1, hc2⟩ := hS
    rw [hc]
    clear hc
    have hh := headL_length b m.size
    have hf : (bs (flipL m.data.toList)).size = m.size := by rw [bs_size, flipL_length, hl]
    cases b
    · go_wp2_with fail
      go_region_held (fun w' => w'.cell? ⟨w.heap.size, 0, none⟩ = some (.bool false) ∧ w'.cell? ⟨w.heap.size, 1, none⟩ = some (.string m) ∧ w.heap.size < w'.heap.size) (first | go_keep | exact box_num (by assumption) (by assumption)) (first | (go_at_call 31; refine (aboveHead_any m.size hle _).mono ?_; rintro e w2 ⟨rfl, hb2⟩))
      go_wp2
      go_ret2
      refine ⟨?_, below_next (below_box hb1) (below_next (Below.refl _ _).drew hb2)⟩
      simp [turnB, bs_of]
    · go_wp2_with fail
      go_region_held (fun w' => w'.cell? ⟨w.heap.size, 0, none⟩ = some (.bool true) ∧ w'.cell? ⟨w.heap.size, 1, none⟩ = some (.string m) ∧ w.heap.size < w'.heap.size) (first | go_keep | exact box_num (by assumption) (by assumption)) (first | (go_at_call 29; refine (belowHead_any m.size hle _).mono ?_; rintro e w2 ⟨rfl, hb2⟩) | (go_at_call 30; refine (turned_any m _ hm).mono ?_; rintro e w3 ⟨rfl, hb3⟩))
      go_wp2
      go_ret2
      refine ⟨?_, below_next (below_box hb1) (below_next (below_next (Below.refl _ _).drew hb2) hb3)⟩
      simp [turnB]
  · have hR : putE b m.data.toList = .returned (.tuple #[.string (bs []), .int .i64 (chk b m.data.toList)]) := by simp [putE, hc]
    rw [hR]
    clear hR hl
    generalize hcc : chk b m.data.toList = c at hc ⊢
    go_enter Try.func13, Try.ntmps13
    go_wp2_with fail
    refine (check_any b m hm _).mono ?_
    rintro e w1 ⟨rfl, hb1⟩
    rw [hcc]
    go_wp2
    go_ret2
    exact ⟨rfl, below_box hb1⟩
end Go.Proofs.Ytdmdnhlmfailaaa
