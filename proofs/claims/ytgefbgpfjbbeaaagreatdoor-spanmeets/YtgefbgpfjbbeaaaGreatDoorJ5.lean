/- Contracts and lemmas (nothing is claimed here). -/
import Derived.Test.YtgefbgpfjbbeaaaGreatDoorJ4
import Derived.Deep.RegionHeld
namespace Go.Proofs.YtgefbgpfjbbeaaaGreatDoor
open Go.RowKit Go.Vf

theorem info5 : (Tryz.prog.info? 5).map (fun i => (i.zero, i.size, i.bytes)) = some (some (.int .u8 0), 1, 1) := by kernel_rfl
theorem size5 (w : World) : (Go.sizeOf 5).run Tryz.prog w = .ok 1 w := by kernel_rfl
theorem cells5 : Tryz.prog.cellsOf 5 = 1 := by kernel_rfl

theorem flip_toNat (x : UInt8) : ((255 - x).toNat : Int) = 255 - (x.toNat : Int) := by
  have := x.toNat_lt
  rw [UInt8.toNat_sub_of_le _ _ (by rw [UInt8.le_iff_toNat_le]; have : (255 : UInt8).toNat = 255 := rfl; omega)]
  have : (255 : UInt8).toNat = 255 := rfl
  omega

theorem shape_setCell (g : Nat) (w : World) (a : Addr) (v : Value) : (w.setCell a v).shape? g = w.shape? g := by
  unfold World.shape? World.setCell
  simp only [Array.getElem?_modify]
  by_cases h : a.block = g
  · rw [if_pos h]
    cases w.heap[g]? with
    | none => rfl
    | some o =>
      cases o with
      | cells c e f => by_cases hs : a.spot.isSome = true <;> simp [hs]
      | _ => rfl
  · rw [if_neg h]
theorem shape_setCells (g : Nat) : ∀ (vs : List Value) (b o : Nat) (w : World), (w.setCells b o vs).shape? g = w.shape? g
  | [], _, _, _ => rfl
  | v :: r, b, o, w => by rw [World.setCells, shape_setCells g r b (o + 1), shape_setCell]

set_option maxHeartbeats 400000 in
set_option maxRecDepth 20000 in
theorem sclone_any (s : ByteArray) (w : World) (hs : s.size ≤ 17179869184) :
    Calls Tryz.prog 125 #[.string s] w fun e w' => e = .returned (.string s) ∧ Below w.heap.size w w' := by
  by_cases h0 : s.size = 0
  · obtain rfl : s = bs [] := data_inj (by rw [bs_data]; exact List.eq_nil_of_length_eq_zero (by rw [← Lib.size_eq]; exact h0))
    go_enter Tryz.func125, Tryz.ntmps125
    go_wp2
    go_ret
    exact ⟨rfl, Below.refl _ _⟩
  · have hl : s.data.toList.length = s.size := (Lib.size_eq s).symm
    have hmk : ∀ w : World, (Instr.makeSlice 155 (.int .i64 (s.size : Int)) (.int .i64 (s.size : Int))).run Tryz.prog w = .ok (.slice (some ⟨w.heap.size, 0, none⟩) s.size s.size) (w.alloc (.cells (madeCells #[.int .u8 0] s.size) 5)) := fun w =>
      run_make_row' (P := Tryz.prog) 155 5 (.int .u8 0) 1 Tryz.underlying155 info5 rfl .i64 .i64 s.size (by omega) (by omega) w
    have hm := BRow.made w s.size 5
    have hcp := run_copy_str (P := Tryz.prog) _ 155 9 3 5 w.heap.size s.size 0 s _ (by simp) (Nat.zero_le _) Tryz.underlying155 size5 hm
    have hp := hm.put 0 s.data.toList (by simp [hl])
    rw [cutV_zero, Nat.sub_zero, Nat.min_self, List.take_of_length_le (by omega)] at hcp
    have hsh := shape_setCells w.heap.size (cellsL s.data.toList) w.heap.size 0 (w.alloc (.cells (madeCells #[.int .u8 0] s.size) 5))
    rw [show (w.alloc (.cells (madeCells #[.int .u8 0] s.size) 5)).shape? w.heap.size = some (5, (madeCells #[Value.int .u8 0] s.size).size) by unfold World.shape?; rw [heap_alloc_new]] at hsh
    have hb := below_setCells w.heap.size (Nat.le_refl _) (cellsL s.data.toList) 0 ((Below.refl w.heap.size w).alloc (Nat.le_refl _) (.cells (madeCells #[.int .u8 0] s.size) 5))
    have e1 : (List.take 0 (List.replicate s.size (0 : UInt8)) ++ (s.data.toList ++ List.drop (0 + s.data.toList.length) (List.replicate s.size (0 : UInt8)))) = s.data.toList := by simp [hl]
    rw [e1] at hp
    have hms : (madeCells #[Value.int .u8 0] s.size).size = s.size := by rw [size_madeCells]
    generalize (w.alloc (.cells (madeCells #[.int .u8 0] s.size) 5)).setCells w.heap.size 0 (cellsL s.data.toList) = w2 at hcp hp hsh hb
    have hus := run_unsafe_row (P := Tryz.prog) w2 190 3 9 5 Tryz.underlying190 cells5 w.heap.size _ hsh s.data.toList (fun h => h0 (by rw [← hl, h]; rfl)) (by omega) (by omega) hp
    rw [bs_of, hl] at hus
    clear hm hp hsh e1 hms
    go_enter Tryz.func125, Tryz.ntmps125
    go_wp2
    go_ret
    exact ⟨rfl, Lib.below_freeze hb (p := ⟨w.heap.size, 0, none⟩) (Nat.le_refl _) _⟩

theorem clone_any (s : ByteArray) (w : World) (hs : s.size ≤ 17179869184) :
    Calls Tryz.prog 90 #[.string s] w fun e w' => e = .returned (.string s) ∧ Below w.heap.size w w' := by
  go_enter Tryz.func90, Tryz.ntmps90
  go_wp2_with fail
  refine (sclone_any s _ hs).mono ?_
  rintro e w1 ⟨rfl, hb⟩
  go_wp2
  go_ret
  exact ⟨rfl, hb⟩

def turnB (b : Bool) (l : List UInt8) : List UInt8 := if b then flipL l else l
/-- A magnitude of so many bytes, at least one. -/
def tkMag (l : List UInt8) (k : Nat) (b : Bool) : Except Nat (List UInt8) :=
  match l with
  | [] => .error 0
  | x :: r => if x.toNat = (if b then 255 else 0) then .error 0 else if k ≤ (x :: r).length then .ok (turnB b ((x :: r).take k)) else .error (x :: r).length
def magE (a : Nat) : Except Nat (List UInt8) → Ending
  | .ok m => .returned (.string (bs m))
  | .error n => lost 20 ((a + n : Nat) : Int)

/-- A number as the model holds it. -/
abbrev numV (b : Bool) (m : ByteArray) : Value := .agg #[.bool b, .string m]
/-- Check's answer. -/
def chk (b : Bool) (m : List UInt8) : Int := if 255 < m.length then 21 else if (m.isEmpty && b) || m.head? == some 0 then 20 else 0

set_option maxHeartbeats 400000 in
theorem check_any (b : Bool) (m : ByteArray) (hm : m.size ≤ 17179869184) (w : World) :
    Calls Tryz.prog 55 #[numV b m] w fun e w' => e = .returned (.int .i64 (chk b m.data.toList)) ∧ Below w.heap.size w w' := by
  have hl : m.data.toList.length = m.size := (Lib.size_eq m).symm
  have hbel := (Below.refl w.heap.size w).alloc (Nat.le_refl _) (.cells #[.bool b, .string m] 41)
  by_cases h1 : 255 < m.size
  · have hR : chk b m.data.toList = 21 := by simp [chk, hl, h1]
    rw [hR]
    go_enter Tryz.func55, Tryz.ntmps55
    go_wp2
    go_ret
    exact ⟨rfl, hbel⟩
  · by_cases h2 : m.size = 0
    · have hn : m.data.toList = [] := List.eq_nil_of_length_eq_zero (by omega)
      have he : m.toList.isEmpty = true := by rw [ByteArray.toList_eq, hn]; rfl
      rw [hn]
      clear hn hl
      cases b
      all_goals
        go_enter Tryz.func55, Tryz.ntmps55
        go_wp2
        go_ret
        exact ⟨rfl, hbel⟩
    · have he : m.toList.isEmpty = false := by
        rw [ByteArray.toList_eq]
        cases h : m.data.toList with
        | nil => rw [h] at hl; exact absurd hl.symm h2
        | cons x r => rfl
      have h0 : 0 < m.size := by omega
      obtain ⟨r, hd⟩ : ∃ r, m.data.toList = m[0] :: r := ⟨_, (List.drop_zero (l := m.data.toList)).symm.trans (drop_at m 0 h0)⟩
      by_cases h3 : m[0] = 0
      · have hR : chk b m.data.toList = 20 := by
          have h4 : ¬ 255 < m.data.toList.length := by omega
          rw [hd] at h4 ⊢
          simp only [chk, h4, if_false]
          simp [h3]
        have hx : (m[0].toNat : Int) = 0 := by rw [h3]; rfl
        rw [hR]
        clear hR h3 hd
        go_enter Tryz.func55, Tryz.ntmps55
        go_wp2
        go_ret
        exact ⟨rfl, hbel⟩
      · have hR : chk b m.data.toList = 0 := by
          have h4 : ¬ 255 < m.data.toList.length := by omega
          rw [hd] at h4 ⊢
          simp only [chk, h4, if_false]
          simp [h3]
        have hx : ¬ (m[0].toNat : Int) = 0 := fun h => h3 (UInt8.toNat_inj.1 (by simpa using h))
        rw [hR]
        clear hR h3 hd
        go_enter Tryz.func55, Tryz.ntmps55
        go_wp2
        go_ret
        exact ⟨rfl, hbel⟩
end Go.Proofs.YtgefbgpfjbbeaaaGreatDoor

namespace Go.Proofs.YtgefbgpfjbbeaaaGreatDoor
open Go.RowKit Go.Vf

def headL (b : Bool) (n : Nat) : List UInt8 :=
  if 126 < n then (if b then [1, UInt8.ofNat (255 - n)] else [255, UInt8.ofNat n]) else if b then [UInt8.ofNat (128 - n)] else [UInt8.ofNat (128 + n)]
def putL (b : Bool) (m : List UInt8) : List UInt8 := headL b m.length ++ turnB b m

theorem ofNat_int {n : Nat} (h : n < 256) : ((UInt8.ofNat n).toNat : Int) = (n : Int) := by
  rw [UInt8.toNat_ofNat_of_lt' (by simpa using h)]
theorem bs_append (a b : List UInt8) : bs a ++ bs b = bs (a ++ b) := data_inj (by simp [bs_data])

/-- The box of a number: its cells, still there behind a call. -/
theorem box_num {h : Nat} {v0 v1 : Value} {w w' : World} (hb : Below w.heap.size w w')
    (hS : w.cell? ⟨h, 0, none⟩ = some v0 ∧ w.cell? ⟨h, 1, none⟩ = some v1 ∧ h < w.heap.size) :
    w'.cell? ⟨h, 0, none⟩ = some v0 ∧ w'.cell? ⟨h, 1, none⟩ = some v1 ∧ h < w'.heap.size := by
  obtain ⟨h0, h1, h2⟩ := hS
  exact ⟨(hb.cell (p := ⟨h, 0, none⟩) h2).trans h0, (hb.cell (p := ⟨h, 1, none⟩) h2).trans h1, Nat.lt_of_lt_of_le h2 hb.size⟩
theorem below_box {w w2 : World} {o : Obj} (hb : Below (w.alloc o).heap.size (w.alloc o) w2) : Below w.heap.size w w2 :=
  ((Below.refl _ _).alloc (Nat.le_refl _) o).trans (hb.mono (by simp))
theorem below_next {w0 w1 w2 : World} (h1 : Below w0.heap.size w0 w1) (h2 : Below w1.heap.size w1 w2) : Below w0.heap.size w0 w2 := h1.trans (h2.mono h1.size)

theorem headL_length (b : Bool) (n : Nat) : (bs (headL b n)).size ≤ 2 := by
  rw [bs_size]
  unfold headL
  split <;> split <;> simp

def putE (b : Bool) (m : List UInt8) : Ending := .returned (.tuple #[.string (bs (if chk b m = 0 then putL b m else [])), .int .i64 (chk b m)])

end Go.Proofs.YtgefbgpfjbbeaaaGreatDoor
