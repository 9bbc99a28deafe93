/- Contracts and lemmas (nothing is claimed here). -/
import Derived.Test.YtcbjnifoojjipaaGreatDoorJ5
import Derived.Test.YtcbjnifoojjipaaGreatDoorJ4
import Derived.Deep.RegionHeld
namespace Go.Proofs.YtcbjnifoojjipaaGreatDoor
open Go.RowKit Go.Vf
theorem info5 : (Tryz.prog.info? 5).map (fun i => (i.zero, i.size, i.bytes)) = some (some (.int .u8 0), 1, 1) := by kernel_rfl
theorem size5 (w : World) : (Go.sizeOf 5).run Tryz.prog w = .ok 1 w := by kernel_rfl
theorem cells5 : Tryz.prog.cellsOf 5 = 1 := by kernel_rfl
theorem flip_toNat (x : UInt8) : ((255 - x).toNat : Int) = 255 - (x.toNat : Int) := by
  have := x.toNat_lt
  rw [UInt8.toNat_sub_of_le _ _ (by rw [UInt8.le_iff_toNat_le]; have : (255 : UInt8).toNat = 255 := rfl; omega)]
  have : (255 : UInt8).toNat = 255 := rfl
  omega
theorem shape_setCell (g : Nat) (w : World) (a : Addr) (v : Value) : (w.setCell a v).shape? g = w.shape? g := by
  unfold World.shape? World.setCell
  simp only [Array.getElem?_modify]
  by_cases h : a.block = g
  · rw [if_pos h]
    cases w.heap[g]? with
    | none => rfl
    | some o =>
      cases o with
      | cells c e f => by_cases hs : a.spot.isSome = true <;> simp [hs]
      | _ => rfl
  · rw [if_neg h]
theorem shape_setCells (g : Nat) : ∀ (vs : List Value) (b o : Nat) (w : World), (w.setCells b o vs).shape? g = w.shape? g
  | [], _, _, _ => rfl
  | v :: r, b, o, w => by rw [World.setCells, shape_setCells g r b (o + 1), shape_setCell]
set_option maxHeartbeats 400000 in
set_option maxRecDepth 20000 in
theorem sclone_any (s : ByteArray) (w : World) (hs : s.size ≤ 17179869184) :
    Calls Tryz.prog 89 #[.string s] w fun e w' => e = .returned (.string s) ∧ Below w.heap.size w w' := by
  by_cases h0 : s.size = 0
  · obtain rfl : s = bs [] := data_inj (by rw [bs_data]; exact List.eq_nil_of_length_eq_zero (by rw [← Lib.size_eq]; exact h0))
    go_enter Tryz.func89, Tryz.ntmps89
    go_wp2
    go_ret
    exact ⟨rfl, Below.refl _ _⟩
  · have hl : s.data.toList.length = s.size := (Lib.size_eq s).symm
    have hmk : ∀ w : World, (Instr.makeSlice 130 (.int .i64 (s.size : Int)) (.int .i64 (s.size : Int))).run Tryz.prog w = .ok (.slice (some ⟨w.heap.size, 0, none⟩) s.size s.size) (w.alloc (.cells (madeCells #[.int .u8 0] s.size) 5)) := fun w =>
      run_make_row' (P := Tryz.prog) 130 5 (.int .u8 0) 1 Tryz.underlying130 info5 rfl .i64 .i64 s.size (by omega) (by omega) w
    have hm := BRow.made w s.size 5
    have hcp := run_copy_str (P := Tryz.prog) _ 130 9 3 5 w.heap.size s.size 0 s _ (by simp) (Nat.zero_le _) Tryz.underlying130 size5 hm
    have hp := hm.put 0 s.data.toList (by simp [hl])
    rw [cutV_zero, Nat.sub_zero, Nat.min_self, List.take_of_length_le (by omega)] at hcp
    have hsh := shape_setCells w.heap.size (cellsL s.data.toList) w.heap.size 0 (w.alloc (.cells (madeCells #[.int .u8 0] s.size) 5))
    rw [show (w.alloc (.cells (madeCells #[.int .u8 0] s.size) 5)).shape? w.heap.size = some (5, (madeCells #[Value.int .u8 0] s.size).size) by unfold World.shape?; rw [heap_alloc_new]] at hsh
    have hb := below_setCells w.heap.size (Nat.le_refl _) (cellsL s.data.toList) 0 ((Below.refl w.heap.size w).alloc (Nat.le_refl _) (.cells (madeCells #[.int .u8 0] s.size) 5))
    have e1 : (List.take 0 (List.replicate s.size (0 : UInt8)) ++ (s.data.toList ++ List.drop (0 + s.data.toList.length) (List.replicate s.size (0 : UInt8)))) = s.data.toList := by simp [hl]
    rw [e1] at hp
    have hms : (madeCells #[Value.int .u8 0] s.size).size = s.size := by rw [size_madeCells]
    generalize (w.alloc (.cells (madeCells #[.int .u8 0] s.size) 5)).setCells w.heap.size 0 (cellsL s.data.toList) = w2 at hcp hp hsh hb
    have hus := run_unsafe_row (P := Tryz.prog) w2 192 3 9 5 Tryz.underlying192 cells5 w.heap.size _ hsh s.data.toList (fun h => h0 (by rw [← hl, h]; rfl)) (by omega) (by omega) hp
    rw [bs_of, hl] at hus
    clear hm hp hsh e1 hms
    go_enter Tryz.func89, Tryz.ntmps89
    go_wp2
    go_ret
    exact ⟨rfl, Lib.below_freeze hb (p := ⟨w.heap.size, 0, none⟩) (Nat.le_refl _) _⟩
theorem clone_any (s : ByteArray) (w : World) (hs : s.size ≤ 17179869184) :
    Calls Tryz.prog 65 #[.string s] w fun e w' => e = .returned (.string s) ∧ Below w.heap.size w w' := by
  go_enter Tryz.func65, Tryz.ntmps65
  go_wp2_with fail
  refine (sclone_any s _ hs).mono ?_
  rintro e w1 ⟨rfl, hb⟩
  go_wp2
  go_ret
  exact ⟨rfl, hb⟩
def turnB (b : Bool) (l : List UInt8) : List UInt8 := if b then flipL l else l
def tkMag (l : List UInt8) (k : Nat) (b : Bool) : Except Nat (List UInt8) :=
  match l with
  | [] => .error 0
  | x :: r => if x.toNat = (if b then 255 else 0) then .error 0 else if k ≤ (x :: r).length then .ok (turnB b ((x :: r).take k)) else .error (x :: r).length
def magE (a : Nat) : Except Nat (List UInt8) → Ending
  | .ok m => .returned (.string (bs m))
  | .error n => lost 20 ((a + n : Nat) : Int)
abbrev numV (b : Bool) (m : ByteArray) : Value := .agg #[.bool b, .string m]
def chk (b : Bool) (m : List UInt8) : Int := if 255 < m.length then 21 else if (m.isEmpty && b) || m.head? == some 0 then 20 else 0
set_option maxHeartbeats 400000 in
theorem check_any (b : Bool) (m : ByteArray) (hm : m.size ≤ 17179869184) (w : World) :
    Calls Tryz.prog 160 #[numV b m] w fun e w' => e = .returned (.int .i64 (chk b m.data.toList)) ∧ Below w.heap.size w w' := by
  have hl : m.data.toList.length = m.size := (Lib.size_eq m).symm
  have hbel := (Below.refl w.heap.size w).alloc (Nat.le_refl _) (.cells #[.bool b, .string m] 44)
  by_cases h1 : 255 < m.size
  · have hR : chk b m.data.toList = 21 := by simp [chk, hl, h1]
    rw [hR]
    go_enter Tryz.func160, Tryz.ntmps160
    go_wp2
    go_ret
    exact ⟨rfl, hbel⟩
  · by_cases h2 : m.size = 0
    · have hn : m.data.toList = [] := List.eq_nil_of_length_eq_zero (by omega)
      have he : m.toList.isEmpty = true := by rw [ByteArray.toList_eq, hn]; rfl
      rw [hn]
      clear hn hl
      cases b
      all_goals
        go_enter Tryz.func160, Tryz.ntmps160
        go_wp2
        go_ret
        exact ⟨rfl, hbel⟩
    · have he : m.toList.isEmpty = false := by
        rw [ByteArray.toList_eq]
        cases h : m.data.toList with
        | nil => rw [h] at hl; exact absurd hl.symm h2
        | cons x r => rfl
      have h0 : 0 < m.size := by omega
      obtain ⟨r, hd⟩ : ∃ r, m.data.toList = m[0] :: r := ⟨_, (List.drop_zero (l := m.data.toList)).symm.trans (drop_at m 0 h0)⟩
      by_cases h3 : m[0] = 0
      · have hR : chk b m.data.toList = 20 := by
          have h4 : ¬ 255 < m.data.toList.length := by omega
          rw [hd] at h4 ⊢
          simp only [chk, h4, if_false]
          simp [h3]
        have hx : (m[0].toNat : Int) = 0 := by rw [h3]; rfl
        rw [hR]
        clear hR h3 hd
        go_enter Tryz.func160, Tryz.ntmps160
        go_wp2
        go_ret
        exact ⟨rfl, hbel⟩
      · have hR : chk b m.data.toList = 0 := by
          have h4 : ¬ 255 < m.data.toList.length := by omega
          rw [hd] at h4 ⊢
          simp only [chk, h4, if_false]
          simp [h3]
        have hx : ¬ (m[0].toNat : Int) = 0 := fun h => h3 (UInt8.toNat_inj.1 (by simpa using h))
        rw [hR]
        clear hR h3 hd
        go_enter Tryz.func160, Tryz.ntmps160
        go_wp2
        go_ret
        exact ⟨rfl, hbel⟩
def headL (b : Bool) (n : Nat) : List UInt8 :=
  if 126 < n then (if b then [1, UInt8.ofNat (255 - n)] else [255, UInt8.ofNat n]) else if b then [UInt8.ofNat (128 - n)] else [UInt8.ofNat (128 + n)]
def putL (b : Bool) (m : List UInt8) : List UInt8 := headL b m.length ++ turnB b m
theorem ofNat_int {n : Nat} (h : n < 256) : ((UInt8.ofNat n).toNat : Int) = (n : Int) := by
  rw [UInt8.toNat_ofNat_of_lt' (by simpa using h)]
theorem bs_append (a b : List UInt8) : bs a ++ bs b = bs (a ++ b) := data_inj (by simp [bs_data])
theorem box_num {h : Nat} {v0 v1 : Value} {w w' : World} (hb : Below w.heap.size w w')
    (hS : w.cell? ⟨h, 0, none⟩ = some v0 ∧ w.cell? ⟨h, 1, none⟩ = some v1 ∧ h < w.heap.size) :
    w'.cell? ⟨h, 0, none⟩ = some v0 ∧ w'.cell? ⟨h, 1, none⟩ = some v1 ∧ h < w'.heap.size := by
  obtain ⟨h0, h1, h2⟩ := hS
  exact ⟨(hb.cell (p := ⟨h, 0, none⟩) h2).trans h0, (hb.cell (p := ⟨h, 1, none⟩) h2).trans h1, Nat.lt_of_lt_of_le h2 hb.size⟩
theorem below_box {w w2 : World} {o : Obj} (hb : Below (w.alloc o).heap.size (w.alloc o) w2) : Below w.heap.size w w2 :=
  ((Below.refl _ _).alloc (Nat.le_refl _) o).trans (hb.mono (by simp))
theorem below_next {w0 w1 w2 : World} (h1 : Below w0.heap.size w0 w1) (h2 : Below w1.heap.size w1 w2) : Below w0.heap.size w0 w2 := h1.trans (h2.mono h1.size)
theorem headL_length (b : Bool) (n : Nat) : (bs (headL b n)).size ≤ 2 := by
  rw [bs_size]
  unfold headL
  split <;> split <;> simp
def putE (b : Bool) (m : List UInt8) : Ending := .returned (.tuple #[.string (bs (if chk b m = 0 then putL b m else [])), .int .i64 (chk b m)])
def RevIn (l r : List UInt8) (k : Nat) : Prop :=
  ∃ h : r.length = l.length, ∀ i (hi : i < l.length), r[i]'(by omega) = if i < k ∨ l.length ≤ i + k then l[l.length - 1 - i]'(by omega) else l[i]
theorem RevIn.zero (l : List UInt8) : RevIn l l 0 := ⟨rfl, fun i hi => by simp; omega⟩
theorem RevIn.step {l r : List UInt8} {k : Nat} (h : RevIn l r k) (hk : k + k + 1 < l.length) :
    RevIn l ((r.set k (l[l.length - 1 - k]'(by omega))).set (l.length - 1 - k) (l[k]'(by omega))) (k + 1) := by
  obtain ⟨hlen, hr⟩ := h
  refine ⟨by simpa using hlen, fun i hi => ?_⟩
  rw [List.getElem_set, List.getElem_set]
  by_cases h1 : l.length - 1 - k = i
  · subst h1
    simp only [if_true]
    rw [if_pos (by omega)]
    congr 1
    omega
  · rw [if_neg h1]
    by_cases h2 : k = i
    · subst h2
      simp
    · rw [if_neg h2, hr i hi]
      by_cases h3 : i < k ∨ l.length ≤ i + k
      · rw [if_pos h3, if_pos (by omega)]
      · rw [if_neg h3, if_neg (by omega)]
theorem RevIn.get_lo {l r : List UInt8} {k : Nat} (h : RevIn l r k) (hk : k + k + 1 < l.length) (h' : k < r.length) : r[k] = l[k]'(by omega) := by
  rw [h.2 k (by omega), if_neg (by omega)]
theorem RevIn.get_hi {l r : List UInt8} {k : Nat} (h : RevIn l r k) (hk : k + k + 1 < l.length) (h' : l.length - 1 - k < r.length) : r[l.length - 1 - k] = l[l.length - 1 - k]'(by omega) := by
  rw [h.2 _ (by omega), if_neg (by omega)]
theorem RevIn.swap {l r : List UInt8} {k j : Nat} (h : RevIn l r k) (hj : j + k + 1 = l.length) (hkj : k < j) :
    ∃ x y, (∃ h : k < r.length, r[k] = x) ∧ (∃ h : j < r.length, r[j] = y) ∧ RevIn l ((r.set k y).set j x) (k + 1) := by
  obtain rfl : j = l.length - 1 - k := by omega
  have hl := h.1
  exact ⟨_, _, ⟨by omega, h.get_lo (by omega) (by omega)⟩, ⟨by omega, h.get_hi (by omega) (by omega)⟩, h.step (by omega)⟩
theorem RevIn.done {l r : List UInt8} {k : Nat} (h : RevIn l r k) (hk : l.length ≤ k + k + 1) : r = l.reverse := by
  obtain ⟨hlen, hr⟩ := h
  refine List.ext_getElem (by simpa using hlen) fun i h1 h2 => ?_
  rw [hr i (by omega), List.getElem_reverse]
  by_cases h3 : i < k ∨ l.length ≤ i + k
  · rw [if_pos h3]
  · rw [if_neg h3]
    congr 1
    omega
set_option maxHeartbeats 1000000 in
theorem reverse_any (g n cap : Nat) (l : List UInt8) (hl : l.length = n) (hn : n ≤ 1099511627776) (w : World) (hr : BRow w g l) :
    Calls Tryz.prog 180 #[.slice (some ⟨g, 0, none⟩) n cap] w fun e w' => e = .returned (.tuple #[]) ∧ BRow w' g l.reverse ∧ Below g w w' := by
  subst hl
  go_enter Tryz.func180, Tryz.ntmps180
  go_wp2
  go_loopw [2, 3] (fun i j wr => ∃ (k : Nat) (r : List UInt8), k ≤ l.length ∧ i = .int .i64 k ∧ j = .int .i64 ((l.length : Int) - 1 - (k : Int)) ∧ RevIn l r k ∧ BRow wr g r ∧ Below g w wr) (fun i _ _ => l.length - (intOf i).toNat)
  case atStart => exact ⟨0, l, Nat.zero_le _, rfl, by go_num, RevIn.zero l, hr, Below.refl _ _⟩
  case round =>
    obtain ⟨k, r, hk, rfl, rfl, hrev, hrow, hbel⟩ := hrel
    have hrl : r.length = l.length := hrev.1
    by_cases hlt : k + k + 1 < l.length
    · obtain ⟨j, hj⟩ : ∃ j, j + k + 1 = l.length := ⟨l.length - 1 - k, by omega⟩
      have ej : ((l.length : Int) - 1 - (k : Int)) = (j : Int) := by omega
      obtain ⟨x, y, ⟨hk1, hx⟩, ⟨hj1, hy⟩, hst⟩ := hrev.swap hj (by omega)
      have c1 := hrow.cell k hk1
      have c2 := hrow.cell j hj1
      rw [hx] at c1
      rw [hy] at c2
      have f1 := hrow.free k hk1
      have f2 := hrow.free j hj1
      have hrow2 := (hrow.set k y).set j x
      have hbel2 := (hbel.setCell (p := ⟨g, k, none⟩) (Nat.le_refl _) (.int .u8 (y.toNat : Int))).setCell (p := ⟨g, j, none⟩) (Nat.le_refl _) (.int .u8 (x.toNat : Int))
      rw [ej]
      have hkj : k < j := by omega
      have hjl : j < l.length := by omega
      clear hrow ej hx hy hrev
      go_wp2
      go_region
      go_wp2
      go_roundw
      case rel => exact ⟨k + 1, _, by omega, by go_num, by go_num, hst, hrow2.drew, hbel2.drew⟩
      case measure => simp [intOf]; omega
    · go_wp2
      go_end0
      have := hrev.done (by omega)
      subst this
      exact ⟨rfl, hrow, hbel⟩
theorem reverse_nil (w : World) : Calls Tryz.prog 180 #[.slice none 0 0] w fun e w' => e = .returned (.tuple #[]) ∧ w = w' := by
  go_enter Tryz.func180, Tryz.ntmps180
  go_wp2
  go_loopw [2, 3] (fun i j wr => i = .int .i64 0 ∧ j = .int .i64 (-1) ∧ w = wr) (fun i _ _ => 0)
  case atStart => exact ⟨rfl, by go_num, rfl⟩
  case round =>
    obtain ⟨rfl, rfl, rfl⟩ := hrel
    go_wp2
    go_end0
    exact ⟨rfl, rfl⟩
set_option maxHeartbeats 400000 in
theorem turnedRound_row (g n cap : Nat) (l : List UInt8) (hl : l.length = n) (hn : n ≤ 1099511627776) (w : World) (hr : BRow w g l) :
    Calls Tryz.prog 175 #[.slice (some ⟨g, 0, none⟩) n cap] w fun e w' => e = .returned (.string (bs l.reverse)) ∧ Below g w w' := by
  subst hl
  go_enter Tryz.func175, Tryz.ntmps175
  go_wp2_with fail
  refine (reverse_any g l.length cap l rfl hn _ hr).mono ?_
  rintro e w1 ⟨rfl, hrow, hb⟩
  have hcv := run_string_row (P := Tryz.prog) w1 130 9 5 Tryz.underlying130 Tryz.underlying5 Tryz.underlying9 g l.length cap _ (by simp) hrow
  rw [List.take_of_length_le (by simp)] at hcv
  go_wp2
  go_ret
  exact ⟨rfl, hb⟩
theorem turnedRound_nil (w : World) : Calls Tryz.prog 175 #[.slice none 0 0] w fun e w' => e = .returned (.string (bs [])) ∧ w = w' := by
  have hcv := run_convert_bytes_nil (P := Tryz.prog) w 130 5 Tryz.underlying130 Tryz.underlying5 0 0 9 Tryz.underlying9
  go_enter Tryz.func175, Tryz.ntmps175
  go_wp2_with fail
  refine (reverse_nil _).mono ?_
  rintro e w1 ⟨rfl, rfl⟩
  go_wp2
  go_ret
  exact ⟨rfl, rfl⟩
theorem turnedRound_own (base : Nat) (v : Value) (acc : List UInt8) (ha : acc.length ≤ 1099511627776) (w : World) (h : BOwn 5 w base v acc) :
    Calls Tryz.prog 175 #[v] w fun e w' => e = .returned (.string (bs acc.reverse)) ∧ Below base w w' := by
  rcases h.form with ⟨rfl, rfl⟩ | ⟨g, cap, rfl, hb, _, _, hr⟩
  · refine (turnedRound_nil w).mono ?_
    rintro e w' ⟨rfl, rfl⟩
    exact ⟨rfl, Below.refl _ _⟩
  · refine (turnedRound_row g _ cap acc rfl ha w hr).mono ?_
    rintro e w' ⟨rfl, hb'⟩
    exact ⟨rfl, hb'.mono hb⟩
theorem u64_wrap (x : Int) : IntKind.u64.wrap x = x % 18446744073709551616 := by simp [IntKind.wrap, IntKind.signed, IntKind.bits]
def ofE (i : Int) : Ending := .returned (numV (decide (i < 0)) (bs (lowD i.natAbs).reverse))
structure OnlyAt (g : Nat) (w w' : World) : Prop where
  os : w'.os = w.os
  tape : w'.tape = w.tape
  output : w'.output = w.output
  size : w'.heap.size = w.heap.size
  block : ∀ k, k ≠ g → w'.heap[k]? = w.heap[k]?
theorem OnlyAt.refl (g : Nat) (w : World) : OnlyAt g w w := ⟨rfl, rfl, rfl, rfl, fun _ _ => rfl⟩
theorem OnlyAt.setCell {g : Nat} {a w : World} (h : OnlyAt g a w) (o : Nat) (v : Value) : OnlyAt g a (w.setCell ⟨g, o, none⟩ v) :=
  ⟨h.os, h.tape, h.output, by simp [h.size], fun k hk => (Below.heap_setCell w ⟨g, o, none⟩ v k hk).trans (h.block k hk)⟩
theorem OnlyAt.below {g : Nat} {w w' : World} (h : OnlyAt g w w') : Below g w w' := ⟨h.os, h.tape, h.output, Nat.le_of_eq h.size.symm, fun k hk => h.block k (by omega)⟩
theorem OnlyAt.own {g : Nat} {w w' : World} (h : OnlyAt g w w') {e : TypeId} {base : Nat} {v : Value} {acc : List UInt8} (ho : BOwn e w base v acc) (hb : g < base) : BOwn e w' base v acc := by
  obtain ⟨h1, h2⟩ := ho
  refine ⟨h1, ?_⟩
  rcases h2 with h2 | ⟨k, cap, cur, h3, h4, h5, h6⟩
  · exact .inl h2
  · exact .inr ⟨k, cap, cur, h3, h4, by rw [h.block k (by omega)]; exact h5, h6⟩
set_option maxHeartbeats 1000000 in
theorem split_any (g off n cap : Nat) (pre l : List UInt8) (hp : pre.length = off) (hl : l.length = n) (hn : n ≤ 1000000) (_ho : off ≤ 1000000) (w : World) (hr : BRow w g (pre ++ l)) :
    Calls Tryz.prog 174 #[.slice (some ⟨g, off, none⟩) n cap] w fun e w' => e = .returned (.int .u64 ((divL 1000000000 0 l).2 : Int)) ∧ BRow w' g (pre ++ (divL 1000000000 0 l).1) ∧ OnlyAt g w w' := by
  obtain ⟨⟨q, C⟩, hqC⟩ : ∃ z, divL 1000000000 0 l = z := ⟨_, rfl⟩
  have hqn := divL_length 1000000000 l 0
  rw [hqC] at hqn ⊢
  simp only at hqn ⊢
  go_enter Tryz.func174, Tryz.ntmps174
  go_wp2
  go_loopw [3, 8] (fun x i wr => ∃ k c : Nat, k ≤ n ∧ i = .int .i64 k ∧ x = .int .u64 c ∧ c < 1000000000 ∧ Hid (divL 1000000000 c (l.drop k) = (q.drop k, C)) ∧ BRow wr g (pre ++ (q.take k ++ l.drop k)) ∧ OnlyAt g w wr) (fun _ i _ => n - (intOf i).toNat)
  case atStart => exact ⟨0, 0, Nat.zero_le _, rfl, rfl, by omega, by simpa [Hid] using hqC, by simpa using hr, OnlyAt.refl _ _⟩
  case round =>
    obtain ⟨k, c, hk, rfl, rfl, hc, HQ, hrow, honly⟩ := hrel
    by_cases hlt : k < n
    · obtain ⟨x, hx, hkl⟩ : ∃ x, l[k]'(by omega) = x ∧ l.drop k = x :: l.drop (k + 1) := ⟨_, rfl, List.drop_eq_getElem_cons (by omega)⟩
      have hx255 := x.toNat_lt
      have hq := HQ.out
      rw [hkl, divL, Prod.mk.injEq, List.drop_eq_getElem_cons (show k < q.length by omega), List.cons.injEq] at hq
      obtain ⟨⟨hq1, hq2⟩, hq3⟩ := hq
      have HQ2 : Hid (divL 1000000000 ((c * 256 + x.toNat) % 1000000000) (l.drop (k + 1)) = (q.drop (k + 1), C)) := Prod.ext hq2 hq3
      have hmix := mix_length (a := q) (l := l) hqn k (by omega)
      have hg := mix_get hqn k (by omega) (by omega)
      rw [hx] at hg
      have hcell := hrow.cell (off + k) (by rw [List.length_append]; omega)
      rw [List.getElem_append_right (by omega)] at hcell
      simp only [hp, Nat.add_sub_cancel_left] at hcell
      rw [hg] at hcell
      have hfr := hrow.free (off + k) (by rw [List.length_append]; omega)
      have hst := hrow.set (off + k) (q[k]'(by omega))
      rw [List.set_append_right _ _ (by omega), hp, Nat.add_sub_cancel_left, mix_set hqn k (by omega), ← hq1, UInt8.toNat_ofNat_of_lt' (show (c * 256 + x.toNat) / 1000000000 < 256 by omega)] at hst
      have hon := honly.setCell (off + k) (.int .u8 (((c * 256 + x.toNat) / 1000000000 : Nat) : Int))
      clear hrow hmix hg hq1 hq2 hq3 hkl HQ hqC
      go_wp2
      go_roundw
      case rel => exact ⟨k + 1, (c * 256 + x.toNat) % 1000000000, by omega, by go_num, by go_num, by omega, HQ2, hst, hon⟩
      case measure => simp [intOf]; omega
    · obtain rfl : k = n := by omega
      have hq := HQ.out
      rw [List.drop_of_length_le (by omega), divL] at hq
      obtain rfl : c = C := (Prod.mk.injEq .. ▸ hq).2
      rw [List.take_of_length_le (by omega), List.drop_of_length_le (by omega), List.append_nil] at hrow
      clear HQ hq hqC
      go_wp2
      go_ret
      exact ⟨rfl, hrow, honly⟩
end Go.Proofs.YtcbjnifoojjipaaGreatDoor
