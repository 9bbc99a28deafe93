/- What nat.Check, turned, strings.Clone, the heads and nat.Put do (contracts; nothing is claimed here). -/
import Derived.Test.YtdmdnhlmfailaaaGive
import Derived.Test.YtdmdnhlmfailaaaConv
import Derived.Test.YtdmdnhlmfailaaaMathN
namespace Go.Proofs.Ytdmdnhlmfailaaa
open Go.RowKit Go.Vf

theorem info5 : (Try.prog.info? 5).map (fun i => (i.zero, i.size, i.bytes)) = some (some (.int .u8 0), 1, 1) := by kernel_rfl
theorem size5 (w : World) : (Go.sizeOf 5).run Try.prog w = .ok 1 w := by kernel_rfl
theorem cells5 : Try.prog.cellsOf 5 = 1 := by kernel_rfl

theorem flip_toNat (x : UInt8) : ((255 - x).toNat : Int) = 255 - (x.toNat : Int) := by
  have := x.toNat_lt
  rw [UInt8.toNat_sub_of_le _ _ (by rw [UInt8.le_iff_toNat_le]; have : (255 : UInt8).toNat = 255 := rfl; omega)]
  have : (255 : UInt8).toNat = 255 := rfl
  omega

set_option maxHeartbeats 400000 in
theorem turned_any (s : ByteArray) (w : World) (hs : s.size ≤ 17179869184) :
    Calls Try.prog 30 #[.string s] w fun e w' => e = .returned (.string (bs (flipL s.data.toList))) ∧ Below w.heap.size w w' := by
  obtain ⟨cap, wc, hcv, hcap, hrow0, hbel0, hsz0⟩ := run_bytes_ex (P := Try.prog) w 9 60 5 s Try.underlying9 Try.underlying60 Try.underlying5
  have hl : s.data.toList.length = s.size := (Lib.size_eq s).symm
  go_enter Try.func30, Try.ntmps30
  go_wp2
  clear hcv
  go_loopw [9] (fun i wr => ∃ k : Nat, k ≤ s.size ∧ i = .int .i64 k ∧ BRow wr w.heap.size ((flipL s.data.toList).take k ++ s.data.toList.drop k) ∧ Below w.heap.size w wr) (fun i _ => s.size - (intOf i).toNat)
  case atStart => exact ⟨0, Nat.zero_le _, rfl, by simpa using hrow0, hbel0⟩
  case round =>
    obtain ⟨k, hk, rfl, hrow, hbel⟩ := hrel
    by_cases hlt : k < s.size
    · have hkl : k < s.data.toList.length := by omega
      have hfl := flipL_length s.data.toList
      have hlen := mix_length hfl k (by omega)
      have hb := s[k].toNat_lt
      have hc := hrow.cell k (by omega)
      rw [mix_get hfl k hkl (by omega), show s.data.toList[k] = s[k] from rfl] at hc
      have hf := hrow.free k (by omega)
      have hnew := hrow.set k ((flipL s.data.toList)[k]'(by omega))
      rw [mix_set hfl k hkl, show (flipL s.data.toList)[k]'(by omega) = 255 - s[k] by simp [flipL]; rfl, flip_toNat] at hnew
      have HB := hbel.setCell (p := ⟨w.heap.size, k, none⟩) (Nat.le_refl _) (.int .u8 (255 - (s[k].toNat : Int)))
      clear hrow hlen
      go_wp2
      go_roundw
      case rel => exact ⟨k + 1, by omega, by go_num, hnew, HB⟩
      case measure => simp [intOf]; omega
    · have hk' : k = s.size := by omega
      subst hk'
      have hcv := run_string_row (P := Try.prog) wr 60 9 5 Try.underlying60 Try.underlying5 Try.underlying9 w.heap.size s.size cap _ (by simp [flipL_length]) hrow
      have hfull : List.take s.size ((flipL s.data.toList).take s.size ++ s.data.toList.drop s.size) = flipL s.data.toList := by
        rw [List.drop_of_length_le (by omega), List.append_nil, List.take_take, Nat.min_self, List.take_of_length_le (by rw [flipL_length, ← Lib.size_eq]; exact Nat.le_refl _)]
      rw [hfull] at hcv
      go_wp2
      go_ret
      exact ⟨rfl, hbel⟩

theorem shape_setCell (g : Nat) (w : World) (a : Addr) (v : Value) : (w.setCell a v).shape? g = w.shape? g := by
  unfold World.shape? World.setCell
  simp only [Array.getElem?_modify]
  by_cases h : a.block = g
  · rw [if_pos h]
    cases w.heap[g]? with
    | none => rfl
    | some o =>
      cases o with
      | cells c e f => by_cases hs : a.spot.isSome = true <;> simp [hs]
      | _ => rfl
  · rw [if_neg h]
theorem shape_setCells (g : Nat) : ∀ (vs : List Value) (b o : Nat) (w : World), (w.setCells b o vs).shape? g = w.shape? g
  | [], _, _, _ => rfl
  | v :: r, b, o, w => by rw [World.setCells, shape_setCells g r b (o + 1), shape_setCell]

set_option maxHeartbeats 400000 in
theorem sclone_any (s : ByteArray) (w : World) (hs : s.size ≤ 17179869184) :
    Calls Try.prog 55 #[.string s] w fun e w' => e = .returned (.string s) ∧ Below w.heap.size w w' := by
  by_cases h0 : s.size = 0
  · obtain rfl : s = bs [] := data_inj (by rw [bs_data]; exact List.eq_nil_of_length_eq_zero (by rw [← Lib.size_eq]; exact h0))
    go_enter Try.func55, Try.ntmps55
    go_wp2
    go_ret
    exact ⟨rfl, Below.refl _ _⟩
  · have hl : s.data.toList.length = s.size := (Lib.size_eq s).symm
    have hmk : ∀ w : World, (Instr.makeSlice 60 (.int .i64 (s.size : Int)) (.int .i64 (s.size : Int))).run Try.prog w = .ok (.slice (some ⟨w.heap.size, 0, none⟩) s.size s.size) (w.alloc (.cells (madeCells #[.int .u8 0] s.size) 5)) := fun w =>
      run_make_row' (P := Try.prog) 60 5 (.int .u8 0) 1 Try.underlying60 info5 rfl .i64 .i64 s.size (by omega) (by omega) w
    have hm := BRow.made w s.size 5
    have hcp := run_copy_str (P := Try.prog) _ 60 9 3 5 w.heap.size s.size 0 s _ (by simp) (Nat.zero_le _) Try.underlying60 size5 hm
    have hp := hm.put 0 s.data.toList (by simp [hl])
    rw [cutV_zero, Nat.sub_zero, Nat.min_self, List.take_of_length_le (by omega)] at hcp
    have hsh := shape_setCells w.heap.size (cellsL s.data.toList) w.heap.size 0 (w.alloc (.cells (madeCells #[.int .u8 0] s.size) 5))
    rw [show (w.alloc (.cells (madeCells #[.int .u8 0] s.size) 5)).shape? w.heap.size = some (5, (madeCells #[Value.int .u8 0] s.size).size) by unfold World.shape?; rw [heap_alloc_new]] at hsh
    have hb := below_setCells w.heap.size (Nat.le_refl _) (cellsL s.data.toList) 0 ((Below.refl w.heap.size w).alloc (Nat.le_refl _) (.cells (madeCells #[.int .u8 0] s.size) 5))
    have e1 : (List.take 0 (List.replicate s.size (0 : UInt8)) ++ (s.data.toList ++ List.drop (0 + s.data.toList.length) (List.replicate s.size (0 : UInt8)))) = s.data.toList := by simp [hl]
    rw [e1] at hp
    have hms : (madeCells #[Value.int .u8 0] s.size).size = s.size := by rw [size_madeCells]
    generalize (w.alloc (.cells (madeCells #[.int .u8 0] s.size) 5)).setCells w.heap.size 0 (cellsL s.data.toList) = w2 at hcp hp hsh hb
    have hus := run_unsafe_row (P := Try.prog) w2 73 3 9 5 Try.underlying73 cells5 w.heap.size _ hsh s.data.toList (fun h => h0 (by rw [← hl, h]; rfl)) (by omega) (by omega) hp
    rw [bs_of, hl] at hus
    clear hm hp hsh e1 hms
    go_enter Try.func55, Try.ntmps55
    go_wp2
    go_ret
    exact ⟨rfl, Lib.below_freeze hb (p := ⟨w.heap.size, 0, none⟩) (Nat.le_refl _) _⟩

theorem clone_any (s : ByteArray) (w : World) (hs : s.size ≤ 17179869184) :
    Calls Try.prog 47 #[.string s] w fun e w' => e = .returned (.string s) ∧ Below w.heap.size w w' := by
  go_enter Try.func47, Try.ntmps47
  go_wp2_with fail
  refine (sclone_any s _ hs).mono ?_
  rintro e w1 ⟨rfl, hb⟩
  go_wp2
  go_ret
  exact ⟨rfl, hb⟩

def turnB (b : Bool) (l : List UInt8) : List UInt8 := if b then flipL l else l
/-- A magnitude of so many bytes, at least one. -/
def tkMag (l : List UInt8) (k : Nat) (b : Bool) : Except Nat (List UInt8) :=
  match l with
  | [] => .error 0
  | x :: r => if x.toNat = (if b then 255 else 0) then .error 0 else if k ≤ (x :: r).length then .ok (turnB b ((x :: r).take k)) else .error (x :: r).length
def magE (a : Nat) : Except Nat (List UInt8) → Ending
  | .ok m => .returned (.string (bs m))
  | .error n => lost 20 ((a + n : Nat) : Int)

set_option maxHeartbeats 1000000 in
theorem takeMag_any (s : ByteArray) (a k : Nat) (b : Bool) (ha : a ≤ s.size) (hk : k ≤ 255) (hk0 : 0 < k) (hs : s.size ≤ 17179869184) (w : World) :
    Calls Try.prog 35 #[.string s, .int .i64 (a : Int), .int .i64 (k : Int), .bool b] w fun e w' => e = magE a (tkMag (s.data.toList.drop a) k b) ∧ Below w.heap.size w w' := by
  have hl : s.data.toList.length = s.size := (Lib.size_eq s).symm
  by_cases h1 : a < s.size
  · have hb := s[a].toNat_lt
    have hlen : (s[a] :: s.data.toList.drop (a + 1)).length = s.size - a := by rw [← drop_at s a h1]; simp [hl]
    by_cases hF : s[a].toNat = (if b then 255 else 0)
    · have hR : magE a (tkMag (s.data.toList.drop a) k b) = lost 20 (a : Int) := by rw [drop_at s a h1]; simp [tkMag, magE, hF]
      rw [hR]
      clear hR
      cases b
      all_goals
        simp at hF
        go_enter Try.func35, Try.ntmps35
        go_wp2_with fail
        refine (takeByte_ok s a _ rfl h1 hs _).mono ?_
        rintro e w1 ⟨rfl, rfl⟩
        go_wp2_with fail
        refine (need_no _ _ _ (by simp <;> omega)).mono ?_
        rintro e w1 ⟨rfl, rfl⟩
        go_wp2
        exact ⟨rfl, rfl, Below.refl _ _⟩
    · by_cases h2 : k ≤ s.size - a
      · have hex : (s.extract a (a + k)).data.toList = (s.data.toList.drop a).take k := by simp
        have hsz : (s.extract a (a + k)).size = k := by rw [Lib.size_eq, hex]; simp [hl]; omega
        have hR : magE a (tkMag (s.data.toList.drop a) k b) = .returned (.string (bs (turnB b (s.extract a (a + k)).data.toList))) := by rw [hex, drop_at s a h1, ← drop_at s a h1]; simp only [drop_at s a h1, tkMag, hF, if_false, hlen, h2, if_true, magE]
        rw [hR]
        clear hR hex
        cases b
        · simp at hF
          go_enter Try.func35, Try.ntmps35
          go_wp2_with fail
          refine (takeByte_ok s a _ rfl h1 hs _).mono ?_
          rintro e w1 ⟨rfl, rfl⟩
          go_wp2_with fail
          refine (need_ok _ _ _ (by simp <;> omega)).mono ?_
          rintro e w1 ⟨rfl, rfl⟩
          go_wp2_with fail
          refine (need_ok _ _ _ (by simp; omega)).mono ?_
          rintro e w1 ⟨rfl, rfl⟩
          go_wp2_with fail
          refine (clone_any _ _ (by omega)).mono ?_
          rintro e w1 ⟨rfl, hb1⟩
          go_wp2
          go_ret
          refine ⟨?_, hb1⟩
          rw [show turnB false (s.extract a (a + k)).data.toList = (s.extract a (a + k)).data.toList from rfl, bs_of]
          rfl
        · simp at hF
          go_enter Try.func35, Try.ntmps35
          go_wp2_with fail
          refine (takeByte_ok s a _ rfl h1 hs _).mono ?_
          rintro e w1 ⟨rfl, rfl⟩
          go_wp2_with fail
          refine (need_ok _ _ _ (by simp <;> omega)).mono ?_
          rintro e w1 ⟨rfl, rfl⟩
          go_wp2_with fail
          refine (need_ok _ _ _ (by simp; omega)).mono ?_
          rintro e w1 ⟨rfl, rfl⟩
          go_wp2_with fail
          refine (turned_any _ _ (by omega)).mono ?_
          rintro e w1 ⟨rfl, hb1⟩
          go_wp2
          go_ret
          refine ⟨?_, hb1⟩
          simp [turnB]
      · have hR : magE a (tkMag (s.data.toList.drop a) k b) = lost 20 (s.size : Int) := by
          rw [drop_at s a h1]
          simp only [tkMag, hF, if_false, hlen, h2, magE]
          rw [show a + (s.size - a) = s.size by omega]
        rw [hR]
        clear hR
        cases b
        all_goals
          simp at hF
          go_enter Try.func35, Try.ntmps35
          go_wp2_with fail
          refine (takeByte_ok s a _ rfl h1 hs _).mono ?_
          rintro e w1 ⟨rfl, rfl⟩
          go_wp2_with fail
          refine (need_ok _ _ _ (by simp <;> omega)).mono ?_
          rintro e w1 ⟨rfl, rfl⟩
          go_wp2_with fail
          refine (need_no _ _ _ (by simp; omega)).mono ?_
          rintro e w1 ⟨rfl, rfl⟩
          go_wp2
          exact ⟨rfl, rfl, Below.refl _ _⟩
  · have e0 : s.size = a := by omega
    have hR : magE a (tkMag (s.data.toList.drop a) k b) = lost 20 (s.size : Int) := by rw [drop_end s a (by omega)]; simp [tkMag, magE, e0]
    rw [hR]
    clear hR e0
    cases b
    all_goals
      go_enter Try.func35, Try.ntmps35
      go_wp2_with fail
      refine (takeByte_no s a _ rfl (by omega) hs _).mono ?_
      rintro e w1 ⟨rfl, rfl⟩
      go_wp2
      exact ⟨rfl, rfl, Below.refl _ _⟩

/-- A number as the model holds it. -/
abbrev numV (b : Bool) (m : ByteArray) : Value := .agg #[.bool b, .string m]
/-- Check's answer. -/
def chk (b : Bool) (m : List UInt8) : Int := if 255 < m.length then 21 else if (m.isEmpty && b) || m.head? == some 0 then 20 else 0

set_option maxHeartbeats 400000 in
theorem check_any (b : Bool) (m : ByteArray) (hm : m.size ≤ 17179869184) (w : World) :
    Calls Try.prog 12 #[numV b m] w fun e w' => e = .returned (.int .i64 (chk b m.data.toList)) ∧ Below w.heap.size w w' := by
  have hl : m.data.toList.length = m.size := (Lib.size_eq m).symm
  have hbel := (Below.refl w.heap.size w).alloc (Nat.le_refl _) (.cells #[.bool b, .string m] 26)
  by_cases h1 : 255 < m.size
  · have hR : chk b m.data.toList = 21 := by simp [chk, hl, h1]
    rw [hR]
    go_enter Try.func12, Try.ntmps12
    go_wp2
    go_ret
    exact ⟨rfl, hbel⟩
  · by_cases h2 : m.size = 0
    · have hn : m.data.toList = [] := List.eq_nil_of_length_eq_zero (by omega)
      have he : m.toList.isEmpty = true := by rw [ByteArray.toList_eq, hn]; rfl
      rw [hn]
      clear hn hl
      cases b
      all_goals
        go_enter Try.func12, Try.ntmps12
        go_wp2
        go_ret
        exact ⟨rfl, hbel⟩
    · have he : m.toList.isEmpty = false := by
        rw [ByteArray.toList_eq]
        cases h : m.data.toList with
        | nil => rw [h] at hl; exact absurd hl.symm h2
        | cons x r => rfl
      have h0 : 0 < m.size := by omega
      obtain ⟨r, hd⟩ : ∃ r, m.data.toList = m[0] :: r := ⟨_, (List.drop_zero (l := m.data.toList)).symm.trans (drop_at m 0 h0)⟩
      by_cases h3 : m[0] = 0
      · have hR : chk b m.data.toList = 20 := by
          have h4 : ¬ 255 < m.data.toList.length := by omega
          rw [hd] at h4 ⊢
          simp only [chk, h4, if_false]
          simp [h3]
        have hx : (m[0].toNat : Int) = 0 := by rw [h3]; rfl
        rw [hR]
        clear hR h3 hd
        go_enter Try.func12, Try.ntmps12
        go_wp2
        go_ret
        exact ⟨rfl, hbel⟩
      · have hR : chk b m.data.toList = 0 := by
          have h4 : ¬ 255 < m.data.toList.length := by omega
          rw [hd] at h4 ⊢
          simp only [chk, h4, if_false]
          simp [h3]
        have hx : ¬ (m[0].toNat : Int) = 0 := fun h => h3 (UInt8.toNat_inj.1 (by simpa using h))
        rw [hR]
        clear hR h3 hd
        go_enter Try.func12, Try.ntmps12
        go_wp2
        go_ret
        exact ⟨rfl, hbel⟩
end Go.Proofs.Ytdmdnhlmfailaaa
