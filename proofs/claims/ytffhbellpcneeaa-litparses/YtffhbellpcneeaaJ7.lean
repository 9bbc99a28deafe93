/- What lit's small readers do: need, skip, undigit, digits, spelt (contracts; nothing is claimed here). · What lit's digits and spelt do (contracts; nothing is claimed here). · What lit's meant does (contracts; nothing is claimed here). -/
import Derived.Test.YtffhbellpcneeaaLHex
import Derived.Test.YtffhbellpcneeaaVMem
import Derived.Lib.Bytealg
import Derived.Laws.StandIn
namespace Go.Proofs.Ytffhbellpcneeaa
open Go.RowKit Go.Vf

/-- What a printer or a reader of lit gives up with. -/
abbrev lostL (why at_ : Int) : Ending := .panicked [{ v := .iface 60 (.agg #[.int .i64 why, .int .i64 at_]), recovered := false }]

theorem need_yes (i : Int) (w : World) : Calls Try.prog 31 #[.bool true, .int .i64 i] w fun e w' => e = .returned (.tuple #[]) ∧ w = w' := by
  go_enter Try.func31, Try.ntmps31
  go_wp2
  go_end0
  exact ⟨rfl, rfl⟩
theorem need_not (i : Int) (w : World) : Calls Try.prog 31 #[.bool false, .int .i64 i] w fun e w' => e = lostL 100 i ∧ w = w' := by
  go_enter Try.func31, Try.ntmps31
  go_wp2
  exact ⟨rfl, rfl, rfl⟩

theorem hasPre_any (s p : ByteArray) (w : World) (hs : s.size ≤ 17179869184) (hp : p.size ≤ 17179869184) :
    Calls Try.prog 87 #[.string s, .string p] w fun e w' => e = .returned (.bool (p.data.toList.isPrefixOf s.data.toList)) ∧ w = w' := by
  generalize hB : p.data.toList.isPrefixOf s.data.toList = B
  go_enter Try.func87, Try.ntmps87
  go_wp2_with fail
  refine (hasPrefix_any s p _ hs hp).mono ?_
  rintro e w1 ⟨rfl, rfl⟩
  rw [hB]
  go_wp2
  go_ret
  exact ⟨rfl, rfl⟩

theorem index_call (s : ByteArray) (c : Int) (w : World) : (callFunc 96 #[.string s, .int .u8 c]).run Try.prog w = .ok (.value (.int .i64 (Lib.indexByte s.data.toList c.toNat.toUInt8))) w := by
  rw [run_callFunc_indexByte (f := 96) (P := Try.prog) (fn := Try.f96) Try.func96 (by kernel_rfl) (by kernel_rfl) (by kernel_rfl) (by kernel_rfl), Lib.run_indexByteString]
  rfl
theorem indexByte_any (s : ByteArray) (c : Int) (w : World) : Calls Try.prog 81 #[.string s, .int .u8 c] w fun e w' => e = .returned (.int .i64 (Lib.indexByte s.data.toList c.toNat.toUInt8)) ∧ w = w' := by
  have h91 : Calls Try.prog 91 #[.string s, .int .u8 c] w fun e w' => e = .returned (.int .i64 (Lib.indexByte s.data.toList c.toNat.toUInt8)) ∧ w = w' := by
    have h := index_call s c
    generalize Lib.indexByte s.data.toList c.toNat.toUInt8 = R at h ⊢
    go_enter Try.func91, Try.ntmps91
    go_wp2
    go_ret
    exact ⟨rfl, rfl⟩
  generalize Lib.indexByte s.data.toList c.toNat.toUInt8 = R at h91 ⊢
  go_enter Try.func81, Try.ntmps81
  go_wp2_with fail
  refine h91.mono ?_
  rintro e w1 ⟨rfl, rfl⟩
  go_wp2
  go_ret
  exact ⟨rfl, rfl⟩

abbrev sixteenB : ByteArray := ⟨#[48, 49, 50, 51, 52, 53, 54, 55, 56, 57, 97, 98, 99, 100, 101, 102]⟩
abbrev tenB : ByteArray := ⟨#[48, 49, 50, 51, 52, 53, 54, 55, 56, 57]⟩
def digI (c : UInt8) : Int := if isHex c then (hexV c : Int) else -1
theorem index_hex (c : UInt8) : Lib.indexByte sixteenB.data.toList c = digI c := by
  have := all_bytes (P := fun c => Lib.indexByte [48, 49, 50, 51, 52, 53, 54, 55, 56, 57, 97, 98, 99, 100, 101, 102] c == digI c) (by kernel_rfl) c
  exact beq_iff_eq.1 this
theorem index_ten (c : UInt8) : decide (0 ≤ Lib.indexByte tenB.data.toList c) = isDig c := by
  have := all_bytes (P := fun c => decide (0 ≤ Lib.indexByte [48, 49, 50, 51, 52, 53, 54, 55, 56, 57] c) == isDig c) (by kernel_rfl) c
  exact beq_iff_eq.1 this
theorem index_sixteen (c : UInt8) : decide (0 ≤ Lib.indexByte sixteenB.data.toList c) = isHex c := by
  have := all_bytes (P := fun c => decide (0 ≤ Lib.indexByte [48, 49, 50, 51, 52, 53, 54, 55, 56, 57, 97, 98, 99, 100, 101, 102] c) == isHex c) (by kernel_rfl) c
  exact beq_iff_eq.1 this
theorem dig_wrap (c : UInt8) : IntKind.u8.wrap (digI c) = (hexV c : Int) := by
  have := all_bytes (P := fun c => IntKind.u8.wrap (digI c) == (hexV c : Int)) (by kernel_rfl) c
  exact beq_iff_eq.1 this
theorem undigit_any (c : UInt8) (w : World) : Calls Try.prog 86 #[.int .u8 (c.toNat : Int)] w fun e w' => e = .returned (.int .u8 (hexV c : Int)) ∧ w = w' := by
  have h := indexByte_any sixteenB (c.toNat : Int) w
  rw [show ((c.toNat : Int).toNat.toUInt8) = c by simp, index_hex] at h
  have h2 := dig_wrap c
  generalize digI c = D at h h2
  generalize hexV c = V at h2 ⊢
  go_enter Try.func86, Try.ntmps86
  go_wp2_with fail
  refine h.mono ?_
  rintro e w1 ⟨rfl, rfl⟩
  go_wp2
  go_ret
  exact ⟨rfl, rfl⟩
end Go.Proofs.Ytffhbellpcneeaa

namespace Go.Proofs.Ytffhbellpcneeaa
open Go.RowKit Go.Vf
theorem lowbits (c : UInt8) : bits BinOp.and IntKind.u8 (c.toNat : Int) 15 = ((c.toNat % 16 : Nat) : Int) := by
  have := all_bytes (P := fun c => bits BinOp.and IntKind.u8 (c.toNat : Int) 15 == ((c.toNat % 16 : Nat) : Int)) (by kernel_rfl) c
  exact beq_iff_eq.1 this
theorem hexD_at (n : Nat) (h : n < 16) : (sixteenB[n]'h) = hexD n := by
  have : ((List.range 16).all fun n => sixteenB[n]! == hexD n) = true := by kernel_rfl
  have := beq_iff_eq.1 (List.all_eq_true.1 this n (List.mem_range.2 h))
  rw [← this]
  rw [getElem!_pos sixteenB n h]
theorem run_cells_drew (w : World) (l : List UInt8) (cs : Array Value) (hcs : cs = (cellsL l).toArray) (n c : Nat) (hn : n = l.length) :
    (convert 61 9 (.slice (some ⟨w.heap.size, 0, none⟩) n c)).run Try.prog (w.alloc (.cells cs 5)).drew = .ok (.string (bs l)) (w.alloc (.cells cs 5)).drew := by
  subst hcs hn
  have hr : BRow (w.alloc (.cells (cellsL l).toArray 5)) w.heap.size l := by
    have hg := heap_alloc_new w (.cells (cellsL l).toArray 5)
    refine ⟨fun j hj => ?_, fun j hj => ?_⟩
    · simp only [World.cell?, hg]
      simp [cellsL, hj]
    · simp only [World.frozen?, hg]
      simp
  have := run_string_row (P := Try.prog) (w.alloc (.cells (cellsL l).toArray 5)).drew 61 9 5 Try.underlying61 Try.underlying5 Try.underlying9 w.heap.size l.length c l (Nat.le_refl _) hr.drew
  rwa [List.take_length] at this
theorem digits_any (c : UInt8) (w : World) : Calls Try.prog 80 #[.int .u8 (c.toNat : Int)] w fun e w' => e = .returned (.string (bs (hex2 c))) ∧ Below w.heap.size w w' := by
  have h1 := lowbits c
  have h2 : (c.toNat : Int) / 16 = ((c.toNat / 16 : Nat) : Int) := by omega
  have b1 : c.toNat / 16 < 16 := by have := c.toNat_lt; omega
  have b2 : c.toNat % 16 < 16 := by omega
  have g1 := hexD_at _ b1
  have g2 := hexD_at _ b2
  have hR : hex2 c = [hexD (c.toNat / 16), hexD (c.toNat % 16)] := rfl
  rw [hR]
  generalize c.toNat / 16 = H at *
  generalize c.toNat % 16 = L at *
  generalize hexD H = x at *
  generalize hexD L = y at *
  have hcv := run_cells_drew w [x, y] #[.int .u8 x.toNat, .int .u8 y.toNat] rfl
  clear hR
  go_enter Try.func80, Try.ntmps80
  go_wp2
  go_region
  go_wp2
  go_ret
  exact ⟨rfl, ((Below.refl _ _).alloc (Nat.le_refl _) _).drew⟩
theorem u8_eq (a b : UInt8) (h : a = b) : ((a.toNat : Int) == (b.toNat : Int)) = true := by subst h; simp
theorem u8_ne (a b : UInt8) (h : a ≠ b) : ((a.toNat : Int) == (b.toNat : Int)) = false := by
  rw [beq_eq_false_iff_ne]; intro e; exact h (UInt8.toNat.inj (by omega))
theorem u8_eqn (a : UInt8) (n : Nat) (hn : n < 256) (h : a = UInt8.ofNat n) : ((a.toNat : Int) == (n : Int)) = true := by
  subst h; rw [UInt8.toNat_ofNat_of_lt' (by simpa using hn)]; simp
theorem u8_nen (a : UInt8) (n : Nat) (h : a ≠ UInt8.ofNat n) : ((a.toNat : Int) == (n : Int)) = false := by
  rw [beq_eq_false_iff_ne]; intro e
  have e' : a.toNat = n := by omega
  exact h (by rw [← e']; simp)
set_option maxHeartbeats 400000 in
theorem spelt_any (q c : UInt8) (w : World) : Calls Try.prog 74 #[.int .u8 (c.toNat : Int), .int .u8 (q.toNat : Int)] w fun e w' => e = .returned (.string (bs (spelt q c))) ∧ Below w.heap.size w w' := by
  by_cases h1 : c = q
  · have t1 := u8_eq c q h1
    have hR : spelt q c = [92, c] := by rw [spelt, if_pos (.inl h1)]
    rw [hR]
    have hcv := run_string_cells (P := Try.prog) w 61 9 5 Try.underlying61 Try.underlying5 Try.underlying9 [92, c] #[.int .u8 92, .int .u8 c.toNat] rfl
    clear h1 hR
    go_enter Try.func74, Try.ntmps74
    go_wp2
    go_ret
    exact ⟨rfl, (Below.refl _ _).alloc (Nat.le_refl _) _⟩
  have t1 := u8_ne c q h1
  by_cases h2 : c = 92
  · have t2 : ((c.toNat : Int) == 92) = true := u8_eqn c 92 (by omega) h2
    have hR : spelt q c = [92, c] := by rw [spelt, if_pos (.inr h2)]
    rw [hR]
    have hcv := run_string_cells (P := Try.prog) w 61 9 5 Try.underlying61 Try.underlying5 Try.underlying9 [92, c] #[.int .u8 92, .int .u8 c.toNat] rfl
    clear h1 h2 hR
    go_enter Try.func74, Try.ntmps74
    go_wp2
    go_ret
    exact ⟨rfl, (Below.refl _ _).alloc (Nat.le_refl _) _⟩
  have t2 : ((c.toNat : Int) == 92) = false := u8_nen c 92 h2
  by_cases h3 : 32 ≤ c.toNat ∧ c.toNat ≤ 126
  · have hR : spelt q c = [c] := by rw [spelt, if_neg (by rintro (h | h) <;> contradiction), if_pos h3]
    rw [hR]
    have t3 : decide ((32 : Int) ≤ (c.toNat : Int)) = true := decide_eq_true (by omega)
    have t4 : decide ((c.toNat : Int) ≤ 126) = true := decide_eq_true (by omega)
    have hcv := run_string_cells (P := Try.prog) w 61 9 5 Try.underlying61 Try.underlying5 Try.underlying9 [c] #[.int .u8 c.toNat] rfl
    clear h1 h2 h3 hR
    go_enter Try.func74, Try.ntmps74
    go_wp2
    go_ret
    exact ⟨rfl, (Below.refl _ _).alloc (Nat.le_refl _) _⟩
  · have hR : spelt q c = 92 :: 120 :: hex2 c := by rw [spelt, if_neg (by rintro (h | h) <;> contradiction), if_neg h3]
    rw [hR]
    have hd := digits_any c w
    have hz : (bs (hex2 c)).size = 2 := by rw [bs_size]; rfl
    have hcat : (⟨#[92, 120]⟩ : ByteArray) ++ bs (hex2 c) = bs (92 :: 120 :: hex2 c) := rfl
    generalize bs (hex2 c) = R at hd hz hcat
    generalize bs (92 :: 120 :: hex2 c) = R2 at hcat ⊢
    by_cases h4 : 32 ≤ c.toNat
    · have t3 : decide ((32 : Int) ≤ (c.toNat : Int)) = true := decide_eq_true (by omega)
      have t4 : decide ((c.toNat : Int) ≤ 126) = false := decide_eq_false (by omega)
      clear h1 h2 h3 hR h4
      go_enter Try.func74, Try.ntmps74
      go_wp2_with fail
      refine hd.mono ?_
      rintro _ w1 ⟨rfl, hb⟩
      go_wp2
      go_ret
      exact ⟨rfl, hb⟩
    · have t3 : decide ((32 : Int) ≤ (c.toNat : Int)) = false := decide_eq_false (by omega)
      clear h1 h2 h3 hR h4
      go_enter Try.func74, Try.ntmps74
      go_wp2_with fail
      refine hd.mono ?_
      rintro _ w1 ⟨rfl, hb⟩
      go_wp2
      go_ret
      exact ⟨rfl, hb⟩
end Go.Proofs.Ytffhbellpcneeaa

namespace Go.Proofs.Ytffhbellpcneeaa
open Go.RowKit Go.Vf
theorem undigit_q (c : UInt8) (w : World) : Calls Try.prog 86 #[.int .u8 (c.toNat : Int)] w fun e w' => e = .returned (.int .u8 (hexV c : Int)) ∧ w' = w := (undigit_any c w).mono fun _ _ h => ⟨h.1, h.2.symm⟩
def hexVals : List Nat := 255 :: List.range 16
theorem hexV_mem (c : UInt8) : hexV c ∈ hexVals := by
  have := all_bytes (P := fun c => hexVals.contains (hexV c)) (by kernel_rfl) c
  exact List.contains_iff_mem.1 this
theorem or_unh (a b : UInt8) : bits BinOp.or IntKind.u8 (IntKind.u8.wrap ((hexV a : Int) * 16)) (hexV b : Int) = ((unh a b).toNat : Int) := by
  have h : (hexVals.all fun x => hexVals.all fun y => bits BinOp.or IntKind.u8 (IntKind.u8.wrap ((x : Int) * 16)) (y : Int) == ((UInt8.ofNat ((x * 16 % 256) ||| y)).toNat : Int)) = true := by kernel_rfl
  have := List.all_eq_true.1 (List.all_eq_true.1 h _ (hexV_mem a)) _ (hexV_mem b)
  exact beq_iff_eq.1 this
theorem list_of (s : ByteArray) (k : Nat) (hk : k < s.size) : s.data.toList.drop k = s[k] :: s.data.toList.drop (k + 1) := drop_at s k hk
theorem meant_esc (s : ByteArray) (h4 : 4 ≤ s.size) (h0 : s[0] = 92) (h1 : s[1] = 120) : meant s.data.toList = unh s[2] s[3] := by
  have e := list_of s 0 (by omega)
  rw [List.drop_zero, list_of s 1 (by omega), list_of s 2 (by omega), list_of s 3 (by omega), h0, h1] at e
  rw [e]; rfl
theorem meant_two (s : ByteArray) (h2 : 2 ≤ s.size) (h0 : s[0] = 92) (h1 : s[1] ≠ 120 ∨ s.size < 4) : meant s.data.toList = s[1] := by
  have e := list_of s 0 (by omega)
  rw [List.drop_zero, list_of s 1 (by omega), h0] at e
  have hl : s.data.toList.length = s.size := (Lib.size_eq s).symm
  have hl2 : (s.data.toList.drop 2).length = s.size - 2 := by rw [List.length_drop, hl]
  rw [e]
  unfold meant
  split
  · rename_i a b r e2
    simp only [List.cons.injEq, true_and] at e2
    rcases h1 with h1 | h1
    · exact absurd e2.1 h1
    · rw [e2.2] at hl2; simp at hl2; omega
  · rename_i e2; simp only [List.cons.injEq, true_and] at e2; exact e2.1.symm
  · rename_i h3 e2
    simp only [List.cons.injEq] at e2
    exact (h3 s[1] (s.data.toList.drop 2) e2.1.symm e2.2.symm).elim
  · rename_i e2; simp at e2
theorem meant_one (s : ByteArray) (h1 : 1 ≤ s.size) (h0 : s[0] ≠ 92 ∨ s.size < 2) : meant s.data.toList = s[0] := by
  have e := list_of s 0 (by omega)
  have hl : s.data.toList.length = s.size := (Lib.size_eq s).symm
  have hl2 : (s.data.toList.drop 1).length = s.size - 1 := by rw [List.length_drop, hl]
  rw [List.drop_zero] at e
  simp only [Nat.zero_add] at e
  rw [e]
  unfold meant
  split
  · rename_i e2
    simp only [List.cons.injEq] at e2
    rcases h0 with h0 | h0
    · exact absurd e2.1 h0
    · rw [e2.2] at hl2; simp at hl2; omega
  · rename_i e2
    simp only [List.cons.injEq] at e2
    rcases h0 with h0 | h0
    · exact absurd e2.1 h0
    · rw [e2.2] at hl2; simp at hl2; omega
  · rename_i e2; simp only [List.cons.injEq] at e2; exact e2.1.symm
  · rename_i e2; simp at e2
set_option maxHeartbeats 800000 in
theorem meant_any (s : ByteArray) (hs : s.size ≤ 65536) (w : World) : Calls Try.prog 73 #[.string s] w fun e w' => e = .returned (.int .u8 ((meant s.data.toList).toNat : Int)) ∧ ∃ n, w' = w.drewN n := by
  by_cases h1 : 1 ≤ s.size
  · have te : s.toList.isEmpty = false := by
      rw [ByteArray.toList_eq]
      cases hh : s.data.toList with
      | nil => exfalso; have := Lib.size_eq s; rw [hh] at this; simp at this; rw [this] at h1; simp at h1
      | cons _ _ => rfl
    have i0 : 0 < s.size := by omega
    by_cases hz : s[0] = 92
    · have t0 : (((s[0]).toNat : Int) == 92) = true := u8_eqn _ 92 (by omega) hz
      by_cases h2 : 2 ≤ s.size
      · by_cases h4 : 4 ≤ s.size
        · by_cases hx : s[1] = 120
          · have t1 : (((s[1]).toNat : Int) == 120) = true := u8_eqn _ 120 (by omega) hx
            rw [meant_esc s h4 hz hx]
            have ho := or_unh s[2] s[3]
            have i2 : 2 < s.size := by omega
            have i3 : 3 < s.size := by omega
            have j2 : (2 : Int) < (s.size : Int) := by omega
            have j3 : (3 : Int) < (s.size : Int) := by omega
            clear hz hx te
            go_enter Try.func73, Try.ntmps73
            go_wp2_with fail
            go_quiet (first | (go_at_call 86; refine Calls.quiet_of_same (undigit_q _ _)))
            go_wp2
            go_ret
            exact ⟨rfl, _, rfl⟩
          · have t1 : (((s[1]).toNat : Int) == 120) = false := u8_nen _ 120 hx
            rw [meant_two s h2 hz (.inl hx)]
            clear hz hx te
            go_enter Try.func73, Try.ntmps73
            go_wp2
            go_ret
            exact ⟨rfl, 0, rfl⟩
        · rw [meant_two s h2 hz (.inr (by omega))]
          clear hz te
          go_enter Try.func73, Try.ntmps73
          go_wp2
          go_ret
          exact ⟨rfl, 0, rfl⟩
      · rw [meant_one s h1 (.inr (by omega))]
        clear hz
        go_enter Try.func73, Try.ntmps73
        go_wp2
        go_ret
        exact ⟨rfl, 0, rfl⟩
    · have t0 : (((s[0]).toNat : Int) == 92) = false := u8_nen _ 92 hz
      rw [meant_one s h1 (.inl hz)]
      clear hz
      by_cases h4 : 4 ≤ s.size
      · go_enter Try.func73, Try.ntmps73
        go_wp2
        go_ret
        exact ⟨rfl, 0, rfl⟩
      by_cases h2 : 2 ≤ s.size
      · go_enter Try.func73, Try.ntmps73
        go_wp2
        go_ret
        exact ⟨rfl, 0, rfl⟩
      · go_enter Try.func73, Try.ntmps73
        go_wp2
        go_ret
        exact ⟨rfl, 0, rfl⟩
  · have hz : s = ⟨#[]⟩ := by
      obtain ⟨⟨l⟩⟩ := s
      cases l with
      | nil => rfl
      | cons a r => simp [ByteArray.size] at h1
    subst hz
    go_enter Try.func73, Try.ntmps73
    go_wp2
    go_ret
    exact ⟨rfl, 0, rfl⟩
end Go.Proofs.Ytffhbellpcneeaa
