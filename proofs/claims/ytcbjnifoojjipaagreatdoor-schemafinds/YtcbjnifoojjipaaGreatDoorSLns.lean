/- What strings.Lines tells (contracts; nothing is claimed here). -/
import Derived.Test.YtcbjnifoojjipaaGreatDoorSRng
import Derived.Test.YtcbjnifoojjipaaGreatDoorSWrd
namespace Go.Proofs.YtcbjnifoojjipaaGreatDoor
open Go.RowKit Go.Vf Go.Shelf
attribute [local go_sem] Oper.semAt_some
def linesN : Nat → List UInt8 → List (List UInt8)
  | 0, _ => []
  | n + 1, s => if s.isEmpty then [] else if 0 ≤ Lib.indexByte s 10 then s.take ((Lib.indexByte s 10).toNat + 1) :: linesN n (s.drop ((Lib.indexByte s 10).toNat + 1)) else [s]
def linesL (s : List UInt8) : List (List UInt8) := linesN s.length s
theorem linesN_more (n : Nat) : ∀ m s, s.length ≤ n → n ≤ m → linesN m s = linesN n s := by
  induction n with
  | zero =>
    intro m s h _
    have : s = [] := List.eq_nil_of_length_eq_zero (by omega)
    subst this
    cases m <;> rfl
  | succ n ih =>
    intro m s h hm
    obtain ⟨m, rfl⟩ : ∃ k, m = k + 1 := ⟨m - 1, by omega⟩
    rw [linesN, linesN]
    split
    · rfl
    · split
      · rw [ih m _ (by rw [List.length_drop]; omega) (by omega)]
      · rfl
theorem linesL_nil : linesL [] = [] := rfl
theorem linesL_some {s : List UInt8} {k : Nat} (h : Lib.indexByte s 10 = (k : Int)) (hk : k < s.length) : linesL s = s.take (k + 1) :: linesL (s.drop (k + 1)) := by
  unfold linesL
  cases s with
  | nil => simp at hk
  | cons x t =>
    rw [List.length_cons, linesN, h, if_neg (by simp), if_pos (by omega), Int.toNat_natCast]
    congr 1
    refine linesN_more _ _ _ (Nat.le_refl _) ?_
    rw [List.length_drop, List.length_cons]; omega
theorem linesL_none {s : List UInt8} (h : Lib.indexByte s 10 = -1) (hs : s ≠ []) : linesL s = [s] := by
  unfold linesL
  cases s with
  | nil => exact absurd rfl hs
  | cons x t => rw [List.length_cons, linesN, h, if_neg (by simp), if_neg (by decide)]
theorem indexByte_range (s : List UInt8) (c : UInt8) : Lib.indexByte s c = -1 ∨ ∃ k : Nat, Lib.indexByte s c = (k : Int) ∧ k < s.length := by
  induction s with
  | nil => exact .inl rfl
  | cons b l ih =>
    rw [Lib.indexByte]
    split
    · exact .inr ⟨0, rfl, by simp⟩
    · rcases ih with h | ⟨k, h, hk⟩
      · rw [h]; exact .inl rfl
      · rw [h, if_neg (by simp)]
        exact .inr ⟨k + 1, by omega, by simp only [List.length_cons]; omega⟩
theorem linesN_len (n : Nat) : ∀ s, (linesN n s).length ≤ n ∧ ∀ l ∈ linesN n s, l.length ≤ s.length := by
  induction n with
  | zero => intro s; exact ⟨Nat.le_refl _, fun l h => by cases h⟩
  | succ n ih =>
    intro s
    rw [linesN]
    split
    · exact ⟨by simp, fun l h => by cases h⟩
    · split
      · obtain ⟨h1, h2⟩ := ih (s.drop ((Lib.indexByte s 10).toNat + 1))
        refine ⟨by simp only [List.length_cons]; omega, fun l h => ?_⟩
        rcases List.mem_cons.1 h with rfl | h
        · rw [List.length_take]; omega
        · have := h2 l h
          rw [List.length_drop] at this
          omega
      · refine ⟨by simp, fun l h => ?_⟩
        rw [List.mem_singleton] at h
        subst h
        exact Nat.le_refl _
theorem linesL_len (s : List UInt8) : (linesL s).length ≤ s.length ∧ ∀ l ∈ linesL s, l.length ≤ s.length := linesN_len _ s
def lenAt (w : World) (B : Nat) : Nat := match w.cell? ⟨B, 0, none⟩ with
  | some (.string s) => s.size
  | _ => 0
theorem lenAt_of {w : World} {B : Nat} {s : List UInt8} (h : Blk w B 9 #[.string (bs s)]) : lenAt w B = s.length := by
  have := h.cell 0
  simp only [List.getElem?_toArray, List.getElem?_cons_zero] at this
  rw [lenAt, this]
  simp [bs_size]
set_option maxRecDepth 100000 in
set_option maxHeartbeats 1000000 in
theorem lines1_in (n : Nat) (_hn : 1 ≤ n) (Bs : Nat) (s : List UInt8) (hs : s.length ≤ 65536) (w : World) (hB : Blk w Bs 9 #[.string (bs s)]) : TellsAll n Tryz.prog 96 Bs (fun l : List UInt8 => .string (bs l)) (linesL s) w := by
  intro l J W hbel hJ hY h0
  have hBW := hB.old hbel
  clear hB hbel
  refine callsIn_of_wp Tryz.func96 rfl trivial ?_ rfl
  simp only [Tryz.ntmps96, List.size_toArray, List.length_cons, List.length_nil, Nat.reduceAdd, Nat.reduceSub, Array.replicate_succ, Array.replicate_zero, List.push_toArray, List.append_toArray, List.nil_append, List.cons_append]
  gi_wp2
  gi_loopw [] (fun wr => ∃ (pre : List (List UInt8)) (rest : List UInt8), Hid (linesL s = pre ++ linesL rest) ∧ rest.length ≤ 65536 ∧ J pre wr ∧ Blk wr Bs 9 #[.string (bs rest)]) (fun wr => lenAt wr Bs)
  case atStart => exact ⟨[], s, rfl, hs, h0, hBW⟩
  case round =>
    obtain ⟨pre, rest, HP, hr, hJr, hB⟩ := hrel
    have c0 : wr.cell? ⟨Bs, 0, none⟩ = some (.string (bs rest)) := hB.cell 0
    have f0 : wr.frozen? ⟨Bs, 0, none⟩ = false := hB.frozen 0
    have HB : Hid (Blk wr Bs 9 #[.string (bs rest)]) := hB
    have HLA : Hid (lenAt wr Bs = rest.length) := lenAt_of hB
    have hBl := hB.lt
    clear hB hBW h0
    by_cases hz : rest.length = 0
    · have hnil : rest = [] := List.eq_nil_of_length_eq_zero hz
      subst hnil
      gi_wp2
      go_end0
      refine ⟨⟨_, rfl⟩, ?_⟩
      have := HP.out
      rw [linesL_nil, List.append_nil] at this
      rw [this]
      exact hJr
    · obtain ⟨S, hS⟩ : ∃ S, bs rest = S := ⟨_, rfl⟩
      have HS : Hid (bs rest = S) := hS
      have hSz : S.size = rest.length := by rw [← hS, bs_size]
      have hSd : S.data.toList = rest := by rw [← hS, bs_data]
      have hix := Tryz.strings_IndexByte S 10 wr
      rw [hSd, show (10 : Int).toNat.toUInt8 = 10 from rfl] at hix
      have hSp : 0 < S.size := by omega
      have hSm : S.size ≤ 65536 := by omega
      have HSz : Hid (S.size = rest.length) := hSz
      have HSd : Hid (S.data.toList = rest) := hSd
      rw [hS] at c0
      have hne : rest ≠ [] := fun e => hz (by rw [e]; rfl)
      clear hS hSz hSd hz
      rcases indexByte_range rest 10 with hi | ⟨k, hi, hk⟩
      · have HL : Hid (linesL rest = [rest]) := linesL_none hi hne
        rw [hi] at hix
        have hJ5 : J pre (wr.setCell ⟨Bs, 0, none⟩ (.string ⟨#[]⟩)) := hJ _ _ _ hJr (Oth.set Bs 0 wr _)
        have hB5 := HB.out.set 0 (.string ⟨#[]⟩)
        obtain ⟨fn, tmps, assign, body, hy, hR⟩ := hY pre rest _ hJ5 ⟨[], by rw [HP.out, HL.out, List.append_nil]⟩
        rw [HS.out] at hy
        clear hi hJ5
        gi_wp2
        refine ⟨trivial, (callsIn_wide.2 hix).mono ?_⟩
        rintro e w2 ⟨rfl, rfl⟩
        clear hix
        gi_wp2
        refine hR.mono ?_
        rintro e W6 ⟨rfl, hJ6, hk6⟩
        have hB6 : Blk W6 Bs 9 #[.string (bs [])] := hk6.trans hB5
        have HLA6 : Hid (lenAt W6 Bs = 0) := lenAt_of hB6
        gi_wp2
        go_roundw
        case rel => exact ⟨pre ++ [rest], [], by show _ = _; rw [HP.out, HL.out, linesL_nil, List.append_nil], by simp, hJ6, hB6⟩
        case measure =>
          have h1 := HLA6.out
          have h2 := HLA.out
          have h3 := HSz.out
          omega
      · have HL : Hid (linesL rest = rest.take (k + 1) :: linesL (rest.drop (k + 1))) := linesL_some hi hk
        rw [hi] at hix
        have HSz2 := HSz.out
        have hk1 : k + 1 ≤ S.size := by omega
        have e1 : S.extract 0 (k + 1) = bs (rest.take (k + 1)) := data_inj (by rw [Lib.extract_data, HSd.out, bs_data]; simp)
        have e2 : S.extract (k + 1) S.size = bs (rest.drop (k + 1)) := data_inj (by rw [Lib.extract_data, HSd.out, bs_data]; exact List.take_of_length_le (by rw [List.length_drop, HSz.out]; exact Nat.le_refl _))
        have hJ5 : J pre (wr.setCell ⟨Bs, 0, none⟩ (.string (bs (rest.drop (k + 1))))).drew := hJ _ _ _ hJr ((Oth.set Bs 0 wr _).trans (Oth.of (B := Bs) ((Below.refl _ _).drew)))
        have hB5 : Blk (wr.setCell ⟨Bs, 0, none⟩ (.string (bs (rest.drop (k + 1))))).drew Bs 9 #[.string (bs (rest.drop (k + 1)))] := HB.out.set 0 (.string (bs (rest.drop (k + 1))))
        obtain ⟨fn, tmps, assign, body, hy, hR⟩ := hY pre (rest.take (k + 1)) _ hJ5 ⟨linesL (rest.drop (k + 1)), by rw [HP.out, HL.out, List.append_assoc]; rfl⟩
        have hkl : Hid (k < rest.length) := hk
        have HE1 : Hid (S.extract 0 (k + 1) = bs (rest.take (k + 1))) := e1
        have HE2 : Hid (S.extract (k + 1) S.size = bs (rest.drop (k + 1))) := e2
        clear hi hJ5 HSz2 hk e1 e2
        gi_wp2
        refine ⟨trivial, (callsIn_wide.2 hix).mono ?_⟩
        rintro e w2 ⟨rfl, rfl⟩
        clear hix
        gi_wp2
        refine wpIn_wide.2 ?_
        go_region
        go_wp2
        rw [HE1.out, HE2.out]
        gi_wp2
        refine hR.mono ?_
        rintro e W6 ⟨rfl, hJ6, hk6⟩
        have hB6 : Blk W6 Bs 9 #[.string (bs (rest.drop (k + 1)))] := hk6.trans hB5
        have HLA6 : Hid (lenAt W6 Bs = (rest.drop (k + 1)).length) := lenAt_of hB6
        have hr6 : (rest.drop (k + 1)).length ≤ 65536 := by rw [List.length_drop]; omega
        clear hB5 hk6
        gi_wp2
        go_roundw
        case rel => exact ⟨pre ++ [rest.take (k + 1)], rest.drop (k + 1), by show _ = _; rw [HP.out, HL.out, List.append_assoc]; rfl, hr6, hJ6, hB6⟩
        case measure =>
          have h1 := HLA6.out
          have h2 := HLA.out
          have h3 := hkl.out
          rw [List.length_drop] at h1
          omega
set_option maxHeartbeats 1000000 in
theorem lines_in (n : Nat) (s : ByteArray) (w : World) :
    CallsIn Fence.wide n Tryz.prog 75 #[.string s] w fun e w' => e = .returned (.func (.func 96) #[] #[.pointer (some ⟨w.heap.size, 0, none⟩)]) ∧ w' = w.alloc (.cells #[.string s] 9) := by
  refine callsIn_of_wp Tryz.func75 rfl trivial ?_ rfl
  simp only [Tryz.ntmps75, List.size_toArray, List.length_cons, List.length_nil, Nat.reduceAdd, Nat.reduceSub, Array.replicate_succ, Array.replicate_zero, List.push_toArray, List.append_toArray, List.nil_append, List.cons_append]
  gi_wp2
  go_ret
  exact ⟨rfl, rfl⟩
end Go.Proofs.YtcbjnifoojjipaaGreatDoor
