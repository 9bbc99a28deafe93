/- What appendMark does (a contract; nothing is claimed here). -/
import Derived.Test.YtpmckfmjegehgaaGreatDoorPut
import Derived.Lib.ItoaLen
namespace Go.Proofs.YtpmckfmjegehgaaGreatDoor
open Go.RowKit Go.Vf Go.Maps

/-- The two tables lie below a base. -/
structure Tb (w : World) (base : Nat) : Prop where
  h6 : 6 < base
  tz : w.cell? ⟨6, 15, none⟩ = some (.int .u8 4)
  pow : Lib.TabBelow Tryz.prog base w "internal/strconv.uint64pow10" .u64 Lib.pow10Tab
theorem Tb.below {w w' : World} {base : Nat} (h : Tb w base) (hb : Below base w w') : Tb w' base := ⟨h.h6, (hb.cell (p := ⟨6, 15, none⟩) h.h6).trans h.tz, h.pow.on hb⟩
theorem Tb.up {w : World} {base base' : Nat} (h : Tb w base) (hb : base ≤ base') : Tb w base' := ⟨Nat.lt_of_lt_of_le h.h6 hb, h.tz, fun w' hw => h.pow w' (hw.mono hb)⟩

/-- A mark's line. -/
def joinS : List Nat → List UInt8
  | [] => []
  | [u] => pointS u
  | u :: r => pointS u ++ 32 :: joinS r
def markS (u c : Nat) (us : List Nat) : List UInt8 := pointS u ++ [59] ++ Lib.itoa (c : Int) ++ [59] ++ joinS us
theorem joinS_step (us : List Nat) : ∀ (k : Nat) (hk : k < us.length), joinS (us.take (k + 1)) = joinS (us.take k) ++ (if 0 < k then [32] else []) ++ pointS us[k] := by
  have key : ∀ (l : List Nat) (x : Nat), l ≠ [] → joinS (l ++ [x]) = joinS l ++ [32] ++ pointS x := by
    intro l
    induction l with
    | nil => intro x h; exact absurd rfl h
    | cons a r ih =>
      intro x _
      cases r with
      | nil => simp [joinS]
      | cons b t =>
        have := ih x (by simp)
        simp only [List.cons_append] at this ⊢
        rw [joinS, this]
        · simp [joinS]
        · simp
  intro k hk
  rw [List.take_succ_eq_append_getElem hk]
  by_cases h0 : k = 0
  · subst h0; simp [joinS]
  · rw [key _ _ (fun e => by
      have h1 : (us.take k).length = k := by rw [List.length_take]; omega
      rw [e] at h1
      exact h0 h1.symm), if_pos (by omega)]

theorem pointS_len (u : Nat) (hu : u ≤ 1114111) : (pointS u).length ≤ 6 ∧ 4 ≤ (pointS u).length := by
  have := hexLow_len u 6 (by omega) (by omega)
  unfold pointS upHex
  rw [List.length_append, List.length_replicate, toUpperA_len]
  omega
theorem itoa_len (c : Nat) (hc : c ≤ 254) : (Lib.itoa (c : Int)).length ≤ 21 := Lib.itoa_length_le _ (by omega) (by omega)
theorem joinS_len : ∀ (us : List Nat), (∀ u ∈ us, u ≤ 1114111) → (joinS us).length ≤ 7 * us.length := by
  intro us
  induction us with
  | nil => simp [joinS]
  | cons a r ih =>
    intro h
    have h1 := pointS_len a (h a (by simp))
    have h2 := ih (fun u hu => h u (by simp [hu]))
    cases r with
    | nil => simp [joinS]; omega
    | cons b t => rw [joinS]; · simp at h2 ⊢; omega
                  · simp

theorem KO.of_others {w w' : World} (h : Lib.OthersKept 5 none w w') : KO w w' := fun j t cs ht hj => h j _ hj (by simp) (fun c fz e => by
  simp only [Obj.cells.injEq] at e
  exact ht e.2.1)

set_option maxHeartbeats 4000000 in
set_option maxRecDepth 20000 in
theorem appendMark_any (base n₀ u c : Nat) (us : List Nat) (hu : u ≤ 1114111) (hc : c ≤ 254) (hus : ∀ q ∈ us, q ≤ 1114111) (hul : us.length ≤ 65536) (v : Value) (acc : List UInt8) (a : Option Addr) (k cap : Nat) (w : World) (hown : BOwn 5 w base v acc) (hacc : acc.length ≤ 100000) (hbase : base ≤ w.heap.size) (htb : Tb w base)
    (hn₀ : n₀ ≤ base) (hin : Ints n₀ w (.slice a k cap) (us.map fun q : Nat => (q : Int))) :
    Calls Tryz.prog 58 #[v, .agg #[.int .i64 (u : Int), .int .i64 (c : Int), .slice a k cap]] w fun e w' => ∃ v', e = .returned v' ∧ BOwn 5 w' base v' (acc ++ markS u c us) ∧ Below base w w' ∧ base ≤ w'.heap.size ∧ KO w w' := by
  obtain ⟨a', c', he⟩ := hin.val
  simp only [Value.slice.injEq, List.length_map] at he
  have HK : Hid (k = us.length) := he.2.1
  have hkl : k ≤ 65536 := by rw [he.2.1]; exact hul
  clear he
  have hb0 := (Below.refl base w).alloc hbase (.cells #[.int .i64 (u : Int), .int .i64 (c : Int), .slice a k cap] 36)
  have hbn := Blk.new w 36 #[.int .i64 (u : Int), .int .i64 (c : Int), .slice a k cap]
  have hown0 : BOwn 5 (w.alloc (.cells #[.int .i64 (u : Int), .int .i64 (c : Int), .slice a k cap] 36)) base v acc := BOwn.alloc hown _
  have hko0 := (KO.refl w).alloc (.cells #[.int .i64 (u : Int), .int .i64 (c : Int), .slice a k cap] 36)
  have hsz0 : base ≤ (w.alloc (.cells #[.int .i64 (u : Int), .int .i64 (c : Int), .slice a k cap] 36)).heap.size := by simp; omega
  go_enter Tryz.func58, Tryz.ntmps58
  go_upto_region 1 with fail
  generalize w.alloc (.cells #[.int .i64 (u : Int), .int .i64 (c : Int), .slice a k cap] 36) = W at hb0 hbn hown0 hsz0 hko0 ⊢
  have e0 : W.cell? ⟨w.heap.size, 0, none⟩ = some (.int .i64 (u : Int)) := hbn.cell 0
  have htb0 := htb.below hb0
  go_wp2_with fail
  refine (appendPoint_any u base hu v acc W hown0 (by omega) hsz0 htb0.h6 htb0.tz).mono ?_
  rintro e w1 ⟨v1, rfl, hown1, hb1, hsz1, hko1⟩
  have hpl := pointS_len u hu
  have hbn1 := hko1 _ _ _ (by decide) hbn
  have e1 : w1.cell? ⟨w.heap.size, 1, none⟩ = some (.int .i64 (c : Int)) := hbn1.cell 1
  have hl1 : (acc ++ pointS u).length ≤ 1099511627776 := by simp; omega
  go_wp2_with (first | (at_builtin; refine wpList_append_byteK rfl _ _ rfl base _ (acc ++ pointS u) rfl hown1 59 _ rfl _ rfl hl1 hsz1 w1 (Below.refl _ _) (KO.refl _) ?_; intro v2 w2 hown2 hb2 hsz2 hko2; have hbn2 := hko2 _ _ _ (by decide) hbn1; have e2 : w2.cell? ⟨w.heap.size, 1, none⟩ = some (.int .i64 (c : Int)) := hbn2.cell 1))
  have htb2 := (htb0.below hb1).below hb2
  have hil := itoa_len c hc
  refine (Tryz.strconv_AppendInt_10 base _ (c : Int) (by omega) (by omega) v2 _ w2 hown2 hsz2 (by simp; omega) htb2.pow).mono ?_
  rintro e w3 ⟨v3, rfl, hown3', hb3, hok3⟩
  have hko3 := KO.of_others hok3
  have hown3 : BOwn 5 w3 base v3 (((acc ++ pointS u) ++ [59]) ++ Lib.itoa (c : Int)) := by
    generalize (acc ++ pointS u) ++ [59] = hd0 at hown3' ⊢
    unfold BOwn
    rw [List.length_append]
    have e : cellsL (hd0 ++ Lib.itoa (c : Int)) = cellsL hd0 ++ Lib.byteCells (Lib.itoa (c : Int)) := by simp [cellsL, Lib.byteCells]
    rw [e]
    exact hown3'
  have hsz3 : base ≤ w3.heap.size := Nat.le_trans hsz2 hb3.size
  have hbn3 := hko3 _ _ _ (by decide) hbn2
  have hl3 : (((acc ++ pointS u) ++ [59]) ++ Lib.itoa (c : Int)).length ≤ 1099511627776 := by simp; omega
  clear hown3' hok3
  go_wp2_with (first | (at_builtin; refine wpList_append_byteK rfl _ _ rfl base _ (((acc ++ pointS u) ++ [59]) ++ Lib.itoa (c : Int)) rfl hown3 59 _ rfl _ rfl hl3 hsz3 w3 (Below.refl _ _) (KO.refl _) ?_; intro v4 w4 hown4 hb4 hsz4 hko4; have hbn4 := hko4 _ _ _ (by decide) hbn3; have e4 : w4.cell? ⟨w.heap.size, 2, none⟩ = some (.slice a k cap) := hbn4.cell 2))
  have hbel4 : Below base w w4 := (((hb0.trans hb1).trans hb2).trans hb3).trans hb4
  have hkoo4 : KO w w4 := (((hko0.trans hko1).trans hko2).trans hko3).trans hko4
  have HM : Hid (acc ++ markS u c us = ((((acc ++ pointS u) ++ [59]) ++ Lib.itoa (c : Int)) ++ [59]) ++ joinS us) := by show _ = _; simp [markS]
  have hhl : ((((acc ++ pointS u) ++ [59]) ++ Lib.itoa (c : Int)) ++ [59]).length ≤ 200000 := by simp; omega
  generalize (((acc ++ pointS u) ++ [59]) ++ Lib.itoa (c : Int)) ++ [59] = hd at hown4 HM hhl
  clear hown0 hown1 hown2 hown3 hbn hbn1 hbn2 hbn3 e0 e1 e2 htb0 htb2 hko0 hko1 hko2 hko3 hko4 hb0 hb1 hb2 hb3 hb4
  go_loopw [0, 22] (fun v i wr => ∃ (j : Nat), i = .int .i64 j ∧ j ≤ k ∧ BOwn 5 wr base v (hd ++ joinS (us.take j)) ∧ Below base w wr ∧ base ≤ wr.heap.size ∧ Hid (KO w wr)) (fun _ i _ => k - (intOf i).toNat)
  case atStart => exact ⟨0, rfl, by omega, by simpa [joinS] using hown4, hbel4, hsz4, hkoo4⟩
  case round =>
    obtain ⟨j, rfl, hj, hown, hbel, hsz, HKO⟩ := hrel
    clear hown4 hbel4 hsz4 hkoo4
    by_cases hlt : j < k
    · have hltp : j < us.length := by rw [← HK.out]; exact hlt
      have hstep := joinS_step us j hltp
      have hq := hus _ (List.getElem_mem hltp)
      have hjl := joinS_len (us.take j) (fun x hx => hus x (List.mem_of_mem_take hx))
      have hjl2 : (us.take j).length = j := by rw [List.length_take]; omega
      obtain ⟨bp, op, hao, hnk, hblt, hcell⟩ := (hin.below hbel hn₀).cell (fun e => by have := congrArg List.length e; simp at this; rw [this] at hltp; simp at hltp)
      have hcj := hcell j (by simpa using hltp)
      rw [show (us.map fun q : Nat => (q : Int))[j]?.getD 0 = (us[j] : Int) by simp [List.getElem?_eq_getElem hltp]] at hcj
      generalize us[j] = q at hcj hq hstep
      generalize joinS (us.take j) = js at hown hstep hjl
      subst hao
      have htbr := htb.below hbel
      clear hcell hnk
      by_cases hj0 : 0 < j
      · rw [if_pos hj0] at hstep
        have HS : Hid (hd ++ joinS (us.take (j + 1)) = ((hd ++ js) ++ [32]) ++ pointS q) := by show _ = _; rw [hstep]; simp
        have hl5 : (hd ++ js).length ≤ 1099511627776 := by simp; omega
        clear hstep
        go_wp2_with (first | (at_builtin; refine wpList_append_byteK rfl _ _ rfl base _ (hd ++ js) rfl hown 32 _ rfl _ rfl hl5 hsz w hbel HKO.out ?_; intro v5 w5 hown5 hb5 hsz5 hko5))
        refine (appendPoint_any q base hq v5 _ w5 hown5 (by simp; omega) hsz5 htb.h6 (htb.below hb5).tz).mono ?_
        rintro e w6 ⟨v6, rfl, hown6, hb6, hsz6, hko6⟩
        go_wp2_with fail
        go_roundw
        case rel => exact ⟨j + 1, by simp, by omega, by rw [HS.out]; exact hown6, hb5.trans hb6, hsz6, hko5.trans hko6⟩
        case measure => simp only [intOf]; omega
      · rw [if_neg hj0] at hstep
        have HS : Hid (hd ++ joinS (us.take (j + 1)) = (hd ++ js) ++ pointS q) := by show _ = _; rw [hstep]; simp
        have hj00 : decide ((0 : Int) < (j : Int)) = false := by simp; omega
        clear hstep
        go_wp2_with fail
        refine (appendPoint_any q base hq _ _ wr hown (by simp; omega) hsz htb.h6 htbr.tz).mono ?_
        rintro e w6 ⟨v6, rfl, hown6, hb6, hsz6, hko6⟩
        go_wp2_with fail
        go_roundw
        case rel => exact ⟨j + 1, by simp, by omega, by rw [HS.out]; exact hown6, hbel.trans hb6, hsz6, HKO.out.trans hko6⟩
        case measure => simp only [intOf]; omega
    · have HF : Hid (hd ++ joinS (us.take j) = acc ++ markS u c us) := by show _ = _; rw [HM.out, List.take_of_length_le (by rw [← HK.out]; omega)]
      go_wp2_with fail
      go_ret
      exact ⟨_, rfl, by rw [← HF.out]; exact hown, hbel, hsz, HKO.out⟩

end Go.Proofs.YtpmckfmjegehgaaGreatDoor
