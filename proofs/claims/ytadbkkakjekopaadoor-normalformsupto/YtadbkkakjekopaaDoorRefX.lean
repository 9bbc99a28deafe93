/- What dovetailref04.Data's Class and Parts do (contracts; nothing is claimed here). -/
import Derived.Test.YtadbkkakjekopaaDoorRefW
import Derived.Test.YtadbkkakjekopaaDoorSylM
namespace Go.Proofs.YtadbkkakjekopaaDoor
open Go.RowKit Go.Vf Go.Maps

set_option maxHeartbeats 4000000 in
set_option maxRecDepth 20000 in
theorem refClassOf_any (l : List PM) (hrise : (l.map PM.point).Pairwise (· < ·)) (hll : l.length ≤ 1048576) (da : Option Addr) (dn dc : Nat) (p : Int) (n₀ : Nat) (w : World) (hn₀ : n₀ ≤ w.heap.size) (hin : MIn n₀ w (.slice da dn dc) l) :
    Calls Tryd.prog 33 #[.agg #[.slice da dn dc], .int .i64 p] w fun e w' => e = .returned (.int .i64 (clsP l p)) ∧ Below w.heap.size w w' := by
  have hb0 := (Below.refl w.heap.size w).alloc (Nat.le_refl _) (.cells #[.slice da dn dc] 29)
  have hbn := Blk.new w 29 #[.slice da dn dc]
  have hM := refMark_any l hrise hll (.slice da dn dc) p n₀ (w.alloc (.cells #[.slice da dn dc] 29)) (by simp; omega) (hin.below hb0 hn₀)
  have e0 : (w.alloc (.cells #[.slice da dn dc] 29)).cell? ⟨w.heap.size, 0, none⟩ = some (.slice da dn dc) := hbn.cell 0
  go_enter Tryd.func33, Tryd.ntmps33
  go_wp2_with fail
  refine hM.mono ?_
  rintro e w2 ⟨hb2, pa, pk, pc, rfl, hpi⟩
  have hfd := field36_1 (.int .i64 p) (.int .i64 (clsP l p)) (.slice pa pk pc) w2
  go_wp2_with fail
  go_ret
  exact ⟨rfl, hb0.trans (hb2.mono hb0.size)⟩

/-- What whole does of a syllable. -/
theorem letters_two {p : Int} (h : (p - 44032) % 28 = 0) : lettersR p = [4352 + (p - 44032) / 588, 4449 + (p - 44032) % 588 / 28] := by
  unfold lettersR
  rw [if_pos h]
theorem letters_tri {p : Int} (h : ¬ (p - 44032) % 28 = 0) : lettersR p = [4352 + (p - 44032) / 588, 4449 + (p - 44032) % 588 / 28, 4519 + (p - 44032) % 28] := by
  unfold lettersR
  rw [if_neg h]
  rfl

set_option maxHeartbeats 4000000 in
set_option maxRecDepth 20000 in
theorem whole_syl (l : List PM) (da : Option Addr) (dn dc n₀ lim : Nat) (_hlim : lim ≤ 1073741824) (k : Nat) (p : Int) (hsy : isSyl p = true) (hq : ∀ q ∈ lettersR p, WholeSays l da dn dc n₀ lim k q) (w : World) (hlen : ((lettersR p).foldl (fun o q => whF (partsP l) lim k o q) []).length ≤ 1000000) (hn₀ : n₀ ≤ w.heap.size) (hin : MIn n₀ w (.slice da dn dc) l) :
    Calls Tryd.prog 31 #[.agg #[.slice da dn dc], .slice none 0 0, .int .i64 p, .int .i64 (lim : Int)] w fun e w' => ∃ a n c, e = .returned (.slice a n c) ∧ IOwn w' w.heap.size (.slice a n c) ((lettersR p).foldl (fun o q => whF (partsP l) lim k o q) []) ∧ Below w.heap.size w w' := by
  have hr : 44032 ≤ p ∧ p ≤ 55203 := by simpa [isSyl] using hsy
  have hb0 := (Below.refl w.heap.size w).alloc (Nat.le_refl _) (.cells #[.slice da dn dc] 29)
  have hbn := Blk.new w 29 #[.slice da dn dc]
  have hS := syllable_any p (w.alloc (.cells #[.slice da dn dc] 29))
  rw [hsy] at hS
  have e0 : (w.alloc (.cells #[.slice da dn dc] 29)).cell? ⟨w.heap.size, 0, none⟩ = some (.slice da dn dc) := hbn.cell 0
  have hin0 := hin.below hb0 hn₀
  have hsz0 : w.heap.size ≤ (w.alloc (.cells #[.slice da dn dc] 29)).heap.size := by simp
  obtain ⟨z, hz⟩ : ∃ z, p - 44032 = z := ⟨_, rfl⟩
  have hzr : 0 ≤ z ∧ z ≤ 11171 := by omega
  have HX : Hid (lettersR p = if z % 28 = 0 then [4352 + z / 588, 4449 + z % 588 / 28] else [4352 + z / 588, 4449 + z % 588 / 28, 4519 + z % 28]) := by
    show _ = _
    rw [← hz]
    split
    · rename_i h; exact letters_two h
    · rename_i h; exact letters_tri h
  by_cases ht : z % 28 = 0
  · rw [if_pos ht] at HX
    rw [HX.out] at hq hlen ⊢
    have hqA := hq (4352 + z / 588) (by simp)
    have hqB := hq (4449 + z % 588 / 28) (by simp)
    simp only [List.foldl_cons, List.foldl_nil] at hlen ⊢
    have hlA := Nat.le_trans (whF_grows (partsP l) lim k (whF (partsP l) lim k [] (4352 + z / 588)) (4449 + z % 588 / 28)) hlen
    have hA := hqA [] (.slice none 0 0) w.heap.size (w.alloc (.cells #[.slice da dn dc] 29)) hlA hn₀ hsz0 hin0 (IOwn.nil _ _)
    have ht2 : decide ((0 : Int) < z % 28) = false := by simp; omega
    generalize whF (partsP l) lim k [] (4352 + z / 588) = R0 at hA hlA hlen ⊢
    go_enter Tryd.func31, Tryd.ntmps31
    go_wp2_with fail
    refine hS.mono ?_
    rintro e w1 ⟨rfl, rfl⟩
    go_wp2_with fail
    refine hA.mono ?_
    rintro e w2 ⟨a2, n2, c2, rfl, hown2, hg2⟩
    have hbel2 : Below w.heap.size (w.alloc (.cells #[.slice da dn dc] 29)) w2 := hg2.below hsz0 (fun i hi => by cases hi)
    have hbox2 : Blk w2 w.heap.size 29 #[.slice da dn dc] := (hg2.by_.block w.heap.size hbn.lt (by intro e; cases e)).trans hbn
    have f0 : w2.cell? ⟨w.heap.size, 0, none⟩ = some (.slice da dn dc) := hbox2.cell 0
    have hs2 : w.heap.size ≤ w2.heap.size := Nat.le_trans hsz0 hbel2.size
    have hB := hqB R0 (.slice a2 n2 c2) w.heap.size w2 hlen hn₀ hs2 (hin0.below hbel2 hn₀) hown2
    go_wp2_with fail
    refine hB.mono ?_
    rintro e w3 ⟨a3, n3, c3, rfl, hown3, hg3⟩
    have hbel3 : Below w.heap.size w2 w3 := hg3.below hs2 (fun i hi => (own_ge hown2 hi).1)
    go_wp2_with fail
    go_ret
    exact ⟨a3, n3, c3, rfl, hown3, (hb0.trans hbel2).trans hbel3⟩
  · rw [if_neg ht] at HX
    rw [HX.out] at hq hlen ⊢
    have hqA := hq (4352 + z / 588) (by simp)
    have hqB := hq (4449 + z % 588 / 28) (by simp)
    have hqT := hq (4519 + z % 28) (by simp)
    simp only [List.foldl_cons, List.foldl_nil] at hlen ⊢
    have hlB := Nat.le_trans (whF_grows (partsP l) lim k (whF (partsP l) lim k (whF (partsP l) lim k [] (4352 + z / 588)) (4449 + z % 588 / 28)) (4519 + z % 28)) hlen
    have hlA := Nat.le_trans (whF_grows (partsP l) lim k (whF (partsP l) lim k [] (4352 + z / 588)) (4449 + z % 588 / 28)) hlB
    have hA := hqA [] (.slice none 0 0) w.heap.size (w.alloc (.cells #[.slice da dn dc] 29)) hlA hn₀ hsz0 hin0 (IOwn.nil _ _)
    have ht2 : decide ((0 : Int) < z % 28) = true := by simp; omega
    generalize whF (partsP l) lim k [] (4352 + z / 588) = R0 at hA hlA hlB hlen ⊢
    go_enter Tryd.func31, Tryd.ntmps31
    go_wp2_with fail
    refine hS.mono ?_
    rintro e w1 ⟨rfl, rfl⟩
    go_wp2_with fail
    refine hA.mono ?_
    rintro e w2 ⟨a2, n2, c2, rfl, hown2, hg2⟩
    have hbel2 : Below w.heap.size (w.alloc (.cells #[.slice da dn dc] 29)) w2 := hg2.below hsz0 (fun i hi => by cases hi)
    have hbox2 : Blk w2 w.heap.size 29 #[.slice da dn dc] := (hg2.by_.block w.heap.size hbn.lt (by intro e; cases e)).trans hbn
    have f0 : w2.cell? ⟨w.heap.size, 0, none⟩ = some (.slice da dn dc) := hbox2.cell 0
    have hs2 : w.heap.size ≤ w2.heap.size := Nat.le_trans hsz0 hbel2.size
    have hB := hqB R0 (.slice a2 n2 c2) w.heap.size w2 hlB hn₀ hs2 (hin0.below hbel2 hn₀) hown2
    go_wp2_with fail
    refine hB.mono ?_
    rintro e w3 ⟨a3, n3, c3, rfl, hown3, hg3⟩
    have hbel3 : Below w.heap.size w2 w3 := hg3.below hs2 (fun i hi => (own_ge hown2 hi).1)
    have hbox3 : Blk w3 w.heap.size 29 #[.slice da dn dc] := (hg3.by_.block w.heap.size hbox2.lt (own_ne_blk hown2 hbox2 (by decide))).trans hbox2
    have f1 : w3.cell? ⟨w.heap.size, 0, none⟩ = some (.slice da dn dc) := hbox3.cell 0
    have hs3 : w.heap.size ≤ w3.heap.size := Nat.le_trans hs2 hbel3.size
    have hT := hqT (whF (partsP l) lim k R0 (4449 + z % 588 / 28)) (.slice a3 n3 c3) w.heap.size w3 hlen hn₀ hs3 ((hin0.below hbel2 hn₀).below hbel3 hn₀) hown3
    go_wp2_with fail
    refine hT.mono ?_
    rintro e w4 ⟨a4, n4, c4, rfl, hown4, hg4⟩
    have hbel4 : Below w.heap.size w3 w4 := hg4.below hs3 (fun i hi => (own_ge hown3 hi).1)
    go_wp2_with fail
    go_ret
    exact ⟨a4, n4, c4, rfl, hown4, ((hb0.trans hbel2).trans hbel3).trans hbel4⟩

/-- What Parts answers by a depth. -/
def partsD (l : List PM) (k : Nat) (p : Int) : List Int := if isSyl p then (lettersR p).foldl (fun o q => whF (partsP l) 1073741824 k o q) [] else whF (partsP l) 1073741824 k [] p

set_option maxHeartbeats 4000000 in
set_option maxRecDepth 20000 in
theorem refParts_any (l : List PM) (hrise : (l.map PM.point).Pairwise (· < ·)) (hll : l.length ≤ 1048576) (hns : ∀ p, ∀ q ∈ partsP l p, isSyl q = false) (hpl : ∀ p, (partsP l p).length ≤ 131072) (k : Nat) (hdep : ∀ p, Dep (partsP l) k p) (da : Option Addr) (dn dc n₀ : Nat) (p : Int) (hlen : (partsD l k p).length ≤ 1000000) (w : World) (hn₀ : n₀ ≤ w.heap.size) (hin : MIn n₀ w (.slice da dn dc) l) :
    Calls Tryd.prog 32 #[.agg #[.slice da dn dc], .int .i64 p] w fun e w' => ∃ a n c, e = .returned (.slice a n c) ∧ IOwn w' w.heap.size (.slice a n c) (partsD l k p) ∧ Below w.heap.size w w' := by
  have hb0 := (Below.refl w.heap.size w).alloc (Nat.le_refl _) (.cells #[.slice da dn dc] 29)
  have hbn := Blk.new w 29 #[.slice da dn dc]
  have e0 : (w.alloc (.cells #[.slice da dn dc] 29)).cell? ⟨w.heap.size, 0, none⟩ = some (.slice da dn dc) := hbn.cell 0
  have hin0 := hin.below hb0 hn₀
  have hsz0 : w.heap.size ≤ (w.alloc (.cells #[.slice da dn dc] 29)).heap.size := by simp
  have hall := refWhole_any l hrise hll hns hpl da dn dc n₀ 1073741824 (Nat.le_refl _) k
  unfold partsD at hlen ⊢
  cases hsy : isSyl p with
  | true =>
    rw [hsy] at hlen
    simp only [if_true] at hlen ⊢
    have hc := whole_syl l da dn dc n₀ 1073741824 (Nat.le_refl _) k p hsy (fun q hq => hall q (letters_not hsy hq) (hdep q)) (w.alloc (.cells #[.slice da dn dc] 29)) hlen (Nat.le_trans hn₀ hsz0) hin0
    generalize (lettersR p).foldl (fun o q => whF (partsP l) 1073741824 k o q) [] = R at hc ⊢
    go_enter Tryd.func32, Tryd.ntmps32
    go_wp2_with fail
    refine hc.mono ?_
    rintro e w2 ⟨a2, n2, c2, rfl, hown2, hb2⟩
    go_wp2_with fail
    go_ret
    exact ⟨a2, n2, c2, rfl, hown2.mono hsz0, hb0.trans (hb2.mono hsz0)⟩
  | false =>
    rw [hsy] at hlen
    simp only [Bool.false_eq_true, if_false] at hlen ⊢
    have hc := hall p hsy (hdep p) [] (.slice none 0 0) w.heap.size (w.alloc (.cells #[.slice da dn dc] 29)) hlen hn₀ hsz0 hin0 (IOwn.nil _ _)
    generalize whF (partsP l) 1073741824 k [] p = R at hc ⊢
    go_enter Tryd.func32, Tryd.ntmps32
    go_wp2_with fail
    refine hc.mono ?_
    rintro e w2 ⟨a2, n2, c2, rfl, hown2, hg2⟩
    go_wp2_with fail
    go_ret
    exact ⟨a2, n2, c2, rfl, hown2, hb0.trans (hg2.below hsz0 (fun i hi => by cases hi))⟩

end Go.Proofs.YtadbkkakjekopaaDoor
