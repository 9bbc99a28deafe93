/- What dovetaillaw18.awake does (contracts; nothing is claimed here). -/
import Derived.Test.YtnjfkijekohdkaaDoorKTup
namespace Go.Proofs.YtnjfkijekohdkaaDoor
open Go.RowKit Go.Vf

def a0 : Prt := .mk 1 true false ⟨#[]⟩ ⟨#[]⟩ []
def a1 : Prt := .mk 0 false false ⟨#[]⟩ ⟨#[]⟩ []
def a2 : Prt := .mk 5 false false ⟨#[]⟩ ⟨#[120]⟩ []
def aP : Prt := .mk 7 false false ⟨#[]⟩ ⟨#[]⟩ [a0, a1]
def aQ : Prt := .mk 7 false false ⟨#[]⟩ ⟨#[]⟩ [a1, a0, a2]
theorem a0_fits : Fits a0 := .mk (by decide) (by decide) (by decide) (by decide) (fun x hx => by simp [a0, Prt.items] at hx)
theorem a1_fits : Fits a1 := .mk (by decide) (by decide) (by decide) (by decide) (fun x hx => by simp [a1, Prt.items] at hx)
theorem a2_fits : Fits a2 := .mk (by decide) (by decide) (by decide) (by decide) (fun x hx => by simp [a2, Prt.items] at hx)
theorem aP_fits : Fits aP := .mk (by decide) (by decide) (by decide) (by decide) (fun x hx => by
  simp [aP, Prt.items] at hx
  rcases hx with rfl | rfl
  · exact a0_fits
  · exact a1_fits)
theorem aQ_fits : Fits aQ := .mk (by decide) (by decide) (by decide) (by decide) (fun x hx => by
  simp [aQ, Prt.items] at hx
  rcases hx with rfl | rfl | rfl
  · exact a1_fits
  · exact a0_fits
  · exact a2_fits)
theorem aP_deep : deeper 16 aP = false := by decide
theorem aP_may : may aP = true := by rfl
theorem aQ_may : may aQ = true := by rfl
def aS : List (Int × Prt) := [(1, a1), (0, a1), (-1, a2)]
theorem aS_src : ∀ j (hj : j < aS.length), srcR [a0, a1] aS[j] = some ([a1, a0, a2][j]'hj) := by
  intro j hj
  have : j = 0 ∨ j = 1 ∨ j = 2 := by simp [aS] at hj; omega
  rcases this with rfl | rfl | rfl
  · rfl
  · rfl
  · rfl
theorem aS_fit : ∀ s ∈ aS, Fits s.2 := by
  intro s hs
  simp [aS] at hs
  rcases hs with rfl | rfl | rfl
  · exact a1_fits
  · exact a1_fits
  · exact a2_fits
theorem tup_form {w : World} {lo n : Nat} {v : Value} {x y : Prt} {l : List Prt} (h : VIn w lo n v (.mk 7 false false ⟨#[]⟩ ⟨#[]⟩ (x :: y :: l))) : ∃ g, v = .iface 83 (.pointer (some ⟨g, 0, none⟩)) := by
  cases h
  exact ⟨_, rfl⟩
set_option maxHeartbeats 4000000 in
set_option maxRecDepth 20000 in
theorem awake_any (w : World) : Calls Tryd.prog 6 #[] w fun e w' => e = .returned (.bool true) ∧ Below w.heap.size w w' := by
  have hb1 := (Below.refl w.heap.size w).alloc (Nat.le_refl _) (.cells #[.int .u8 1, .bool true, .bool false, .string ⟨#[]⟩, .string ⟨#[]⟩, .slice none 0 0, .int .u8 0, .bool false, .bool false, .string ⟨#[]⟩, .string ⟨#[]⟩, .slice none 0 0] 29)
  have hB1 := Blk.new w 29 #[.int .u8 1, .bool true, .bool false, .string ⟨#[]⟩, .string ⟨#[]⟩, .slice none 0 0, .int .u8 0, .bool false, .bool false, .string ⟨#[]⟩, .string ⟨#[]⟩, .slice none 0 0]
  have hs1 := hB1.lt
  obtain ⟨w1, hw1⟩ : ∃ w1, w.alloc (.cells #[.int .u8 1, .bool true, .bool false, .string ⟨#[]⟩, .string ⟨#[]⟩, .slice none 0 0, .int .u8 0, .bool false, .bool false, .string ⟨#[]⟩, .string ⟨#[]⟩, .slice none 0 0] 29) = w1 := ⟨_, rfl⟩
  rw [hw1] at hb1 hB1 hs1
  have hin : PIn w1 0 w1.heap.size aP (some ⟨w.heap.size, 0, none⟩) := by
    refine .cons (fun _ => none) (fun _ => 0) (Nat.zero_le _) hs1 (fun j hj => ?_) (fun j hj => ?_)
    · have : j = 0 ∨ j = 1 := by simp [aP, Prt.items] at hj; omega
      rcases this with rfl | rfl
      · exact ⟨hB1.cell 0, hB1.cell 1, hB1.cell 2, hB1.cell 3, hB1.cell 4, hB1.cell 5⟩
      · exact ⟨hB1.cell 6, hB1.cell 7, hB1.cell 8, hB1.cell 9, hB1.cell 10, hB1.cell 11⟩
    · have : j = 0 ∨ j = 1 := by simp [aP, Prt.items] at hj; omega
      rcases this with rfl | rfl <;> exact .nil rfl
  have hcall := make_any aP aP_fits (some ⟨w.heap.size, 0, none⟩) 2 0 w1.heap.size w1 (Nat.le_refl _) hin
  have hpv : pV aP (some ⟨w.heap.size, 0, none⟩) 2 = .agg #[.int .u8 7, .bool false, .bool false, .string ⟨#[]⟩, .string ⟨#[]⟩, .slice (some ⟨w.heap.size, 0, none⟩) 2 2] := rfl
  rw [hpv] at hcall
  clear hin hB1 hpv
  go_enter Tryd.func6, Tryd.ntmps6
  go_wp2_with fail
  (try rw [hw1])
  refine hcall.mono ?_
  clear hcall hw1
  rintro e w2 ⟨hb2, h | h | h⟩
  · have := aP_deep; rw [h.1] at this; cases this
  · have := aP_may; rw [h.2.1] at this; cases this
  obtain ⟨_, _, v, rfl, hv⟩ := h
  obtain ⟨g, rfl⟩ := tup_form hv
  have hb02 := hb1.trans (hb2.mono hb1.size)
  have hb3 := (Below.refl w2.heap.size w2).alloc (Nat.le_refl _) (.cells #[.int .i64 1, .int .u8 0, .bool false, .bool false, .string ⟨#[]⟩, .string ⟨#[]⟩, .slice none 0 0, .int .i64 0, .int .u8 0, .bool false, .bool false, .string ⟨#[]⟩, .string ⟨#[]⟩, .slice none 0 0, .int .i64 (-1), .int .u8 5, .bool false, .bool false, .string ⟨#[]⟩, .string ⟨#[120]⟩, .slice none 0 0] 52)
  have hB3 := Blk.new w2 52 #[.int .i64 1, .int .u8 0, .bool false, .bool false, .string ⟨#[]⟩, .string ⟨#[]⟩, .slice none 0 0, .int .i64 0, .int .u8 0, .bool false, .bool false, .string ⟨#[]⟩, .string ⟨#[]⟩, .slice none 0 0, .int .i64 (-1), .int .u8 5, .bool false, .bool false, .string ⟨#[]⟩, .string ⟨#[120]⟩, .slice none 0 0]
  have hs3 := hB3.lt
  obtain ⟨w3, hw3⟩ : ∃ w3, w2.alloc (.cells #[.int .i64 1, .int .u8 0, .bool false, .bool false, .string ⟨#[]⟩, .string ⟨#[]⟩, .slice none 0 0, .int .i64 0, .int .u8 0, .bool false, .bool false, .string ⟨#[]⟩, .string ⟨#[]⟩, .slice none 0 0, .int .i64 (-1), .int .u8 5, .bool false, .bool false, .string ⟨#[]⟩, .string ⟨#[120]⟩, .slice none 0 0] 52) = w3 := ⟨_, rfl⟩
  rw [hw3] at hb3 hB3 hs3
  have hsr : SrIn w3 0 w3.heap.size (some ⟨w2.heap.size, 0, none⟩) aS := by
    intro j hj
    have : j = 0 ∨ j = 1 ∨ j = 2 := by simp [aS] at hj; omega
    rcases this with rfl | rfl | rfl
    · exact ⟨w2.heap.size, 0, none, 0, rfl, hs3, hB3.cell 0, hB3.cell 1, hB3.cell 2, hB3.cell 3, hB3.cell 4, hB3.cell 5, hB3.cell 6, .nil rfl⟩
    · exact ⟨w2.heap.size, 0, none, 0, rfl, hs3, hB3.cell 7, hB3.cell 8, hB3.cell 9, hB3.cell 10, hB3.cell 11, hB3.cell 12, hB3.cell 13, .nil rfl⟩
    · exact ⟨w2.heap.size, 0, none, 0, rfl, hs3, hB3.cell 14, hB3.cell 15, hB3.cell 16, hB3.cell 17, hB3.cell 18, hB3.cell 19, hB3.cell 20, .nil rfl⟩
  have hv3 : VIn w3 0 w3.heap.size (.iface 83 (.pointer (some ⟨g, 0, none⟩))) (tupP [a0, a1]) := (VIn.mono hv (Nat.le_refl _) (Nat.zero_le _)).keep (fun b _ hb => hb3.block b hb) |>.mono hb3.size (Nat.le_refl _)
  have hmap := map_ok aS [a0, a1] [a1, a0, a2] (by decide) rfl aS_src aS_fit (by decide) (by decide) g (some ⟨w2.heap.size, 0, none⟩) 3 0 w3.heap.size w3 (Nat.le_refl _) hsr hv3
  have hlen : aS.length = 3 := rfl
  rw [hlen] at hmap
  clear hsr hv3 hv hB3 hlen
  go_wp2_with fail
  (try rw [hw3])
  refine hmap.mono ?_
  clear hmap hw3
  rintro _ w4 ⟨g', rfl, hb4, hv4⟩
  have htl := tell_any aQ aQ_may _ 0 w4.heap.size w4 (Nat.le_refl _) hv4
  have hb04 := (hb02.trans (hb3.mono hb02.size)).trans (hb4.mono (Nat.le_trans hb02.size hb3.size))
  clear hv4 hb3 hb4 hb2 hs3 hs1
  go_wp2_with fail
  refine htl.mono ?_
  clear htl
  rintro _ w5 ⟨ta, tc, rfl, hp5, hb5⟩
  have hb05 := hb04.trans (hb5.mono hb04.size)
  have hpv : pV aQ ta tc = .agg #[.int .u8 7, .bool false, .bool false, .string ⟨#[]⟩, .string ⟨#[]⟩, .slice ta 3 tc] := rfl
  rw [hpv]
  have key : ∃ b off, ta = some ⟨b, off, none⟩ ∧ b < w5.heap.size ∧ w5.cell? ⟨b, off, none⟩ = some (.int .u8 0) ∧ w5.cell? ⟨b, off + 6 + 1, none⟩ = some (.bool true) ∧ w5.cell? ⟨b, off + 12 + 4, none⟩ = some (.string ⟨#[120]⟩) := by
    cases hp5 with
    | nil h => cases h
    | cons A C h1 h2 h3 h4 => exact ⟨_, _, rfl, h2, (h3 0 (by decide)).c0, (h3 1 (by decide)).c1, (h3 2 (by decide)).c4⟩
  obtain ⟨b, off, rfl, hbl, k0, k1, k2⟩ := key
  have hb6 := (Below.refl w5.heap.size w5).alloc (Nat.le_refl _) (.cells #[.int .u8 7, .bool false, .bool false, .string ⟨#[]⟩, .string ⟨#[]⟩, .slice (some ⟨b, off, none⟩) 3 tc] 29)
  have hB6 := Blk.new w5 29 #[.int .u8 7, .bool false, .bool false, .string ⟨#[]⟩, .string ⟨#[]⟩, .slice (some ⟨b, off, none⟩) 3 tc]
  have k0' := (hb6.cell (p := ⟨b, off, none⟩) hbl).trans k0
  have k1' := (hb6.cell (p := ⟨b, off + 6 + 1, none⟩) hbl).trans k1
  have k2' := (hb6.cell (p := ⟨b, off + 12 + 4, none⟩) hbl).trans k2
  clear hp5 hpv k0 k1 k2 hb5 hb04
  go_upto_region 4 with fail
  generalize w5.alloc (.cells #[.int .u8 7, .bool false, .bool false, .string ⟨#[]⟩, .string ⟨#[]⟩, .slice (some ⟨b, off, none⟩) 3 tc] 29) = w6 at *
  have c5 := hB6.cell 5
  simp only [List.getElem?_toArray, List.getElem?_cons_zero, List.getElem?_cons_succ] at c5
  have hx : (⟨#[120]⟩ : ByteArray).toList = [120] := by rw [ByteArray.toList_eq]
  clear hB6
  go_wp2_with fail
  go_ret
  exact ⟨rfl, hb05.trans (hb6.mono hb05.size)⟩
end Go.Proofs.YtnjfkijekohdkaaDoor
