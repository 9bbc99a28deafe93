/- What the statement SpanNames does (contracts; nothing is claimed here). -/
import Derived.Test.YtgefbgpfjbbeaaaGreatDoorSpF
import Derived.Test.YtgefbgpfjbbeaaaGreatDoorJ12
namespace Go.Proofs.YtgefbgpfjbbeaaaGreatDoor
open Go.RowKit Go.Vf

theorem mkTup (B : Nat) (w : World) (hB : Blk w B 44 #[.int .u8 2, .bool false, .bool false, .string ⟨#[1]⟩, .string ⟨#[]⟩, .slice none 0 0]) : Calls Tryz.prog 14 #[.agg #[.int .u8 7, .bool false, .bool false, .string ⟨#[]⟩, .string ⟨#[]⟩, .slice (some ⟨B, 0, none⟩) 1 1]] w fun e w' => ∃ g, e = .returned (.tuple #[.iface 108 (.pointer (some ⟨g, 0, none⟩)), .int .i64 0]) ∧ TupV w' g ∧ Below w.heap.size w w' := by
  have hin : PIn w 0 w.heap.size tup1 (some ⟨B, 0, none⟩) := by
    refine .cons (fun _ => none) (fun _ => 0) (Nat.zero_le _) hB.lt (fun j hj => ?_) (fun j hj => ?_)
    · have hj0 : j = 0 := by simp [tup1, Prt.items] at hj; omega
      subst hj0
      exact ⟨hB.cell 0, hB.cell 1, hB.cell 2, hB.cell 3, hB.cell 4, hB.cell 5⟩
    · have hj0 : j = 0 := by simp [tup1, Prt.items] at hj; omega
      subst hj0
      exact .nil rfl
  have hf : Fits tup1 := .mk (by show (0 : Int) ≤ 7; decide) (by show 0 ≤ _; decide) (by show 0 ≤ _; decide) (by show 1 ≤ _; decide) (fun y hy => by
    rw [List.mem_singleton.1 hy]
    exact .mk (by show (0 : Int) ≤ 2; decide) (by show 0 ≤ _; decide) (by show 1 ≤ _; decide) (by show 0 ≤ _; decide) (fun y hy => by cases hy))
  refine (make_any tup1 hf (some ⟨B, 0, none⟩) 1 0 w.heap.size w (Nat.le_refl _) hin).mono ?_
  rintro e w' ⟨hb, ⟨h4, _⟩ | ⟨_, h4, _⟩ | ⟨_, _, v, rfl, hv⟩⟩
  · exact absurd h4 (by decide)
  · exact absurd h4 (by decide)
  · obtain ⟨g, rfl, hT⟩ := TupV.of (Nat.le_refl _) hv
    exact ⟨g, rfl, hT, hb⟩
set_option maxHeartbeats 4000000 in
set_option maxRecDepth 20000 in
theorem awake16_any (w : World) : Calls Tryz.prog 5 #[] w fun e w' => e = .returned (.bool true) ∧ Below w.heap.size w w' := by
  have h1 := wload0 w
  go_enter Tryz.func5, Tryz.ntmps5
  go_wp2_with fail
  refine h1.mono ?_
  rintro _ w2 ⟨tb, rfl, hb2⟩
  have hb3 := hb2.alloc hb2.size (.cells #[.int .u8 2, .bool false, .bool false, .string ⟨#[1]⟩, .string ⟨#[]⟩, .slice none 0 0] 44)
  have hP3 := Blk.new w2 44 #[.int .u8 2, .bool false, .bool false, .string ⟨#[1]⟩, .string ⟨#[]⟩, .slice none 0 0]
  have h3 := mkTup w2.heap.size (w2.alloc (.cells #[.int .u8 2, .bool false, .bool false, .string ⟨#[1]⟩, .string ⟨#[]⟩, .slice none 0 0] 44)) hP3
  clear h1 hb2 hP3
  go_wp2_with fail
  refine h3.mono ?_
  rintro _ w4 ⟨g, rfl, hV4, hb4⟩
  have hb04 := hb3.trans (hb4.mono hb3.size)
  have hb5 := (Below.refl w4.heap.size w4).alloc (Nat.le_refl _) (.cells twoF 50)
  have hA5 := Blk.new w4 50 twoF
  have hV5 := hV4.old hb5
  have hb05 := hb04.trans (hb5.mono hb04.size)
  obtain ⟨A, hAq⟩ : ∃ A, w4.heap.size = A := ⟨_, rfl⟩
  have hs5 := alloc_size w4 (.cells twoF 50)
  rw [hAq] at hs5 hA5
  have hb56 := (Below.refl _ (w4.alloc (.cells twoF 50))).alloc (Nat.le_refl _) (.cells #[.int .i64 64, .slice (some ⟨A, 0, none⟩) 2 2] 52)
  have hC6 := Blk.new (w4.alloc (.cells twoF 50)) 52 #[.int .i64 64, .slice (some ⟨A, 0, none⟩) 2 2]
  rw [hs5] at hC6
  have hA6 := hA5.old hb56
  have hV6 := hV5.old hb56
  have hb06 := hb05.trans (hb56.mono hb05.size)
  clear h3 hb3 hb4 hb04 hb5 hA5 hV4 hV5 hb05 hs5 hb56
  go_upto_region 6 with fail
  obtain ⟨w6, hw6⟩ : ∃ w6, (w4.alloc (.cells twoF 50)).alloc (.cells #[.int .i64 64, .slice (some ⟨A, 0, none⟩) 2 2] 52) = w6 := ⟨_, rfl⟩
  rw [hw6] at hC6 hA6 hV6 hb06
  unfold twoF at hw6
  try simp only [hAq]
  rw [hw6]
  clear hw6 hAq
  have hpr := prefix_one tb A g w6 hA6 hV6
  have x0 := hC6.cell 0
  have x1 := hC6.cell 1
  go_wp2_with fail
  refine hpr.mono ?_
  rintro _ w7 ⟨rfl, hb7⟩
  have hb78 := (Below.refl w7.heap.size w7).alloc (Nat.le_refl _) (.cells #[.string ⟨#[18, 129, 1]⟩, .string ⟨#[18, 129, 2]⟩, .bool false] 24)
  have hS8 := Blk.new w7 24 #[.string ⟨#[18, 129, 1]⟩, .string ⟨#[18, 129, 2]⟩, .bool false]
  have hb68 := hb7.trans (hb78.mono hb7.size)
  have hA8 := hA6.old hb68
  have hV8 := hV6.old hb68
  have hC8 := hC6.old hb68
  have hb08 := hb06.trans (hb68.mono hb06.size)
  obtain ⟨B, hBq⟩ : ∃ B, w7.heap.size = B := ⟨_, rfl⟩
  rw [hBq] at hS8
  clear hpr x0 x1 hb7 hb78 hA6 hV6 hC6 hb06 hb68
  go_upto_region 7 with fail
  try simp only [hBq]
  generalize w7.alloc (.cells #[.string ⟨#[18, 129, 1]⟩, .string ⟨#[18, 129, 2]⟩, .bool false] 24) = w8 at hS8 hA8 hV8 hC8 hb08 ⊢
  clear hBq
  have hst := starts_one tb A g w8 hA8 hV8
  have x0 := hC8.cell 0
  have x1 := hC8.cell 1
  go_wp2_with fail
  refine hst.mono ?_
  rintro _ w9 ⟨rfl, hb9⟩
  have hb910 := (Below.refl w9.heap.size w9).alloc (Nat.le_refl _) (.cells #[.string ⟨#[18, 129, 1, 19, 97, 0, 255]⟩, .string ⟨#[18, 129, 1, 19, 97, 1]⟩, .bool false] 24)
  have hQ10 := Blk.new w9 24 #[.string ⟨#[18, 129, 1, 19, 97, 0, 255]⟩, .string ⟨#[18, 129, 1, 19, 97, 1]⟩, .bool false]
  have hS10 := (hS8.old hb9).old hb910
  have hb010 := hb08.trans ((hb9.trans (hb910.mono hb9.size)).mono hb08.size)
  obtain ⟨C, hCq⟩ : ∃ C, w9.heap.size = C := ⟨_, rfl⟩
  rw [hCq] at hQ10
  clear hst x0 x1 hb9 hb910 hA8 hV8 hC8 hb08 hS8
  go_upto_region 8 with fail
  try simp only [hCq]
  generalize w9.alloc (.cells #[.string ⟨#[18, 129, 1, 19, 97, 0, 255]⟩, .string ⟨#[18, 129, 1, 19, 97, 1]⟩, .bool false] 24) = w10 at hS10 hQ10 hb010 ⊢
  clear hCq
  have s0 := hS10.cell 0
  have s1 := hS10.cell 1
  have s2 := hS10.cell 2
  have q0 := hQ10.cell 0
  have q1 := hQ10.cell 1
  have q2 := hQ10.cell 2
  have hh := has_one w10
  go_wp2_with fail
  refine hh.mono ?_
  rintro _ w11 ⟨rfl, hb11⟩
  have hS11 := hS10.old hb11
  have hb011 := hb010.trans (hb11.mono hb010.size)
  clear s0 s1 s2 q0 q1 q2 hh hQ10 hb11 hb010 hS10
  have s0 := hS11.cell 0
  have s1 := hS11.cell 1
  have s2 := hS11.cell 2
  have he := empty_one w11
  go_wp2_with fail
  refine he.mono ?_
  rintro _ w12 ⟨rfl, hb12⟩
  have hb012 := hb011.trans (hb12.mono hb011.size)
  clear s0 s1 s2 he hb12 hb011 hS11
  go_wp2_with fail
  go_ret
  exact ⟨rfl, hb012⟩
set_option maxHeartbeats 1000000 in
theorem spanNames_any (w : World) : Calls Tryz.prog 3 #[] w fun e w' => e = .returned (.bool true) ∧ Below w.heap.size w w' := by
  have h := awake16_any w
  go_enter Tryz.func3, Tryz.ntmps3
  go_wp2_with fail
  refine h.mono ?_
  rintro _ w2 ⟨rfl, hb⟩
  clear h
  go_wp2_with fail
  go_ret
  exact ⟨rfl, hb⟩

end Go.Proofs.YtgefbgpfjbbeaaaGreatDoor
