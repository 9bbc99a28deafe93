/- What dovetaillaw04.parts does (a contract; nothing is claimed here). -/
import Derived.Test.YtpmckfmjegehgaaGreatDoorSpoil
import Derived.Test.YtpmckfmjegehgaaGreatDoorRefQ
import Derived.Test.YtpmckfmjegehgaaGreatDoorAwake
namespace Go.Proofs.YtpmckfmjegehgaaGreatDoor
open Go.RowKit Go.Vf Go.Maps

theorem own_apart {w w' : World} {b1 : Nat} {e1 : TypeId} {s1 k1 : Nat} {v1 : Value} {x1 : List Value} {row : Option Nat} (h1 : w.ownsRow b1 e1 s1 v1 k1 x1) (hne : ∀ g, row = some g → g < b1) (hg : w.grownBy w' row) : w'.ownsRow b1 e1 s1 v1 k1 x1 := by
  refine ⟨h1.1, h1.2.imp id fun ⟨g, cap, cur, q1, q2, q3, q4⟩ => ⟨g, cap, cur, q1, q2, ?_, q4⟩⟩
  have hlt : g < w.heap.size := (Array.getElem?_eq_some_iff.1 q3).1
  refine (hg.block g hlt ?_).trans q3
  intro e
  have := hne g e.symm
  omega
theorem own_lt {w : World} {b1 : Nat} {e1 : TypeId} {s1 k1 : Nat} {v1 : Value} {x1 : List Value} (h1 : w.ownsRow b1 e1 s1 v1 k1 x1) : ∀ g, v1.ownBlock = some g → g < w.heap.size := fun g hg => by
  obtain ⟨_, cs, f, q⟩ := own_ge h1 hg
  exact (Array.getElem?_eq_some_iff.1 q).1

set_option maxHeartbeats 4000000 in
set_option maxRecDepth 20000 in
theorem lawParts_any (l : List PM) (hrise : (l.map PM.point).Pairwise (· < ·)) (hll : l.length ≤ 1048576) (hns : ∀ p, ∀ q ∈ partsP l p, isSyl q = false) (hpl : ∀ p, (partsP l p).length ≤ 131072) (k : Nat) (hdep : ∀ p, Dep (partsP l) k p) (bd : Nat) (L : List Mk) (E : Int → List Int) (da : Option Addr) (dn dc n₀ : Nat) (p : Int) (hp : InI p) (R : List Int) (hR1 : partsD l k p = R) (hR2 : partsR' E p = R) (hRl : R.length ≤ 4611686018427387904) (hRs : R.length ≤ 1000000) (hcl : clsP l p = classAt L p) (w : World) (hn₀ : n₀ ≤ w.heap.size) (hin : MIn n₀ w (.slice da dn dc) l) (hd : DataAt w bd L E) :
    Calls Tryz.prog 13 #[.pointer (some ⟨bd, 0, none⟩), .agg #[.slice da dn dc], .int .i64 p] w fun e w' => e = .returned (.bool true) ∧ Below w.heap.size w w' := by
  have hb0 := (Below.refl w.heap.size w).alloc (Nat.le_refl _) (.cells #[.slice da dn dc] 29)
  have hbn := Blk.new w 29 #[.slice da dn dc]
  have e0 : (w.alloc (.cells #[.slice da dn dc] 29)).cell? ⟨w.heap.size, 0, none⟩ = some (.slice da dn dc) := hbn.cell 0
  have hsz0 : w.heap.size ≤ (w.alloc (.cells #[.slice da dn dc] 29)).heap.size := by simp
  have hxp := refParts_any l hrise hll hns hpl k hdep da dn dc n₀ p (by rw [hR1]; exact hRs) (w.alloc (.cells #[.slice da dn dc] 29)) (Nat.le_trans hn₀ hsz0) (hin.below hb0 hn₀)
  rw [hR1] at hxp
  have hlt0 : w.heap.size < (w.alloc (.cells #[.slice da dn dc] 29)).heap.size := by simp
  go_enter Tryz.func13, Tryz.ntmps13
  go_wp2_with fail
  refine hxp.mono ?_
  rintro e w1 ⟨a1, n1, c1, rfl, hown1, hb1⟩
  have hb01 : Below w.heap.size w w1 := hb0.trans (hb1.mono hsz0)
  have hbox1 := hbn.below hb1 hlt0
  have hdp1 := parts_any bd L E p w1 hp (hd.below hb01)
  rw [hR2] at hdp1
  go_wp2_with fail
  refine hdp1.mono ?_
  rintro e w2 ⟨a2, n2, c2, rfl, hown2, hb2⟩
  have hb02 := hb01.trans (hb2.mono hb01.size)
  have hdp2 := parts_any bd L E p w2 hp (hd.below hb02)
  rw [hR2] at hdp2
  go_wp2_with fail
  refine hdp2.mono ?_
  rintro e w3 ⟨a3, n3, c3, rfl, hown3, hb3⟩
  have hb03 := hb02.trans (hb3.mono hb02.size)
  have i1 : Ints w1.heap.size w3 (.slice a1 n1 c1) R := (hown1.ints.below hb2 (Nat.le_refl _)).below hb3 hb2.size
  have i2 : Ints w2.heap.size w3 (.slice a2 n2 c2) R := hown2.ints.below hb3 (Nat.le_refl _)
  go_wp2_with fail
  refine (sameInts_any _ _ R R _ _ w3 i2 i1 hRl hRl).mono ?_
  rintro e w4 ⟨rfl, hb4⟩
  rw [show decide (R = R) = true by simp]
  have hb04 := hb03.trans (hb4.mono hb03.size)
  have hown24 : IOwn w4 w1.heap.size (.slice a2 n2 c2) R := own_after (own_after hown2 hb3) hb4
  have hs14 : w1.heap.size ≤ w4.heap.size := Nat.le_trans hb2.size (Nat.le_trans hb3.size hb4.size)
  go_wp2_with fail
  refine (spoiled_any R hRs _ w1.heap.size w4 hs14 hown24).mono ?_
  rintro e w5 ⟨rfl, hg5⟩
  have hb15 : Below w1.heap.size w4 w5 := (Below.refl w1.heap.size w4).grown hg5 hs14 (fun i hi => (own_ge hown24 hi).1)
  have hb14 : Below w1.heap.size w1 w4 := (hb2.trans (hb3.mono hb2.size)).trans (hb4.mono (Nat.le_trans hb2.size hb3.size))
  have hb05 : Below w.heap.size w w5 := hb04.trans (hb15.mono hb01.size)
  have hown35 : IOwn w5 w2.heap.size (.slice a3 n3 c3) R := own_apart (own_after hown3 hb4) (fun g hg => own_lt hown2 g hg) hg5
  have hown15 : Ints w1.heap.size w5 (.slice a1 n1 c1) R := (hown1.ints.below hb14 (Nat.le_refl _)).below hb15 (Nat.le_refl _)
  have hbox5 : Blk w5 w.heap.size 29 #[.slice da dn dc] := (hbox1.below hb14 (Nat.lt_of_lt_of_le hlt0 hb1.size)).below hb15 (Nat.lt_of_lt_of_le hlt0 hb1.size)
  have f5 : w5.drew.cell? ⟨w.heap.size, 0, none⟩ = some (.slice da dn dc) := hbox5.cell 0
  have hB5 : w.heap.size < w5.heap.size := hbox5.lt
  have hs15 : w1.heap.size ≤ w5.heap.size := Nat.le_trans hs14 hb15.size
  have IT : Hid (∀ x, Below w5.heap.size w5 x → Ints w5.heap.size x (.slice a3 n3 c3) R) := fun x hx => hown35.ints.below hx (Nat.le_refl _)
  have IW : Hid (∀ x, Below w5.heap.size w5 x → Ints w1.heap.size x (.slice a1 n1 c1) R) := fun x hx => hown15.below hx hs15
  have HDP : Hid (∀ x, Below w5.heap.size w5 x → Calls Tryz.prog 21 #[.pointer (some ⟨bd, 0, none⟩), .int .i64 p] x fun e w' => ∃ a k cap, e = .returned (.slice a k cap) ∧ IOwn w' x.heap.size (.slice a k cap) R ∧ Below x.heap.size x w') := fun x hx => by
    have := parts_any bd L E p x hp (hd.below (hb05.trans (hx.mono hb05.size)))
    rwa [hR2] at this
  have HDC : Hid (∀ x, Below w5.heap.size w5 x → Calls Tryz.prog 23 #[.pointer (some ⟨bd, 0, none⟩), .int .i64 p] x fun e w' => e = .returned (.int .i64 (classAt L p)) ∧ x = w') := fun x hx => class_any bd L E p x hp (hd.below (hb05.trans (hx.mono hb05.size)))
  have HXC : Hid (∀ x, Below w5.heap.size w5 x → Calls Tryz.prog 37 #[.agg #[.slice da dn dc], .int .i64 p] x fun e w' => e = .returned (.int .i64 (classAt L p)) ∧ Below x.heap.size x w') := fun x hx => by
    have := refClassOf_any l hrise hll da dn dc p n₀ x (Nat.le_trans hn₀ (hb05.trans (hx.mono hb05.size)).size) (hin.below (hb05.trans (hx.mono hb05.size)) hn₀)
    rwa [hcl] at this
  clear hown35 hown15 hbox5 hbox1 hg5 hb15 hb14 i1 i2 hown24 hown1 hown2 hown3 hdp1 hdp2 hxp e0 hbn hin hd
  generalize classAt L p = cq at HDC HXC
  go_upto_region 6 with fail
  refine wp_region_held_drew (S := fun x => x.cell? ⟨w.heap.size, 0, none⟩ = some (.slice da dn dc) ∧ Below w5.heap.size w5 x) (by kernel_rfl) ⟨f5, (Below.refl _ _).drew⟩ (fun hH0 => ?_)
  refine wpAnyH_takeD (i := 0) (some 25) (v := ?v0) rfl rfl (by kernel_rfl) (by kernel_rfl) (by kernel_rfl) (fun _ _ _ h => h) (Or.inl ⟨by kernel_rfl, ?hy0⟩) (by assumption) ?rest0
  case hy0 => (intro w hSw; (try dsimp only at hSw); go_simp; first | done | with_reducible rfl)
  try simp only [Act.put, List.setIfInBounds_toArray, List.set_cons_zero, List.set_cons_succ]
  refine wpAnyH_takeD (i := 1) (some 26) (v := ?v1) rfl rfl (by kernel_rfl) (by kernel_rfl) (by kernel_rfl) (fun _ _ _ h => h) (Or.inl ⟨by kernel_rfl, ?hy1⟩) (by assumption) ?rest1
  case hy1 => (intro w hSw; (try dsimp only at hSw); go_simp; first | done | with_reducible rfl)
  try simp only [Act.put, List.setIfInBounds_toArray, List.set_cons_zero, List.set_cons_succ]
  refine wpAnyH_takeD (i := 2) (some 27) (v := ?v2) rfl rfl (by kernel_rfl) (by kernel_rfl) (by kernel_rfl) (fun _ _ _ h => h) (Or.inl ⟨by kernel_rfl, ?hy2⟩) (by assumption) ?rest2
  case hy2 => (intro w hSw; (try dsimp only at hSw); go_simp; first | done | with_reducible rfl)
  try simp only [Act.put, List.setIfInBounds_toArray, List.set_cons_zero, List.set_cons_succ]
  refine wpAnyH_takeD (i := 3) (some 28) (v := ?v3) rfl rfl (by kernel_rfl) (by kernel_rfl) (by kernel_rfl) (fun _ _ _ h => h) (Or.inl ⟨by kernel_rfl, ?hy3⟩) (by assumption) ?rest3
  case hy3 => (intro w hSw; (try dsimp only at hSw); go_simp; first | done | with_reducible rfl)
  try simp only [Act.put, List.setIfInBounds_toArray, List.set_cons_zero, List.set_cons_succ]
  refine wpAnyH_ready (rs := [4]) (by kernel_rfl) (by simp) ?_
  refine AllReadyH.cons rfl (fun K hK => ?_) AllReadyH.nil
  go_simp
  go_wp2_with (go_at_call 22; refine (sameInts_any _ _ R R _ _ _ (IT.out _ hH0.2) (IW.out _ hH0.2) hRl hRl).mono ?_; rintro e w6 ⟨rfl, hb6⟩; rw [show decide (R = R) = true by simp])
  refine hK.out _ _ ⟨((hb6).cell (p := ⟨w.heap.size, 0, none⟩) (Nat.lt_of_lt_of_le hB5 hH0.2.size)).trans hH0.1, hH0.2.trans (hb6.mono hH0.2.size)⟩ (fun hH4 => ?_)
  clear hK K
  refine wpAnyH_takeD (i := 5) (some 30) (v := ?v5) rfl rfl (by kernel_rfl) (by kernel_rfl) (by kernel_rfl) (fun _ _ _ h => h) (Or.inl ⟨by kernel_rfl, ?hy5⟩) (by assumption) ?rest5
  case hy5 => (intro w hSw; (try dsimp only at hSw); go_simp; first | done | with_reducible rfl)
  try simp only [Act.put, List.setIfInBounds_toArray, List.set_cons_zero, List.set_cons_succ]
  refine wpAnyH_takeD (i := 6) (some 31) (v := ?v6) rfl rfl (by kernel_rfl) (by kernel_rfl) (by kernel_rfl) (fun _ _ _ h => h) (Or.inl ⟨by kernel_rfl, ?hy6⟩) (by assumption) ?rest6
  case hy6 => (intro w hSw; (try dsimp only at hSw); go_simp; first | done | with_reducible rfl)
  try simp only [Act.put, List.setIfInBounds_toArray, List.set_cons_zero, List.set_cons_succ]
  refine wpAnyH_takeD (i := 7) (some 32) (v := ?v7) rfl rfl (by kernel_rfl) (by kernel_rfl) (by kernel_rfl) (fun _ _ _ h => h) (Or.inl ⟨by kernel_rfl, ?hy7⟩) (by assumption) ?rest7
  case hy7 => (intro w hSw; (try dsimp only at hSw); go_simp; first | done | with_reducible rfl)
  try simp only [Act.put, List.setIfInBounds_toArray, List.set_cons_zero, List.set_cons_succ]
  refine wpAnyH_takeD (i := 8) (some 33) (v := ?v8) rfl rfl (by kernel_rfl) (by kernel_rfl) (by kernel_rfl) (fun _ _ _ h => h) (Or.inl ⟨by kernel_rfl, ?hy8⟩) (by assumption) ?rest8
  case hy8 => (intro w hSw; (try dsimp only at hSw); go_simp; first | done | with_reducible rfl)
  try simp only [Act.put, List.setIfInBounds_toArray, List.set_cons_zero, List.set_cons_succ]
  refine wpAnyH_takeD (i := 10) (some 35) (v := ?v10) rfl rfl (by kernel_rfl) (by kernel_rfl) (by kernel_rfl) (fun _ _ _ h => h) (Or.inl ⟨by kernel_rfl, ?hy10⟩) (by assumption) ?rest10
  case hy10 => (intro w hSw; (try dsimp only at hSw); go_simp; first | done | with_reducible rfl)
  try simp only [Act.put, List.setIfInBounds_toArray, List.set_cons_zero, List.set_cons_succ]
  refine wpAnyH_ready (rs := [9]) (by kernel_rfl) (by simp) ?_
  refine AllReadyH.cons rfl (fun K hK => ?_) AllReadyH.nil
  go_simp
  go_wp2_with (go_at_call 21; refine (HDP.out _ hH4.2).mono ?_; rintro e w7 ⟨a7, n7, c7, rfl, hown7, hb7⟩)
  refine hK.out _ _ ⟨((hb7).cell (p := ⟨w.heap.size, 0, none⟩) (Nat.lt_of_lt_of_le hB5 hH4.2.size)).trans hH4.1, hH4.2.trans (hb7.mono hH4.2.size)⟩ (fun hH9 => ?_)
  clear hK K
  refine wpAnyH_ready (rs := [11]) (by kernel_rfl) (by simp) ?_
  refine AllReadyH.cons rfl (fun K hK => ?_) AllReadyH.nil
  go_simp
  go_wp2_with (go_at_call 22; refine (sameInts_any _ _ R R _ _ _ hown7.ints (IW.out _ hH9.2) hRl hRl).mono ?_; rintro e w8 ⟨rfl, hb8⟩; rw [show decide (R = R) = true by simp])
  refine hK.out _ _ ⟨((hb8).cell (p := ⟨w.heap.size, 0, none⟩) (Nat.lt_of_lt_of_le hB5 hH9.2.size)).trans hH9.1, hH9.2.trans (hb8.mono hH9.2.size)⟩ (fun hH11 => ?_)
  clear hK K
  refine wpAnyH_takeD (i := 12) (some 37) (v := ?v12) rfl rfl (by kernel_rfl) (by kernel_rfl) (by kernel_rfl) (fun _ _ _ h => h) (Or.inl ⟨by kernel_rfl, ?hy12⟩) (by assumption) ?rest12
  case hy12 => (intro w hSw; (try dsimp only at hSw); go_simp; first | done | with_reducible rfl)
  try simp only [Act.put, List.setIfInBounds_toArray, List.set_cons_zero, List.set_cons_succ]
  refine wpAnyH_takeD (i := 13) (some 38) (v := ?v13) rfl rfl (by kernel_rfl) (by kernel_rfl) (by kernel_rfl) (fun _ _ _ h => h) (Or.inl ⟨by kernel_rfl, ?hy13⟩) (by assumption) ?rest13
  case hy13 => (intro w hSw; (try dsimp only at hSw); go_simp; first | done | with_reducible rfl)
  try simp only [Act.put, List.setIfInBounds_toArray, List.set_cons_zero, List.set_cons_succ]
  refine wpAnyH_takeD (i := 14) (some 39) (v := ?v14) rfl rfl (by kernel_rfl) (by kernel_rfl) (by kernel_rfl) (fun _ _ _ h => h) (Or.inl ⟨by kernel_rfl, ?hy14⟩) (by assumption) ?rest14
  case hy14 => (intro w hSw; (try dsimp only at hSw); go_simp; first | done | with_reducible rfl)
  try simp only [Act.put, List.setIfInBounds_toArray, List.set_cons_zero, List.set_cons_succ]
  refine wpAnyH_takeD (i := 15) (some 40) (v := ?v15) rfl rfl (by kernel_rfl) (by kernel_rfl) (by kernel_rfl) (fun _ _ _ h => h) (Or.inl ⟨by kernel_rfl, ?hy15⟩) (by assumption) ?rest15
  case hy15 => (intro w hSw; (try dsimp only at hSw); go_simp; first | done | with_reducible rfl)
  try simp only [Act.put, List.setIfInBounds_toArray, List.set_cons_zero, List.set_cons_succ]
  refine wpAnyH_takeD (i := 17) (some 42) (v := ?v17) rfl rfl (by kernel_rfl) (by kernel_rfl) (by kernel_rfl) (fun _ _ _ h => h) (Or.inl ⟨by kernel_rfl, ?hy17⟩) (by assumption) ?rest17
  case hy17 => (intro w hSw; (try dsimp only at hSw); go_simp; first | done | with_reducible rfl)
  try simp only [Act.put, List.setIfInBounds_toArray, List.set_cons_zero, List.set_cons_succ]
  refine wpAnyH_takeD (i := 18) (some 43) (v := ?v18) rfl rfl (by kernel_rfl) (by kernel_rfl) (by kernel_rfl) (fun _ _ _ h => h) (Or.inl ⟨by kernel_rfl, ?hy18⟩) (by assumption) ?rest18
  case hy18 => (intro w hSw; (try dsimp only at hSw); go_simp; first | done | with_reducible rfl)
  try simp only [Act.put, List.setIfInBounds_toArray, List.set_cons_zero, List.set_cons_succ]
  refine wpAnyH_ready (rs := [16]) (by kernel_rfl) (by simp) ?_
  refine AllReadyH.cons rfl (fun K hK => ?_) AllReadyH.nil
  go_simp
  go_wp2_with (go_at_call 23; refine (HDC.out _ hH11.2).mono ?_; rintro e w9 ⟨rfl, rfl⟩)
  refine hK.out _ _ hH11 (fun hH16 => ?_)
  clear hK K
  refine wpAnyH_ready (rs := [19]) (by kernel_rfl) (by simp) ?_
  refine AllReadyH.cons rfl (fun K hK => ?_) AllReadyH.nil
  go_simp
  go_wp2_with (go_at_call 37; refine (HXC.out _ hH16.2).mono ?_; rintro e w10 ⟨rfl, hb10⟩)
  refine hK.out _ _ ⟨((hb10).cell (p := ⟨w.heap.size, 0, none⟩) (Nat.lt_of_lt_of_le hB5 hH16.2.size)).trans hH16.1, hH16.2.trans (hb10.mono hH16.2.size)⟩ (fun hH19 => ?_)
  clear hK K
  refine wpAnyH_takeD (i := 20) (some 45) (v := .bool true) rfl rfl (by kernel_rfl) (by kernel_rfl) (by kernel_rfl) (fun _ _ _ h => h) (Or.inl ⟨by kernel_rfl, ?hy20⟩) (by assumption) ?rest20
  case hy20 => (intro w hSw; (try dsimp only at hSw); go_simp; first | done | (simp))
  try simp only [Act.put, List.setIfInBounds_toArray, List.set_cons_zero, List.set_cons_succ]
  refine wpAnyH_takeD (i := 21) (some 46) (v := ?v21) rfl rfl (by kernel_rfl) (by kernel_rfl) (by kernel_rfl) (fun _ _ _ h => h) (Or.inl ⟨by kernel_rfl, ?hy21⟩) (by assumption) ?rest21
  case hy21 => (intro w hSw; (try dsimp only at hSw); go_simp; first | done | with_reducible rfl)
  try simp only [Act.put, List.setIfInBounds_toArray, List.set_cons_zero, List.set_cons_succ]
  refine wpAnyH_takeD (i := 22) (some 6) (v := ?v22) rfl rfl (by kernel_rfl) (by kernel_rfl) (by kernel_rfl) (fun _ _ _ h => h) (Or.inl ⟨by kernel_rfl, ?hy22⟩) (by assumption) ?rest22
  case hy22 => (intro w hSw; (try dsimp only at hSw); go_simp; first | done | with_reducible rfl)
  try simp only [Act.put, List.setIfInBounds_toArray, List.set_cons_zero, List.set_cons_succ]
  refine wpAnyH_done (by kernel_rfl) ?_ _
  go_wp2_with fail
  go_ret
  exact ⟨rfl, hb05.trans (hH19.2.mono hb05.size)⟩

end Go.Proofs.YtpmckfmjegehgaaGreatDoor
