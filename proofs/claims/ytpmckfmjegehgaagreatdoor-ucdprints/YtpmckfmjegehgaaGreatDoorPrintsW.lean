/- What UcdPrints does (a contract; nothing is claimed here). -/
import Derived.Test.YtpmckfmjegehgaaGreatDoorRefQ
import Derived.Test.YtpmckfmjegehgaaGreatDoorLent
import Derived.Test.YtpmckfmjegehgaaGreatDoorAwake
import Derived.Test.YtpmckfmjegehgaaGreatDoorMarksO
namespace Go.Proofs.YtpmckfmjegehgaaGreatDoor
open Go.RowKit Go.Vf Go.Maps

/-- What Print answers, as two values. -/
theorem printE_two (l : List PM) : ∃ (tb : ByteArray) (e : Int), printE (printR l) = .returned (.tuple #[.string tb, .int .i64 e]) := by
  cases printR l with
  | error why => exact ⟨_, _, rfl⟩
  | ok t => exact ⟨_, _, rfl⟩

set_option maxHeartbeats 4000000 in
set_option maxRecDepth 20000 in
theorem prints_walk (v : Value) (l : List PM) (hl : l.length ≤ 17592186044416) (hpm : ∀ m ∈ l, PMIn m) (w : World) (hg : Glob w) (hin : MIn w.heap.size w v l) : Calls Tryz.prog 4 #[v] w fun e w' => e = .returned (.bool true) ∧ Below w.heap.size w w' := by
  obtain ⟨a, cap, rfl⟩ := hin.val
  go_enter Tryz.func4, Tryz.ntmps4
  go_wp2_with fail
  refine (heavy_any l hl (fun m hm => (hpm m hm).2.2.2) _ _ w hin).mono ?_
  rintro e w1 ⟨rfl | ⟨rfl, hwt⟩, hb1⟩
  · go_wp2_with fail
    go_ret
    exact ⟨rfl, hb1⟩
  · have hlen : l.length ≤ 1048576 := Nat.le_trans (wtM_len l) hwt
    have hparts : ∀ m ∈ l, m.parts.length ≤ 1048576 := fun m hm => Nat.le_trans (wtM_parts hm) hwt
    have hparts' : ∀ m ∈ l, m.parts.length ≤ 4611686018427387904 := fun m hm => Nat.le_trans (hparts m hm) (by omega)
    have hg1 := hg.below hb1
    have hin1 := hin.below hb1 (Nat.le_refl _)
    obtain ⟨tb, er, hE⟩ := printE_two l
    have HE : Hid (printE (printR l) = .returned (.tuple #[.string tb, .int .i64 er])) := hE
    clear hE
    go_wp2_with fail
    refine (lent_any l hwt _ _ w1 hb1.size hin1).mono ?_
    rintro e w2 ⟨g, cp, ps, rfl, hmap, hrow, hlp, hb2⟩
    have hla := lentAt_of hrow hlp
    rw [hmap] at hla
    have hg2 := hg1.below hb2
    have hin2 := hin1.below hb2 hb1.size
    clear hrow hlp hmap
    go_wp2_with fail
    refine (print_any l (by omega) hparts' _ _ w2 (Nat.le_refl _) hla.min hg2.2).mono ?_
    rintro e w3 ⟨rfl, hb3⟩
    rw [HE.out]
    have hla3 := hla.below hb3
    have hg3 := hg2.below hb3
    have hin3 := hin2.below hb3 (below_two hb1 hb2).size
    go_wp2_with fail
    refine (refPrint_any l (by omega) hparts _ _ w3 (below_two (below_two hb1 hb2) hb3).size hin3).mono ?_
    rintro e w4 ⟨rfl, hb4⟩
    rw [HE.out]
    have hla4 := hla3.below hb4
    have hg4 := hg3.below hb4
    have hb14 := below_two (below_two (below_two hb1 hb2) hb3) hb4
    have hin4 := hin3.below hb4 (below_two (below_two hb1 hb2) hb3).size
    go_wp2_with fail
    refine (print_any l (by omega) hparts' _ _ w4 (Nat.le_refl _) hla4.min hg4.2).mono ?_
    rintro e w5 ⟨rfl, hb5⟩
    rw [HE.out]
    have hla5 := hla4.below hb5
    have hg5 := hg4.below hb5
    have hin5 := hin4.below hb5 hb14.size
    have hb15 := below_two hb14 hb5
    go_wp2_with fail
    refine (awake_any w5 hg5).mono ?_
    rintro e w6 ⟨rfl, hb6⟩
    have hla6 := hla5.below hb6
    have hin6 := hin5.below hb6 hb15.size
    have hb16 := below_two hb15 hb6
    have htt : (er == er) = true := by simp
    clear hla hla3 hla4 hla5 hin hin1 hin2 hin3 hin4 hin5
    go_wp2_with fail
    refine (kept_any l hwt g cp _ _ w6 hb16.size hla6 hin6).mono ?_
    rintro e w7 ⟨rfl, hb7⟩
    go_wp2_with fail
    go_ret
    exact ⟨rfl, below_two hb16 hb7⟩

set_option maxRecDepth 20000 in
theorem prints_open {H : Type} {enc : TypeId × Value → H} {base : Nat} {W : World} (v : Value) (d : DataW H) (pl : List MemPlace) (hok : Value.okWide Tryz.prog W .any base 27 v)
    (h : DataW.Trod enc Tryz.prog W 0 (fun _ => true) true 27 v d pl) (hw : ∀ n ∈ d.weights Tryz.prog 27, n ≤ reachBytes) (W' : World) (hg : Glob W') (hW : W' = W) :
    Calls Tryz.prog 4 #[v] W' fun e w' => e = .returned (.bool true) ∧ Below W'.heap.size W' w' := by
  subst hW
  obtain ⟨l, h1, h2, h3⟩ := marks_open v d pl hok h hw
  exact prints_walk v l h2 h3 W' hg h1

end Go.Proofs.YtpmckfmjegehgaaGreatDoor
