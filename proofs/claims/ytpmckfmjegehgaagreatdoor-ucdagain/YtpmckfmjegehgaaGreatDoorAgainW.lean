/- What UcdAgain does (a contract; nothing is claimed here). -/
import Derived.Test.YtpmckfmjegehgaaGreatDoorPrM
import Derived.Test.YtpmckfmjegehgaaGreatDoorHeavy
import Derived.Test.YtpmckfmjegehgaaGreatDoorAwake
import Derived.Test.YtpmckfmjegehgaaGreatDoorSameM
import Derived.Test.YtpmckfmjegehgaaGreatDoorMarksO
namespace Go.Proofs.YtpmckfmjegehgaaGreatDoor
open Go.RowKit Go.Vf Go.Maps

theorem printR_why {l : List PM} {why : Int} (h : printR l = .error why) : why = 1 ∨ why = 2 := by
  unfold printR at h
  split at h
  · cases h; exact .inr rfl
  · split at h
    · split at h
      · cases h; exact .inr rfl
      · cases h
    · cases h; exact .inl rfl

set_option maxHeartbeats 4000000 in
set_option maxRecDepth 20000 in
theorem again_walk (v : Value) (l : List PM) (hl : l.length ≤ 17592186044416) (hpm : ∀ m ∈ l, PMIn m) (w : World) (hg : Glob w) (hin : MIn w.heap.size w v l) : Calls Tryz.prog 6 #[v] w fun e w' => e = .returned (.bool true) ∧ Below w.heap.size w w' := by
  obtain ⟨a, cap, rfl⟩ := hin.val
  go_enter Tryz.func6, Tryz.ntmps6
  go_wp2_with fail
  refine (heavy_any l hl (fun m hm => (hpm m hm).2.2.2) _ _ w hin).mono ?_
  rintro e w1 ⟨rfl | ⟨rfl, hwt⟩, hb1⟩
  · go_wp2_with fail
    go_ret
    exact ⟨rfl, hb1⟩
  · have hlen : l.length ≤ 1048576 := Nat.le_trans (wtM_len l) hwt
    have hparts : ∀ m ∈ l, m.parts.length ≤ 4611686018427387904 := fun m hm => Nat.le_trans (wtM_parts hm) (by omega)
    have hg1 := hg.below hb1
    have hin1 := hin.below hb1 (Nat.le_refl _)
    go_wp2_with fail
    refine (print_any l (by omega) hparts _ _ w1 hb1.size hin1 hg1.2).mono ?_
    rintro e w2 ⟨rfl, hb2⟩
    have hg2 := hg1.below hb2
    have hin2 := hin1.below hb2 hb1.size
    have hbb := below_two hb1 hb2
    cases hp : printR l with
    | error why =>
      have hwhy := printR_why hp
      simp only [printE]
      rcases hwhy with rfl | rfl
      · go_wp2_with fail
        refine (awake_any w2 hg2).mono ?_
        rintro e w3 ⟨rfl, hb3⟩
        go_wp2_with fail
        go_ret
        exact ⟨rfl, below_two hbb hb3⟩
      · go_wp2_with fail
        refine (awake_any w2 hg2).mono ?_
        rintro e w3 ⟨rfl, hb3⟩
        go_wp2_with fail
        go_ret
        exact ⟨rfl, below_two hbb hb3⟩
    | ok t =>
      obtain ⟨hm, hcase⟩ := again_load hp
      have hts : t.length ≤ 65536 := (printR_lines hp).2.1
      have HM : Hid (marksR (marksL l 0) = l) := hm
      have HT : Hid ((bsz t).data.toList = t) := by show _ = _; simp
      have hsz : (bsz t).size ≤ 281474976710656 := by rw [Lib.size_eq, HT.out]; omega
      simp only [printE]
      clear hm hp
      generalize bsz t = tb at hsz HT ⊢
      clear hts
      go_wp2_with fail
      refine (load_glob tb w2 hg2 hsz).mono ?_
      rintro e w3 ⟨hb3, hpost⟩
      rw [HT.out] at hpost
      have hg3 := hg2.below hb3
      have hbb3 := below_two hbb hb3
      rcases hcase with ⟨E, hE⟩ | ⟨why, line, hE, hwhy, h1, h2⟩
      · rw [hE] at hpost
        obtain ⟨bd, rfl, hd⟩ := hpost
        clear hE
        go_wp2_with fail
        refine (awake_any w3 hg3).mono ?_
        rintro e w4 ⟨rfl, hb4⟩
        have hd4 := hd.below hb4
        have hin4 := (hin2.below hb3 hbb.size).below hb4 hbb3.size
        have hbb4 := below_two hbb3 hb4
        go_wp2_with fail
        refine (marks_any bd _ E w4 hd4).mono ?_
        rintro e w5 ⟨a5, k5, c5, ps, rfl, hmo, hps, hb5⟩
        have hmi := hmo.min
        rw [hps, HM.out] at hmi
        have hin5 := hin4.below hb5 hbb4.size
        go_wp2_with fail
        refine (sameMarks_any _ _ l _ _ w5 hmi hin5 (by omega) hparts).mono ?_
        rintro e w6 ⟨rfl, hb6⟩
        go_wp2_with fail
        go_ret
        exact ⟨rfl, below_two (below_two hbb4 hb5) hb6⟩
      · rw [hE] at hpost
        obtain rfl : e = _ := hpost
        clear hE
        rcases hwhy with rfl | rfl
        · go_wp2_with fail
          refine (awake_any w3 hg3).mono ?_
          rintro e w4 ⟨rfl, hb4⟩
          go_wp2_with fail
          go_ret
          exact ⟨rfl, below_two hbb3 hb4⟩
        · go_wp2_with fail
          refine (awake_any w3 hg3).mono ?_
          rintro e w4 ⟨rfl, hb4⟩
          go_wp2_with fail
          go_ret
          exact ⟨rfl, below_two hbb3 hb4⟩

set_option maxRecDepth 20000 in
theorem again_open {H : Type} {enc : TypeId × Value → H} {base : Nat} {W : World} (v : Value) (d : DataW H) (pl : List MemPlace) (hok : Value.okWide Tryz.prog W .any base 27 v)
    (h : DataW.Trod enc Tryz.prog W 0 (fun _ => true) true 27 v d pl) (hw : ∀ n ∈ d.weights Tryz.prog 27, n ≤ reachBytes) (W' : World) (hg : Glob W') (hW : W' = W) :
    Calls Tryz.prog 6 #[v] W' fun e w' => e = .returned (.bool true) ∧ Below W'.heap.size W' w' := by
  subst hW
  obtain ⟨l, h1, h2, h3⟩ := marks_open v d pl hok h hw
  exact again_walk v l h2 h3 W' hg h1

end Go.Proofs.YtpmckfmjegehgaaGreatDoor
