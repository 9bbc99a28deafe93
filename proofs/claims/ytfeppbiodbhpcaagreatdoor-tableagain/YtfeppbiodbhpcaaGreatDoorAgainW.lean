/- What TableAgain does (a contract; nothing is claimed here). -/
import Derived.Test.YtfeppbiodbhpcaaGreatDoorPutP
import Derived.Test.YtfeppbiodbhpcaaGreatDoorSamE
import Derived.Test.YtfeppbiodbhpcaaGreatDoorEntsI
import Derived.Test.YtfeppbiodbhpcaaGreatDoorLaidZ
namespace Go.Proofs.YtfeppbiodbhpcaaGreatDoor
open Go.RowKit Go.Vf Go.Maps


set_option maxHeartbeats 4000000 in
set_option maxRecDepth 20000 in
theorem again_walk (v : Value) (l : List Ent) (hl : l.length ≤ 17592186044416) (hpm : ∀ x ∈ l, EntIn x) (w : World) (hg : GlobZ w) (hin : EIn w.heap.size w v l) : Calls Tryz.prog 4 #[v] w fun e w' => e = .returned (.bool true) ∧ Below w.heap.size w w' := by
  obtain ⟨a, cap, rfl⟩ := hin.val
  go_enter Tryz.func4, Tryz.ntmps4
  go_wp2_with fail
  refine (heavy_any l hl (fun m hm => (hpm m hm).2.2) _ _ w hin).mono ?_
  rintro e w1 ⟨rfl | ⟨rfl, hwt⟩, hb1⟩
  · go_wp2_with fail
    go_ret
    exact ⟨rfl, hb1⟩
  · have hlen : l.length ≤ 1048576 := Nat.le_trans (wtT_len l) hwt
    have hparts : ∀ x ∈ l, x.1.length ≤ 4611686018427387904 ∧ x.2.length ≤ 4611686018427387904 := fun x hx => ⟨Nat.le_trans (wtT_mem hx).1 (by omega), Nat.le_trans (wtT_mem hx).2 (by omega)⟩
    have hg1 := hg.below hb1
    have hin1 := hin.below hb1 (Nat.le_refl _)
    go_wp2_with fail
    refine (print_any l (by omega) hparts _ _ w1 hb1.size hin1 hg1.lt hg1.b64).mono ?_
    rintro e w2 ⟨rfl, hb2⟩
    have hg2 := hg1.below hb2
    have hin2 := hin1.below hb2 hb1.size
    have hbb := below_two hb1 hb2
    cases hp : printT l with
    | error why =>
      have hwhy := printT_err hp
      simp only [printE]
      rcases hwhy with rfl | rfl
      · go_wp2_with fail
        refine (awake_glob w2 hg2.glob).mono ?_
        rintro e w3 ⟨rfl, hb3⟩
        go_wp2_with fail
        go_ret
        exact ⟨rfl, below_two hbb hb3⟩
      · go_wp2_with fail
        refine (awake_glob w2 hg2.glob).mono ?_
        rintro e w3 ⟨rfl, hb3⟩
        go_wp2_with fail
        go_ret
        exact ⟨rfl, below_two hbb hb3⟩
    | ok t =>
      have hld := print_load hp
      obtain ⟨rfl, hok, hrise, hl4, hts⟩ := printT_ok hp
      have HT : Hid ((bsz (textT l)).data.toList = textT l) := by show _ = _; simp
      have hsz : (bsz (textT l)).size ≤ 281474976710656 := by rw [Lib.size_eq, HT.out]; omega
      simp only [printE]
      clear hp
      generalize bsz (textT l) = tb at hsz HT ⊢
      clear hts
      obtain ⟨m, hm⟩ := hg2.glob
      go_wp2_with fail
      refine (load_any tb m w2 hm hsz).mono ?_
      rintro e w3 hpost
      rw [HT.out, hld] at hpost
      obtain ⟨hb3, T, me, ml, val, rfl, htab⟩ := hpost
      have hg3 := hg2.below hb3
      have hbb3 := below_two hbb hb3
      clear hld HT
      go_wp2_with fail
      refine (awake_glob w3 hg3.glob).mono ?_
      rintro e w4 ⟨rfl, hb4⟩
      have ht4 := htab.below hb4
      have hin4 := (hin2.below hb3 hbb.size).below hb4 hbb3.size
      have hbb4 := below_two hbb3 hb4
      go_wp2_with fail
      refine (entries_any T me ml val l w4 ht4 hl4 (rise_nodup hrise)).mono ?_
      rintro e w5 ⟨v5, vs, es, rfl, hE5, hr5, hp5, hb5⟩
      obtain rfl := rise_one hp5 hr5 hrise
      have hei := hE5.inn
      obtain ⟨a5, c5, rfl⟩ := hei.val
      have hin5 := hin4.below hb5 hbb4.size
      go_wp2_with fail
      refine (sameEnts_any _ _ es _ _ w5 hei hin5 (by omega) hparts).mono ?_
      rintro e w6 ⟨rfl, n6, rfl⟩
      go_wp2_with fail
      go_ret
      exact ⟨rfl, below_two (below_two hbb4 hb5) (below_drewN _ _)⟩

set_option maxRecDepth 20000 in
theorem again_open {H : Type} {enc : TypeId × Value → H} {base : Nat} {W : World} (v : Value) (d : DataW H) (pl : List MemPlace) (hok : Value.okWide Tryz.prog W .any base 27 v)
    (h : DataW.Trod enc Tryz.prog W 0 (fun _ => true) true 27 v d pl) (hw : ∀ n ∈ d.weights Tryz.prog 27, n ≤ reachBytes) (W' : World) (hg : GlobZ W') (hW : W' = W) :
    Calls Tryz.prog 4 #[v] W' fun e w' => e = .returned (.bool true) ∧ Below W'.heap.size W' w' := by
  subst hW
  obtain ⟨l, h1, h2, h3⟩ := ents_open v d pl hok h hw
  exact again_walk v l h2 h3 W' hg h1
end Go.Proofs.YtfeppbiodbhpcaaGreatDoor
