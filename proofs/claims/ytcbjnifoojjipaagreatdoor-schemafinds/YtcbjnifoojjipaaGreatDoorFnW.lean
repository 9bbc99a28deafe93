/- What the statement SchemaFinds does (a contract; nothing is claimed here). -/
import Derived.Test.YtcbjnifoojjipaaGreatDoorSAwk
import Derived.Test.YtcbjnifoojjipaaGreatDoorJ26
import Derived.Test.YtcbjnifoojjipaaGreatDoorJ28
import Derived.Test.YtcbjnifoojjipaaGreatDoorJ30
import Derived.Test.YtcbjnifoojjipaaGreatDoorJ24
import Derived.Deep.RegionHeld
import Derived.Test.YtcbjnifoojjipaaGreatDoorSLin
import Derived.BigRegion
namespace Go.Proofs.YtcbjnifoojjipaaGreatDoor
open Go.RowKit Go.Vf Go.Maps
set_option maxHeartbeats 8000000 in
set_option maxRecDepth 20000 in
theorem schemaFinds_any (limit : Int) (l : List Fld) (aa : Option Addr) (ca n₀ : Nat) (w : World) (hE : Env w) (hl : l.length ≤ 281474976710656) (hf : ∀ x ∈ l, FitsF 281474976710656 x) (hn₀ : n₀ ≤ w.heap.size) (hin : FIn w 0 n₀ l aa) (hca : l.length ≤ ca) (pa : Option Addr) (pc : Nat) (p : List Int) (hpl : p.length ≤ 4611686018427387904) (hp : Ints w.heap.size w (.slice pa p.length pc) p) :
    Calls Tryz.prog 5 #[.agg #[.int .i64 limit, .slice aa l.length ca], .slice pa p.length pc] w fun e w' => e = .returned (.bool true) ∧ Below w.heap.size w w' := by
  have hb1 := (Below.refl w.heap.size w).alloc (Nat.le_refl _) (.cells #[.int .i64 limit, .slice aa l.length ca] 25)
  have hS1 := Blk.new w 25 #[.int .i64 limit, .slice aa l.length ca]
  have hz0 : 0 < w.heap.size := by have := hE.sz; omega
  have hE1 := hE.old hb1
  have hin1 := hin.keep hb1 hn₀
  clear hE hin
  have HPT : Hid (Ints w.heap.size w (.slice pa p.length pc) p) := hp
  clear hp
  go_enter Tryz.func5, Tryz.ntmps5
  go_upto_region 1 with fail
  have hs1 := hb1.size
  generalize w.alloc (.cells #[.int .i64 limit, .slice aa l.length ca] 25) = w1 at *
  have ha := awake_any w1 hE1
  go_wp2_with fail
  refine ha.mono ?_
  clear ha
  rintro _ w2 ⟨rfl, hb2⟩
  have hb02 := hb1.trans (hb2.mono hs1)
  have hS2 := hS1.old hb2
  have hin2 := hin1.keep hb2 (by omega)
  have hs2 := hb2.size
  have hv := vast_any l aa ca 0 n₀ w2 hl hf (by omega) hin2
  have s1 : w2.cell? ⟨w.heap.size, 1, none⟩ = some (.slice aa l.length ca) := hS2.cell 1
  clear hE1 hin1 hS1
  go_wp2_with fail
  refine hv.mono ?_
  clear hv s1
  rintro _ w3 ⟨rfl, q, rfl⟩
  have hb3 : Below w2.heap.size w2 (w2.drewN q) := ⟨rfl, rfl, rfl, Nat.le_refl _, fun _ _ => rfl⟩
  have hb03 := hb02.trans (hb3.mono hb02.size)
  have hS3 := hS2.old hb3
  have hin3 := hin2.keep hb3 (by omega)
  have hs3 := hb3.size
  generalize w2.drewN q = w3 at *
  by_cases hvast : 67108864 < wg 0 l
  · have t1 : decide (67108864 < wg 0 l) = true := decide_eq_true hvast
    clear hin2 hin3 hf
    go_wp2_with fail
    go_ret
    exact ⟨rfl, hb03⟩
  · have t1 : decide (67108864 < wg 0 l) = false := decide_eq_false hvast
    obtain ⟨hll, hf26, hf34⟩ := wg_fits hf hvast
    have s0 : w3.cell? ⟨w.heap.size, 0, none⟩ = some (.int .i64 limit) := hS3.cell 0
    have s1 : w3.cell? ⟨w.heap.size, 1, none⟩ = some (.slice aa l.length ca) := hS3.cell 1
    have hSl3 := hS3.lt
    have HIN3 : Hid (FIn w3 0 n₀ l aa) := hin3
    have HS3 : Hid (Blk w3 w.heap.size 25 #[.int .i64 limit, .slice aa l.length ca]) := hS3
    have HL : Hid (LentOkF l) := lentF_list (by omega) hf26
    clear hin2 hin3 hS2 hS3 hf hvast
    go_upto_region 4 with fail
    go_cut [6] from 28 to 33 (fun v wx => ∃ X b, v = .pointer (some ⟨X, 0, none⟩) ∧ w3.heap.size ≤ X ∧ Blk wx X 25 #[.int .i64 limit, .slice (some ⟨b, 0, none⟩) l.length (l.length + 2)] ∧ LIf wx w3.heap.size wx.heap.size l b ∧ Below w3.heap.size w3 wx)
    case first =>
      have HCL : Hid (∀ W, Below w3.heap.size w3 W → Calls Tryz.prog 11 #[.slice aa l.length ca] W fun e w' => ∃ b, e = .returned (.slice (some ⟨b, 0, none⟩) l.length (l.length + 2)) ∧ LIf w' W.heap.size w'.heap.size l b ∧ Below W.heap.size W w') := fun W hW => HL.out aa ca n₀ W (by have := hW.size; omega) (HIN3.out.keep hW (by omega))
      have HSx : Hid (∀ W, Below w3.heap.size w3 W → W.cell? ⟨w.heap.size, 0, none⟩ = some (.int .i64 limit) ∧ W.cell? ⟨w.heap.size, 1, none⟩ = some (.slice aa l.length ca)) := fun W hW => ⟨(HS3.out.old hW).cell 0, (HS3.out.old hW).cell 1⟩
      have HVb : Hid (Below w3.heap.size w3 w3.drew) := (Below.refl _ _).drew
      refine wp_region_held_drew (S := fun x => x.cell? ⟨w.heap.size, 0, none⟩ = some (.int .i64 limit) ∧ x.cell? ⟨w.heap.size, 1, none⟩ = some (.slice aa l.length ca)) (by kernel_rfl) (HSx.out _ HVb.out) (fun hHeld => ?_)
      have HVz : Hid (w3.drew.heap.size = w3.heap.size) := rfl
      generalize w3.drew = V at *
      refine wpAnyH_takeD (i := 0) (some 28) (v := .pointer (some ⟨w.heap.size, 0, none⟩)) rfl rfl (by kernel_rfl) (by kernel_rfl) (by kernel_rfl) (fun _ _ _ h => h) (Or.inl ⟨by kernel_rfl, ?hy1⟩) (by assumption) ?rest1
      case hy1 => (intro x hSx; obtain ⟨hS1, hS2⟩ := hSx; go_simp; first | done | with_reducible rfl)
      try simp only [Act.put, List.setIfInBounds_toArray, List.set_cons_zero, List.set_cons_succ]
      refine wpAnyH_takeD (i := 1) (some 29) (v := .int .i64 limit) rfl rfl (by kernel_rfl) (by kernel_rfl) (by kernel_rfl) (fun _ _ _ h => h) (Or.inl ⟨by kernel_rfl, ?hy2⟩) (by assumption) ?rest2
      case hy2 => (intro x hSx; obtain ⟨hS1, hS2⟩ := hSx; go_simp; first | done | with_reducible rfl)
      try simp only [Act.put, List.setIfInBounds_toArray, List.set_cons_zero, List.set_cons_succ]
      refine wpAnyH_takeD (i := 2) (some 30) (v := .pointer (some ⟨w.heap.size, 1, none⟩)) rfl rfl (by kernel_rfl) (by kernel_rfl) (by kernel_rfl) (fun _ _ _ h => h) (Or.inl ⟨by kernel_rfl, ?hy3⟩) (by assumption) ?rest3
      case hy3 => (intro x hSx; obtain ⟨hS1, hS2⟩ := hSx; go_simp; first | done | with_reducible rfl)
      try simp only [Act.put, List.setIfInBounds_toArray, List.set_cons_zero, List.set_cons_succ]
      refine wpAnyH_takeD (i := 3) (some 31) (v := .slice aa l.length ca) rfl rfl (by kernel_rfl) (by kernel_rfl) (by kernel_rfl) (fun _ _ _ h => h) (Or.inl ⟨by kernel_rfl, ?hy4⟩) (by assumption) ?rest4
      case hy4 => (intro x hSx; obtain ⟨hS1, hS2⟩ := hSx; go_simp; first | done | with_reducible rfl)
      try simp only [Act.put, List.setIfInBounds_toArray, List.set_cons_zero, List.set_cons_succ]
      refine wpAnyH_ready (rs := [4, 6]) (by kernel_rfl) (by simp) ?_
      refine AllReadyH.cons rfl (fun K2 hK2 => ?_) (AllReadyH.cons rfl (fun K2 hK2 => ?_) AllReadyH.nil)
      · go_simp
        go_wp2_with (go_at_call 11; refine (HCL.out _ HVb.out).mono ?_; rintro e w4 ⟨b, rfl, hLI, hb4⟩)
        have hb34 : Below w3.heap.size w3 w4 := HVb.out.trans (hb4.mono HVb.out.size)
        have hS4 := HSx.out _ hb34
        refine hK2.out _ _ hS4 (fun hH4 => ?_)
        clear hK2 K2
        try simp only [Act.put, List.setIfInBounds_toArray, List.set_cons_zero, List.set_cons_succ]
        refine wpAnyH_takeD (i := 5) (some 33) (v := .agg #[.int .i64 limit, .slice (some ⟨b, 0, none⟩) l.length (l.length + 2)]) rfl rfl (by kernel_rfl) (by kernel_rfl) (by kernel_rfl) (fun _ _ _ h => h) (Or.inl ⟨by kernel_rfl, ?hy5⟩) (by assumption) ?rest5
        case hy5 => (intro x hSx; obtain ⟨hS1, hS2⟩ := hSx; go_simp; first | done | with_reducible rfl)
        try simp only [Act.put, List.setIfInBounds_toArray, List.set_cons_zero, List.set_cons_succ]
        refine wpAnyH_ready (rs := [6]) (by kernel_rfl) (by simp) ?_
        refine AllReadyH.cons rfl (fun K2 hK2 => ?_) AllReadyH.nil
        have hb5 := (Below.refl w4.heap.size w4).alloc (Nat.le_refl _) (.cells #[.int .i64 0, .slice none 0 0] 25)
        have hX5 := Blk.new w4 25 #[.int .i64 0, .slice none 0 0]
        have hb35 := hb34.trans (hb5.mono hb34.size)
        have hS5 := HSx.out _ hb35
        go_simp
        refine hK2.out _ _ hS5 (fun hH5 => ?_)
        clear hK2 K2
        try simp only [Act.put, List.setIfInBounds_toArray, List.set_cons_zero, List.set_cons_succ]
        have HLI : Hid (LIf w4 w3.heap.size w4.heap.size l b) := by have := HVz.out; rw [this] at hLI; exact hLI
        have HB34 : Hid (Below w3.heap.size w3 w4) := hb34
        have HZ5 : Hid ((w4.alloc (.cells #[.int .i64 0, .slice none 0 0] 25)).heap.size = w4.heap.size + 1) := alloc_size _ _
        have HB5 : Hid (Below w4.heap.size w4 (w4.alloc (.cells #[.int .i64 0, .slice none 0 0] 25))) := hb5
        have x0 := hX5.cell 0
        have x1 := hX5.cell 1
        have y0 := hX5.frozen 0
        have y1 := hX5.frozen 1
        simp only [List.getElem?_toArray, List.getElem?_cons_zero, List.getElem?_cons_succ] at x0 x1
        have HX5 : Hid (Blk (w4.alloc (.cells #[.int .i64 0, .slice none 0 0] 25)) w4.heap.size 25 #[.int .i64 0, .slice none 0 0]) := hX5
        clear hLI hb4 hb34 hb5 hX5 hb35 hS4 hS5
        generalize w4.alloc (.cells #[.int .i64 0, .slice none 0 0] 25) = w5 at *
        obtain ⟨X, hX⟩ : ∃ X, w4.heap.size = X := ⟨_, rfl⟩
        have HXd : Hid (w4.heap.size = X) := hX
        rw [hX] at x0 x1 y0 y1 HX5 ⊢
        clear hX
        refine wpAnyH_ready (rs := [7]) (by kernel_rfl) (by simp) ?_
        refine AllReadyH.cons rfl (fun K2 hK2 => ?_) AllReadyH.nil
        have HSE : Hid (((w5.setCell ⟨X, 0, none⟩ (.int .i64 limit)).setCell ⟨X, 1, none⟩ (.slice (some ⟨b, 0, none⟩) l.length (l.length + 2))).cell? ⟨w.heap.size, 0, none⟩ = some (.int .i64 limit) ∧ ((w5.setCell ⟨X, 0, none⟩ (.int .i64 limit)).setCell ⟨X, 1, none⟩ (.slice (some ⟨b, 0, none⟩) l.length (l.length + 2))).cell? ⟨w.heap.size, 1, none⟩ = some (.slice aa l.length ca)) := by
          refine HSx.out _ ?_
          have h1 := HB34.out.trans (HB5.out.mono HB34.out.size)
          have h2 : w3.heap.size ≤ X := by rw [← HXd.out]; exact HB34.out.size
          exact (h1.setCell (p := ⟨X, 0, none⟩) h2 _).setCell (p := ⟨X, 1, none⟩) h2 _
        go_simp
        refine hK2.out _ _ HSE.out (fun _ => ?_)
        clear hK2 K2
        try simp only [Act.put, List.setIfInBounds_toArray, List.set_cons_zero, List.set_cons_succ]
        refine wpAnyH_done (by kernel_rfl) ?_ _
        go_wp2_with fail
        go_meet
        have h2 : w3.heap.size ≤ X := by rw [← HXd.out]; exact HB34.out.size
        have hO := (Oth.set X 0 w5 (.int .i64 limit)).trans (Oth.set X 1 _ (.slice (some ⟨b, 0, none⟩) l.length (l.length + 2)))
        have hxd := HXd.out
        refine ⟨X, b, rfl, h2, (HX5.out.set 0 _).set 1 _, ?_, ?_⟩
        · refine (HLI.out.keep fun k _ hk => (hO.block k (by have := HB5.out.size; omega) (by omega)).trans (HB5.out.block k hk)).mono ?_ (Nat.le_refl _)
          have := hO.size
          have := HB5.out.size
          omega
        · have h1 := HB34.out.trans (HB5.out.mono HB34.out.size)
          exact (h1.setCell (p := ⟨X, 0, none⟩) h2 _).setCell (p := ⟨X, 1, none⟩) h2 _
      · have hb5 := (Below.refl V.heap.size V).alloc (Nat.le_refl _) (.cells #[.int .i64 0, .slice none 0 0] 25)
        have hX5 := Blk.new V 25 #[.int .i64 0, .slice none 0 0]
        have hb35 := HVb.out.trans (hb5.mono HVb.out.size)
        have hS5 := HSx.out _ hb35
        go_simp
        refine hK2.out _ _ hS5 (fun hH5 => ?_)
        clear hK2 K2
        try simp only [Act.put, List.setIfInBounds_toArray, List.set_cons_zero, List.set_cons_succ]
        have HZ5 : Hid ((V.alloc (.cells #[.int .i64 0, .slice none 0 0] 25)).heap.size = V.heap.size + 1) := alloc_size _ _
        have HB35 : Hid (Below w3.heap.size w3 (V.alloc (.cells #[.int .i64 0, .slice none 0 0] 25))) := hb35
        have HX5 : Hid (Blk (V.alloc (.cells #[.int .i64 0, .slice none 0 0] 25)) V.heap.size 25 #[.int .i64 0, .slice none 0 0]) := hX5
        clear hb5 hX5 hb35 hS5
        generalize V.alloc (.cells #[.int .i64 0, .slice none 0 0] 25) = w5 at *
        obtain ⟨X, hX⟩ : ∃ X, V.heap.size = X := ⟨_, rfl⟩
        have HXd : Hid (V.heap.size = X) := hX
        rw [hX] at HX5 HZ5 ⊢
        clear hX
        refine wpAnyH_ready (rs := [4]) (by kernel_rfl) (by simp) ?_
        refine AllReadyH.cons rfl (fun K2 hK2 => ?_) AllReadyH.nil
        go_simp
        go_wp2_with (go_at_call 11; refine (HCL.out _ HB35.out).mono ?_; rintro e w6 ⟨b, rfl, hLI, hb6⟩)
        have hb36 : Below w3.heap.size w3 w6 := HB35.out.trans (hb6.mono HB35.out.size)
        have hS6 := HSx.out _ hb36
        refine hK2.out _ _ hS6 (fun hH6 => ?_)
        clear hK2 K2
        try simp only [Act.put, List.setIfInBounds_toArray, List.set_cons_zero, List.set_cons_succ]
        refine wpAnyH_takeD (i := 5) (some 33) (v := .agg #[.int .i64 limit, .slice (some ⟨b, 0, none⟩) l.length (l.length + 2)]) rfl rfl (by kernel_rfl) (by kernel_rfl) (by kernel_rfl) (fun _ _ _ h => h) (Or.inl ⟨by kernel_rfl, ?hy6⟩) (by assumption) ?rest6
        case hy6 => (intro x hSx; obtain ⟨hS1, hS2⟩ := hSx; go_simp; first | done | with_reducible rfl)
        try simp only [Act.put, List.setIfInBounds_toArray, List.set_cons_zero, List.set_cons_succ]
        have hX6 := HX5.out.old hb6
        have x0 := hX6.cell 0
        have x1 := hX6.cell 1
        have y0 := hX6.frozen 0
        have y1 := hX6.frozen 1
        simp only [List.getElem?_toArray, List.getElem?_cons_zero, List.getElem?_cons_succ] at x0 x1
        have HX6 : Hid (Blk w6 X 25 #[.int .i64 0, .slice none 0 0]) := hX6
        have HB36 : Hid (Below w3.heap.size w3 w6) := hb36
        have HLI : Hid (LIf w6 w5.heap.size w6.heap.size l b) := hLI
        have HB6 : Hid (Below w5.heap.size w5 w6) := hb6
        clear hX6 hb36 hLI hb6 hS6
        refine wpAnyH_ready (rs := [7]) (by kernel_rfl) (by simp) ?_
        refine AllReadyH.cons rfl (fun K2 hK2 => ?_) AllReadyH.nil
        have HX3 : Hid (w3.heap.size ≤ X) := by show _ ≤ _; rw [← HXd.out]; exact HVb.out.size
        have HBE : Hid (Below w3.heap.size w3 ((w6.setCell ⟨X, 0, none⟩ (.int .i64 limit)).setCell ⟨X, 1, none⟩ (.slice (some ⟨b, 0, none⟩) l.length (l.length + 2)))) := (HB36.out.setCell (p := ⟨X, 0, none⟩) HX3.out _).setCell (p := ⟨X, 1, none⟩) HX3.out _
        have HSE := HSx.out _ HBE.out
        have HSE2 : Hid (_ ∧ _) := HSE
        clear HSE
        go_simp
        refine hK2.out _ _ HSE2.out (fun _ => ?_)
        clear hK2 K2
        try simp only [Act.put, List.setIfInBounds_toArray, List.set_cons_zero, List.set_cons_succ]
        refine wpAnyH_done (by kernel_rfl) ?_ _
        go_wp2_with fail
        go_meet
        have hO := (Oth.set X 0 w6 (.int .i64 limit)).trans (Oth.set X 1 _ (.slice (some ⟨b, 0, none⟩) l.length (l.length + 2)))
        have hz5 := HZ5.out
        have h3 := HX3.out
        refine ⟨X, b, rfl, HX3.out, (HX6.out.set 0 _).set 1 _, ?_, HBE.out⟩
        exact (HLI.out.keep fun k hk1 hk2 => hO.block k hk2 (by omega)).mono hO.size (by omega)
    case rest =>
      obtain ⟨X, b, rfl, hX3, hBX, hLI, hb3c⟩ := hcut
      have hb0c := hb03.trans (hb3c.mono hb03.size)
      have hS4 := HS3.out.old hb3c
      have hin4 := HIN3.out.keep hb3c (by omega)
      have hs4 := hb3c.size
      have HPC : Hid (Ints wc.heap.size wc (.slice pa p.length pc) p) := (HPT.out.below hb0c (Nat.le_refl _)).mono hb0c.size
      obtain ⟨R, hR⟩ : ∃ R, findF l p = R := ⟨_, rfl⟩
      obtain ⟨PS, hPS⟩ : ∃ PS, pathsS l = PS := ⟨_, rfl⟩
      have HPL : Hid (PS.length ≤ 64) := by show _ ≤ _; rw [← hPS]; exact pathsS_le l
      have HPH : Hid (∀ r ∈ PS, r.length ≤ 16) := by show ∀ _, _; rw [← hPS]; exact pathsS_short l
      have HFF : Hid (FitsF 17179869184 (.mk (ownO R) (fldO R))) := by show FitsF _ _; rw [← hR]; exact findF_fits p l hf34
      have HRF : Hid (Calls Tryz.prog 18 #[.agg #[.int .i64 limit, .slice aa l.length ca], .slice pa p.length pc] wc fun e w' => FndPost R wc e w') := by
        have := rfindF_any limit l (by omega) hf26 aa ca hca pa pc p hpl n₀ wc hin4 (by omega) HPC.out
        rw [hR] at this
        exact this
      have HFD : Hid (∀ W, Below wc.heap.size wc W → Calls Tryz.prog 19 #[.agg #[.int .i64 limit, .slice (some ⟨b, 0, none⟩) l.length (l.length + 2)], .slice pa p.length pc] W fun e w' => FndPost R W e w') := fun W hW => by
        have := find_any limit l (by omega) hf26 (some ⟨b, 0, none⟩) (l.length + 2) pa pc p hpl wc.heap.size W ((hLI.fin.mono (Nat.le_refl _) (Nat.zero_le _)).keep hW (Nat.le_refl _)) hW.size ((HPC.out.below hW (Nat.le_refl _)).mono hW.size)
        rw [hR] at this
        exact this
      have HRP : Hid (∀ W, Below wc.heap.size wc W → Calls Tryz.prog 21 #[.agg #[.int .i64 limit, .slice aa l.length ca]] W fun e w' => ∃ a' c', e = .returned (.slice a' PS.length c') ∧ RowsUp w' W.heap.size (.slice a' PS.length c') PS ∧ Below W.heap.size W w') := fun W hW => by
        have := rpathsS_any limit l (by omega) hf26 aa ca n₀ W (hin4.keep hW (by omega)) (by have := hW.size; omega)
        rw [hPS] at this
        exact this
      have HQS : Hid (∀ W, Below wc.heap.size wc W → Calls Tryz.prog 22 #[.agg #[.int .i64 limit, .slice (some ⟨b, 0, none⟩) l.length (l.length + 2)]] W fun e w' => ∃ a' c', e = .returned (.slice a' PS.length c') ∧ RowsUp w' W.heap.size (.slice a' PS.length c') PS ∧ Below W.heap.size W w') := fun W hW => by
        have := paths_s limit l (some ⟨b, 0, none⟩) (l.length + 2) 0 wc.heap.size W (by omega) hf26 (by omega) hW.size ((hLI.fin.mono (Nat.le_refl _) (Nat.zero_le _)).keep hW (Nat.le_refl _))
        rw [hPS] at this
        exact this
      have c0 : wc.cell? ⟨w.heap.size, 0, none⟩ = some (.int .i64 limit) := hS4.cell 0
      have c1 : wc.cell? ⟨w.heap.size, 1, none⟩ = some (.slice aa l.length ca) := hS4.cell 1
      have HLI : Hid (LIf wc w3.heap.size wc.heap.size l b) := hLI
      have HIN4 : Hid (FIn wc 0 n₀ l aa) := hin4
      have HKP : Hid (KeptOkF l) := keptF_list (by omega) hf26
      have HX : Hid (Blk wc X 25 #[.int .i64 limit, .slice (some ⟨b, 0, none⟩) l.length (l.length + 2)]) := hBX
      have HS4 : Hid (Blk wc w.heap.size 25 #[.int .i64 limit, .slice aa l.length ca]) := hS4
      have HB0 : Hid (Below w.heap.size w wc) := hb0c
      have HZC : Hid (w.heap.size ≤ wc.heap.size ∧ n₀ ≤ wc.heap.size) := ⟨hb0c.size, by have := hb0c.size; omega⟩
      clear hLI hin4 hBX hS4 HIN3 HS3 HL hf34 hf26 s0 s1 hb3c hb03 hb02 hb1 hb2 hb3 hR hPS hb0c HPT HPC
      obtain ⟨o, ho⟩ : ∃ o, ownO R = o := ⟨_, rfl⟩
      obtain ⟨fl, hfl⟩ : ∃ fl, fldO R = fl := ⟨_, rfl⟩
      obtain ⟨isv, his⟩ : ∃ q, R.isSome = q := ⟨_, rfl⟩
      obtain ⟨n, hn⟩ : ∃ n, fl.length = n := ⟨_, rfl⟩
      have HN : Hid (fl.length = n) := hn
      obtain ⟨ps, hps⟩ : ∃ n, PS.length = n := ⟨_, rfl⟩
      have HPN : Hid (PS.length = ps) := hps
      unfold FndPost at HRF HFD
      rw [ho, hfl, his, hn] at HRF HFD
      rw [ho, hfl] at HFF
      rw [hps] at HRP HQS HPL
      clear ho hfl his hn hps
      have hfd0 := HRF.out
      unfold fV at hfd0 HFD
      have HAc_wc : Hid (Below wc.heap.size wc wc) := Below.refl _ _
      clear HRF
      go_wp2_with fail
      refine hfd0.mono ?_
      clear hfd0 c0 c1
      rintro e w5 ⟨hb5, a1, c1, rfl, hft, hle⟩
      have HT1 : Hid (FT w5 wc.heap.size none fl a1 c1) := hft
      clear hft hle
      go_upto_region 6 with fail
      have HAc_w5 : Hid (Below wc.heap.size wc w5) := HAc_wc.out.trans (hb5.mono HAc_wc.out.size)
      clear HAc_wc
      clear hb5
      have HA5_w5 : Hid (Below w5.heap.size w5 w5) := Below.refl _ _
      have hbx := (Below.refl w5.heap.size w5).alloc (Nat.le_refl _) (.cells #[.string o.name, .int .u8 o.kind, .bool o.down, .int .u8 o.nulls, .bool o.bnd, .bool o.ln, .string o.lm, .bool o.hn, .string o.hm, .int .i64 o.most, .int .i64 o.str, .bool o.shf, .bool o.bck, .slice a1 n c1] 48)
      have HN5 : Hid (Blk (w5.alloc (.cells #[.string o.name, .int .u8 o.kind, .bool o.down, .int .u8 o.nulls, .bool o.bnd, .bool o.ln, .string o.lm, .bool o.hn, .string o.hm, .int .i64 o.most, .int .i64 o.str, .bool o.shf, .bool o.bck, .slice a1 n c1] 48)) w5.heap.size 48 #[.string o.name, .int .u8 o.kind, .bool o.down, .int .u8 o.nulls, .bool o.bnd, .bool o.ln, .string o.lm, .bool o.hn, .string o.hm, .int .i64 o.most, .int .i64 o.str, .bool o.shf, .bool o.bck, .slice a1 n c1]) := Blk.new w5 48 #[.string o.name, .int .u8 o.kind, .bool o.down, .int .u8 o.nulls, .bool o.bnd, .bool o.ln, .string o.lm, .bool o.hn, .string o.hm, .int .i64 o.most, .int .i64 o.str, .bool o.shf, .bool o.bck, .slice a1 n c1]
      generalize w5.alloc (.cells #[.string o.name, .int .u8 o.kind, .bool o.down, .int .u8 o.nulls, .bool o.bnd, .bool o.ln, .string o.lm, .bool o.hn, .string o.hm, .int .i64 o.most, .int .i64 o.str, .bool o.shf, .bool o.bck, .slice a1 n c1] 48) = w6 at hbx HN5 ⊢
      have H56 : Hid (w5.heap.size ≤ w6.heap.size) := hbx.size
      have HAc_w6 : Hid (Below wc.heap.size wc w6) := HAc_w5.out.trans (hbx.mono HAc_w5.out.size)
      have HA5_w6 : Hid (Below w5.heap.size w5 w6) := HA5_w5.out.trans (hbx.mono HA5_w5.out.size)
      clear HAc_w5 HA5_w5
      clear hbx
      have HA6_w6 : Hid (Below w6.heap.size w6 w6) := Below.refl _ _
      have HC6 : Hid (wc.heap.size ≤ w6.heap.size) := HAc_w6.out.size
      have x0 : w6.cell? ⟨X, 0, none⟩ = some (.int .i64 limit) := (HX.out.old HAc_w6.out).cell 0
      have x1 : w6.cell? ⟨X, 1, none⟩ = some (.slice (some ⟨b, 0, none⟩) l.length (l.length + 2)) := (HX.out.old HAc_w6.out).cell 1
      have hfd0 := HFD.out w6 HAc_w6.out
      go_wp2_with fail
      refine hfd0.mono ?_
      clear hfd0 x0 x1
      rintro e w7 ⟨hb5, a2, c2, rfl, hft, hle⟩
      have HT2 : Hid (FT w7 w6.heap.size none fl a2 c2) := hft
      have HLE2 : Hid (n ≤ c2) := hle
      clear hft hle
      go_upto_region 7 with fail
      have H67 : Hid (w6.heap.size ≤ w7.heap.size) := hb5.size
      have HAc_w7 : Hid (Below wc.heap.size wc w7) := HAc_w6.out.trans (hb5.mono HAc_w6.out.size)
      have HA5_w7 : Hid (Below w5.heap.size w5 w7) := HA5_w6.out.trans (hb5.mono HA5_w6.out.size)
      have HA6_w7 : Hid (Below w6.heap.size w6 w7) := HA6_w6.out.trans (hb5.mono HA6_w6.out.size)
      clear HAc_w6 HA5_w6 HA6_w6
      clear hb5
      have HA7_w7 : Hid (Below w7.heap.size w7 w7) := Below.refl _ _
      have hbx := (Below.refl w7.heap.size w7).alloc (Nat.le_refl _) (.cells #[.string o.name, .int .u8 o.kind, .bool o.down, .int .u8 o.nulls, .bool o.bnd, .bool o.ln, .string o.lm, .bool o.hn, .string o.hm, .int .i64 o.most, .int .i64 o.str, .bool o.shf, .bool o.bck, .slice a2 n c2] 48)
      have HN7 : Hid (Blk (w7.alloc (.cells #[.string o.name, .int .u8 o.kind, .bool o.down, .int .u8 o.nulls, .bool o.bnd, .bool o.ln, .string o.lm, .bool o.hn, .string o.hm, .int .i64 o.most, .int .i64 o.str, .bool o.shf, .bool o.bck, .slice a2 n c2] 48)) w7.heap.size 48 #[.string o.name, .int .u8 o.kind, .bool o.down, .int .u8 o.nulls, .bool o.bnd, .bool o.ln, .string o.lm, .bool o.hn, .string o.hm, .int .i64 o.most, .int .i64 o.str, .bool o.shf, .bool o.bck, .slice a2 n c2]) := Blk.new w7 48 #[.string o.name, .int .u8 o.kind, .bool o.down, .int .u8 o.nulls, .bool o.bnd, .bool o.ln, .string o.lm, .bool o.hn, .string o.hm, .int .i64 o.most, .int .i64 o.str, .bool o.shf, .bool o.bck, .slice a2 n c2]
      generalize w7.alloc (.cells #[.string o.name, .int .u8 o.kind, .bool o.down, .int .u8 o.nulls, .bool o.bnd, .bool o.ln, .string o.lm, .bool o.hn, .string o.hm, .int .i64 o.most, .int .i64 o.str, .bool o.shf, .bool o.bck, .slice a2 n c2] 48) = w8 at hbx HN7 ⊢
      have H78 : Hid (w7.heap.size ≤ w8.heap.size) := hbx.size
      have HAc_w8 : Hid (Below wc.heap.size wc w8) := HAc_w7.out.trans (hbx.mono HAc_w7.out.size)
      have HA5_w8 : Hid (Below w5.heap.size w5 w8) := HA5_w7.out.trans (hbx.mono HA5_w7.out.size)
      have HA6_w8 : Hid (Below w6.heap.size w6 w8) := HA6_w7.out.trans (hbx.mono HA6_w7.out.size)
      have HA7_w8 : Hid (Below w7.heap.size w7 w8) := HA7_w7.out.trans (hbx.mono HA7_w7.out.size)
      clear HAc_w7 HA5_w7 HA6_w7 HA7_w7
      clear hbx
      have HA8_w8 : Hid (Below w8.heap.size w8 w8) := Below.refl _ _
      have x0 : w8.cell? ⟨X, 0, none⟩ = some (.int .i64 limit) := (HX.out.old HAc_w8.out).cell 0
      have x1 : w8.cell? ⟨X, 1, none⟩ = some (.slice (some ⟨b, 0, none⟩) l.length (l.length + 2)) := (HX.out.old HAc_w8.out).cell 1
      have hfd0 := HFD.out w8 HAc_w8.out
      go_wp2_with fail
      refine hfd0.mono ?_
      clear hfd0 x0 x1
      rintro e w9 ⟨hb5, a3, c3, rfl, hft, hle⟩
      have HT3 : Hid (FT w9 w8.heap.size none fl a3 c3) := hft
      have HLE3 : Hid (n ≤ c3) := hle
      clear hft hle
      go_upto_region 8 with fail
      have H79 : Hid (w7.heap.size ≤ w9.heap.size) := Nat.le_trans H78.out hb5.size
      have HAc_w9 : Hid (Below wc.heap.size wc w9) := HAc_w8.out.trans (hb5.mono HAc_w8.out.size)
      have HA5_w9 : Hid (Below w5.heap.size w5 w9) := HA5_w8.out.trans (hb5.mono HA5_w8.out.size)
      have HA6_w9 : Hid (Below w6.heap.size w6 w9) := HA6_w8.out.trans (hb5.mono HA6_w8.out.size)
      have HA7_w9 : Hid (Below w7.heap.size w7 w9) := HA7_w8.out.trans (hb5.mono HA7_w8.out.size)
      have HA8_w9 : Hid (Below w8.heap.size w8 w9) := HA8_w8.out.trans (hb5.mono HA8_w8.out.size)
      clear HAc_w8 HA5_w8 HA6_w8 HA7_w8 HA8_w8
      clear hb5
      have HA9_w9 : Hid (Below w9.heap.size w9 w9) := Below.refl _ _
      have hbx := (Below.refl w9.heap.size w9).alloc (Nat.le_refl _) (.cells #[.string o.name, .int .u8 o.kind, .bool o.down, .int .u8 o.nulls, .bool o.bnd, .bool o.ln, .string o.lm, .bool o.hn, .string o.hm, .int .i64 o.most, .int .i64 o.str, .bool o.shf, .bool o.bck, .slice a3 n c3] 48)
      have HN9 : Hid (Blk (w9.alloc (.cells #[.string o.name, .int .u8 o.kind, .bool o.down, .int .u8 o.nulls, .bool o.bnd, .bool o.ln, .string o.lm, .bool o.hn, .string o.hm, .int .i64 o.most, .int .i64 o.str, .bool o.shf, .bool o.bck, .slice a3 n c3] 48)) w9.heap.size 48 #[.string o.name, .int .u8 o.kind, .bool o.down, .int .u8 o.nulls, .bool o.bnd, .bool o.ln, .string o.lm, .bool o.hn, .string o.hm, .int .i64 o.most, .int .i64 o.str, .bool o.shf, .bool o.bck, .slice a3 n c3]) := Blk.new w9 48 #[.string o.name, .int .u8 o.kind, .bool o.down, .int .u8 o.nulls, .bool o.bnd, .bool o.ln, .string o.lm, .bool o.hn, .string o.hm, .int .i64 o.most, .int .i64 o.str, .bool o.shf, .bool o.bck, .slice a3 n c3]
      generalize w9.alloc (.cells #[.string o.name, .int .u8 o.kind, .bool o.down, .int .u8 o.nulls, .bool o.bnd, .bool o.ln, .string o.lm, .bool o.hn, .string o.hm, .int .i64 o.most, .int .i64 o.str, .bool o.shf, .bool o.bck, .slice a3 n c3] 48) = w10 at hbx HN9 ⊢
      have HAc_w10 : Hid (Below wc.heap.size wc w10) := HAc_w9.out.trans (hbx.mono HAc_w9.out.size)
      have HA5_w10 : Hid (Below w5.heap.size w5 w10) := HA5_w9.out.trans (hbx.mono HA5_w9.out.size)
      have HA6_w10 : Hid (Below w6.heap.size w6 w10) := HA6_w9.out.trans (hbx.mono HA6_w9.out.size)
      have HA7_w10 : Hid (Below w7.heap.size w7 w10) := HA7_w9.out.trans (hbx.mono HA7_w9.out.size)
      have HA8_w10 : Hid (Below w8.heap.size w8 w10) := HA8_w9.out.trans (hbx.mono HA8_w9.out.size)
      have HA9_w10 : Hid (Below w9.heap.size w9 w10) := HA9_w9.out.trans (hbx.mono HA9_w9.out.size)
      clear HAc_w9 HA5_w9 HA6_w9 HA7_w9 HA8_w9 HA9_w9
      clear hbx
      have HA10_w10 : Hid (Below w10.heap.size w10 w10) := Below.refl _ _
      obtain ⟨g0, g1, g2, g3, g4, g5, g6, g7, g8, g9, g10, g11, g12, g13⟩ := (HN7.out.old HA8_w10.out).c14
      obtain ⟨h0, h1, h2, h3, h4, h5, h6, h7, h8, h9, h10, h11, h12, h13⟩ := (HN5.out.old HA6_w10.out).c14
      have hsf := sameField_eq o fl (sameFields_any fl) a2 a1 c2 c1 w6.heap.size w7.heap.size wc.heap.size w5.heap.size w10 (HT2.out.fin.keep HA7_w10.out (Nat.le_refl _)) (HT1.out.fin.keep HA5_w10.out (Nat.le_refl _)) HA7_w10.out.size HA5_w10.out.size (HFF.out.len) (fun x hx => HFF.out.mem hx)
      rw [HN.out] at hsf
      go_wp2_with fail
      refine hsf.mono ?_
      clear hsf g0 g1 g2 g3 g4 g5 g6 g7 g8 g9 g10 g11 g12 g13 h0 h1 h2 h3 h4 h5 h6 h7 h8 h9 h10 h11 h12 h13
      rintro _ w11 ⟨rfl, hbz⟩
      have HAc_w11 : Hid (Below wc.heap.size wc w11) := HAc_w10.out.trans (hbz.mono HAc_w10.out.size)
      have HA5_w11 : Hid (Below w5.heap.size w5 w11) := HA5_w10.out.trans (hbz.mono HA5_w10.out.size)
      have HA6_w11 : Hid (Below w6.heap.size w6 w11) := HA6_w10.out.trans (hbz.mono HA6_w10.out.size)
      have HA7_w11 : Hid (Below w7.heap.size w7 w11) := HA7_w10.out.trans (hbz.mono HA7_w10.out.size)
      have HA8_w11 : Hid (Below w8.heap.size w8 w11) := HA8_w10.out.trans (hbz.mono HA8_w10.out.size)
      have HA9_w11 : Hid (Below w9.heap.size w9 w11) := HA9_w10.out.trans (hbz.mono HA9_w10.out.size)
      have HA10_w11 : Hid (Below w10.heap.size w10 w11) := HA10_w10.out.trans (hbz.mono HA10_w10.out.size)
      clear HAc_w10 HA5_w10 HA6_w10 HA7_w10 HA8_w10 HA9_w10 HA10_w10
      clear hbz
      have HA11_w11 : Hid (Below w11.heap.size w11 w11) := Below.refl _ _
      have s0 : w11.cell? ⟨w.heap.size, 0, none⟩ = some (.int .i64 limit) := (HS4.out.old HAc_w11.out).cell 0
      have s1 : w11.cell? ⟨w.heap.size, 1, none⟩ = some (.slice aa l.length ca) := (HS4.out.old HAc_w11.out).cell 1
      have hq := HRP.out w11 HAc_w11.out
      go_wp2_with fail
      refine hq.mono ?_
      clear hq s0 s1 HRP
      rintro _ w12 ⟨la, lc, rfl, hrow, hbz⟩
      have HRL : Hid (RowsUp w12 w11.heap.size (.slice la ps lc) PS) := hrow
      clear hrow
      have HAc_w12 : Hid (Below wc.heap.size wc w12) := HAc_w11.out.trans (hbz.mono HAc_w11.out.size)
      have HA5_w12 : Hid (Below w5.heap.size w5 w12) := HA5_w11.out.trans (hbz.mono HA5_w11.out.size)
      have HA6_w12 : Hid (Below w6.heap.size w6 w12) := HA6_w11.out.trans (hbz.mono HA6_w11.out.size)
      have HA7_w12 : Hid (Below w7.heap.size w7 w12) := HA7_w11.out.trans (hbz.mono HA7_w11.out.size)
      have HA8_w12 : Hid (Below w8.heap.size w8 w12) := HA8_w11.out.trans (hbz.mono HA8_w11.out.size)
      have HA9_w12 : Hid (Below w9.heap.size w9 w12) := HA9_w11.out.trans (hbz.mono HA9_w11.out.size)
      have HA10_w12 : Hid (Below w10.heap.size w10 w12) := HA10_w11.out.trans (hbz.mono HA10_w11.out.size)
      have HA11_w12 : Hid (Below w11.heap.size w11 w12) := HA11_w11.out.trans (hbz.mono HA11_w11.out.size)
      clear HAc_w11 HA5_w11 HA6_w11 HA7_w11 HA8_w11 HA9_w11 HA10_w11 HA11_w11
      clear hbz
      have HA12_w12 : Hid (Below w12.heap.size w12 w12) := Below.refl _ _
      have HSc : Hid (wc.heap.size ≤ w12.heap.size) := HAc_w12.out.size
      have HS5 : Hid (w5.heap.size ≤ w12.heap.size) := HA5_w12.out.size
      have HS6 : Hid (w6.heap.size ≤ w12.heap.size) := HA6_w12.out.size
      have HS7 : Hid (w7.heap.size ≤ w12.heap.size) := HA7_w12.out.size
      have HS8 : Hid (w8.heap.size ≤ w12.heap.size) := HA8_w12.out.size
      have HS9 : Hid (w9.heap.size ≤ w12.heap.size) := HA9_w12.out.size
      have HS10 : Hid (w10.heap.size ≤ w12.heap.size) := HA10_w12.out.size
      have HS11 : Hid (w11.heap.size ≤ w12.heap.size) := HA11_w12.out.size
      have HS12 : Hid (w12.heap.size ≤ w12.heap.size) := HA12_w12.out.size
      have x0 : w12.cell? ⟨X, 0, none⟩ = some (.int .i64 limit) := (HX.out.old HAc_w12.out).cell 0
      have x1 : w12.cell? ⟨X, 1, none⟩ = some (.slice (some ⟨b, 0, none⟩) l.length (l.length + 2)) := (HX.out.old HAc_w12.out).cell 1
      have hq := HQS.out w12 HAc_w12.out
      go_wp2_with fail
      refine hq.mono ?_
      clear hq x0 x1
      rintro _ w13 ⟨pp, pk, rfl, hrow, hbz⟩
      have HRP : Hid (RowsUp w13 w12.heap.size (.slice pp ps pk) PS) := hrow
      clear hrow
      have HSZP : Hid (w12.heap.size ≤ w13.heap.size) := hbz.size
      have HAc_w13 : Hid (Below wc.heap.size wc w13) := HAc_w12.out.trans (hbz.mono HAc_w12.out.size)
      have HA5_w13 : Hid (Below w5.heap.size w5 w13) := HA5_w12.out.trans (hbz.mono HA5_w12.out.size)
      have HA6_w13 : Hid (Below w6.heap.size w6 w13) := HA6_w12.out.trans (hbz.mono HA6_w12.out.size)
      have HA7_w13 : Hid (Below w7.heap.size w7 w13) := HA7_w12.out.trans (hbz.mono HA7_w12.out.size)
      have HA8_w13 : Hid (Below w8.heap.size w8 w13) := HA8_w12.out.trans (hbz.mono HA8_w12.out.size)
      have HA9_w13 : Hid (Below w9.heap.size w9 w13) := HA9_w12.out.trans (hbz.mono HA9_w12.out.size)
      have HA10_w13 : Hid (Below w10.heap.size w10 w13) := HA10_w12.out.trans (hbz.mono HA10_w12.out.size)
      have HA11_w13 : Hid (Below w11.heap.size w11 w13) := HA11_w12.out.trans (hbz.mono HA11_w12.out.size)
      have HA12_w13 : Hid (Below w12.heap.size w12 w13) := HA12_w12.out.trans (hbz.mono HA12_w12.out.size)
      clear HAc_w12 HA5_w12 HA6_w12 HA7_w12 HA8_w12 HA9_w12 HA10_w12 HA11_w12 HA12_w12
      clear hbz
      have HA13_w13 : Hid (Below w13.heap.size w13 w13) := Below.refl _ _
      have x0 : w13.cell? ⟨X, 0, none⟩ = some (.int .i64 limit) := (HX.out.old HAc_w13.out).cell 0
      have x1 : w13.cell? ⟨X, 1, none⟩ = some (.slice (some ⟨b, 0, none⟩) l.length (l.length + 2)) := (HX.out.old HAc_w13.out).cell 1
      have hq := HQS.out w13 HAc_w13.out
      go_wp2_with fail
      refine hq.mono ?_
      clear hq x0 x1
      rintro _ w14 ⟨qp, qk, rfl, hrow, hbz⟩
      have HRQ : Hid (RowsUp w14 w13.heap.size (.slice qp ps qk) PS) := hrow
      clear hrow
      have HAc_w14 : Hid (Below wc.heap.size wc w14) := HAc_w13.out.trans (hbz.mono HAc_w13.out.size)
      have HA5_w14 : Hid (Below w5.heap.size w5 w14) := HA5_w13.out.trans (hbz.mono HA5_w13.out.size)
      have HA6_w14 : Hid (Below w6.heap.size w6 w14) := HA6_w13.out.trans (hbz.mono HA6_w13.out.size)
      have HA7_w14 : Hid (Below w7.heap.size w7 w14) := HA7_w13.out.trans (hbz.mono HA7_w13.out.size)
      have HA8_w14 : Hid (Below w8.heap.size w8 w14) := HA8_w13.out.trans (hbz.mono HA8_w13.out.size)
      have HA9_w14 : Hid (Below w9.heap.size w9 w14) := HA9_w13.out.trans (hbz.mono HA9_w13.out.size)
      have HA10_w14 : Hid (Below w10.heap.size w10 w14) := HA10_w13.out.trans (hbz.mono HA10_w13.out.size)
      have HA11_w14 : Hid (Below w11.heap.size w11 w14) := HA11_w13.out.trans (hbz.mono HA11_w13.out.size)
      have HA12_w14 : Hid (Below w12.heap.size w12 w14) := HA12_w13.out.trans (hbz.mono HA12_w13.out.size)
      have HA13_w14 : Hid (Below w13.heap.size w13 w14) := HA13_w13.out.trans (hbz.mono HA13_w13.out.size)
      clear HAc_w13 HA5_w13 HA6_w13 HA7_w13 HA8_w13 HA9_w13 HA10_w13 HA11_w13 HA12_w13 HA13_w13
      clear hbz
      have HA14_w14 : Hid (Below w14.heap.size w14 w14) := Below.refl _ _
      clear HQS HFD
      have tis : (isv != isv) = false := bne_self_eq_false isv
      go_upto_region 15 with fail
      obtain ⟨vs1, HVL, HVA, HVB, HV0⟩ : ∃ vs1 : List Value, Hid (vs1.length = PS.length) ∧ Hid (∀ (i j : Nat) (hi : i < vs1.length) (hj : j < vs1.length), i < j → Apt vs1[i] vs1[j]) ∧ Hid (∀ j (hj : j < vs1.length), ∀ b, vs1[j].ownBlock = some b → b < w13.heap.size) ∧ Hid (0 < PS.length → ∃ g, pp = some ⟨g, 0, none⟩ ∧ w12.heap.size ≤ g ∧ g < w13.heap.size ∧ OneR w14 w12.heap.size g vs1 PS 0) := by
        obtain ⟨vs1, q1, q2, q3, q4⟩ := HRP.out.oneR
        refine ⟨vs1, q1, q2, q3, fun h => ?_⟩
        obtain ⟨g, cap, e1, e2, e3, e4⟩ := q4 h
        obtain ⟨rfl, _, _⟩ := Value.slice.inj e1
        obtain ⟨cs, hB, hs⟩ := e4.blk
        exact ⟨g, rfl, e2, e3, ⟨⟨cs, (HA13_w14.out.block g e3).trans hB, hs⟩, fun j hj hij => (HA13_w14.out.cell (p := ⟨g, j, none⟩) e3).trans (e4.cell j hj hij), fun j h1 h2 hij => own_after (e4.pts j h1 h2 hij) HA13_w14.out⟩⟩
      have HSZ : Hid (w12.heap.size ≤ w13.heap.size ∧ w13.heap.size ≤ w14.heap.size) := ⟨HSZP.out, HA13_w14.out.size⟩
      clear HRP
      have hps64 : ps ≤ 64 := HPL.out
      go_loopw [17] (fun iv wr => ∃ i : Nat, i ≤ ps ∧ iv = .int .i64 (i : Int) ∧ Hid (i < ps → ∃ g, pp = some ⟨g, 0, none⟩ ∧ w12.heap.size ≤ g ∧ g < w13.heap.size ∧ OneR wr w12.heap.size g vs1 PS i) ∧ Hid (Wr w12.heap.size w13.heap.size w14 wr)) (fun iv _ => ps - (intOf iv).toNat)
      case atStart => exact ⟨0, Nat.zero_le _, rfl, fun h => HV0.out (by rw [HPN.out]; exact h), Wr.refl _ _ _⟩
      case round =>
        obtain ⟨i, hi, rfl, HON, HW⟩ := hrel
        by_cases hlt : i < ps
        · have tl : decide ((i : Int) < (ps : Int)) = true := decide_eq_true (by omega)
          have hltI : (i : Int) < (ps : Int) := by omega
          obtain ⟨g, rfl, hg1, hg2, hO⟩ := HON.out hlt
          have hi2 : i < PS.length := by rw [HPN.out]; exact hlt
          have hi1 : i < vs1.length := by rw [HVL.out]; exact hi2
          obtain ⟨gl, ra, rc, rfl, hcl, hil⟩ := HRL.out.nth (HA12_w14.out.trans HW.out.below) hi2
          have hM : ∀ k, Mid w14 (wr.drewN k) w12.heap.size w13.heap.size g i vs1 PS vs1[i] PS[i].length := fun k => Mid.start (wr := wr.drewN k) ⟨hO.blk, hO.cell, hO.pts⟩ ⟨below_drewN HW.out.below k, HW.out.above⟩ hi1 hi2 HVA.out HVB.out
          have hip := (hO.pts i hi1 hi2 (Nat.le_refl _)).ints
          have e0 := hO.cell i hi1 (Nat.le_refl _)
          have hm16 : PS[i].length ≤ 16 := HPH.out _ (List.getElem_mem hi2)
          have HBG : Hid (w12.heap.size ≤ g ∧ g < w13.heap.size ∧ w13.heap.size ≤ w14.heap.size) := ⟨hg1, hg2, HSZ.out.2⟩
          have HIL : Hid (i < PS.length) := hi2
          have HLT : Hid (∀ j (hj : j < vs1.length), ∀ b, vs1[j].ownBlock = some b → b < w13.heap.size) := HVB.out
          generalize vs1[i] = vp at hM hip e0
          generalize PS[i] = zs at hM hip hcl hil hm16
          obtain ⟨m1, hm1⟩ : ∃ m, zs.length = m := ⟨_, rfl⟩
          obtain ⟨pa1, pc1, hvp⟩ := hip.val
          subst hvp
          have HS : Hid (∀ k, Calls Tryz.prog 23 #[.slice pa1 m1 pc1, .slice ra m1 rc] (wr.drewN k) fun e w' => e = .returned (.bool true) ∧ ∃ q, w' = (wr.drewN k).drewN q) := fun k => by
            have q := sameInts_q _ _ zs zs wr.heap.size w12.heap.size (wr.drewN k) (hip.below (below_drewN (Below.refl _ _) k) (Nat.le_refl _)) (hil.below (below_drewN (Below.refl _ _) k) (Nat.le_refl _)) (by omega) (by omega)
            rw [decide_eq_true rfl, hm1] at q
            exact q
          rw [hm1] at hM hcl e0 hm16
          have HMX : Hid (∀ k, Mid w14 (wr.drewN k) w12.heap.size w13.heap.size g i vs1 PS (.slice pa1 m1 pc1) m1) := hM
          have hltN : i < ps := hlt
          clear hM hO hi1 hi2 HON HW hip hil hm1
          go_upto_region 17 with fail
          go_quiet (first | (go_at_call 23; refine Calls.quiet_of (HS.out _)))
          have HM1 : Hid (Mid w14 (wr.drewN nq) w12.heap.size w13.heap.size g i vs1 PS (.slice pa1 m1 pc1) m1) := HMX.out nq
          clear HMX HS e0 hcl
          generalize wr.drewN nq = wv at HM1 ⊢
          go_wp2_with fail
          go_loopw [19] (fun kv wy => ∃ k1 : Nat, k1 ≤ m1 ∧ kv = .int .i64 (k1 : Int) ∧ Hid (Mid w14 wy w12.heap.size w13.heap.size g i vs1 PS (.slice pa1 m1 pc1) m1)) (fun kv _ => m1 - (intOf kv).toNat)
          case atStart => exact ⟨0, Nat.zero_le _, rfl, HM1.out⟩
          case round =>
            clear HM1
            obtain ⟨k1, hk, rfl, HM⟩ := hrel
            have e1 := HM.out.cell
            by_cases hk2 : k1 < m1
            · have tk : decide ((k1 : Int) < (m1 : Int)) = true := decide_eq_true (by omega)
              obtain ⟨b2, rfl, hbc, hbf⟩ := HM.out.row.nth (by omega)
              obtain ⟨u, eu⟩ := hbc k1 hk2
              have ef := hbf k1
              have hkI : (k1 : Int) < (m1 : Int) := by omega
              have HM2 : Hid (Mid w14 (_ : World) w12.heap.size w13.heap.size g i vs1 PS (.slice (some ⟨b2, 0, none⟩) m1 pc1) m1) := HM.out.put k1 (-5)
              clear hbc hbf HM
              go_wp2_with fail
              go_roundw
              case rel => exact ⟨k1 + 1, by omega, by simp, HM2.out⟩
              case measure => simp only [intOf]; omega
            · have tk : decide ((k1 : Int) < (m1 : Int)) = false := decide_eq_false (by omega)
              obtain ⟨v6, w6', hr6, hc6, hf6, HM6⟩ := HM.out.app (by omega) HLT.out HIL.out HBG.out 7 8 29
              have e1a : (wr.alloc (.cells #[.int .i64 7, .int .i64 8] 3)).cell? ⟨g, i, none⟩ = some (.slice pa1 m1 pc1) := HM.out.cellA _
              obtain ⟨a6, c6, hv6⟩ : ∃ a6 c6, v6 = .slice a6 (m1 + 2) c6 := by
                obtain ⟨z1, hz, hI⟩ := HM6.row
                obtain ⟨a', c', q⟩ := hI.val
                rw [hz] at q
                exact ⟨a', c', q⟩
              subst hv6
              have HM7 : Hid (Mid w14 (w6'.setCell ⟨g, i, none⟩ (.slice a6 (m1 + 2) c6)) w12.heap.size w13.heap.size g i vs1 PS (.slice a6 (m1 + 2) c6) (m1 + 2)) := HM6
              clear HM6 HM
              go_wp2_with (at_builtin; refine wpList_app rfl _ _ 29 rfl rfl rfl ?_; refine ⟨_, w6', hr6, ?_⟩)
              go_roundw
              case rel => exact ⟨i + 1, by omega, by simp, fun _ => ⟨g, rfl, hg1, hg2, HM7.out.one⟩, HM7.out.wrote⟩
              case measure => simp only [intOf]; omega
        · have tl : decide ((i : Int) < (ps : Int)) = false := decide_eq_false (by omega)
          obtain ⟨wF, hwF⟩ : ∃ wF, wF = wr := ⟨_, rfl⟩
          subst hwF
          have HWF : Hid (Wr w12.heap.size w13.heap.size w14 wF) := HW.out
          have HQF : Hid (RowsUp wF w13.heap.size (.slice qp ps qk) PS) := HRQ.out.keep fun g h1 h2 => HWF.out.above g h1 h2
          clear HON HW HV0 HVA HVB HVL HRQ
          have HAc_wF : Hid (Below wc.heap.size wc wF) := HAc_w14.out.trans (HWF.out.below.mono HSc.out)
          clear HAc_w14
          have HA5_wF : Hid (Below w5.heap.size w5 wF) := HA5_w14.out.trans (HWF.out.below.mono HS5.out)
          clear HA5_w14
          have HA6_wF : Hid (Below w6.heap.size w6 wF) := HA6_w14.out.trans (HWF.out.below.mono HS6.out)
          clear HA6_w14
          have HA7_wF : Hid (Below w7.heap.size w7 wF) := HA7_w14.out.trans (HWF.out.below.mono HS7.out)
          clear HA7_w14
          have HA8_wF : Hid (Below w8.heap.size w8 wF) := HA8_w14.out.trans (HWF.out.below.mono HS8.out)
          clear HA8_w14
          have HA9_wF : Hid (Below w9.heap.size w9 wF) := HA9_w14.out.trans (HWF.out.below.mono HS9.out)
          clear HA9_w14
          have HA10_wF : Hid (Below w10.heap.size w10 wF) := HA10_w14.out.trans (HWF.out.below.mono HS10.out)
          clear HA10_w14
          have HA11_wF : Hid (Below w11.heap.size w11 wF) := HA11_w14.out.trans (HWF.out.below.mono HS11.out)
          clear HA11_w14
          have HA12_wF : Hid (Below w12.heap.size w12 wF) := HA12_w14.out.trans (HWF.out.below.mono HS12.out)
          clear HA12_w14
          clear HA13_w14
          clear HA14_w14
          clear HWF
          go_wp2_with fail
          go_loopw [20] (fun iv wy => ∃ i q : Nat, i ≤ ps ∧ iv = .int .i64 (i : Int) ∧ Hid (wy = wF.drewN q)) (fun iv _ => ps - (intOf iv).toNat)
          case atStart => exact ⟨0, 0, Nat.zero_le _, rfl, rfl⟩
          case round =>
            obtain ⟨i, q, hi, rfl, HD⟩ := hrel
            have hD := HD.out
            subst hD
            clear HD
            by_cases hlt : i < ps
            · have tl : decide ((i : Int) < (ps : Int)) = true := decide_eq_true (by omega)
              have hltI : (i : Int) < (ps : Int) := by omega
              have hi2 : i < PS.length := by rw [HPN.out]; exact hlt
              have hm16 : PS[i].length ≤ 16 := HPH.out _ (List.getElem_mem hi2)
              obtain ⟨gl, ra, rc, rfl, hcl, hil⟩ := HRL.out.nth (W := wF.drewN q) (below_drewN HA12_wF.out q) hi2
              obtain ⟨gq, sa, sc, rfl, hcq, hiq⟩ := HQF.out.nth (W := wF.drewN q) (below_drewN (Below.refl _ _) q) hi2
              generalize PS[i] = zs at hcl hil hcq hiq hm16
              obtain ⟨m1, hm1⟩ : ∃ m, zs.length = m := ⟨_, rfl⟩
              have HS : Hid (∀ k, Calls Tryz.prog 23 #[.slice sa m1 sc, .slice ra m1 rc] ((wF.drewN q).drewN k) fun e w' => e = .returned (.bool true) ∧ ∃ q2, w' = ((wF.drewN q).drewN k).drewN q2) := fun k => by
                have q := sameInts_q _ _ zs zs wF.heap.size w12.heap.size ((wF.drewN q).drewN k) (hiq.below (below_drewN (Below.refl _ _) k) (Nat.le_refl _)) (hil.below (below_drewN (Below.refl _ _) k) (Nat.le_refl _)) (by omega) (by omega)
                rw [decide_eq_true rfl, hm1] at q
                exact q
              rw [hm1] at hcl hcq
              clear hil hiq hi2 hm1
              obtain ⟨wv, hv⟩ : ∃ wv, wv = wF.drewN q := ⟨_, rfl⟩
              have HV : Hid (wv = wF.drewN q) := hv
              rw [← hv] at HS hcl hcq ⊢
              clear hv
              go_upto_region 28 with fail
              go_quiet (first | (go_at_call 23; refine Calls.quiet_of (HS.out _)))
              clear HS hcl hcq
              go_wp2_with fail
              go_roundw
              case rel => exact ⟨i + 1, q + nq, by omega, by simp, by show _ = _; rw [HV.out, World.drewN_drewN]⟩
              case measure => simp only [intOf]; omega
            · have tl : decide ((i : Int) < (ps : Int)) = false := decide_eq_false (by omega)
              have hbq : Below wF.heap.size wF (wF.drewN q) := below_drewN (Below.refl _ _) q
              generalize wF.drewN q = wG at hbq ⊢
              have HAc_wG : Hid (Below wc.heap.size wc wG) := HAc_wF.out.trans (hbq.mono HAc_wF.out.size)
              have HA5_wG : Hid (Below w5.heap.size w5 wG) := HA5_wF.out.trans (hbq.mono HA5_wF.out.size)
              have HA6_wG : Hid (Below w6.heap.size w6 wG) := HA6_wF.out.trans (hbq.mono HA6_wF.out.size)
              have HA7_wG : Hid (Below w7.heap.size w7 wG) := HA7_wF.out.trans (hbq.mono HA7_wF.out.size)
              have HA8_wG : Hid (Below w8.heap.size w8 wG) := HA8_wF.out.trans (hbq.mono HA8_wF.out.size)
              have HA9_wG : Hid (Below w9.heap.size w9 wG) := HA9_wF.out.trans (hbq.mono HA9_wF.out.size)
              have HA10_wG : Hid (Below w10.heap.size w10 wG) := HA10_wF.out.trans (hbq.mono HA10_wF.out.size)
              have HA11_wG : Hid (Below w11.heap.size w11 wG) := HA11_wF.out.trans (hbq.mono HA11_wF.out.size)
              have HA12_wG : Hid (Below w12.heap.size w12 wG) := HA12_wF.out.trans (hbq.mono HA12_wF.out.size)
              clear HAc_wF HA5_wF HA6_wF HA7_wF HA8_wF HA9_wF HA10_wF HA11_wF HA12_wF
              clear hbq HQF
              have z13 : wG.cell? ⟨w7.heap.size, 13, none⟩ = some (.slice a2 n c2) := (HN7.out.old HA8_wG.out).cell 13
              have hwr := writeu_any fl a2 c2 w6.heap.size w7.heap.size wG (HT2.out.wfu.step (Wsu.of HA7_wG.out H67.out)) HA7_wG.out.size HA6_wG.out.size HFF.out.len (fun x hx => HFF.out.mem hx)
              rw [HN.out] at hwr
              go_wp2_with fail
              refine hwr.mono ?_
              clear hwr z13
              rintro _ wH ⟨rfl, hwu⟩
              have HWU : Hid (Wsu w6.heap.size w7.heap.size wG wH) := hwu
              have HcH : Hid (Below wc.heap.size wc wH) := HAc_wG.out.trans (hwu.below.mono HC6.out)
              clear hwu
              have x1 : wH.cell? ⟨X, 1, none⟩ = some (.slice (some ⟨b, 0, none⟩) l.length (l.length + 2)) := (HX.out.old HcH.out).cell 1
              have y1 : wH.cell? ⟨w.heap.size, 1, none⟩ = some (.slice aa l.length ca) := (HS4.out.old HcH.out).cell 1
              have hkp := HKP.out b aa ca w3.heap.size wc.heap.size n₀ wH HcH.out.size (by have := HcH.out.size; have := HZC.out.2; omega) (HLI.out.old HcH.out (Nat.le_refl _)) (HIN4.out.keep HcH.out HZC.out.2)
              go_wp2_with fail
              refine hkp.mono ?_
              clear hkp x1 y1
              rintro _ wI ⟨rfl, hbI⟩
              have hup : ∀ k, w7.heap.size ≤ k → k < wG.heap.size → wI.heap[k]? = wG.heap[k]? := fun k h1 h2 => (hbI.block k (Nat.lt_of_lt_of_le h2 HWU.out.below.size)).trans (HWU.out.above k h1 h2)
              have hdn : ∀ k, k < w6.heap.size → wI.heap[k]? = wG.heap[k]? := fun k h1 => (hbI.block k (by have := HWU.out.below.size; have := HA6_wG.out.size; omega)).trans (HWU.out.below.block k h1)
              have hn9 : Blk wI w9.heap.size 48 #[.string o.name, .int .u8 o.kind, .bool o.down, .int .u8 o.nulls, .bool o.bnd, .bool o.ln, .string o.lm, .bool o.hn, .string o.hm, .int .i64 o.most, .int .i64 o.str, .bool o.shf, .bool o.bck, .slice a3 n c3] := (hup _ H79.out (HN9.out.old HA10_wG.out).lt).trans (HN9.out.old HA10_wG.out)
              have hn5 : Blk wI w5.heap.size 48 #[.string o.name, .int .u8 o.kind, .bool o.down, .int .u8 o.nulls, .bool o.bnd, .bool o.ln, .string o.lm, .bool o.hn, .string o.hm, .int .i64 o.most, .int .i64 o.str, .bool o.shf, .bool o.bck, .slice a1 n c1] := (hdn _ HN5.out.lt).trans (HN5.out.old HA6_wG.out)
              obtain ⟨g0, g1, g2, g3, g4, g5, g6, g7, g8, g9, g10, g11, g12, g13⟩ := hn9.c14
              obtain ⟨h0, h1, h2, h3, h4, h5, h6, h7, h8, h9, h10, h11, h12, h13⟩ := hn5.c14
              have hsf := sameField_eq o fl (sameFields_any fl) a3 a1 c3 c1 w8.heap.size w9.heap.size wc.heap.size w5.heap.size wI (HT3.out.fin.keep' fun k q1 q2 => (hup k (Nat.le_trans H78.out q1) (Nat.lt_of_lt_of_le q2 HA9_wG.out.size)).trans (HA9_wG.out.block k q2)) (HT1.out.fin.keep' fun k q1 q2 => (hdn k (Nat.lt_of_lt_of_le q2 H56.out)).trans (HA5_wG.out.block k q2)) (by have := HWU.out.below.size; have := HA9_wG.out.size; have := hbI.size; omega) (by have := HWU.out.below.size; have := HA5_wG.out.size; have := hbI.size; omega) HFF.out.len (fun x hx => HFF.out.mem hx)
              rw [HN.out] at hsf
              have HBI : Hid (Below w.heap.size w wI) := HB0.out.trans ((HcH.out.mono HZC.out.1).trans (hbI.mono (by have := HcH.out.size; have := HZC.out.1; omega)))
              clear hup hdn hn9 hn5 hbI
              go_wp2_with fail
              refine hsf.mono ?_
              clear hsf g0 g1 g2 g3 g4 g5 g6 g7 g8 g9 g10 g11 g12 g13 h0 h1 h2 h3 h4 h5 h6 h7 h8 h9 h10 h11 h12 h13
              rintro _ wJ ⟨rfl, hbJ⟩
              have HBJ : Hid (Below w.heap.size w wJ) := HBI.out.trans (hbJ.mono HBI.out.size)
              clear hbJ
              go_wp2_with fail
              go_ret
              exact ⟨rfl, HBJ.out⟩
end Go.Proofs.YtcbjnifoojjipaaGreatDoor
