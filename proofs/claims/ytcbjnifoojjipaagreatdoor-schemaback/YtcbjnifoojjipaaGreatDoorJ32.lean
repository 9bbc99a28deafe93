/- Contracts and lemmas (nothing is claimed here). -/
import Derived.Test.YtcbjnifoojjipaaGreatDoorSAwk
import Derived.Test.YtcbjnifoojjipaaGreatDoorJ26
import Derived.Test.YtcbjnifoojjipaaGreatDoorJ30
import Derived.Test.YtcbjnifoojjipaaGreatDoorJ31
import Derived.Deep.RegionHeld
import Derived.Test.YtcbjnifoojjipaaGreatDoorSLin
import Derived.BigRegion
import Derived.Test.YtcbjnifoojjipaaGreatDoorRows
import Derived.Lay
import Derived.ProofKit
import Derived.OpenShut
import Derived.Stop.Joined
import Derived.Test.YtcbjnifoojjipaaGreatDoorCards
import Derived.Test.YtcbjnifoojjipaaGreatDoorTie
import Derived.Test.YtcbjnifoojjipaaGreatDoorSLay
import Derived.Test.YtcbjnifoojjipaaGreatDoorJ29
import Derived.WalkKit
import Derived.ShutString
import Derived.ChangeOld
import Derived.Below
import Derived.SevenTiedAt
namespace Go.Proofs.YtcbjnifoojjipaaGreatDoor
open Go.RowKit Go.Vf

/-- What a text says is a right schema with a text of its own. -/
theorem parsed_right {s : List UInt8} {limit : Int} {l : List Fld} (h : parseS s = .ok (limit, l)) : (chkS bndQ limit l).1 = 0 ∧ (prnS limit l).length ≤ 65536 ∧ (∀ x ∈ l, FitsF 17179869184 x) ∧ l.length ≤ 17179869184 := by
  unfold parseS at h
  split at h
  · cases h
  · rename_i hl
    cases hq : schemaP (1 + ((linesL s).length : Int)) (lnF 1 (linesL s)) [] with
    | error m => rw [hq] at h; cases h
    | ok q =>
      have hr := read_ok s (by omega) q hq
      rw [hq] at h
      simp only [afterS] at h
      split at h
      · rename_i hc
        split at h
        · cases h
        · rename_i hp
          cases h
          exact ⟨hc, by omega, hr.fit, hr.len⟩
      · cases h
/-- Print of a right schema, and Parse of that. -/
theorem prnA_right {limit : Int} {l : List Fld} (h1 : (chkS bndQ limit l).1 = 0) (h2 : (prnS limit l).length ≤ 65536) : prnA limit l = (prnS limit l, 0, []) := by
  unfold prnA
  rw [if_pos h1, if_neg (by omega)]
theorem prnA_nil {limit : Int} {l : List Fld} (h : (prnA limit l).2.1 = 0) : (chkS bndQ limit l).1 = 0 ∧ (prnS limit l).length ≤ 65536 := by
  unfold prnA at h
  split at h
  · rename_i h1
    split at h
    · cases h
    · exact ⟨h1, by omega⟩
  · rename_i h1
    exact absurd h h1
/-- An error is not nil. -/
theorem fault_iface {w : World} {b : Nat} {v : Value} {c a : Int} {p : List Int} {y : Value} (h : FaultAt w b v c a p y) : ∃ k, v = .iface 71 (.pointer (some ⟨k, 0, none⟩)) := by
  obtain ⟨k, _, _, hv, _⟩ := h
  exact ⟨k, hv⟩
theorem print_yes (limit : Int) (l : List Fld) (hl : l.length ≤ 17179869184) (hfit : ∀ x ∈ l, FitsF 17179869184 x) (a : Option Addr) (c lo n₀ : Nat) (hc : l.length ≤ c) (w : World) (hn₀ : n₀ ≤ w.heap.size) (hin : FIn w lo n₀ l a) (hE : Env w) (h1 : (chkS bndQ limit l).1 = 0) (h2 : (prnS limit l).length ≤ 65536) :
    Calls Tryz.prog 25 #[.agg #[.int .i64 limit, .slice a l.length c]] w fun e w' => e = .returned (.tuple #[.string (bs (prnS limit l)), .nilIface]) ∧ Below w.heap.size w w' := by
  refine (print_a limit l hl hfit a c lo n₀ hc w hn₀ hin hE).mono ?_
  rw [prnA_right h1 h2]
  rintro e w' ⟨ev, rfl, hb, ⟨_, hh⟩ | ⟨hne, _⟩⟩
  · cases hh
    exact ⟨rfl, hb⟩
  · exact absurd rfl hne
theorem print_no (limit : Int) (l : List Fld) (hl : l.length ≤ 17179869184) (hfit : ∀ x ∈ l, FitsF 17179869184 x) (a : Option Addr) (c lo n₀ : Nat) (hc : l.length ≤ c) (w : World) (hn₀ : n₀ ≤ w.heap.size) (hin : FIn w lo n₀ l a) (hE : Env w) (h : (prnA limit l).2.1 ≠ 0) :
    Calls Tryz.prog 25 #[.agg #[.int .i64 limit, .slice a l.length c]] w fun e w' => ∃ T k, e = .returned (.tuple #[.string T, .iface 71 (.pointer (some ⟨k, 0, none⟩))]) ∧ Below w.heap.size w w' := by
  refine (print_a limit l hl hfit a c lo n₀ hc w hn₀ hin hE).mono ?_
  rintro e w' ⟨ev, rfl, hb, ⟨h0, _⟩ | ⟨_, v, hv, hF⟩⟩
  · exact absurd h0 h
  · cases hv
    obtain ⟨k, rfl⟩ := fault_iface hF
    exact ⟨_, k, rfl, hb⟩
theorem parse_yes (s : List UInt8) (w : World) (hE : Env w) {limit : Int} {l : List Fld} (h : parseS s = .ok (limit, l)) :
    Calls Tryz.prog 27 #[.string (bs s)] w fun e w' => Below w.heap.size w w' ∧ ∃ fa fc, e = .returned (.tuple #[.agg #[.int .i64 limit, .slice fa l.length fc], .nilIface]) ∧ l.length ≤ fc ∧ FIn w' w.heap.size w'.heap.size l fa := by
  have hp := parse_all s w hE
  rw [h] at hp
  exact hp
theorem parse_no (s : List UInt8) (w : World) (hE : Env w) {q : Int × Int × List Int} (h : parseS s = .error q) :
    Calls Tryz.prog 27 #[.string (bs s)] w fun e w' => Below w.heap.size w w' ∧ ∃ k, e = .returned (.tuple #[.agg #[.int .i64 0, .slice none 0 0], .iface 71 (.pointer (some ⟨k, 0, none⟩))]) := by
  have hp := parse_all s w hE
  rw [h] at hp
  refine hp.mono ?_
  rintro e w' ⟨hb, v, rfl, hF⟩
  obtain ⟨k, rfl⟩ := fault_iface hF
  exact ⟨hb, k, rfl⟩
theorem check_yes (limit : Int) (l : List Fld) (aa : Option Addr) (ca lo n₀ : Nat) (w : World) (hca : l.length ≤ ca) (hfit : ∀ x ∈ l, FitsF 17179869184 x) (hll : l.length ≤ 17179869184) (hn₀ : n₀ ≤ w.heap.size) (hin : FIn w lo n₀ l aa) (h1 : (chkS bndQ limit l).1 = 0) :
    Calls Tryz.prog 13 #[.agg #[.int .i64 limit, .slice aa l.length ca]] w fun e w' => e = .returned .nilIface ∧ Below w.heap.size w w' := by
  refine (scheck_any limit l aa ca lo n₀ w hca hfit hll hn₀ hin).mono ?_
  rintro e w' ⟨hb, ⟨_, rfl⟩ | ⟨hne, _⟩⟩
  · exact ⟨rfl, hb⟩
  · exact absurd h1 hne

set_option maxHeartbeats 8000000 in
set_option maxRecDepth 20000 in
theorem schemaBack_any (limit : Int) (l : List Fld) (aa : Option Addr) (ca n₀ : Nat) (txt : List UInt8) (w : World) (hE : Env w) (hl : l.length ≤ 281474976710656) (hf : ∀ x ∈ l, FitsF 281474976710656 x) (hn₀ : n₀ ≤ w.heap.size) (hin : FIn w 0 n₀ l aa) (hca : l.length ≤ ca) :
    Calls Tryz.prog 8 #[.agg #[.int .i64 limit, .slice aa l.length ca], .string (bs txt)] w fun e w' => e = .returned (.bool true) ∧ Below w.heap.size w w' := by
  have hb1 := (Below.refl w.heap.size w).alloc (Nat.le_refl _) (.cells #[.int .i64 limit, .slice aa l.length ca] 25)
  have hS1 := Blk.new w 25 #[.int .i64 limit, .slice aa l.length ca]
  have hE1 := hE.old hb1
  have hin1 := hin.keep hb1 hn₀
  clear hE hin
  go_enter Tryz.func8, Tryz.ntmps8
  go_upto_region 1 with fail
  have hs1 := hb1.size
  generalize w.alloc (.cells #[.int .i64 limit, .slice aa l.length ca] 25) = w1 at *
  have ha := awake_any w1 hE1
  go_wp2_with fail
  refine ha.mono ?_
  clear ha
  rintro _ w2 ⟨rfl, hb2⟩
  have hb02 := hb1.trans (hb2.mono hs1)
  have hS2 := hS1.old hb2
  have hin2 := hin1.keep hb2 (by omega)
  have hs2 := hb2.size
  have hv := vast_any l aa ca 0 n₀ w2 hl hf (by omega) hin2
  have s1 : w2.cell? ⟨w.heap.size, 1, none⟩ = some (.slice aa l.length ca) := hS2.cell 1
  have HE2 : Hid (Env w2) := hE1.old hb2
  clear hE1 hin1 hS1
  go_wp2_with fail
  refine hv.mono ?_
  clear hv s1
  rintro _ w3 ⟨rfl, q, rfl⟩
  have hb3 : Below w2.heap.size w2 (w2.drewN q) := ⟨rfl, rfl, rfl, Nat.le_refl _, fun _ _ => rfl⟩
  have hb03 := hb02.trans (hb3.mono hb02.size)
  have hS3 := hS2.old hb3
  have hin3 := hin2.keep hb3 (by omega)
  have hs3 := hb3.size
  generalize w2.drewN q = w3 at *
  by_cases hvast : 67108864 < wg 0 l
  · have t1 : decide (67108864 < wg 0 l) = true := decide_eq_true hvast
    clear hin2 hin3 hf
    go_wp2_with fail
    go_ret
    exact ⟨rfl, hb03⟩
  · have t1 : decide (67108864 < wg 0 l) = false := decide_eq_false hvast
    obtain ⟨hll, hf26, hf34⟩ := wg_fits hf hvast
    have hE3 : Env w3 := HE2.out.old hb3
    have s0 : w3.cell? ⟨w.heap.size, 0, none⟩ = some (.int .i64 limit) := hS3.cell 0
    have s1 : w3.cell? ⟨w.heap.size, 1, none⟩ = some (.slice aa l.length ca) := hS3.cell 1
    have HIN3 : Hid (FIn w3 0 n₀ l aa) := hin3
    have HS3 : Hid (Blk w3 w.heap.size 25 #[.int .i64 limit, .slice aa l.length ca]) := hS3
    have HE3 : Hid (Env w3) := hE3
    clear hin2 hS2 hf hvast HE2 hf26
    clear hS3
    by_cases hgood : (prnA limit l).2.1 = 0
    · obtain ⟨r1, r2⟩ := prnA_nil hgood
      have pr := print_yes limit l (by omega) hf34 aa ca 0 n₀ hca w3 (by omega) hin3 hE3 r1 r2
      have HPB : Hid (parseS (prnS limit l) = .ok (limit, l)) := parse_back r1 hf34 r2
      obtain ⟨U, hU⟩ : ∃ U, prnS limit l = U := ⟨_, rfl⟩
      have HPU : Hid (parseS U = .ok (limit, l)) := by have := HPB.out; rw [hU] at this; exact this
      rw [hU] at pr
      have HF34 : Hid (∀ x ∈ l, FitsF 17179869184 x) := hf34
      clear HPB hU r1 r2 hgood hin3 hE3 hf34
      go_wp2_with fail
      refine pr.mono ?_
      clear pr s0 s1
      rintro _ w4 ⟨rfl, hb34⟩
      have hs4 := hb34.size
      have pn := parse_yes U w4 (HE3.out.old hb34) HPU.out
      clear HPU
      go_wp2_with fail
      refine pn.mono ?_
      clear pn
      rintro _ w5 ⟨hb45, ga, gc, rfl, hgc, hg5⟩
      have hs5 := hb45.size
      go_upto_region 7 with fail
      have h6 := (Below.refl w5.heap.size w5).alloc (Nat.le_refl _) (.cells #[.int .i64 limit, .slice ga l.length gc] 25)
      have Y6 := Blk.new w5 25 #[.int .i64 limit, .slice ga l.length gc]
      have hg6 := hg5.keep h6 (Nat.le_refl _)
      have hs6 := h6.size
      have hb36 : Below w3.heap.size w3 (w5.alloc (.cells #[.int .i64 limit, .slice ga l.length gc] 25)) := hb34.trans ((hb45.mono hb34.size).trans (h6.mono (by omega)))
      generalize w5.alloc (.cells #[.int .i64 limit, .slice ga l.length gc] 25) = w6 at *
      obtain ⟨Y, hY⟩ : ∃ Y, w5.heap.size = Y := ⟨_, rfl⟩
      rw [hY] at Y6 ⊢
      have S6 := HS3.out.old hb36
      have x1 : w6.cell? ⟨w.heap.size, 1, none⟩ = some (.slice aa l.length ca) := S6.cell 1
      have y1 : w6.cell? ⟨Y, 1, none⟩ = some (.slice ga l.length gc) := Y6.cell 1
      have sf := sameFields_any l ga aa gc ca w4.heap.size w5.heap.size 0 n₀ w6 hg6 (HIN3.out.keep hb36 (by omega)) hs6 (by have := hb36.size; omega) (by omega) HF34.out
      have HS6 : Hid (Blk w6 w.heap.size 25 #[.int .i64 limit, .slice aa l.length ca]) := S6
      have HY6 : Hid (Blk w6 Y 25 #[.int .i64 limit, .slice ga l.length gc]) := Y6
      clear S6 Y6 hg5 hg6 h6 hb45 HIN3
      go_wp2_with fail
      refine sf.mono ?_
      clear sf x1 y1
      rintro _ WR ⟨rfl, hb67⟩
      have S7 := HS6.out.old hb67
      have Y7 := HY6.out.old hb67
      have x0 : WR.cell? ⟨w.heap.size, 0, none⟩ = some (.int .i64 limit) := S7.cell 0
      have y0 : WR.cell? ⟨Y, 0, none⟩ = some (.int .i64 limit) := Y7.cell 0
      have hb37 : Below w3.heap.size w3 WR := hb36.trans (hb67.mono hb36.size)
      have hb0R : Below w.heap.size w WR := hb03.trans (hb37.mono hb03.size)
      have HER : Hid (Env WR) := HE3.out.old hb37
      clear S7 Y7 hb37 hb67 hb36 hb34
      go_upto_region 10 with fail
      clear x0 y0
      cases hpt : parseS txt with
      | error q2 =>
        have pn := parse_no txt WR HER.out hpt
        clear hpt
        go_wp2_with fail
        refine pn.mono ?_
        clear pn
        rintro _ v1 ⟨hv1, k, rfl⟩
        have hfin : Below w.heap.size w v1 := hb0R.trans (hv1.mono hb0R.size)
        clear hv1
        go_upto_region 11 with fail
        have hb2R := hfin.alloc hfin.size (.cells #[.int .i64 0, .slice none 0 0] 25)
        generalize v1.alloc (.cells #[.int .i64 0, .slice none 0 0] 25) = v2 at *
        go_wp2_with fail
        go_ret
        exact ⟨rfl, hb2R⟩
      | ok q2 =>
        obtain ⟨lim2, l2⟩ := q2
        obtain ⟨g1, g2, g3, g4⟩ := parsed_right hpt
        have pn := parse_yes txt WR HER.out hpt
        have HPB : Hid (parseS (prnS lim2 l2) = .ok (lim2, l2)) := parse_back g1 g3 g2
        have HG : Hid ((chkS bndQ lim2 l2).1 = 0 ∧ (prnS lim2 l2).length ≤ 65536 ∧ (∀ x ∈ l2, FitsF 17179869184 x) ∧ l2.length ≤ 17179869184) := ⟨g1, g2, g3, g4⟩
        clear hpt g1 g2 g3 g4
        go_wp2_with fail
        refine pn.mono ?_
        clear pn
        rintro _ v1 ⟨hv1, fa, fc, rfl, hfc, hf1⟩
        have hb0v : Below w.heap.size w v1 := hb0R.trans (hv1.mono hb0R.size)
        have hsv := hv1.size
        go_upto_region 11 with fail
        have h2 := (Below.refl v1.heap.size v1).alloc (Nat.le_refl _) (.cells #[.int .i64 lim2, .slice fa l2.length fc] 25)
        have X2 := Blk.new v1 25 #[.int .i64 lim2, .slice fa l2.length fc]
        have hf2 := hf1.keep h2 (Nat.le_refl _)
        have hb0w : Below w.heap.size w (v1.alloc (.cells #[.int .i64 lim2, .slice fa l2.length fc] 25)) := hb0v.trans (h2.mono hb0v.size)
        have hE2 := HER.out.old (hv1.trans (h2.mono hv1.size))
        have hz2 := h2.size
        generalize v1.alloc (.cells #[.int .i64 lim2, .slice fa l2.length fc] 25) = v2 at *
        obtain ⟨X, hX⟩ : ∃ X, v1.heap.size = X := ⟨_, rfl⟩
        rw [hX] at X2 ⊢
        have x0 : v2.cell? ⟨X, 0, none⟩ = some (.int .i64 lim2) := X2.cell 0
        have x1 : v2.cell? ⟨X, 1, none⟩ = some (.slice fa l2.length fc) := X2.cell 1
        have ck := check_yes lim2 l2 fa fc WR.heap.size v1.heap.size v2 hfc HG.out.2.2.1 HG.out.2.2.2 hz2 hf2 HG.out.1
        have HX2 : Hid (Blk v2 X 25 #[.int .i64 lim2, .slice fa l2.length fc]) := X2
        have HF2 : Hid (FIn v2 WR.heap.size v1.heap.size l2 fa) := hf2
        have HE2 : Hid (Env v2) := hE2
        clear X2 hf1 hf2 h2 hv1 hb0v hE2
        go_wp2_with fail
        refine ck.mono ?_
        clear ck x0 x1
        rintro _ v3 ⟨rfl, hb23⟩
        have hs23 := hb23.size
        have X3 := HX2.out.old hb23
        have x0 : v3.cell? ⟨X, 0, none⟩ = some (.int .i64 lim2) := X3.cell 0
        have x1 : v3.cell? ⟨X, 1, none⟩ = some (.slice fa l2.length fc) := X3.cell 1
        have pr := print_yes lim2 l2 HG.out.2.2.2 HG.out.2.2.1 fa fc WR.heap.size v1.heap.size hfc v3 (by omega) (HF2.out.keep hb23 hz2) (HE2.out.old hb23) HG.out.1 HG.out.2.1
        obtain ⟨U, hU⟩ : ∃ U, prnS lim2 l2 = U := ⟨_, rfl⟩
        have HPB2 : Hid (parseS U = .ok (lim2, l2)) := by have := HPB.out; rw [hU] at this; exact this
        rw [hU] at pr
        clear X3 HPB hU
        go_wp2_with fail
        refine pr.mono ?_
        clear pr x0 x1
        rintro _ v4 ⟨rfl, hb34⟩
        have hs34 := hb34.size
        have hb24 := hb23.trans (hb34.mono hs23)
        have pn := parse_yes U v4 (HE2.out.old hb24) HPB2.out
        clear HPB2
        go_wp2_with fail
        refine pn.mono ?_
        clear pn
        rintro _ v5 ⟨hb45, ga, gc, rfl, hgc, hg5⟩
        have hs45 := hb45.size
        go_upto_region 18 with fail
        have h6 := (Below.refl v5.heap.size v5).alloc (Nat.le_refl _) (.cells #[.int .i64 lim2, .slice ga l2.length gc] 25)
        have Y6 := Blk.new v5 25 #[.int .i64 lim2, .slice ga l2.length gc]
        have hg6 := hg5.keep h6 (Nat.le_refl _)
        have hs56 := h6.size
        have hb26 : Below v2.heap.size v2 (v5.alloc (.cells #[.int .i64 lim2, .slice ga l2.length gc] 25)) := hb24.trans ((hb45.mono hb24.size).trans (h6.mono (by omega)))
        generalize v5.alloc (.cells #[.int .i64 lim2, .slice ga l2.length gc] 25) = v6 at *
        obtain ⟨Y, hY⟩ : ∃ Y, v5.heap.size = Y := ⟨_, rfl⟩
        rw [hY] at Y6 ⊢
        have hb06 : Below w.heap.size w v6 := hb0w.trans (hb26.mono hb0w.size)
        have X6 := HX2.out.old hb26
        have x1 : v6.cell? ⟨X, 1, none⟩ = some (.slice fa l2.length fc) := X6.cell 1
        have y1 : v6.cell? ⟨Y, 1, none⟩ = some (.slice ga l2.length gc) := Y6.cell 1
        have sf := sameFields_any l2 fa ga fc gc WR.heap.size v1.heap.size v4.heap.size v5.heap.size v6 (HF2.out.keep hb26 hz2) hg6 (by have := hb26.size; omega) hs56 HG.out.2.2.2 HG.out.2.2.1
        have HX6 : Hid (Blk v6 X 25 #[.int .i64 lim2, .slice fa l2.length fc]) := X6
        have HY6 : Hid (Blk v6 Y 25 #[.int .i64 lim2, .slice ga l2.length gc]) := Y6
        clear X6 Y6 hg5 hg6 h6 hb45
        go_wp2_with fail
        refine sf.mono ?_
        clear sf x1 y1
        rintro _ v7 ⟨rfl, hb67⟩
        have X7 := HX6.out.old hb67
        have Y7 := HY6.out.old hb67
        have x0 : v7.cell? ⟨X, 0, none⟩ = some (.int .i64 lim2) := X7.cell 0
        have y0 : v7.cell? ⟨Y, 0, none⟩ = some (.int .i64 lim2) := Y7.cell 0
        have hfin : Below w.heap.size w v7 := hb06.trans (hb67.mono hb06.size)
        clear X7 Y7
        go_wp2_with fail
        go_ret
        exact ⟨rfl, hfin⟩
    · have pr := print_no limit l (by omega) hf34 aa ca 0 n₀ hca w3 (by omega) hin3 hE3 hgood
      clear hgood hin3 hE3 hf34
      go_wp2_with fail
      refine pr.mono ?_
      clear pr s0 s1
      rintro _ WR ⟨T, k0, rfl, hb37⟩
      have hb0R : Below w.heap.size w WR := hb03.trans (hb37.mono hb03.size)
      have HER : Hid (Env WR) := HE3.out.old hb37
      clear hb37
      go_upto_region 10 with fail
      cases hpt : parseS txt with
      | error q2 =>
        have pn := parse_no txt WR HER.out hpt
        clear hpt
        go_wp2_with fail
        refine pn.mono ?_
        clear pn
        rintro _ v1 ⟨hv1, k, rfl⟩
        have hfin : Below w.heap.size w v1 := hb0R.trans (hv1.mono hb0R.size)
        clear hv1
        go_upto_region 11 with fail
        have hb2R := hfin.alloc hfin.size (.cells #[.int .i64 0, .slice none 0 0] 25)
        generalize v1.alloc (.cells #[.int .i64 0, .slice none 0 0] 25) = v2 at *
        go_wp2_with fail
        go_ret
        exact ⟨rfl, hb2R⟩
      | ok q2 =>
        obtain ⟨lim2, l2⟩ := q2
        obtain ⟨g1, g2, g3, g4⟩ := parsed_right hpt
        have pn := parse_yes txt WR HER.out hpt
        have HPB : Hid (parseS (prnS lim2 l2) = .ok (lim2, l2)) := parse_back g1 g3 g2
        have HG : Hid ((chkS bndQ lim2 l2).1 = 0 ∧ (prnS lim2 l2).length ≤ 65536 ∧ (∀ x ∈ l2, FitsF 17179869184 x) ∧ l2.length ≤ 17179869184) := ⟨g1, g2, g3, g4⟩
        clear hpt g1 g2 g3 g4
        go_wp2_with fail
        refine pn.mono ?_
        clear pn
        rintro _ v1 ⟨hv1, fa, fc, rfl, hfc, hf1⟩
        have hb0v : Below w.heap.size w v1 := hb0R.trans (hv1.mono hb0R.size)
        have hsv := hv1.size
        go_upto_region 11 with fail
        have h2 := (Below.refl v1.heap.size v1).alloc (Nat.le_refl _) (.cells #[.int .i64 lim2, .slice fa l2.length fc] 25)
        have X2 := Blk.new v1 25 #[.int .i64 lim2, .slice fa l2.length fc]
        have hf2 := hf1.keep h2 (Nat.le_refl _)
        have hb0w : Below w.heap.size w (v1.alloc (.cells #[.int .i64 lim2, .slice fa l2.length fc] 25)) := hb0v.trans (h2.mono hb0v.size)
        have hE2 := HER.out.old (hv1.trans (h2.mono hv1.size))
        have hz2 := h2.size
        generalize v1.alloc (.cells #[.int .i64 lim2, .slice fa l2.length fc] 25) = v2 at *
        obtain ⟨X, hX⟩ : ∃ X, v1.heap.size = X := ⟨_, rfl⟩
        rw [hX] at X2 ⊢
        have x0 : v2.cell? ⟨X, 0, none⟩ = some (.int .i64 lim2) := X2.cell 0
        have x1 : v2.cell? ⟨X, 1, none⟩ = some (.slice fa l2.length fc) := X2.cell 1
        have ck := check_yes lim2 l2 fa fc WR.heap.size v1.heap.size v2 hfc HG.out.2.2.1 HG.out.2.2.2 hz2 hf2 HG.out.1
        have HX2 : Hid (Blk v2 X 25 #[.int .i64 lim2, .slice fa l2.length fc]) := X2
        have HF2 : Hid (FIn v2 WR.heap.size v1.heap.size l2 fa) := hf2
        have HE2 : Hid (Env v2) := hE2
        clear X2 hf1 hf2 h2 hv1 hb0v hE2
        go_wp2_with fail
        refine ck.mono ?_
        clear ck x0 x1
        rintro _ v3 ⟨rfl, hb23⟩
        have hs23 := hb23.size
        have X3 := HX2.out.old hb23
        have x0 : v3.cell? ⟨X, 0, none⟩ = some (.int .i64 lim2) := X3.cell 0
        have x1 : v3.cell? ⟨X, 1, none⟩ = some (.slice fa l2.length fc) := X3.cell 1
        have pr := print_yes lim2 l2 HG.out.2.2.2 HG.out.2.2.1 fa fc WR.heap.size v1.heap.size hfc v3 (by omega) (HF2.out.keep hb23 hz2) (HE2.out.old hb23) HG.out.1 HG.out.2.1
        obtain ⟨U, hU⟩ : ∃ U, prnS lim2 l2 = U := ⟨_, rfl⟩
        have HPB2 : Hid (parseS U = .ok (lim2, l2)) := by have := HPB.out; rw [hU] at this; exact this
        rw [hU] at pr
        clear X3 HPB hU
        go_wp2_with fail
        refine pr.mono ?_
        clear pr x0 x1
        rintro _ v4 ⟨rfl, hb34⟩
        have hs34 := hb34.size
        have hb24 := hb23.trans (hb34.mono hs23)
        have pn := parse_yes U v4 (HE2.out.old hb24) HPB2.out
        clear HPB2
        go_wp2_with fail
        refine pn.mono ?_
        clear pn
        rintro _ v5 ⟨hb45, ga, gc, rfl, hgc, hg5⟩
        have hs45 := hb45.size
        go_upto_region 18 with fail
        have h6 := (Below.refl v5.heap.size v5).alloc (Nat.le_refl _) (.cells #[.int .i64 lim2, .slice ga l2.length gc] 25)
        have Y6 := Blk.new v5 25 #[.int .i64 lim2, .slice ga l2.length gc]
        have hg6 := hg5.keep h6 (Nat.le_refl _)
        have hs56 := h6.size
        have hb26 : Below v2.heap.size v2 (v5.alloc (.cells #[.int .i64 lim2, .slice ga l2.length gc] 25)) := hb24.trans ((hb45.mono hb24.size).trans (h6.mono (by omega)))
        generalize v5.alloc (.cells #[.int .i64 lim2, .slice ga l2.length gc] 25) = v6 at *
        obtain ⟨Y, hY⟩ : ∃ Y, v5.heap.size = Y := ⟨_, rfl⟩
        rw [hY] at Y6 ⊢
        have hb06 : Below w.heap.size w v6 := hb0w.trans (hb26.mono hb0w.size)
        have X6 := HX2.out.old hb26
        have x1 : v6.cell? ⟨X, 1, none⟩ = some (.slice fa l2.length fc) := X6.cell 1
        have y1 : v6.cell? ⟨Y, 1, none⟩ = some (.slice ga l2.length gc) := Y6.cell 1
        have sf := sameFields_any l2 fa ga fc gc WR.heap.size v1.heap.size v4.heap.size v5.heap.size v6 (HF2.out.keep hb26 hz2) hg6 (by have := hb26.size; omega) hs56 HG.out.2.2.2 HG.out.2.2.1
        have HX6 : Hid (Blk v6 X 25 #[.int .i64 lim2, .slice fa l2.length fc]) := X6
        have HY6 : Hid (Blk v6 Y 25 #[.int .i64 lim2, .slice ga l2.length gc]) := Y6
        clear X6 Y6 hg5 hg6 h6 hb45
        go_wp2_with fail
        refine sf.mono ?_
        clear sf x1 y1
        rintro _ v7 ⟨rfl, hb67⟩
        have X7 := HX6.out.old hb67
        have Y7 := HY6.out.old hb67
        have x0 : v7.cell? ⟨X, 0, none⟩ = some (.int .i64 lim2) := X7.cell 0
        have y0 : v7.cell? ⟨Y, 0, none⟩ = some (.int .i64 lim2) := Y7.cell 0
        have hfin : Below w.heap.size w v7 := hb06.trans (hb67.mono hb06.size)
        clear X7 Y7
        go_wp2_with fail
        go_ret
        exact ⟨rfl, hfin⟩
end Go.Proofs.YtcbjnifoojjipaaGreatDoor

namespace Go.Proofs.YtcbjnifoojjipaaGreatDoor
open Go.ChangeShapes Go.WideShapes Go.ChangeAt Go.RowKit
theorem schemaBack_facts : joinedFacts Tryz.pinned.checked.prog 8 Tryz.f8 Rows.schemaBackSpec Rows.schemaBackRow = true := by kernel_rfl
end Go.Proofs.YtcbjnifoojjipaaGreatDoor

namespace Go.Proofs.YtcbjnifoojjipaaGreatDoor
open Go.ChangeShapes Go.WideShapes Go.ChangeAt Go.RowKit
open Go.ChangeMaps (open_string shut_string)

set_option maxRecDepth 20000 in
theorem schemaBack_open {H : Type} {enc : TypeId × Value → H} {base : Nat} {W : World} (v0 : Value) (d0 : DataW H) (p0 : List MemPlace) (hok0 : Value.okWide Tryz.prog W .any base 25 v0)
    (h0 : DataW.Trod enc Tryz.prog W 0 (fun _ => true) true 25 v0 d0 p0) (hw0 : ∀ n ∈ d0.weights Tryz.prog 25, n ≤ reachBytes) (t : ByteArray) (hE : Env W) :
    Calls Tryz.prog 8 #[v0, .string t] W fun e w' => e = .returned (.bool true) ∧ Below W.heap.size W w' := by
  obtain ⟨z, l, a, c, rfl, hc, hin, hf, hll⟩ := schema_open v0 d0 p0 hok0 h0 hw0
  have ht : t = Go.Vf.bs t.data.toList := by cases t; simp [Go.Vf.bs]
  rw [ht]
  exact schemaBack_any z l a c W.heap.size t.data.toList W hE hll hf (Nat.le_refl _) hin hc

theorem schemaBack_own : ownKnob Tryz.prog.godebug = none := by kernel_rfl
theorem schemaBack_laidOut : laidOutB Tryz.prog = true := by kernel_rfl

set_option maxRecDepth 100000 in
theorem schemaBack_lifted (os : Os) (started : os.Started) (H : Type) (enc : TypeId × Value → H) :
    ReturnsInHanded {} Tryz.checked os 8 .any (fun w args => (Rows.schemaBackSpec.pre enc Tryz.prog Tryz.f8 [] false w args ∧ laidMetH Tryz.prog laidN w) ∧ sizedMet enc Tryz.prog Tryz.f8 (OpenSpec.ofChange Rows.schemaBackSpec) false w args) (Rows.schemaBackSpec.post enc Tryz.prog Tryz.f8 false true false false) := by
  refine returnsInHanded_both (C := Tryz.checked) (X := fun w _ => laidMetH Tryz.prog laidN w) (fun _ _ _ hh h => h.of_heap hh) schemaBack_own started (by kernel_rfl) Tryz.func8
    (ChangeSpec.witness_shaped (enc := enc) (C := Tryz.checked) (os := os) (X := fun w _ => laidMetH Tryz.prog laidN w) false (World.laidAll Tryz.prog os laidN) #[.agg #[.int .i64 0, .slice none 0 0], .string ByteArray.empty] 8 (World.laidAll_os _ _ _) (laid_shaped os _) (by kernel_rfl) (by kernel_rfl) (by kernel_rfl) (laid_met os _)) ?_
  intro W base args ds gs before hval0 hW hwt hL hS
  have hval : ∀ (j : Nat) t v, Tryz.f8.params[j]? = some t → args[j]? = some v → Value.okWide Tryz.prog W .any base t v := hval0
  have hW' := hW
  obtain ⟨p, q, hA0, hV, rfl, hfz, hnd⟩ := hW
  have hA : DataW.TrodAll enc Tryz.prog W 0 (fun _ => true) true Tryz.f8.params.toList args.toList ds p := hA0
  rw [Tryz.params8] at hA hval
  obtain ⟨v0, vs0, d0, ds0, p0, q0, hargs, rfl, rfl, h0, r0⟩ := trodAll_cons hA
  obtain ⟨v1, vs1, d1, ds1, p1, q1, rfl, rfl, rfl, h1, r1⟩ := trodAll_cons r0
  obtain ⟨rfl, rfl, rfl⟩ := trodAll_nil r1
  obtain rfl : args = #[v0, v1] := by cases args; simp_all
  obtain ⟨rfl, rfl⟩ := trodVars_none hV
  obtain ⟨a1, rfl, rfl, rfl, w1⟩ := open_string Tryz.underlying9 (hval 1 9 v1 rfl rfl) h1
  have k0 := h0
  have lt0 : ∀ x ∈ p0, x.block < W.heap.size := by obtain ⟨m, hm⟩ := k0; exact DataW.trod_lt m _ _ _ hm
  have y0 : ∀ n ∈ d0.weights Tryz.prog 25, n ≤ reachBytes := fun n hn => of_decide_eq_true (List.all_eq_true.1 hwt _ (DataW.weights_mem_each (j := 0) (t := 25) (by kernel_rfl) rfl n hn))
  clear hA0 hval0 hwt
  rw [MakeChecks.laidMetH_plain _ _ _ (by kernel_rfl)] at hL
  refine (schemaBack_open v0 d0 p0 (hval 0 25 v0 rfl rfl) h0 y0 a1 (env_of_laid hL hS)).mono fun e W' ⟨he, bel⟩ => ?_
  subst he
  exact ⟨_, rfl, _, _, _, [], _, [], hW', trodAll_mk1 (shut_bool Tryz.underlying4 _), (trodAll_cons_mk (Below.trod schemaBack_laidOut (by kernel_rfl) (of_decide_eq_true (by kernel_rfl)) k0 bel lt0) (trodAll_cons_mk (shut_string Tryz.underlying9 w1) trodAll_mk0)), rfl, bel.frame _, fun h => by cases h⟩

theorem schemaBack_holds : Rows.SchemaBackSaid :=
  OpenClaim.holds_of_wide 8 Tryz.f8 rfl rfl rfl rfl rfl rfl rfl ⟨rfl, rfl, rfl, rfl, rfl⟩ rfl rfl rfl rfl rfl (by kernel_rfl) Tryz.func8 schemaBack_facts
    (of_decide_eq_true (by kernel_rfl)) (by unfold Func.isWrapper; first | (rw [if_pos (by decide +kernel)]; kernel_rfl) | (rw [if_neg (by decide +kernel)]; exact ⟨rfl, rfl⟩))
    (fun os started H enc _ => schemaBack_lifted os started H enc)

theorem schemaBack_card : Rows.SchemaBackCardSaid :=
  Claim7.holds_tied_plain_at .later [] [.data, .data, .data] true (true, "c7b6a3c8e96ce949febecdc545727cb706928357abda12ec3292788f8e5e8008") true
    schemaBack_holds (fun _ h => by cases h) (by kernel_rfl) (fun _ h => by cases h) schemaBack_row_tie rfl ⟨rfl, rfl⟩ (by kernel_rfl) rfl
    (fun f fn hf hfn => by
      obtain rfl : f = 8 := Option.some.inj ((show Tryz.prog.funcNamed Rows.schemaBackRow.func = some 8 by kernel_rfl).symm.trans hf) |>.symm
      obtain rfl : fn = Tryz.f8 := (Option.some.inj (Tryz.func8.symm.trans hfn)).symm
      exact ⟨by kernel_rfl, fun j t ht => by
        rw [Tryz.params8] at ht
        have hm : t ∈ [25, 9] := by simpa using Array.mem_of_getElem? ht
        have hall : ([25, 9].all fun u => !Tryz.prog.wantsStandIn u) = true := by kernel_rfl
        exact (show Tryz.prog.wantsStandIn t = false by simpa using List.all_eq_true.1 hall t hm)⟩)
    (by kernel_rfl)

#print axioms schemaBack_card
end Go.Proofs.YtcbjnifoojjipaaGreatDoor
