/- Contracts and lemmas (nothing is claimed here). -/
import Derived.Test.YtcbjnifoojjipaaGreatDoorJ13
import Derived.Test.YtcbjnifoojjipaaGreatDoorJ2
namespace Go.Proofs.YtcbjnifoojjipaaGreatDoor
open Go.RowKit Go.Vf
set_option maxHeartbeats 2000000 in
theorem readCollate_any (B F : Nat) (num : Int) (ws : List ByteArray) (o : Own) (hBF : B < F) (hws : WsOK ws) (w : World) (hL : LnAt w B num ws) (hF : FAt w F o) :
    Calls Tryz.prog 137 #[.pointer (some ⟨B, 0, none⟩), .pointer (some ⟨F, 0, none⟩)] w (ReadPost B F num w (readCollateL ws o)) := by
  have hnw := needWord_any B num ws ⟨#[115, 116, 114, 101, 110, 103, 116, 104]⟩ hws.1 w hL
  obtain ⟨R, hR⟩ : ∃ R, readCollateL ws o = R := ⟨_, rfl⟩
  rw [hR]
  have HR : Hid (readCollateL ws o = R) := hR
  have hw2 := hws.skip ⟨#[115, 116, 114, 101, 110, 103, 116, 104]⟩
  clear hR
  go_enter Tryz.func137, Tryz.ntmps137
  go_wp2_with fail
  refine hnw.mono ?_
  clear hnw
  rintro _ w2 (⟨hs, rfl, hL2, hO2⟩ | ⟨hs, rfl, hO2⟩)
  · have hF2 := hF.keep hO2 hBF
    have htc := takeCount_ws B num _ hw2 w2 hL2
    have HO2 : Hid (OthF B F w w2) := OthF.of F hO2
    clear hL2 hO2 hL hF
    go_wp2_with fail
    refine htc.mono ?_
    clear htc
    intro e w3 hp
    cases hc : cntW (skipL ws ⟨#[115, 116, 114, 101, 110, 103, 116, 104]⟩).2 with
    | none =>
      rw [hc] at hp
      obtain ⟨rfl, hO3⟩ := hp
      have hRn : R = none := by rw [← HR.out, readCollateL, if_pos hs, hc]
      subst hRn
      have HO3 : Hid (OthF B F w w3) := HO2.out.trans (OthF.of F hO3)
      clear HR hO3 hF2 HO2 hc hs
      unfold lostL
      go_wp2_with fail
      exact ⟨rfl, rfl, HO3.out⟩
    | some z =>
      obtain ⟨z1, z2⟩ := z
      rw [hc] at hp
      obtain ⟨rfl, hL3, hO3⟩ := hp
      have hRn : R = some ((skipL (skipL z2 ⟨#[115, 104, 105, 102, 116, 101, 100]⟩).2 ⟨#[98, 97, 99, 107]⟩).2, { o with str := z1, shf := (skipL z2 ⟨#[115, 104, 105, 102, 116, 101, 100]⟩).1, bck := (skipL (skipL z2 ⟨#[115, 104, 105, 102, 116, 101, 100]⟩).2 ⟨#[98, 97, 99, 107]⟩).1 }) := by rw [← HR.out, readCollateL, if_pos hs, hc]
      have hw3 : WsOK z2 := cntW_ok hw2 hc
      have hF3 : FAt w3 F o := hF2.keep hO3 hBF
      have c10 : w3.cell? ⟨F, 10, none⟩ = some (.int .i64 o.str) := Blk.cell hF3 10
      have f10 : w3.frozen? ⟨F, 10, none⟩ = false := Blk.free hF3 10
      have HO3 : Hid (OthF B F w _) := (HO2.out.trans (OthF.of F hO3)).trans (OthF.set B F 10 w3 (.int .i64 z1))
      have hL4 : LnAt _ B num z2 := hL3.setF hBF 10 (.int .i64 z1)
      have hF4 : FAt _ F _ := hF3.str z1
      have hsk := skip_any B num z2 ⟨#[115, 104, 105, 102, 116, 101, 100]⟩ hw3.1 _ hL4
      have HF4 : Hid (FAt _ F _) := hF4
      have hw4 := hw3.skip ⟨#[115, 104, 105, 102, 116, 101, 100]⟩
      clear HR hO3 hF2 HO2 hc hs hL3 hF3 hL4 hF4 hw2 hws
      generalize skipL z2 ⟨#[115, 104, 105, 102, 116, 101, 100]⟩ = S at *
      obtain ⟨s1, s2⟩ := S
      simp only at hRn hsk hw4
      go_wp2_with fail
      refine hsk.mono ?_
      rintro _ w5 ⟨rfl, hL5, hO5⟩
      have hF5 := HF4.out.keep hO5 hBF
      have c11 : w5.cell? ⟨F, 11, none⟩ = some (.bool o.shf) := Blk.cell hF5 11
      have f11 : w5.frozen? ⟨F, 11, none⟩ = false := Blk.free hF5 11
      have HO5 : Hid (OthF B F w _) := (HO3.out.trans (OthF.of F hO5)).trans (OthF.set B F 11 w5 (.bool s1))
      have hL6 : LnAt _ B num s2 := hL5.setF hBF 11 (.bool s1)
      have HF6 : Hid (FAt _ F _) := hF5.shf s1
      have hsk2 := skip_any B num s2 ⟨#[98, 97, 99, 107]⟩ hw4.1 _ hL6
      clear hsk c10 f10 HF4 hF5 HO3 hO5 hL5 hL6
      generalize skipL s2 ⟨#[98, 97, 99, 107]⟩ = S at *
      obtain ⟨b1, b2⟩ := S
      simp only at hRn hsk2
      go_wp2_with fail
      refine hsk2.mono ?_
      rintro _ w7 ⟨rfl, hL7, hO7⟩
      have hF7 := HF6.out.keep hO7 hBF
      have c12 : w7.cell? ⟨F, 12, none⟩ = some (.bool o.bck) := Blk.cell hF7 12
      have f12 : w7.frozen? ⟨F, 12, none⟩ = false := Blk.free hF7 12
      have HO8 : Hid (OthF B F w _) := (HO5.out.trans (OthF.of F hO7)).trans (OthF.set B F 12 w7 (.bool b1))
      have HL8 : Hid (LnAt _ B num b2) := hL7.setF hBF 12 (.bool b1)
      have HF8 : Hid (FAt _ F _) := hF7.bck b1
      clear hsk2 c11 f11 HF6 hF7 HO5 hO7 hL7
      subst hRn
      go_wp2_with fail
      exact ⟨rfl, _, by simp [results, Tryz.results137], rfl, HL8.out, HF8.out, HO8.out⟩
  · have hRn : R = none := by rw [← HR.out, readCollateL, hs]; rfl
    subst hRn
    have HO2 : Hid (OthF B F w w2) := OthF.of F hO2
    clear HR hs hO2 hL hF
    unfold lostL
    go_wp2_with fail
    exact ⟨rfl, rfl, HO2.out⟩
set_option maxHeartbeats 2000000 in
theorem readBounds_any (B F : Nat) (num : Int) (ws : List ByteArray) (o : Own) (hBF : B < F) (hws : WsOK ws) (w : World) (hL : LnAt w B num ws) (hF : FAt w F o) :
    Calls Tryz.prog 129 #[.pointer (some ⟨B, 0, none⟩), .pointer (some ⟨F, 0, none⟩)] w (ReadPost B F num w (readBoundsL ws o)) := by
  have hsk := skip_any B num ws ⟨#[102, 114, 111, 109]⟩ hws.1 w hL
  have hno := skipL_no ws ⟨#[102, 114, 111, 109]⟩
  obtain ⟨R, hR⟩ : ∃ R, readBoundsL ws o = R := ⟨_, rfl⟩
  rw [hR]
  unfold readBoundsL at hR
  have hw2 := hws.skip ⟨#[102, 114, 111, 109]⟩
  generalize skipL ws ⟨#[102, 114, 111, 109]⟩ = S at *
  obtain ⟨s1, s2⟩ := S
  simp only at hR hsk hw2 hno
  have HR : Hid (_ = R) := hR
  clear hR
  go_enter Tryz.func129, Tryz.ntmps129
  go_wp2_with fail
  refine hsk.mono ?_
  clear hsk
  rintro _ w2 ⟨rfl, hL2, hO2⟩
  have hF2 := hF.keep hO2 hBF
  have HO2 : Hid (OthF B F w w2) := OthF.of F hO2
  cases s1 with
  | false =>
    have hRn : R = some (ws, o) := HR.out.symm
    have e2 : s2 = ws := hno rfl
    subst e2
    subst hRn
    have HL2 : Hid (LnAt w2 B num s2) := hL2
    have HF2 : Hid (FAt w2 F o) := hF2
    clear HR hL2 hF2 hO2 hL hF hno
    go_wp2_with fail
    exact ⟨rfl, _, by simp [results, Tryz.results129], rfl, HL2.out, HF2.out, HO2.out⟩
  | true =>
    have c4 : w2.cell? ⟨F, 4, none⟩ = some (.bool o.bnd) := Blk.cell hF2 4
    have f4 : w2.frozen? ⟨F, 4, none⟩ = false := Blk.free hF2 4
    have HO3 : Hid (OthF B F w _) := HO2.out.trans (OthF.set B F 4 w2 (.bool true))
    have hL3 : LnAt _ B num s2 := hL2.setF hBF 4 (.bool true)
    have HF3 : Hid (FAt _ F _) := hF2.bnd true
    have htn := takeNumber_ws B num s2 hw2 _ hL3
    clear hL3 hL2 hF2 hO2 hL hF hno HO2
    go_wp2_with fail
    refine htn.mono ?_
    clear htn
    intro e w4 hp
    cases hc : numW s2 with
    | none =>
      rw [hc] at hp
      obtain ⟨rfl, hO4⟩ := hp
      have hRn : R = none := by rw [← HR.out, hc]; rfl
      subst hRn
      have HO4 : Hid (OthF B F w w4) := HO3.out.trans (OthF.of F hO4)
      clear HR hO4 hc HO3 HF3
      unfold lostL
      go_wp2_with fail
      exact ⟨rfl, rfl, HO4.out⟩
    | some z =>
      obtain ⟨⟨zb, zm⟩, z2⟩ := z
      rw [hc] at hp
      obtain ⟨rfl, hL4, hO4⟩ := hp
      have hw4 : WsOK z2 := numW_ok hw2 hc
      have hR2 := HR.out
      rw [hc] at hR2
      simp only [if_true] at hR2
      have hF4 := HF3.out.keep hO4 hBF
      have c5 : w4.cell? ⟨F, 5, none⟩ = some (.bool o.ln) := Blk.cell hF4 5
      have f5 : w4.frozen? ⟨F, 5, none⟩ = false := Blk.free hF4 5
      have c6 : w4.cell? ⟨F, 6, none⟩ = some (.string o.lm) := Blk.cell hF4 6
      have f6 : w4.frozen? ⟨F, 6, none⟩ = false := Blk.free hF4 6
      have HO5 : Hid (OthF B F w _) := ((HO3.out.trans (OthF.of F hO4)).trans (OthF.set B F 5 w4 (.bool zb))).trans (OthF.set B F 6 _ (.string (bs zm)))
      have hL5 : LnAt _ B num z2 := (hL4.setF hBF 5 (.bool zb)).setF hBF 6 (.string (bs zm))
      have HF5 : Hid (FAt _ F _) := (hF4.ln zb).lm (bs zm)
      have hnw := needWord_any B num z2 ⟨#[116, 111]⟩ hw4.1 _ hL5
      have hw6 := hw4.skip ⟨#[116, 111]⟩
      clear HR hO4 hF4 HO3 HF3 hL4 hL5 c4 f4 hc
      generalize skipL z2 ⟨#[116, 111]⟩ = S at *
      obtain ⟨t1, t2⟩ := S
      simp only at hR2 hnw hw6
      have HR2 : Hid (_ = R) := hR2
      clear hR2
      simp only [numV]
      go_wp2_with fail
      refine hnw.mono ?_
      clear hnw
      rintro _ w6 (⟨rfl, rfl, hL6, hO6⟩ | ⟨rfl, rfl, hO6⟩)
      · have HF6 : Hid (FAt _ F _) := HF5.out.keep hO6 hBF
        have HO6 : Hid (OthF B F w w6) := HO5.out.trans (OthF.of F hO6)
        have htn := takeNumber_ws B num t2 hw6 _ hL6
        clear HF5 HO5 hL6 hO6 c5 f5 c6 f6
        go_wp2_with fail
        refine htn.mono ?_
        clear htn
        intro e w7 hp
        cases hc : numW t2 with
        | none =>
          rw [hc] at hp
          obtain ⟨rfl, hO7⟩ := hp
          have hRn : R = none := by rw [← HR2.out, hc]; rfl
          subst hRn
          have HO7 : Hid (OthF B F w w7) := HO6.out.trans (OthF.of F hO7)
          clear HR2 hO7 hc HO6 HF6
          unfold lostL
          go_wp2_with fail
          exact ⟨rfl, rfl, HO7.out⟩
        | some y =>
          obtain ⟨⟨yb, ym⟩, y2⟩ := y
          rw [hc] at hp
          obtain ⟨rfl, hL7, hO7⟩ := hp
          have hRn := HR2.out
          rw [hc] at hRn
          simp only [if_true] at hRn
          have hF7 := HF6.out.keep hO7 hBF
          have c7 : w7.cell? ⟨F, 7, none⟩ = some (.bool o.hn) := Blk.cell hF7 7
          have f7 : w7.frozen? ⟨F, 7, none⟩ = false := Blk.free hF7 7
          have c8 : w7.cell? ⟨F, 8, none⟩ = some (.string o.hm) := Blk.cell hF7 8
          have f8 : w7.frozen? ⟨F, 8, none⟩ = false := Blk.free hF7 8
          have HO8 : Hid (OthF B F w _) := ((HO6.out.trans (OthF.of F hO7)).trans (OthF.set B F 7 w7 (.bool yb))).trans (OthF.set B F 8 _ (.string (bs ym)))
          have HL8 : Hid (LnAt _ B num y2) := (hL7.setF hBF 7 (.bool yb)).setF hBF 8 (.string (bs ym))
          have HF8 : Hid (FAt _ F _) := (hF7.hn yb).hm (bs ym)
          clear HR2 hO7 hF7 HO6 HF6 hL7 hc
          subst hRn
          simp only [numV]
          go_wp2_with fail
          exact ⟨rfl, _, by simp [results, Tryz.results129], rfl, HL8.out, HF8.out, HO8.out⟩
      · have hRn : R = none := by rw [← HR2.out]; rfl
        subst hRn
        have HO6 : Hid (OthF B F w w6) := HO5.out.trans (OthF.of F hO6)
        clear HR2 hO6 HO5 HF5
        unfold lostL
        go_wp2_with fail
        exact ⟨rfl, rfl, HO6.out⟩
abbrev Ln := Int × List ByteArray
def WRow (K R : Nat) (w : World) (a : Option Addr) (c : Nat) (ws : List ByteArray) : Prop := ws.length ≤ c ∧ ∀ j (hj : j < ws.length), ∃ b off, a = some ⟨b, off, none⟩ ∧ b < K ∧ b ≠ R ∧ w.cell? ⟨b, off + j, none⟩ = some (.string ws[j])
theorem WRow.wat {K R : Nat} {w : World} {a : Option Addr} {c : Nat} {ws : List ByteArray} (h : WRow K R w a c ws) {B : Nat} (hB : K ≤ B) : WAt w B a c ws :=
  ⟨h.1, fun j hj => by obtain ⟨b, off, h1, h2, _, h3⟩ := h.2 j hj; exact ⟨b, off, h1, by omega, h3⟩⟩
def Kp (K R : Nat) (w w' : World) : Prop := ∀ k, k < K → k ≠ R → w'.heap[k]? = w.heap[k]?
theorem Kp.of {K R : Nat} {w w' : World} (h : Oth R w w') (hK : K ≤ w.heap.size) : Kp K R w w' := fun k hk hR => h.block k (by omega) hR
theorem Kp.trans {K R : Nat} {a b c : World} (h : Kp K R a b) (k : Kp K R b c) : Kp K R a c := fun i hi hR => (k i hi hR).trans (h i hi hR)
theorem WRow.kp {K R : Nat} {w w' : World} {a : Option Addr} {c : Nat} {ws : List ByteArray} (h : WRow K R w a c ws) (hk : Kp K R w w') : WRow K R w' a c ws :=
  ⟨h.1, fun j hj => by obtain ⟨b, off, h1, h2, h4, h3⟩ := h.2 j hj; exact ⟨b, off, h1, h2, h4, (cell_of_block (hk b h2 h4) _).trans h3⟩⟩
def LRow (K R : Nat) (w : World) (a : Option Addr) (c : Nat) (ls : List Ln) : Prop := ls.length ≤ c ∧ ∀ j (hj : j < ls.length), ∃ b off wa wc, a = some ⟨b, off, none⟩ ∧ b < K ∧ b ≠ R ∧ w.cell? ⟨b, off + j * 2, none⟩ = some (.int .i64 ls[j].1) ∧ w.cell? ⟨b, off + j * 2 + 1, none⟩ = some (.slice wa ls[j].2.length wc) ∧ WRow K R w wa wc ls[j].2
theorem LRow.kp {K R : Nat} {w w' : World} {a : Option Addr} {c : Nat} {ls : List Ln} (h : LRow K R w a c ls) (hk : Kp K R w w') : LRow K R w' a c ls :=
  ⟨h.1, fun j hj => by
    obtain ⟨b, off, wa, wc, h1, h2, h4, h3, h5, h6⟩ := h.2 j hj
    exact ⟨b, off, wa, wc, h1, h2, h4, (cell_of_block (hk b h2 h4) _).trans h3, (cell_of_block (hk b h2 h4) _).trans h5, h6.kp hk⟩⟩
theorem LRow.tail {K R : Nat} {w : World} {b off c : Nat} {l : Ln} {ls : List Ln} (h : LRow K R w (some ⟨b, off, none⟩) c (l :: ls)) {q : Option Addr} (hq : (if c = 1 then some (⟨b, off, none⟩ : Addr) else some ⟨b, off + 2, none⟩) = q) : LRow K R w q (c - 1) ls := by
  have h1 := h.1
  simp only [List.length_cons] at h1
  refine ⟨by omega, fun j hj => ?_⟩
  obtain ⟨b', off', wa, wc, e, h2, h4, h3, h5, h6⟩ := h.2 (j + 1) (by simp only [List.length_cons]; omega)
  cases e
  rw [if_neg (by omega)] at hq
  simp only [List.getElem_cons_succ] at h3 h5 h6
  exact ⟨b, off + 2, wa, wc, hq.symm, h2, h4, by rw [show off + 2 + j * 2 = off + (j + 1) * 2 by omega]; exact h3, by rw [show off + 2 + j * 2 + 1 = off + (j + 1) * 2 + 1 by omega]; exact h5, h6⟩
structure RdAt (K R : Nat) (w : World) (ls : List Ln) (after : Int) (lv : Value) : Prop where
  hR : R < K
  hK : K ≤ w.heap.size
  row : ∃ a c, Blk w R 107 #[.slice a ls.length c, .int .i64 after, lv] ∧ LRow K R w a c ls
theorem next_done {K R : Nat} {w : World} {b off n c : Nat} {after : Int} {lv : Value} {num : Int} {ws : List ByteArray} {ls : List Ln} {wa : Option Addr} {m wc : Nat} (hR : R < K) (hK : K ≤ w.heap.size) (hn : ls.length = n)
    (hB : Blk w R 107 #[.slice (some ⟨b, off, none⟩) (n + 1) c, .int .i64 after, lv]) (hw : WRow K R w wa wc ws) {q : Option Addr} {c' : Nat} (hq : LRow K R w q c' ls)
    {wF : World} (hF : wF = ((w.setCell ⟨R, 0, none⟩ (.slice q n c')).alloc (.cells #[.int .i64 num, .slice wa m wc] 139)).alloc (.cells #[.int .i64 num, .slice wa m wc] 139)) :
    (wF.cell? ⟨w.heap.size, 0, none⟩ = some (.int .i64 num) ∧ wF.cell? ⟨w.heap.size, 1, none⟩ = some (.slice wa m wc)) ∧ WRow K R wF wa wc ws ∧ RdAt K R wF ls after lv ∧ Oth R w wF := by
  subst hF
  have hsz : (w.setCell ⟨R, 0, none⟩ (.slice q n c')).heap.size = w.heap.size := by simp
  obtain ⟨w1, h1⟩ : ∃ w1, w.setCell ⟨R, 0, none⟩ (.slice q n c') = w1 := ⟨_, rfl⟩
  have hB1 := hB.set 0 (.slice q n c')
  have hO1 : Oth R w w1 := by rw [← h1]; exact Oth.set R 0 w _
  rw [h1] at hsz hB1 ⊢
  have hN := Blk.new w1 139 #[.int .i64 num, .slice wa m wc]
  have hb1 : Below w1.heap.size w1 _ := (Below.refl w1.heap.size w1).alloc (Nat.le_refl _) (.cells #[.int .i64 num, .slice wa m wc] 139)
  have hs1 := alloc_size w1 (.cells #[.int .i64 num, .slice wa m wc] 139)
  have hb2 := hb1.alloc (by omega) (.cells #[.int .i64 num, .slice wa m wc] 139)
  have hN2 := hN.old ((Below.refl _ _).alloc (Nat.le_refl _) (.cells #[.int .i64 num, .slice wa m wc] 139))
  rw [hsz] at hN2
  have hO2 := hO1.trans (Oth.of hb2)
  have hkp := Kp.of hO2 hK
  refine ⟨⟨hN2.cell 0, hN2.cell 1⟩, hw.kp hkp, ⟨hR, Nat.le_trans hK hO2.size, q, c', ?_, hq.kp hkp⟩, hO2⟩
  rw [hn]
  exact hB1.old hb2
set_option maxHeartbeats 2000000 in
theorem next_nil (K R : Nat) (after : Int) (lv : Value) (w : World) (h : RdAt K R w [] after lv) :
    Calls Tryz.prog 77 #[.pointer (some ⟨R, 0, none⟩)] w fun e w' => e = .returned (.agg #[.int .i64 after, .slice none 0 0]) ∧ Below w.heap.size w w' := by
  obtain ⟨hR, hK, a, c, hB, hW⟩ := h
  have c0 : w.cell? ⟨R, 0, none⟩ = some (.slice a 0 c) := hB.cell 0
  have c1 : w.cell? ⟨R, 1, none⟩ = some (.int .i64 after) := hB.cell 1
  have hRl := hB.lt
  have hb := (Below.refl w.heap.size w).alloc (Nat.le_refl _) (.cells #[.int .i64 after, .slice none 0 0] 139)
  clear hB hW
  go_enter Tryz.func77, Tryz.ntmps77
  go_wp2_with fail
  have hN := Blk.new w 139 #[.int .i64 after, .slice none 0 0]
  have d0 := hN.cell 0
  have d1 := hN.cell 1
  exact ⟨rfl, _, by simp [results, Tryz.results77, go_sem, d0, d1], rfl, hb⟩
set_option maxHeartbeats 2000000 in
theorem next_cons (K R : Nat) (after : Int) (lv : Value) (l : Ln) (ls : List Ln) (hl : ls.length ≤ 1000000) (w : World) (h : RdAt K R w (l :: ls) after lv) :
    Calls Tryz.prog 77 #[.pointer (some ⟨R, 0, none⟩)] w fun e w' => ∃ wa wc, e = .returned (.agg #[.int .i64 l.1, .slice wa l.2.length wc]) ∧ WRow K R w' wa wc l.2 ∧ RdAt K R w' ls after lv ∧ Oth R w w' := by
  obtain ⟨hR, hK, a, c, hB, hW⟩ := h
  obtain ⟨n, hn⟩ : ∃ n, ls.length = n := ⟨_, rfl⟩
  simp only [List.length_cons, hn] at hB
  have c0 : w.cell? ⟨R, 0, none⟩ = some (.slice a (n + 1) c) := hB.cell 0
  have f0 : w.frozen? ⟨R, 0, none⟩ = false := hB.free 0
  have hRl := hB.lt
  obtain ⟨b, off, wa, wc, rfl, hb1, hb2, e1, e2, hws⟩ := hW.2 0 (by simp)
  simp only [List.getElem_cons_zero, Nat.zero_mul, Nat.add_zero] at e1 e2 hws
  obtain ⟨num, ws⟩ := l
  simp only at e1 e2 hws ⊢
  have hcl : n + 1 ≤ c := by have := hW.1; simp only [List.length_cons, hn] at this; exact this
  have HB : Hid (Blk w R 107 _) := hB
  have HW : Hid (LRow K R w _ c _) := hW
  have HWS : Hid (WRow K R w _ _ _) := hws
  obtain ⟨m, hm⟩ : ∃ m, ws.length = m := ⟨_, rfl⟩
  rw [hm] at e2 ⊢
  have hbl : b < w.heap.size := by omega
  have hn1 : n ≤ 1000000 := by omega
  clear hB hW hws
  go_enter Tryz.func77, Tryz.ntmps77
  go_wp2_with fail
  · have hq : LRow K R w (some ⟨b, off, none⟩) 0 ls := by
      have := HW.out.tail (if_pos (by assumption))
      rw [show c - 1 = 0 by omega] at this
      exact this
    have hd := next_done (num := num) (m := m) hR hK hn HB.out HWS.out hq rfl
    obtain ⟨⟨d0, d1⟩, h1, h2, h3⟩ := hd
    exact ⟨rfl, _, by simp [results, Tryz.results77, go_sem, d0, d1], _, _, rfl, h1, h2, h3⟩
  · have hq : LRow K R w (some ⟨b, off + 2, none⟩) (c - 1) ls := HW.out.tail (if_neg (by assumption))
    have hd := next_done (num := num) (m := m) hR hK hn HB.out HWS.out hq rfl
    obtain ⟨⟨d0, d1⟩, h1, h2, h3⟩ := hd
    exact ⟨rfl, _, by simp [results, Tryz.results77, go_sem, d0, d1], _, _, rfl, h1, h2, h3⟩
end Go.Proofs.YtcbjnifoojjipaaGreatDoor
