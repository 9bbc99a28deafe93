/- Contracts and lemmas (nothing is claimed here). -/
import Derived.Test.YtcbjnifoojjipaaGreatDoorJ6
import Derived.Lib.Bytealg
import Derived.Test.YtcbjnifoojjipaaGreatDoorJ8
import Derived.Test.YtcbjnifoojjipaaGreatDoorJ2
import Derived.BigRegion
namespace Go.Proofs.YtcbjnifoojjipaaGreatDoor
open Go.RowKit Go.Vf
theorem isNaN_any (i : Int) (w : World) : Calls Tryz.prog 176 #[.int .i64 i] w fun e w' => e = .returned (.bool false) ∧ w = w' := by
  go_enter Tryz.func176, Tryz.ntmps176
  go_wp2
  go_ret
  simp
def sgn (a b : Int) : Int := if a < b then -1 else if b < a then 1 else 0
theorem cmpInt_any (a b : Int) (w : World) : Calls Tryz.prog 168 #[.int .i64 a, .int .i64 b] w fun e w' => e = .returned (.int .i64 (sgn a b)) ∧ w = w' := by
  have hs : sgn a b = if a < b then -1 else if b < a then 1 else 0 := rfl
  go_enter Tryz.func168, Tryz.ntmps168
  go_wp2_with fail
  refine (isNaN_any a _).mono ?_
  rintro e w1 ⟨rfl, rfl⟩
  go_wp2_with fail
  refine (isNaN_any b _).mono ?_
  rintro e w1 ⟨rfl, rfl⟩
  by_cases h1 : a < b
  · go_wp2
    go_ret
    simp [sgn, h1]
  · by_cases h2 : b < a
    · go_wp2
      go_ret
      simp [sgn, h1, h2]
    · go_wp2
      go_ret
      simp [sgn]
      omega
theorem compareBytes_eq : ∀ (a b : List UInt8), Lib.compareBytes a b = cmpL a b
  | [], [] => rfl
  | [], _ :: _ => rfl
  | _ :: _, [] => rfl
  | x :: a, y :: b => by
    have ih := compareBytes_eq a b
    simp only [Lib.compareBytes, cmpL, ih]
theorem cmpStr_any (a b : ByteArray) (w : World) : Calls Tryz.prog 177 #[.string a, .string b] w fun e w' => e = .returned (.int .i64 (cmpL a.data.toList b.data.toList)) ∧ w = w' := by
  have hx : (callFunc 181 #[.string a, .string b]).run Tryz.prog w = .ok (.value (.int .i64 (cmpL a.data.toList b.data.toList))) w := by
    rw [run_callFunc_extern Tryz.func181 (by kernel_rfl) (by kernel_rfl) (by kernel_rfl) (e := Extern.BytealgCompare.compare) (by kernel_rfl), Lib.run_compareString, compareBytes_eq]
    rfl
  go_enter Tryz.func177, Tryz.ntmps177
  go_wp2
  go_ret
  exact ⟨rfl, rfl⟩
theorem scompare_any (a b : ByteArray) (w : World) : Calls Tryz.prog 169 #[.string a, .string b] w fun e w' => e = .returned (.int .i64 (cmpL a.data.toList b.data.toList)) ∧ w = w' := by
  go_enter Tryz.func169, Tryz.ntmps169
  go_wp2_with fail
  refine (cmpStr_any a b _).mono ?_
  rintro e w1 ⟨rfl, rfl⟩
  go_wp2
  go_ret
  exact ⟨rfl, rfl⟩
theorem cmpOr_two (h : Nat) (x y : Int) (w : World) (c0 : w.cell? ⟨h, 0, none⟩ = some (.int .i64 x)) (c1 : w.cell? ⟨h, 1, none⟩ = some (.int .i64 y)) :
    Calls Tryz.prog 167 #[.slice (some ⟨h, 0, none⟩) 2 2] w fun e w' => e = .returned (.int .i64 (if x = 0 then y else x)) ∧ w = w' := by
  go_enter Tryz.func167, Tryz.ntmps167
  go_wp2
  go_loopw [8] (fun i wr => ∃ k : Nat, k ≤ 2 ∧ i = .int .i64 k ∧ (0 < k → x = 0) ∧ (1 < k → y = 0) ∧ w = wr) (fun i _ => 2 - (intOf i).toNat)
  case atStart => exact ⟨0, by omega, rfl, by omega, by omega, rfl⟩
  case round =>
    obtain ⟨k, hk, rfl, hx, hy, rfl⟩ := hrel
    by_cases h0 : k = 0
    · subst h0
      clear hx hy
      by_cases hx : x = 0
      · subst hx
        go_wp2
        go_roundw
        case rel => exact ⟨1, by omega, by go_num, fun _ => trivial, by omega, trivial⟩
        case measure => simp [intOf]
      · go_wp2
        go_ret
        simp
    · by_cases h1 : k = 1
      · subst h1
        have := hx (by omega)
        subst this
        clear hx hy
        by_cases hy : y = 0
        · subst hy
          go_wp2
          go_roundw
          case rel => exact ⟨2, by omega, by go_num, fun _ => trivial, fun _ => trivial, trivial⟩
          case measure => simp [intOf]
        · go_wp2
          go_ret
          simp
      · obtain rfl : k = 2 := by omega
        have := hx (by omega)
        have := hy (by omega)
        subst x y
        go_wp2
        go_ret
        simp
theorem cmpOr_is (h : Nat) (x y r : Int) (w : World) (c0 : w.cell? ⟨h, 0, none⟩ = some (.int .i64 x)) (c1 : w.cell? ⟨h, 1, none⟩ = some (.int .i64 y)) (hr : r = if x = 0 then y else x) :
    Calls Tryz.prog 167 #[.slice (some ⟨h, 0, none⟩) 2 2] w fun e w' => e = .returned (.int .i64 r) ∧ w = w' := by
  subst hr
  exact cmpOr_two h x y w c0 c1
def magC (a b : List UInt8) : Int := if sgn a.length b.length = 0 then cmpL a b else sgn a.length b.length
set_option maxHeartbeats 400000 in
theorem magnitudes_any (a b : ByteArray) (w : World) (_ha : a.size ≤ 17179869184) (_hb : b.size ≤ 17179869184) :
    Calls Tryz.prog 161 #[.string a, .string b] w fun e w' => e = .returned (.int .i64 (magC a.data.toList b.data.toList)) ∧ Below w.heap.size w w' := by
  go_enter Tryz.func161, Tryz.ntmps161
  go_wp2_with fail
  refine (cmpInt_any _ _ _).mono ?_
  rintro e w1 ⟨rfl, rfl⟩
  go_wp2_with fail
  refine (scompare_any _ _ _).mono ?_
  rintro e w1 ⟨rfl, rfl⟩
  go_wp2_with fail
  refine (cmpOr_is _ _ _ (magC a.data.toList b.data.toList) _ (by simp; rfl) (by simp; rfl) (by simp only [magC, ← Lib.size_eq])).mono ?_
  rintro e w1 ⟨rfl, rfl⟩
  go_wp2
  go_ret
  exact ⟨rfl, (Below.refl _ _).alloc (Nat.le_refl _) _⟩
def cmpN (ba : Bool) (a : List UInt8) (bb : Bool) (b : List UInt8) : Int := if ba && bb then magC b a else if ba then -1 else if bb then 1 else magC a b
def compE (ba : Bool) (a : List UInt8) (bb : Bool) (b : List UInt8) : Ending :=
  if chk ba a ≠ 0 then .returned (.tuple #[.int .i64 0, .int .i64 (chk ba a)]) else if chk bb b ≠ 0 then .returned (.tuple #[.int .i64 0, .int .i64 (chk bb b)]) else .returned (.tuple #[.int .i64 (cmpN ba a bb b), .int .i64 0])
set_option maxHeartbeats 1000000 in
theorem compare_any (ba : Bool) (a : ByteArray) (bb : Bool) (b : ByteArray) (ha : a.size ≤ 17179869184) (hb : b.size ≤ 17179869184) (w : World) :
    Calls Tryz.prog 149 #[numV ba a, numV bb b] w fun e w' => e = compE ba a.data.toList bb b.data.toList ∧ Below w.heap.size w w' := by
  have hW := ((Below.refl w.heap.size w).alloc (Nat.le_refl _) (.cells #[.bool ba, .string a] 44)).alloc (by simp) (.cells #[.bool bb, .string b] 44)
  by_cases h1 : chk ba a.data.toList = 0
  · by_cases h2 : chk bb b.data.toList = 0
    · have hR : compE ba a.data.toList bb b.data.toList = .returned (.tuple #[.int .i64 (cmpN ba a.data.toList bb b.data.toList), .int .i64 0]) := by simp [compE, h1, h2]
      rw [hR]
      clear hR
      go_enter Tryz.func149, Tryz.ntmps149
      go_wp2_with fail
      refine (check_any ba a ha _).mono ?_
      rintro e w1 ⟨rfl, hb1⟩
      rw [h1]
      clear h1
      obtain ⟨p0, p1, p2⟩ := box_num hb1 (h := w.heap.size) (v0 := .bool ba) (v1 := .string a) ⟨by simp [go_sem], by simp [go_sem], by simp; omega⟩
      obtain ⟨q0, q1, q2⟩ := box_num hb1 (h := w.heap.size + 1) (v0 := .bool bb) (v1 := .string b) ⟨by simp [go_sem], by simp [go_sem], by simp⟩
      replace hW := hW.trans (hb1.mono hW.size)
      clear hb1
      go_wp2_with fail
      refine (check_any bb b hb _).mono ?_
      rintro e w2 ⟨rfl, hb2⟩
      rw [h2]
      clear h2
      replace hW := hW.trans (hb2.mono hW.size)
      obtain ⟨p0, p1, p2⟩ := box_num hb2 (h := w.heap.size) (v0 := .bool ba) (v1 := .string a) ⟨p0, p1, p2⟩
      obtain ⟨q0, q1, q2⟩ := box_num hb2 (h := w.heap.size + 1) (v0 := .bool bb) (v1 := .string b) ⟨q0, q1, q2⟩
      clear hb2
      cases ba <;> cases bb
      · go_wp2_with fail
        refine (magnitudes_any a b _ ha hb).mono ?_
        rintro e w3 ⟨rfl, hb3⟩
        go_wp2
        go_ret2
        exact ⟨rfl, hW.trans (hb3.mono hW.size)⟩
      · go_wp2
        go_ret2
        exact ⟨rfl, hW⟩
      · go_wp2
        go_ret2
        exact ⟨rfl, hW⟩
      · go_wp2_with fail
        refine (magnitudes_any b a _ hb ha).mono ?_
        rintro e w3 ⟨rfl, hb3⟩
        go_wp2
        go_ret2
        exact ⟨rfl, hW.trans (hb3.mono hW.size)⟩
    · have hR : compE ba a.data.toList bb b.data.toList = .returned (.tuple #[.int .i64 0, .int .i64 (chk bb b.data.toList)]) := by simp [compE, h1, h2]
      rw [hR]
      clear hR
      generalize hcc : chk bb b.data.toList = c at h2 ⊢
      go_enter Tryz.func149, Tryz.ntmps149
      go_wp2_with fail
      refine (check_any ba a ha _).mono ?_
      rintro e w1 ⟨rfl, hb1⟩
      rw [h1]
      clear h1
      obtain ⟨q0, q1, q2⟩ := box_num hb1 (h := w.heap.size + 1) (v0 := .bool bb) (v1 := .string b) ⟨by simp [go_sem], by simp [go_sem], by simp⟩
      replace hW := hW.trans (hb1.mono hW.size)
      clear hb1
      go_wp2_with fail
      refine (check_any bb b hb _).mono ?_
      rintro e w2 ⟨rfl, hb2⟩
      rw [hcc]
      go_wp2
      go_ret2
      exact ⟨rfl, hW.trans (hb2.mono hW.size)⟩
  · have hR : compE ba a.data.toList bb b.data.toList = .returned (.tuple #[.int .i64 0, .int .i64 (chk ba a.data.toList)]) := by simp [compE, h1]
    rw [hR]
    clear hR
    generalize hcc : chk ba a.data.toList = c at h1 ⊢
    go_enter Tryz.func149, Tryz.ntmps149
    go_wp2_with fail
    refine (check_any ba a ha _).mono ?_
    rintro e w1 ⟨rfl, hb1⟩
    rw [hcc]
    go_wp2
    go_ret2
    exact ⟨rfl, hW.trans (hb1.mono hW.size)⟩
def bndQ (o : Own) : Bool := decide (chk o.ln o.lm.data.toList = 0) && decide (chk o.hn o.hm.data.toList = 0) && decide (cmpN o.ln o.lm.data.toList o.hn o.hm.data.toList ≤ 0)
def bndR (o : Own) : Bool := if o.bnd then bndQ o else !o.ln && o.lm.size == 0 && !o.hn && o.hm.size == 0
theorem compE_0 {ba : Bool} {a : List UInt8} {bb : Bool} {b : List UInt8} (h1 : chk ba a = 0) (h2 : chk bb b = 0) : compE ba a bb b = .returned (.tuple #[.int .i64 (cmpN ba a bb b), .int .i64 0]) := by simp [compE, h1, h2]
theorem compE_1 {ba : Bool} {a : List UInt8} {bb : Bool} {b : List UInt8} (h : ¬ (chk ba a = 0 ∧ chk bb b = 0)) : ∃ e : Int, e ≠ 0 ∧ compE ba a bb b = .returned (.tuple #[.int .i64 0, .int .i64 e]) := by
  by_cases h1 : chk ba a = 0
  · have h2 : chk bb b ≠ 0 := fun h2 => h ⟨h1, h2⟩
    exact ⟨_, h2, by simp [compE, h1, h2]⟩
  · exact ⟨_, h1, by simp [compE, h1]⟩
set_option maxHeartbeats 1000000 in
theorem boundsRight_any (o : Own) (a : Option Addr) (n c : Nat) (hl : o.lm.size ≤ 17179869184) (hh : o.hm.size ≤ 17179869184) (w : World) : Calls Tryz.prog 127 #[fV o a n c] w fun e w' => e = .returned (.bool (bndR o)) ∧ Below w.heap.size w w' := by
  unfold fV bndR
  have hb1 := ((Below.refl w.heap.size w).alloc (Nat.le_refl _) (fC o a n c)).alloc (by simp) (.cells #[.bool false, .string ⟨#[]⟩] 44)
  unfold fC at hb1
  cases hbd : o.bnd with
  | false =>
    rw [hbd] at hb1
    obtain ⟨z1, hz1⟩ : ∃ z, (!o.ln && o.lm.size == 0) = z := ⟨_, rfl⟩
    obtain ⟨z2, hz2⟩ : ∃ z, (!o.hn && o.hm.size == 0) = z := ⟨_, rfl⟩
    have he1 := num0 o.ln o.lm z1 hz1
    have he2 := num0 o.hn o.hm z2 hz2
    have hR : (if false = true then bndQ o else !o.ln && o.lm.size == 0 && !o.hn && o.hm.size == 0) = (z1 && z2) := by
      rw [if_neg (by simp), ← hz1, ← hz2]; simp only [Bool.and_assoc]
    rw [hR]
    clear hz1 hz2 hR
    cases z1 with
    | false =>
      go_enter Tryz.func127, Tryz.ntmps127
      go_wp2_with fail
      go_ret
      exact ⟨rfl, hb1⟩
    | true =>
      cases z2 with
      | false =>
        go_enter Tryz.func127, Tryz.ntmps127
        go_wp2_with fail
        go_ret
        exact ⟨rfl, hb1⟩
      | true =>
        go_enter Tryz.func127, Tryz.ntmps127
        go_wp2_with fail
        go_ret
        exact ⟨rfl, hb1⟩
  | true =>
    rw [hbd] at hb1
    rw [if_pos rfl]
    have hcp : ∀ W, Calls Tryz.prog 149 #[.agg #[.bool o.ln, .string o.lm], .agg #[.bool o.hn, .string o.hm]] W fun e w' => e = compE o.ln o.lm.data.toList o.hn o.hm.data.toList ∧ Below W.heap.size W w' := fun W => compare_any o.ln o.lm o.hn o.hm hl hh W
    by_cases hc : chk o.ln o.lm.data.toList = 0 ∧ chk o.hn o.hm.data.toList = 0
    · rw [compE_0 hc.1 hc.2] at hcp
      have hR : bndQ o = decide (cmpN o.ln o.lm.data.toList o.hn o.hm.data.toList ≤ 0) := by simp [bndQ, hc.1, hc.2]
      rw [hR]
      generalize cmpN o.ln o.lm.data.toList o.hn o.hm.data.toList = q at hcp ⊢
      clear hR hc
      go_enter Tryz.func127, Tryz.ntmps127
      go_wp2_with fail
      refine (hcp _).mono ?_
      rintro _ w2 ⟨rfl, hb2⟩
      have hb3 := hb1.trans (hb2.mono hb1.size)
      clear hcp hb1 hb2
      go_wp2_with fail
      go_ret
      exact ⟨rfl, hb3⟩
    · obtain ⟨e, he, hE⟩ := compE_1 hc
      rw [hE] at hcp
      have hR : bndQ o = false := by
        unfold bndQ
        cases h1 : decide (chk o.ln o.lm.data.toList = 0) with
        | false => rfl
        | true =>
          cases h2 : decide (chk o.hn o.hm.data.toList = 0) with
          | false => rfl
          | true => exact absurd ⟨of_decide_eq_true h1, of_decide_eq_true h2⟩ hc
      rw [hR]
      have t1 : (e == 0) = false := by simpa using he
      clear hR hc hE he
      go_enter Tryz.func127, Tryz.ntmps127
      go_wp2_with fail
      refine (hcp _).mono ?_
      rintro _ w2 ⟨rfl, hb2⟩
      have hb3 := hb1.trans (hb2.mono hb1.size)
      clear hcp hb1 hb2
      go_wp2_with fail
      go_ret
      exact ⟨rfl, hb3⟩
def kindC : Array Value := #[.string ⟨#[]⟩, .nilFunc, .nilFunc, .nilFunc, .nilFunc, .string ⟨#[98, 111, 111, 108]⟩, .func (.func 123) #[] #[], .func (.func 124) #[] #[], .func (.func 125) #[] #[], .func (.func 126) #[] #[], .string ⟨#[105, 110, 116]⟩, .func (.func 127) #[] #[], .func (.func 128) #[] #[], .func (.func 129) #[] #[], .func (.func 130) #[] #[], .string ⟨#[98, 121, 116, 101, 115]⟩, .func (.func 131) #[] #[], .func (.func 132) #[] #[], .func (.func 133) #[] #[], .func (.func 134) #[] #[], .string ⟨#[105, 100]⟩, .func (.func 123) #[] #[], .func (.func 124) #[] #[], .func (.func 125) #[] #[], .func (.func 126) #[] #[], .string ⟨#[110, 97, 109, 101]⟩, .func (.func 131) #[] #[], .func (.func 132) #[] #[], .func (.func 133) #[] #[], .func (.func 134) #[] #[], .string ⟨#[116, 101, 120, 116]⟩, .func (.func 135) #[] #[], .func (.func 136) #[] #[], .func (.func 137) #[] #[], .func (.func 138) #[] #[], .string ⟨#[116, 117, 112, 108, 101]⟩, .func (.func 123) #[] #[], .func (.func 139) #[] #[], .func (.func 125) #[] #[], .func (.func 126) #[] #[]]
theorem kinds_any (w : World) : Calls Tryz.prog 108 #[] w fun e w' => ∃ g, e = .returned (.slice (some ⟨g, 0, none⟩) 8 8) ∧ w.heap.size ≤ g ∧ Blk w' g 184 kindC ∧ Below w.heap.size w w' := by
  have hb1 := (Below.refl w.heap.size w).alloc (Nat.le_refl _) (.cells kindC 184)
  have hn1 := Blk.new w 184 kindC
  unfold kindC at hb1
  go_enter Tryz.func108, Tryz.ntmps108
  go_wp2
  go_ret
  exact ⟨_, rfl, Nat.le_refl _, hn1, hb1⟩
def KVar (W : World) (a0 a1 a2 a3 a4 : Value) (v : Value) (wx : World) : Prop := ∃ g, v = .pointer (some ⟨g, 0, none⟩) ∧ W.heap.size ≤ g ∧ Blk wx g 184 #[a0, a1, a2, a3, a4] ∧ Below W.heap.size W wx
theorem kvar_new {W w3 : World} (a0 a1 a2 a3 a4 : Value) (h : Below W.heap.size W w3) : KVar W a0 a1 a2 a3 a4 (.pointer (some ⟨w3.heap.size, 0, none⟩)) (w3.alloc (.cells #[a0, a1, a2, a3, a4] 184)) :=
  ⟨_, rfl, h.size, Blk.new _ _ _, h.alloc h.size _⟩
theorem kvar_set {W w3 : World} {z0 z1 z2 z3 z4 : Value} (a0 a1 a2 a3 a4 : Value) (h : Below (W.alloc (.cells #[z0, z1, z2, z3, z4] 184)).heap.size (W.alloc (.cells #[z0, z1, z2, z3, z4] 184)) w3) : KVar W a0 a1 a2 a3 a4 (.pointer (some ⟨W.heap.size, 0, none⟩)) (((((w3.setCell ⟨W.heap.size, 0, none⟩ a0).setCell ⟨W.heap.size, 1, none⟩ a1).setCell ⟨W.heap.size, 2, none⟩ a2).setCell ⟨W.heap.size, 3, none⟩ a3).setCell ⟨W.heap.size, 4, none⟩ a4) := by
  have hb := (Blk.new W 184 #[z0, z1, z2, z3, z4]).old h
  have hn := ((((hb.set 0 a0).set 1 a1).set 2 a2).set 3 a3).set 4 a4
  refine ⟨_, rfl, Nat.le_refl _, hn, ?_⟩
  have h0 : Below W.heap.size W w3 := ((Below.refl W.heap.size W).alloc (Nat.le_refl _) _).trans (h.mono (by rw [alloc_size]; omega))
  exact ((((h0.setCell (Nat.le_refl _) _).setCell (Nat.le_refl _) _).setCell (Nat.le_refl _) _).setCell (Nat.le_refl _) _).setCell (Nat.le_refl _) _
theorem kind_at1 {w : World} {g : Nat} (h : Blk w g 184 kindC) : w.cell? ⟨g, 5, none⟩ = some (.string ⟨#[98, 111, 111, 108]⟩) ∧ w.cell? ⟨g, 6, none⟩ = some (.func (.func 123) #[] #[]) ∧ w.cell? ⟨g, 7, none⟩ = some (.func (.func 124) #[] #[]) ∧ w.cell? ⟨g, 8, none⟩ = some (.func (.func 125) #[] #[]) ∧ w.cell? ⟨g, 9, none⟩ = some (.func (.func 126) #[] #[]) := ⟨h.cell 5, h.cell 6, h.cell 7, h.cell 8, h.cell 9⟩
theorem kind_at2 {w : World} {g : Nat} (h : Blk w g 184 kindC) : w.cell? ⟨g, 10, none⟩ = some (.string ⟨#[105, 110, 116]⟩) ∧ w.cell? ⟨g, 11, none⟩ = some (.func (.func 127) #[] #[]) ∧ w.cell? ⟨g, 12, none⟩ = some (.func (.func 128) #[] #[]) ∧ w.cell? ⟨g, 13, none⟩ = some (.func (.func 129) #[] #[]) ∧ w.cell? ⟨g, 14, none⟩ = some (.func (.func 130) #[] #[]) := ⟨h.cell 10, h.cell 11, h.cell 12, h.cell 13, h.cell 14⟩
theorem kind_at3 {w : World} {g : Nat} (h : Blk w g 184 kindC) : w.cell? ⟨g, 15, none⟩ = some (.string ⟨#[98, 121, 116, 101, 115]⟩) ∧ w.cell? ⟨g, 16, none⟩ = some (.func (.func 131) #[] #[]) ∧ w.cell? ⟨g, 17, none⟩ = some (.func (.func 132) #[] #[]) ∧ w.cell? ⟨g, 18, none⟩ = some (.func (.func 133) #[] #[]) ∧ w.cell? ⟨g, 19, none⟩ = some (.func (.func 134) #[] #[]) := ⟨h.cell 15, h.cell 16, h.cell 17, h.cell 18, h.cell 19⟩
theorem kind_at4 {w : World} {g : Nat} (h : Blk w g 184 kindC) : w.cell? ⟨g, 20, none⟩ = some (.string ⟨#[105, 100]⟩) ∧ w.cell? ⟨g, 21, none⟩ = some (.func (.func 123) #[] #[]) ∧ w.cell? ⟨g, 22, none⟩ = some (.func (.func 124) #[] #[]) ∧ w.cell? ⟨g, 23, none⟩ = some (.func (.func 125) #[] #[]) ∧ w.cell? ⟨g, 24, none⟩ = some (.func (.func 126) #[] #[]) := ⟨h.cell 20, h.cell 21, h.cell 22, h.cell 23, h.cell 24⟩
theorem kind_at5 {w : World} {g : Nat} (h : Blk w g 184 kindC) : w.cell? ⟨g, 25, none⟩ = some (.string ⟨#[110, 97, 109, 101]⟩) ∧ w.cell? ⟨g, 26, none⟩ = some (.func (.func 131) #[] #[]) ∧ w.cell? ⟨g, 27, none⟩ = some (.func (.func 132) #[] #[]) ∧ w.cell? ⟨g, 28, none⟩ = some (.func (.func 133) #[] #[]) ∧ w.cell? ⟨g, 29, none⟩ = some (.func (.func 134) #[] #[]) := ⟨h.cell 25, h.cell 26, h.cell 27, h.cell 28, h.cell 29⟩
theorem kind_at6 {w : World} {g : Nat} (h : Blk w g 184 kindC) : w.cell? ⟨g, 30, none⟩ = some (.string ⟨#[116, 101, 120, 116]⟩) ∧ w.cell? ⟨g, 31, none⟩ = some (.func (.func 135) #[] #[]) ∧ w.cell? ⟨g, 32, none⟩ = some (.func (.func 136) #[] #[]) ∧ w.cell? ⟨g, 33, none⟩ = some (.func (.func 137) #[] #[]) ∧ w.cell? ⟨g, 34, none⟩ = some (.func (.func 138) #[] #[]) := ⟨h.cell 30, h.cell 31, h.cell 32, h.cell 33, h.cell 34⟩
theorem kind_at7 {w : World} {g : Nat} (h : Blk w g 184 kindC) : w.cell? ⟨g, 35, none⟩ = some (.string ⟨#[116, 117, 112, 108, 101]⟩) ∧ w.cell? ⟨g, 36, none⟩ = some (.func (.func 123) #[] #[]) ∧ w.cell? ⟨g, 37, none⟩ = some (.func (.func 139) #[] #[]) ∧ w.cell? ⟨g, 38, none⟩ = some (.func (.func 125) #[] #[]) ∧ w.cell? ⟨g, 39, none⟩ = some (.func (.func 126) #[] #[]) := ⟨h.cell 35, h.cell 36, h.cell 37, h.cell 38, h.cell 39⟩
theorem cell_w {w w' : World} {b j : Nat} {v : Value} (h : w.cell? ⟨b, j, none⟩ = some v) (hb : Below w.heap.size w w') (hlt : b < w.heap.size) : w'.cell? ⟨b, j, none⟩ = some v := (hb.cell (p := ⟨b, j, none⟩) hlt).trans h
theorem cell_na {w : World} {b j : Nat} {v : Value} {o : Obj} (h : w.cell? ⟨b, j, none⟩ = some v) (hlt : b < w.heap.size) : (w.alloc o).cell? ⟨b, j, none⟩ = some v := by rw [World.cell?_alloc_lt _ _ _ hlt]; exact h
theorem cells14 {w : World} {b : Nat} {t : TypeId} {o : Own} {a : Option Addr} {n c : Nat} (h : Blk w b t (cellsF o a n c)) :
    (w.cell? ⟨b, 0, none⟩ = some (.string o.name) ∧ w.cell? ⟨b, 1, none⟩ = some (.int .u8 o.kind) ∧ w.cell? ⟨b, 2, none⟩ = some (.bool o.down) ∧ w.cell? ⟨b, 3, none⟩ = some (.int .u8 o.nulls) ∧ w.cell? ⟨b, 4, none⟩ = some (.bool o.bnd) ∧ w.cell? ⟨b, 5, none⟩ = some (.bool o.ln) ∧ w.cell? ⟨b, 6, none⟩ = some (.string o.lm) ∧ w.cell? ⟨b, 7, none⟩ = some (.bool o.hn) ∧ w.cell? ⟨b, 8, none⟩ = some (.string o.hm) ∧ w.cell? ⟨b, 9, none⟩ = some (.int .i64 o.most) ∧ w.cell? ⟨b, 10, none⟩ = some (.int .i64 o.str) ∧ w.cell? ⟨b, 11, none⟩ = some (.bool o.shf) ∧ w.cell? ⟨b, 12, none⟩ = some (.bool o.bck) ∧ w.cell? ⟨b, 13, none⟩ = some (.slice a n c)) :=
  Blk.c14 h
theorem kv_kept {W w2 : World} (h : Below (W.alloc (.cells #[.string ⟨#[]⟩, .nilFunc, .nilFunc, .nilFunc, .nilFunc] 184)).drew.heap.size (W.alloc (.cells #[.string ⟨#[]⟩, .nilFunc, .nilFunc, .nilFunc, .nilFunc] 184)).drew w2) : w2.cell? ⟨W.heap.size, 0, none⟩ = some (.string ⟨#[]⟩) ∧ w2.cell? ⟨W.heap.size, 1, none⟩ = some (.nilFunc) ∧ w2.cell? ⟨W.heap.size, 2, none⟩ = some (.nilFunc) ∧ w2.cell? ⟨W.heap.size, 3, none⟩ = some (.nilFunc) ∧ w2.cell? ⟨W.heap.size, 4, none⟩ = some (.nilFunc) ∧ w2.frozen? ⟨W.heap.size, 0, none⟩ = false ∧ w2.frozen? ⟨W.heap.size, 1, none⟩ = false ∧ w2.frozen? ⟨W.heap.size, 2, none⟩ = false ∧ w2.frozen? ⟨W.heap.size, 3, none⟩ = false ∧ w2.frozen? ⟨W.heap.size, 4, none⟩ = false := by
  have hb0 : Blk (W.alloc (.cells #[.string ⟨#[]⟩, .nilFunc, .nilFunc, .nilFunc, .nilFunc] 184)).drew W.heap.size 184 #[.string ⟨#[]⟩, .nilFunc, .nilFunc, .nilFunc, .nilFunc] := Blk.new W 184 #[.string ⟨#[]⟩, .nilFunc, .nilFunc, .nilFunc, .nilFunc]
  have hb := hb0.old h
  exact ⟨hb.cell 0, hb.cell 1, hb.cell 2, hb.cell 3, hb.cell 4, hb.frozen 0, hb.frozen 1, hb.frozen 2, hb.frozen 3, hb.frozen 4⟩
theorem kv_new (W : World) : (W.alloc (.cells #[.string ⟨#[]⟩, .nilFunc, .nilFunc, .nilFunc, .nilFunc] 184)).cell? ⟨W.heap.size, 0, none⟩ = some (.string ⟨#[]⟩) ∧ (W.alloc (.cells #[.string ⟨#[]⟩, .nilFunc, .nilFunc, .nilFunc, .nilFunc] 184)).cell? ⟨W.heap.size, 1, none⟩ = some (.nilFunc) ∧ (W.alloc (.cells #[.string ⟨#[]⟩, .nilFunc, .nilFunc, .nilFunc, .nilFunc] 184)).cell? ⟨W.heap.size, 2, none⟩ = some (.nilFunc) ∧ (W.alloc (.cells #[.string ⟨#[]⟩, .nilFunc, .nilFunc, .nilFunc, .nilFunc] 184)).cell? ⟨W.heap.size, 3, none⟩ = some (.nilFunc) ∧ (W.alloc (.cells #[.string ⟨#[]⟩, .nilFunc, .nilFunc, .nilFunc, .nilFunc] 184)).cell? ⟨W.heap.size, 4, none⟩ = some (.nilFunc) ∧ (W.alloc (.cells #[.string ⟨#[]⟩, .nilFunc, .nilFunc, .nilFunc, .nilFunc] 184)).frozen? ⟨W.heap.size, 0, none⟩ = false ∧ (W.alloc (.cells #[.string ⟨#[]⟩, .nilFunc, .nilFunc, .nilFunc, .nilFunc] 184)).frozen? ⟨W.heap.size, 1, none⟩ = false ∧ (W.alloc (.cells #[.string ⟨#[]⟩, .nilFunc, .nilFunc, .nilFunc, .nilFunc] 184)).frozen? ⟨W.heap.size, 2, none⟩ = false ∧ (W.alloc (.cells #[.string ⟨#[]⟩, .nilFunc, .nilFunc, .nilFunc, .nilFunc] 184)).frozen? ⟨W.heap.size, 3, none⟩ = false ∧ (W.alloc (.cells #[.string ⟨#[]⟩, .nilFunc, .nilFunc, .nilFunc, .nilFunc] 184)).frozen? ⟨W.heap.size, 4, none⟩ = false := by
  have hb := Blk.new W 184 #[.string ⟨#[]⟩, .nilFunc, .nilFunc, .nilFunc, .nilFunc]
  exact ⟨hb.cell 0, hb.cell 1, hb.cell 2, hb.cell 3, hb.cell 4, hb.frozen 0, hb.frozen 1, hb.frozen 2, hb.frozen 3, hb.frozen 4⟩
end Go.Proofs.YtcbjnifoojjipaaGreatDoor
