/- What schema's kinds, boundsRight and maySay do (contracts; nothing is claimed here). -/
import Derived.Test.YtgefbgpfjbbeaaaGreatDoorFStr
import Derived.Test.YtgefbgpfjbbeaaaGreatDoorNatCmp
namespace Go.Proofs.YtgefbgpfjbbeaaaGreatDoor
open Go.RowKit Go.Vf

/-- Whether bounds may be: both numbers, the lower not above the higher. -/
def bndQ (o : Own) : Bool := decide (chk o.ln o.lm.data.toList = 0) && decide (chk o.hn o.hm.data.toList = 0) && decide (cmpN o.ln o.lm.data.toList o.hn o.hm.data.toList ≤ 0)
def bndR (o : Own) : Bool := if o.bnd then bndQ o else !o.ln && o.lm.size == 0 && !o.hn && o.hm.size == 0
theorem compE_0 {ba : Bool} {a : List UInt8} {bb : Bool} {b : List UInt8} (h1 : chk ba a = 0) (h2 : chk bb b = 0) : compE ba a bb b = .returned (.tuple #[.int .i64 (cmpN ba a bb b), .int .i64 0]) := by simp [compE, h1, h2]
theorem compE_1 {ba : Bool} {a : List UInt8} {bb : Bool} {b : List UInt8} (h : ¬ (chk ba a = 0 ∧ chk bb b = 0)) : ∃ e : Int, e ≠ 0 ∧ compE ba a bb b = .returned (.tuple #[.int .i64 0, .int .i64 e]) := by
  by_cases h1 : chk ba a = 0
  · have h2 : chk bb b ≠ 0 := fun h2 => h ⟨h1, h2⟩
    exact ⟨_, h2, by simp [compE, h1, h2]⟩
  · exact ⟨_, h1, by simp [compE, h1]⟩
set_option maxHeartbeats 1000000 in
theorem boundsRight_any (o : Own) (a : Option Addr) (n c : Nat) (hl : o.lm.size ≤ 17179869184) (hh : o.hm.size ≤ 17179869184) (w : World) : Calls Tryz.prog 175 #[fV o a n c] w fun e w' => e = .returned (.bool (bndR o)) ∧ Below w.heap.size w w' := by
  unfold fV bndR
  have hb1 := ((Below.refl w.heap.size w).alloc (Nat.le_refl _) (fC o a n c)).alloc (by simp) (.cells #[.bool false, .string ⟨#[]⟩] 41)
  unfold fC at hb1
  cases hbd : o.bnd with
  | false =>
    rw [hbd] at hb1
    obtain ⟨z1, hz1⟩ : ∃ z, (!o.ln && o.lm.size == 0) = z := ⟨_, rfl⟩
    obtain ⟨z2, hz2⟩ : ∃ z, (!o.hn && o.hm.size == 0) = z := ⟨_, rfl⟩
    have he1 := num0 o.ln o.lm z1 hz1
    have he2 := num0 o.hn o.hm z2 hz2
    have hR : (if false = true then bndQ o else !o.ln && o.lm.size == 0 && !o.hn && o.hm.size == 0) = (z1 && z2) := by
      rw [if_neg (by simp), ← hz1, ← hz2]; simp only [Bool.and_assoc]
    rw [hR]
    clear hz1 hz2 hR
    cases z1 with
    | false =>
      go_enter Tryz.func175, Tryz.ntmps175
      go_wp2_with fail
      go_ret
      exact ⟨rfl, hb1⟩
    | true =>
      cases z2 with
      | false =>
        go_enter Tryz.func175, Tryz.ntmps175
        go_wp2_with fail
        go_ret
        exact ⟨rfl, hb1⟩
      | true =>
        go_enter Tryz.func175, Tryz.ntmps175
        go_wp2_with fail
        go_ret
        exact ⟨rfl, hb1⟩
  | true =>
    rw [hbd] at hb1
    rw [if_pos rfl]
    have hcp : ∀ W, Calls Tryz.prog 192 #[.agg #[.bool o.ln, .string o.lm], .agg #[.bool o.hn, .string o.hm]] W fun e w' => e = compE o.ln o.lm.data.toList o.hn o.hm.data.toList ∧ Below W.heap.size W w' := fun W => compare_any o.ln o.lm o.hn o.hm hl hh W
    by_cases hc : chk o.ln o.lm.data.toList = 0 ∧ chk o.hn o.hm.data.toList = 0
    · rw [compE_0 hc.1 hc.2] at hcp
      have hR : bndQ o = decide (cmpN o.ln o.lm.data.toList o.hn o.hm.data.toList ≤ 0) := by simp [bndQ, hc.1, hc.2]
      rw [hR]
      generalize cmpN o.ln o.lm.data.toList o.hn o.hm.data.toList = q at hcp ⊢
      clear hR hc
      go_enter Tryz.func175, Tryz.ntmps175
      go_wp2_with fail
      refine (hcp _).mono ?_
      rintro _ w2 ⟨rfl, hb2⟩
      have hb3 := hb1.trans (hb2.mono hb1.size)
      clear hcp hb1 hb2
      go_wp2_with fail
      go_ret
      exact ⟨rfl, hb3⟩
    · obtain ⟨e, he, hE⟩ := compE_1 hc
      rw [hE] at hcp
      have hR : bndQ o = false := by
        unfold bndQ
        cases h1 : decide (chk o.ln o.lm.data.toList = 0) with
        | false => rfl
        | true =>
          cases h2 : decide (chk o.hn o.hm.data.toList = 0) with
          | false => rfl
          | true => exact absurd ⟨of_decide_eq_true h1, of_decide_eq_true h2⟩ hc
      rw [hR]
      have t1 : (e == 0) = false := by simpa using he
      clear hR hc hE he
      go_enter Tryz.func175, Tryz.ntmps175
      go_wp2_with fail
      refine (hcp _).mono ?_
      rintro _ w2 ⟨rfl, hb2⟩
      have hb3 := hb1.trans (hb2.mono hb1.size)
      clear hcp hb1 hb2
      go_wp2_with fail
      go_ret
      exact ⟨rfl, hb3⟩

/-- The row of kinds. -/
def kindC : Array Value := #[.string ⟨#[]⟩, .nilFunc, .nilFunc, .nilFunc, .nilFunc, .string ⟨#[98, 111, 111, 108]⟩, .func (.func 171) #[] #[], .func (.func 172) #[] #[], .func (.func 173) #[] #[], .func (.func 174) #[] #[], .string ⟨#[105, 110, 116]⟩, .func (.func 175) #[] #[], .func (.func 176) #[] #[], .func (.func 177) #[] #[], .func (.func 178) #[] #[], .string ⟨#[98, 121, 116, 101, 115]⟩, .func (.func 179) #[] #[], .func (.func 180) #[] #[], .func (.func 181) #[] #[], .func (.func 182) #[] #[], .string ⟨#[105, 100]⟩, .func (.func 171) #[] #[], .func (.func 172) #[] #[], .func (.func 173) #[] #[], .func (.func 174) #[] #[], .string ⟨#[110, 97, 109, 101]⟩, .func (.func 179) #[] #[], .func (.func 180) #[] #[], .func (.func 181) #[] #[], .func (.func 182) #[] #[], .string ⟨#[116, 101, 120, 116]⟩, .func (.func 183) #[] #[], .func (.func 184) #[] #[], .func (.func 185) #[] #[], .func (.func 186) #[] #[], .string ⟨#[116, 117, 112, 108, 101]⟩, .func (.func 171) #[] #[], .func (.func 187) #[] #[], .func (.func 173) #[] #[], .func (.func 174) #[] #[]]
theorem kinds_any (w : World) : Calls Tryz.prog 150 #[] w fun e w' => ∃ g, e = .returned (.slice (some ⟨g, 0, none⟩) 8 8) ∧ w.heap.size ≤ g ∧ Blk w' g 254 kindC ∧ Below w.heap.size w w' := by
  have hb1 := (Below.refl w.heap.size w).alloc (Nat.le_refl _) (.cells kindC 254)
  have hn1 := Blk.new w 254 kindC
  unfold kindC at hb1
  go_enter Tryz.func150, Tryz.ntmps150
  go_wp2
  go_ret
  exact ⟨_, rfl, Nat.le_refl _, hn1, hb1⟩
/-- A variable that holds five cells. -/
def KVar (W : World) (a0 a1 a2 a3 a4 : Value) (v : Value) (wx : World) : Prop := ∃ g, v = .pointer (some ⟨g, 0, none⟩) ∧ W.heap.size ≤ g ∧ Blk wx g 254 #[a0, a1, a2, a3, a4] ∧ Below W.heap.size W wx
theorem kvar_new {W w3 : World} (a0 a1 a2 a3 a4 : Value) (h : Below W.heap.size W w3) : KVar W a0 a1 a2 a3 a4 (.pointer (some ⟨w3.heap.size, 0, none⟩)) (w3.alloc (.cells #[a0, a1, a2, a3, a4] 254)) :=
  ⟨_, rfl, h.size, Blk.new _ _ _, h.alloc h.size _⟩
theorem kvar_set {W w3 : World} {z0 z1 z2 z3 z4 : Value} (a0 a1 a2 a3 a4 : Value) (h : Below (W.alloc (.cells #[z0, z1, z2, z3, z4] 254)).heap.size (W.alloc (.cells #[z0, z1, z2, z3, z4] 254)) w3) : KVar W a0 a1 a2 a3 a4 (.pointer (some ⟨W.heap.size, 0, none⟩)) (((((w3.setCell ⟨W.heap.size, 0, none⟩ a0).setCell ⟨W.heap.size, 1, none⟩ a1).setCell ⟨W.heap.size, 2, none⟩ a2).setCell ⟨W.heap.size, 3, none⟩ a3).setCell ⟨W.heap.size, 4, none⟩ a4) := by
  have hb := (Blk.new W 254 #[z0, z1, z2, z3, z4]).old h
  have hn := ((((hb.set 0 a0).set 1 a1).set 2 a2).set 3 a3).set 4 a4
  refine ⟨_, rfl, Nat.le_refl _, hn, ?_⟩
  have h0 : Below W.heap.size W w3 := ((Below.refl W.heap.size W).alloc (Nat.le_refl _) _).trans (h.mono (by rw [alloc_size]; omega))
  exact ((((h0.setCell (Nat.le_refl _) _).setCell (Nat.le_refl _) _).setCell (Nat.le_refl _) _).setCell (Nat.le_refl _) _).setCell (Nat.le_refl _) _
theorem kind_at1 {w : World} {g : Nat} (h : Blk w g 254 kindC) : w.cell? ⟨g, 5, none⟩ = some (.string ⟨#[98, 111, 111, 108]⟩) ∧ w.cell? ⟨g, 6, none⟩ = some (.func (.func 171) #[] #[]) ∧ w.cell? ⟨g, 7, none⟩ = some (.func (.func 172) #[] #[]) ∧ w.cell? ⟨g, 8, none⟩ = some (.func (.func 173) #[] #[]) ∧ w.cell? ⟨g, 9, none⟩ = some (.func (.func 174) #[] #[]) := ⟨h.cell 5, h.cell 6, h.cell 7, h.cell 8, h.cell 9⟩
theorem kind_at2 {w : World} {g : Nat} (h : Blk w g 254 kindC) : w.cell? ⟨g, 10, none⟩ = some (.string ⟨#[105, 110, 116]⟩) ∧ w.cell? ⟨g, 11, none⟩ = some (.func (.func 175) #[] #[]) ∧ w.cell? ⟨g, 12, none⟩ = some (.func (.func 176) #[] #[]) ∧ w.cell? ⟨g, 13, none⟩ = some (.func (.func 177) #[] #[]) ∧ w.cell? ⟨g, 14, none⟩ = some (.func (.func 178) #[] #[]) := ⟨h.cell 10, h.cell 11, h.cell 12, h.cell 13, h.cell 14⟩
theorem kind_at3 {w : World} {g : Nat} (h : Blk w g 254 kindC) : w.cell? ⟨g, 15, none⟩ = some (.string ⟨#[98, 121, 116, 101, 115]⟩) ∧ w.cell? ⟨g, 16, none⟩ = some (.func (.func 179) #[] #[]) ∧ w.cell? ⟨g, 17, none⟩ = some (.func (.func 180) #[] #[]) ∧ w.cell? ⟨g, 18, none⟩ = some (.func (.func 181) #[] #[]) ∧ w.cell? ⟨g, 19, none⟩ = some (.func (.func 182) #[] #[]) := ⟨h.cell 15, h.cell 16, h.cell 17, h.cell 18, h.cell 19⟩
theorem kind_at4 {w : World} {g : Nat} (h : Blk w g 254 kindC) : w.cell? ⟨g, 20, none⟩ = some (.string ⟨#[105, 100]⟩) ∧ w.cell? ⟨g, 21, none⟩ = some (.func (.func 171) #[] #[]) ∧ w.cell? ⟨g, 22, none⟩ = some (.func (.func 172) #[] #[]) ∧ w.cell? ⟨g, 23, none⟩ = some (.func (.func 173) #[] #[]) ∧ w.cell? ⟨g, 24, none⟩ = some (.func (.func 174) #[] #[]) := ⟨h.cell 20, h.cell 21, h.cell 22, h.cell 23, h.cell 24⟩
theorem kind_at5 {w : World} {g : Nat} (h : Blk w g 254 kindC) : w.cell? ⟨g, 25, none⟩ = some (.string ⟨#[110, 97, 109, 101]⟩) ∧ w.cell? ⟨g, 26, none⟩ = some (.func (.func 179) #[] #[]) ∧ w.cell? ⟨g, 27, none⟩ = some (.func (.func 180) #[] #[]) ∧ w.cell? ⟨g, 28, none⟩ = some (.func (.func 181) #[] #[]) ∧ w.cell? ⟨g, 29, none⟩ = some (.func (.func 182) #[] #[]) := ⟨h.cell 25, h.cell 26, h.cell 27, h.cell 28, h.cell 29⟩
theorem kind_at6 {w : World} {g : Nat} (h : Blk w g 254 kindC) : w.cell? ⟨g, 30, none⟩ = some (.string ⟨#[116, 101, 120, 116]⟩) ∧ w.cell? ⟨g, 31, none⟩ = some (.func (.func 183) #[] #[]) ∧ w.cell? ⟨g, 32, none⟩ = some (.func (.func 184) #[] #[]) ∧ w.cell? ⟨g, 33, none⟩ = some (.func (.func 185) #[] #[]) ∧ w.cell? ⟨g, 34, none⟩ = some (.func (.func 186) #[] #[]) := ⟨h.cell 30, h.cell 31, h.cell 32, h.cell 33, h.cell 34⟩
theorem kind_at7 {w : World} {g : Nat} (h : Blk w g 254 kindC) : w.cell? ⟨g, 35, none⟩ = some (.string ⟨#[116, 117, 112, 108, 101]⟩) ∧ w.cell? ⟨g, 36, none⟩ = some (.func (.func 171) #[] #[]) ∧ w.cell? ⟨g, 37, none⟩ = some (.func (.func 187) #[] #[]) ∧ w.cell? ⟨g, 38, none⟩ = some (.func (.func 173) #[] #[]) ∧ w.cell? ⟨g, 39, none⟩ = some (.func (.func 174) #[] #[]) := ⟨h.cell 35, h.cell 36, h.cell 37, h.cell 38, h.cell 39⟩

end Go.Proofs.YtgefbgpfjbbeaaaGreatDoor
