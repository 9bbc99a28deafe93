/- What schema's saysNothing and its helpers do (contracts; nothing is claimed here). -/
import Derived.Test.YtgefbgpfjbbeaaaGreatDoorJ3
namespace Go.Proofs.YtgefbgpfjbbeaaaGreatDoor
open Go.RowKit Go.Vf

theorem col_eq (s : Int) (a b : Bool) (w : World) : (Op.equalIn 10000 47 (.agg #[.int .i64 s, .bool a, .bool b]) (.agg #[.int .i64 0, .bool false, .bool false])).run Tryz.prog w = .ok (s == 0 && !a && !b) w := by
  have h : ∀ d, (Op.equalIn (d + 1 + 1) 47 (.agg #[.int .i64 s, .bool a, .bool b]) (.agg #[.int .i64 0, .bool false, .bool false])).run Tryz.prog w = .ok (s == 0 && !a && !b) w := fun d => by
    simp [go_sem]
    by_cases h1 : s = 0 <;> cases a <;> cases b <;> simp [h1]
  exact h 9998
theorem num0 (n : Bool) (m : ByteArray) (z : Bool) (hz : (!n && m.size == 0) = z) (w : World) : (Op.equalIn 10000 41 (.agg #[.bool n, .string m]) (.agg #[.bool false, .string ⟨#[]⟩])).run Tryz.prog w = .ok z w := by
  rw [num_eq, ← hz]
  congr 1
  have := empty_iff m
  cases n <;> simp_all [ByteArray.toList_eq]
def saysN (o : Own) (n : Nat) : Bool := !o.bnd && (!o.ln && o.lm.size == 0) && (!o.hn && o.hm.size == 0) && (o.most == 0) && (o.str == 0 && !o.shf && !o.bck) && (n == 0)
/-- A field's cells, one by one. -/
def fC (o : Own) (a : Option Addr) (n c : Nat) : Obj := .cells #[.string o.name, .int .u8 o.kind, .bool o.down, .int .u8 o.nulls, .bool o.bnd, .bool o.ln, .string o.lm, .bool o.hn, .string o.hm, .int .i64 o.most, .int .i64 o.str, .bool o.shf, .bool o.bck, .slice a n c] 50

set_option maxHeartbeats 4000000 in
set_option maxRecDepth 20000 in
theorem saysNothing_any (o : Own) (a : Option Addr) (n c : Nat) (_hn : n ≤ 281474976710656) (w : World) :
    Calls Tryz.prog 151 #[fV o a n c] w fun e w' => e = .returned (.bool (saysN o n)) ∧ Below w.heap.size w w' := by
  unfold fV saysN
  obtain ⟨name, kind, down, nulls, bnd, ln, lm, hn', hm, most, str, shf, bck⟩ := o
  simp only
  have hb1 := ((Below.refl w.heap.size w).alloc (Nat.le_refl _) (.cells #[.string name, .int .u8 kind, .bool down, .int .u8 nulls, .bool bnd, .bool ln, .string lm, .bool hn', .string hm, .int .i64 most, .int .i64 str, .bool shf, .bool bck, .slice a n c] 50)).alloc (by simp) (.cells #[.bool false, .string ⟨#[]⟩] 41)
  obtain ⟨z1, hz1⟩ : ∃ z, (!ln && lm.size == 0) = z := ⟨_, rfl⟩
  obtain ⟨z2, hz2⟩ : ∃ z, (!hn' && hm.size == 0) = z := ⟨_, rfl⟩
  obtain ⟨z3, hz3⟩ : ∃ z, (most == 0) = z := ⟨_, rfl⟩
  obtain ⟨z4, hz4⟩ : ∃ z, (str == 0 && !shf && !bck) = z := ⟨_, rfl⟩
  obtain ⟨z5, hz5⟩ : ∃ z, (n == 0) = z := ⟨_, rfl⟩
  have he1 := num0 ln lm z1 hz1
  have he2 := num0 hn' hm z2 hz2
  have he4 := col_eq str shf bck
  rw [hz4] at he4
  have he5 : ((n : Int) == 0) = z5 := by rw [← hz5, Bool.eq_iff_iff]; simp
  rw [hz1, hz2, hz3, hz4, hz5]
  clear hz1 hz2 hz4 hz5
  cases bnd with
  | true =>
    go_enter Tryz.func151, Tryz.ntmps151
    go_wp2
    go_ret
    exact ⟨rfl, hb1⟩
  | false =>
    cases z1 with
    | false =>
      go_enter Tryz.func151, Tryz.ntmps151
      go_wp2
      go_ret
      exact ⟨rfl, hb1⟩
    | true =>
      cases z2 with
      | false =>
        go_enter Tryz.func151, Tryz.ntmps151
        go_wp2
        go_ret
        exact ⟨rfl, hb1⟩
      | true =>
        cases z3 with
        | false =>
          go_enter Tryz.func151, Tryz.ntmps151
          go_wp2
          go_ret
          exact ⟨rfl, hb1⟩
        | true =>
          cases z4 with
          | false =>
            go_enter Tryz.func151, Tryz.ntmps151
            go_wp2
            go_ret
            exact ⟨rfl, hb1⟩
          | true =>
            cases z5 with
            | false =>
              go_enter Tryz.func151, Tryz.ntmps151
              go_wp2
              go_ret
              exact ⟨rfl, hb1⟩
            | true =>
              go_enter Tryz.func151, Tryz.ntmps151
              go_wp2
              go_ret
              exact ⟨rfl, hb1⟩

end Go.Proofs.YtgefbgpfjbbeaaaGreatDoor
