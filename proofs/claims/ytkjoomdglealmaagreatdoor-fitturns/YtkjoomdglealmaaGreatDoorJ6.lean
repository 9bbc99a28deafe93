/- Contracts and lemmas (nothing is claimed here). -/
import Derived.Test.YtkjoomdglealmaaGreatDoorJ4
import Derived.Test.YtkjoomdglealmaaGreatDoorJ5
import Derived.Deep.RegionHeld
namespace Go.Vf

theorem flip_flip (x : UInt8) : 255 - (255 - x) = x := by
  rw [← UInt8.toNat_inj]
  have h := x.toNat_lt
  have h255 : (255 : UInt8).toNat = 255 := rfl
  have h1 : (255 - x).toNat = 255 - x.toNat := by
    rw [UInt8.toNat_sub_of_le _ _ (by rw [UInt8.le_iff_toNat_le]; omega), h255]
  rw [UInt8.toNat_sub_of_le _ _ (by rw [UInt8.le_iff_toNat_le]; omega), h1]
  omega
theorem flipL_flipL (l : List UInt8) : flipL (flipL l) = l := by
  simp only [flipL, List.map_map]
  exact (List.map_congr_left fun x _ => flip_flip x).trans (List.map_id l)

theorem nextL_above (s n : List UInt8) (h : nextL s = some n) : cmpL s n = -1 := by
  induction s generalizing n with
  | nil => simp [nextL] at h
  | cons c r ih =>
    simp only [nextL] at h
    cases hr : nextL r with
    | some x =>
      rw [hr] at h
      simp only [Option.some.injEq] at h
      subst h
      simp [cmpL, ih x hr]
    | none =>
      rw [hr] at h
      by_cases hc : c = 255
      · simp [hc] at h
      · simp only [hc, if_false, Option.some.injEq] at h
        subst h
        have : c < c + 1 := by
          have h1 := c.toNat_lt
          have h2 : c.toNat ≠ 255 := fun e => hc (UInt8.toNat_inj.1 e)
          rw [UInt8.lt_iff_toNat_lt, UInt8.toNat_add]
          have : (1 : UInt8).toNat = 1 := rfl
          omega
        simp [cmpL, this]

theorem begins_ne (c d : UInt8) (r u : List UInt8) (h : ¬ d = c) : beginsL (d :: u) (c :: r) = false := by
  simp [beginsL, List.isPrefixOf, Ne.symm h]

theorem begins_none (s : List UInt8) : ∀ t, nextL s = none → decide (0 ≤ cmpL t s) = beginsL t s := by
  induction s with
  | nil =>
    intro t _
    cases t <;> simp [cmpL, beginsL]
  | cons c r ih =>
    intro t h
    simp only [nextL] at h
    cases hr : nextL r with
    | some x => rw [hr] at h; simp at h
    | none =>
      rw [hr] at h
      by_cases hc : c = 255
      · subst hc
        cases t with
        | nil => simp [cmpL, beginsL]
        | cons d u =>
          have hi := ih u hr
          have hd := d.toNat_lt
          by_cases e : d = 255
          · subst e
            simp only [cmpL, beginsL, List.isPrefixOf] at hi ⊢
            simpa using hi
          · have h1 : d < 255 := by
              rw [UInt8.lt_iff_toNat_lt]
              have : (255 : UInt8).toNat = 255 := rfl
              have h2 : d.toNat ≠ 255 := fun q => e (UInt8.toNat_inj.1 q)
              omega
            simp [cmpL, begins_ne _ _ _ _ e, h1]
      · simp [hc] at h

theorem begins_some (s : List UInt8) : ∀ t n, nextL s = some n → (decide (0 ≤ cmpL t s) && decide (cmpL t n < 0)) = beginsL t s := by
  induction s with
  | nil => intro t n h; simp [nextL] at h
  | cons c r ih =>
    intro t n h
    simp only [nextL] at h
    cases hr : nextL r with
    | some x =>
      rw [hr] at h
      simp only [Option.some.injEq] at h
      subst h
      cases t with
      | nil => simp [cmpL, beginsL]
      | cons d u =>
        have hi := ih u x hr
        by_cases e : d = c
        · subst e
          simp only [cmpL, beginsL, List.isPrefixOf] at hi ⊢
          simpa using hi
        · by_cases h1 : d < c
          · simp [cmpL, begins_ne _ _ _ _ e, h1]
          · have h2 : c < d := UInt8.lt_of_le_of_ne (UInt8.not_lt.1 h1) (Ne.symm e)
            simp [cmpL, begins_ne _ _ _ _ e, h1, h2]
    | none =>
      rw [hr] at h
      by_cases hc : c = 255
      · simp [hc] at h
      · simp only [hc, if_false, Option.some.injEq] at h
        subst h
        cases t with
        | nil => simp [cmpL, beginsL]
        | cons d u =>
          have hi := begins_none r u hr
          have h0 := c.toNat_lt
          have hc2 : c.toNat ≠ 255 := fun q => hc (UInt8.toNat_inj.1 q)
          have h1n : (c + 1).toNat = c.toNat + 1 := by
            rw [UInt8.toNat_add]
            have : (1 : UInt8).toNat = 1 := rfl
            omega
          by_cases e : d = c
          · subst e
            have h3 : d < d + 1 := by rw [UInt8.lt_iff_toNat_lt]; omega
            simp only [cmpL, beginsL, List.isPrefixOf] at hi ⊢
            simpa [h3] using hi
          · by_cases h1 : d < c
            · simp [cmpL, begins_ne _ _ _ _ e, h1]
            · have h2 : c < d := UInt8.lt_of_le_of_ne (UInt8.not_lt.1 h1) (Ne.symm e)
              have h4 : ¬ d < c + 1 := by
                rw [UInt8.lt_iff_toNat_lt, h1n]
                rw [UInt8.lt_iff_toNat_lt] at h2
                omega
              have h5 : ¬ (if c + 1 < d then (1 : Int) else cmpL u []) < 0 := by
                split
                · omega
                · cases u <;> simp [cmpL]
              simp only [cmpL, h1, h2, h4, if_true, if_false, beginsL, List.isPrefixOf, decide_eq_false h5]
              simp [Ne.symm e]

/-- Two texts part at a byte, as a and b stand. -/
def Parts (A B : List UInt8) (c : Int) : Prop := ∃ pre u v ra rb, A = pre ++ u :: ra ∧ B = pre ++ v :: rb ∧ u ≠ v ∧ c = (if u < v then -1 else 1)

theorem Parts.add {A B : List UInt8} {c : Int} (h : Parts A B c) (p : List UInt8) : Parts (p ++ A) (p ++ B) c := by
  obtain ⟨pre, u, v, ra, rb, rfl, rfl, h1, h2⟩ := h
  exact ⟨p ++ pre, u, v, ra, rb, by simp, by simp, h1, h2⟩
theorem Parts.behind {A B : List UInt8} {c : Int} (h : Parts A B c) (x y : List UInt8) : Parts (A ++ x) (B ++ y) c := by
  obtain ⟨pre, u, v, ra, rb, rfl, rfl, h1, h2⟩ := h
  exact ⟨pre, u, v, ra ++ x, rb ++ y, by simp, by simp, h1, h2⟩
theorem Parts.cmp {A B : List UInt8} {c : Int} (h : Parts A B c) : cmpL A B = c := by
  obtain ⟨pre, u, v, ra, rb, rfl, rfl, h1, h2⟩ := h
  rw [cmpL_append, h2]
  simp only [cmpL]
  by_cases h3 : u < v
  · simp [h3]
  · have h4 : v < u := UInt8.lt_of_le_of_ne (UInt8.not_lt.1 h3) (Ne.symm h1)
    simp [h3, h4]
theorem Parts.not_begins {A B : List UInt8} {c : Int} (h : Parts A B c) : beginsL A B = false ∧ beginsL B A = false := by
  obtain ⟨pre, u, v, ra, rb, rfl, rfl, h1, h2⟩ := h
  constructor
  · rw [beginsL, Bool.eq_false_iff]
    intro hp
    rw [List.isPrefixOf_iff_prefix, List.prefix_append_right_inj] at hp
    obtain ⟨z, hz⟩ := hp
    simp at hz
    exact h1 hz.1.symm
  · rw [beginsL, Bool.eq_false_iff]
    intro hp
    rw [List.isPrefixOf_iff_prefix, List.prefix_append_right_inj] at hp
    obtain ⟨z, hz⟩ := hp
    simp at hz
    exact h1 hz.1
theorem flip_lt (u v : UInt8) : (255 - u < 255 - v) ↔ v < u := by
  have h1 := u.toNat_lt
  have h2 := v.toNat_lt
  have h255 : (255 : UInt8).toNat = 255 := rfl
  rw [UInt8.lt_iff_toNat_lt, UInt8.lt_iff_toNat_lt, UInt8.toNat_sub_of_le _ _ (by rw [UInt8.le_iff_toNat_le]; omega), UInt8.toNat_sub_of_le _ _ (by rw [UInt8.le_iff_toNat_le]; omega), h255]
  omega
theorem Parts.flip {A B : List UInt8} {c : Int} (h : Parts A B c) : Parts (flipL A) (flipL B) (-c) := by
  obtain ⟨pre, u, v, ra, rb, rfl, rfl, h1, h2⟩ := h
  refine ⟨flipL pre, 255 - u, 255 - v, flipL ra, flipL rb, by simp [flipL], by simp [flipL], fun e => h1 (by rw [← flip_flip u, e, flip_flip]), ?_⟩
  rw [h2]
  by_cases h3 : u < v
  · have h4 : ¬ v < u := fun h => absurd (UInt8.lt_trans h3 h) (UInt8.lt_irrefl _)
    simp [flip_lt, h3, h4]
  · have h4 : v < u := UInt8.lt_of_le_of_ne (UInt8.not_lt.1 h3) (Ne.symm h1)
    simp [flip_lt, h3, h4]

theorem pos_of_ne (d : UInt8) (h : d ≠ 0) : 0 < d := by
  rw [UInt8.lt_iff_toNat_lt]
  have h2 : d.toNat ≠ 0 := fun q => h (UInt8.toNat_inj.1 q)
  have : (0 : UInt8).toNat = 0 := rfl
  omega

theorem esc_parts (a : List UInt8) : ∀ b, a ≠ b → Parts (esc a) (esc b) (cmpL a b) := by
  induction a with
  | nil =>
    intro b h
    cases b with
    | nil => exact absurd rfl h
    | cons d b =>
      by_cases e : d = 0
      · subst e
        exact ⟨[0], 1, 255, [], inner b ++ [0, 1], by simp [esc, inner], by simp [esc, inner], by decide, by simp [cmpL]⟩
      · exact ⟨[], 0, d, [1], inner b ++ [0, 1], by simp [esc, inner], by simp [esc, inner, e], Ne.symm e, by simp [cmpL, pos_of_ne d e]⟩
  | cons c a ih =>
    intro b h
    cases b with
    | nil =>
      by_cases e : c = 0
      · subst e
        exact ⟨[0], 255, 1, inner a ++ [0, 1], [], by simp [esc, inner], by simp [esc, inner], by decide, by simp [cmpL]⟩
      · exact ⟨[], c, 0, inner a ++ [0, 1], [1], by simp [esc, inner, e], by simp [esc, inner], e, by simp [cmpL]⟩
    | cons d b =>
      by_cases e : c = d
      · subst e
        have hab : a ≠ b := fun q => h (by rw [q])
        have hi := ih b hab
        have hc : cmpL (c :: a) (c :: b) = cmpL a b := by simp [cmpL]
        rw [hc]
        by_cases h0 : c = 0
        · have e1 : esc (c :: a) = [0, 255] ++ esc a := by simp [esc, inner, h0]
          have e2 : esc (c :: b) = [0, 255] ++ esc b := by simp [esc, inner, h0]
          rw [e1, e2]; exact hi.add _
        · have e1 : esc (c :: a) = [c] ++ esc a := by simp [esc, inner, h0]
          have e2 : esc (c :: b) = [c] ++ esc b := by simp [esc, inner, h0]
          rw [e1, e2]; exact hi.add _
      · have hp : ∀ x : UInt8, ∀ y, ∃ r, esc (x :: y) = x :: r := by
          intro x y
          by_cases h0 : x = 0
          · exact ⟨_, by simp [esc, inner, h0]; rfl⟩
          · exact ⟨_, by simp [esc, inner, h0]; rfl⟩
        obtain ⟨r1, e1⟩ := hp c a
        obtain ⟨r2, e2⟩ := hp d b
        refine ⟨[], c, d, r1, r2, e1, e2, e, ?_⟩
        by_cases h3 : c < d
        · simp [cmpL, h3]
        · have h4 : d < c := UInt8.lt_of_le_of_ne (UInt8.not_lt.1 h3) (Ne.symm e)
          simp [cmpL, h3, h4]

end Go.Vf

namespace Go.Vf

theorem mix_length {a l : List UInt8} (hal : a.length = l.length) (k : Nat) (hk : k ≤ l.length) : (a.take k ++ l.drop k).length = l.length := by simp; omega
theorem mix_get {a l : List UInt8} (hal : a.length = l.length) (k : Nat) (hk : k < l.length) (h : k < (a.take k ++ l.drop k).length) : (a.take k ++ l.drop k)[k] = l[k] := by
  have h1 : (a.take k).length = k := by simp; omega
  rw [List.getElem_append_right (by omega)]
  simp [h1]
theorem mix_set {a l : List UInt8} (hal : a.length = l.length) (k : Nat) (hk : k < l.length) : (a.take k ++ l.drop k).set k (a[k]'(by omega)) = a.take (k + 1) ++ l.drop (k + 1) := by
  have h1 : (a.take k).length = k := by simp; omega
  rw [List.set_append_right _ _ (by omega), h1, Nat.sub_self, List.drop_eq_getElem_cons hk, List.set_cons_zero]
  have e : a.take (k + 1) = a.take k ++ [a[k]'(by omega)] := by
    rw [List.take_add_one, List.getElem?_eq_getElem (show k < a.length by omega)]
    rfl
  rw [e, List.append_assoc]
  rfl

/-- Digits to the base 256, the lowest first: their number. -/
def lval : List UInt8 → Nat
  | [] => 0
  | x :: r => x.toNat + 256 * lval r
/-- A number's digits to the base 256, the lowest first, no nought behind. -/
def lowD (n : Nat) : List UInt8 := if n = 0 then [] else UInt8.ofNat (n % 256) :: lowD (n / 256)
termination_by n
decreasing_by omega

theorem ofNat_mod (n : Nat) : (UInt8.ofNat (n % 256)).toNat = n % 256 := by
  rw [UInt8.toNat_ofNat_of_lt' (Nat.mod_lt _ (by decide))]
theorem lowD_zero : lowD 0 = [] := by rw [lowD, if_pos rfl]
theorem lowD_pos {n : Nat} (h : n ≠ 0) : lowD n = UInt8.ofNat (n % 256) :: lowD (n / 256) := by rw [lowD, if_neg h]
theorem lval_lowD (n : Nat) : lval (lowD n) = n := by
  induction n using Nat.strongRecOn with
  | ind n ih =>
    by_cases h : n = 0
    · subst h; rw [lowD_zero]; rfl
    · rw [lowD_pos h, lval, ih _ (by omega), ofNat_mod]
      omega
theorem lowD_nil {n : Nat} : lowD n = [] ↔ n = 0 := by
  constructor
  · intro h
    have := lval_lowD n
    rw [h] at this
    exact this.symm
  · rintro rfl; exact lowD_zero
theorem lval_pos {l : List UInt8} (h : l.getLast? ≠ some 0) (h0 : l ≠ []) : lval l ≠ 0 := by
  induction l with
  | nil => exact absurd rfl h0
  | cons x r ih =>
    rw [lval]
    by_cases hr : r = []
    · subst hr
      simp only [List.getLast?_singleton, ne_eq, Option.some.injEq] at h
      intro h1
      exact h (UInt8.toNat_inj.1 (by show x.toNat = 0; omega))
    · have h2 : r.getLast? ≠ some 0 := by
        intro h3
        apply h
        rw [List.getLast?_cons, h3]
        rfl
      have := ih h2 hr
      omega
theorem lowD_lval {l : List UInt8} (h : l.getLast? ≠ some 0) : lowD (lval l) = l := by
  induction l with
  | nil => exact lowD_zero
  | cons x r ih =>
    rw [lowD_pos (lval_pos h (by simp)), lval]
    have hx := x.toNat_lt
    have e1 : (x.toNat + 256 * lval r) % 256 = x.toNat := by omega
    have e2 : (x.toNat + 256 * lval r) / 256 = lval r := by omega
    rw [e1, e2]
    have h2 : r.getLast? ≠ some 0 := by
      intro h3
      apply h
      rw [List.getLast?_cons, h3]
      rfl
    rw [ih h2]
    simp
theorem lowD_last (n : Nat) : (lowD n).getLast? ≠ some 0 := by
  induction n using Nat.strongRecOn with
  | ind n ih =>
    by_cases h : n = 0
    · subst h; rw [lowD_zero]; simp
    · rw [lowD_pos h]
      by_cases h2 : n / 256 = 0
      · rw [h2, lowD_zero]
        simp only [List.getLast?_singleton, ne_eq, Option.some.injEq]
        intro h3
        have := ofNat_mod n
        rw [h3] at this
        have : n % 256 = 0 := this.symm
        omega
      · have h3 := ih (n / 256) (by omega)
        rw [List.getLast?_cons]
        cases h4 : (lowD (n / 256)).getLast? with
        | none => exact absurd (lowD_nil.1 (List.getLast?_eq_none_iff.1 h4)) h2
        | some y => rw [h4] at h3; exact h3
theorem lval_lt (l : List UInt8) : lval l < 256 ^ l.length := by
  induction l with
  | nil => simp [lval]
  | cons x r ih =>
    have := x.toNat_lt
    rw [lval, List.length_cons, Nat.pow_succ]
    omega
theorem lval_ge {l : List UInt8} (h : l.getLast? ≠ some 0) (h0 : l ≠ []) : 256 ^ (l.length - 1) ≤ lval l := by
  induction l with
  | nil => exact absurd rfl h0
  | cons x r ih =>
    rw [lval]
    by_cases hr : r = []
    · subst hr
      have := lval_pos h (by simp)
      rw [lval] at this
      simp [lval] at this ⊢
      omega
    · have h2 : r.getLast? ≠ some 0 := by
        intro h3
        apply h
        rw [List.getLast?_cons, h3]
        rfl
      have := ih h2 hr
      have hl : 0 < r.length := List.length_pos_iff.2 hr
      have e : (x :: r).length - 1 = (r.length - 1) + 1 := by simp; omega
      rw [e, Nat.pow_succ]
      omega
theorem lowD_length_le {n k : Nat} : (lowD n).length ≤ k ↔ n < 256 ^ k := by
  constructor
  · intro h
    have h1 := lval_lt (lowD n)
    rw [lval_lowD] at h1
    exact Nat.lt_of_lt_of_le h1 (Nat.pow_le_pow_right (by decide) h)
  · intro h
    by_cases h0 : n = 0
    · subst h0; rw [lowD_zero]; simp
    · have h1 := lval_ge (lowD_last n) (fun h2 => h0 (lowD_nil.1 h2))
      rw [lval_lowD] at h1
      rcases Nat.lt_or_ge k (lowD n).length with h2 | h2
      · have h3 : 256 ^ k ≤ 256 ^ ((lowD n).length - 1) := Nat.pow_le_pow_right (by decide) (by omega)
        omega
      · exact h2
theorem lowD_length_mono {n m : Nat} (h : n ≤ m) : (lowD n).length ≤ (lowD m).length :=
  lowD_length_le.2 (Nat.lt_of_le_of_lt h (lowD_length_le.1 (Nat.le_refl _)))
theorem lval_append (a b : List UInt8) : lval (a ++ b) = lval a + 256 ^ a.length * lval b := by
  induction a with
  | nil => simp [lval]
  | cons x r ih =>
    rw [List.cons_append, lval, lval, ih, List.length_cons, Nat.pow_succ, Nat.mul_add, ← Nat.mul_assoc, Nat.add_assoc, Nat.mul_comm 256 (256 ^ r.length)]
end Go.Vf

namespace Go.Proofs.YtkjoomdglealmaaGreatDoor
open Go.RowKit Go.Vf

theorem info5 : (Tryz.prog.info? 5).map (fun i => (i.zero, i.size, i.bytes)) = some (some (.int .u8 0), 1, 1) := by kernel_rfl
theorem size5 (w : World) : (Go.sizeOf 5).run Tryz.prog w = .ok 1 w := by kernel_rfl
theorem cells5 : Tryz.prog.cellsOf 5 = 1 := by kernel_rfl

theorem flip_toNat (x : UInt8) : ((255 - x).toNat : Int) = 255 - (x.toNat : Int) := by
  have := x.toNat_lt
  rw [UInt8.toNat_sub_of_le _ _ (by rw [UInt8.le_iff_toNat_le]; have : (255 : UInt8).toNat = 255 := rfl; omega)]
  have : (255 : UInt8).toNat = 255 := rfl
  omega

theorem shape_setCell (g : Nat) (w : World) (a : Addr) (v : Value) : (w.setCell a v).shape? g = w.shape? g := by
  unfold World.shape? World.setCell
  simp only [Array.getElem?_modify]
  by_cases h : a.block = g
  · rw [if_pos h]
    cases w.heap[g]? with
    | none => rfl
    | some o =>
      cases o with
      | cells c e f => by_cases hs : a.spot.isSome = true <;> simp [hs]
      | _ => rfl
  · rw [if_neg h]
theorem shape_setCells (g : Nat) : ∀ (vs : List Value) (b o : Nat) (w : World), (w.setCells b o vs).shape? g = w.shape? g
  | [], _, _, _ => rfl
  | v :: r, b, o, w => by rw [World.setCells, shape_setCells g r b (o + 1), shape_setCell]

set_option maxHeartbeats 400000 in
set_option maxRecDepth 20000 in
theorem sclone_any (s : ByteArray) (w : World) (hs : s.size ≤ 17179869184) :
    Calls Tryz.prog 118 #[.string s] w fun e w' => e = .returned (.string s) ∧ Below w.heap.size w w' := by
  by_cases h0 : s.size = 0
  · obtain rfl : s = bs [] := data_inj (by rw [bs_data]; exact List.eq_nil_of_length_eq_zero (by rw [← Lib.size_eq]; exact h0))
    go_enter Tryz.func118, Tryz.ntmps118
    go_wp2
    go_ret
    exact ⟨rfl, Below.refl _ _⟩
  · have hl : s.data.toList.length = s.size := (Lib.size_eq s).symm
    have hmk : ∀ w : World, (Instr.makeSlice 232 (.int .i64 (s.size : Int)) (.int .i64 (s.size : Int))).run Tryz.prog w = .ok (.slice (some ⟨w.heap.size, 0, none⟩) s.size s.size) (w.alloc (.cells (madeCells #[.int .u8 0] s.size) 5)) := fun w =>
      run_make_row' (P := Tryz.prog) 232 5 (.int .u8 0) 1 Tryz.underlying232 info5 rfl .i64 .i64 s.size (by omega) (by omega) w
    have hm := BRow.made w s.size 5
    have hcp := run_copy_str (P := Tryz.prog) _ 232 9 3 5 w.heap.size s.size 0 s _ (by simp) (Nat.zero_le _) Tryz.underlying232 size5 hm
    have hp := hm.put 0 s.data.toList (by simp [hl])
    rw [cutV_zero, Nat.sub_zero, Nat.min_self, List.take_of_length_le (by omega)] at hcp
    have hsh := shape_setCells w.heap.size (cellsL s.data.toList) w.heap.size 0 (w.alloc (.cells (madeCells #[.int .u8 0] s.size) 5))
    rw [show (w.alloc (.cells (madeCells #[.int .u8 0] s.size) 5)).shape? w.heap.size = some (5, (madeCells #[Value.int .u8 0] s.size).size) by unfold World.shape?; rw [heap_alloc_new]] at hsh
    have hb := below_setCells w.heap.size (Nat.le_refl _) (cellsL s.data.toList) 0 ((Below.refl w.heap.size w).alloc (Nat.le_refl _) (.cells (madeCells #[.int .u8 0] s.size) 5))
    have e1 : (List.take 0 (List.replicate s.size (0 : UInt8)) ++ (s.data.toList ++ List.drop (0 + s.data.toList.length) (List.replicate s.size (0 : UInt8)))) = s.data.toList := by simp [hl]
    rw [e1] at hp
    have hms : (madeCells #[Value.int .u8 0] s.size).size = s.size := by rw [size_madeCells]
    generalize (w.alloc (.cells (madeCells #[.int .u8 0] s.size) 5)).setCells w.heap.size 0 (cellsL s.data.toList) = w2 at hcp hp hsh hb
    have hus := run_unsafe_row (P := Tryz.prog) w2 275 3 9 5 Tryz.underlying275 cells5 w.heap.size _ hsh s.data.toList (fun h => h0 (by rw [← hl, h]; rfl)) (by omega) (by omega) hp
    rw [bs_of, hl] at hus
    clear hm hp hsh e1 hms
    go_enter Tryz.func118, Tryz.ntmps118
    go_wp2
    go_ret
    exact ⟨rfl, Lib.below_freeze hb (p := ⟨w.heap.size, 0, none⟩) (Nat.le_refl _) _⟩

theorem clone_any (s : ByteArray) (w : World) (hs : s.size ≤ 17179869184) :
    Calls Tryz.prog 84 #[.string s] w fun e w' => e = .returned (.string s) ∧ Below w.heap.size w w' := by
  go_enter Tryz.func84, Tryz.ntmps84
  go_wp2_with fail
  refine (sclone_any s _ hs).mono ?_
  rintro e w1 ⟨rfl, hb⟩
  go_wp2
  go_ret
  exact ⟨rfl, hb⟩

def turnB (b : Bool) (l : List UInt8) : List UInt8 := if b then flipL l else l
/-- A magnitude of so many bytes, at least one. -/
def tkMag (l : List UInt8) (k : Nat) (b : Bool) : Except Nat (List UInt8) :=
  match l with
  | [] => .error 0
  | x :: r => if x.toNat = (if b then 255 else 0) then .error 0 else if k ≤ (x :: r).length then .ok (turnB b ((x :: r).take k)) else .error (x :: r).length
def magE (a : Nat) : Except Nat (List UInt8) → Ending
  | .ok m => .returned (.string (bs m))
  | .error n => lost 20 ((a + n : Nat) : Int)

/-- A number as the model holds it. -/
abbrev numV (b : Bool) (m : ByteArray) : Value := .agg #[.bool b, .string m]
/-- Check's answer. -/
def chk (b : Bool) (m : List UInt8) : Int := if 255 < m.length then 21 else if (m.isEmpty && b) || m.head? == some 0 then 20 else 0

set_option maxHeartbeats 400000 in
theorem check_any (b : Bool) (m : ByteArray) (hm : m.size ≤ 17179869184) (w : World) :
    Calls Tryz.prog 98 #[numV b m] w fun e w' => e = .returned (.int .i64 (chk b m.data.toList)) ∧ Below w.heap.size w w' := by
  have hl : m.data.toList.length = m.size := (Lib.size_eq m).symm
  have hbel := (Below.refl w.heap.size w).alloc (Nat.le_refl _) (.cells #[.bool b, .string m] 27)
  by_cases h1 : 255 < m.size
  · have hR : chk b m.data.toList = 21 := by simp [chk, hl, h1]
    rw [hR]
    go_enter Tryz.func98, Tryz.ntmps98
    go_wp2
    go_ret
    exact ⟨rfl, hbel⟩
  · by_cases h2 : m.size = 0
    · have hn : m.data.toList = [] := List.eq_nil_of_length_eq_zero (by omega)
      have he : m.toList.isEmpty = true := by rw [ByteArray.toList_eq, hn]; rfl
      rw [hn]
      clear hn hl
      cases b
      all_goals
        go_enter Tryz.func98, Tryz.ntmps98
        go_wp2
        go_ret
        exact ⟨rfl, hbel⟩
    · have he : m.toList.isEmpty = false := by
        rw [ByteArray.toList_eq]
        cases h : m.data.toList with
        | nil => rw [h] at hl; exact absurd hl.symm h2
        | cons x r => rfl
      have h0 : 0 < m.size := by omega
      obtain ⟨r, hd⟩ : ∃ r, m.data.toList = m[0] :: r := ⟨_, (List.drop_zero (l := m.data.toList)).symm.trans (drop_at m 0 h0)⟩
      by_cases h3 : m[0] = 0
      · have hR : chk b m.data.toList = 20 := by
          have h4 : ¬ 255 < m.data.toList.length := by omega
          rw [hd] at h4 ⊢
          simp only [chk, h4, if_false]
          simp [h3]
        have hx : (m[0].toNat : Int) = 0 := by rw [h3]; rfl
        rw [hR]
        clear hR h3 hd
        go_enter Tryz.func98, Tryz.ntmps98
        go_wp2
        go_ret
        exact ⟨rfl, hbel⟩
      · have hR : chk b m.data.toList = 0 := by
          have h4 : ¬ 255 < m.data.toList.length := by omega
          rw [hd] at h4 ⊢
          simp only [chk, h4, if_false]
          simp [h3]
        have hx : ¬ (m[0].toNat : Int) = 0 := fun h => h3 (UInt8.toNat_inj.1 (by simpa using h))
        rw [hR]
        clear hR h3 hd
        go_enter Tryz.func98, Tryz.ntmps98
        go_wp2
        go_ret
        exact ⟨rfl, hbel⟩
end Go.Proofs.YtkjoomdglealmaaGreatDoor

namespace Go.Proofs.YtkjoomdglealmaaGreatDoor
open Go.RowKit Go.Vf

def headL (b : Bool) (n : Nat) : List UInt8 :=
  if 126 < n then (if b then [1, UInt8.ofNat (255 - n)] else [255, UInt8.ofNat n]) else if b then [UInt8.ofNat (128 - n)] else [UInt8.ofNat (128 + n)]
def putL (b : Bool) (m : List UInt8) : List UInt8 := headL b m.length ++ turnB b m

theorem ofNat_int {n : Nat} (h : n < 256) : ((UInt8.ofNat n).toNat : Int) = (n : Int) := by
  rw [UInt8.toNat_ofNat_of_lt' (by simpa using h)]
theorem bs_append (a b : List UInt8) : bs a ++ bs b = bs (a ++ b) := data_inj (by simp [bs_data])

/-- The box of a number: its cells, still there behind a call. -/
theorem box_num {h : Nat} {v0 v1 : Value} {w w' : World} (hb : Below w.heap.size w w')
    (hS : w.cell? ⟨h, 0, none⟩ = some v0 ∧ w.cell? ⟨h, 1, none⟩ = some v1 ∧ h < w.heap.size) :
    w'.cell? ⟨h, 0, none⟩ = some v0 ∧ w'.cell? ⟨h, 1, none⟩ = some v1 ∧ h < w'.heap.size := by
  obtain ⟨h0, h1, h2⟩ := hS
  exact ⟨(hb.cell (p := ⟨h, 0, none⟩) h2).trans h0, (hb.cell (p := ⟨h, 1, none⟩) h2).trans h1, Nat.lt_of_lt_of_le h2 hb.size⟩
theorem below_box {w w2 : World} {o : Obj} (hb : Below (w.alloc o).heap.size (w.alloc o) w2) : Below w.heap.size w w2 :=
  ((Below.refl _ _).alloc (Nat.le_refl _) o).trans (hb.mono (by simp))
theorem below_next {w0 w1 w2 : World} (h1 : Below w0.heap.size w0 w1) (h2 : Below w1.heap.size w1 w2) : Below w0.heap.size w0 w2 := h1.trans (h2.mono h1.size)

theorem headL_length (b : Bool) (n : Nat) : (bs (headL b n)).size ≤ 2 := by
  rw [bs_size]
  unfold headL
  split <;> split <;> simp

def putE (b : Bool) (m : List UInt8) : Ending := .returned (.tuple #[.string (bs (if chk b m = 0 then putL b m else [])), .int .i64 (chk b m)])

end Go.Proofs.YtkjoomdglealmaaGreatDoor
