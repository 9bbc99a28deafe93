/- What one call comes to, on both (the statements' own 'one'; nothing is claimed here). -/
import Derived.Test.YtdmdnhlmfailaaaRefH
import Derived.Test.YtdmdnhlmfailaaaRefE
import Derived.Test.YtdmdnhlmfailaaaOrderW
import Derived.Test.YtdmdnhlmfailaaaSmallW
namespace Go.Proofs.Ytdmdnhlmfailaaa
open Go.RowKit Go.Vf

/-- The box of a call: its cells. -/
structure Box7 (w : World) (h : Nat) (p : Bool) (A : ByteArray) (q : Bool) (B : ByteArray) (S : ByteArray) (t : Int) : Prop where
  a1 : w.cell? ⟨h, 1, none⟩ = some (.bool p)
  a2 : w.cell? ⟨h, 2, none⟩ = some (.string A)
  b1 : w.cell? ⟨h, 3, none⟩ = some (.bool q)
  b2 : w.cell? ⟨h, 4, none⟩ = some (.string B)
  s5 : w.cell? ⟨h, 5, none⟩ = some (.string S)
  t6 : w.cell? ⟨h, 6, none⟩ = some (.int .i64 t)
  lt : h < w.heap.size
theorem box7_new (w : World) (k : Value) (p : Bool) (A : ByteArray) (q : Bool) (B : ByteArray) (S : ByteArray) (t : Int) :
    Box7 (w.alloc (.cells #[k, .bool p, .string A, .bool q, .string B, .string S, .int .i64 t] 28)) w.heap.size p A q B S t := by
  constructor <;> simp
theorem Box7.next {w w' : World} {h : Nat} {p : Bool} {A : ByteArray} {q : Bool} {B : ByteArray} {S : ByteArray} {t : Int} (x : Box7 w h p A q B S t) (hb : Below w.heap.size w w') : Box7 w' h p A q B S t :=
  ⟨(hb.cell (p := ⟨h, 1, none⟩) x.lt).trans x.a1, (hb.cell (p := ⟨h, 2, none⟩) x.lt).trans x.a2, (hb.cell (p := ⟨h, 3, none⟩) x.lt).trans x.b1, (hb.cell (p := ⟨h, 4, none⟩) x.lt).trans x.b2, (hb.cell (p := ⟨h, 5, none⟩) x.lt).trans x.s5, (hb.cell (p := ⟨h, 6, none⟩) x.lt).trans x.t6, Nat.lt_of_lt_of_le x.lt hb.size⟩
theorem box_three {h : Nat} {v1 v2 v6 : Value} {w w' : World} (hb : Below w.heap.size w w')
    (hS : w.cell? ⟨h, 1, none⟩ = some v1 ∧ w.cell? ⟨h, 2, none⟩ = some v2 ∧ w.cell? ⟨h, 6, none⟩ = some v6 ∧ h < w.heap.size) :
    w'.cell? ⟨h, 1, none⟩ = some v1 ∧ w'.cell? ⟨h, 2, none⟩ = some v2 ∧ w'.cell? ⟨h, 6, none⟩ = some v6 ∧ h < w'.heap.size := by
  obtain ⟨h0, h1, h2, h3⟩ := hS
  exact ⟨(hb.cell (p := ⟨h, 1, none⟩) h3).trans h0, (hb.cell (p := ⟨h, 2, none⟩) h3).trans h1, (hb.cell (p := ⟨h, 6, none⟩) h3).trans h2, Nat.lt_of_lt_of_le h3 hb.size⟩

theorem smallE_is (o : Option Int) : ∃ i b, smallE o = .returned (.tuple #[.int .i64 i, .bool b]) := by cases o <;> exact ⟨_, _, rfl⟩
theorem compE_is (p : Bool) (a : List UInt8) (q : Bool) (b : List UInt8) : ∃ c d, compE p a q b = .returned (.tuple #[.int .i64 c, .int .i64 d]) := by
  unfold compE
  split
  · exact ⟨_, _, rfl⟩
  · split <;> exact ⟨_, _, rfl⟩
theorem parseE_is (r : Except Int (Bool × List UInt8)) : ∃ b m e, parseE r = .returned (.tuple #[numV b m, .int .i64 e]) := by
  cases r with
  | ok z => obtain ⟨b, m⟩ := z; exact ⟨_, _, _, rfl⟩
  | error e => exact ⟨_, _, _, rfl⟩
theorem takeE_is (a : Nat) (r : Nat × Option (Bool × List UInt8)) : ∃ b m n e, takeE a r = .returned (.tuple #[numV b m, .int .i64 n, .int .i64 e]) := by
  obtain ⟨n, o⟩ := r
  cases o with
  | none => exact ⟨_, _, _, _, rfl⟩
  | some z => obtain ⟨b, m⟩ := z; exact ⟨_, _, _, _, rfl⟩
theorem rof_is (i : Int) (hi : -9223372036854775808 ≤ i) (hi2 : i ≤ 9223372036854775807) (A : ByteArray) (HA : Hid (A.data.toList = magOf i.natAbs)) (b : Bool) (HB : Hid (b = decide (i < 0))) (w : World) :
    Calls Try.prog 22 #[.int .i64 i] w fun e w' => e = .returned (numV b A) ∧ Below w.heap.size w w' := by
  have h := rof_any i hi hi2 w
  have e : ofE i = .returned (numV b A) := by
    have eA : bs (lowD i.natAbs).reverse = A := data_inj (by rw [bs_data]; exact HA.out.symm)
    rw [ofE, HB.out, eA]
  rw [e] at h
  exact h
theorem takeArg_is (s : ByteArray) (i : Int) (hi : i < 0 ∨ (s.size : Int) < i) : ∀ w, Calls Try.prog 15 #[.string s, .int .i64 i] w fun e w' => e = .returned (.tuple #[numV false ⟨#[]⟩, .int .i64 0, .int .i64 1]) ∧ Below w.heap.size w w' := fun w => take_arg s i hi w

set_option maxHeartbeats 4000000 in
set_option maxRecDepth 100000 in
theorem one_check (p : Bool) (A : ByteArray) (q : Bool) (B : ByteArray) (S : ByteArray) (t : Int) (hA : A.size ≤ 17179869184) (_hB : B.size ≤ 17179869184) (_hS : S.size ≤ 17179869184) (_ht : -9223372036854775808 ≤ t) (_ht2 : t ≤ 9223372036854775807) (w : World) :
    Calls Try.prog 11 #[.agg #[.int .i64 1, .bool p, .string A, .bool q, .string B, .string S, .int .i64 t]] w fun e w' => e = .returned (.bool true) ∧ Below w.heap.size w w' := by
  have hX := box7_new w (.int .i64 1) p A q B S t
  have hW := (Below.refl w.heap.size w).alloc (Nat.le_refl _) (.cells #[.int .i64 1, .bool p, .string A, .bool q, .string B, .string S, .int .i64 t] 28)
  obtain ⟨a1, a2, b1, b2, s5, t6, lt⟩ := hX
  go_enter Try.func11, Try.ntmps11
  go_wp2_with fail
  go_region_held (fun w' => w'.cell? ⟨w.heap.size, 1, none⟩ = some (.bool p) ∧ w'.cell? ⟨w.heap.size, 2, none⟩ = some (.string A) ∧ w'.cell? ⟨w.heap.size, 6, none⟩ = some (.int .i64 t) ∧ w.heap.size < w'.heap.size) (first | go_keep | exact box_three (by assumption) (by assumption)) (first | (go_at_call 12; refine (check_any p A hA _).mono ?_; rintro e w2 ⟨rfl, hb2⟩) | (go_at_call 21; refine (rcheck_any p A hA _).mono ?_; rintro e w3 ⟨rfl, hb3⟩))
  go_wp2_with fail
  go_ret
  exact ⟨rfl, below_next (below_next (hW.drew) hb2) hb3⟩

set_option maxHeartbeats 4000000 in
set_option maxRecDepth 100000 in
theorem one_of (p : Bool) (A : ByteArray) (q : Bool) (B : ByteArray) (S : ByteArray) (t : Int) (_hA : A.size ≤ 17179869184) (_hB : B.size ≤ 17179869184) (_hS : S.size ≤ 17179869184) (ht : -9223372036854775808 ≤ t) (ht2 : t ≤ 9223372036854775807) (w : World) :
    Calls Try.prog 11 #[.agg #[.int .i64 2, .bool p, .string A, .bool q, .string B, .string S, .int .i64 t]] w fun e w' => e = .returned (.bool true) ∧ Below w.heap.size w w' := by
  have hX := box7_new w (.int .i64 2) p A q B S t
  have hW := (Below.refl w.heap.size w).alloc (Nat.le_refl _) (.cells #[.int .i64 2, .bool p, .string A, .bool q, .string B, .string S, .int .i64 t] 28)
  obtain ⟨a1, a2, b1, b2, s5, t6, lt⟩ := hX
  obtain ⟨M, HM⟩ : ∃ M : ByteArray, Hid (M.data.toList = magOf t.natAbs) := ⟨bs (magOf t.natAbs), bs_data _⟩
  obtain ⟨d, HDc⟩ : ∃ d : Bool, Hid (d = decide (t < 0)) := ⟨_, rfl⟩
  have HO1 : Hid (∀ w : World, Calls Try.prog 19 #[.int .i64 t] w fun e w' => e = .returned (numV d M) ∧ Below w.heap.size w w') := fun w => of_is t ht ht2 M HM d HDc w
  have HO2 : Hid (∀ w : World, Calls Try.prog 22 #[.int .i64 t] w fun e w' => e = .returned (numV d M) ∧ Below w.heap.size w w') := fun w => rof_is t ht ht2 M HM d HDc w
  clear HM HDc
  have heq : ∀ w : World, (Op.equalIn 10000 26 (.agg #[.bool d, .string M]) (.agg #[.bool d, .string M])).run Try.prog w = .ok true w := fun w => by rw [num_eq]; simp
  go_enter Try.func11, Try.ntmps11
  go_wp2_with fail
  go_region_held (fun w' => w'.cell? ⟨w.heap.size, 1, none⟩ = some (.bool p) ∧ w'.cell? ⟨w.heap.size, 2, none⟩ = some (.string A) ∧ w'.cell? ⟨w.heap.size, 6, none⟩ = some (.int .i64 t) ∧ w.heap.size < w'.heap.size) (first | go_keep | exact box_three (by assumption) (by assumption)) (first | (go_at_call 19; refine (HO1.out _).mono ?_; rintro e w2 ⟨rfl, hb2⟩) | (go_at_call 22; refine (HO2.out _).mono ?_; rintro e w3 ⟨rfl, hb3⟩))
  go_wp2_with fail
  go_ret
  exact ⟨rfl, below_next (below_next (hW.drew) hb2) hb3⟩

set_option maxHeartbeats 4000000 in
set_option maxRecDepth 100000 in
theorem one_small (p : Bool) (A : ByteArray) (q : Bool) (B : ByteArray) (S : ByteArray) (t : Int) (hA : A.size ≤ 17179869184) (_hB : B.size ≤ 17179869184) (_hS : S.size ≤ 17179869184) (_ht : -9223372036854775808 ≤ t) (_ht2 : t ≤ 9223372036854775807) (w : World) :
    Calls Try.prog 11 #[.agg #[.int .i64 3, .bool p, .string A, .bool q, .string B, .string S, .int .i64 t]] w fun e w' => e = .returned (.bool true) ∧ Below w.heap.size w w' := by
  have hX := box7_new w (.int .i64 3) p A q B S t
  have hW := (Below.refl w.heap.size w).alloc (Nat.le_refl _) (.cells #[.int .i64 3, .bool p, .string A, .bool q, .string B, .string S, .int .i64 t] 28)
  obtain ⟨ri, rb, hE⟩ := smallE_is (smallOf p A.data.toList)
  have HE : Hid (smallE (smallOf p A.data.toList) = .returned (.tuple #[.int .i64 ri, .bool rb])) := hE
  clear hE
  obtain ⟨a1, a2, b1, b2, s5, t6, lt⟩ := hX
  go_enter Try.func11, Try.ntmps11
  go_wp2_with fail
  refine (small_any p A hA _).mono ?_
  rintro e w2 ⟨rfl, hb2⟩
  rw [HE.out]
  replace hW := hW.trans (hb2.mono hW.size)
  obtain ⟨a1, a2, b1, b2, s5, t6, lt⟩ := (Box7.mk a1 a2 b1 b2 s5 t6 lt).next hb2
  clear hb2
  go_wp2_with fail
  refine (rsmall_any p A hA _).mono ?_
  rintro e w3 ⟨rfl, hb3⟩
  rw [HE.out]
  replace hW := hW.trans (hb3.mono hW.size)
  clear hb3
  go_wp2_with fail
  go_ret
  exact ⟨rfl, hW⟩

set_option maxHeartbeats 4000000 in
set_option maxRecDepth 100000 in
theorem one_compare (p : Bool) (A : ByteArray) (q : Bool) (B : ByteArray) (S : ByteArray) (t : Int) (hA : A.size ≤ 17179869184) (hB : B.size ≤ 17179869184) (_hS : S.size ≤ 17179869184) (_ht : -9223372036854775808 ≤ t) (_ht2 : t ≤ 9223372036854775807) (w : World) :
    Calls Try.prog 11 #[.agg #[.int .i64 4, .bool p, .string A, .bool q, .string B, .string S, .int .i64 t]] w fun e w' => e = .returned (.bool true) ∧ Below w.heap.size w w' := by
  have hX := box7_new w (.int .i64 4) p A q B S t
  have hW := (Below.refl w.heap.size w).alloc (Nat.le_refl _) (.cells #[.int .i64 4, .bool p, .string A, .bool q, .string B, .string S, .int .i64 t] 28)
  obtain ⟨rc, rd, hE⟩ := compE_is p A.data.toList q B.data.toList
  have HE : Hid (compE p A.data.toList q B.data.toList = .returned (.tuple #[.int .i64 rc, .int .i64 rd])) := hE
  clear hE
  obtain ⟨a1, a2, b1, b2, s5, t6, lt⟩ := hX
  go_enter Try.func11, Try.ntmps11
  go_wp2_with fail
  refine (compare_any p A q B hA hB _).mono ?_
  rintro e w2 ⟨rfl, hb2⟩
  rw [HE.out]
  replace hW := hW.trans (hb2.mono hW.size)
  obtain ⟨a1, a2, b1, b2, s5, t6, lt⟩ := (Box7.mk a1 a2 b1 b2 s5 t6 lt).next hb2
  clear hb2
  go_wp2_with fail
  refine (rcompare_any p A q B hA hB _).mono ?_
  rintro e w3 ⟨rfl, hb3⟩
  rw [HE.out]
  replace hW := hW.trans (hb3.mono hW.size)
  clear hb3
  go_wp2_with fail
  go_ret
  exact ⟨rfl, hW⟩

set_option maxHeartbeats 4000000 in
set_option maxRecDepth 100000 in
theorem one_parse (p : Bool) (A : ByteArray) (q : Bool) (B : ByteArray) (S : ByteArray) (t : Int) (_hA : A.size ≤ 17179869184) (_hB : B.size ≤ 17179869184) (hS : S.size ≤ 17179869184) (_ht : -9223372036854775808 ≤ t) (_ht2 : t ≤ 9223372036854775807) (w : World) :
    Calls Try.prog 11 #[.agg #[.int .i64 5, .bool p, .string A, .bool q, .string B, .string S, .int .i64 t]] w fun e w' => e = .returned (.bool true) ∧ Below w.heap.size w w' := by
  have hX := box7_new w (.int .i64 5) p A q B S t
  have hW := (Below.refl w.heap.size w).alloc (Nat.le_refl _) (.cells #[.int .i64 5, .bool p, .string A, .bool q, .string B, .string S, .int .i64 t] 28)
  obtain ⟨rb, rm, re, hE⟩ := parseE_is (parseR S.data.toList)
  have HE : Hid (parseE (parseR S.data.toList) = .returned (.tuple #[numV rb rm, .int .i64 re])) := hE
  clear hE
  have heq : ∀ w : World, (Op.equalIn 10000 26 (.agg #[.bool rb, .string rm]) (.agg #[.bool rb, .string rm])).run Try.prog w = .ok true w := fun w => by rw [num_eq]; simp
  obtain ⟨a1, a2, b1, b2, s5, t6, lt⟩ := hX
  go_enter Try.func11, Try.ntmps11
  go_wp2_with fail
  refine (parse_any S hS _).mono ?_
  rintro e w2 ⟨rfl, hb2⟩
  rw [HE.out]
  replace hW := hW.trans (hb2.mono hW.size)
  obtain ⟨a1, a2, b1, b2, s5, t6, lt⟩ := (Box7.mk a1 a2 b1 b2 s5 t6 lt).next hb2
  clear hb2
  have hT : (w2.alloc (.cells #[.bool rb, .string rm] 26)).cell? ⟨w2.heap.size, 0, none⟩ = some (.bool rb) ∧ (w2.alloc (.cells #[.bool rb, .string rm] 26)).cell? ⟨w2.heap.size, 1, none⟩ = some (.string rm) ∧ w2.heap.size < (w2.alloc (.cells #[.bool rb, .string rm] 26)).heap.size := ⟨by simp, by simp, by simp⟩
  replace hW := hW.alloc hW.size (.cells #[.bool rb, .string rm] 26)
  obtain ⟨a1, a2, b1, b2, s5, t6, lt⟩ := (Box7.mk a1 a2 b1 b2 s5 t6 lt).next ((Below.refl w2.heap.size w2).alloc (Nat.le_refl _) (.cells #[.bool rb, .string rm] 26))
  go_wp2_with fail
  generalize w2.alloc (.cells #[.bool rb, .string rm] 26) = W2 at hW hT a1 a2 b1 b2 s5 t6 lt ⊢
  refine (rparse_any S hS _).mono ?_
  rintro e w3 ⟨rfl, hb3⟩
  rw [HE.out]
  replace hW := hW.trans (hb3.mono hW.size)
  replace hT := box_num hb3 hT
  clear hb3 a1 a2 b1 b2 s5 t6 lt
  replace hW := hW.alloc hW.size (.cells #[.bool rb, .string rm] 26)
  obtain ⟨t0, t1, t2⟩ := box_num ((Below.refl w3.heap.size w3).alloc (Nat.le_refl _) (.cells #[.bool rb, .string rm] 26)) hT
  go_wp2_with fail
  go_ret
  exact ⟨rfl, hW⟩

set_option maxHeartbeats 4000000 in
set_option maxRecDepth 100000 in
theorem one_print (p : Bool) (A : ByteArray) (q : Bool) (B : ByteArray) (S : ByteArray) (t : Int) (hA : A.size ≤ 17179869184) (_hB : B.size ≤ 17179869184) (_hS : S.size ≤ 17179869184) (_ht : -9223372036854775808 ≤ t) (_ht2 : t ≤ 9223372036854775807) (w : World) :
    Calls Try.prog 11 #[.agg #[.int .i64 6, .bool p, .string A, .bool q, .string B, .string S, .int .i64 t]] w fun e w' => e = .returned (.bool true) ∧ Below w.heap.size w w' := by
  have hX := box7_new w (.int .i64 6) p A q B S t
  have hW := (Below.refl w.heap.size w).alloc (Nat.le_refl _) (.cells #[.int .i64 6, .bool p, .string A, .bool q, .string B, .string S, .int .i64 t] 28)
  obtain ⟨rs, re, HE⟩ : ∃ rs re, Hid (printE p A.data.toList = .returned (.tuple #[.string rs, .int .i64 re])) := ⟨_, _, rfl⟩
  obtain ⟨a1, a2, b1, b2, s5, t6, lt⟩ := hX
  go_enter Try.func11, Try.ntmps11
  go_wp2_with fail
  refine (print_any p A hA _).mono ?_
  rintro e w2 ⟨rfl, hb2⟩
  rw [HE.out]
  replace hW := hW.trans (hb2.mono hW.size)
  obtain ⟨a1, a2, b1, b2, s5, t6, lt⟩ := (Box7.mk a1 a2 b1 b2 s5 t6 lt).next hb2
  clear hb2
  go_wp2_with fail
  refine (rprint_any p A hA _).mono ?_
  rintro e w3 ⟨rfl, hb3⟩
  rw [HE.out]
  replace hW := hW.trans (hb3.mono hW.size)
  clear hb3
  go_wp2_with fail
  go_ret
  exact ⟨rfl, hW⟩

set_option maxHeartbeats 4000000 in
set_option maxRecDepth 100000 in
theorem one_put (p : Bool) (A : ByteArray) (q : Bool) (B : ByteArray) (S : ByteArray) (t : Int) (hA : A.size ≤ 17179869184) (_hB : B.size ≤ 17179869184) (_hS : S.size ≤ 17179869184) (_ht : -9223372036854775808 ≤ t) (_ht2 : t ≤ 9223372036854775807) (w : World) :
    Calls Try.prog 11 #[.agg #[.int .i64 7, .bool p, .string A, .bool q, .string B, .string S, .int .i64 t]] w fun e w' => e = .returned (.bool true) ∧ Below w.heap.size w w' := by
  have hX := box7_new w (.int .i64 7) p A q B S t
  have hW := (Below.refl w.heap.size w).alloc (Nat.le_refl _) (.cells #[.int .i64 7, .bool p, .string A, .bool q, .string B, .string S, .int .i64 t] 28)
  obtain ⟨rs, re, HE⟩ : ∃ rs re, Hid (putE p A.data.toList = .returned (.tuple #[.string rs, .int .i64 re])) := ⟨_, _, rfl⟩
  obtain ⟨a1, a2, b1, b2, s5, t6, lt⟩ := hX
  go_enter Try.func11, Try.ntmps11
  go_wp2_with fail
  refine (put_any p A hA _).mono ?_
  rintro e w2 ⟨rfl, hb2⟩
  rw [HE.out]
  replace hW := hW.trans (hb2.mono hW.size)
  obtain ⟨a1, a2, b1, b2, s5, t6, lt⟩ := (Box7.mk a1 a2 b1 b2 s5 t6 lt).next hb2
  clear hb2
  go_wp2_with fail
  refine (rput_any p A hA _).mono ?_
  rintro e w3 ⟨rfl, hb3⟩
  rw [HE.out]
  replace hW := hW.trans (hb3.mono hW.size)
  clear hb3
  go_wp2_with fail
  go_ret
  exact ⟨rfl, hW⟩

set_option maxHeartbeats 4000000 in
set_option maxRecDepth 100000 in
theorem one_take (p : Bool) (A : ByteArray) (q : Bool) (B : ByteArray) (S : ByteArray) (_hA : A.size ≤ 17179869184) (_hB : B.size ≤ 17179869184) (hS : S.size ≤ 17179869184) (k : Nat) (hk : k ≤ S.size) (w : World) :
    Calls Try.prog 11 #[.agg #[.int .i64 8, .bool p, .string A, .bool q, .string B, .string S, .int .i64 (k : Int)]] w fun e w' => e = .returned (.bool true) ∧ Below w.heap.size w w' := by
  have hX := box7_new w (.int .i64 8) p A q B S (k : Int)
  have hW := (Below.refl w.heap.size w).alloc (Nat.le_refl _) (.cells #[.int .i64 8, .bool p, .string A, .bool q, .string B, .string S, .int .i64 (k : Int)] 28)
  obtain ⟨rb, rm, rn, re, hE⟩ := takeE_is k (tk (S.data.toList.drop k))
  have HE : Hid (takeE k (tk (S.data.toList.drop k)) = .returned (.tuple #[numV rb rm, .int .i64 rn, .int .i64 re])) := hE
  clear hE
  have heq : ∀ w : World, (Op.equalIn 10000 26 (.agg #[.bool rb, .string rm]) (.agg #[.bool rb, .string rm])).run Try.prog w = .ok true w := fun w => by rw [num_eq]; simp
  obtain ⟨a1, a2, b1, b2, s5, t6, lt⟩ := hX
  go_enter Try.func11, Try.ntmps11
  go_wp2_with fail
  refine (take_any S k hk hS _).mono ?_
  rintro e w2 ⟨rfl, hb2⟩
  rw [HE.out]
  replace hW := hW.trans (hb2.mono hW.size)
  obtain ⟨a1, a2, b1, b2, s5, t6, lt⟩ := (Box7.mk a1 a2 b1 b2 s5 t6 lt).next hb2
  clear hb2
  have hT : (w2.alloc (.cells #[.bool rb, .string rm] 26)).cell? ⟨w2.heap.size, 0, none⟩ = some (.bool rb) ∧ (w2.alloc (.cells #[.bool rb, .string rm] 26)).cell? ⟨w2.heap.size, 1, none⟩ = some (.string rm) ∧ w2.heap.size < (w2.alloc (.cells #[.bool rb, .string rm] 26)).heap.size := ⟨by simp, by simp, by simp⟩
  replace hW := hW.alloc hW.size (.cells #[.bool rb, .string rm] 26)
  obtain ⟨a1, a2, b1, b2, s5, t6, lt⟩ := (Box7.mk a1 a2 b1 b2 s5 t6 lt).next ((Below.refl w2.heap.size w2).alloc (Nat.le_refl _) (.cells #[.bool rb, .string rm] 26))
  go_wp2_with fail
  generalize w2.alloc (.cells #[.bool rb, .string rm] 26) = W2 at hW hT a1 a2 b1 b2 s5 t6 lt ⊢
  refine (rtake_any S k hk hS _).mono ?_
  rintro e w3 ⟨rfl, hb3⟩
  rw [HE.out]
  replace hW := hW.trans (hb3.mono hW.size)
  replace hT := box_num hb3 hT
  clear hb3 a1 a2 b1 b2 s5 t6 lt
  replace hW := hW.alloc hW.size (.cells #[.bool rb, .string rm] 26)
  obtain ⟨t0, t1, t2⟩ := box_num ((Below.refl w3.heap.size w3).alloc (Nat.le_refl _) (.cells #[.bool rb, .string rm] 26)) hT
  go_wp2_with fail
  go_ret
  exact ⟨rfl, hW⟩

set_option maxHeartbeats 4000000 in
set_option maxRecDepth 100000 in
theorem one_take_arg (p : Bool) (A : ByteArray) (q : Bool) (B : ByteArray) (S : ByteArray) (t : Int) (_hA : A.size ≤ 17179869184) (_hB : B.size ≤ 17179869184) (_hS : S.size ≤ 17179869184) (_ht : -9223372036854775808 ≤ t) (_ht2 : t ≤ 9223372036854775807) (hi : t < 0 ∨ (S.size : Int) < t) (w : World) :
    Calls Try.prog 11 #[.agg #[.int .i64 8, .bool p, .string A, .bool q, .string B, .string S, .int .i64 t]] w fun e w' => e = .returned (.bool true) ∧ Below w.heap.size w w' := by
  have hX := box7_new w (.int .i64 8) p A q B S t
  have hW := (Below.refl w.heap.size w).alloc (Nat.le_refl _) (.cells #[.int .i64 8, .bool p, .string A, .bool q, .string B, .string S, .int .i64 t] 28)
  have heq : ∀ w : World, (Op.equalIn 10000 26 (.agg #[.bool false, .string ⟨#[]⟩]) (.agg #[.bool false, .string ⟨#[]⟩])).run Try.prog w = .ok true w := fun w => by rw [num_eq]; simp
  obtain ⟨a1, a2, b1, b2, s5, t6, lt⟩ := hX
  go_enter Try.func11, Try.ntmps11
  go_wp2_with fail
  refine (takeArg_is S t hi _).mono ?_
  rintro e w2 ⟨rfl, hb2⟩
  replace hW := hW.trans (hb2.mono hW.size)
  obtain ⟨a1, a2, b1, b2, s5, t6, lt⟩ := (Box7.mk a1 a2 b1 b2 s5 t6 lt).next hb2
  clear hb2
  have hT : (w2.alloc (.cells #[.bool false, .string ⟨#[]⟩] 26)).cell? ⟨w2.heap.size, 0, none⟩ = some (.bool false) ∧ (w2.alloc (.cells #[.bool false, .string ⟨#[]⟩] 26)).cell? ⟨w2.heap.size, 1, none⟩ = some (.string ⟨#[]⟩) ∧ w2.heap.size < (w2.alloc (.cells #[.bool false, .string ⟨#[]⟩] 26)).heap.size := ⟨by simp, by simp, by simp⟩
  replace hW := hW.alloc hW.size (.cells #[.bool false, .string ⟨#[]⟩] 26)
  obtain ⟨a1, a2, b1, b2, s5, t6, lt⟩ := (Box7.mk a1 a2 b1 b2 s5 t6 lt).next ((Below.refl w2.heap.size w2).alloc (Nat.le_refl _) (.cells #[.bool false, .string ⟨#[]⟩] 26))
  go_wp2_with fail
  generalize w2.alloc (.cells #[.bool false, .string ⟨#[]⟩] 26) = W2 at hW hT a1 a2 b1 b2 s5 t6 lt ⊢
  refine (rtake_arg S t hi _).mono ?_
  rintro e w3 ⟨rfl, hb3⟩
  replace hW := hW.trans (hb3.mono hW.size)
  replace hT := box_num hb3 hT
  clear hb3 a1 a2 b1 b2 s5 t6 lt
  replace hW := hW.alloc hW.size (.cells #[.bool false, .string ⟨#[]⟩] 26)
  obtain ⟨t0, t1, t2⟩ := box_num ((Below.refl w3.heap.size w3).alloc (Nat.le_refl _) (.cells #[.bool false, .string ⟨#[]⟩] 26)) hT
  go_wp2_with fail
  go_ret
  exact ⟨rfl, hW⟩

set_option maxHeartbeats 2000000 in
set_option maxRecDepth 100000 in
theorem one_none (kd : Int) (p : Bool) (A : ByteArray) (q : Bool) (B : ByteArray) (S : ByteArray) (t : Int) (h1 : (kd == 1) = false) (h2 : (kd == 2) = false) (h3 : (kd == 3) = false) (h4 : (kd == 4) = false) (h5 : (kd == 5) = false) (h6 : (kd == 6) = false) (h7 : (kd == 7) = false) (h8 : (kd == 8) = false) (w : World) :
    Calls Try.prog 11 #[.agg #[.int .i64 kd, .bool p, .string A, .bool q, .string B, .string S, .int .i64 t]] w fun e w' => e = .returned (.bool true) ∧ Below w.heap.size w w' := by
  have hW := (Below.refl w.heap.size w).alloc (Nat.le_refl _) (.cells #[.int .i64 kd, .bool p, .string A, .bool q, .string B, .string S, .int .i64 t] 28)
  go_enter Try.func11, Try.ntmps11
  go_wp2_with fail
  go_ret
  exact ⟨rfl, hW⟩

theorem one_any (kd : Int) (p : Bool) (A : ByteArray) (q : Bool) (B : ByteArray) (S : ByteArray) (t : Int) (hA : A.size ≤ 17179869184) (hB : B.size ≤ 17179869184) (hS : S.size ≤ 17179869184) (ht : -9223372036854775808 ≤ t) (ht2 : t ≤ 9223372036854775807) (w : World) :
    Calls Try.prog 11 #[.agg #[.int .i64 kd, .bool p, .string A, .bool q, .string B, .string S, .int .i64 t]] w fun e w' => e = .returned (.bool true) ∧ Below w.heap.size w w' := by
  by_cases h1 : kd = 1
  · subst h1; exact one_check p A q B S t hA hB hS ht ht2 w
  by_cases h2 : kd = 2
  · subst h2; exact one_of p A q B S t hA hB hS ht ht2 w
  by_cases h3 : kd = 3
  · subst h3; exact one_small p A q B S t hA hB hS ht ht2 w
  by_cases h4 : kd = 4
  · subst h4; exact one_compare p A q B S t hA hB hS ht ht2 w
  by_cases h5 : kd = 5
  · subst h5; exact one_parse p A q B S t hA hB hS ht ht2 w
  by_cases h6 : kd = 6
  · subst h6; exact one_print p A q B S t hA hB hS ht ht2 w
  by_cases h7 : kd = 7
  · subst h7; exact one_put p A q B S t hA hB hS ht ht2 w
  by_cases h8 : kd = 8
  · subst h8
    by_cases hi : t < 0 ∨ (S.size : Int) < t
    · exact one_take_arg p A q B S t hA hB hS ht ht2 hi w
    · obtain ⟨k, rfl⟩ := Int.eq_ofNat_of_zero_le (show 0 ≤ t by omega)
      exact one_take p A q B S hA hB hS k (by omega) w
  · exact one_none kd p A q B S t (by simpa using h1) (by simpa using h2) (by simpa using h3) (by simpa using h4) (by simpa using h5) (by simpa using h6) (by simpa using h7) (by simpa using h8) w
end Go.Proofs.Ytdmdnhlmfailaaa
