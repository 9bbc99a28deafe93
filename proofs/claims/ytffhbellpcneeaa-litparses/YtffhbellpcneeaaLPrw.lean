/- LitParses' walk (contracts; nothing is claimed here). -/
import Derived.Test.YtffhbellpcneeaaRPar
import Derived.Test.YtffhbellpcneeaaLLaw
namespace Go.Proofs.Ytffhbellpcneeaa
open Go.RowKit Go.Vf
/-- What the program's Parse and the document's say of a text: the same part, the same error, the same place. -/
theorem parse_both (s : ByteArray) (hs : s.size ≤ 17179869184) : ∃ (p : Prt) (E I : Int), may p = true ∧ (E == 0 || p.kind == 0) = true ∧
    (∀ w, Calls Try.prog 15 #[.string s] w fun e w' => ∃ v, e = .returned (.tuple #[v, .int .i64 E, .int .i64 I]) ∧ VIn w' w.heap.size w'.heap.size v p ∧ ((E == 0) = true ∨ ((E == 0) = false ∧ v = .nilIface)) ∧ Below w.heap.size w w') ∧
    (∀ w, Calls Try.prog 16 #[.string s] w fun e w' => ∃ (a : Option Addr) (c : Nat), e = .returned (.tuple #[pV p a c, .int .i64 E, .int .i64 I]) ∧ PIn w' w.heap.size w'.heap.size p a ∧ Below w.heap.size w w') := by
  have h1 := lparse_any s hs
  have h2 := rparse10_any s hs
  have hsl : s.data.toList.length = s.size := (Lib.size_eq s).symm
  cases hg : parseL s.data.toList with
  | ok p =>
    have hm : may p = true := by
      unfold parseL at hg
      split at hg
      · cases hg
      · rename_i hl
        cases hr : rd 16 s.data.toList with
        | error r => rw [hr] at hg; cases hg
        | ok z =>
          obtain ⟨q, rest⟩ := z
          rw [hr] at hg
          simp only at hg
          split at hg
          · cases hg
            exact (rd_inv 16 _ _ _ (by omega) hr).2.1
          · cases hg
    rw [hg] at h1 h2
    refine ⟨p, 0, 0, hm, rfl, fun w => (h1 w).mono ?_, fun w => (h2 w).mono ?_⟩
    · rintro e w' ⟨hb, v, rfl, hv⟩
      exact ⟨v, rfl, hv, .inl rfl, hb⟩
    · rintro e w' ⟨hb, a, c, rfl, hp⟩
      exact ⟨a, c, rfl, hp, hb⟩
  | error z =>
    obtain ⟨why, i⟩ := z
    have hw : (why == 0) = false := by
      unfold parseL at hg
      split at hg
      · cases hg; rfl
      · cases hr : rd 16 s.data.toList with
        | error r => rw [hr] at hg; cases hg; rfl
        | ok z =>
          obtain ⟨q, rest⟩ := z
          rw [hr] at hg
          simp only at hg
          split at hg
          · cases hg
          · cases hg; rfl
    rw [hg] at h1 h2
    refine ⟨nullP, why, i, rfl, by rw [Bool.or_eq_true]; exact .inr rfl, fun w => (h1 w).mono ?_, fun w => (h2 w).mono ?_⟩
    · rintro e w' ⟨hb, rfl⟩
      exact ⟨_, rfl, .null, .inr ⟨hw, rfl⟩, hb⟩
    · rintro e w' ⟨hb, rfl⟩
      exact ⟨none, 0, rfl, .nil rfl, hb⟩
theorem VIn.go {w w' : World} {lo : Nat} {v : Value} {p : Prt} (h : VIn w lo w.heap.size v p) (hb : Below w.heap.size w w') : VIn w' 0 w'.heap.size v p := (h.old hb (Nat.le_refl _)).mono hb.size (Nat.zero_le _)
theorem PIn.go {w w' : World} {lo : Nat} {p : Prt} {a : Option Addr} (h : PIn w lo w.heap.size p a) (hb : Below w.heap.size w w') : PIn w' 0 w'.heap.size p a := (h.keep hb (Nat.le_refl _)).mono hb.size (Nat.zero_le _)
theorem nil_nil (w : World) : (binOp .eql 33 .nilIface .nilIface).run Try.prog w = .ok (.bool true) w := by kernel_rfl
set_option maxHeartbeats 8000000 in
set_option maxRecDepth 20000 in
theorem lparses_any (s : ByteArray) (hs : s.size < 9223372036854775808) (t : ByteArray) (ht : t.size < 9223372036854775808) (w : World) : Calls Try.prog 4 #[.string s, .string t] w fun e w' => e = .returned (.bool true) ∧ Below w.heap.size w w' := by
  have haw := awake_any w
  have hnn := nil_nil
  go_enter Try.func4, Try.ntmps4
  go_wp2_with fail
  refine haw.mono ?_
  rintro _ w1 ⟨rfl, hw1⟩
  clear haw
  by_cases hl : 134217728 < s.size
  · have tl : decide ((134217728 : Int) < (s.size : Int)) = true := decide_eq_true (by omega)
    go_wp2_with fail
    go_ret
    exact ⟨rfl, hw1⟩
  have tl : decide ((134217728 : Int) < (s.size : Int)) = false := decide_eq_false (by omega)
  by_cases hl2 : 134217728 < t.size
  · have tl2 : decide ((134217728 : Int) < (t.size : Int)) = true := decide_eq_true (by omega)
    go_wp2_with fail
    go_ret
    exact ⟨rfl, hw1⟩
  have tl2 : decide ((134217728 : Int) < (t.size : Int)) = false := decide_eq_false (by omega)
  obtain ⟨p, E, I, hmp, -, hA, hR⟩ := parse_both s (by omega)
  obtain ⟨q, F, J, hmq, -, hB, hS⟩ := parse_both t (by omega)
  have HFP : Hid (Fits p) := may_fits p hmp
  have HFQ : Hid (Fits q) := may_fits q hmq
  have HTP : Hid (TellOk p) := tell_any p hmp
  have HTQ : Hid (TellOk q) := tell_any q hmq
  have yE : (E == E) = true := by simp
  have yF : (F == F) = true := by simp
  have yI : (I == I) = true := by simp
  have yJ : (J == J) = true := by simp
  unfold pV at hR hS
  clear hmp hmq
  go_wp2_with fail
  refine (hA w1).mono ?_
  rintro _ w2 ⟨va, rfl, hv2, ca, hb2⟩
  have hw2 : Below w.heap.size w w2 := hw1.trans (hb2.mono hw1.size)
  have HVva : Hid (VIn w2 0 w2.heap.size va p) := hv2.mono (Nat.le_refl _) (Nat.zero_le _)
  clear hv2 hb2
  go_wp2_with fail
  refine (hB w2).mono ?_
  rintro _ w3 ⟨vb, rfl, hv3, cb, hb3⟩
  have hw3 : Below w.heap.size w w3 := hw2.trans (hb3.mono hw2.size)
  have HVva : Hid (VIn w3 0 w3.heap.size va p) := VIn.go HVva.out hb3
  have HVvb : Hid (VIn w3 0 w3.heap.size vb q) := hv3.mono (Nat.le_refl _) (Nat.zero_le _)
  clear hv3 hb3
  go_wp2_with fail
  refine (hA w3).mono ?_
  rintro _ w4 ⟨vc, rfl, hv4, _, hb4⟩
  have hw4 : Below w.heap.size w w4 := hw3.trans (hb4.mono hw3.size)
  have HVva : Hid (VIn w4 0 w4.heap.size va p) := VIn.go HVva.out hb4
  have HVvb : Hid (VIn w4 0 w4.heap.size vb q) := VIn.go HVvb.out hb4
  have HVvc : Hid (VIn w4 0 w4.heap.size vc p) := hv4.mono (Nat.le_refl _) (Nat.zero_le _)
  clear hv4 hb4
  have HCA : Hid _ := ca
  have HCB : Hid _ := cb
  clear ca cb hA hB
  go_wp2_with fail
  refine (hR w4).mono ?_
  rintro _ w5 ⟨ap1, cp1, rfl, hp5, hb5⟩
  have hw5 : Below w.heap.size w w5 := hw4.trans (hb5.mono hw4.size)
  have HVva : Hid (VIn w5 0 w5.heap.size va p) := VIn.go HVva.out hb5
  have HVvb : Hid (VIn w5 0 w5.heap.size vb q) := VIn.go HVvb.out hb5
  have HVvc : Hid (VIn w5 0 w5.heap.size vc p) := VIn.go HVvc.out hb5
  have HPp1 : Hid (PIn w5 0 w5.heap.size p ap1) := hp5.mono (Nat.le_refl _) (Nat.zero_le _)
  clear hp5 hb5
  have hq6 := (Below.refl w5.heap.size w5).alloc (Nat.le_refl _) (.cells #[.int .u8 p.kind, .bool p.yes, .bool p.neg, .string p.mag, .string p.raw, .slice ap1 p.items.length cp1] 27)
  have hB6 := Blk.new w5 27 #[.int .u8 p.kind, .bool p.yes, .bool p.neg, .string p.mag, .string p.raw, .slice ap1 p.items.length cp1]
  go_upto_region 8 with fail
  generalize hgen6 : w5.alloc (.cells #[.int .u8 p.kind, .bool p.yes, .bool p.neg, .string p.mag, .string p.raw, .slice ap1 p.items.length cp1] 27) = w6 at *
  clear hgen6
  have hw6 : Below w.heap.size w w6 := hw5.trans (hq6.mono hw5.size)
  have HVva : Hid (VIn w6 0 w6.heap.size va p) := VIn.go HVva.out hq6
  have HVvb : Hid (VIn w6 0 w6.heap.size vb q) := VIn.go HVvb.out hq6
  have HVvc : Hid (VIn w6 0 w6.heap.size vc p) := VIn.go HVvc.out hq6
  have HPp1 : Hid (PIn w6 0 w6.heap.size p ap1) := PIn.go HPp1.out hq6
  have HBp1 : Hid (Blk w6 w5.heap.size 27 #[.int .u8 p.kind, .bool p.yes, .bool p.neg, .string p.mag, .string p.raw, .slice ap1 p.items.length cp1]) := hB6
  clear hB6 hq6
  go_wp2_with fail
  refine (hS w6).mono ?_
  rintro _ w7 ⟨aq1, cq1, rfl, hp7, hb7⟩
  have hw7 : Below w.heap.size w w7 := hw6.trans (hb7.mono hw6.size)
  have HVva : Hid (VIn w7 0 w7.heap.size va p) := VIn.go HVva.out hb7
  have HVvb : Hid (VIn w7 0 w7.heap.size vb q) := VIn.go HVvb.out hb7
  have HVvc : Hid (VIn w7 0 w7.heap.size vc p) := VIn.go HVvc.out hb7
  have HPp1 : Hid (PIn w7 0 w7.heap.size p ap1) := PIn.go HPp1.out hb7
  have HBp1 : Hid (Blk w7 w5.heap.size 27 #[.int .u8 p.kind, .bool p.yes, .bool p.neg, .string p.mag, .string p.raw, .slice ap1 p.items.length cp1]) := Blk.old HBp1.out hb7
  have HPq1 : Hid (PIn w7 0 w7.heap.size q aq1) := hp7.mono (Nat.le_refl _) (Nat.zero_le _)
  clear hp7 hb7
  have hq8 := (Below.refl w7.heap.size w7).alloc (Nat.le_refl _) (.cells #[.int .u8 q.kind, .bool q.yes, .bool q.neg, .string q.mag, .string q.raw, .slice aq1 q.items.length cq1] 27)
  have hB8 := Blk.new w7 27 #[.int .u8 q.kind, .bool q.yes, .bool q.neg, .string q.mag, .string q.raw, .slice aq1 q.items.length cq1]
  go_upto_region 9 with fail
  generalize hgen8 : w7.alloc (.cells #[.int .u8 q.kind, .bool q.yes, .bool q.neg, .string q.mag, .string q.raw, .slice aq1 q.items.length cq1] 27) = w8 at *
  clear hgen8
  have hw8 : Below w.heap.size w w8 := hw7.trans (hq8.mono hw7.size)
  have HVva : Hid (VIn w8 0 w8.heap.size va p) := VIn.go HVva.out hq8
  have HVvb : Hid (VIn w8 0 w8.heap.size vb q) := VIn.go HVvb.out hq8
  have HVvc : Hid (VIn w8 0 w8.heap.size vc p) := VIn.go HVvc.out hq8
  have HPp1 : Hid (PIn w8 0 w8.heap.size p ap1) := PIn.go HPp1.out hq8
  have HBp1 : Hid (Blk w8 w5.heap.size 27 #[.int .u8 p.kind, .bool p.yes, .bool p.neg, .string p.mag, .string p.raw, .slice ap1 p.items.length cp1]) := Blk.old HBp1.out hq8
  have HPq1 : Hid (PIn w8 0 w8.heap.size q aq1) := PIn.go HPq1.out hq8
  have HBq1 : Hid (Blk w8 w7.heap.size 27 #[.int .u8 q.kind, .bool q.yes, .bool q.neg, .string q.mag, .string q.raw, .slice aq1 q.items.length cq1]) := hB8
  clear hB8 hq8
  clear hR hS
  have htt1 := HTP.out va 0 w8.heap.size w8 (Nat.le_refl _) HVva.out
  unfold pV at htt1
  go_wp2_with fail
  refine htt1.mono ?_
  rintro _ w9 ⟨at1, ct1, rfl, hp9, hb9⟩
  clear htt1
  have hw9 : Below w.heap.size w w9 := hw8.trans (hb9.mono hw8.size)
  have HVva : Hid (VIn w9 0 w9.heap.size va p) := VIn.go HVva.out hb9
  have HVvb : Hid (VIn w9 0 w9.heap.size vb q) := VIn.go HVvb.out hb9
  have HVvc : Hid (VIn w9 0 w9.heap.size vc p) := VIn.go HVvc.out hb9
  have HPp1 : Hid (PIn w9 0 w9.heap.size p ap1) := PIn.go HPp1.out hb9
  have HBp1 : Hid (Blk w9 w5.heap.size 27 #[.int .u8 p.kind, .bool p.yes, .bool p.neg, .string p.mag, .string p.raw, .slice ap1 p.items.length cp1]) := Blk.old HBp1.out hb9
  have HPq1 : Hid (PIn w9 0 w9.heap.size q aq1) := PIn.go HPq1.out hb9
  have HBq1 : Hid (Blk w9 w7.heap.size 27 #[.int .u8 q.kind, .bool q.yes, .bool q.neg, .string q.mag, .string q.raw, .slice aq1 q.items.length cq1]) := Blk.old HBq1.out hb9
  have HPt1 : Hid (PIn w9 0 w9.heap.size p at1) := hp9.mono (Nat.le_refl _) (Nat.zero_le _)
  clear hp9 hb9
  have hq10 := (Below.refl w9.heap.size w9).alloc (Nat.le_refl _) (.cells #[.int .u8 p.kind, .bool p.yes, .bool p.neg, .string p.mag, .string p.raw, .slice at1 p.items.length ct1] 27)
  have hB10 := Blk.new w9 27 #[.int .u8 p.kind, .bool p.yes, .bool p.neg, .string p.mag, .string p.raw, .slice at1 p.items.length ct1]
  go_upto_region 10 with fail
  generalize hgen10 : w9.alloc (.cells #[.int .u8 p.kind, .bool p.yes, .bool p.neg, .string p.mag, .string p.raw, .slice at1 p.items.length ct1] 27) = w10 at *
  clear hgen10
  have hw10 : Below w.heap.size w w10 := hw9.trans (hq10.mono hw9.size)
  have HVva : Hid (VIn w10 0 w10.heap.size va p) := VIn.go HVva.out hq10
  have HVvb : Hid (VIn w10 0 w10.heap.size vb q) := VIn.go HVvb.out hq10
  have HVvc : Hid (VIn w10 0 w10.heap.size vc p) := VIn.go HVvc.out hq10
  have HPp1 : Hid (PIn w10 0 w10.heap.size p ap1) := PIn.go HPp1.out hq10
  have HBp1 : Hid (Blk w10 w5.heap.size 27 #[.int .u8 p.kind, .bool p.yes, .bool p.neg, .string p.mag, .string p.raw, .slice ap1 p.items.length cp1]) := Blk.old HBp1.out hq10
  have HPq1 : Hid (PIn w10 0 w10.heap.size q aq1) := PIn.go HPq1.out hq10
  have HBq1 : Hid (Blk w10 w7.heap.size 27 #[.int .u8 q.kind, .bool q.yes, .bool q.neg, .string q.mag, .string q.raw, .slice aq1 q.items.length cq1]) := Blk.old HBq1.out hq10
  have HPt1 : Hid (PIn w10 0 w10.heap.size p at1) := PIn.go HPt1.out hq10
  have HBt1 : Hid (Blk w10 w9.heap.size 27 #[.int .u8 p.kind, .bool p.yes, .bool p.neg, .string p.mag, .string p.raw, .slice at1 p.items.length ct1]) := hB10
  clear hB10 hq10
  have htt2 := HTQ.out vb 0 w10.heap.size w10 (Nat.le_refl _) HVvb.out
  unfold pV at htt2
  go_wp2_with fail
  refine htt2.mono ?_
  rintro _ w11 ⟨at2, ct2, rfl, hp11, hb11⟩
  clear htt2
  have hw11 : Below w.heap.size w w11 := hw10.trans (hb11.mono hw10.size)
  have HVva : Hid (VIn w11 0 w11.heap.size va p) := VIn.go HVva.out hb11
  have HVvb : Hid (VIn w11 0 w11.heap.size vb q) := VIn.go HVvb.out hb11
  have HVvc : Hid (VIn w11 0 w11.heap.size vc p) := VIn.go HVvc.out hb11
  have HPp1 : Hid (PIn w11 0 w11.heap.size p ap1) := PIn.go HPp1.out hb11
  have HBp1 : Hid (Blk w11 w5.heap.size 27 #[.int .u8 p.kind, .bool p.yes, .bool p.neg, .string p.mag, .string p.raw, .slice ap1 p.items.length cp1]) := Blk.old HBp1.out hb11
  have HPq1 : Hid (PIn w11 0 w11.heap.size q aq1) := PIn.go HPq1.out hb11
  have HBq1 : Hid (Blk w11 w7.heap.size 27 #[.int .u8 q.kind, .bool q.yes, .bool q.neg, .string q.mag, .string q.raw, .slice aq1 q.items.length cq1]) := Blk.old HBq1.out hb11
  have HPt1 : Hid (PIn w11 0 w11.heap.size p at1) := PIn.go HPt1.out hb11
  have HBt1 : Hid (Blk w11 w9.heap.size 27 #[.int .u8 p.kind, .bool p.yes, .bool p.neg, .string p.mag, .string p.raw, .slice at1 p.items.length ct1]) := Blk.old HBt1.out hb11
  have HPt2 : Hid (PIn w11 0 w11.heap.size q at2) := hp11.mono (Nat.le_refl _) (Nat.zero_le _)
  clear hp11 hb11
  have hq12 := (Below.refl w11.heap.size w11).alloc (Nat.le_refl _) (.cells #[.int .u8 q.kind, .bool q.yes, .bool q.neg, .string q.mag, .string q.raw, .slice at2 q.items.length ct2] 27)
  have hB12 := Blk.new w11 27 #[.int .u8 q.kind, .bool q.yes, .bool q.neg, .string q.mag, .string q.raw, .slice at2 q.items.length ct2]
  go_upto_region 11 with fail
  generalize hgen12 : w11.alloc (.cells #[.int .u8 q.kind, .bool q.yes, .bool q.neg, .string q.mag, .string q.raw, .slice at2 q.items.length ct2] 27) = w12 at *
  clear hgen12
  have hw12 : Below w.heap.size w w12 := hw11.trans (hq12.mono hw11.size)
  have HVva : Hid (VIn w12 0 w12.heap.size va p) := VIn.go HVva.out hq12
  have HVvb : Hid (VIn w12 0 w12.heap.size vb q) := VIn.go HVvb.out hq12
  have HVvc : Hid (VIn w12 0 w12.heap.size vc p) := VIn.go HVvc.out hq12
  have HPp1 : Hid (PIn w12 0 w12.heap.size p ap1) := PIn.go HPp1.out hq12
  have HBp1 : Hid (Blk w12 w5.heap.size 27 #[.int .u8 p.kind, .bool p.yes, .bool p.neg, .string p.mag, .string p.raw, .slice ap1 p.items.length cp1]) := Blk.old HBp1.out hq12
  have HPq1 : Hid (PIn w12 0 w12.heap.size q aq1) := PIn.go HPq1.out hq12
  have HBq1 : Hid (Blk w12 w7.heap.size 27 #[.int .u8 q.kind, .bool q.yes, .bool q.neg, .string q.mag, .string q.raw, .slice aq1 q.items.length cq1]) := Blk.old HBq1.out hq12
  have HPt1 : Hid (PIn w12 0 w12.heap.size p at1) := PIn.go HPt1.out hq12
  have HBt1 : Hid (Blk w12 w9.heap.size 27 #[.int .u8 p.kind, .bool p.yes, .bool p.neg, .string p.mag, .string p.raw, .slice at1 p.items.length ct1]) := Blk.old HBt1.out hq12
  have HPt2 : Hid (PIn w12 0 w12.heap.size q at2) := PIn.go HPt2.out hq12
  have HBt2 : Hid (Blk w12 w11.heap.size 27 #[.int .u8 q.kind, .bool q.yes, .bool q.neg, .string q.mag, .string q.raw, .slice at2 q.items.length ct2]) := hB12
  clear hB12 hq12
  have htt3 := HTP.out vc 0 w12.heap.size w12 (Nat.le_refl _) HVvc.out
  unfold pV at htt3
  go_wp2_with fail
  refine htt3.mono ?_
  rintro _ w13 ⟨at3, ct3, rfl, hp13, hb13⟩
  clear htt3
  have hw13 : Below w.heap.size w w13 := hw12.trans (hb13.mono hw12.size)
  have HVva : Hid (VIn w13 0 w13.heap.size va p) := VIn.go HVva.out hb13
  have HVvb : Hid (VIn w13 0 w13.heap.size vb q) := VIn.go HVvb.out hb13
  have HVvc : Hid (VIn w13 0 w13.heap.size vc p) := VIn.go HVvc.out hb13
  have HPp1 : Hid (PIn w13 0 w13.heap.size p ap1) := PIn.go HPp1.out hb13
  have HBp1 : Hid (Blk w13 w5.heap.size 27 #[.int .u8 p.kind, .bool p.yes, .bool p.neg, .string p.mag, .string p.raw, .slice ap1 p.items.length cp1]) := Blk.old HBp1.out hb13
  have HPq1 : Hid (PIn w13 0 w13.heap.size q aq1) := PIn.go HPq1.out hb13
  have HBq1 : Hid (Blk w13 w7.heap.size 27 #[.int .u8 q.kind, .bool q.yes, .bool q.neg, .string q.mag, .string q.raw, .slice aq1 q.items.length cq1]) := Blk.old HBq1.out hb13
  have HPt1 : Hid (PIn w13 0 w13.heap.size p at1) := PIn.go HPt1.out hb13
  have HBt1 : Hid (Blk w13 w9.heap.size 27 #[.int .u8 p.kind, .bool p.yes, .bool p.neg, .string p.mag, .string p.raw, .slice at1 p.items.length ct1]) := Blk.old HBt1.out hb13
  have HPt2 : Hid (PIn w13 0 w13.heap.size q at2) := PIn.go HPt2.out hb13
  have HBt2 : Hid (Blk w13 w11.heap.size 27 #[.int .u8 q.kind, .bool q.yes, .bool q.neg, .string q.mag, .string q.raw, .slice at2 q.items.length ct2]) := Blk.old HBt2.out hb13
  have HPt3 : Hid (PIn w13 0 w13.heap.size p at3) := hp13.mono (Nat.le_refl _) (Nat.zero_le _)
  clear hp13 hb13
  have hq14 := (Below.refl w13.heap.size w13).alloc (Nat.le_refl _) (.cells #[.int .u8 p.kind, .bool p.yes, .bool p.neg, .string p.mag, .string p.raw, .slice at3 p.items.length ct3] 27)
  have hB14 := Blk.new w13 27 #[.int .u8 p.kind, .bool p.yes, .bool p.neg, .string p.mag, .string p.raw, .slice at3 p.items.length ct3]
  go_upto_region 12 with fail
  generalize hgen14 : w13.alloc (.cells #[.int .u8 p.kind, .bool p.yes, .bool p.neg, .string p.mag, .string p.raw, .slice at3 p.items.length ct3] 27) = w14 at *
  clear hgen14
  have hw14 : Below w.heap.size w w14 := hw13.trans (hq14.mono hw13.size)
  have HVva : Hid (VIn w14 0 w14.heap.size va p) := VIn.go HVva.out hq14
  have HVvb : Hid (VIn w14 0 w14.heap.size vb q) := VIn.go HVvb.out hq14
  have HVvc : Hid (VIn w14 0 w14.heap.size vc p) := VIn.go HVvc.out hq14
  have HPp1 : Hid (PIn w14 0 w14.heap.size p ap1) := PIn.go HPp1.out hq14
  have HBp1 : Hid (Blk w14 w5.heap.size 27 #[.int .u8 p.kind, .bool p.yes, .bool p.neg, .string p.mag, .string p.raw, .slice ap1 p.items.length cp1]) := Blk.old HBp1.out hq14
  have HPq1 : Hid (PIn w14 0 w14.heap.size q aq1) := PIn.go HPq1.out hq14
  have HBq1 : Hid (Blk w14 w7.heap.size 27 #[.int .u8 q.kind, .bool q.yes, .bool q.neg, .string q.mag, .string q.raw, .slice aq1 q.items.length cq1]) := Blk.old HBq1.out hq14
  have HPt1 : Hid (PIn w14 0 w14.heap.size p at1) := PIn.go HPt1.out hq14
  have HBt1 : Hid (Blk w14 w9.heap.size 27 #[.int .u8 p.kind, .bool p.yes, .bool p.neg, .string p.mag, .string p.raw, .slice at1 p.items.length ct1]) := Blk.old HBt1.out hq14
  have HPt2 : Hid (PIn w14 0 w14.heap.size q at2) := PIn.go HPt2.out hq14
  have HBt2 : Hid (Blk w14 w11.heap.size 27 #[.int .u8 q.kind, .bool q.yes, .bool q.neg, .string q.mag, .string q.raw, .slice at2 q.items.length ct2]) := Blk.old HBt2.out hq14
  have HPt3 : Hid (PIn w14 0 w14.heap.size p at3) := PIn.go HPt3.out hq14
  have HBt3 : Hid (Blk w14 w13.heap.size 27 #[.int .u8 p.kind, .bool p.yes, .bool p.neg, .string p.mag, .string p.raw, .slice at3 p.items.length ct3]) := hB14
  clear hB14 hq14
  have hst1 := rsame_any p HFP.out p HFP.out at1 ap1 ct1 cp1 0 w14.heap.size 0 w14.heap.size w14 (Nat.le_refl _) (Nat.le_refl _) HPt1.out HPp1.out
  rw [eqP_self] at hst1
  unfold pV at hst1
  have hx1 := HBt1.out
  have hx2 := HBp1.out
  obtain ⟨x0, x1, x2, x3, x4, x5⟩ := Blk.c6 hx1
  obtain ⟨y0, y1, y2, y3, y4, y5⟩ := Blk.c6 hx2
  clear hx1 hx2
  go_wp2_with fail
  refine hst1.mono ?_
  rintro _ w15 ⟨rfl, hb15⟩
  clear hst1 x0 x1 x2 x3 x4 x5 y0 y1 y2 y3 y4 y5
  have hw15 : Below w.heap.size w w15 := hw14.trans (hb15.mono hw14.size)
  have HVva : Hid (VIn w15 0 w15.heap.size va p) := VIn.go HVva.out hb15
  have HVvb : Hid (VIn w15 0 w15.heap.size vb q) := VIn.go HVvb.out hb15
  have HVvc : Hid (VIn w15 0 w15.heap.size vc p) := VIn.go HVvc.out hb15
  have HPp1 : Hid (PIn w15 0 w15.heap.size p ap1) := PIn.go HPp1.out hb15
  have HBp1 : Hid (Blk w15 w5.heap.size 27 #[.int .u8 p.kind, .bool p.yes, .bool p.neg, .string p.mag, .string p.raw, .slice ap1 p.items.length cp1]) := Blk.old HBp1.out hb15
  have HPq1 : Hid (PIn w15 0 w15.heap.size q aq1) := PIn.go HPq1.out hb15
  have HBq1 : Hid (Blk w15 w7.heap.size 27 #[.int .u8 q.kind, .bool q.yes, .bool q.neg, .string q.mag, .string q.raw, .slice aq1 q.items.length cq1]) := Blk.old HBq1.out hb15
  have HPt1 : Hid (PIn w15 0 w15.heap.size p at1) := PIn.go HPt1.out hb15
  have HBt1 : Hid (Blk w15 w9.heap.size 27 #[.int .u8 p.kind, .bool p.yes, .bool p.neg, .string p.mag, .string p.raw, .slice at1 p.items.length ct1]) := Blk.old HBt1.out hb15
  have HPt2 : Hid (PIn w15 0 w15.heap.size q at2) := PIn.go HPt2.out hb15
  have HBt2 : Hid (Blk w15 w11.heap.size 27 #[.int .u8 q.kind, .bool q.yes, .bool q.neg, .string q.mag, .string q.raw, .slice at2 q.items.length ct2]) := Blk.old HBt2.out hb15
  have HPt3 : Hid (PIn w15 0 w15.heap.size p at3) := PIn.go HPt3.out hb15
  have HBt3 : Hid (Blk w15 w13.heap.size 27 #[.int .u8 p.kind, .bool p.yes, .bool p.neg, .string p.mag, .string p.raw, .slice at3 p.items.length ct3]) := Blk.old HBt3.out hb15
  clear hb15
  have hst2 := rsame_any q HFQ.out q HFQ.out at2 aq1 ct2 cq1 0 w15.heap.size 0 w15.heap.size w15 (Nat.le_refl _) (Nat.le_refl _) HPt2.out HPq1.out
  rw [eqP_self] at hst2
  unfold pV at hst2
  have hx1 := HBt2.out
  have hx2 := HBq1.out
  obtain ⟨x0, x1, x2, x3, x4, x5⟩ := Blk.c6 hx1
  obtain ⟨y0, y1, y2, y3, y4, y5⟩ := Blk.c6 hx2
  clear hx1 hx2
  go_wp2_with fail
  refine hst2.mono ?_
  rintro _ w16 ⟨rfl, hb16⟩
  clear hst2 x0 x1 x2 x3 x4 x5 y0 y1 y2 y3 y4 y5
  have hw16 : Below w.heap.size w w16 := hw15.trans (hb16.mono hw15.size)
  have HVva : Hid (VIn w16 0 w16.heap.size va p) := VIn.go HVva.out hb16
  have HVvb : Hid (VIn w16 0 w16.heap.size vb q) := VIn.go HVvb.out hb16
  have HVvc : Hid (VIn w16 0 w16.heap.size vc p) := VIn.go HVvc.out hb16
  have HPp1 : Hid (PIn w16 0 w16.heap.size p ap1) := PIn.go HPp1.out hb16
  have HBp1 : Hid (Blk w16 w5.heap.size 27 #[.int .u8 p.kind, .bool p.yes, .bool p.neg, .string p.mag, .string p.raw, .slice ap1 p.items.length cp1]) := Blk.old HBp1.out hb16
  have HPq1 : Hid (PIn w16 0 w16.heap.size q aq1) := PIn.go HPq1.out hb16
  have HBq1 : Hid (Blk w16 w7.heap.size 27 #[.int .u8 q.kind, .bool q.yes, .bool q.neg, .string q.mag, .string q.raw, .slice aq1 q.items.length cq1]) := Blk.old HBq1.out hb16
  have HPt1 : Hid (PIn w16 0 w16.heap.size p at1) := PIn.go HPt1.out hb16
  have HBt1 : Hid (Blk w16 w9.heap.size 27 #[.int .u8 p.kind, .bool p.yes, .bool p.neg, .string p.mag, .string p.raw, .slice at1 p.items.length ct1]) := Blk.old HBt1.out hb16
  have HPt2 : Hid (PIn w16 0 w16.heap.size q at2) := PIn.go HPt2.out hb16
  have HBt2 : Hid (Blk w16 w11.heap.size 27 #[.int .u8 q.kind, .bool q.yes, .bool q.neg, .string q.mag, .string q.raw, .slice at2 q.items.length ct2]) := Blk.old HBt2.out hb16
  have HPt3 : Hid (PIn w16 0 w16.heap.size p at3) := PIn.go HPt3.out hb16
  have HBt3 : Hid (Blk w16 w13.heap.size 27 #[.int .u8 p.kind, .bool p.yes, .bool p.neg, .string p.mag, .string p.raw, .slice at3 p.items.length ct3]) := Blk.old HBt3.out hb16
  clear hb16
  have hst3 := rsame_any p HFP.out p HFP.out at3 ap1 ct3 cp1 0 w16.heap.size 0 w16.heap.size w16 (Nat.le_refl _) (Nat.le_refl _) HPt3.out HPp1.out
  rw [eqP_self] at hst3
  unfold pV at hst3
  have hx1 := HBt3.out
  have hx2 := HBp1.out
  obtain ⟨x0, x1, x2, x3, x4, x5⟩ := Blk.c6 hx1
  obtain ⟨y0, y1, y2, y3, y4, y5⟩ := Blk.c6 hx2
  clear hx1 hx2
  go_wp2_with fail
  refine hst3.mono ?_
  rintro _ w17 ⟨rfl, hb17⟩
  clear hst3 x0 x1 x2 x3 x4 x5 y0 y1 y2 y3 y4 y5
  have hw17 : Below w.heap.size w w17 := hw16.trans (hb17.mono hw16.size)
  have HVva : Hid (VIn w17 0 w17.heap.size va p) := VIn.go HVva.out hb17
  have HVvb : Hid (VIn w17 0 w17.heap.size vb q) := VIn.go HVvb.out hb17
  have HVvc : Hid (VIn w17 0 w17.heap.size vc p) := VIn.go HVvc.out hb17
  have HPp1 : Hid (PIn w17 0 w17.heap.size p ap1) := PIn.go HPp1.out hb17
  have HBp1 : Hid (Blk w17 w5.heap.size 27 #[.int .u8 p.kind, .bool p.yes, .bool p.neg, .string p.mag, .string p.raw, .slice ap1 p.items.length cp1]) := Blk.old HBp1.out hb17
  have HPq1 : Hid (PIn w17 0 w17.heap.size q aq1) := PIn.go HPq1.out hb17
  have HBq1 : Hid (Blk w17 w7.heap.size 27 #[.int .u8 q.kind, .bool q.yes, .bool q.neg, .string q.mag, .string q.raw, .slice aq1 q.items.length cq1]) := Blk.old HBq1.out hb17
  have HPt1 : Hid (PIn w17 0 w17.heap.size p at1) := PIn.go HPt1.out hb17
  have HBt1 : Hid (Blk w17 w9.heap.size 27 #[.int .u8 p.kind, .bool p.yes, .bool p.neg, .string p.mag, .string p.raw, .slice at1 p.items.length ct1]) := Blk.old HBt1.out hb17
  have HPt2 : Hid (PIn w17 0 w17.heap.size q at2) := PIn.go HPt2.out hb17
  have HBt2 : Hid (Blk w17 w11.heap.size 27 #[.int .u8 q.kind, .bool q.yes, .bool q.neg, .string q.mag, .string q.raw, .slice at2 q.items.length ct2]) := Blk.old HBt2.out hb17
  have HPt3 : Hid (PIn w17 0 w17.heap.size p at3) := PIn.go HPt3.out hb17
  have HBt3 : Hid (Blk w17 w13.heap.size 27 #[.int .u8 p.kind, .bool p.yes, .bool p.neg, .string p.mag, .string p.raw, .slice at3 p.items.length ct3]) := Blk.old HBt3.out hb17
  clear hb17
  clear HVva HVvb HVvc HPp1 HBp1 HPq1 HBq1 HPt1 HBt1 HPt2 HBt2 HPt3 HBt3
  rcases HCA.out with eE | ⟨eE, rfl⟩
  · rcases HCB.out with eF | ⟨eF, rfl⟩
    · go_wp2_with fail
      go_ret
      exact ⟨rfl, hw17⟩
    · go_wp2_with fail
      go_ret
      exact ⟨rfl, hw17⟩
  · rcases HCB.out with eF | ⟨eF, rfl⟩
    · go_wp2_with fail
      go_ret
      exact ⟨rfl, hw17⟩
    · go_wp2_with fail
      go_ret
      exact ⟨rfl, hw17⟩
theorem lparses_open (s : ByteArray) (hs : s.size ≤ maxLen) (b : ByteArray) (hb : b.size ≤ maxLen) (w : World) : Calls Try.prog 4 #[.string s, .string b] w fun e w' => e = .returned (.bool true) ∧ Below w.heap.size w w' :=
  lparses_any s (max_lt hs) b (max_lt hb) w
end Go.Proofs.Ytffhbellpcneeaa
