/- ValueSame's walk (contracts; nothing is claimed here). -/
import Derived.Test.YtedmmifflbnmbaaCop
import Derived.Test.YtedmmifflbnmbaaAwk
import Derived.Test.YtedmmifflbnmbaaVSame
namespace Go.Proofs.Ytedmmifflbnmbaa
open Go.RowKit Go.Vf
theorem VIn.go {w w' : World} {lo : Nat} {v : Value} {p : Prt} (h : VIn w lo w.heap.size v p) (hb : Below w.heap.size w w') : VIn w' 0 w'.heap.size v p := (h.old hb (Nat.le_refl _)).mono hb.size (Nat.zero_le _)
theorem PIn.go {w w' : World} {lo : Nat} {p : Prt} {a : Option Addr} (h : PIn w lo w.heap.size p a) (hb : Below w.heap.size w w') : PIn w' 0 w'.heap.size p a := (h.keep hb (Nat.le_refl _)).mono hb.size (Nat.zero_le _)
def nullP : Prt := .mk 0 false false ⟨#[]⟩ ⟨#[]⟩ []
theorem nullFits : Fits nullP := .mk (by decide) (by decide) (by decide) (by decide) (by intro x hx; cases hx)
theorem null_same {p : Prt} (h : may p = true) : eqP nullP p = (p.kind == 0) := by
  cases may_shape h with
  | null => exact eqP_self _
  | truth y => exact eqP_ne (by simp [nullP])
  | num b m => exact eqP_ne (by simp [nullP])
  | raw k r hk =>
    have h0 : k ≠ 0 := by rintro rfl; simp [isRawK] at hk
    rw [eqP_ne (by simp [nullP]; intro e; exact absurd e.symm h0)]
    simp [Prt.kind, h0]
  | tup l _ _ => exact eqP_ne (by simp [nullP])
theorem eqP_comm (p q : Prt) : eqP p q = eqP q p := by
  rw [Bool.eq_iff_iff, eqP_iff, eqP_iff]; exact eq_comm
/-- What Make says, the program's and the document's. -/
theorem make_both (p : Prt) (hf : Fits p) : ∃ E : Int, ((E = 0 ∧ may p = true) ∨ (E != 0) = true) ∧
    (∀ (a : Option Addr) (c : Nat) (w : World), PIn w 0 w.heap.size p a → Calls Try.prog 12 #[pV p a c] w fun e w' => ∃ v, e = .returned (.tuple #[v, .int .i64 E]) ∧ (E = 0 → VIn w' 0 w'.heap.size v p) ∧ Below w.heap.size w w') ∧
    (∀ (a : Option Addr) (c : Nat) (w : World), PIn w 0 w.heap.size p a → Calls Try.prog 10 #[pV p a c] w fun e w' => e = .returned (.int .i64 E) ∧ Below w.heap.size w w') := by
  have h1 := fun a c w h => make_any p hf a c 0 w.heap.size w (Nat.le_refl _) h
  have h2 := fun a c w h => rmake_any p hf a c 0 w.heap.size w (Nat.le_refl _) h
  refine ⟨if deeper 16 p then 91 else if may p then 0 else 90, ?_, fun a c w h => (h1 a c w h).mono ?_, fun a c w h => h2 a c w h⟩
  · cases deeper 16 p with
    | true => exact .inr rfl
    | false => cases may p with
      | true => exact .inl ⟨rfl, rfl⟩
      | false => exact .inr rfl
  · rintro e w' ⟨hb, h⟩
    rcases h with ⟨hd, rfl⟩ | ⟨hd, hm, rfl⟩ | ⟨hd, hm, v, rfl, hv⟩
    · exact ⟨_, by rw [hd]; rfl, fun e => by rw [hd] at e; simp at e, hb⟩
    · exact ⟨_, by rw [hd, hm]; rfl, fun e => by rw [hd, hm] at e; simp at e, hb⟩
    · exact ⟨v, by rw [hd, hm]; rfl, fun _ => hv.mono (Nat.le_refl _) (Nat.zero_le _), hb⟩
theorem wpAnyH_takeD {P : Program} {md : Region.Mode} {ops : Array Oper} {Q : Exit → Act → World → Prop} {S : World → Prop} {i : Nat} {oi : Oper} {v : Value} {fuel : Nat} {listed : Array Bool} {a : Act} {w : World} (d : Option Nat) (hi : ops[i]? = some oi) (hd : oi.dst = d)
    (hs : Region.noSelect ops = true) (hf : Region.free md ops listed i = true) (hr : (Region.ready md ops listed).contains i = true)
    (hQ : ∀ c a w, Q (.panic c) (a.put oi.dst v) w → Q (.panic c) a w) (hy : YieldsIf P ops S oi v a) (hS : S w)
    (h : wpAnyH P md ops Q S fuel (listed.setIfInBounds i true) (a.put d v) w) : wpAnyH P md ops Q S (fuel + 1) listed a w := by
  subst hd
  exact wpAnyH_take hi hs hf hr hQ hy hS h
set_option maxHeartbeats 8000000 in
set_option maxRecDepth 20000 in
theorem vsame_any (p q : Prt) (hf : Fits p) (hf2 : Fits q) (a a2 : Option Addr) (c c2 lo n₀ lo2 n2 : Nat) (w : World) (hn₀ : n₀ ≤ w.heap.size) (hn2 : n2 ≤ w.heap.size) (hin : PIn w lo n₀ p a) (hin2 : PIn w lo2 n2 q a2) :
    Calls Try.prog 5 #[pV p a c, pV q a2 c2] w fun e w' => e = .returned (.bool true) ∧ Below w.heap.size w w' := by
  have hp0 : PIn w 0 w.heap.size p a := hin.mono hn₀ (Nat.zero_le _)
  have hq0 : PIn w 0 w.heap.size q a2 := hin2.mono hn2 (Nat.zero_le _)
  have hB0 := Blk.new w 27 #[.int .u8 p.kind, .bool p.yes, .bool p.neg, .string p.mag, .string p.raw, .slice a p.items.length c]
  have hb1 := (Below.refl w.heap.size w).alloc (Nat.le_refl _) (.cells #[.int .u8 p.kind, .bool p.yes, .bool p.neg, .string p.mag, .string p.raw, .slice a p.items.length c] 27)
  have hs1 := alloc_size w (.cells #[.int .u8 p.kind, .bool p.yes, .bool p.neg, .string p.mag, .string p.raw, .slice a p.items.length c] 27)
  have hb2 := hb1.alloc hb1.size (.cells #[.int .u8 q.kind, .bool q.yes, .bool q.neg, .string q.mag, .string q.raw, .slice a2 q.items.length c2] 27)
  have hB1 := Blk.new (w.alloc (.cells #[.int .u8 p.kind, .bool p.yes, .bool p.neg, .string p.mag, .string p.raw, .slice a p.items.length c] 27)) 27 #[.int .u8 q.kind, .bool q.yes, .bool q.neg, .string q.mag, .string q.raw, .slice a2 q.items.length c2]
  have hB0b := hB0.old ((Below.refl _ (w.alloc (.cells #[.int .u8 p.kind, .bool p.yes, .bool p.neg, .string p.mag, .string p.raw, .slice a p.items.length c] 27))).alloc (Nat.le_refl _) (.cells #[.int .u8 q.kind, .bool q.yes, .bool q.neg, .string q.mag, .string q.raw, .slice a2 q.items.length c2] 27))
  rw [hs1] at hB1
  have hle := hvy_le p hf 0 0 (by decide)
  have hle2 := hvy_le q hf2 0 0 (by decide)
  have hwp := fun w' (h : PIn w' 0 w'.heap.size p a) => weight_any p hf a c 0 0 w'.heap.size w' (Nat.le_refl _) h (by decide)
  have hwq := fun w' (h : PIn w' 0 w'.heap.size q a2) => weight_any q hf2 a2 c2 0 0 w'.heap.size w' (Nat.le_refl _) h (by decide)
  obtain ⟨E, hE, hmk, hrm⟩ := make_both p hf
  obtain ⟨F, hF, hmk2, hrm2⟩ := make_both q hf2
  have hrs := fun w' (h1 : PIn w' 0 w'.heap.size p a) (h2 : PIn w' 0 w'.heap.size q a2) => rsame_any p hf q hf2 a a2 c c2 0 w'.heap.size 0 w'.heap.size w' (Nat.le_refl _) (Nat.le_refl _) h1 h2
  unfold pV at hwp hwq hmk hmk2 hrm hrm2 hrs ⊢
  have HF : Hid (Fits p) := hf
  have HF2 : Hid (Fits q) := hf2
  have HE : Hid ((E = 0 ∧ may p = true) ∨ (E != 0) = true) := hE
  have HFF : Hid ((F = 0 ∧ may q = true) ∨ (F != 0) = true) := hF
  have yE : (E == E) = true := by simp
  have yF : (F == F) = true := by simp
  have yE2 : (E != E) = false := by simp
  have yF2 : (F != F) = false := by simp
  clear hin hin2 hf hf2 hE hF
  go_enter Try.func5, Try.ntmps5
  go_upto_region 1 with fail
  generalize (w.alloc (.cells #[.int .u8 p.kind, .bool p.yes, .bool p.neg, .string p.mag, .string p.raw, .slice a p.items.length c] 27)).alloc (.cells #[.int .u8 q.kind, .bool q.yes, .bool q.neg, .string q.mag, .string q.raw, .slice a2 q.items.length c2] 27) = w1 at *
  have HBP : Hid (Blk w1 w.heap.size 27 #[.int .u8 p.kind, .bool p.yes, .bool p.neg, .string p.mag, .string p.raw, .slice a p.items.length c]) := hB0b
  have HBQ : Hid (Blk w1 (w.heap.size + 1) 27 #[.int .u8 q.kind, .bool q.yes, .bool q.neg, .string q.mag, .string q.raw, .slice a2 q.items.length c2]) := hB1
  have hw1 := hb2
  have HPP : Hid (PIn w1 0 w1.heap.size p a) := PIn.go hp0 hw1
  have HPQ : Hid (PIn w1 0 w1.heap.size q a2) := PIn.go hq0 hw1
  clear hB0 hB0b hB1 hb1 hb2 hs1 hp0 hq0
  have haw := awake_any w1
  go_wp2_with fail
  refine (haw).mono ?_
  rintro _ w2 ⟨rfl, hb2⟩
  have hw2 : Below w.heap.size w w2 := hw1.trans (hb2.mono hw1.size)
  have HBP : Hid (Blk w2 w.heap.size 27 #[.int .u8 p.kind, .bool p.yes, .bool p.neg, .string p.mag, .string p.raw, .slice a p.items.length c]) := Blk.old HBP.out hb2
  have HBQ : Hid (Blk w2 (w.heap.size + 1) 27 #[.int .u8 q.kind, .bool q.yes, .bool q.neg, .string q.mag, .string q.raw, .slice a2 q.items.length c2]) := Blk.old HBQ.out hb2
  have HPP : Hid (PIn w2 0 w2.heap.size p a) := PIn.go HPP.out hb2
  have HPQ : Hid (PIn w2 0 w2.heap.size q a2) := PIn.go HPQ.out hb2
  clear haw hb2
  have hx0 := HBP.out
  obtain ⟨x00, x01, x02, x03, x04, x05⟩ := Blk.c6 hx0
  clear hx0
  go_wp2_with fail
  refine (hwp w2 HPP.out).mono ?_
  rintro _ w3 ⟨rfl, hb3⟩
  clear x00 x01 x02 x03 x04 x05
  have hw3 : Below w.heap.size w w3 := hw2.trans (hb3.mono hw2.size)
  have HBP : Hid (Blk w3 w.heap.size 27 #[.int .u8 p.kind, .bool p.yes, .bool p.neg, .string p.mag, .string p.raw, .slice a p.items.length c]) := Blk.old HBP.out hb3
  have HBQ : Hid (Blk w3 (w.heap.size + 1) 27 #[.int .u8 q.kind, .bool q.yes, .bool q.neg, .string q.mag, .string q.raw, .slice a2 q.items.length c2]) := Blk.old HBQ.out hb3
  have HPP : Hid (PIn w3 0 w3.heap.size p a) := PIn.go HPP.out hb3
  have HPQ : Hid (PIn w3 0 w3.heap.size q a2) := PIn.go HPQ.out hb3
  clear hwp hb3
  by_cases hbig : 134217728 < hvy p 0 0
  · have t : decide ((134217728 : Int) < ((hvy p 0 0 : Nat) : Int)) = true := decide_eq_true (by omega)
    generalize hvy p 0 0 = H at *
    clear hmk hmk2 hrm hrm2 hwq hrs
    go_wp2_with fail
    go_ret
    exact ⟨rfl, hw3⟩
  have t : decide ((134217728 : Int) < ((hvy p 0 0 : Nat) : Int)) = false := decide_eq_false (by omega)
  clear hbig
  generalize hvy p 0 0 = H at *
  have hx0 := HBQ.out
  obtain ⟨x00, x01, x02, x03, x04, x05⟩ := Blk.c6 hx0
  clear hx0
  go_wp2_with fail
  refine (hwq w3 HPQ.out).mono ?_
  rintro _ w4 ⟨rfl, hb4⟩
  clear x00 x01 x02 x03 x04 x05
  have hw4 : Below w.heap.size w w4 := hw3.trans (hb4.mono hw3.size)
  have HBP : Hid (Blk w4 w.heap.size 27 #[.int .u8 p.kind, .bool p.yes, .bool p.neg, .string p.mag, .string p.raw, .slice a p.items.length c]) := Blk.old HBP.out hb4
  have HBQ : Hid (Blk w4 (w.heap.size + 1) 27 #[.int .u8 q.kind, .bool q.yes, .bool q.neg, .string q.mag, .string q.raw, .slice a2 q.items.length c2]) := Blk.old HBQ.out hb4
  have HPP : Hid (PIn w4 0 w4.heap.size p a) := PIn.go HPP.out hb4
  have HPQ : Hid (PIn w4 0 w4.heap.size q a2) := PIn.go HPQ.out hb4
  clear hwq hb4
  by_cases hbig2 : 134217728 < hvy q 0 0
  · have t2 : decide ((134217728 : Int) < ((hvy q 0 0 : Nat) : Int)) = true := decide_eq_true (by omega)
    generalize hvy q 0 0 = H2 at *
    clear hmk hmk2 hrm hrm2 hrs
    go_wp2_with fail
    go_ret
    exact ⟨rfl, hw4⟩
  have t2 : decide ((134217728 : Int) < ((hvy q 0 0 : Nat) : Int)) = false := decide_eq_false (by omega)
  clear hbig2
  generalize hvy q 0 0 = H2 at *
  have hx0 := HBP.out
  obtain ⟨x00, x01, x02, x03, x04, x05⟩ := Blk.c6 hx0
  clear hx0
  go_wp2_with fail
  refine (hmk a c w4 HPP.out).mono ?_
  rintro _ w5 ⟨v, rfl, hv1, hb5⟩
  clear x00 x01 x02 x03 x04 x05
  have hw5 : Below w.heap.size w w5 := hw4.trans (hb5.mono hw4.size)
  have HBP : Hid (Blk w5 w.heap.size 27 #[.int .u8 p.kind, .bool p.yes, .bool p.neg, .string p.mag, .string p.raw, .slice a p.items.length c]) := Blk.old HBP.out hb5
  have HBQ : Hid (Blk w5 (w.heap.size + 1) 27 #[.int .u8 q.kind, .bool q.yes, .bool q.neg, .string q.mag, .string q.raw, .slice a2 q.items.length c2]) := Blk.old HBQ.out hb5
  have HPP : Hid (PIn w5 0 w5.heap.size p a) := PIn.go HPP.out hb5
  have HPQ : Hid (PIn w5 0 w5.heap.size q a2) := PIn.go HPQ.out hb5
  have HV1 : Hid (E = 0 → VIn w5 0 w5.heap.size v p) := hv1
  clear hv1 hb5
  have hx0 := HBQ.out
  obtain ⟨x00, x01, x02, x03, x04, x05⟩ := Blk.c6 hx0
  clear hx0
  go_wp2_with fail
  refine (hmk2 a2 c2 w5 HPQ.out).mono ?_
  rintro _ w6 ⟨v2, rfl, hv2, hb6⟩
  clear x00 x01 x02 x03 x04 x05
  have hw6 : Below w.heap.size w w6 := hw5.trans (hb6.mono hw5.size)
  have HBP : Hid (Blk w6 w.heap.size 27 #[.int .u8 p.kind, .bool p.yes, .bool p.neg, .string p.mag, .string p.raw, .slice a p.items.length c]) := Blk.old HBP.out hb6
  have HBQ : Hid (Blk w6 (w.heap.size + 1) 27 #[.int .u8 q.kind, .bool q.yes, .bool q.neg, .string q.mag, .string q.raw, .slice a2 q.items.length c2]) := Blk.old HBQ.out hb6
  have HPP : Hid (PIn w6 0 w6.heap.size p a) := PIn.go HPP.out hb6
  have HPQ : Hid (PIn w6 0 w6.heap.size q a2) := PIn.go HPQ.out hb6
  have HV1 : Hid (E = 0 → VIn w6 0 w6.heap.size v p) := fun e => VIn.go (HV1.out e) hb6
  have HV2 : Hid (F = 0 → VIn w6 0 w6.heap.size v2 q) := hv2
  clear hv2 hb6 hmk2
  have hx0 := HBP.out
  obtain ⟨x00, x01, x02, x03, x04, x05⟩ := Blk.c6 hx0
  clear hx0
  go_wp2_with fail
  refine (hrm a c w6 HPP.out).mono ?_
  rintro _ w7 ⟨rfl, hb7⟩
  clear x00 x01 x02 x03 x04 x05
  have hw7 : Below w.heap.size w w7 := hw6.trans (hb7.mono hw6.size)
  have HBP : Hid (Blk w7 w.heap.size 27 #[.int .u8 p.kind, .bool p.yes, .bool p.neg, .string p.mag, .string p.raw, .slice a p.items.length c]) := Blk.old HBP.out hb7
  have HBQ : Hid (Blk w7 (w.heap.size + 1) 27 #[.int .u8 q.kind, .bool q.yes, .bool q.neg, .string q.mag, .string q.raw, .slice a2 q.items.length c2]) := Blk.old HBQ.out hb7
  have HPP : Hid (PIn w7 0 w7.heap.size p a) := PIn.go HPP.out hb7
  have HPQ : Hid (PIn w7 0 w7.heap.size q a2) := PIn.go HPQ.out hb7
  have HV1 : Hid (E = 0 → VIn w7 0 w7.heap.size v p) := fun e => VIn.go (HV1.out e) hb7
  have HV2 : Hid (F = 0 → VIn w7 0 w7.heap.size v2 q) := fun e => VIn.go (HV2.out e) hb7
  clear hb7 hrm
  have hx0 := HBQ.out
  obtain ⟨x00, x01, x02, x03, x04, x05⟩ := Blk.c6 hx0
  clear hx0
  go_wp2_with fail
  refine (hrm2 a2 c2 w7 HPQ.out).mono ?_
  rintro _ w8 ⟨rfl, hb8⟩
  clear x00 x01 x02 x03 x04 x05
  have hw8 : Below w.heap.size w w8 := hw7.trans (hb8.mono hw7.size)
  have HBP : Hid (Blk w8 w.heap.size 27 #[.int .u8 p.kind, .bool p.yes, .bool p.neg, .string p.mag, .string p.raw, .slice a p.items.length c]) := Blk.old HBP.out hb8
  have HBQ : Hid (Blk w8 (w.heap.size + 1) 27 #[.int .u8 q.kind, .bool q.yes, .bool q.neg, .string q.mag, .string q.raw, .slice a2 q.items.length c2]) := Blk.old HBQ.out hb8
  have HPP : Hid (PIn w8 0 w8.heap.size p a) := PIn.go HPP.out hb8
  have HPQ : Hid (PIn w8 0 w8.heap.size q a2) := PIn.go HPQ.out hb8
  have HV1 : Hid (E = 0 → VIn w8 0 w8.heap.size v p) := fun e => VIn.go (HV1.out e) hb8
  have HV2 : Hid (F = 0 → VIn w8 0 w8.heap.size v2 q) := fun e => VIn.go (HV2.out e) hb8
  clear hb8 hrm2
  rcases HE.out.symm with hE1 | ⟨hE0, hmp⟩
  · have hE2 : (E == 0) = false := by simpa [bne] using hE1
    clear hmk hrs
    go_wp2_with fail
    go_ret
    exact ⟨rfl, hw8⟩
  rcases HFF.out.symm with hF1 | ⟨hF0, hmq⟩
  · have hF2 : (F == 0) = false := by simpa [bne] using hF1
    subst hE0
    clear hmk hrs
    go_wp2_with fail
    go_ret
    exact ⟨rfl, hw8⟩
  subst hE0 hF0
  have HVA : Hid (VIn w8 0 w8.heap.size v p) := HV1.out rfl
  have HVB : Hid (VIn w8 0 w8.heap.size v2 q) := HV2.out rfl
  have hcp := fun w' (h : PIn w' 0 w'.heap.size p a) => copied_any p hmp a c 0 w'.heap.size w' (Nat.le_refl _) h
  have hnull := null_same hmp
  have hcomm := eqP_comm q p
  unfold pV at hcp
  obtain ⟨B, hB⟩ : ∃ B, eqP p q = B := ⟨_, rfl⟩
  have HBB : Hid (eqP p q = B) := hB
  simp only [hB] at hrs
  clear HV1 HV2 HE HFF yE yF yE2 yF2 hmq hB
  have hx0 := HBP.out
  obtain ⟨x00, x01, x02, x03, x04, x05⟩ := Blk.c6 hx0
  clear hx0
  have hx1 := HBQ.out
  obtain ⟨x10, x11, x12, x13, x14, x15⟩ := Blk.c6 hx1
  clear hx1
  go_wp2_with fail
  refine (hrs w8 HPP.out HPQ.out).mono ?_
  rintro _ w9 ⟨rfl, hb9⟩
  clear x00 x01 x02 x03 x04 x05
  clear x10 x11 x12 x13 x14 x15
  have hw9 : Below w.heap.size w w9 := hw8.trans (hb9.mono hw8.size)
  have HBP : Hid (Blk w9 w.heap.size 27 #[.int .u8 p.kind, .bool p.yes, .bool p.neg, .string p.mag, .string p.raw, .slice a p.items.length c]) := Blk.old HBP.out hb9
  have HBQ : Hid (Blk w9 (w.heap.size + 1) 27 #[.int .u8 q.kind, .bool q.yes, .bool q.neg, .string q.mag, .string q.raw, .slice a2 q.items.length c2]) := Blk.old HBQ.out hb9
  have HPP : Hid (PIn w9 0 w9.heap.size p a) := PIn.go HPP.out hb9
  have HPQ : Hid (PIn w9 0 w9.heap.size q a2) := PIn.go HPQ.out hb9
  have HVA : Hid (VIn w9 0 w9.heap.size v p) := VIn.go HVA.out hb9
  have HVB : Hid (VIn w9 0 w9.heap.size v2 q) := VIn.go HVB.out hb9
  clear hrs hb9
  have hx0 := HBP.out
  obtain ⟨x00, x01, x02, x03, x04, x05⟩ := Blk.c6 hx0
  clear hx0
  go_wp2_with fail
  refine (hcp w9 HPP.out).mono ?_
  rintro _ w10 ⟨a3, c3, rfl, hp3, hb10⟩
  clear x00 x01 x02 x03 x04 x05
  have hw10 : Below w.heap.size w w10 := hw9.trans (hb10.mono hw9.size)
  have HBP : Hid (Blk w10 w.heap.size 27 #[.int .u8 p.kind, .bool p.yes, .bool p.neg, .string p.mag, .string p.raw, .slice a p.items.length c]) := Blk.old HBP.out hb10
  have HBQ : Hid (Blk w10 (w.heap.size + 1) 27 #[.int .u8 q.kind, .bool q.yes, .bool q.neg, .string q.mag, .string q.raw, .slice a2 q.items.length c2]) := Blk.old HBQ.out hb10
  have HPP : Hid (PIn w10 0 w10.heap.size p a) := PIn.go HPP.out hb10
  have HPQ : Hid (PIn w10 0 w10.heap.size q a2) := PIn.go HPQ.out hb10
  have HVA : Hid (VIn w10 0 w10.heap.size v p) := VIn.go HVA.out hb10
  have HVB : Hid (VIn w10 0 w10.heap.size v2 q) := VIn.go HVB.out hb10
  have HP3 : Hid (PIn w10 0 w10.heap.size p a3) := hp3.mono (Nat.le_refl _) (Nat.zero_le _)
  clear hcp hp3 hb10
  go_wp2_with fail
  refine (hmk a3 c3 w10 HP3.out).mono ?_
  rintro _ w11 ⟨v3, rfl, hv3, hb11⟩
  have hw11 : Below w.heap.size w w11 := hw10.trans (hb11.mono hw10.size)
  have HBP : Hid (Blk w11 w.heap.size 27 #[.int .u8 p.kind, .bool p.yes, .bool p.neg, .string p.mag, .string p.raw, .slice a p.items.length c]) := Blk.old HBP.out hb11
  have HBQ : Hid (Blk w11 (w.heap.size + 1) 27 #[.int .u8 q.kind, .bool q.yes, .bool q.neg, .string q.mag, .string q.raw, .slice a2 q.items.length c2]) := Blk.old HBQ.out hb11
  have HPP : Hid (PIn w11 0 w11.heap.size p a) := PIn.go HPP.out hb11
  have HPQ : Hid (PIn w11 0 w11.heap.size q a2) := PIn.go HPQ.out hb11
  have HVA : Hid (VIn w11 0 w11.heap.size v p) := VIn.go HVA.out hb11
  have HVB : Hid (VIn w11 0 w11.heap.size v2 q) := VIn.go HVB.out hb11
  have HP3 : Hid (PIn w11 0 w11.heap.size p a3) := PIn.go HP3.out hb11
  have HVC : Hid (VIn w11 0 w11.heap.size v3 p) := hv3 trivial
  clear hmk hv3 hb11
  have HK : Hid (w11.cell? ⟨w.heap.size, 0, none⟩ = some (.int .u8 p.kind)) := Blk.cell HBP.out 0
  have HLT : Hid (w.heap.size < w11.heap.size) := Blk.lt HBP.out
  have HKeep : Hid (∀ x y, Below w11.heap.size w11 x → Below x.heap.size x y → Below w11.heap.size w11 y) := fun x y h1 h2 => h1.trans (h2.mono h1.size)
  have HRd : Hid (∀ x, Below w11.heap.size w11 x → x.cell? ⟨w.heap.size, 0, none⟩ = some (.int .u8 p.kind)) := fun x h => (h.cell (p := ⟨w.heap.size, 0, none⟩) HLT.out).trans HK.out
  have HC1 : Hid (∀ x, Below w11.heap.size w11 x → Calls Try.prog 17 #[v, v2] x fun e w' => e = .returned (.bool B) ∧ Below x.heap.size x w') := fun x h => by
    have := Same_any p q HF.out HF2.out v v2 0 w11.heap.size 0 w11.heap.size x h.size h.size (HVA.out.old h (Nat.le_refl _)) (HVB.out.old h (Nat.le_refl _))
    rwa [HBB.out] at this
  have HC2 : Hid (∀ x, Below w11.heap.size w11 x → Calls Try.prog 17 #[v2, v] x fun e w' => e = .returned (.bool B) ∧ Below x.heap.size x w') := fun x h => by
    have := Same_any q p HF2.out HF.out v2 v 0 w11.heap.size 0 w11.heap.size x h.size h.size (HVB.out.old h (Nat.le_refl _)) (HVA.out.old h (Nat.le_refl _))
    rwa [hcomm, HBB.out] at this
  have HC3 : Hid (∀ x, Below w11.heap.size w11 x → Calls Try.prog 17 #[v, v3] x fun e w' => e = .returned (.bool true) ∧ Below x.heap.size x w') := fun x h => by
    have := Same_any p p HF.out HF.out v v3 0 w11.heap.size 0 w11.heap.size x h.size h.size (HVA.out.old h (Nat.le_refl _)) (HVC.out.old h (Nat.le_refl _))
    rwa [eqP_self] at this
  have HC4 : Hid (∀ x, Below w11.heap.size w11 x → Calls Try.prog 17 #[.nilIface, v] x fun e w' => e = .returned (.bool (p.kind == 0)) ∧ Below x.heap.size x w') := fun x h => by
    have := Same_any nullP p nullFits HF.out .nilIface v 0 w11.heap.size 0 w11.heap.size x h.size h.size .null (HVA.out.old h (Nat.le_refl _))
    rwa [hnull] at this
  have HW : Hid (Below w.heap.size w w11) := hw11
  obtain ⟨KD, hKD⟩ : ∃ KD, p.kind = KD := ⟨_, rfl⟩
  rw [hKD] at HRd HC4
  obtain ⟨KB, hKB⟩ : ∃ KB, (KD == 0) = KB := ⟨_, rfl⟩
  simp only [hKB] at HC4
  clear HK HLT HBP HBQ HPP HPQ HP3 hcomm hnull HBB HVA HVB HVC HF HF2 t t2 hle hle2 hKD
  go_upto_region 14 with fail
  refine wp_region_held_drew (S := fun x => Below w11.heap.size w11 x) (by kernel_rfl) ((Below.refl _ _).drew) (fun hHeld => ?_)
  refine wpAnyH_takeD (i := 0) (some 66) (v := ?v0) rfl rfl (by kernel_rfl) (by kernel_rfl) (by kernel_rfl) (fun _ _ _ h => h) (Or.inl ⟨by kernel_rfl, ?hy0⟩) (by assumption) ?rest0
  case hy0 => (intro x hSx; have hrd := HRd.out x hSx; (try dsimp only at hSx); go_simp; first | done | with_reducible rfl)
  try simp only [Act.put, List.setIfInBounds_toArray, List.set_cons_zero, List.set_cons_succ]
  refine wpAnyH_takeD (i := 1) (some 67) (v := ?v1) rfl rfl (by kernel_rfl) (by kernel_rfl) (by kernel_rfl) (fun _ _ _ h => h) (Or.inl ⟨by kernel_rfl, ?hy1⟩) (by assumption) ?rest1
  case hy1 => (intro x hSx; have hrd := HRd.out x hSx; (try dsimp only at hSx); go_simp; first | done | with_reducible rfl)
  try simp only [Act.put, List.setIfInBounds_toArray, List.set_cons_zero, List.set_cons_succ]
  refine wpAnyH_takeD (i := 3) (some 69) (v := ?v3) rfl rfl (by kernel_rfl) (by kernel_rfl) (by kernel_rfl) (fun _ _ _ h => h) (Or.inl ⟨by kernel_rfl, ?hy3⟩) (by assumption) ?rest3
  case hy3 => (intro x hSx; have hrd := HRd.out x hSx; (try dsimp only at hSx); go_simp; first | done | with_reducible rfl)
  try simp only [Act.put, List.setIfInBounds_toArray, List.set_cons_zero, List.set_cons_succ]
  refine wpAnyH_ready (rs := [2]) (by kernel_rfl) (by simp) ?_
  refine AllReadyH.cons rfl (fun K hK => ?_) AllReadyH.nil
  go_simp
  go_wp2_with (go_at_call 17; refine (HC1.out _ hHeld).mono ?_; rintro e ya ⟨rfl, hbya⟩)
  refine hK.out _ _ (HKeep.out _ _ hHeld hbya) (fun hHelda => ?_)
  clear hK K
  try simp only [Act.put, List.setIfInBounds_toArray, List.set_cons_zero, List.set_cons_succ]
  refine wpAnyH_takeD (i := 4) (some 70) (v := .bool true) rfl rfl (by kernel_rfl) (by kernel_rfl) (by kernel_rfl) (fun _ _ _ h => h) (Or.inl ⟨by kernel_rfl, ?hy4⟩) (by assumption) ?rest4
  case hy4 => (intro x hSx; have hrd := HRd.out x hSx; (try dsimp only at hSx); go_simp; first | done | simp)
  try simp only [Act.put, List.setIfInBounds_toArray, List.set_cons_zero, List.set_cons_succ]
  refine wpAnyH_takeD (i := 5) (some 71) (v := ?v5) rfl rfl (by kernel_rfl) (by kernel_rfl) (by kernel_rfl) (fun _ _ _ h => h) (Or.inl ⟨by kernel_rfl, ?hy5⟩) (by assumption) ?rest5
  case hy5 => (intro x hSx; have hrd := HRd.out x hSx; (try dsimp only at hSx); go_simp; first | done | with_reducible rfl)
  try simp only [Act.put, List.setIfInBounds_toArray, List.set_cons_zero, List.set_cons_succ]
  refine wpAnyH_takeD (i := 6) (some 72) (v := ?v6) rfl rfl (by kernel_rfl) (by kernel_rfl) (by kernel_rfl) (fun _ _ _ h => h) (Or.inl ⟨by kernel_rfl, ?hy6⟩) (by assumption) ?rest6
  case hy6 => (intro x hSx; have hrd := HRd.out x hSx; (try dsimp only at hSx); go_simp; first | done | with_reducible rfl)
  try simp only [Act.put, List.setIfInBounds_toArray, List.set_cons_zero, List.set_cons_succ]
  refine wpAnyH_takeD (i := 7) (some 73) (v := ?v7) rfl rfl (by kernel_rfl) (by kernel_rfl) (by kernel_rfl) (fun _ _ _ h => h) (Or.inl ⟨by kernel_rfl, ?hy7⟩) (by assumption) ?rest7
  case hy7 => (intro x hSx; have hrd := HRd.out x hSx; (try dsimp only at hSx); go_simp; first | done | with_reducible rfl)
  try simp only [Act.put, List.setIfInBounds_toArray, List.set_cons_zero, List.set_cons_succ]
  refine wpAnyH_takeD (i := 9) (some 75) (v := ?v9) rfl rfl (by kernel_rfl) (by kernel_rfl) (by kernel_rfl) (fun _ _ _ h => h) (Or.inl ⟨by kernel_rfl, ?hy9⟩) (by assumption) ?rest9
  case hy9 => (intro x hSx; have hrd := HRd.out x hSx; (try dsimp only at hSx); go_simp; first | done | with_reducible rfl)
  try simp only [Act.put, List.setIfInBounds_toArray, List.set_cons_zero, List.set_cons_succ]
  refine wpAnyH_ready (rs := [8]) (by kernel_rfl) (by simp) ?_
  refine AllReadyH.cons rfl (fun K hK => ?_) AllReadyH.nil
  go_simp
  go_wp2_with (go_at_call 17; refine (HC2.out _ hHelda).mono ?_; rintro e yb ⟨rfl, hbyb⟩)
  refine hK.out _ _ (HKeep.out _ _ hHelda hbyb) (fun hHeldb => ?_)
  clear hK K
  try simp only [Act.put, List.setIfInBounds_toArray, List.set_cons_zero, List.set_cons_succ]
  refine wpAnyH_takeD (i := 10) (some 76) (v := .bool true) rfl rfl (by kernel_rfl) (by kernel_rfl) (by kernel_rfl) (fun _ _ _ h => h) (Or.inl ⟨by kernel_rfl, ?hy10⟩) (by assumption) ?rest10
  case hy10 => (intro x hSx; have hrd := HRd.out x hSx; (try dsimp only at hSx); go_simp; first | done | simp)
  try simp only [Act.put, List.setIfInBounds_toArray, List.set_cons_zero, List.set_cons_succ]
  refine wpAnyH_takeD (i := 11) (some 77) (v := ?v11) rfl rfl (by kernel_rfl) (by kernel_rfl) (by kernel_rfl) (fun _ _ _ h => h) (Or.inl ⟨by kernel_rfl, ?hy11⟩) (by assumption) ?rest11
  case hy11 => (intro x hSx; have hrd := HRd.out x hSx; (try dsimp only at hSx); go_simp; first | done | with_reducible rfl)
  try simp only [Act.put, List.setIfInBounds_toArray, List.set_cons_zero, List.set_cons_succ]
  refine wpAnyH_takeD (i := 12) (some 78) (v := ?v12) rfl rfl (by kernel_rfl) (by kernel_rfl) (by kernel_rfl) (fun _ _ _ h => h) (Or.inl ⟨by kernel_rfl, ?hy12⟩) (by assumption) ?rest12
  case hy12 => (intro x hSx; have hrd := HRd.out x hSx; (try dsimp only at hSx); go_simp; first | done | with_reducible rfl)
  try simp only [Act.put, List.setIfInBounds_toArray, List.set_cons_zero, List.set_cons_succ]
  refine wpAnyH_takeD (i := 13) (some 79) (v := ?v13) rfl rfl (by kernel_rfl) (by kernel_rfl) (by kernel_rfl) (fun _ _ _ h => h) (Or.inl ⟨by kernel_rfl, ?hy13⟩) (by assumption) ?rest13
  case hy13 => (intro x hSx; have hrd := HRd.out x hSx; (try dsimp only at hSx); go_simp; first | done | with_reducible rfl)
  try simp only [Act.put, List.setIfInBounds_toArray, List.set_cons_zero, List.set_cons_succ]
  refine wpAnyH_takeD (i := 14) (some 80) (v := ?v14) rfl rfl (by kernel_rfl) (by kernel_rfl) (by kernel_rfl) (fun _ _ _ h => h) (Or.inl ⟨by kernel_rfl, ?hy14⟩) (by assumption) ?rest14
  case hy14 => (intro x hSx; have hrd := HRd.out x hSx; (try dsimp only at hSx); go_simp; first | done | with_reducible rfl)
  try simp only [Act.put, List.setIfInBounds_toArray, List.set_cons_zero, List.set_cons_succ]
  refine wpAnyH_takeD (i := 15) (some 81) (v := ?v15) rfl rfl (by kernel_rfl) (by kernel_rfl) (by kernel_rfl) (fun _ _ _ h => h) (Or.inl ⟨by kernel_rfl, ?hy15⟩) (by assumption) ?rest15
  case hy15 => (intro x hSx; have hrd := HRd.out x hSx; (try dsimp only at hSx); go_simp; first | done | with_reducible rfl)
  try simp only [Act.put, List.setIfInBounds_toArray, List.set_cons_zero, List.set_cons_succ]
  refine wpAnyH_takeD (i := 16) (some 82) (v := ?v16) rfl rfl (by kernel_rfl) (by kernel_rfl) (by kernel_rfl) (fun _ _ _ h => h) (Or.inl ⟨by kernel_rfl, ?hy16⟩) (by assumption) ?rest16
  case hy16 => (intro x hSx; have hrd := HRd.out x hSx; (try dsimp only at hSx); go_simp; first | done | with_reducible rfl)
  try simp only [Act.put, List.setIfInBounds_toArray, List.set_cons_zero, List.set_cons_succ]
  refine wpAnyH_takeD (i := 17) (some 83) (v := ?v17) rfl rfl (by kernel_rfl) (by kernel_rfl) (by kernel_rfl) (fun _ _ _ h => h) (Or.inl ⟨by kernel_rfl, ?hy17⟩) (by assumption) ?rest17
  case hy17 => (intro x hSx; have hrd := HRd.out x hSx; (try dsimp only at hSx); go_simp; first | done | with_reducible rfl)
  try simp only [Act.put, List.setIfInBounds_toArray, List.set_cons_zero, List.set_cons_succ]
  refine wpAnyH_takeD (i := 18) (some 84) (v := ?v18) rfl rfl (by kernel_rfl) (by kernel_rfl) (by kernel_rfl) (fun _ _ _ h => h) (Or.inl ⟨by kernel_rfl, ?hy18⟩) (by assumption) ?rest18
  case hy18 => (intro x hSx; have hrd := HRd.out x hSx; (try dsimp only at hSx); go_simp; first | done | with_reducible rfl)
  try simp only [Act.put, List.setIfInBounds_toArray, List.set_cons_zero, List.set_cons_succ]
  refine wpAnyH_ready (rs := [19]) (by kernel_rfl) (by simp) ?_
  refine AllReadyH.cons rfl (fun K hK => ?_) AllReadyH.nil
  go_simp
  go_wp2_with (go_at_call 17; refine (HC3.out _ hHeldb).mono ?_; rintro e yc ⟨rfl, hbyc⟩)
  refine hK.out _ _ (HKeep.out _ _ hHeldb hbyc) (fun hHeldc => ?_)
  clear hK K
  try simp only [Act.put, List.setIfInBounds_toArray, List.set_cons_zero, List.set_cons_succ]
  refine wpAnyH_takeD (i := 20) (some 86) (v := ?v20) rfl rfl (by kernel_rfl) (by kernel_rfl) (by kernel_rfl) (fun _ _ _ h => h) (Or.inl ⟨by kernel_rfl, ?hy20⟩) (by assumption) ?rest20
  case hy20 => (intro x hSx; have hrd := HRd.out x hSx; (try dsimp only at hSx); go_simp; first | done | with_reducible rfl)
  try simp only [Act.put, List.setIfInBounds_toArray, List.set_cons_zero, List.set_cons_succ]
  refine wpAnyH_takeD (i := 21) (some 87) (v := ?v21) rfl rfl (by kernel_rfl) (by kernel_rfl) (by kernel_rfl) (fun _ _ _ h => h) (Or.inl ⟨by kernel_rfl, ?hy21⟩) (by assumption) ?rest21
  case hy21 => (intro x hSx; have hrd := HRd.out x hSx; (try dsimp only at hSx); go_simp; first | done | with_reducible rfl)
  try simp only [Act.put, List.setIfInBounds_toArray, List.set_cons_zero, List.set_cons_succ]
  refine wpAnyH_takeD (i := 22) (some 88) (v := ?v22) rfl rfl (by kernel_rfl) (by kernel_rfl) (by kernel_rfl) (fun _ _ _ h => h) (Or.inl ⟨by kernel_rfl, ?hy22⟩) (by assumption) ?rest22
  case hy22 => (intro x hSx; have hrd := HRd.out x hSx; (try dsimp only at hSx); go_simp; first | done | with_reducible rfl)
  try simp only [Act.put, List.setIfInBounds_toArray, List.set_cons_zero, List.set_cons_succ]
  refine wpAnyH_takeD (i := 24) (some 90) (v := ?v24) rfl rfl (by kernel_rfl) (by kernel_rfl) (by kernel_rfl) (fun _ _ _ h => h) (Or.inl ⟨by kernel_rfl, ?hy24⟩) (by assumption) ?rest24
  case hy24 => (intro x hSx; have hrd := HRd.out x hSx; (try dsimp only at hSx); go_simp; first | done | with_reducible rfl)
  try simp only [Act.put, List.setIfInBounds_toArray, List.set_cons_zero, List.set_cons_succ]
  refine wpAnyH_takeD (i := 25) (some 91) (v := ?v25) rfl rfl (by kernel_rfl) (by kernel_rfl) (by kernel_rfl) (fun _ _ _ h => h) (Or.inl ⟨by kernel_rfl, ?hy25⟩) (by assumption) ?rest25
  case hy25 => (intro x hSx; have hrd := HRd.out x hSx; (try dsimp only at hSx); go_simp; first | done | with_reducible rfl)
  try simp only [Act.put, List.setIfInBounds_toArray, List.set_cons_zero, List.set_cons_succ]
  refine wpAnyH_takeD (i := 26) (some 92) (v := .bool KB) rfl rfl (by kernel_rfl) (by kernel_rfl) (by kernel_rfl) (fun _ _ _ h => h) (Or.inl ⟨by kernel_rfl, ?hy26⟩) (by assumption) ?rest26
  case hy26 => (intro x hSx; have hrd := HRd.out x hSx; (try dsimp only at hSx); go_simp; first | done | (rw [hKB]) | simp [hKB])
  try simp only [Act.put, List.setIfInBounds_toArray, List.set_cons_zero, List.set_cons_succ]
  refine wpAnyH_ready (rs := [23]) (by kernel_rfl) (by simp) ?_
  refine AllReadyH.cons rfl (fun K hK => ?_) AllReadyH.nil
  go_simp
  go_wp2_with (go_at_call 17; refine (HC4.out _ hHeldc).mono ?_; rintro e yd ⟨rfl, hbyd⟩)
  refine hK.out _ _ (HKeep.out _ _ hHeldc hbyd) (fun hHeldd => ?_)
  clear hK K
  try simp only [Act.put, List.setIfInBounds_toArray, List.set_cons_zero, List.set_cons_succ]
  refine wpAnyH_takeD (i := 27) (some 93) (v := .bool true) rfl rfl (by kernel_rfl) (by kernel_rfl) (by kernel_rfl) (fun _ _ _ h => h) (Or.inl ⟨by kernel_rfl, ?hy27⟩) (by assumption) ?rest27
  case hy27 => (intro x hSx; have hrd := HRd.out x hSx; (try dsimp only at hSx); go_simp; first | done | simp)
  try simp only [Act.put, List.setIfInBounds_toArray, List.set_cons_zero, List.set_cons_succ]
  refine wpAnyH_takeD (i := 28) (some 94) (v := ?v28) rfl rfl (by kernel_rfl) (by kernel_rfl) (by kernel_rfl) (fun _ _ _ h => h) (Or.inl ⟨by kernel_rfl, ?hy28⟩) (by assumption) ?rest28
  case hy28 => (intro x hSx; have hrd := HRd.out x hSx; (try dsimp only at hSx); go_simp; first | done | with_reducible rfl)
  try simp only [Act.put, List.setIfInBounds_toArray, List.set_cons_zero, List.set_cons_succ]
  refine wpAnyH_takeD (i := 29) (some 4) (v := ?v29) rfl rfl (by kernel_rfl) (by kernel_rfl) (by kernel_rfl) (fun _ _ _ h => h) (Or.inl ⟨by kernel_rfl, ?hy29⟩) (by assumption) ?rest29
  case hy29 => (intro x hSx; have hrd := HRd.out x hSx; (try dsimp only at hSx); go_simp; first | done | with_reducible rfl)
  try simp only [Act.put, List.setIfInBounds_toArray, List.set_cons_zero, List.set_cons_succ]
  refine wpAnyH_done (by kernel_rfl) ?_ _
  go_wp2_with fail
  go_ret
  exact ⟨rfl, HW.out.trans (hHeldd.mono HW.out.size)⟩
end Go.Proofs.Ytedmmifflbnmbaa
