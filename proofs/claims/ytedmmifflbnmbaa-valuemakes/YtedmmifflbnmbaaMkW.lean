/- What the statement's made does (contracts; nothing is claimed here). -/
import Derived.Test.YtedmmifflbnmbaaLookT
import Derived.Test.YtedmmifflbnmbaaKept
import Derived.Test.YtedmmifflbnmbaaTel2
namespace Go.Proofs.Ytedmmifflbnmbaa
open Go.RowKit Go.Vf
/-- What Make says, the program's and the document's; where the value lies. -/
theorem make_three (p : Prt) (hf : Fits p) : ∃ E : Int, ((E = 0 ∧ may p = true ∧ dep p ≤ 16) ∨ ((E != 0) = true ∧ (E == 0) = false)) ∧
    (∀ (a : Option Addr) (c : Nat) (w : World), PIn w 0 w.heap.size p a → Calls Try.prog 12 #[pV p a c] w fun e w' => ∃ v, e = .returned (.tuple #[v, .int .i64 E]) ∧ ((E = 0 ∧ VIn w' w.heap.size w'.heap.size v p) ∨ ((E != 0) = true ∧ v = .nilIface)) ∧ Below w.heap.size w w') ∧
    (∀ (a : Option Addr) (c : Nat) (w : World), PIn w 0 w.heap.size p a → Calls Try.prog 10 #[pV p a c] w fun e w' => e = .returned (.int .i64 E) ∧ Below w.heap.size w w') := by
  have h1 := fun a c w h => make_any p hf a c 0 w.heap.size w (Nat.le_refl _) h
  have h2 := fun a c w h => rmake_any p hf a c 0 w.heap.size w (Nat.le_refl _) h
  refine ⟨if deeper 16 p then 91 else if may p then 0 else 90, ?_, fun a c w h => (h1 a c w h).mono ?_, fun a c w h => h2 a c w h⟩
  · cases hd : deeper 16 p with
    | true => exact .inr ⟨rfl, rfl⟩
    | false => cases may p with
      | true =>
        rw [deeper_dep] at hd
        exact .inl ⟨rfl, rfl, by have := of_decide_eq_false hd; omega⟩
      | false => exact .inr ⟨rfl, rfl⟩
  · rintro e w' ⟨hb, h⟩
    rcases h with ⟨hd, rfl⟩ | ⟨hd, hm, rfl⟩ | ⟨hd, hm, v, rfl, hv⟩
    · exact ⟨_, by rw [hd]; rfl, .inr ⟨by rw [hd]; rfl, rfl⟩, hb⟩
    · exact ⟨_, by rw [hd, hm]; rfl, .inr ⟨by rw [hd, hm]; rfl, rfl⟩, hb⟩
    · exact ⟨v, by rw [hd, hm]; rfl, .inl ⟨by rw [hd, hm]; rfl, hv⟩, hb⟩
/-- What made answers. -/
def MadeE (p : Prt) (E : Int) (w : World) (e : Ending) (w' : World) : Prop := ∃ v, e = .returned (.tuple #[v, .bool true]) ∧ (E = 0 → VIn w' 0 w'.heap.size v p) ∧ Below w.heap.size w w'
set_option maxHeartbeats 8000000 in
set_option maxRecDepth 20000 in
theorem made9_any (p : Prt) (hf : Fits p) (hw : wt p ≤ 134217728) : ∃ E : Int, ((E = 0 ∧ may p = true ∧ dep p ≤ 16) ∨ ((E != 0) = true ∧ (E == 0) = false)) ∧
    (∀ (a : Option Addr) (c : Nat) (w : World), PIn w 0 w.heap.size p a → Calls Try.prog 10 #[pV p a c] w fun e w' => e = .returned (.int .i64 E) ∧ Below w.heap.size w w') ∧
    (∀ (a : Option Addr) (c : Nat) (w : World), PIn w 0 w.heap.size p a → Calls Try.prog 9 #[pV p a c] w (MadeE p E w)) := by
  obtain ⟨E, hE, hmk0, hrm0⟩ := make_three p hf
  refine ⟨E, hE, hrm0, fun a c w hin => ?_⟩
  have hlt := fun w1 (h : PIn w1 0 w1.heap.size p a) => lent_any p hw a c w1.heap.size w1 (Nat.le_refl _) h
  have hkp := kept_any p hw
  have hwr := write_any p hw
  have hmk := hmk0
  have hrm := fun w1 (h : PIn w1 0 w1.heap.size p a) => hrm0 a c w1 h
  unfold KeptOk at hkp
  unfold WriteOk at hwr
  unfold pV at hlt hkp hwr hmk hrm ⊢
  have HE : Hid ((E = 0 ∧ may p = true ∧ dep p ≤ 16) ∨ ((E != 0) = true ∧ (E == 0) = false)) := hE
  have HF : Hid (Fits p) := hf
  have HKP : Hid _ := hkp
  have HWR : Hid _ := hwr
  have yE : (E == E) = true := by simp
  have yE2 : (E != E) = false := by simp
  have hB0 := Blk.new w 27 #[.int .u8 p.kind, .bool p.yes, .bool p.neg, .string p.mag, .string p.raw, .slice a p.items.length c]
  have hb1 := (Below.refl w.heap.size w).alloc (Nat.le_refl _) (.cells #[.int .u8 p.kind, .bool p.yes, .bool p.neg, .string p.mag, .string p.raw, .slice a p.items.length c] 27)
  have hs1 := alloc_size w (.cells #[.int .u8 p.kind, .bool p.yes, .bool p.neg, .string p.mag, .string p.raw, .slice a p.items.length c] 27)
  have hp1 := PIn.go hin hb1
  clear hin hf hE hmk0 hrm0 hkp hwr
  go_enter Try.func9, Try.ntmps9
  go_upto_region 1 with fail
  generalize w.alloc (.cells #[.int .u8 p.kind, .bool p.yes, .bool p.neg, .string p.mag, .string p.raw, .slice a p.items.length c] 27) = w1 at *
  have HB : Hid (Blk w1 w.heap.size 27 #[.int .u8 p.kind, .bool p.yes, .bool p.neg, .string p.mag, .string p.raw, .slice a p.items.length c]) := hB0
  have HZ1 : Hid (w.heap.size < w1.heap.size) := by show _ < _; omega
  have HPW : Hid (PIn w1 0 w1.heap.size p a) := hp1
  have h23 := hlt w1 hp1
  obtain ⟨x0, x1, x2, x3, x4, x5⟩ := hB0.c6
  clear hB0 hs1 hlt hp1
  go_wp2_with fail
  refine h23.mono ?_
  rintro _ w2 ⟨a1, c1, rfl, hl2, hb2⟩
  clear h23 x0 x1 x2 x3 x4 x5
  have hq3 := (Below.refl w2.heap.size w2).alloc (Nat.le_refl _) (.cells #[.int .u8 p.kind, .bool p.yes, .bool p.neg, .string p.mag, .string p.raw, .slice a1 p.items.length c1] 27)
  have hB3 := Blk.new w2 27 #[.int .u8 p.kind, .bool p.yes, .bool p.neg, .string p.mag, .string p.raw, .slice a1 p.items.length c1]
  go_upto_region 2 with fail
  generalize w2.alloc (.cells #[.int .u8 p.kind, .bool p.yes, .bool p.neg, .string p.mag, .string p.raw, .slice a1 p.items.length c1] 27) = w3 at *
  have hb13 : Below w1.heap.size w1 w3 := hb2.trans (hq3.mono hb2.size)
  have z12 := hb2.size
  have z23 := hq3.size
  have HL3 : Hid (LIn w3 w1.heap.size w2.heap.size p a1 c1) := hl2.old hq3 (Nat.le_refl _)
  have HX3 : Hid (Blk w3 w2.heap.size 27 #[.int .u8 p.kind, .bool p.yes, .bool p.neg, .string p.mag, .string p.raw, .slice a1 p.items.length c1]) := hB3
  have h12 := hmk a1 c1 w3 (HL3.out.win.pin.mono z23 (Nat.zero_le _))
  obtain ⟨x0, x1, x2, x3, x4, x5⟩ := hB3.c6
  clear hB3 hq3 hb2 hl2 hmk
  go_wp2_with fail
  refine h12.mono ?_
  rintro _ w4 ⟨v, rfl, hv4, hb4⟩
  clear h12 x0 x1 x2 x3 x4 x5
  have hb14 : Below w1.heap.size w1 w4 := hb13.trans (hb4.mono hb13.size)
  have z34 := hb4.size
  have HB4 : Hid (Blk w4 w.heap.size 27 #[.int .u8 p.kind, .bool p.yes, .bool p.neg, .string p.mag, .string p.raw, .slice a p.items.length c]) := Blk.old HB.out hb14
  have HX4 : Hid (Blk w4 w2.heap.size 27 #[.int .u8 p.kind, .bool p.yes, .bool p.neg, .string p.mag, .string p.raw, .slice a1 p.items.length c1]) := Blk.old HX3.out hb4
  have HL4 : Hid (LIn w4 w1.heap.size w2.heap.size p a1 c1) := HL3.out.old hb4 z23
  have HP4 : Hid (PIn w4 0 w1.heap.size p a) := HPW.out.keep hb14 (Nat.le_refl _)
  have HV4 : Hid ((E = 0 ∧ VIn w4 w3.heap.size w4.heap.size v p) ∨ ((E != 0) = true ∧ v = .nilIface)) := hv4
  have h24 := HKP.out a1 a c1 c w1.heap.size w2.heap.size w1.heap.size w4 (by omega) (by omega) HL4.out HP4.out
  have hBx := HX4.out
  obtain ⟨x0, x1, x2, x3, x4, x5⟩ := Blk.c6 hBx
  have hBy := HB4.out
  obtain ⟨y0, y1, y2, y3, y4, y5⟩ := Blk.c6 hBy
  clear hBx hBy hv4 hb13 HL3 HX3 HKP
  go_wp2_with fail
  refine h24.mono ?_
  rintro _ w5 ⟨rfl, hb5⟩
  clear h24 x0 x1 x2 x3 x4 x5 y0 y1 y2 y3 y4 y5
  have z45 := hb5.size
  have hb15 : Below w1.heap.size w1 w5 := hb14.trans (hb5.mono hb14.size)
  have HX5 : Hid (Blk w5 w2.heap.size 27 #[.int .u8 p.kind, .bool p.yes, .bool p.neg, .string p.mag, .string p.raw, .slice a1 p.items.length c1]) := Blk.old HX4.out hb5
  have HW5 : Hid (WIn w5 w1.heap.size w2.heap.size p a1 c1) := (HL4.out.old hb5 (by omega)).win
  have h25 := HWR.out a1 c1 w1.heap.size w2.heap.size w5 z12 (by omega) HW5.out
  have hBx := HX5.out
  obtain ⟨x0, x1, x2, x3, x4, x5⟩ := Blk.c6 hBx
  clear hBx HL4 HX4
  go_wp2_with fail
  refine h25.mono ?_
  rintro _ w6 ⟨rfl, hW6⟩
  clear h25 x0 x1 x2 x3 x4 x5 HX5 HW5
  have z56 := hW6.below.size
  have hb16 : Below w1.heap.size w1 w6 := hb15.trans hW6.below
  have HB6 : Hid (Blk w6 w.heap.size 27 #[.int .u8 p.kind, .bool p.yes, .bool p.neg, .string p.mag, .string p.raw, .slice a p.items.length c]) := Blk.old HB.out hb16
  have HP6 : Hid (PIn w6 0 w6.heap.size p a) := PIn.go HPW.out hb16
  have HV6 : Hid ((E = 0 ∧ VIn w6 0 w6.heap.size v p) ∨ ((E != 0) = true ∧ v = .nilIface)) := by
    rcases HV4.out with ⟨e, h⟩ | h
    · exact .inl ⟨e, ((h.old hb5 (Nat.le_refl _)).keep fun b q1 q2 => hW6.above b (by omega) (by omega)).mono (by omega) (Nat.zero_le _)⟩
    · exact .inr h
  have hw6 : Below w.heap.size w w6 := hb1.trans (hb16.mono hb1.size)
  have h10 := hrm w6 HP6.out
  have hBx := HB6.out
  obtain ⟨x0, x1, x2, x3, x4, x5⟩ := Blk.c6 hBx
  clear hBx hW6 hb14 hb15 hb16 HV4 HB4 HP4 hrm HPW HB
  go_wp2_with fail
  refine h10.mono ?_
  rintro _ w7 ⟨rfl, hb7⟩
  clear h10 x0 x1 x2 x3 x4 x5
  have hw7 := hw6.trans (hb7.mono hw6.size)
  have HB7 : Hid (Blk w7 w.heap.size 27 #[.int .u8 p.kind, .bool p.yes, .bool p.neg, .string p.mag, .string p.raw, .slice a p.items.length c]) := Blk.old HB6.out hb7
  have HP7 : Hid (PIn w7 0 w7.heap.size p a) := PIn.go HP6.out hb7
  rcases HV6.out with ⟨hE0, hv6⟩ | ⟨hE1, hvn⟩
  · rcases HE.out with ⟨_, hmay, hdep⟩ | ⟨hne, _⟩
    · have HV7 : Hid (VIn w7 0 w7.heap.size v p) := VIn.go hv6 hb7
      have hlk := fun w' (h1 : VIn w' 0 w'.heap.size v p) (h2 : PIn w' 0 w'.heap.size p a) => looks_any p hmay HF.out (by omega) v a c w' h1 h2
      have htl := fun w' (h1 : VIn w' 0 w'.heap.size v p) => tell_two p hmay v 0 w'.heap.size w' (Nat.le_refl _) h1
      unfold pV at hlk htl
      subst hE0
      have h11 := hlk w7 HV7.out HP7.out
      have hBx := HB7.out
      obtain ⟨x0, x1, x2, x3, x4, x5⟩ := Blk.c6 hBx
      clear hBx hv6 HV6 HE hmay hdep HB6 HP6
      go_wp2_with fail
      refine h11.mono ?_
      rintro _ w8 ⟨rfl, hb8⟩
      clear h11 x0 x1 x2 x3 x4 x5
      have hw8 := hw7.trans (hb8.mono hw7.size)
      have HV8 : Hid (VIn w8 0 w8.heap.size v p) := VIn.go HV7.out hb8
      have HP8 : Hid (PIn w8 0 w8.heap.size p a) := PIn.go HP7.out hb8
      have HB8 : Hid (Blk w8 w.heap.size 27 #[.int .u8 p.kind, .bool p.yes, .bool p.neg, .string p.mag, .string p.raw, .slice a p.items.length c]) := Blk.old HB7.out hb8
      have h18 := htl w8 HV8.out
      go_wp2_with fail
      refine h18.mono ?_
      rintro _ w9 ⟨a9, c9, rfl, hwi, hb9⟩
      clear h18
      have hq10 := (Below.refl w9.heap.size w9).alloc (Nat.le_refl _) (.cells #[.int .u8 p.kind, .bool p.yes, .bool p.neg, .string p.mag, .string p.raw, .slice a9 p.items.length c9] 27)
      have hB10 := Blk.new w9 27 #[.int .u8 p.kind, .bool p.yes, .bool p.neg, .string p.mag, .string p.raw, .slice a9 p.items.length c9]
      go_upto_region 14 with fail
      generalize w9.alloc (.cells #[.int .u8 p.kind, .bool p.yes, .bool p.neg, .string p.mag, .string p.raw, .slice a9 p.items.length c9] 27) = w10 at *
      have hb810 : Below w8.heap.size w8 w10 := hb9.trans (hq10.mono hb9.size)
      have z89 := hb9.size
      have z910 := hq10.size
      have hwi10 : WIn w10 w8.heap.size w9.heap.size p a9 c9 := hwi.keep fun b _ q => hq10.block b q
      have h25 := HWR.out a9 c9 w8.heap.size w9.heap.size w10 z89 z910 hwi10
      obtain ⟨x0, x1, x2, x3, x4, x5⟩ := hB10.c6
      clear hB10 hq10 hwi hwi10 HWR
      go_wp2_with fail
      refine h25.mono ?_
      rintro _ w11 ⟨rfl, hW11⟩
      clear h25 x0 x1 x2 x3 x4 x5
      have hb811 : Below w8.heap.size w8 w11 := hb810.trans hW11.below
      have hw11 := hw8.trans (hb811.mono hw8.size)
      have HV11 : Hid (VIn w11 0 w11.heap.size v p) := VIn.go HV8.out hb811
      have HP11 : Hid (PIn w11 0 w11.heap.size p a) := PIn.go HP8.out hb811
      have HB11 : Hid (Blk w11 w.heap.size 27 #[.int .u8 p.kind, .bool p.yes, .bool p.neg, .string p.mag, .string p.raw, .slice a p.items.length c]) := Blk.old HB8.out hb811
      have h11 := hlk w11 HV11.out HP11.out
      have hBx := HB11.out
      obtain ⟨x0, x1, x2, x3, x4, x5⟩ := Blk.c6 hBx
      clear hBx hlk htl hW11 hb810 hb811
      go_wp2_with fail
      refine h11.mono ?_
      rintro _ w12 ⟨rfl, hb12⟩
      go_wp2_with fail
      go_ret2
      exact ⟨v, rfl, fun _ => VIn.go HV11.out hb12, hw11.trans (hb12.mono hw11.size)⟩
    · rw [hE0] at hne; simp at hne
  · rcases HE.out with ⟨h0, _⟩ | ⟨hne, hne2⟩
    · rw [h0] at hE1; simp at hE1
    · subst hvn
      go_wp2_with fail
      go_ret2
      exact ⟨_, rfl, fun e => by rw [e] at hE1; simp at hE1, hw7⟩
end Go.Proofs.Ytedmmifflbnmbaa
