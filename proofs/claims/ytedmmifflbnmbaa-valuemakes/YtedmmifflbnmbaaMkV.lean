/- ValueMakes' walk (contracts; nothing is claimed here). -/
import Derived.Test.YtedmmifflbnmbaaMkW
import Derived.Test.YtedmmifflbnmbaaAwk
import Derived.Test.YtedmmifflbnmbaaPrtO
namespace Go.Proofs.Ytedmmifflbnmbaa
open Go.RowKit Go.Vf
set_option maxHeartbeats 8000000 in
set_option maxRecDepth 20000 in
theorem vmakes_any (p q : Prt) (hf : Fits p) (hf2 : Fits q) (a a2 : Option Addr) (c c2 : Nat) (w : World) (hp0 : PIn w 0 w.heap.size p a) (hq0 : PIn w 0 w.heap.size q a2) :
    Calls Try.prog 3 #[pV p a c, pV q a2 c2] w fun e w' => e = .returned (.bool true) ∧ Below w.heap.size w w' := by
  have hB0 := Blk.new w 27 #[.int .u8 p.kind, .bool p.yes, .bool p.neg, .string p.mag, .string p.raw, .slice a p.items.length c]
  have hb1 := (Below.refl w.heap.size w).alloc (Nat.le_refl _) (.cells #[.int .u8 p.kind, .bool p.yes, .bool p.neg, .string p.mag, .string p.raw, .slice a p.items.length c] 27)
  have hs1 := alloc_size w (.cells #[.int .u8 p.kind, .bool p.yes, .bool p.neg, .string p.mag, .string p.raw, .slice a p.items.length c] 27)
  have hb2 := hb1.alloc hb1.size (.cells #[.int .u8 q.kind, .bool q.yes, .bool q.neg, .string q.mag, .string q.raw, .slice a2 q.items.length c2] 27)
  have hB1 := Blk.new (w.alloc (.cells #[.int .u8 p.kind, .bool p.yes, .bool p.neg, .string p.mag, .string p.raw, .slice a p.items.length c] 27)) 27 #[.int .u8 q.kind, .bool q.yes, .bool q.neg, .string q.mag, .string q.raw, .slice a2 q.items.length c2]
  have hB0b := hB0.old ((Below.refl _ (w.alloc (.cells #[.int .u8 p.kind, .bool p.yes, .bool p.neg, .string p.mag, .string p.raw, .slice a p.items.length c] 27))).alloc (Nat.le_refl _) (.cells #[.int .u8 q.kind, .bool q.yes, .bool q.neg, .string q.mag, .string q.raw, .slice a2 q.items.length c2] 27))
  rw [hs1] at hB1
  have hle := hvy_le p hf 0 0 (by decide)
  have hle2 := hvy_le q hf2 0 0 (by decide)
  have hwp := fun w' (h : PIn w' 0 w'.heap.size p a) => weight_any p hf a c 0 0 w'.heap.size w' (Nat.le_refl _) h (by decide)
  have hwq := fun w' (h : PIn w' 0 w'.heap.size q a2) => weight_any q hf2 a2 c2 0 0 w'.heap.size w' (Nat.le_refl _) h (by decide)
  unfold pV at hwp hwq ⊢
  have HF : Hid (Fits p) := hf
  have HF2 : Hid (Fits q) := hf2
  clear hf hf2
  go_enter Try.func3, Try.ntmps3
  go_upto_region 1 with fail
  generalize (w.alloc (.cells #[.int .u8 p.kind, .bool p.yes, .bool p.neg, .string p.mag, .string p.raw, .slice a p.items.length c] 27)).alloc (.cells #[.int .u8 q.kind, .bool q.yes, .bool q.neg, .string q.mag, .string q.raw, .slice a2 q.items.length c2] 27) = w1 at *
  have HBP : Hid (Blk w1 w.heap.size 27 #[.int .u8 p.kind, .bool p.yes, .bool p.neg, .string p.mag, .string p.raw, .slice a p.items.length c]) := hB0b
  have HBQ : Hid (Blk w1 (w.heap.size + 1) 27 #[.int .u8 q.kind, .bool q.yes, .bool q.neg, .string q.mag, .string q.raw, .slice a2 q.items.length c2]) := hB1
  have hw1 := hb2
  have HPP : Hid (PIn w1 0 w1.heap.size p a) := PIn.go hp0 hw1
  have HPQ : Hid (PIn w1 0 w1.heap.size q a2) := PIn.go hq0 hw1
  clear hB0 hB0b hB1 hb1 hb2 hs1 hp0 hq0
  have haw := awake_any w1
  go_wp2_with fail
  refine (haw).mono ?_
  rintro _ w2 ⟨rfl, hb2⟩
  have hw2 : Below w.heap.size w w2 := hw1.trans (hb2.mono hw1.size)
  have HBP : Hid (Blk w2 w.heap.size 27 #[.int .u8 p.kind, .bool p.yes, .bool p.neg, .string p.mag, .string p.raw, .slice a p.items.length c]) := Blk.old HBP.out hb2
  have HBQ : Hid (Blk w2 (w.heap.size + 1) 27 #[.int .u8 q.kind, .bool q.yes, .bool q.neg, .string q.mag, .string q.raw, .slice a2 q.items.length c2]) := Blk.old HBQ.out hb2
  have HPP : Hid (PIn w2 0 w2.heap.size p a) := PIn.go HPP.out hb2
  have HPQ : Hid (PIn w2 0 w2.heap.size q a2) := PIn.go HPQ.out hb2
  clear haw hb2
  have hx0 := HBP.out
  obtain ⟨x00, x01, x02, x03, x04, x05⟩ := Blk.c6 hx0
  clear hx0
  go_wp2_with fail
  refine (hwp w2 HPP.out).mono ?_
  rintro _ w3 ⟨rfl, hb3⟩
  clear x00 x01 x02 x03 x04 x05
  have hw3 : Below w.heap.size w w3 := hw2.trans (hb3.mono hw2.size)
  have HBP : Hid (Blk w3 w.heap.size 27 #[.int .u8 p.kind, .bool p.yes, .bool p.neg, .string p.mag, .string p.raw, .slice a p.items.length c]) := Blk.old HBP.out hb3
  have HBQ : Hid (Blk w3 (w.heap.size + 1) 27 #[.int .u8 q.kind, .bool q.yes, .bool q.neg, .string q.mag, .string q.raw, .slice a2 q.items.length c2]) := Blk.old HBQ.out hb3
  have HPP : Hid (PIn w3 0 w3.heap.size p a) := PIn.go HPP.out hb3
  have HPQ : Hid (PIn w3 0 w3.heap.size q a2) := PIn.go HPQ.out hb3
  clear hwp hb3
  by_cases hbig : 134217728 < hvy p 0 0
  · have t : decide ((134217728 : Int) < ((hvy p 0 0 : Nat) : Int)) = true := decide_eq_true (by omega)
    generalize hvy p 0 0 = H at *
    clear hwq
    go_wp2_with fail
    go_ret
    exact ⟨rfl, hw3⟩
  have t : decide ((134217728 : Int) < ((hvy p 0 0 : Nat) : Int)) = false := decide_eq_false (by omega)
  have hwt1 : wt p ≤ 134217728 := by
    have := hvy_small p 0 0 (by unfold mostW; omega)
    omega
  clear hbig
  generalize hvy p 0 0 = H at *
  have hx0 := HBQ.out
  obtain ⟨x00, x01, x02, x03, x04, x05⟩ := Blk.c6 hx0
  clear hx0
  go_wp2_with fail
  refine (hwq w3 HPQ.out).mono ?_
  rintro _ w4 ⟨rfl, hb4⟩
  clear x00 x01 x02 x03 x04 x05
  have hw4 : Below w.heap.size w w4 := hw3.trans (hb4.mono hw3.size)
  have HBP : Hid (Blk w4 w.heap.size 27 #[.int .u8 p.kind, .bool p.yes, .bool p.neg, .string p.mag, .string p.raw, .slice a p.items.length c]) := Blk.old HBP.out hb4
  have HBQ : Hid (Blk w4 (w.heap.size + 1) 27 #[.int .u8 q.kind, .bool q.yes, .bool q.neg, .string q.mag, .string q.raw, .slice a2 q.items.length c2]) := Blk.old HBQ.out hb4
  have HPP : Hid (PIn w4 0 w4.heap.size p a) := PIn.go HPP.out hb4
  have HPQ : Hid (PIn w4 0 w4.heap.size q a2) := PIn.go HPQ.out hb4
  clear hwq hb4
  by_cases hbig2 : 134217728 < hvy q 0 0
  · have t2 : decide ((134217728 : Int) < ((hvy q 0 0 : Nat) : Int)) = true := decide_eq_true (by omega)
    generalize hvy q 0 0 = H2 at *
    go_wp2_with fail
    go_ret
    exact ⟨rfl, hw4⟩
  have t2 : decide ((134217728 : Int) < ((hvy q 0 0 : Nat) : Int)) = false := decide_eq_false (by omega)
  have hwt2 : wt q ≤ 134217728 := by
    have := hvy_small q 0 0 (by unfold mostW; omega)
    omega
  clear hbig2
  generalize hvy q 0 0 = H2 at *
  obtain ⟨E, hE, hrm, hmd⟩ := made9_any p HF.out hwt1
  obtain ⟨F, hF, hrm2, hmd2⟩ := made9_any q HF2.out hwt2
  have HE : Hid ((E = 0 ∧ may p = true ∧ dep p ≤ 16) ∨ ((E != 0) = true ∧ (E == 0) = false)) := hE
  have HFF : Hid ((F = 0 ∧ may q = true ∧ dep q ≤ 16) ∨ ((F != 0) = true ∧ (F == 0) = false)) := hF
  unfold pV at hrm hrm2 hmd hmd2
  clear hE hF hwt1 hwt2
  have hx0 := HBP.out
  obtain ⟨x00, x01, x02, x03, x04, x05⟩ := Blk.c6 hx0
  clear hx0
  go_wp2_with fail
  refine (hmd a c w4 HPP.out).mono ?_
  rintro _ w5 ⟨v, rfl, hv5, hb5⟩
  clear x00 x01 x02 x03 x04 x05
  have hw5 : Below w.heap.size w w5 := hw4.trans (hb5.mono hw4.size)
  have HBP : Hid (Blk w5 w.heap.size 27 #[.int .u8 p.kind, .bool p.yes, .bool p.neg, .string p.mag, .string p.raw, .slice a p.items.length c]) := Blk.old HBP.out hb5
  have HBQ : Hid (Blk w5 (w.heap.size + 1) 27 #[.int .u8 q.kind, .bool q.yes, .bool q.neg, .string q.mag, .string q.raw, .slice a2 q.items.length c2]) := Blk.old HBQ.out hb5
  have HPP : Hid (PIn w5 0 w5.heap.size p a) := PIn.go HPP.out hb5
  have HPQ : Hid (PIn w5 0 w5.heap.size q a2) := PIn.go HPQ.out hb5
  have HV : Hid (E = 0 → VIn w5 0 w5.heap.size v p) := hv5
  clear hv5 hb5 hmd
  have hx0 := HBQ.out
  obtain ⟨x00, x01, x02, x03, x04, x05⟩ := Blk.c6 hx0
  clear hx0
  go_wp2_with fail
  refine (hmd2 a2 c2 w5 HPQ.out).mono ?_
  rintro _ w6 ⟨v2, rfl, hv6, hb6⟩
  clear x00 x01 x02 x03 x04 x05
  have hw6 : Below w.heap.size w w6 := hw5.trans (hb6.mono hw5.size)
  have HBP : Hid (Blk w6 w.heap.size 27 #[.int .u8 p.kind, .bool p.yes, .bool p.neg, .string p.mag, .string p.raw, .slice a p.items.length c]) := Blk.old HBP.out hb6
  have HBQ : Hid (Blk w6 (w.heap.size + 1) 27 #[.int .u8 q.kind, .bool q.yes, .bool q.neg, .string q.mag, .string q.raw, .slice a2 q.items.length c2]) := Blk.old HBQ.out hb6
  have HPP : Hid (PIn w6 0 w6.heap.size p a) := PIn.go HPP.out hb6
  have HPQ : Hid (PIn w6 0 w6.heap.size q a2) := PIn.go HPQ.out hb6
  have HV : Hid (E = 0 → VIn w6 0 w6.heap.size v p) := fun e => VIn.go (HV.out e) hb6
  have HV2 : Hid (F = 0 → VIn w6 0 w6.heap.size v2 q) := hv6
  clear hv6 hb6 hmd2
  have hx0 := HBP.out
  obtain ⟨x00, x01, x02, x03, x04, x05⟩ := Blk.c6 hx0
  clear hx0
  go_wp2_with fail
  refine (hrm a c w6 HPP.out).mono ?_
  rintro _ w7 ⟨rfl, hb7⟩
  clear x00 x01 x02 x03 x04 x05
  have hw7 : Below w.heap.size w w7 := hw6.trans (hb7.mono hw6.size)
  have HBP : Hid (Blk w7 w.heap.size 27 #[.int .u8 p.kind, .bool p.yes, .bool p.neg, .string p.mag, .string p.raw, .slice a p.items.length c]) := Blk.old HBP.out hb7
  have HBQ : Hid (Blk w7 (w.heap.size + 1) 27 #[.int .u8 q.kind, .bool q.yes, .bool q.neg, .string q.mag, .string q.raw, .slice a2 q.items.length c2]) := Blk.old HBQ.out hb7
  have HPP : Hid (PIn w7 0 w7.heap.size p a) := PIn.go HPP.out hb7
  have HPQ : Hid (PIn w7 0 w7.heap.size q a2) := PIn.go HPQ.out hb7
  have HV : Hid (E = 0 → VIn w7 0 w7.heap.size v p) := fun e => VIn.go (HV.out e) hb7
  have HV2 : Hid (F = 0 → VIn w7 0 w7.heap.size v2 q) := fun e => VIn.go (HV2.out e) hb7
  clear hb7 hrm
  have hx0 := HBQ.out
  obtain ⟨x00, x01, x02, x03, x04, x05⟩ := Blk.c6 hx0
  clear hx0
  go_wp2_with fail
  refine (hrm2 a2 c2 w7 HPQ.out).mono ?_
  rintro _ w8 ⟨rfl, hb8⟩
  clear x00 x01 x02 x03 x04 x05
  have hw8 : Below w.heap.size w w8 := hw7.trans (hb8.mono hw7.size)
  have HBP : Hid (Blk w8 w.heap.size 27 #[.int .u8 p.kind, .bool p.yes, .bool p.neg, .string p.mag, .string p.raw, .slice a p.items.length c]) := Blk.old HBP.out hb8
  have HBQ : Hid (Blk w8 (w.heap.size + 1) 27 #[.int .u8 q.kind, .bool q.yes, .bool q.neg, .string q.mag, .string q.raw, .slice a2 q.items.length c2]) := Blk.old HBQ.out hb8
  have HPP : Hid (PIn w8 0 w8.heap.size p a) := PIn.go HPP.out hb8
  have HPQ : Hid (PIn w8 0 w8.heap.size q a2) := PIn.go HPQ.out hb8
  have HV : Hid (E = 0 → VIn w8 0 w8.heap.size v p) := fun e => VIn.go (HV.out e) hb8
  have HV2 : Hid (F = 0 → VIn w8 0 w8.heap.size v2 q) := fun e => VIn.go (HV2.out e) hb8
  clear hb8 hrm2
  rcases HE.out with ⟨hE0, hmp, hdp⟩ | ⟨hE1, hE2⟩
  · have hlk := looks_any p hmp HF.out (by omega) v a c w8 (HV.out hE0) HPP.out
    unfold pV at hlk
    subst hE0
    have hx0 := HBP.out
    obtain ⟨x00, x01, x02, x03, x04, x05⟩ := Blk.c6 hx0
    clear hx0
    go_wp2_with fail
    refine hlk.mono ?_
    rintro _ w9 ⟨rfl, hb9⟩
    clear x00 x01 x02 x03 x04 x05 hlk
    have hw9 := hw8.trans (hb9.mono hw8.size)
    rcases HFF.out with ⟨hF0, hmq, hdq⟩ | ⟨hF1, hF2⟩
    · have hlk2 := looks_any q hmq HF2.out (by omega) v2 a2 c2 w9 (VIn.go (HV2.out hF0) hb9) (PIn.go HPQ.out hb9)
      unfold pV at hlk2
      subst hF0
      have hx1 := Blk.old HBQ.out hb9
      obtain ⟨x10, x11, x12, x13, x14, x15⟩ := hx1.c6
      clear hx1
      go_wp2_with fail
      refine hlk2.mono ?_
      rintro _ w10 ⟨rfl, hb10⟩
      go_wp2_with fail
      go_ret
      exact ⟨rfl, hw9.trans (hb10.mono hw9.size)⟩
    · go_wp2_with fail
      go_ret
      exact ⟨rfl, hw9⟩
  · rcases HFF.out with ⟨hF0, hmq, hdq⟩ | ⟨hF1, hF2⟩
    · have hlk2 := looks_any q hmq HF2.out (by omega) v2 a2 c2 w8 (HV2.out hF0) HPQ.out
      unfold pV at hlk2
      subst hF0
      have hx1 := HBQ.out
      obtain ⟨x10, x11, x12, x13, x14, x15⟩ := Blk.c6 hx1
      clear hx1
      go_wp2_with fail
      refine hlk2.mono ?_
      rintro _ w10 ⟨rfl, hb10⟩
      go_wp2_with fail
      go_ret
      exact ⟨rfl, hw8.trans (hb10.mono hw8.size)⟩
    · go_wp2_with fail
      go_ret
      exact ⟨rfl, hw8⟩
set_option maxRecDepth 20000 in
theorem vmakes_open {H : Type} {enc : TypeId × Value → H} {base : Nat} {W : World} (v : Value) (d : DataW H) (pl : List MemPlace) (hok : Value.okWide Try.prog W .any base 27 v)
    (h : DataW.Trod enc Try.prog W 0 (fun _ => true) true 27 v d pl) (hw : ∀ n ∈ d.weights Try.prog 27, n ≤ reachBytes) (v2 : Value) (d2 : DataW H) (pl2 : List MemPlace) (hok2 : Value.okWide Try.prog W .any base 27 v2)
    (h2 : DataW.Trod enc Try.prog W 0 (fun _ => true) true 27 v2 d2 pl2) (hw2 : ∀ n ∈ d2.weights Try.prog 27, n ≤ reachBytes) : Calls Try.prog 3 #[v, v2] W fun e w' => e = .returned (.bool true) ∧ Below W.heap.size W w' := by
  obtain ⟨p, a, c, rfl, hp, hf⟩ := part_open v d pl hok h hw
  obtain ⟨q, a2, c2, rfl, hq, hf2⟩ := part_open v2 d2 pl2 hok2 h2 hw2
  exact vmakes_any p q hf hf2 a a2 c c2 W hp hq
end Go.Proofs.Ytedmmifflbnmbaa
