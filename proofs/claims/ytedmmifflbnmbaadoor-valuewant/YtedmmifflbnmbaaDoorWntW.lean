/- ValueWant's walk (contracts; nothing is claimed here). -/
import Derived.Test.YtedmmifflbnmbaaDoorWnt
import Derived.Test.YtedmmifflbnmbaaDoorKis
import Derived.Test.YtedmmifflbnmbaaDoorLookT
import Derived.Test.YtedmmifflbnmbaaDoorAwk
import Derived.Test.YtedmmifflbnmbaaDoorGoes
namespace Go.Proofs.YtedmmifflbnmbaaDoor
open Go.RowKit Go.Vf

theorem ta_fault (a : Addr) (w : World) : (Instr.typeAssert (.iface 45 (.pointer (some a))) 37 45 true).run Tryd.prog w = .ok (.tuple #[.pointer (some a), .bool true]) w := by kernel_rfl

set_option maxHeartbeats 8000000 in
set_option maxRecDepth 20000 in
theorem wantLaw_any (p : Prt) (hf : Fits p) (k : Int) (hk0 : 0 ≤ k) (hk1 : k < 256) (a : Option Addr) (c lo n₀ : Nat) (w : World) (hn₀ : n₀ ≤ w.heap.size) (hin : PIn w lo n₀ p a) (hg : w.cell? ⟨0, 0, none⟩ = some (.iface 112 (.agg #[hnd 37]))) :
    Calls Tryd.prog 3 #[pV p a c, .int .u8 k] w fun e w' => e = .returned (.bool true) ∧ Below w.heap.size w w' := by
  have hb0 := Blk.new w 27 #[.int .u8 p.kind, .bool p.yes, .bool p.neg, .string p.mag, .string p.raw, .slice a p.items.length c]
  have hb1 := (Below.refl w.heap.size w).alloc (Nat.le_refl _) (.cells #[.int .u8 p.kind, .bool p.yes, .bool p.neg, .string p.mag, .string p.raw, .slice a p.items.length c] 27)
  have haw := awake_any (w.alloc (.cells #[.int .u8 p.kind, .bool p.yes, .bool p.neg, .string p.mag, .string p.raw, .slice a p.items.length c] 27))
  have hle := hvy_le p hf 0 0 (by decide)
  have hp0 := hf.pos
  have hwt := fun w' h1 h2 => weight_any p hf a c 0 lo n₀ w' h1 h2 (by decide)
  have hrm := fun w' h1 h2 => rmake_any p hf a c lo n₀ w' h1 h2
  have hmk := fun w' h1 h2 => make_any p hf a c lo n₀ w' h1 h2
  have hrw := fun w' => rwant_any p a c k w'
  have hlk : deeper 16 p = false → may p = true → LookOk p := fun hd hm => looks_any p hm hf (by rw [deeper_dep, decide_eq_false_iff_not] at hd; omega)
  unfold LookOk at hlk
  unfold pV at hwt hrm hmk hrw hlk ⊢
  have HI : Hid (PIn w lo n₀ p a) := hin
  have HG : Hid (w.cell? ⟨0, 0, none⟩ = some (.iface 112 (.agg #[hnd 37]))) := hg
  have HLK : Hid (deeper 16 p = false → may p = true → ∀ (v : Value) (a : Option Addr) (c : Nat) (w : World), VIn w 0 w.heap.size v p → PIn w 0 w.heap.size p a →
    Calls Tryd.prog 11 #[v, .agg #[.int .u8 p.kind, .bool p.yes, .bool p.neg, .string p.mag, .string p.raw, .slice a p.items.length c]] w fun e w' => e = .returned (.bool true) ∧ Below w.heap.size w w') := hlk
  clear hf hin hg hlk
  go_enter Tryd.func3, Tryd.ntmps3
  go_wp2_with fail
  generalize w.alloc (.cells #[.int .u8 p.kind, .bool p.yes, .bool p.neg, .string p.mag, .string p.raw, .slice a p.items.length c] 27) = w1 at hb0 hb1 haw ⊢
  refine haw.mono ?_
  rintro _ w2 ⟨rfl, hb2⟩
  have hw2 : Below w.heap.size w w2 := hb1.trans (hb2.mono hb1.size)
  have hB2 := hb0.old hb2
  obtain ⟨c0, c1, c2, c3, c4, c5⟩ := hB2.c6
  have h3 := hwt w2 (Nat.le_trans hn₀ hw2.size) (HI.out.keep hw2 hn₀)
  clear hwt haw hb2
  go_wp2_with fail
  refine h3.mono ?_
  rintro _ w3 ⟨rfl, hb3⟩
  have hw3 : Below w.heap.size w w3 := hw2.trans (hb3.mono hw2.size)
  have hB3 := hB2.old hb3
  clear c0 c1 c2 c3 c4 c5 h3 hb3 hB2
  obtain ⟨c0, c1, c2, c3, c4, c5⟩ := hB3.c6
  by_cases hbig : 134217728 < hvy p 0 0
  · have t : decide ((134217728 : Int) < ((hvy p 0 0 : Nat) : Int)) = true := decide_eq_true (by omega)
    generalize hvy p 0 0 = H at *
    clear hmk hrm hrw
    go_wp2_with fail
    go_ret
    exact ⟨rfl, hw3⟩
  have t : decide ((134217728 : Int) < ((hvy p 0 0 : Nat) : Int)) = false := decide_eq_false (by omega)
  generalize hvy p 0 0 = H at *
  have h4 := hrm w3 (Nat.le_trans hn₀ hw3.size) (HI.out.keep hw3 hn₀)
  clear hrm
  by_cases hd : deeper 16 p = true
  · rw [if_pos hd] at h4
    clear hmk hrw
    go_wp2_with fail
    refine h4.mono ?_
    rintro _ w4 ⟨rfl, hb4⟩
    have hw4 : Below w.heap.size w w4 := hw3.trans (hb4.mono hw3.size)
    go_wp2_with fail
    go_ret
    exact ⟨rfl, hw4⟩
  rw [if_neg hd] at h4
  by_cases hm : may p = true
  case neg =>
    rw [if_neg hm] at h4
    clear hmk hrw
    go_wp2_with fail
    refine h4.mono ?_
    rintro _ w4 ⟨rfl, hb4⟩
    have hw4 : Below w.heap.size w w4 := hw3.trans (hb4.mono hw3.size)
    go_wp2_with fail
    go_ret
    exact ⟨rfl, hw4⟩
  rw [if_pos hm] at h4
  have HD : Hid (deeper 16 p = false) := Bool.eq_false_iff.2 hd
  have HM : Hid (may p = true) := hm
  clear hd hm
  go_wp2_with fail
  refine h4.mono ?_
  rintro _ w4 ⟨rfl, hb4⟩
  have hw4 : Below w.heap.size w w4 := hw3.trans (hb4.mono hw3.size)
  have hB4 := hB3.old hb4
  clear c0 c1 c2 c3 c4 c5 h4 hb4 hB3
  obtain ⟨c0, c1, c2, c3, c4, c5⟩ := hB4.c6
  have h5 := hmk w4 (Nat.le_trans hn₀ hw4.size) (HI.out.keep hw4 hn₀)
  clear hmk
  go_wp2_with fail
  refine h5.mono ?_
  rintro e w5 ⟨hb5, h6⟩
  have hw5 : Below w.heap.size w w5 := hw4.trans (hb5.mono hw4.size)
  have hB5 := hB4.old hb5
  clear c0 c1 c2 c3 c4 c5 h5 hb5 hB4
  obtain ⟨c0, c1, c2, c3, c4, c5⟩ := hB5.c6
  rcases h6 with ⟨h6, _⟩ | ⟨_, h6, _⟩ | ⟨_, _, v, rfl, hv⟩
  · rw [HD.out] at h6; exact absurd h6 (by decide)
  · rw [HM.out] at h6; exact absurd h6 (by decide)
  have h7 := want_any v p k hk0 hk1 hp0 _ _ w5 hv
  have HV : Hid (VIn w5 w4.heap.size w5.heap.size v p) := hv
  clear hv
  generalize wnt k p.kind = r at *
  go_wp2_with fail
  refine h7.mono ?_
  rintro e w6 ⟨h8, hb6⟩
  have hw6 : Below w.heap.size w w6 := hw5.trans (hb6.mono hw5.size)
  have HV6 : Hid (VIn w6 0 w6.heap.size v p) := HV.out.go hb6
  have hB6 := hB5.old hb6
  clear c0 c1 c2 c3 c4 c5 h7 hb6 hB5 HV
  obtain ⟨c0, c1, c2, c3, c4, c5⟩ := hB6.c6
  have h9 := hrw w6
  clear hrw
  rcases h8 with ⟨rfl, rfl⟩ | ⟨hr, b, rfl, hF⟩
  · go_wp2_with fail
    refine h9.mono ?_
    rintro _ w7 ⟨rfl, hb7⟩
    have hw7 : Below w.heap.size w w7 := hw6.trans (hb7.mono hw6.size)
    have HV7 : Hid (VIn w7 0 w7.heap.size v p) := HV6.out.go hb7
    have hB7 := hB6.old hb7
    clear c0 c1 c2 c3 c4 c5 h9 hb7 hB6 HV6
    obtain ⟨c0, c1, c2, c3, c4, c5⟩ := hB7.c6
    have h10 := keepIs_none w7
    go_wp2_with fail
    refine h10.mono ?_
    rintro _ w8 ⟨rfl, hb8⟩
    have hw8 : Below w.heap.size w w8 := hw7.trans (hb8.mono hw7.size)
    have HV8 : Hid (VIn w8 0 w8.heap.size v p) := HV7.out.go hb8
    have hB8 := hB7.old hb8
    clear c0 c1 c2 c3 c4 c5 h10 hb8 hB7 HV7
    obtain ⟨c0, c1, c2, c3, c4, c5⟩ := hB8.c6
    have h11 := HLK.out HD.out HM.out v a c w8 HV8.out ((HI.out.keep hw8 hn₀).mono (Nat.le_trans hn₀ hw8.size) (Nat.zero_le _))
    go_wp2_with fail
    refine h11.mono ?_
    rintro _ w9 ⟨rfl, hb9⟩
    have hw9 : Below w.heap.size w w9 := hw8.trans (hb9.mono hw8.size)
    go_wp2_with fail
    go_ret
    exact ⟨rfl, hw9⟩
  · have t3 : decide (r = 0) = false := decide_eq_false hr
    have t4 : (r == 0) = false := by simpa using hr
    go_wp2_with fail
    refine h9.mono ?_
    rintro _ w7 ⟨rfl, hb7⟩
    have hw7 : Below w.heap.size w w7 := hw6.trans (hb7.mono hw6.size)
    have hF7 := hF.old hb7
    clear c0 c1 c2 c3 c4 c5 h9 hb7 hB6 HV6 hF
    have h10 := keepIs_fault b r w7 hr (cell_keep hw7 HG.out) (hF7.cell 0) (hF7.cell 1) (hF7.cell 2)
    go_wp2_with fail
    refine h10.mono ?_
    rintro _ w8 ⟨rfl, hb8⟩
    have hw8 : Below w.heap.size w w8 := hw7.trans (hb8.mono hw7.size)
    have hF8 := hF7.old hb8
    have f3 : w8.cell? ⟨b, 3, none⟩ = some .nilIface := hF8.cell 3
    have ta := ta_fault
    clear h10 hb8 hF7 hF8
    go_wp2_with fail
    go_ret
    exact ⟨rfl, hw8⟩
end Go.Proofs.YtedmmifflbnmbaaDoor
