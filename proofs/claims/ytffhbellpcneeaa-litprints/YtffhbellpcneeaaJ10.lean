/- What the document's Print of layer 10 does (contracts; nothing is claimed here). · LitPrints' walk (contracts; nothing is claimed here). -/
import Derived.Test.YtffhbellpcneeaaRTxt
import Derived.Test.YtffhbellpcneeaaLPrn
import Derived.Test.YtffhbellpcneeaaLBeh
import Derived.Test.YtffhbellpcneeaaPrtO
namespace Go.Proofs.Ytffhbellpcneeaa
open Go.RowKit Go.Vf
theorem prn_cases {p : Prt} {R : List UInt8} (h : TxR [] p R) : (65536 < R.length ∧ prnV p = .tuple #[.string ⟨#[]⟩, .int .i64 2]) ∨ (R.length ≤ 65536 ∧ prnV p = .tuple #[.string (bs R), .int .i64 0]) := by
  have h2 := h.is
  simp only [List.length_nil, Nat.zero_add, List.nil_append] at h2
  split at h2
  · rename_i hl
    subst h2
    exact .inr ⟨hl, by rw [prnV, if_pos hl]⟩
  · rename_i hl
    exact .inl ⟨h2, by rw [prnV, if_neg hl]⟩
set_option maxHeartbeats 1000000 in
set_option maxRecDepth 20000 in
theorem rprint10_any (p : Prt) (hmay : may p = true) (hw : wt p ≤ 134217728) (a : Option Addr) (c lo n₀ : Nat) (w : World) (hn : n₀ ≤ w.heap.size) (hin : PIn w lo n₀ p a) :
    Calls Try.prog 12 #[pV p a c] w fun e w' => e = .returned (prnV p) ∧ Below w.heap.size w w' := by
  have hb1 := (Below.refl w.heap.size w).alloc (Nat.le_refl _) (.cells #[.int .u8 p.kind, .bool p.yes, .bool p.neg, .string p.mag, .string p.raw, .slice a p.items.length c] 27)
  have hbx := Blk.new w 27 #[.int .u8 p.kind, .bool p.yes, .bool p.neg, .string p.mag, .string p.raw, .slice a p.items.length c]
  obtain ⟨c0, c1, c2, c3, c4, c5⟩ := hbx.c6
  have hcall := rtext_any p hmay (.slice none 0 0) [] a c lo n₀ w.heap.size _ hn hb1.size (hin.keep hb1 hn) (BOwn.nil 5 _ _) (by simp; omega)
  unfold pV at hcall ⊢
  clear hin hbx
  obtain ⟨V, hV⟩ : ∃ V, prnV p = V := ⟨_, rfl⟩
  have HV : Hid (prnV p = V) := hV
  rw [hV]
  clear hV
  go_enter Try.func12, Try.ntmps12
  go_upto_region 1 with fail
  generalize w.alloc (.cells #[.int .u8 p.kind, .bool p.yes, .bool p.neg, .string p.mag, .string p.raw, .slice a p.items.length c] 27) = w1 at *
  go_wp2_with fail
  refine hcall.mono ?_
  rintro _ w2 ⟨v, R, rfl, ho, hk, HT⟩
  have hlen := HT.out.len
  simp only [List.length_nil] at hlen
  have hRl : R.length ≤ 200000000 := by omega
  have hcv := run_string_own (P := Try.prog) w2 61 9 5 Try.underlying61 Try.underlying5 Try.underlying9 w.heap.size v R ho
  obtain ⟨av, cv, rfl⟩ := row_val ho
  have hfin : Below w.heap.size w w2 := hb1.trans hk.below
  rcases prn_cases HT.out with ⟨hl, e⟩ | ⟨hl, e⟩
  · have HE : Hid (V = .tuple #[.string ⟨#[]⟩, .int .i64 2]) := by show _ = _; rw [← HV.out, e]
    have t : decide ((65536 : Int) < (R.length : Int)) = true := decide_eq_true (by omega)
    clear hcall HT hlen ho hcv e hl
    generalize R.length = rl at *
    go_wp2_with fail
    go_ret2
    exact ⟨by rw [HE.out]; rfl, hfin⟩
  · have HE : Hid (V = .tuple #[.string (bs R), .int .i64 0]) := by show _ = _; rw [← HV.out, e]
    have t : decide ((65536 : Int) < (R.length : Int)) = false := decide_eq_false (by omega)
    clear hcall HT hlen ho e hl
    generalize bs R = X at *
    generalize R.length = rl at *
    go_wp2_with fail
    go_ret2
    exact ⟨by rw [HE.out]; rfl, hfin⟩
end Go.Proofs.Ytffhbellpcneeaa

namespace Go.Proofs.Ytffhbellpcneeaa
open Go.RowKit Go.Vf
theorem prn_form (p : Prt) : ∃ X E, prnV p = .tuple #[.string X, .int .i64 E] := by
  unfold prnV; split
  · exact ⟨_, _, rfl⟩
  · exact ⟨_, _, rfl⟩
set_option maxHeartbeats 4000000 in
set_option maxRecDepth 20000 in
theorem lprints_any (p : Prt) (hf : Fits p) (a : Option Addr) (c lo n₀ : Nat) (w : World) (hn₀ : n₀ ≤ w.heap.size) (hin : PIn w lo n₀ p a) :
    Calls Try.prog 3 #[pV p a c] w fun e w' => e = .returned (.bool true) ∧ Below w.heap.size w w' := by
  have hb0 := Blk.new w 27 #[.int .u8 p.kind, .bool p.yes, .bool p.neg, .string p.mag, .string p.raw, .slice a p.items.length c]
  have hb1 := (Below.refl w.heap.size w).alloc (Nat.le_refl _) (.cells #[.int .u8 p.kind, .bool p.yes, .bool p.neg, .string p.mag, .string p.raw, .slice a p.items.length c] 27)
  have haw := awake_any (w.alloc (.cells #[.int .u8 p.kind, .bool p.yes, .bool p.neg, .string p.mag, .string p.raw, .slice a p.items.length c] 27))
  have hle := hvy_le p hf 0 0 (by decide)
  have hvs := hvy_small p 0 0
  have hwt := fun w' h1 h2 => weight_any p hf a c 0 lo n₀ w' h1 h2 (by decide)
  have hrm := fun w' h1 h2 => rmake_any p hf a c lo n₀ w' h1 h2
  have hmk := fun w' h1 h2 => make_any p hf a c lo n₀ w' h1 h2
  have hrp := fun hm hw w' h1 h2 => rprint10_any p hm hw a c lo n₀ w' h1 h2
  unfold pV at hwt hmk hrm hrp ⊢
  have HF : Hid (Fits p) := hf
  have HI : Hid (PIn w lo n₀ p a) := hin
  clear hf hin
  go_enter Try.func3, Try.ntmps3
  go_wp2_with fail
  generalize w.alloc (.cells #[.int .u8 p.kind, .bool p.yes, .bool p.neg, .string p.mag, .string p.raw, .slice a p.items.length c] 27) = w1 at hb0 hb1 haw ⊢
  refine haw.mono ?_
  rintro _ w2 ⟨rfl, hb2⟩
  have hw2 : Below w.heap.size w w2 := hb1.trans (hb2.mono hb1.size)
  have hB2 := hb0.old hb2
  obtain ⟨c0, c1, c2, c3, c4, c5⟩ := hB2.c6
  have h3 := hwt w2 (Nat.le_trans hn₀ hw2.size) (HI.out.keep hw2 hn₀)
  clear hwt haw
  go_wp2_with fail
  refine h3.mono ?_
  rintro _ w3 ⟨rfl, hb3⟩
  have hw3 : Below w.heap.size w w3 := hw2.trans (hb3.mono hw2.size)
  have hB3 := hB2.old hb3
  clear c0 c1 c2 c3 c4 c5
  obtain ⟨c0, c1, c2, c3, c4, c5⟩ := hB3.c6
  clear h3
  by_cases hbig : 134217728 < hvy p 0 0
  · have t : decide ((134217728 : Int) < ((hvy p 0 0 : Nat) : Int)) = true := decide_eq_true (by omega)
    clear hmk hrm hrp hvs
    generalize hvy p 0 0 = H at *
    go_wp2_with fail
    go_ret
    exact ⟨rfl, hw3⟩
  have t : decide ((134217728 : Int) < ((hvy p 0 0 : Nat) : Int)) = false := decide_eq_false (by omega)
  have hwtp : wt p ≤ 134217728 := by
    have := hvs (by unfold mostW; omega)
    omega
  clear hvs
  generalize hvy p 0 0 = H at *
  have h4 := hrm w3 (Nat.le_trans hn₀ hw3.size) (HI.out.keep hw3 hn₀)
  clear hrm
  by_cases hd : deeper 16 p = true
  · rw [hd] at h4
    clear hmk hrp
    go_wp2_with fail
    refine h4.mono ?_
    rintro _ w4 ⟨rfl, hb4⟩
    go_wp2_with fail
    go_ret
    exact ⟨rfl, hw3.trans (hb4.mono hw3.size)⟩
  have hd' : deeper 16 p = false := eq_false_of_ne_true hd
  by_cases hm : may p = true
  · rw [hd', hm] at h4
    have hrp' := hrp hm hwtp
    have HD : Hid (deeper 16 p = false) := hd'
    have HM : Hid (may p = true) := hm
    obtain ⟨X, E, hXE⟩ := prn_form p
    have hlp := fun v lo' n' w' h1 h2 => lprint_any v p hm lo' n' w' h1 h2
    have htl := fun v lo' n' w' h1 h2 => tell_any p hm v lo' n' w' h1 h2
    simp only [hXE] at hlp hrp'
    have y1 : (X.toList == X.toList) = true := by simp
    have y2 : (E == E) = true := by simp
    unfold pV at htl
    clear hrp hd hd' hm hXE
    go_wp2_with fail
    refine h4.mono ?_
    rintro _ w4 ⟨rfl, hb4⟩
    have hw4 : Below w.heap.size w w4 := hw3.trans (hb4.mono hw3.size)
    have hB4 := hB3.old hb4
    clear c0 c1 c2 c3 c4 c5 h4
    obtain ⟨c0, c1, c2, c3, c4, c5⟩ := hB4.c6
    have h5 := hmk w4 (Nat.le_trans hn₀ hw4.size) (HI.out.keep hw4 hn₀)
    clear hmk
    go_wp2_with fail
    refine h5.mono ?_
    rintro e w5 ⟨hb5, h6⟩
    rcases h6 with ⟨h6, _⟩ | ⟨_, h6, _⟩ | ⟨_, _, v, rfl, hv⟩
    · exact absurd h6 (by rw [HD.out]; simp)
    · exact absurd h6 (by rw [HM.out]; simp)
    have hw5 : Below w.heap.size w w5 := hw4.trans (hb5.mono hw4.size)
    have hB5 := hB4.old hb5
    have HV : Hid (VIn w5 w4.heap.size w5.heap.size v p) := hv
    have h7 := hlp v _ _ w5 (Nat.le_refl _) hv
    clear c0 c1 c2 c3 c4 c5 h5 hlp hv
    go_wp2_with fail
    refine h7.mono ?_
    rintro _ w6 ⟨rfl, hb6⟩
    have hw6 : Below w.heap.size w w6 := hw5.trans (hb6.mono hw5.size)
    have hB6 := hB5.old hb6
    obtain ⟨c0, c1, c2, c3, c4, c5⟩ := hB6.c6
    have h8 := hrp' w6 (Nat.le_trans hn₀ hw6.size) (HI.out.keep hw6 hn₀)
    clear hrp' h7
    go_wp2_with fail
    refine h8.mono ?_
    rintro _ w7 ⟨rfl, hb7⟩
    have hw7 : Below w.heap.size w w7 := hw6.trans (hb7.mono hw6.size)
    have hB7 := hB6.old hb7
    have hb57 : Below w5.heap.size w5 w7 := hb6.trans (hb7.mono hb6.size)
    have h9 := htl v _ _ w7 hb57.size (HV.out.old hb57 (Nat.le_refl _))
    clear c0 c1 c2 c3 c4 c5 h8 htl
    go_wp2_with fail
    refine h9.mono ?_
    rintro _ w8 ⟨at_, ct, rfl, hpt, hb8⟩
    have hw8 : Below w.heap.size w w8 := hw7.trans (hb8.mono hw7.size)
    have hB8 := hB7.old hb8
    have hb9 := (Below.refl w8.heap.size w8).alloc (Nat.le_refl _) (.cells #[.int .u8 p.kind, .bool p.yes, .bool p.neg, .string p.mag, .string p.raw, .slice at_ p.items.length ct] 27)
    have hBt := Blk.new w8 27 #[.int .u8 p.kind, .bool p.yes, .bool p.neg, .string p.mag, .string p.raw, .slice at_ p.items.length ct]
    clear h9
    go_upto_region 11 with fail
    generalize w8.alloc (.cells #[.int .u8 p.kind, .bool p.yes, .bool p.neg, .string p.mag, .string p.raw, .slice at_ p.items.length ct] 27) = w9 at hb9 hBt ⊢
    have hw9 : Below w.heap.size w w9 := hw8.trans (hb9.mono hw8.size)
    have hB9 := hB8.old hb9
    obtain ⟨c0, c1, c2, c3, c4, c5⟩ := hB9.c6
    obtain ⟨d0, d1, d2, d3, d4, d5⟩ := hBt.c6
    have h10 := rsame_any p HF.out p HF.out at_ a ct c w7.heap.size w8.heap.size lo n₀ w9 hb9.size (Nat.le_trans hn₀ hw9.size) (hpt.keep hb9 (Nat.le_refl _)) (HI.out.keep hw9 hn₀)
    rw [eqP_self] at h10
    unfold pV at h10
    clear hpt
    go_wp2_with fail
    refine h10.mono ?_
    rintro _ w10 ⟨rfl, hb10⟩
    go_wp2_with fail
    go_ret
    exact ⟨rfl, hw9.trans (hb10.mono hw9.size)⟩
  · have hm' : may p = false := eq_false_of_ne_true hm
    rw [hd', hm'] at h4
    clear hmk hrp
    go_wp2_with fail
    refine h4.mono ?_
    rintro _ w4 ⟨rfl, hb4⟩
    go_wp2_with fail
    go_ret
    exact ⟨rfl, hw3.trans (hb4.mono hw3.size)⟩
set_option maxRecDepth 20000 in
theorem lprints_open {H : Type} {enc : TypeId × Value → H} {base : Nat} {W : World} (v : Value) (d : DataW H) (pl : List MemPlace) (hok : Value.okWide Try.prog W .any base 27 v)
    (h : DataW.Trod enc Try.prog W 0 (fun _ => true) true 27 v d pl) (hw : ∀ n ∈ d.weights Try.prog 27, n ≤ reachBytes) : Calls Try.prog 3 #[v] W fun e w' => e = .returned (.bool true) ∧ Below W.heap.size W w' := by
  obtain ⟨p, a, c, rfl, hp, hf⟩ := part_open v d pl hok h hw
  exact lprints_any p hf a c 0 W.heap.size W (Nat.le_refl _) hp
end Go.Proofs.Ytffhbellpcneeaa
