/- What the document's text of layer 10 does (contracts; nothing is claimed here). -/
import Derived.Test.YtffhbellpcneeaaJ9
import Derived.Test.YtffhbellpcneeaaNatRefG
import Derived.Test.YtffhbellpcneeaaHvy
import Derived.Test.YtffhbellpcneeaaLWv
namespace Go.Proofs.Ytffhbellpcneeaa
open Go.RowKit Go.Vf
def TxOk (p : Prt) : Prop := ∀ (v : Value) (acc : List UInt8) (a : Option Addr) (c lo n₀ base : Nat) (w : World), n₀ ≤ base → base ≤ w.heap.size → PIn w lo n₀ p a → BOwn 5 w base v acc → max acc.length 400000 + wt p ≤ 1000000000 →
  Calls Try.prog 28 #[v, pV p a c] w fun e w' => ∃ v' R, e = .returned v' ∧ BOwn 5 w' base v' R ∧ Kt base w w' ∧ Hid (TxR acc p R)
theorem kind_ne {k n : Int} (h : k ≠ n) : (k == n) = false := beq_eq_false_iff_ne.2 h
theorem raw_len {k : Int} {r : ByteArray} (hk : isRawK k = true) (hm : may (.mk k false false ⟨#[]⟩ r []) = true) : r.size ≤ 65536 := by
  have hk' : k = 3 ∨ k = 4 ∨ k = 5 ∨ k = 6 := by simpa [isRawK, or_assoc] using hk
  rw [may_mk] at hm
  simp only [Bool.and_eq_true, Bool.or_eq_true, beq_iff_eq, decide_eq_true_eq] at hm
  rcases hm.2.1 with ((((q | q) | q) | q) | q) | q
  · omega
  · omega
  · omega
  · exact q.2
  · omega
  · omega
theorem rawTxt_len {k : Int} {r : ByteArray} (hr : r.size ≤ 65536) : (rawTxt k r.data.toList).length ≤ 330000 := by
  have h1 : (r.data.toList.flatMap hex2).length ≤ 131072 := by rw [hex2_length, ← Lib.size_eq]; omega
  have h2 : ∀ q, (r.data.toList.flatMap (spelt q)).length ≤ 262144 := by
    intro q
    have : ∀ l : List UInt8, (l.flatMap (spelt q)).length ≤ 4 * l.length := by
      intro l
      induction l with
      | nil => simp
      | cons a r ih => rw [List.flatMap_cons, List.length_append, List.length_cons]; have := spelt_le q a; omega
    have := this r.data.toList
    rw [← Lib.size_eq] at this
    omega
  have h3 := h2 39
  have h4 := h2 34
  unfold rawTxt
  split
  · simp only [List.length_cons]; omega
  · split
    · simp only [List.length_cons]; omega
    · split
      · simp only [List.length_cons, List.length_append, List.length_nil]; omega
      · simp only [List.length_cons, List.length_append, List.length_nil]; omega
theorem bnd_aux {A R T X W N : Nat} (h1 : max A 400000 + (16 + W) ≤ N) (h2 : R ≤ max A 400000 + 1 + T) (h3 : T + X ≤ W) : max (R + 1) 400000 + X ≤ N ∧ max R 400000 + X ≤ N ∧ R ≤ N := by omega
theorem wtL_append (a b : List Prt) : wtL (a ++ b) = wtL a + wtL b := by
  induction a with
  | nil => simp [wtL]
  | cons x r ih => rw [List.cons_append, wtL, wtL, ih]; omega
theorem wtL_take (l : List Prt) (j : Nat) (hj : j < l.length) : wtL (l.take (j + 1)) = wtL (l.take j) + wt l[j] := by
  rw [List.take_succ_eq_append_getElem hj, wtL_append, wtL, wtL]; omega
theorem wtL_takes (l : List Prt) (j : Nat) : wtL (l.take j) ≤ wtL l := by
  have := congrArg wtL (List.take_append_drop j l)
  rw [wtL_append] at this
  omega
theorem txtB_fst (l : List Prt) (h : 0 < l.length) : (txtB (l.take (0 + 1))).drop 1 = txt l[0] := by
  rw [txtB_take l 0 h]; simp [txtB]
theorem txtB_nxt (l : List Prt) (j : Nat) (hj : 0 < j) (h : j < l.length) : (txtB (l.take (j + 1))).drop 1 = (txtB (l.take j)).drop 1 ++ 32 :: txt l[j] := by
  rw [txtB_take l j h]
  have h1 : 0 < (txtB (l.take j)).length := by have := txtB_len (l.take j); rw [List.length_take] at this; omega
  rw [List.drop_append_of_le_length (by omega)]
theorem tx_first {acc R R5 T : List UInt8} (hR : if acc.length + 1 + 0 ≤ 65536 then R = acc ++ [40] else 65536 < R.length) (h : if R.length + T.length ≤ 65536 then R5 = R ++ T else 65536 < R5.length) :
    if acc.length + 1 + T.length ≤ 65536 then R5 = acc ++ [40] ++ T else 65536 < R5.length := by
  split
  · rename_i h1
    rw [if_pos (by omega)] at hR
    subst hR
    rw [if_pos (by simp only [List.length_append, List.length_cons, List.length_nil]; omega)] at h
    exact h
  · rename_i h1
    split at h
    · rename_i h2
      split at hR
      · subst hR; simp only [List.length_append, List.length_cons, List.length_nil] at h2; omega
      · omega
    · exact h
theorem tx_next {acc R R2 R5 A T : List UInt8} (hR : if acc.length + 1 + A.length ≤ 65536 then R = acc ++ [40] ++ A else 65536 < R.length) (hR2 : R ++ [32] = R2) (h : if R2.length + T.length ≤ 65536 then R5 = R2 ++ T else 65536 < R5.length) :
    if acc.length + 1 + (A ++ 32 :: T).length ≤ 65536 then R5 = acc ++ [40] ++ (A ++ 32 :: T) else 65536 < R5.length := by
  subst hR2
  simp only [List.length_append, List.length_cons, List.length_nil] at h ⊢
  split
  · rename_i h1
    rw [if_pos (by omega)] at hR
    subst hR
    rw [if_pos (by simp only [List.length_append, List.length_cons, List.length_nil]; omega)] at h
    rw [h]; simp
  · rename_i h1
    split at h
    · rename_i h2
      split at hR
      · subst hR; simp only [List.length_append, List.length_cons, List.length_nil] at h2; omega
      · omega
    · exact h
theorem tx_end {acc R : List UInt8} {l : List Prt} (hR : if acc.length + 1 + ((txtB l).drop 1).length ≤ 65536 then R = acc ++ [40] ++ (txtB l).drop 1 else 65536 < R.length) (hl : R.length ≤ max acc.length 400000 + 1 + wtL l) (hw : wt (.mk 7 false false ⟨#[]⟩ ⟨#[]⟩ l) = 16 + wtL l) : TxR acc (.mk 7 false false ⟨#[]⟩ ⟨#[]⟩ l) (R ++ [41]) := by
  have e : txt (.mk 7 false false ⟨#[]⟩ ⟨#[]⟩ l) = 40 :: ((txtB l).drop 1 ++ [41]) := by simp [txt]
  refine ⟨by rw [hw]; simp only [List.length_append, List.length_cons, List.length_nil]; omega, ?_⟩
  rw [e]
  simp only [List.length_append, List.length_cons, List.length_nil]
  split
  · rename_i h1
    rw [if_pos (by omega)] at hR
    rw [hR]; simp
  · rename_i h1
    split at hR
    · subst hR; simp only [List.length_append, List.length_cons, List.length_nil]; omega
    · omega
set_option maxHeartbeats 8000000 in
set_option maxRecDepth 20000 in
theorem rtext_any : ∀ (p : Prt), may p = true → TxOk p := by
  intro p
  induction p using Prt.ind with
  | h k y b m r l ih =>
    intro hmay v acc a c lo n₀ base w hn hbase hin hown hlen
    have hsh := may_shape hmay
    generalize hp : Prt.mk k y b m r l = p at hsh hmay hin hlen ⊢
    have hb1 := (Below.refl w.heap.size w).alloc (Nat.le_refl _) (.cells #[.int .u8 p.kind, .bool p.yes, .bool p.neg, .string p.mag, .string p.raw, .slice a p.items.length c] 27)
    have hbx := Blk.new w 27 #[.int .u8 p.kind, .bool p.yes, .bool p.neg, .string p.mag, .string p.raw, .slice a p.items.length c]
    have hs1 := alloc_size w (.cells #[.int .u8 p.kind, .bool p.yes, .bool p.neg, .string p.mag, .string p.raw, .slice a p.items.length c] 27)
    have hk1 := Kt.old hb1 hbase
    have hO1 := below_own hb1 hown
    obtain ⟨av, cv, hv⟩ := row_val hown
    have HB : Hid _ := hbx
    by_cases hlong : 65536 < acc.length
    · have t : decide ((65536 : Int) < (acc.length : Int)) = true := decide_eq_true (by omega)
      have HR : Hid (TxR acc p acc) := TxR.long hlong
      subst hv
      unfold pV
      clear ih hin hmay hsh hp
      generalize acc.length = na at *
      go_enter Try.func28, Try.ntmps28
      go_wp2_with fail
      go_ret
      exact ⟨_, acc, rfl, hO1, hk1, HR⟩
    have t : decide ((65536 : Int) < (acc.length : Int)) = false := decide_eq_false (by omega)
    have hacc : acc.length ≤ 65536 := by omega
    cases hsh with
    | null =>
      have HR : Hid (TxR acc (.mk 0 false false ⟨#[]⟩ ⟨#[]⟩ []) (acc ++ [110, 117, 108, 108])) := by
        have e : txt (.mk 0 false false ⟨#[]⟩ ⟨#[]⟩ []) = [110, 117, 108, 108] := by simp [txt]
        have := TxR.leaf (p := .mk 0 false false ⟨#[]⟩ ⟨#[]⟩ []) hacc (by rw [e]; decide)
        rwa [e] at this
      clear ih hin hmay hp
      simp only [Prt.kind, Prt.yes, Prt.neg, Prt.mag, Prt.raw, Prt.items, List.length_nil] at hb1 hbx hs1 hk1 hO1 HB
      unfold pV
      simp only [Prt.kind, Prt.yes, Prt.neg, Prt.mag, Prt.raw, Prt.items, List.length_nil]
      subst hv
      obtain ⟨c0, c1, c2, c3, c4, c5⟩ := hbx.c6
      have hle1 := hk1.le
      clear hs1
      have hl3 : acc.length + (⟨#[110, 117, 108, 108]⟩ : ByteArray).size ≤ 1099511627776 := by
        have : (⟨#[110, 117, 108, 108]⟩ : ByteArray).size = 4 := rfl
        omega
      go_enter Try.func28, Try.ntmps28
      go_wp2_with (at_builtin; refine app_str rfl (.tmp 94) _ rfl base _ acc rfl hO1 ⟨#[110, 117, 108, 108]⟩ rfl hl3 hle1 ?_; intro v' w2 ho2 hk2)
      go_ret
      first | exact ⟨v', _, rfl, ho2, hk1.trans hk2, HR⟩ | exact ⟨v', rfl, _, ho2, hk1.trans hk2, HR⟩
    | truth y =>
      cases y with
      | true =>
        have HR : Hid (TxR acc (.mk 1 true false ⟨#[]⟩ ⟨#[]⟩ []) (acc ++ [121, 101, 115])) := by
          have e : txt (.mk 1 true false ⟨#[]⟩ ⟨#[]⟩ []) = [121, 101, 115] := by simp [txt]
          have := TxR.leaf (p := .mk 1 true false ⟨#[]⟩ ⟨#[]⟩ []) hacc (by rw [e]; decide)
          rwa [e] at this
        clear ih hin hmay hp
        simp only [Prt.kind, Prt.yes, Prt.neg, Prt.mag, Prt.raw, Prt.items, List.length_nil] at hb1 hbx hs1 hk1 hO1 HB
        unfold pV
        simp only [Prt.kind, Prt.yes, Prt.neg, Prt.mag, Prt.raw, Prt.items, List.length_nil]
        subst hv
        obtain ⟨c0, c1, c2, c3, c4, c5⟩ := hbx.c6
        have hle1 := hk1.le
        clear hs1
        have hl3 : acc.length + (⟨#[121, 101, 115]⟩ : ByteArray).size ≤ 1099511627776 := by
          have : (⟨#[121, 101, 115]⟩ : ByteArray).size ≤ 3 := by decide
          omega
        go_enter Try.func28, Try.ntmps28
        go_wp2_with (at_builtin; refine app_str rfl (.tmp 18) _ rfl base _ acc rfl hO1 ⟨#[121, 101, 115]⟩ rfl hl3 hle1 ?_; intro v' w2 ho2 hk2)
        go_ret
        first | exact ⟨v', _, rfl, ho2, hk1.trans hk2, HR⟩ | exact ⟨v', rfl, _, ho2, hk1.trans hk2, HR⟩
      | false =>
        have HR : Hid (TxR acc (.mk 1 false false ⟨#[]⟩ ⟨#[]⟩ []) (acc ++ [110, 111])) := by
          have e : txt (.mk 1 false false ⟨#[]⟩ ⟨#[]⟩ []) = [110, 111] := by simp [txt]
          have := TxR.leaf (p := .mk 1 false false ⟨#[]⟩ ⟨#[]⟩ []) hacc (by rw [e]; decide)
          rwa [e] at this
        clear ih hin hmay hp
        simp only [Prt.kind, Prt.yes, Prt.neg, Prt.mag, Prt.raw, Prt.items, List.length_nil] at hb1 hbx hs1 hk1 hO1 HB
        unfold pV
        simp only [Prt.kind, Prt.yes, Prt.neg, Prt.mag, Prt.raw, Prt.items, List.length_nil]
        subst hv
        obtain ⟨c0, c1, c2, c3, c4, c5⟩ := hbx.c6
        have hle1 := hk1.le
        clear hs1
        have hl3 : acc.length + (⟨#[110, 111]⟩ : ByteArray).size ≤ 1099511627776 := by
          have : (⟨#[110, 111]⟩ : ByteArray).size ≤ 3 := by decide
          omega
        go_enter Try.func28, Try.ntmps28
        go_wp2_with (at_builtin; refine app_str rfl (.tmp 20) _ rfl base _ acc rfl hO1 ⟨#[110, 111]⟩ rfl hl3 hle1 ?_; intro v' w2 ho2 hk2)
        go_ret
        first | exact ⟨v', _, rfl, ho2, hk1.trans hk2, HR⟩ | exact ⟨v', rfl, _, ho2, hk1.trans hk2, HR⟩
    | num b m =>
      have hn2 : numOk b m = true := by
        rw [may_eq] at hmay
        simp [own2, Prt.kind, Prt.neg, Prt.mag] at hmay
        exact hmay.1.2
      have hc0 := numOk_chk hn2
      have hml : m.size ≤ 255 := by rw [Lib.size_eq]; exact (chk_zero hc0).1
      have hpl := printL_len (b := b) (m := m.data.toList) (by rw [← Lib.size_eq]; exact hml)
      have HR : Hid (TxR acc (.mk 2 false b m ⟨#[]⟩ []) (acc ++ printL b m.data.toList)) := by
        have e : txt (.mk 2 false b m ⟨#[]⟩ []) = printL b m.data.toList := by simp [txt]
        have := TxR.leaf (p := .mk 2 false b m ⟨#[]⟩ []) hacc (by rw [e]; omega)
        rwa [e] at this
      have hpr := fun w' => rprint_any b m (by omega) w'
      simp only [printE, hc0, if_pos] at hpr
      clear ih hin hmay hp
      simp only [Prt.kind, Prt.yes, Prt.neg, Prt.mag, Prt.raw, Prt.items, List.length_nil] at hb1 hbx hs1 hk1 hO1 HB
      unfold pV
      simp only [Prt.kind, Prt.yes, Prt.neg, Prt.mag, Prt.raw, Prt.items, List.length_nil]
      subst hv
      obtain ⟨c0, c1, c2, c3, c4, c5⟩ := hbx.c6
      have hle1 := hk1.le
      clear hs1
      have hl3 : acc.length + (bs (printL b m.data.toList)).size ≤ 1099511627776 := by rw [bs_size]; omega
      have hd : (bs (printL b m.data.toList)).data.toList = printL b m.data.toList := bs_data _
      generalize bs (printL b m.data.toList) = X at *
      generalize printL b m.data.toList = XL at *
      clear hn2 hc0
      go_enter Try.func28, Try.ntmps28
      go_upto_region 9 with fail
      generalize w.alloc (.cells #[.int .u8 2, .bool false, .bool b, .string m, .string ⟨#[]⟩, .slice a 0 c] 27) = w1 at *
      go_wp2_with fail
      refine (hpr w1).mono ?_
      rintro _ w2 ⟨rfl, hb2⟩
      have hO2 := below_own hb2 hO1
      have hk2 := Kt.old hb2 hle1
      have hle2 := hk2.le
      clear hO1 hpr
      go_wp2_with (at_builtin; refine app_str rfl (.tmp 30) _ rfl base _ acc rfl hO2 X rfl hl3 hle2 ?_; intro v' w3 ho3 hk3)
      go_ret
      rw [hd] at ho3
      first | exact ⟨v', _, rfl, ho3, (hk1.trans hk2).trans hk3, HR⟩ | exact ⟨v', rfl, _, ho3, (hk1.trans hk2).trans hk3, HR⟩
    | raw k r hk =>
      have hrl := raw_len hk hmay
      have hk' : k = 3 ∨ k = 4 ∨ k = 5 ∨ k = 6 := by simpa [isRawK, or_assoc] using hk
      have ht : txt (.mk k false false ⟨#[]⟩ r []) = rawTxt k r.data.toList := by
        have h0 : k ≠ 0 := by omega
        have h1 : k ≠ 1 := by omega
        have h2 : k ≠ 2 := by omega
        have h7 : k ≠ 7 := by omega
        simp [txt, h0, h1, h2, h7]
      have hrt := rawTxt_len (k := k) hrl
      have HR : Hid (TxR acc (.mk k false false ⟨#[]⟩ r []) (acc ++ rawTxt k r.data.toList)) := by
        have := TxR.leaf (p := .mk k false false ⟨#[]⟩ r []) hacc (by rw [ht]; exact hrt)
        rwa [ht] at this
      have hdg := fun w' => rdigits10_any r hrl w'
      have hqt := fun q w' => rquoted_any q r hrl w'
      clear ht hk
      rcases hk' with rfl | rfl | rfl | rfl
      · have hfx : rawTxt 3 r.data.toList = [120] ++ r.data.toList.flatMap hex2 := rfl
        rw [hfx] at HR hrt
        clear ih hin hmay hp
        simp only [Prt.kind, Prt.yes, Prt.neg, Prt.mag, Prt.raw, Prt.items, List.length_nil] at hb1 hbx hs1 hk1 hO1 HB
        unfold pV
        simp only [Prt.kind, Prt.yes, Prt.neg, Prt.mag, Prt.raw, Prt.items, List.length_nil]
        subst hv
        obtain ⟨c0, c1, c2, c3, c4, c5⟩ := hbx.c6
        have hle1 := hk1.le
        clear hs1
        clear hqt hfx
        have hrt2 : (r.data.toList.flatMap hex2).length ≤ 330000 := by simp only [List.length_append] at hrt; omega
        generalize r.data.toList.flatMap hex2 = XL at *
        go_enter Try.func28, Try.ntmps28
        go_upto_region 12 with fail
        generalize w.alloc (.cells #[.int .u8 3, .bool false, .bool false, .string ⟨#[]⟩, .string r, .slice a 0 c] 27) = w1 at *
        have hl2 : acc.length + ([120] : List UInt8).length ≤ 1099511627776 := by simp; omega
        go_wp2_with (at_builtin; refine app_bytes rfl (.tmp 35) (.tmp 36) rfl base _ acc rfl hO1 [120] _ rfl 1 rfl rfl hl2 hle1 ?_; intro v2 w2 ho2 hk2; have hle2 := hk2.le; obtain ⟨c0, c1, c2, c3, c4, c5⟩ := (hk2.typed _ _ _ (by decide) HB.out).c6)
        refine (hdg w2).mono ?_
        rintro _ w3 ⟨v3, rfl, ho3, hb3⟩
        have ho23 := below_own hb3 ho2
        have hk3 := Kt.old hb3 hle2
        have hle3 := hk3.le
        have hl3 : (acc ++ [120]).length + XL.length ≤ 1099511627776 := by simp only [List.length_append, List.length_cons, List.length_nil]; omega
        obtain ⟨B1, hB1⟩ : ∃ B1, acc ++ [120] = B1 := ⟨_, rfl⟩
        rw [hB1] at ho2 ho23 hl3
        have HB1 : Hid _ := hB1
        clear hB1
        obtain ⟨av2, cv2, rfl⟩ := row_val ho2
        obtain ⟨av3, cv3, rfl⟩ := row_val ho3
        go_wp2_with (at_builtin; refine app_row rfl (.tmp 38) (.tmp 41) rfl base _ _ _ B1 XL rfl ho23 rfl ho3 hl3 hle3 ?_; intro v4 w4 ho4 hk4)
        go_ret
        exact ⟨v4, _, rfl, by rw [← List.append_assoc, HB1.out]; exact ho4, ((hk1.trans hk2).trans hk3).trans hk4, HR⟩
      · have hfx : rawTxt 4 r.data.toList = [35] ++ r.data.toList.flatMap hex2 := rfl
        rw [hfx] at HR hrt
        clear ih hin hmay hp
        simp only [Prt.kind, Prt.yes, Prt.neg, Prt.mag, Prt.raw, Prt.items, List.length_nil] at hb1 hbx hs1 hk1 hO1 HB
        unfold pV
        simp only [Prt.kind, Prt.yes, Prt.neg, Prt.mag, Prt.raw, Prt.items, List.length_nil]
        subst hv
        obtain ⟨c0, c1, c2, c3, c4, c5⟩ := hbx.c6
        have hle1 := hk1.le
        clear hs1
        clear hqt hfx
        have hrt2 : (r.data.toList.flatMap hex2).length ≤ 330000 := by simp only [List.length_append] at hrt; omega
        generalize r.data.toList.flatMap hex2 = XL at *
        go_enter Try.func28, Try.ntmps28
        go_upto_region 15 with fail
        generalize w.alloc (.cells #[.int .u8 4, .bool false, .bool false, .string ⟨#[]⟩, .string r, .slice a 0 c] 27) = w1 at *
        have hl2 : acc.length + ([35] : List UInt8).length ≤ 1099511627776 := by simp; omega
        go_wp2_with (at_builtin; refine app_bytes rfl (.tmp 45) (.tmp 46) rfl base _ acc rfl hO1 [35] _ rfl 1 rfl rfl hl2 hle1 ?_; intro v2 w2 ho2 hk2; have hle2 := hk2.le; obtain ⟨c0, c1, c2, c3, c4, c5⟩ := (hk2.typed _ _ _ (by decide) HB.out).c6)
        refine (hdg w2).mono ?_
        rintro _ w3 ⟨v3, rfl, ho3, hb3⟩
        have ho23 := below_own hb3 ho2
        have hk3 := Kt.old hb3 hle2
        have hle3 := hk3.le
        have hl3 : (acc ++ [35]).length + XL.length ≤ 1099511627776 := by simp only [List.length_append, List.length_cons, List.length_nil]; omega
        obtain ⟨B1, hB1⟩ : ∃ B1, acc ++ [35] = B1 := ⟨_, rfl⟩
        rw [hB1] at ho2 ho23 hl3
        have HB1 : Hid _ := hB1
        clear hB1
        obtain ⟨av2, cv2, rfl⟩ := row_val ho2
        obtain ⟨av3, cv3, rfl⟩ := row_val ho3
        go_wp2_with (at_builtin; refine app_row rfl (.tmp 48) (.tmp 51) rfl base _ _ _ B1 XL rfl ho23 rfl ho3 hl3 hle3 ?_; intro v4 w4 ho4 hk4)
        go_ret
        exact ⟨v4, _, rfl, by rw [← List.append_assoc, HB1.out]; exact ho4, ((hk1.trans hk2).trans hk3).trans hk4, HR⟩
      · have hfx : rawTxt 5 r.data.toList = 39 :: (r.data.toList.flatMap (spelt 39) ++ [39]) := rfl
        rw [hfx] at HR hrt
        have hq2 : ∀ w', Calls Try.prog 47 #[.string r, .int .u8 39] w' fun e w'' => ∃ v, e = .returned v ∧ BOwn 5 w'' w'.heap.size v (39 :: (r.data.toList.flatMap (spelt 39) ++ [39])) ∧ Below w'.heap.size w' w'' := fun w' => hqt 39 w'
        clear ih hin hmay hp
        simp only [Prt.kind, Prt.yes, Prt.neg, Prt.mag, Prt.raw, Prt.items, List.length_nil] at hb1 hbx hs1 hk1 hO1 HB
        unfold pV
        simp only [Prt.kind, Prt.yes, Prt.neg, Prt.mag, Prt.raw, Prt.items, List.length_nil]
        subst hv
        obtain ⟨c0, c1, c2, c3, c4, c5⟩ := hbx.c6
        have hle1 := hk1.le
        clear hs1
        clear hqt hfx hdg
        generalize 39 :: (r.data.toList.flatMap (spelt 39) ++ [39]) = XL at *
        go_enter Try.func28, Try.ntmps28
        go_upto_region 18 with fail
        generalize w.alloc (.cells #[.int .u8 5, .bool false, .bool false, .string ⟨#[]⟩, .string r, .slice a 0 c] 27) = w1 at *
        go_wp2_with fail
        refine (hq2 w1).mono ?_
        rintro _ w3 ⟨v3, rfl, ho3, hb3⟩
        have ho23 := below_own hb3 hO1
        have hk3 := Kt.old hb3 hle1
        have hle3 := hk3.le
        have hl3 : acc.length + XL.length ≤ 1099511627776 := by omega
        obtain ⟨av3, cv3, rfl⟩ := row_val ho3
        go_wp2_with (at_builtin; refine app_row rfl (.tmp 55) (.tmp 58) rfl base _ _ _ acc XL rfl ho23 rfl ho3 hl3 hle3 ?_; intro v4 w4 ho4 hk4)
        go_ret
        exact ⟨v4, _, rfl, ho4, (hk1.trans hk3).trans hk4, HR⟩
      · have hfx : rawTxt 6 r.data.toList = 34 :: (r.data.toList.flatMap (spelt 34) ++ [34]) := rfl
        rw [hfx] at HR hrt
        have hq2 : ∀ w', Calls Try.prog 47 #[.string r, .int .u8 34] w' fun e w'' => ∃ v, e = .returned v ∧ BOwn 5 w'' w'.heap.size v (34 :: (r.data.toList.flatMap (spelt 34) ++ [34])) ∧ Below w'.heap.size w' w'' := fun w' => hqt 34 w'
        clear ih hin hmay hp
        simp only [Prt.kind, Prt.yes, Prt.neg, Prt.mag, Prt.raw, Prt.items, List.length_nil] at hb1 hbx hs1 hk1 hO1 HB
        unfold pV
        simp only [Prt.kind, Prt.yes, Prt.neg, Prt.mag, Prt.raw, Prt.items, List.length_nil]
        subst hv
        obtain ⟨c0, c1, c2, c3, c4, c5⟩ := hbx.c6
        have hle1 := hk1.le
        clear hs1
        clear hqt hfx hdg
        generalize 34 :: (r.data.toList.flatMap (spelt 34) ++ [34]) = XL at *
        go_enter Try.func28, Try.ntmps28
        go_upto_region 20 with fail
        generalize w.alloc (.cells #[.int .u8 6, .bool false, .bool false, .string ⟨#[]⟩, .string r, .slice a 0 c] 27) = w1 at *
        go_wp2_with fail
        refine (hq2 w1).mono ?_
        rintro _ w3 ⟨v3, rfl, ho3, hb3⟩
        have ho23 := below_own hb3 hO1
        have hk3 := Kt.old hb3 hle1
        have hle3 := hk3.le
        have hl3 : acc.length + XL.length ≤ 1099511627776 := by omega
        obtain ⟨av3, cv3, rfl⟩ := row_val ho3
        go_wp2_with (at_builtin; refine app_row rfl (.tmp 62) (.tmp 65) rfl base _ _ _ acc XL rfl ho23 rfl ho3 hl3 hle3 ?_; intro v4 w4 ho4 hk4)
        go_ret
        exact ⟨v4, _, rfl, ho4, (hk1.trans hk3).trans hk4, HR⟩
    | tup l' hll hall =>
      injection hp with e1 e2 e3 e4 e5 e6
      subst e6
      clear e1 e2 e3 e4 e5
      have hm : ∀ x ∈ l, may x = true := List.all_eq_true.1 hall
      have hih : ∀ x ∈ l, TxOk x := fun x hx => ih x hx (hm x hx)
      have hwt : wt (.mk 7 false false ⟨#[]⟩ ⟨#[]⟩ l) = 16 + wtL l := by rw [wt]; simp [ByteArray.size]
      rw [hwt] at hlen
      obtain ⟨ln, hl⟩ : ∃ ln, l.length = ln := ⟨_, rfl⟩
      have HLN : Hid (l.length = ln) := hl
      have HI : Hid (PIn w lo n₀ (.mk 7 false false ⟨#[]⟩ ⟨#[]⟩ l) a) := hin
      have HHI : Hid _ := hih
      simp only [Prt.kind, Prt.yes, Prt.neg, Prt.mag, Prt.raw, Prt.items] at hb1 hbx hs1 hk1 hO1 HB
      unfold pV
      simp only [Prt.kind, Prt.yes, Prt.neg, Prt.mag, Prt.raw, Prt.items]
      rw [hl] at hll hb1 hbx hs1 hk1 hO1 HB ⊢
      subst hv
      obtain ⟨c0, c1, c2, c3, c4, c5⟩ := hbx.c6
      have hle1 := hk1.le
      have HWT : Hid (wt (.mk 7 false false ⟨#[]⟩ ⟨#[]⟩ l) = 16 + wtL l) := hwt
      have hbw : Below base w _ := hk1.below
      clear hs1 ih hin hmay hih hwt hl hall
      go_enter Try.func28, Try.ntmps28
      go_upto_region 22 with fail
      generalize w.alloc (.cells #[.int .u8 7, .bool false, .bool false, .string ⟨#[]⟩, .string ⟨#[]⟩, .slice a ln c] 27) = w1 at *
      have hl2 : acc.length + ([40] : List UInt8).length ≤ 1099511627776 := by simp; omega
      go_wp2_with (at_builtin; refine app_bytes rfl (.tmp 69) (.tmp 70) rfl base _ acc rfl hO1 [40] _ rfl 1 rfl rfl hl2 hle1 ?_; intro v2 w2 ho2 hk2)
      go_loopw [0, 7] (fun v iv wr => ∃ (j : Nat) (R : List UInt8), j ≤ ln ∧ iv = .int .i64 (j : Int) ∧ BOwn 5 wr base v R ∧ Kt base w1 wr ∧ R.length ≤ max acc.length 400000 + 1 + wtL (l.take j) ∧ Hid (if acc.length + 1 + ((txtB (l.take j)).drop 1).length ≤ 65536 then R = acc ++ [40] ++ (txtB (l.take j)).drop 1 else 65536 < R.length)) (fun _ iv _ => ln - (intOf iv).toNat)
      case atStart =>
        refine ⟨0, acc ++ [40], Nat.zero_le _, rfl, ho2, hk2, by simp [wtL]; omega, ?_⟩
        show if _ then _ else _
        simp only [List.take_zero, txtB, List.drop_nil, List.length_nil, List.append_nil]
        split
        · first | rfl | trivial
        · simp only [List.length_append, List.length_cons, List.length_nil]; omega
      case round =>
        clear ho2 hk2 hO1 c0 c1 c2 c3 c4 c5
        obtain ⟨j, R, hj, rfl, hown2, hkr, hRl, HRR⟩ := hrel
        have hler := hkr.le
        obtain ⟨av2, cv2, rfl⟩ := row_val hown2
        obtain ⟨c0, c1, c2, c3, c4, c5⟩ := (hkr.typed _ _ _ (by decide) HB.out).c6
        have hbj : Below base w wr := hbw.trans hkr.below
        by_cases hlt : j < ln
        · have hlt2 : j < l.length := by rw [HLN.out]; exact hlt
          obtain ⟨bb, off, aj, cj, ha, _, hbbn, hrow, hinj⟩ := (HI.out.keep hbj hn).at hlt2
          simp only [Prt.items] at ha hrow hinj
          subst ha
          obtain ⟨x, hx⟩ : ∃ x, l[j] = x := ⟨_, rfl⟩
          have HX : Hid (l[j] = x) := hx
          have hxm : x ∈ l := by rw [← hx]; exact List.getElem_mem hlt2
          have hwx := wtL_mem hxm
          have hwj := wtL_takes l (j + 1)
          have hwj2 := wtL_take l j hlt2
          rw [hx] at hwj2
          rw [hx] at hrow hinj
          have HROW : Hid (Row6 wr bb (off + j * 6) x aj cj) := hrow
          have hbb : bb < base := by omega
          obtain ⟨r0, r1, r2, r3, r4, r5⟩ := hrow
          have HIJ : Hid (PIn wr lo n₀ x aj) := hinj
          have hf1 := txtB_fst l
          have hf2 := txtB_nxt l j
          obtain ⟨hbnd, hbnd0, hb1e9⟩ := bnd_aux hlen hRl (show wtL (l.take j) + wt x ≤ wtL l by rw [← hwj2]; exact hwj)
          clear hx hinj hm
          by_cases h0 : j = 0
          · subst h0
            have t0 : decide ((0 : Int) < ((0 : Nat) : Int)) = false := rfl
            simp only [Nat.zero_mul, Nat.add_zero] at r0 r1 r2 r3 r4 r5
            have hcall := HHI.out x hxm (.slice av2 R.length cv2) R aj cj lo n₀ base wr hn hler HIJ.out hown2 hbnd0
            unfold pV at hcall
            clear HIJ
            go_wp2_with fail
            refine hcall.mono ?_
            rintro _ w5 ⟨v5, R5, rfl, ho5, hk5, HT5⟩
            obtain ⟨t1, t2⟩ := HT5.out
            have hk15 := hkr.trans hk5
            go_wp2_with fail
            go_roundw
            case rel =>
              refine ⟨1, R5, by omega, rfl, ho5, hk15, by rw [wtL_take l 0 hlt2, HX.out]; omega, ?_⟩
              show if _ then _ else _
              have e := hf1 hlt2
              rw [HX.out] at e
              rw [e]
              have hR := HRR.out
              simp only [List.take_zero, txtB, List.drop_nil, List.length_nil, List.append_nil] at hR
              exact tx_first hR t2
            case measure => simp only [intOf]; omega
          · have t0 : decide ((0 : Int) < (j : Int)) = true := decide_eq_true (by omega)
            have hl4 : R.length + ([32] : List UInt8).length ≤ 1099511627776 := by simp; omega
            have e := hf2 (by omega) hlt2
            rw [HX.out] at e
            have HE : Hid _ := e
            clear e hf1 hf2
            go_wp2_with (at_builtin; refine app_bytes rfl (.tmp 81) (.tmp 82) rfl base _ R rfl hown2 [32] _ rfl 1 rfl rfl hl4 hler ?_; intro v3 w3 ho3 hk3; obtain ⟨d0, d1, d2, d3, d4, d5⟩ := ((hkr.trans hk3).typed _ _ _ (by decide) HB.out).c6; obtain ⟨s0, s1, s2, s3, s4, s5⟩ := HROW.out.below hk3.below hbb)
            have hk13 := hkr.trans hk3
            have hle3 := hk13.le
            have hcall := HHI.out x hxm v3 (R ++ [32]) aj cj lo n₀ base w3 hn hle3 (HIJ.out.keep hk3.below hn) ho3 (by rw [List.length_append]; exact hbnd)
            unfold pV at hcall
            clear HIJ c0 c1 c2 c3 c4 c5 r0 r1 r2 r3 r4 r5
            obtain ⟨R2, hR2⟩ : ∃ R2, R ++ [32] = R2 := ⟨_, rfl⟩
            have HR2 : Hid _ := hR2
            rw [hR2] at hcall ho3
            clear hR2
            refine hcall.mono ?_
            rintro _ w5 ⟨v5, R5, rfl, ho5, hk5, HT5⟩
            obtain ⟨t1, t2⟩ := HT5.out
            have hk15 := hk13.trans hk5
            have hR2l : R2.length = R.length + 1 := by rw [← HR2.out]; simp
            have HL2 : Hid (R2.length = R.length + 1) := hR2l
            clear hR2l
            go_wp2_with fail
            go_roundw
            case rel =>
              have hR2l := HL2.out
              refine ⟨j + 1, R5, by omega, by simp, ho5, hk15, by rw [wtL_take l j hlt2, HX.out]; omega, ?_⟩
              show if _ then _ else _
              rw [HE.out]
              exact tx_next HRR.out HR2.out t2
            case measure => simp only [intOf]; omega
        · have hjl : l.take j = l := List.take_of_length_le (by rw [HLN.out]; omega)
          rw [hjl] at hRl HRR
          have hl5 : R.length + ([41] : List UInt8).length ≤ 1099511627776 := by simp; omega
          have HT : Hid (TxR acc (.mk 7 false false ⟨#[]⟩ ⟨#[]⟩ l) (R ++ [41])) := tx_end HRR.out hRl HWT.out
          clear HRR HI HHI hm
          go_wp2_with (at_builtin; refine app_bytes rfl (.tmp 91) (.tmp 92) rfl base _ R rfl hown2 [41] _ rfl 1 rfl rfl hl5 hler ?_; intro v3 w3 ho3 hk3)
          go_ret
          first | exact ⟨v3, _, rfl, ho3, (hk1.trans hkr).trans hk3, HT⟩ | exact ⟨v3, rfl, _, ho3, (hk1.trans hkr).trans hk3, HT⟩
end Go.Proofs.Ytffhbellpcneeaa
