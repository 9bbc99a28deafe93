/- Contracts and lemmas (nothing is claimed here). -/
import Derived.Test.YtcbjnifoojjipaaGreatDoorSTof
import Derived.Test.YtcbjnifoojjipaaGreatDoorSByt
import Derived.Test.YtcbjnifoojjipaaGreatDoorJ21
namespace Go.Proofs.YtcbjnifoojjipaaGreatDoor
open Go.RowKit Go.Vf
mutual
def fieldL : Fld → List UInt8 → List UInt8
  | .mk o l, ahead => ahead ++ [102, 105, 101, 108, 100] ++ toldF o ++ [10] ++ (if o.kind = 7 then fieldsL l (ahead ++ [32, 32]) ++ (ahead ++ [101, 110, 100] ++ [10]) else [])
def fieldsL : List Fld → List UInt8 → List UInt8
  | [], _ => []
  | f :: r, ahead => fieldL f ahead ++ fieldsL r ahead
end
inductive OkP : Fld → Prop where
  | mk {f : Fld} : 1 ≤ f.own.kind → f.own.kind ≤ 7 → (∀ x ∈ f.fields, OkP x) → OkP f
theorem fieldL_eq (x : Fld) (ahead : List UInt8) : fieldL x ahead = (ahead ++ [102, 105, 101, 108, 100] ++ toldF x.own ++ [10]) ++ (if x.own.kind = 7 then fieldsL x.fields (ahead ++ [32, 32]) ++ (ahead ++ [101, 110, 100] ++ [10]) else []) := by
  cases x; rw [fieldL]; rfl
theorem fieldsL_drop (l : List Fld) (ahead : List UInt8) {j : Nat} (hj : j < l.length) : fieldsL (l.drop j) ahead = fieldL l[j] ahead ++ fieldsL (l.drop (j + 1)) ahead := by
  rw [List.drop_eq_getElem_cons hj, fieldsL]
def ApOk (l : List Fld) : Prop := ∀ (ahead acc : List UInt8) (v : Value) (base : Nat) (aa : Option Addr) (ca lo n₀ : Nat) (w : World), BO w base v acc → base ≤ w.heap.size → n₀ ≤ base → FIn w lo n₀ l aa → 5 ≤ base → Env w → (acc ++ fieldsL l ahead).length ≤ 500000 → ahead.length ≤ 500000 →
  Calls Tryz.prog 71 #[v, .slice aa l.length ca, .string (bs ahead)] w fun e w' => ∃ v', e = .returned v' ∧ BO w' base v' (acc ++ fieldsL l ahead) ∧ Below base w w' ∧ KO w w'
set_option maxHeartbeats 16000000 in
set_option maxRecDepth 20000 in
theorem apF_step (l : List Fld) (hl : l.length ≤ 17179869184) (hok : ∀ x ∈ l, OkP x) (hfit : ∀ x ∈ l, FitsF 17179869184 x) (ih : ∀ x ∈ l, ApOk x.fields) : ApOk l := by
  intro ahead acc v base aa ca lo n₀ w hown hbase hn₀ hin h5 hE hlen hah
  obtain ⟨ln, hln⟩ : ∃ ln, l.length = ln := ⟨_, rfl⟩
  have HLN : Hid (l.length = ln) := hln
  rw [hln] at hl ⊢
  clear hln
  have HIN : Hid (∀ w1, Below base w w1 → FIn w1 lo n₀ l aa) := fun w1 h => hin.keep h hn₀
  have HEn : Hid (∀ w1, Below base w w1 → Env w1) := fun w1 h => hE.low h h5
  obtain ⟨R, hR⟩ : ∃ R, acc ++ fieldsL l ahead = R := ⟨_, rfl⟩
  rw [hR] at hlen ⊢
  have HR : Hid (acc ++ fieldsL (l.drop 0) ahead = R) := by rw [List.drop_zero]; exact hR
  obtain ⟨g0, cap0, rfl⟩ := bo_val hown
  have HOW : Hid (BO w base (.slice (some ⟨g0, 0, none⟩) acc.length cap0) acc) := hown
  have hal : acc.length ≤ 500000 := by rw [← hR] at hlen; simp only [List.length_append] at hlen; omega
  have hbz : (bs ahead).size ≤ 500000 := by rw [bs_size]; exact hah
  clear hin hE hR hown
  go_enter Tryz.func71, Tryz.ntmps71
  go_wp2_with fail
  go_loopw [0, 11] (fun sv iv wr => ∃ (j : Nat) (ac : List UInt8) (av : Option Addr) (cv : Nat), j ≤ ln ∧ iv = .int .i64 (j : Int) ∧ sv = .slice av ac.length cv ∧ Hid (BO wr base (.slice av ac.length cv) ac) ∧ Hid (ac ++ fieldsL (l.drop j) ahead = R) ∧ Below base w wr ∧ base ≤ wr.heap.size ∧ Hid (KO w wr)) (fun _ iv _ => ln - (intOf iv).toNat)
  case atStart => exact ⟨0, acc, some ⟨g0, 0, none⟩, cap0, Nat.zero_le _, rfl, rfl, HOW, HR, Below.refl _ _, hbase, KO.refl _⟩
  case round =>
    clear HR HOW hal
    obtain ⟨j, ac, av, cv, hj, rfl, rfl, HOW, HR, hb, hbs, HKO⟩ := hrel
    by_cases hlt : j < ln
    · have tl : decide ((j : Int) < (ln : Int)) = true := decide_eq_true (by omega)
      have tl2 : decide (j < ln) = true := decide_eq_true hlt
      have hji : (j : Int) < (ln : Int) := by omega
      have hjl : j < l.length := by rw [HLN.out]; exact hlt
      obtain ⟨bb, off, aj, cj, ha, _, hbb, hrow, hinj⟩ := (HIN.out wr hb).at hjl
      subst ha
      obtain ⟨x, hx⟩ : ∃ x, l[j] = x := ⟨_, rfl⟩
      have hox := hok l[j] (List.getElem_mem hjl)
      have hfx := hfit l[j] (List.getElem_mem hjl)
      have hap := ih l[j] (List.getElem_mem hjl)
      have hRj := HR.out
      rw [fieldsL_drop l ahead hjl, hx, fieldL_eq] at hRj
      rw [hx] at hrow hinj hox hfx hap
      have HAP : Hid (ApOk x.fields) := hap
      have HI : Hid (FIn wr lo n₀ x.fields aj) := hinj
      obtain ⟨q1, q7⟩ : 1 ≤ x.own.kind ∧ x.own.kind ≤ 7 := by cases hox; exact ⟨by assumption, by assumption⟩
      have hxo := hfx.own
      have HRJ : Hid (ac ++ ((ahead ++ [102, 105, 101, 108, 100] ++ toldF x.own ++ [10]) ++ (if x.own.kind = 7 then fieldsL x.fields (ahead ++ [32, 32]) ++ (ahead ++ [101, 110, 100] ++ [10]) else []) ++ fieldsL (l.drop (j + 1)) ahead) = R) := hRj
      have hlj : ac.length + (ahead.length + 5 + (toldF x.own).length + 1) ≤ 500000 := by
        have h := congrArg List.length HRJ.out
        simp only [List.length_append, List.length_cons, List.length_nil] at h
        omega
      have htf : ∀ W, Env W → Calls Tryz.prog 93 #[.agg #[.string x.own.name, .int .u8 x.own.kind, .bool x.own.down, .int .u8 x.own.nulls, .bool x.own.bnd, .bool x.own.ln, .string x.own.lm, .bool x.own.hn, .string x.own.hm, .int .i64 x.own.most, .int .i64 x.own.str, .bool x.own.shf, .bool x.own.bck, .slice aj x.fields.length cj]] W fun e w' => e = .returned (.string (bs (toldF x.own))) ∧ Below W.heap.size W w' := fun W hW => toldField_any x.own q1 q7 aj x.fields.length cj hxo.lm hxo.hm hxo.m0 (by have := hxo.m1; omega) hxo.s0 (by have := hxo.s1; omega) (by omega) W hW
      obtain ⟨r0, r1, r2, r3, r4, r5, r6, r7, r8, r9, r10, r11, r12, r13⟩ := hrow
      have hN1 := Blk.new wr 48 #[.string x.own.name, .int .u8 x.own.kind, .bool x.own.down, .int .u8 x.own.nulls, .bool x.own.bnd, .bool x.own.ln, .string x.own.lm, .bool x.own.hn, .string x.own.hm, .int .i64 x.own.most, .int .i64 x.own.str, .bool x.own.shf, .bool x.own.bck, .slice aj x.fields.length cj]
      have hq1 := (Below.refl wr.heap.size wr).alloc (Nat.le_refl _) (.cells #[.string x.own.name, .int .u8 x.own.kind, .bool x.own.down, .int .u8 x.own.nulls, .bool x.own.bnd, .bool x.own.ln, .string x.own.lm, .bool x.own.hn, .string x.own.hm, .int .i64 x.own.most, .int .i64 x.own.str, .bool x.own.shf, .bool x.own.bck, .slice aj x.fields.length cj] 48)
      clear hx hRj hox hfx hap hinj hxo HR
      go_upto_region 4 with fail
      generalize wr.alloc (.cells #[.string x.own.name, .int .u8 x.own.kind, .bool x.own.down, .int .u8 x.own.nulls, .bool x.own.bnd, .bool x.own.ln, .string x.own.lm, .bool x.own.hn, .string x.own.hm, .int .i64 x.own.most, .int .i64 x.own.str, .bool x.own.shf, .bool x.own.bck, .slice aj x.fields.length cj] 48) = w1 at *
      clear r0 r1 r2 r3 r4 r5 r6 r7 r8 r9 r10 r11 r12 r13
      have hb1 := hb.trans (hq1.mono hbs)
      have HO1 : Hid (BO w1 base (.slice av ac.length cv) ac) := bo_after HOW.out hq1
      have HK1 : Hid (KO w w1) := HKO.out.trans (KO.of_below hq1)
      have hz1 := hq1.size
      have ht1 := htf w1 (HEn.out w1 hb1)
      obtain ⟨c0, c1, c2, c3, c4, c5, c6, c7, c8, c9, c10, c11, c12, c13⟩ := hN1.c14
      have s1 : (bs ahead ++ (⟨#[102, 105, 101, 108, 100]⟩ : ByteArray)).size ≤ 600000 := by rw [show (⟨#[102, 105, 101, 108, 100]⟩ : ByteArray) = bs [102, 105, 101, 108, 100] from rfl, bs_add, bs_size]; simp; omega
      have s2 : (bs (toldF x.own)).size ≤ 600000 := by rw [bs_size]; omega
      have s3 : (bs ahead ++ (⟨#[102, 105, 101, 108, 100]⟩ : ByteArray) ++ bs (toldF x.own)).size ≤ 1200000 := by rw [show (⟨#[102, 105, 101, 108, 100]⟩ : ByteArray) = bs [102, 105, 101, 108, 100] from rfl, bs_add, bs_add, bs_size]; simp; omega
      have hEq : Value.string (bs ahead ++ (⟨#[102, 105, 101, 108, 100]⟩ : ByteArray) ++ bs (toldF x.own) ++ (⟨#[10]⟩ : ByteArray)) = .string (bs (ahead ++ [102, 105, 101, 108, 100] ++ toldF x.own ++ [10])) := by
        rw [← bs_add, ← bs_add, ← bs_add]; rfl
      have HEQ : Hid (Value.string (bs ahead ++ (⟨#[102, 105, 101, 108, 100]⟩ : ByteArray) ++ bs (toldF x.own) ++ (⟨#[10]⟩ : ByteArray)) = .string (bs (ahead ++ [102, 105, 101, 108, 100] ++ toldF x.own ++ [10]))) := hEq
      clear hEq htf
      go_wp2_with fail
      refine ht1.mono ?_
      rintro _ w2 ⟨rfl, hb2⟩
      have hb02 := hb1.trans (hb2.mono (by omega))
      have hN2 := hN1.old hb2
      have HO2 : Hid (BO w2 base (.slice av ac.length cv) ac) := bo_after HO1.out hb2
      have HK2 : Hid (KO w w2) := HK1.out.trans (KO.of_below hb2)
      have hz2 := hb2.size
      clear ht1 c0 c1 c2 c3 c4 c5 c6 c7 c8 c9 c10 c11 c12 c13 HO1 HK1
      generalize htf' : toldF x.own = TF at *
      have hln2 : ac.length + (ahead ++ [102, 105, 101, 108, 100] ++ TF ++ [10]).length ≤ 1099511627776 := by simp only [List.length_append, List.length_cons, List.length_nil]; omega
      have hbs2 : base ≤ w2.heap.size := by omega
      go_upto_region 5 with (first | (at_builtin; refine wpList_append_text rfl _ _ rfl base _ ac rfl HO2.out (ahead ++ [102, 105, 101, 108, 100] ++ TF ++ [10]) HEQ.out hln2 hbs2 ?_; intro v3 w3 hown3 hb3 hbs3 hko3))
      clear hln2 hbs2
      have hb03 := hb02.trans hb3
      have HI3 : Hid (FIn w3 lo n₀ x.fields aj) := ((HI.out.keep hq1 (by omega)).keep hb2 (by omega)).keep hb3 hn₀
      have hN3 : Blk w3 wr.heap.size 48 #[.string x.own.name, .int .u8 x.own.kind, .bool x.own.down, .int .u8 x.own.nulls, .bool x.own.bnd, .bool x.own.ln, .string x.own.lm, .bool x.own.hn, .string x.own.hm, .int .i64 x.own.most, .int .i64 x.own.str, .bool x.own.shf, .bool x.own.bck, .slice aj x.fields.length cj] := hko3 _ _ _ (by decide) hN2
      have HK3 : Hid (KO w w3) := HK2.out.trans hko3
      obtain ⟨g3, cap3, hv3⟩ := bo_val hown3
      obtain ⟨a3, ha3⟩ : ∃ a3 : Option Addr, a3 = some ⟨g3, 0, none⟩ := ⟨_, rfl⟩
      rw [← ha3] at hv3
      subst hv3
      clear ha3
      have HO3 : Hid (BO w3 base (.slice a3 (ac ++ (ahead ++ [102, 105, 101, 108, 100] ++ TF ++ [10])).length cap3) (ac ++ (ahead ++ [102, 105, 101, 108, 100] ++ TF ++ [10]))) := hown3
      have c1 : w3.cell? ⟨wr.heap.size, 1, none⟩ = some (.int .u8 x.own.kind) := hN3.cell 1
      have c13 : w3.cell? ⟨wr.heap.size, 13, none⟩ = some (.slice aj x.fields.length cj) := hN3.cell 13
      obtain ⟨acc2, hacc2⟩ : ∃ acc2, ac ++ (ahead ++ [102, 105, 101, 108, 100] ++ TF ++ [10]) = acc2 := ⟨_, rfl⟩
      rw [hacc2] at HO3
      have HA2 : Hid (ac ++ (ahead ++ [102, 105, 101, 108, 100] ++ TF ++ [10]) = acc2) := hacc2
      clear hown3 hko3 hN2 HO2 HK2 s1 s2 s3 HEQ
      rw [hacc2]
      clear hacc2
      by_cases h7 : x.own.kind = 7
      · have t7 : (x.own.kind == 7) = true := by simpa using h7
        have t8 : decide (x.own.kind = 7) = true := decide_eq_true h7
        have hRR : acc2 ++ fieldsL x.fields (ahead ++ [32, 32]) ++ (ahead ++ [101, 110, 100] ++ [10]) ++ fieldsL (l.drop (j + 1)) ahead = R := by
          rw [← HA2.out, ← HRJ.out, if_pos h7]; simp only [List.append_assoc]
        have hl2 := congrArg List.length hRR
        simp only [List.length_append, List.length_cons, List.length_nil] at hl2
        obtain ⟨acc3, hacc3⟩ : ∃ acc3, acc2 ++ fieldsL x.fields (ahead ++ [32, 32]) = acc3 := ⟨_, rfl⟩
        rw [hacc3] at hRR
        have hca : Calls Tryz.prog 71 #[.slice a3 acc2.length cap3, .slice aj x.fields.length cj, .string (bs ahead ++ (⟨#[32, 32]⟩ : ByteArray))] w3 fun e w' => ∃ v', e = .returned v' ∧ BO w' base v' acc3 ∧ Below base w3 w' ∧ KO w3 w' := by
          rw [← hacc3, show (⟨#[32, 32]⟩ : ByteArray) = bs [32, 32] from rfl, bs_add]
          exact HAP.out (ahead ++ [32, 32]) acc2 _ base aj cj lo n₀ w3 HO3.out hbs3 hn₀ (HI3.out) h5 (HEn.out w3 hb03) (by simp only [List.length_append]; omega) (by simp only [List.length_append, List.length_cons, List.length_nil]; omega)
        have s4 : (bs ahead ++ (⟨#[101, 110, 100]⟩ : ByteArray)).size ≤ 600000 := by rw [show (⟨#[101, 110, 100]⟩ : ByteArray) = bs [101, 110, 100] from rfl, bs_add, bs_size]; simp; omega
        have hEq : Value.string (bs ahead ++ (⟨#[101, 110, 100]⟩ : ByteArray) ++ (⟨#[10]⟩ : ByteArray)) = .string (bs (ahead ++ [101, 110, 100] ++ [10])) := by
          rw [← bs_add, ← bs_add]; rfl
        have HEQ : Hid (Value.string (bs ahead ++ (⟨#[101, 110, 100]⟩ : ByteArray) ++ (⟨#[10]⟩ : ByteArray)) = .string (bs (ahead ++ [101, 110, 100] ++ [10]))) := hEq
        clear h7 hEq
        go_upto_region 7 with (first | (go_at_call 71; refine hca.mono ?_; rintro _ w4 ⟨v4, rfl, hown4, hb4, hko4⟩; obtain ⟨g4, cap4, hv4⟩ := bo_val hown4; obtain ⟨a4, ha4⟩ : ∃ a4 : Option Addr, a4 = some ⟨g4, 0, none⟩ := ⟨_, rfl⟩; rw [← ha4] at hv4; subst hv4; clear ha4))
        have hb04 := hb03.trans hb4
        have hbs4 := Nat.le_trans hbs3 hb4.size
        have hl3 : acc3.length ≤ 500000 := by have h := congrArg List.length hRR; simp only [List.length_append] at h; omega
        have HO4 : Hid (BO w4 base (.slice a4 acc3.length cap4) acc3) := hown4
        have HRR : Hid (acc3 ++ (ahead ++ [101, 110, 100] ++ [10]) ++ fieldsL (l.drop (j + 1)) ahead = R) := hRR
        have HK4 : Hid (KO w w4) := HK3.out.trans hko4
        have hln4 : acc3.length + (ahead ++ [101, 110, 100] ++ [10]).length ≤ 1099511627776 := by simp only [List.length_append, List.length_cons, List.length_nil]; omega
        clear hca hacc3 hown4 hRR hl2 hko4 c1 c13 hN3
        go_wp2_with (first | (at_builtin; refine wpList_append_text rfl _ _ rfl base _ acc3 rfl HO4.out (ahead ++ [101, 110, 100] ++ [10]) HEQ.out hln4 hbs4 ?_; intro v5 w5 hown5 hb5 hbs5 hko5))
        obtain ⟨g5, cap5, hv5⟩ := bo_val hown5
        obtain ⟨a5, ha5⟩ : ∃ a5 : Option Addr, a5 = some ⟨g5, 0, none⟩ := ⟨_, rfl⟩
        rw [← ha5] at hv5
        subst hv5
        clear ha5
        go_roundw
        case rel => exact ⟨j + 1, acc3 ++ (ahead ++ [101, 110, 100] ++ [10]), a5, cap5, by omega, by simp, rfl, hown5, HRR.out, hb04.trans hb5, hbs5, HK4.out.trans hko5⟩
        case measure => simp only [intOf]; omega
      · have t7 : (x.own.kind == 7) = false := by simpa using h7
        have t8 : decide (x.own.kind = 7) = false := decide_eq_false h7
        have hRR : acc2 ++ fieldsL (l.drop (j + 1)) ahead = R := by
          rw [← HA2.out, ← HRJ.out, if_neg h7]; simp only [List.append_assoc, List.append_nil]
        have HRR : Hid (acc2 ++ fieldsL (l.drop (j + 1)) ahead = R) := hRR
        clear h7 hRR
        go_wp2_with fail
        go_roundw
        case rel => exact ⟨j + 1, acc2, a3, cap3, by omega, by simp, rfl, HO3, HRR, hb03, hbs3, HK3⟩
        case measure => simp only [intOf]; omega
    · have tl : decide ((j : Int) < (ln : Int)) = false := decide_eq_false (by omega)
      have tl2 : decide (j < ln) = false := decide_eq_false hlt
      have hjn : j = l.length := by rw [HLN.out]; omega
      have hRR : ac = R := by rw [← HR.out, hjn, List.drop_length, fieldsL, List.append_nil]
      clear hjn
      go_wp2_with fail
      go_ret
      exact ⟨_, rfl, by rw [← hRR]; exact HOW.out, hb, HKO.out⟩
theorem apF_any : ∀ f : Fld, OkP f → FitsF 17179869184 f → ApOk f.fields := by
  intro f
  induction f using Fld.ind with
  | h o l ih =>
    intro ho hf
    have hs : ∀ x ∈ l, OkP x := by cases ho with | mk _ _ h => exact h
    exact apF_step l hf.len hs (fun x hx => hf.mem hx) (fun x hx => ih x hx (hs x hx) (hf.mem hx))
theorem apF_list {l : List Fld} (hl : l.length ≤ 17179869184) (hok : ∀ x ∈ l, OkP x) (hfit : ∀ x ∈ l, FitsF 17179869184 x) : ApOk l := apF_step l hl hok hfit fun x hx => apF_any x (hok x hx) (hfit x hx)
def prnS (limit : Int) (l : List Fld) : List UInt8 := [108, 105, 109, 105, 116] ++ (32 :: Lib.itoa limit) ++ [10] ++ fieldsL l []
set_option maxHeartbeats 4000000 in
set_option maxRecDepth 20000 in
theorem printed_any (limit : Int) (h0 : -9223372036854775808 ≤ limit) (h1 : limit ≤ 9223372036854775807) (l : List Fld) (hl : l.length ≤ 17179869184) (hok : ∀ x ∈ l, OkP x) (hfit : ∀ x ∈ l, FitsF 17179869184 x) (hlen : (prnS limit l).length ≤ 400000) (a : Option Addr) (c lo n₀ : Nat) (w : World) (hn₀ : n₀ ≤ w.heap.size) (hin : FIn w lo n₀ l a) (hE : Env w) :
    Calls Tryz.prog 45 #[.agg #[.int .i64 limit, .slice a l.length c]] w fun e w' => e = .returned (.string (bs (prnS limit l))) ∧ Below w.heap.size w w' := by
  have hb1 := (Below.refl w.heap.size w).alloc (Nat.le_refl _) (.cells #[.int .i64 limit, .slice a l.length c] 25)
  have hS1 := Blk.new w 25 #[.int .i64 limit, .slice a l.length c]
  have hE1 := hE.old hb1
  have hin1 := hin.keep hb1 hn₀
  have hz0 := hE.sz
  unfold prnS at hlen ⊢
  have hli : (Lib.itoa limit).length ≤ 400000 := by simp only [List.length_append, List.length_cons] at hlen; omega
  have hlf : ([108, 105, 109, 105, 116] ++ (32 :: Lib.itoa limit) ++ [10]).length + (fieldsL l []).length ≤ 400000 := by rw [← List.length_append]; exact hlen
  have hit := fun W (hW : Env W) => itoa_any limit h0 h1 W hW
  generalize Lib.itoa limit = I at *
  have HAP : Hid (ApOk l) := apF_list hl hok hfit
  obtain ⟨R, hR⟩ : ∃ R, [108, 105, 109, 105, 116] ++ (32 :: I) ++ [10] ++ fieldsL l [] = R := ⟨_, rfl⟩
  rw [hR]
  have HR : Hid ([108, 105, 109, 105, 116] ++ (32 :: I) ++ [10] ++ fieldsL l [] = R) := hR
  clear hR hlen hin hE hok hfit hl
  go_enter Tryz.func45, Tryz.ntmps45
  go_upto_region 1 with fail
  generalize w.alloc (.cells #[.int .i64 limit, .slice a l.length c] 25) = w1 at *
  have c0 : w1.cell? ⟨w.heap.size, 0, none⟩ = some (.int .i64 limit) := hS1.cell 0
  have hz1 := hb1.size
  have q1 := hit w1 hE1
  go_wp2_with fail
  refine q1.mono ?_
  rintro _ w2 ⟨rfl, hb2⟩
  have hb02 := hb1.trans (hb2.mono hb1.size)
  have hS2 := hS1.old hb2
  have hE2 := hE1.old hb2
  have hz2 := hb2.size
  have q2 := said_any I (by omega) w2
  have z1 : (bs (32 :: I)).size ≤ 1000000 := by rw [bs_size]; simp; omega
  have z2 : ((⟨#[108, 105, 109, 105, 116]⟩ : ByteArray) ++ bs (32 :: I)).size ≤ 2000000 := by rw [show (⟨#[108, 105, 109, 105, 116]⟩ : ByteArray) = bs [108, 105, 109, 105, 116] from rfl, bs_add, bs_size]; simp; omega
  obtain ⟨v, w3, hcv, hbo, hb3⟩ := run_bytes_bo w2 ([108, 105, 109, 105, 116] ++ (32 :: I) ++ [10])
  have hcv2 : (convert 9 130 (.string ((⟨#[108, 105, 109, 105, 116]⟩ : ByteArray) ++ bs (32 :: I) ++ (⟨#[10]⟩ : ByteArray)))).run Tryz.prog w2 = .ok v w3 := by
    rw [show (⟨#[108, 105, 109, 105, 116]⟩ : ByteArray) = bs [108, 105, 109, 105, 116] from rfl, show (⟨#[10]⟩ : ByteArray) = bs [10] from rfl, bs_add, bs_add]; exact hcv
  have hz3 := hb3.size
  clear hit q1 c0 hS1 hcv
  go_wp2_with fail
  refine q2.mono ?_
  rintro _ w4 ⟨rfl, rfl⟩
  clear q2
  go_upto_region 2 with fail
  have hb03 := hb02.trans (hb3.mono hb02.size)
  have hS3 := hS2.old hb3
  have c1 : w3.cell? ⟨w.heap.size, 1, none⟩ = some (.slice a l.length c) := hS3.cell 1
  have hca := HAP.out [] ([108, 105, 109, 105, 116] ++ (32 :: I) ++ [10]) v w4.heap.size a c lo n₀ w3 hbo hz3 (by omega) ((hin1.keep hb2 (by omega)).keep hb3 (by omega)) (by omega) (hE2.old hb3) (by rw [List.length_append]; omega) (by simp)
  rw [HR.out] at hca
  clear hcv2 hbo hS2 hS3 z1 z2
  go_wp2_with (first | (go_at_call 71; refine hca.mono ?_; rintro _ w5 ⟨v5, rfl, hown5, hb5, hko5⟩; have hst := run_string_bo w5 w4.heap.size v5 R hown5))
  have hb05 := hb03.trans (hb5.mono (by omega))
  clear hca hown5 hko5 hst
  go_ret
  exact ⟨rfl, hb05⟩
theorem res25_run {tmps : Array Value} {w : World} {v2 v3 : Value} (t2 : tmps[2]?.getD undef = v2) (t3 : tmps[3]?.getD undef = v3) : (results Tryz.f25 tmps).run Tryz.prog w = .ok (.tuple #[v2, v3]) w := by
  simp [results, Tryz.results25, go_sem, t2, t3]
def PrnPost (limit : Int) (l : List Fld) (w : World) (e : Ending) (w' : World) : Prop :=
  Below w.heap.size w w' ∧ (((chkS bndQ limit l).1 ≠ 0 ∧ ∃ v, e = .returned (.tuple #[.string (bs []), v]) ∧ FaultAt w' w.heap.size v (chkS bndQ limit l).1 0 (chkS bndQ limit l).2 .nilIface) ∨
    ((chkS bndQ limit l).1 = 0 ∧ 65536 < (prnS limit l).length ∧ ∃ v, e = .returned (.tuple #[.string (bs []), v]) ∧ FaultAt w' w.heap.size v 2 0 [] .nilIface) ∨
    ((chkS bndQ limit l).1 = 0 ∧ (prnS limit l).length ≤ 65536 ∧ e = .returned (.tuple #[.string (bs (prnS limit l)), .nilIface])))
set_option maxHeartbeats 4000000 in
set_option maxRecDepth 20000 in
theorem print_s (limit : Int) (h0 : -9223372036854775808 ≤ limit) (h1 : limit ≤ 9223372036854775807) (l : List Fld) (hl : l.length ≤ 17179869184) (hfit : ∀ x ∈ l, FitsF 17179869184 x) (hgood : (chkS bndQ limit l).1 = 0 → (∀ x ∈ l, OkP x) ∧ (prnS limit l).length ≤ 400000) (a : Option Addr) (c lo n₀ : Nat) (hc : l.length ≤ c) (w : World) (hn₀ : n₀ ≤ w.heap.size) (hin : FIn w lo n₀ l a) (hE : Env w) :
    Calls Tryz.prog 25 #[.agg #[.int .i64 limit, .slice a l.length c]] w (PrnPost limit l w) := by
  have hb1 := (Below.refl w.heap.size w).alloc (Nat.le_refl _) (.cells #[.int .i64 limit, .slice a l.length c] 25)
  have hS1 := Blk.new w 25 #[.int .i64 limit, .slice a l.length c]
  have hck := scheck_any limit l a c lo n₀ (w.alloc (.cells #[.int .i64 limit, .slice a l.length c] 25)) hc hfit hl (by have := hb1.size; omega) (hin.keep hb1 hn₀)
  have HPR : Hid ((chkS bndQ limit l).1 = 0 → ∀ W, Below w.heap.size w W → Calls Tryz.prog 45 #[.agg #[.int .i64 limit, .slice a l.length c]] W fun e w' => e = .returned (.string (bs (prnS limit l))) ∧ Below W.heap.size W w') := fun h W hW => printed_any limit h0 h1 l hl (hgood h).1 hfit (hgood h).2 a c lo n₀ W (by have := hW.size; omega) (hin.keep hW hn₀) (hE.old hW)
  have HGL : Hid ((chkS bndQ limit l).1 = 0 → (prnS limit l).length ≤ 400000) := fun h => (hgood h).2
  obtain ⟨q, P, hqP⟩ : ∃ q P, chkS bndQ limit l = (q, P) := ⟨_, _, rfl⟩
  unfold PrnPost
  rw [hqP] at hck HPR HGL ⊢
  generalize prnS limit l = T at *
  clear hin hfit hgood hqP hE
  unfold SCheckPost at hck
  go_enter Tryz.func25, Tryz.ntmps25
  go_upto_region 1 with fail
  generalize w.alloc (.cells #[.int .i64 limit, .slice a l.length c] 25) = w1 at *
  have c0 : w1.cell? ⟨w.heap.size, 0, none⟩ = some (.int .i64 limit) := hS1.cell 0
  have c1 : w1.cell? ⟨w.heap.size, 1, none⟩ = some (.slice a l.length c) := hS1.cell 1
  go_wp2_with fail
  refine hck.mono ?_
  rintro e w2 ⟨hb2, ⟨hq, rfl⟩ | ⟨hq, v, rfl, hF⟩⟩
  · have hb02 := hb1.trans (hb2.mono hb1.size)
    have hS2 := hS1.old hb2
    have d0 : w2.cell? ⟨w.heap.size, 0, none⟩ = some (.int .i64 limit) := hS2.cell 0
    have d1 : w2.cell? ⟨w.heap.size, 1, none⟩ = some (.slice a l.length c) := hS2.cell 1
    have hp := HPR.out hq w2 hb02
    have hT := HGL.out hq
    have HQ : Hid (q = 0) := hq
    have hTz : (bs T).size = T.length := bs_size T
    clear hck c0 c1 hS1 hS2 HPR HGL hq
    go_wp2_with fail
    refine hp.mono ?_
    rintro _ w3 ⟨rfl, hb3⟩
    have hb03 := hb02.trans (hb3.mono hb02.size)
    have hz3 := hb03.size
    clear hp d0 d1
    by_cases hlong : 65536 < T.length
    · have t1 : decide ((65536 : Int) < ((bs T).size : Int)) = true := decide_eq_true (by rw [hTz]; omega)
      have t2 : decide (65536 < (bs T).size) = true := decide_eq_true (by rw [hTz]; exact hlong)
      have hF := Blk.new w3 75 #[.int .i64 2, .int .i64 0, .slice none 0 0, .nilIface]
      have hb04 := hb03.alloc hb03.size (.cells #[.int .i64 2, .int .i64 0, .slice none 0 0, .nilIface] 75)
      have HL : Hid (65536 < T.length) := hlong
      clear hTz hlong hT
      go_wp2_with fail
      exact bodyPost_ret (res25_run rfl rfl) rfl ⟨hb04, .inr (.inl ⟨HQ.out, HL.out, _, rfl, _, _, _, rfl, hz3, hF, IOwn.nil _ _, by simp [Value.ownBlock]⟩)⟩
    · have t1 : decide ((65536 : Int) < ((bs T).size : Int)) = false := decide_eq_false (by rw [hTz]; omega)
      have t2 : decide (65536 < (bs T).size) = false := decide_eq_false (by rw [hTz]; exact hlong)
      have HL : Hid (T.length ≤ 65536) := Nat.le_of_not_lt hlong
      clear hTz hlong hT
      go_wp2_with fail
      exact bodyPost_ret (res25_run rfl rfl) rfl ⟨hb03, .inr (.inr ⟨HQ.out, HL.out, rfl⟩)⟩
  · have hb02 := hb1.trans (hb2.mono hb1.size)
    have HF : Hid (FaultAt w2 w.heap.size v q 0 P .nilIface) := by
      obtain ⟨F, x, z, e1, e2, e3, e4, e5⟩ := hF
      exact ⟨F, x, z, e1, Nat.le_trans hb1.size e2, e3, e4.mono hb1.size, e5⟩
    obtain ⟨F, x, z, rfl, _⟩ := hF
    clear hck c0 c1 hS1 HPR HGL
    go_wp2_with fail
    exact bodyPost_ret (res25_run rfl rfl) rfl ⟨hb02, .inl ⟨hq, _, rfl, HF.out⟩⟩
end Go.Proofs.YtcbjnifoojjipaaGreatDoor
