/- Contracts and lemmas (nothing is claimed here). -/
import Derived.Test.YtcbjnifoojjipaaGreatDoorJ29
import Derived.Test.YtcbjnifoojjipaaGreatDoorJ28
import Derived.Deep.RegionHeld
import Derived.Test.YtcbjnifoojjipaaGreatDoorJ26
namespace Go.Proofs.YtcbjnifoojjipaaGreatDoor
open Go.RowKit Go.Vf

theorem lineD_told {o : Go.Vf.Own} {n : Nat} (h : maySayO (bndQ o) o n = true) : lineD o = [102, 105, 101, 108, 100] ++ toldF o := by
  unfold maySayO at h
  simp only [Bool.and_eq_true, decide_eq_true_eq] at h
  obtain ⟨⟨⟨⟨⟨⟨h1, h2⟩, h3⟩, h4⟩, h5⟩, h6⟩, h7⟩ := h
  unfold lineD toldF toldK
  by_cases k2 : o.kind = 2
  · rw [if_neg (by omega : ¬ o.kind = 6)] at h6
    simp only [Bool.and_eq_true, Bool.not_eq_true', beq_iff_eq] at h6
    have e1 : o.shf = false := h6.1.2
    have e2 : o.bck = false := h6.2
    simp only [k2, e1, e2]
    cases o.bnd <;> simp [spIf]
  rw [if_neg k2] at h4
  simp only [Bool.and_eq_true, Bool.not_eq_true', beq_iff_eq] at h4
  have hb : o.bnd = false := h4.1.1.1.1
  by_cases k3 : o.kind = 3 ∨ o.kind = 5
  · rw [if_neg (by omega : ¬ o.kind = 6)] at h6
    simp only [Bool.and_eq_true, Bool.not_eq_true', beq_iff_eq] at h6
    have e1 : o.shf = false := h6.1.2
    have e2 : o.bck = false := h6.2
    rcases k3 with k3 | k3
    · simp [spIf, k3, e1, e2, hb]
    · simp [spIf, k3, e1, e2, hb]
  by_cases k6 : o.kind = 6
  · simp [spIf, k6, hb]
  · rw [if_neg k6] at h6
    simp only [Bool.and_eq_true, Bool.not_eq_true', beq_iff_eq] at h6
    have e1 : o.shf = false := h6.1.2
    have e2 : o.bck = false := h6.2
    simp [spIf, k2, k3, k6, e1, e2, hb]
def LnOk (l : List Fld) : Prop := ∀ (ahead : List UInt8) (aa : Option Addr) (ca lo n₀ : Nat) (w : World), n₀ ≤ w.heap.size → FIn w lo n₀ l aa → (fieldsL l ahead).length ≤ 500000 → ahead.length ≤ 500000 →
  Calls Tryz.prog 44 #[.slice aa l.length ca, .string (bs ahead)] w fun e w' => e = .returned (.string (bs (fieldsL l ahead))) ∧ Below w.heap.size w w'
set_option maxHeartbeats 16000000 in
set_option maxRecDepth 20000 in
theorem ln_step (l : List Fld) (hl : l.length ≤ 17179869184) (hg : ∀ x ∈ l, GodF x) (hfit : ∀ x ∈ l, FitsF 17179869184 x) (ih : ∀ x ∈ l, LnOk x.fields) : LnOk l := by
  intro ahead aa ca lo n₀ w hn₀ hin hlen hah
  obtain ⟨ln, hln⟩ : ∃ ln, l.length = ln := ⟨_, rfl⟩
  have HLN : Hid (l.length = ln) := hln
  rw [hln] at hl ⊢
  clear hln
  have HIN : Hid (∀ w1, Below w.heap.size w w1 → FIn w1 lo n₀ l aa) := fun w1 h => hin.keep h hn₀
  obtain ⟨R, hR⟩ : ∃ R, fieldsL l ahead = R := ⟨_, rfl⟩
  rw [hR] at hlen ⊢
  have HR : Hid ([] ++ fieldsL (l.drop 0) ahead = R) := by rw [List.drop_zero]; exact hR
  have hbz : (bs ahead).size ≤ 500000 := by rw [bs_size]; exact hah
  clear hin hR
  go_enter Tryz.func44, Tryz.ntmps44
  go_wp2_with fail
  go_loopw [5, 6] (fun sv iv wr => ∃ (j : Nat) (ac : List UInt8), j ≤ ln ∧ iv = .int .i64 (j : Int) ∧ sv = .string (bs ac) ∧ Hid (ac ++ fieldsL (l.drop j) ahead = R) ∧ Below w.heap.size w wr) (fun _ iv _ => ln - (intOf iv).toNat)
  case atStart => exact ⟨0, [], Nat.zero_le _, rfl, rfl, HR, Below.refl _ _⟩
  case round =>
    clear HR
    obtain ⟨j, ac, hj, rfl, rfl, HR, hb⟩ := hrel
    by_cases hlt : j < ln
    · have tl : decide ((j : Int) < (ln : Int)) = true := decide_eq_true (by omega)
      have tl2 : decide (j < ln) = true := decide_eq_true hlt
      have hji : (j : Int) < (ln : Int) := by omega
      have hjl : j < l.length := by rw [HLN.out]; exact hlt
      obtain ⟨bb, off, aj, cj, ha, _, hbb, hrow, hinj⟩ := (HIN.out wr hb).at hjl
      subst ha
      obtain ⟨x, hx⟩ : ∃ x, l[j] = x := ⟨_, rfl⟩
      have hgx := hg l[j] (List.getElem_mem hjl)
      have hfx := hfit l[j] (List.getElem_mem hjl)
      have hap := ih l[j] (List.getElem_mem hjl)
      have hRj := HR.out
      rw [fieldsL_drop l ahead hjl, hx, fieldL_eq] at hRj
      rw [hx] at hrow hinj hgx hfx hap
      have HAP : Hid (LnOk x.fields) := hap
      have HI : Hid (FIn wr lo n₀ x.fields aj) := hinj
      obtain ⟨g1, g2⟩ : isNameS x.own.name = true ∧ maySayO (bndQ x.own) x.own x.fields.length = true := by cases hgx; exact ⟨by assumption, by assumption⟩
      obtain ⟨q1, q7, _⟩ := maySay_good g2
      obtain ⟨m0, m1, s0, s1⟩ := maySay_num g2
      have hxo := hfx.own
      have hnam := name_len g1
      have htl := lineD_told g2
      have nat_le : ∀ (b : Bool) (m : List UInt8), (natS b m).length ≤ 766 := fun b m => by
        by_cases hc : chk b m = 0
        · exact nat_len hc
        · rw [natS, if_neg hc]; simp
      have htf : ∀ W, Calls Tryz.prog 68 #[.agg #[.string x.own.name, .int .u8 x.own.kind, .bool x.own.down, .int .u8 x.own.nulls, .bool x.own.bnd, .bool x.own.ln, .string x.own.lm, .bool x.own.hn, .string x.own.hm, .int .i64 x.own.most, .int .i64 x.own.str, .bool x.own.shf, .bool x.own.bck, .slice aj x.fields.length cj]] W fun e w' => e = .returned (.string (bs (lineD x.own))) ∧ Below W.heap.size W w' := fun W => line_any x.own x.own.kind.toNat (by omega) (by omega) (by omega) aj x.fields.length cj (by rw [Lib.size_eq]; omega) hxo.lm hxo.hm (Nat.le_trans (nat_le _ _) (by omega)) (Nat.le_trans (nat_le _ _) (by omega)) m0 m1 s0 s1 W
      have hRj2 : ac ++ ((ahead ++ lineD x.own ++ [10]) ++ (if x.own.kind = 7 then fieldsL x.fields (ahead ++ [32, 32]) ++ (ahead ++ [101, 110, 100] ++ [10]) else []) ++ fieldsL (l.drop (j + 1)) ahead) = R := by
        rw [htl, ← hRj]; simp only [List.append_assoc]
      have hlj : ac.length + (ahead.length + (lineD x.own).length + 1) ≤ 500000 := by
        have h := congrArg List.length hRj2
        simp only [List.length_append, List.length_cons, List.length_nil] at h
        omega
      obtain ⟨LN, hLN⟩ : ∃ LN, lineD x.own = LN := ⟨_, rfl⟩
      rw [hLN] at hRj2 hlj
      simp only [hLN] at htf
      have HRJ : Hid (ac ++ ((ahead ++ LN ++ [10]) ++ (if x.own.kind = 7 then fieldsL x.fields (ahead ++ [32, 32]) ++ (ahead ++ [101, 110, 100] ++ [10]) else []) ++ fieldsL (l.drop (j + 1)) ahead) = R) := hRj2
      obtain ⟨r0, r1, r2, r3, r4, r5, r6, r7, r8, r9, r10, r11, r12, r13⟩ := hrow
      clear hx hRj hRj2 hgx hfx hap hinj hxo HR htl hLN g1 g2 nat_le hnam m0 m1 s0 s1
      have z1 : (bs ac).size ≤ 600000 := by rw [bs_size]; omega
      have z2 : (bs ac ++ bs ahead).size ≤ 1200000 := by rw [bs_add, bs_size]; simp; omega
      have z3 : (bs LN).size ≤ 600000 := by rw [bs_size]; omega
      have z4 : (bs ac ++ bs ahead ++ bs LN).size ≤ 1800000 := by rw [bs_add, bs_add, bs_size]; simp; omega
      have hbw : bb < wr.heap.size := by have := hb.size; omega
      go_upto_region 6 with (first | (go_at_call 68; refine (htf _).mono ?_; rintro _ w2 ⟨rfl, hb2⟩))
      have hz2 := hb2.size
      have hzw := hb.size
      have hb02 := hb.trans (hb2.mono hzw)
      have u1 := (hb2.cell (p := ⟨bb, off + j * 14 + 1, none⟩) hbw).trans r1
      have u13 := (hb2.cell (p := ⟨bb, off + j * 14 + 13, none⟩) hbw).trans r13
      clear r0 r1 r2 r3 r4 r5 r6 r7 r8 r9 r10 r11 r12 r13 htf
      have hEq : Value.string (bs ac ++ bs ahead ++ bs LN ++ (⟨#[10]⟩ : ByteArray)) = .string (bs (ac ++ ahead ++ LN ++ [10])) := by
        rw [show (⟨#[10]⟩ : ByteArray) = bs [10] from rfl, bs_add, bs_add, bs_add]
      rw [hEq]
      clear hEq z1 z2 z3 z4
      have hl2 : (ac ++ ahead ++ LN ++ [10]).length ≤ 600000 := by simp only [List.length_append, List.length_cons, List.length_nil]; omega
      have HA2' : Hid ((ac ++ ahead ++ LN ++ [10]) ++ ((if x.own.kind = 7 then fieldsL x.fields (ahead ++ [32, 32]) ++ (ahead ++ [101, 110, 100] ++ [10]) else []) ++ fieldsL (l.drop (j + 1)) ahead) = R) := by
        show _ = _
        rw [← HRJ.out]; simp only [List.append_assoc]
      clear HRJ
      obtain ⟨acc2, hacc2⟩ : ∃ acc2, ac ++ ahead ++ LN ++ [10] = acc2 := ⟨_, rfl⟩
      rw [hacc2] at HA2' hl2 ⊢
      clear hacc2
      have z5 : (bs acc2).size ≤ 600000 := by rw [bs_size]; exact hl2
      by_cases h7 : x.own.kind = 7
      · have t7 : (x.own.kind == 7) = true := by simpa using h7
        have t8 : decide (x.own.kind = 7) = true := decide_eq_true h7
        have hRR : acc2 ++ fieldsL x.fields (ahead ++ [32, 32]) ++ ahead ++ [101, 110, 100, 10] ++ fieldsL (l.drop (j + 1)) ahead = R := by
          rw [← HA2'.out, if_pos h7]; simp only [List.append_assoc, List.cons_append, List.nil_append]
        have hl3 := congrArg List.length hRR
        simp only [List.length_append, List.length_cons, List.length_nil] at hl3
        have hca := HAP.out (ahead ++ [32, 32]) aj cj lo n₀ w2 (by omega) (HI.out.keep hb2 (by omega)) (by omega) (by simp only [List.length_append, List.length_cons, List.length_nil]; omega)
        rw [← bs_add] at hca
        obtain ⟨F, hF⟩ : ∃ F, fieldsL x.fields (ahead ++ [32, 32]) = F := ⟨_, rfl⟩
        rw [hF] at hca hRR hl3
        have HRR : Hid (acc2 ++ F ++ ahead ++ [101, 110, 100, 10] ++ fieldsL (l.drop (j + 1)) ahead = R) := hRR
        have z6 : (bs F).size ≤ 600000 := by rw [bs_size]; omega
        have z7 : (bs acc2 ++ bs F).size ≤ 1200000 := by rw [bs_add, bs_size]; simp; omega
        have z8 : (bs acc2 ++ bs F ++ bs ahead).size ≤ 1800000 := by rw [bs_add, bs_add, bs_size]; simp; omega
        rw [h7] at u1
        clear h7 t7 t8 hF hRR HA2'
        go_wp2_with (first | (go_at_call 44; refine hca.mono ?_; rintro _ w4 ⟨rfl, hb4⟩))
        go_roundw
        case rel => exact ⟨j + 1, acc2 ++ F ++ ahead ++ [101, 110, 100, 10], by omega, by simp, by rw [← bs_add, ← bs_add, ← bs_add]; rfl, HRR, hb02.trans (hb4.mono (by omega))⟩
        case measure => simp only [intOf]; omega
      · have t7 : (x.own.kind == 7) = false := by simpa using h7
        have t8 : decide (x.own.kind = 7) = false := decide_eq_false h7
        have HRR : Hid (acc2 ++ fieldsL (l.drop (j + 1)) ahead = R) := by
          show _ = _
          rw [← HA2'.out, if_neg h7, List.nil_append]
        clear h7 HA2'
        go_wp2_with fail
        go_roundw
        case rel => exact ⟨j + 1, acc2, by omega, by simp, rfl, HRR, hb02⟩
        case measure => simp only [intOf]; omega
    · have tl : decide ((j : Int) < (ln : Int)) = false := decide_eq_false (by omega)
      have tl2 : decide (j < ln) = false := decide_eq_false hlt
      have hjn : j = l.length := by rw [HLN.out]; omega
      have hRR : ac = R := by rw [← HR.out, hjn, List.drop_length, fieldsL, List.append_nil]
      clear hjn
      go_wp2_with fail
      go_ret
      exact ⟨by rw [← hRR]; rfl, hb⟩
theorem ln_any : ∀ f : Fld, GodF f → FitsF 17179869184 f → LnOk f.fields := by
  intro f
  induction f using Fld.ind with
  | h o l ih =>
    intro ho hf
    have hs : ∀ x ∈ l, GodF x := by cases ho with | mk _ _ h => exact h
    exact ln_step l hf.len hs (fun x hx => hf.mem hx) (fun x hx => ih x hx (hs x hx) (hf.mem hx))
theorem ln_list {l : List Fld} (hl : l.length ≤ 17179869184) (hg : ∀ x ∈ l, GodF x) (hfit : ∀ x ∈ l, FitsF 17179869184 x) : LnOk l := ln_step l hl hg hfit fun x hx => ln_any x (hg x hx) (hfit x hx)
end Go.Proofs.YtcbjnifoojjipaaGreatDoor

namespace Go.Proofs.YtcbjnifoojjipaaGreatDoor
open Go.RowKit Go.Vf

/-- What Print answers: the text, the number, the path. -/
def prnA (limit : Int) (l : List Fld) : List UInt8 × Int × List Int :=
  if (chkS bndQ limit l).1 = 0 then (if 65536 < (prnS limit l).length then ([], 2, []) else (prnS limit l, 0, [])) else ([], (chkS bndQ limit l).1, (chkS bndQ limit l).2)
def RPrnPost (r : List UInt8 × Int × List Int) (w : World) (e : Ending) (w' : World) : Prop :=
  Below w.heap.size w w' ∧ ∃ a c, e = .returned (.tuple #[.string (bs r.1), .agg #[.int .i64 r.2.1, .int .i64 0, .slice a r.2.2.length c]]) ∧ IOwn w' w.heap.size (.slice a r.2.2.length c) r.2.2
theorem chkS_nopath {Q : Go.Vf.Own → Bool} {limit : Int} {l : List Fld} (h : (chkS Q limit l).1 = 0) : (chkS Q limit l).2 = [] := by
  obtain ⟨m, hm⟩ := chkS_tour h
  unfold chkS
  split
  · rfl
  split
  · rfl
  rw [hm]
theorem rprn_results {tmps : Array Value} {w : World} {h : Nat} {v a b c : Value} (hb : Blk w h 31 #[a, b, c]) (t2 : tmps[2]?.getD undef = v) (t3 : tmps[3]?.getD undef = .pointer (some ⟨h, 0, none⟩)) :
    (results Tryz.f24 tmps).run Tryz.prog w = .ok (.tuple #[v, .agg #[a, b, c]]) w := by
  have c0 := hb.cell 0
  have c1 := hb.cell 1
  have c2 := hb.cell 2
  simp at c0 c1 c2
  simp [results, Tryz.results24, go_sem, t2, t3, c0, c1, c2]
set_option maxHeartbeats 8000000 in
set_option maxRecDepth 20000 in
theorem rprint_s (limit : Int) (l : List Fld) (hl : l.length ≤ 17179869184) (hfit : ∀ x ∈ l, FitsF 17179869184 x) (aa : Option Addr) (ca lo n₀ : Nat) (w : World) (hn₀ : n₀ ≤ w.heap.size) (hin : FIn w lo n₀ l aa) :
    Calls Tryz.prog 24 #[.agg #[.int .i64 limit, .slice aa l.length ca]] w (RPrnPost (prnA limit l) w) := by
  have hb1 := (Below.refl w.heap.size w).alloc (Nat.le_refl _) (.cells #[.int .i64 limit, .slice aa l.length ca] 25)
  have hS1 := Blk.new w 25 #[.int .i64 limit, .slice aa l.length ca]
  have hs1 := alloc_size w (.cells #[.int .i64 limit, .slice aa l.length ca] 25)
  have hb2 := hb1.alloc hb1.size (.cells #[.int .i64 0, .int .i64 0, .slice none 0 0] 31)
  have hN2 := Blk.new (w.alloc (.cells #[.int .i64 limit, .slice aa l.length ca] 25)) 31 #[.int .i64 0, .int .i64 0, .slice none 0 0]
  rw [hs1] at hN2
  have hS2 := hS1.old ((Below.refl _ (w.alloc (.cells #[.int .i64 limit, .slice aa l.length ca] 25))).alloc (Nat.le_refl _) (.cells #[.int .i64 0, .int .i64 0, .slice none 0 0] 31))
  have HIN : Hid (∀ W, Below w.heap.size w W → FIn W lo n₀ l aa) := fun W h => hin.keep h hn₀
  have HGD : Hid ((chkS bndQ limit l).1 = 0 → (∀ x ∈ l, GodF x) ∧ 1 ≤ limit ∧ limit ≤ 65536 ∧ (prnS limit l).length ≤ 400000) := chkS_god
  have HNP : Hid ((chkS bndQ limit l).1 = 0 → (chkS bndQ limit l).2 = []) := chkS_nopath
  have HLN : Hid ((chkS bndQ limit l).1 = 0 → LnOk l) := fun h => ln_list hl (chkS_god h).1 hfit
  have hck := fun W hW hI => rscheck_any limit l aa ca lo n₀ W hfit hl hW hI
  clear hS1 hin hb1
  obtain ⟨G, hG⟩ : ∃ G, prnA limit l = G := ⟨_, rfl⟩
  rw [hG]
  unfold prnA at hG
  have HG : Hid ((if (chkS bndQ limit l).1 = 0 then (if 65536 < (prnS limit l).length then ([], 2, []) else (prnS limit l, 0, [])) else ([], (chkS bndQ limit l).1, (chkS bndQ limit l).2)) = G) := hG
  clear hG
  obtain ⟨T, hT⟩ : ∃ T, prnS limit l = T := ⟨_, rfl⟩
  have HTT : Hid ([108, 105, 109, 105, 116] ++ (32 :: Lib.itoa limit) ++ [10] ++ fieldsL l [] = T) := hT
  rw [hT] at HGD HG
  clear hT
  go_enter Tryz.func24, Tryz.ntmps24
  go_upto_region 1 with fail
  try simp only [hs1]
  generalize (w.alloc (.cells #[.int .i64 limit, .slice aa l.length ca] 25)).alloc (.cells #[.int .i64 0, .int .i64 0, .slice none 0 0] 31) = w2 at hb2 hN2 hS2 ⊢
  clear hs1
  obtain ⟨B, hB⟩ : ∃ B, w.heap.size + 1 = B := ⟨_, rfl⟩
  have hBw : w.heap.size ≤ B := by omega
  have hB2 : B < w2.heap.size := by have := hN2.lt; omega
  rw [hB] at hN2
  try rw [hB]
  clear hB
  have c0 : w2.cell? ⟨w.heap.size, 0, none⟩ = some (.int .i64 limit) := hS2.cell 0
  have c1 : w2.cell? ⟨w.heap.size, 1, none⟩ = some (.slice aa l.length ca) := hS2.cell 1
  have hck2 := hck w2 (by have := hb2.size; omega) (HIN.out w2 hb2)
  clear hck
  obtain ⟨q, P, hqP⟩ : ∃ q P, chkS bndQ limit l = (q, P) := ⟨_, _, rfl⟩
  rw [hqP] at hck2 HGD HNP HLN HG
  clear hqP
  go_wp2_with fail
  refine hck2.mono ?_
  rintro _ w3 ⟨hb3, pa, pc, rfl, hown⟩
  clear hck2 c0 c1
  have hb03 := hb2.trans (hb3.mono hb2.size)
  have hN3 := hN2.old hb3
  have hS3 := hS2.old hb3
  have hz3 := hb3.size
  have hC5 := Blk.new w3 31 #[.int .i64 q, .int .i64 0, .slice pa P.length pc]
  have hb35 := (Below.refl w3.heap.size w3).alloc (Nat.le_refl _) (.cells #[.int .i64 q, .int .i64 0, .slice pa P.length pc] 31)
  clear hN2 hS2
  go_upto_region 2 with fail
  generalize w3.alloc (.cells #[.int .i64 q, .int .i64 0, .slice pa P.length pc] 31) = w5 at hC5 hb35 ⊢
  have hb05 := hb03.trans (hb35.mono hb03.size)
  have hN5 := hN3.old hb35
  have hS5 := hS3.old hb35
  have hown5 : IOwn w5 w2.heap.size (.slice pa P.length pc) P := own_after hown hb35
  have hz5 := hb35.size
  clear hN3 hS3 hown
  obtain ⟨C, hCe⟩ : ∃ C, w3.heap.size = C := ⟨_, rfl⟩
  rw [hCe] at hC5 ⊢
  clear hCe hb35
  obtain ⟨x0, x1, x2, _, _, _⟩ := rcells hC5
  have HPO : Hid (∀ (W : World) (r : List UInt8 × Int × List Int) (a : Option Addr) (c : Nat), Below w.heap.size w W → IOwn W w2.heap.size (.slice a r.2.2.length c) r.2.2 → RPrnPost r w (.returned (.tuple #[.string (bs r.1), .agg #[.int .i64 r.2.1, .int .i64 0, .slice a r.2.2.length c]])) (((W.setCell ⟨B, 0, none⟩ (.int .i64 r.2.1)).setCell ⟨B, 1, none⟩ (.int .i64 0)).setCell ⟨B, 2, none⟩ (.slice a r.2.2.length c))) := by
    intro W r a c h1 h2
    refine ⟨((h1.setCell (p := ⟨B, 0, none⟩) hBw _).setCell (p := ⟨B, 1, none⟩) hBw _).setCell (p := ⟨B, 2, none⟩) hBw _, a, c, rfl, ?_⟩
    exact (set3_own h2 hB2 _ _ _).mono hb2.size
  by_cases hq : q = 0
  · have HQ : Hid (q = 0) := hq
    have t1 : (q == 0) = true := by simpa using hq
    have t1b : (q != 0) = false := by simp [hq]
    have t1c : decide (q = 0) = true := decide_eq_true hq
    have hP : P = [] := HNP.out hq
    obtain ⟨_, hl1, hl2, hT4⟩ := HGD.out hq
    have HLk := HLN.out hq
    have hdec := decimal_any limit (by omega) (by omega)
    have hin5 := HIN.out w5 hb05
    have HLC : Hid (∀ W, Below w5.heap.size w5 W → Calls Tryz.prog 44 #[.slice aa l.length ca, .string ⟨#[]⟩] W fun e w' => e = .returned (.string (bs (fieldsL l []))) ∧ Below W.heap.size W w') := fun W hW => by
      have h9 := congrArg List.length HTT.out
      simp only [List.length_append, List.length_cons, List.length_nil] at h9
      exact HLk [] aa ca lo n₀ W (by have := hW.size; have := hb05.size; omega) (HIN.out W (hb05.trans (hW.mono hb05.size))) (by omega) (by simp)
    have hlen := congrArg List.length HTT.out
    simp only [List.length_append, List.length_cons, List.length_nil] at hlen
    have HTv : Hid (Value.string ((⟨#[108, 105, 109, 105, 116, 32]⟩ : ByteArray) ++ bs (Lib.itoa limit) ++ (⟨#[10]⟩ : ByteArray) ++ bs (fieldsL l [])) = .string (bs T)) := by
      show _ = _
      rw [← HTT.out, ← bs_add, ← bs_add, ← bs_add]; rfl
    generalize Lib.itoa limit = I at *
    generalize fieldsL l [] = F at *
    have s0 : w5.cell? ⟨w.heap.size, 0, none⟩ = some (.int .i64 limit) := hS5.cell 0
    have s1 : w5.cell? ⟨w.heap.size, 1, none⟩ = some (.slice aa l.length ca) := hS5.cell 1
    have hlt5 : w.heap.size < w5.heap.size := hS5.lt
    have hzI : (bs I).size ≤ 400000 := by rw [bs_size]; omega
    have hzF : (bs F).size ≤ 400000 := by rw [bs_size]; omega
    have hzT : (bs T).size = T.length := bs_size T
    rw [if_pos hq] at HG
    clear hq HNP HGD HLN HLk hin5 HTT
    subst hP
    go_upto_region 4 with fail
    go_cut [5] from 11 (fun v wx => v = .string (bs T) ∧ Below w5.heap.size w5 wx)
    case first =>
      have hc0 : ∀ x, Below w5.heap.size w5 x → x.cell? ⟨w.heap.size, 0, none⟩ = some (.int .i64 limit) := fun x h => (h.cell (p := ⟨w.heap.size, 0, none⟩) hlt5).trans s0
      have hc1 : ∀ x, Below w5.heap.size w5 x → x.cell? ⟨w.heap.size, 1, none⟩ = some (.slice aa l.length ca) := fun x h => (h.cell (p := ⟨w.heap.size, 1, none⟩) hlt5).trans s1
      have HKeep : Hid (∀ x y, Below w5.heap.size w5 x → Below x.heap.size x y → Below w5.heap.size w5 y) := fun x y h1 h2 => h1.trans (h2.mono h1.size)
      clear s0 s1 x0 x1 x2 hS5 hN5 hC5 hown5 HPO
      refine wp_region_held_drew (S := fun x => Below w5.heap.size w5 x) (by kernel_rfl) ((Below.refl _ _).drew) (fun hHeld => ?_)
      refine wpAnyH_takeD (i := 0) (some 12) (v := .pointer (some ⟨w.heap.size, 0, none⟩)) rfl rfl (by kernel_rfl) (by kernel_rfl) (by kernel_rfl) (fun _ _ _ h => h) (Or.inl ⟨by kernel_rfl, ?hy0⟩) (by assumption) ?rest0
      case hy0 => (intro x hSx; (try dsimp only at hSx); go_simp; first | done | with_reducible rfl | omega)
      try simp only [Act.put, List.setIfInBounds_toArray, List.set_cons_zero, List.set_cons_succ]
      refine wpAnyH_takeD (i := 1) (some 13) (v := .int .i64 limit) rfl rfl (by kernel_rfl) (by kernel_rfl) (by kernel_rfl) (fun _ _ _ h => h) (Or.inl ⟨by kernel_rfl, ?hy1⟩) (by assumption) ?rest1
      case hy1 => (intro x hSx; have hq := hc0 _ hSx; (try dsimp only at hSx); go_simp; first | done | with_reducible rfl | omega)
      try simp only [Act.put, List.setIfInBounds_toArray, List.set_cons_zero, List.set_cons_succ]
      refine wpAnyH_takeD (i := 5) (some 17) (v := .pointer (some ⟨w.heap.size, 1, none⟩)) rfl rfl (by kernel_rfl) (by kernel_rfl) (by kernel_rfl) (fun _ _ _ h => h) (Or.inl ⟨by kernel_rfl, ?hy5⟩) (by assumption) ?rest5
      case hy5 => (intro x hSx; (try dsimp only at hSx); go_simp; first | done | with_reducible rfl | omega)
      try simp only [Act.put, List.setIfInBounds_toArray, List.set_cons_zero, List.set_cons_succ]
      refine wpAnyH_takeD (i := 6) (some 18) (v := .slice aa l.length ca) rfl rfl (by kernel_rfl) (by kernel_rfl) (by kernel_rfl) (fun _ _ _ h => h) (Or.inl ⟨by kernel_rfl, ?hy6⟩) (by assumption) ?rest6
      case hy6 => (intro x hSx; have hq := hc1 _ hSx; (try dsimp only at hSx); go_simp; first | done | with_reducible rfl | omega)
      try simp only [Act.put, List.setIfInBounds_toArray, List.set_cons_zero, List.set_cons_succ]
      refine wpAnyH_ready (rs := [2]) (by kernel_rfl) (by simp) ?_
      refine AllReadyH.cons rfl (fun K hK => ?_) AllReadyH.nil
      go_simp
      go_wp2_with (go_at_call 43; refine (hdec _).mono ?_; rintro _ y ⟨rfl, rfl⟩)
      refine hK.out _ _ hHeld (fun hH1 => ?_)
      clear hK K
      try simp only [Act.put, List.setIfInBounds_toArray, List.set_cons_zero, List.set_cons_succ]
      refine wpAnyH_takeD (i := 3) (some 15) (v := .string ((⟨#[108, 105, 109, 105, 116, 32]⟩ : ByteArray) ++ bs I)) rfl rfl (by kernel_rfl) (by kernel_rfl) (by kernel_rfl) (fun _ _ _ h => h) (Or.inl ⟨by kernel_rfl, ?hy3⟩) (by assumption) ?rest3
      case hy3 => (intro x hSx; (try dsimp only at hSx); go_simp; first | done | with_reducible rfl | omega)
      try simp only [Act.put, List.setIfInBounds_toArray, List.set_cons_zero, List.set_cons_succ]
      refine wpAnyH_takeD (i := 4) (some 16) (v := .string ((⟨#[108, 105, 109, 105, 116, 32]⟩ : ByteArray) ++ bs I ++ (⟨#[10]⟩ : ByteArray))) rfl rfl (by kernel_rfl) (by kernel_rfl) (by kernel_rfl) (fun _ _ _ h => h) (Or.inl ⟨by kernel_rfl, ?hy4⟩) (by assumption) ?rest4
      case hy4 => (intro x hSx; (try dsimp only at hSx); go_simp; first | done | with_reducible rfl | omega)
      try simp only [Act.put, List.setIfInBounds_toArray, List.set_cons_zero, List.set_cons_succ]
      refine wpAnyH_ready (rs := [7]) (by kernel_rfl) (by simp) ?_
      refine AllReadyH.cons rfl (fun K hK => ?_) AllReadyH.nil
      go_simp
      go_wp2_with (go_at_call 44; refine (HLC.out _ hH1).mono ?_; rintro _ y ⟨rfl, hby⟩)
      refine hK.out _ _ (HKeep.out _ _ hH1 hby) (fun hH2 => ?_)
      clear hK K
      try simp only [Act.put, List.setIfInBounds_toArray, List.set_cons_zero, List.set_cons_succ]
      refine wpAnyH_ready (rs := [8]) (by kernel_rfl) (by simp) ?_
      refine AllReadyH.cons rfl (fun K hK => ?_) AllReadyH.nil
      go_simp
      rw [if_neg (by omega)]
      refine hK.out _ _ hH2 (fun hH3 => ?_)
      clear hK K
      try simp only [Act.put, List.setIfInBounds_toArray, List.set_cons_zero, List.set_cons_succ]
      refine wpAnyH_ready (rs := [9]) (by kernel_rfl) (by simp) ?_
      refine AllReadyH.cons rfl (fun K hK => ?_) AllReadyH.nil
      go_simp
      refine hK.out _ _ hH3 (fun hH4 => ?_)
      clear hK K
      try simp only [Act.put, List.setIfInBounds_toArray, List.set_cons_zero, List.set_cons_succ]
      refine wpAnyH_done (by kernel_rfl) ?_ _
      go_wp2_with fail
      go_meet
      case rel => exact ⟨HTv.out, hH4⟩
    case rest =>
    obtain ⟨rfl, hb6⟩ := hcut
    have hb06 := hb05.trans (hb6.mono hb05.size)
    have hN6 := hN5.old hb6
    have hC6 := hC5.old hb6
    have ho6 : IOwn wc w2.heap.size (.slice pa 0 pc) [] := own_after hown5 hb6
    clear s0 s1 x0 x1 x2 hS5 hN5 hC5 hown5 hb6 hdec HLC HTv
    by_cases hlong : 65536 < T.length
    · have t2 : decide ((65536 : Int) < ((bs T).size : Int)) = true := decide_eq_true (by rw [hzT]; omega)
      have t3 : decide (65536 < (bs T).size) = true := decide_eq_true (by rw [hzT]; exact hlong)
      rw [if_pos hlong] at HG
      have hB9 := hN6.set3 (.int .i64 2) (.int .i64 0) (.slice none 0 0)
      have hPost := HPO.out wc ([], 2, []) none 0 hb06 (IOwn.nil _ _)
      obtain ⟨v0, v1, v2, g0, g1, g2⟩ := rcells hN6
      clear hzT hlong HPO
      go_wp2_with fail
      exact bodyPost_ret (rprn_results hB9 rfl rfl) rfl (by rw [← HG.out]; exact hPost)
    · have t2 : decide ((65536 : Int) < ((bs T).size : Int)) = false := decide_eq_false (by rw [hzT]; omega)
      have t3 : decide (65536 < (bs T).size) = false := decide_eq_false (by rw [hzT]; exact hlong)
      rw [if_neg hlong] at HG
      rw [HQ.out] at hC6
      have hB9 := hN6.set3 (.int .i64 0) (.int .i64 0) (.slice pa 0 pc)
      have hPost := HPO.out wc (T, 0, []) pa pc hb06 ho6
      obtain ⟨v0, v1, v2, g0, g1, g2⟩ := rcells hN6
      obtain ⟨x0, x1, x2, _, _, _⟩ := rcells hC6
      clear hzT hlong HPO hN6 hC6
      go_upto_region 7 with fail
      go_region
      all_goals (go_wp2_with fail; exact bodyPost_ret (rprn_results (h := B) (a := .int .i64 0) (b := .int .i64 0) (c := .slice pa 0 pc) hB9 rfl rfl) rfl (by rw [← HG.out]; exact ⟨hPost.1.drew, hPost.2⟩))
  · have t1 : (q == 0) = false := by simpa using hq
    have t1b : (q != 0) = true := by simp [hq]
    have t1c : decide (q = 0) = false := decide_eq_false hq
    have hB9 := hN5.set3 (.int .i64 q) (.int .i64 0) (.slice pa P.length pc)
    have hPost := HPO.out w5 ([], q, P) pa pc hb05 hown5
    obtain ⟨v0, v1, v2, g0, g1, g2⟩ := rcells hN5
    rw [if_neg hq] at HG
    clear hq HGD HNP HLN HPO hN5 hC5
    go_upto_region 3 with fail
    go_region
    all_goals (go_wp2_with fail; exact bodyPost_ret (rprn_results (h := B) (a := .int .i64 q) (b := .int .i64 0) (c := .slice pa P.length pc) hB9 rfl rfl) rfl (by rw [← HG.out]; exact ⟨hPost.1.drew, hPost.2⟩))
end Go.Proofs.YtcbjnifoojjipaaGreatDoor

namespace Go.Proofs.YtcbjnifoojjipaaGreatDoor
open Go.RowKit Go.Vf

set_option maxHeartbeats 4000000 in
set_option maxRecDepth 20000 in
theorem print_t (limit : Int) (l : List Fld) (hl : l.length ≤ 17179869184) (hfit : ∀ x ∈ l, FitsF 17179869184 x) (a : Option Addr) (c lo n₀ : Nat) (hc : l.length ≤ c) (w : World) (hn₀ : n₀ ≤ w.heap.size) (hin : FIn w lo n₀ l a) (hE : Env w) :
    Calls Tryz.prog 25 #[.agg #[.int .i64 limit, .slice a l.length c]] w (PrnPost limit l w) := by
  have hb1 := (Below.refl w.heap.size w).alloc (Nat.le_refl _) (.cells #[.int .i64 limit, .slice a l.length c] 25)
  have hS1 := Blk.new w 25 #[.int .i64 limit, .slice a l.length c]
  have hgood : (chkS bndQ limit l).1 = 0 → (∀ x ∈ l, OkP x) ∧ (prnS limit l).length ≤ 400000 := chkS_good
  have hck := scheck_any limit l a c lo n₀ (w.alloc (.cells #[.int .i64 limit, .slice a l.length c] 25)) hc hfit hl (by have := hb1.size; omega) (hin.keep hb1 hn₀)
  have HPR : Hid ((chkS bndQ limit l).1 = 0 → ∀ W, Below w.heap.size w W → Calls Tryz.prog 45 #[.agg #[.int .i64 limit, .slice a l.length c]] W fun e w' => e = .returned (.string (bs (prnS limit l))) ∧ Below W.heap.size W w') := fun h W hW => printed_any limit (by have := (chkS_god h).2.1; omega) (by have := (chkS_god h).2.2.1; omega) l hl (hgood h).1 hfit (hgood h).2 a c lo n₀ W (by have := hW.size; omega) (hin.keep hW hn₀) (hE.old hW)
  have HGL : Hid ((chkS bndQ limit l).1 = 0 → (prnS limit l).length ≤ 400000) := fun h => (hgood h).2
  obtain ⟨q, P, hqP⟩ : ∃ q P, chkS bndQ limit l = (q, P) := ⟨_, _, rfl⟩
  unfold PrnPost
  rw [hqP] at hck HPR HGL ⊢
  generalize prnS limit l = T at *
  clear hin hfit hgood hqP hE
  unfold SCheckPost at hck
  go_enter Tryz.func25, Tryz.ntmps25
  go_upto_region 1 with fail
  generalize w.alloc (.cells #[.int .i64 limit, .slice a l.length c] 25) = w1 at *
  have c0 : w1.cell? ⟨w.heap.size, 0, none⟩ = some (.int .i64 limit) := hS1.cell 0
  have c1 : w1.cell? ⟨w.heap.size, 1, none⟩ = some (.slice a l.length c) := hS1.cell 1
  go_wp2_with fail
  refine hck.mono ?_
  rintro e w2 ⟨hb2, ⟨hq, rfl⟩ | ⟨hq, v, rfl, hF⟩⟩
  · have hb02 := hb1.trans (hb2.mono hb1.size)
    have hS2 := hS1.old hb2
    have d0 : w2.cell? ⟨w.heap.size, 0, none⟩ = some (.int .i64 limit) := hS2.cell 0
    have d1 : w2.cell? ⟨w.heap.size, 1, none⟩ = some (.slice a l.length c) := hS2.cell 1
    have hp := HPR.out hq w2 hb02
    have hT := HGL.out hq
    have HQ : Hid (q = 0) := hq
    have hTz : (bs T).size = T.length := bs_size T
    clear hck c0 c1 hS1 hS2 HPR HGL hq
    go_wp2_with fail
    refine hp.mono ?_
    rintro _ w3 ⟨rfl, hb3⟩
    have hb03 := hb02.trans (hb3.mono hb02.size)
    have hz3 := hb03.size
    clear hp d0 d1
    by_cases hlong : 65536 < T.length
    · have t1 : decide ((65536 : Int) < ((bs T).size : Int)) = true := decide_eq_true (by rw [hTz]; omega)
      have t2 : decide (65536 < (bs T).size) = true := decide_eq_true (by rw [hTz]; exact hlong)
      have hF := Blk.new w3 75 #[.int .i64 2, .int .i64 0, .slice none 0 0, .nilIface]
      have hb04 := hb03.alloc hb03.size (.cells #[.int .i64 2, .int .i64 0, .slice none 0 0, .nilIface] 75)
      have HL : Hid (65536 < T.length) := hlong
      clear hTz hlong hT
      go_wp2_with fail
      exact bodyPost_ret (res25_run rfl rfl) rfl ⟨hb04, .inr (.inl ⟨HQ.out, HL.out, _, rfl, _, _, _, rfl, hz3, hF, IOwn.nil _ _, by simp [Value.ownBlock]⟩)⟩
    · have t1 : decide ((65536 : Int) < ((bs T).size : Int)) = false := decide_eq_false (by rw [hTz]; omega)
      have t2 : decide (65536 < (bs T).size) = false := decide_eq_false (by rw [hTz]; exact hlong)
      have HL : Hid (T.length ≤ 65536) := Nat.le_of_not_lt hlong
      clear hTz hlong hT
      go_wp2_with fail
      exact bodyPost_ret (res25_run rfl rfl) rfl ⟨hb03, .inr (.inr ⟨HQ.out, HL.out, rfl⟩)⟩
  · have hb02 := hb1.trans (hb2.mono hb1.size)
    have HF : Hid (FaultAt w2 w.heap.size v q 0 P .nilIface) := by
      obtain ⟨F, x, z, e1, e2, e3, e4, e5⟩ := hF
      exact ⟨F, x, z, e1, Nat.le_trans hb1.size e2, e3, e4.mono hb1.size, e5⟩
    obtain ⟨F, x, z, rfl, _⟩ := hF
    clear hck c0 c1 hS1 HPR HGL
    go_wp2_with fail
    exact bodyPost_ret (res25_run rfl rfl) rfl ⟨hb02, .inl ⟨hq, _, rfl, HF.out⟩⟩
/-- What Print answers, as Is and the comparison of texts want it. -/
def PrA (r : List UInt8 × Int × List Int) (w : World) (e : Ending) (w' : World) : Prop :=
  ∃ ev, e = .returned (.tuple #[.string (bs r.1), ev]) ∧ SCheckPost r.2 w (.returned ev) w'
theorem print_a (limit : Int) (l : List Fld) (hl : l.length ≤ 17179869184) (hfit : ∀ x ∈ l, FitsF 17179869184 x) (a : Option Addr) (c lo n₀ : Nat) (hc : l.length ≤ c) (w : World) (hn₀ : n₀ ≤ w.heap.size) (hin : FIn w lo n₀ l a) (hE : Env w) :
    Calls Tryz.prog 25 #[.agg #[.int .i64 limit, .slice a l.length c]] w (PrA (prnA limit l) w) := by
  refine (print_t limit l hl hfit a c lo n₀ hc w hn₀ hin hE).mono ?_
  rintro e w' ⟨hb, ⟨h1, v, rfl, hF⟩ | ⟨h1, h2, v, rfl, hF⟩ | ⟨h1, h2, rfl⟩⟩
  · have hA : prnA limit l = ([], (chkS bndQ limit l).1, (chkS bndQ limit l).2) := by unfold prnA; rw [if_neg h1]
    rw [hA]
    exact ⟨v, rfl, hb, .inr ⟨h1, v, rfl, hF⟩⟩
  · have hA : prnA limit l = ([], 2, []) := by unfold prnA; rw [if_pos h1, if_pos h2]
    rw [hA]
    exact ⟨v, rfl, hb, .inr ⟨by simp, v, rfl, hF⟩⟩
  · have hA : prnA limit l = (prnS limit l, 0, []) := by unfold prnA; rw [if_pos h1, if_neg (by omega)]
    rw [hA]
    exact ⟨_, rfl, hb, .inl ⟨rfl, rfl⟩⟩
theorem prnA_len (limit : Int) (l : List Fld) : (prnA limit l).2.2.length ≤ 17 := by
  have h := chkS_len bndQ limit l
  unfold prnA
  split
  · split <;> simp
  · exact h
end Go.Proofs.YtcbjnifoojjipaaGreatDoor
