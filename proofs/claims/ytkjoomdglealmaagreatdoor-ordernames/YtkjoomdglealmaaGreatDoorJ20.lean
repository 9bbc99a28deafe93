/- Contracts and lemmas (nothing is claimed here). -/
import Derived.Test.YtkjoomdglealmaaGreatDoorJ19
import Derived.Test.YtkjoomdglealmaaGreatDoorJ4
import Derived.Test.YtkjoomdglealmaaGreatDoorJ15
import Derived.Deep.QuietTactic
import Derived.BigQuiet
namespace Go.Proofs.YtkjoomdglealmaaGreatDoor
open Go.RowKit Go.Vf

noncomputable def utfAt (r : ByteArray) : Int := chkOf (split_bytes r.data.toList).choose (split_bytes r.data.toList).choose_spec.choose
theorem utfAt_any (r : ByteArray) (hr : r.size ≤ 4294967296) (w : World) (ht : Tabs w) : Calls Tryz.prog 108 #[.string r] w fun e w' => e = .returned (.int .i64 (utfAt r)) ∧ Below w.heap.size w w' := by
  obtain ⟨h1, h2, h3⟩ := (split_bytes r.data.toList).choose_spec.choose_spec
  exact ucheck_any r hr _ _ h1 h2 h3 w ht
theorem utfAt_nil : utfAt ⟨#[]⟩ = -1 := by
  obtain ⟨h1, h2, h3⟩ := (split_bytes (⟨#[]⟩ : ByteArray).data.toList).choose_spec.choose_spec
  unfold utfAt chkOf
  have h4 : (split_bytes (⟨#[]⟩ : ByteArray).data.toList).choose_spec.choose = [] := by
    exact (List.append_eq_nil_iff.1 (h1.symm.trans rfl)).2
  rw [if_pos h4]

def ErrT (w : World) : Prop := w.cell? ⟨0, 0, none⟩ = some (.iface 215 (.agg #[hnd 42]))
theorem ErrT.old {w w' : World} (h : ErrT w) (hs : 0 < w.heap.size) (hb : Below w.heap.size w w') : ErrT w' := (hb.cell (p := ⟨0, 0, none⟩) hs).trans h

set_option maxHeartbeats 2000000 in
set_option maxRecDepth 20000 in
theorem unfit_tup (o : Go.Vf.Own) (a : Option Addr) (n c g : Nat) (lo n₀ : Nat) (l : List Prt) (hk : o.kind = 7) (w : World) (hn₀ : n₀ ≤ w.heap.size) (hv : VIn w lo n₀ (.iface 112 (.pointer (some ⟨g, 0, none⟩))) (.mk 7 false false ⟨#[]⟩ ⟨#[]⟩ l)) (R : Bad)
    (hI : ∀ W, Below w.heap.size w W → Calls Tryz.prog 72 #[.slice a n c, .iface 112 (.pointer (some ⟨g, 0, none⟩))] W (ErrPost R W)) :
    Calls Tryz.prog 46 #[fV o a n c, .iface 112 (.pointer (some ⟨g, 0, none⟩))] w (ErrPost R w) := by
  have hb1 := (Below.refl w.heap.size w).alloc (Nat.le_refl _) (.cells (cellsF o a n c) 57)
  have hN1 := Blk.new w 57 (cellsF o a n c)
  have hw := want_ok (p := .mk 7 false false ⟨#[]⟩ ⟨#[]⟩ l) (k := o.kind) (by omega) (by omega) hk.symm lo n₀ (w.alloc (.cells (cellsF o a n c) 57)) (hv.old hb1 hn₀)
  have t1 := ta58_74 ⟨g, 0, none⟩
  have t2 := ta44_74 ⟨g, 0, none⟩
  unfold fV
  obtain ⟨c0, c1, c2, c3, c4, c5, c6, c7, c8, c9, c10, c11, c12, c13⟩ := cells14 hN1
  simp only [cellsF] at hb1 hw c0 c1 c2 c3 c4 c5 c6 c7 c8 c9 c10 c11 c12 c13 hN1
  clear hk hv
  go_enter Tryz.func46, Tryz.ntmps46
  go_wp2_with fail
  refine hw.mono ?_
  rintro _ w2 ⟨rfl, hb2⟩
  have hb02 := hb1.trans (hb2.mono hb1.size)
  have hN2 := hN1.old hb2
  clear c0 c1 c2 c3 c4 c5 c6 c7 c8 c9 c10 c11 c12 c13 hw
  obtain ⟨c0, c1, c2, c3, c4, c5, c6, c7, c8, c9, c10, c11, c12, c13⟩ := hN2.c14
  have hob2 := hI w2 hb02
  clear hI
  go_wp2_with fail
  refine hob2.mono ?_
  intro e w3 hE
  obtain ⟨v3, rfl, hE⟩ := hE.val
  have HE : Hid (ErrPost R w (.returned v3) w3) := hE.after hb02
  clear hE hob2
  go_wp2_with fail
  go_ret
  exact HE.out

theorem may_num {y b : Bool} {m r : ByteArray} {l : List Prt} (h : may (.mk 2 y b m r l) = true) : m.size ≤ 255 ∧ chk b m.data.toList = 0 := by
  rw [may_eq] at h
  simp only [Bool.and_eq_true] at h
  have h2 := h.1.2
  have h3 : numOk b m = true := by simpa [own2, Prt.kind, Prt.neg, Prt.mag, Prt.raw, Prt.items] using h2
  unfold numOk at h3
  simp only [Bool.and_eq_true, decide_eq_true_eq, Bool.not_eq_true'] at h3
  have hl : m.data.toList.length = m.size := by simp
  refine ⟨h3.1, ?_⟩
  unfold chk
  rw [if_neg (by omega), if_neg (by rw [h3.2]; decide)]
theorem unfit_any : ∀ (f : Fld), GoodF f → ∀ (p : Prt), may p = true → dep p ≤ 100 → ∀ (a : Option Addr) (c lo n₀ : Nat) (v : Value) (lo' n₁ : Nat) (w : World), n₀ ≤ w.heap.size → n₁ ≤ w.heap.size → FIn w lo n₀ f.fields a → VIn w lo' n₁ v p → Tabs w → ErrT w →
    Calls Tryz.prog 46 #[fV f.own a f.fields.length c, v] w (ErrPost (unf utfAt f p) w) := by
  intro f
  induction f using Fld.ind with
  | h o l ih =>
    intro hg p hm hd a c lo n₀ v lo' n₁ w hn₀ hn₁ hin hv hT hE
    obtain ⟨k1, k7, s1, s2, hq, hll, hgs⟩ : 1 ≤ o.kind ∧ o.kind ≤ 7 ∧ o.lm.size ≤ 17179869184 ∧ o.hm.size ≤ 17179869184 ∧ (o.bnd = true → chk o.ln o.lm.data.toList = 0 ∧ chk o.hn o.hm.data.toList = 0) ∧ l.length ≤ 17179869184 ∧ ∀ x ∈ l, GoodF x := by
      cases hg with | mk a b c d e f g => exact ⟨a, b, c, d, e, f, g⟩
    have h3 : 3 ≤ w.heap.size := hT.size
    cases hv with
    | null =>
      have := unfit_null o a l.length c w
      rw [unf, if_pos rfl]; exact this
    | truth y =>
      by_cases hk : (1 : Int) = o.kind
      · rw [unf, if_neg (by decide), if_neg (fun h => h hk), if_neg (by decide), if_neg (by decide), if_neg (by decide)]
        exact unfit_truth o a l.length c y hk.symm w
      · rw [unf, if_neg (by decide), if_pos hk]
        exact unfit_kind o a l.length c _ _ (.mk 1 y false ⟨#[]⟩ ⟨#[]⟩ []) k1 k7 (by show (0 : Int) ≤ 1; omega) hk lo' n₁ w hn₁ (.truth y)
    | num b m =>
      obtain ⟨hm1, hm2⟩ := may_num hm
      by_cases hk : (2 : Int) = o.kind
      · rw [unf, if_neg (by decide), if_neg (fun h => h hk), if_pos rfl]
        exact unfit_num o a l.length c b m hk.symm s1 s2 (by omega) hm2 hq w
      · rw [unf, if_neg (by decide), if_pos hk]
        exact unfit_kind o a l.length c _ _ (.mk 2 false b m ⟨#[]⟩ []) k1 k7 (by show (0 : Int) ≤ 2; omega) hk lo' n₁ w hn₁ (.num b m)
    | raw k r hr =>
      have hr4 : (3 ≤ k ∧ k ≤ 6) := by
        unfold isRawK at hr
        simp only [Bool.or_eq_true, beq_iff_eq] at hr
        omega
      have hrs : r.size ≤ 65536 := by
        rw [may_eq] at hm
        simp only [Bool.and_eq_true] at hm
        have h2 := hm.1.2
        simp only [own2, Prt.kind, Prt.neg, Prt.mag, Prt.raw, Prt.items, Bool.and_eq_true, Bool.or_eq_true, beq_iff_eq] at h2
        rcases h2 with ((((h | h) | ⟨h, _⟩) | ⟨_, h⟩) | ⟨_, h⟩) | ⟨h, _⟩ <;> first | omega | (have := of_decide_eq_true h; omega)
      by_cases hk : k = o.kind
      · rw [unf, if_neg (by omega), if_neg (fun h => h hk), if_neg (by omega), if_pos hr]
        exact unfit_raw o a l.length c k r hr hk.symm (by omega) (by omega) (by omega) (utfAt r) w hT (fun W hW => utfAt_any r (by omega) W hW)
      · rw [unf, if_neg (by omega), if_pos hk]
        exact unfit_kind o a l.length c _ _ (.mk k false false ⟨#[]⟩ r []) k1 k7 (by show 0 ≤ k; omega) hk lo' n₁ w hn₁ (.raw k r hr)
    | tup V g1 g2 hB hc hV =>
      rename_i t g tc ta
      by_cases hk : (7 : Int) = o.kind
      · rw [unf, if_neg (by decide), if_neg (fun h => h hk), if_neg (by decide), if_neg (by decide), if_pos rfl]
        have hml : ∀ x ∈ t, may x = true := by
          rw [may_eq] at hm
          simp only [Prt.items, Bool.and_eq_true] at hm
          exact List.all_eq_true.1 hm.2
        have htl : t.length ≤ 1024 := by
          rw [may_eq] at hm
          simp only [Bool.and_eq_true] at hm
          have h2 := hm.1.2
          simp only [own2, Prt.kind, Prt.neg, Prt.mag, Prt.raw, Prt.items, Bool.and_eq_true, Bool.or_eq_true, beq_iff_eq] at h2
          rcases h2 with ((((h | h) | ⟨h, _⟩) | ⟨h, _⟩) | ⟨h, _⟩) | ⟨_, h⟩
          · omega
          · omega
          · omega
          · omega
          · omega
          · exact of_decide_eq_true h
        have hdl : depL t + 1 ≤ 100 := by rw [dep, if_pos rfl] at hd; exact hd
        refine unfit_tup o a l.length c g lo' n₁ t hk.symm w hn₁ (.tup V g1 g2 hB hc hV) _ (fun W hW => ?_)
        have hsz := hW.size
        refine unfitItems_any utfAt l t hll (by omega) a c lo n₀ g ta tc _ V lo' n₁ W (by omega) (by omega) (hin.keep hW hn₀) (hB.old hW) (fun j hj => ?_) (fun j hj => (hV j hj).old hW hn₁) (hE.old (by omega) hW) (by omega) (fun j h1 h2 aj cj vj X hX _ hf hv' => ?_) (fun j h1 h2 cc aa P y hu => ?_)
        · obtain ⟨h, off, e, q1, q2, q3⟩ := hc j hj
          exact ⟨h, off, e, q1, q2, (hW.cell (p := ⟨h, off + j, none⟩) (by show h < _; omega)).trans q3⟩
        · have hwX := hW.trans (hX.mono hW.size)
          have hsx := hwX.size
          have hdj := depL_mem (List.getElem_mem h2)
          exact ih l[j] (List.getElem_mem h1) (hgs _ (List.getElem_mem h1)) t[j] (hml _ (List.getElem_mem h2)) (by omega) aj cj lo n₀ vj lo' n₁ X (by omega) (by omega) hf hv' (hT.own hwX) (hE.old (by omega) hwX)
        · have hdj := depL_mem (List.getElem_mem h2)
          have := unf_len t[j] l[j] cc aa P y hu
          omega
      · rw [unf, if_neg (by decide), if_pos hk]
        exact unfit_kind o a l.length c _ _ (.mk 7 false false ⟨#[]⟩ ⟨#[]⟩ t) k1 k7 (by show (0 : Int) ≤ 7; omega) hk lo' n₁ w hn₁ (.tup V g1 g2 hB hc hV)
end Go.Proofs.YtkjoomdglealmaaGreatDoor

namespace Go.Proofs.YtkjoomdglealmaaGreatDoor
open Go.RowKit Go.Extern.Stop Go.Stop Go.Extern Go.Vf

theorem rl_typeOf30 (v : Value) (w : World) : (ReflectliteType.typeOf #[.iface 34 v]).run Tryz.prog w = .ok (.iface 215 (.agg #[hnd 34])) w := by kernel_rfl
theorem rl_mComp (h : Value) (w : World) : (Go.method 525 215 (.agg #[h]) "Comparable").run Tryz.prog w = .ok (353, .agg #[h]) w := by kernel_rfl
theorem rl_mIs (v : Value) (w : World) : (Go.method 525 98 v "Is").run Tryz.prog w = .ok (333, v) w := by kernel_rfl
theorem ta_is (v : Value) (w : World) : (Instr.typeAssert (.iface 98 v) 42 272 true).run Tryz.prog w = .ok (.tuple #[.iface 98 v, .bool true]) w := run_typeAssert_hasB Tryz.underlying272 (by kernel_rfl) v 42 w
theorem ne_types (v x : Value) (w : World) : (binOp .eql 42 (.iface 98 v) (.iface 34 x)).run Tryz.prog w = .ok (.bool false) w := run_eql_iface_types 98 34 v x Tryz.underlying42 (by decide) w
theorem info30 : (Tryz.prog.info? 34).map (fun i => i.comparable) = some true := by kernel_rfl
theorem eq_code (c : Int) (w : World) : (binOp .eql 42 (.iface 34 (.int .i64 c)) (.iface 34 (.int .i64 c))).run Tryz.prog w = .ok (.bool true) w := by
  obtain ⟨i, hi, hc⟩ : ∃ i, Tryz.prog.info? 34 = some i ∧ i.comparable = true := by simpa using info30
  have h : ∀ d, (Op.equalIn (d + 1 + 1) 42 (.iface 34 (.int .i64 c)) (.iface 34 (.int .i64 c))).run Tryz.prog w = .ok true w := fun d => by
    simp [Op.equalIn, run_underlying Tryz.underlying42, run_underlying Tryz.underlying34, typeInfo, hi, hc]
  simp only [binOp]
  simp [Op.equal, Op.maxDepth, h 9998]

theorem rl_comp30 (w : World) : (ReflectliteType.method (fun t => do Rtype.noPackHeld "Comparable" t; (fun a => Value.bool a.comparable) <$> typeInfo t) #[.agg #[hnd 34]]).run Tryz.prog w = .ok (.bool true) w := by kernel_rfl

set_option maxRecDepth 20000 in
set_option maxHeartbeats 4000000 in
theorem is_fault (e : Addr) (c : Int) (w : World) (hc : w.cell? e = some (.int .i64 c)) : Calls Tryz.prog 79 #[.iface 98 (.pointer (some e)), .iface 34 (.int .i64 c)] w fun ev w' => ev = .returned (.bool true) ∧ w' = w := by
  have c41 := @run_callFunc_extern Tryz.prog 114 _ ReflectliteType.typeOf Tryz.func114 (by kernel_rfl) (by kernel_rfl) (by kernel_rfl) (by kernel_rfl)
  have c89 := @run_callFunc_extern Tryz.prog 353 _ (ReflectliteType.method (fun t => do Rtype.noPackHeld "Comparable" t; pure (.bool (← typeInfo t).comparable))) Tryz.func353 (by kernel_rfl) (by kernel_rfl) (by kernel_rfl) (by kernel_rfl)
  have f1 := rl_typeOf30
  have f2 := rl_mComp
  have f3 := rl_comp30
  have f4 := rl_mIs
  have f5 := ta_is
  have f6 := ne_types
  have f7 := eq_code c w
  unfold hnd at *
  go_enter Tryz.func79, Tryz.ntmps79
  go_wp2
  refine wp_loop_rounds 1 ?_
  rw [rounds_succ]
  go_wp2
  go_ret
  exact ⟨rfl, rfl⟩
end Go.Proofs.YtkjoomdglealmaaGreatDoor

namespace Go.Proofs.YtkjoomdglealmaaGreatDoor
open Go.RowKit Go.Vf

theorem Ints.val {n : Nat} {w : World} {v : Value} {zs : List Int} (h : Ints n w v zs) : ∃ x c, v = .slice x zs.length c := by
  rcases h with ⟨a, c, rfl, rfl⟩ | ⟨b, off, c, rfl, _⟩
  · exact ⟨a, c, rfl⟩
  · exact ⟨_, c, rfl⟩
theorem drop_getD (l : List Int) (k : Nat) (h : k < l.length) : l.drop k = (l[k]?.getD 0) :: l.drop (k + 1) := by
  rw [List.drop_eq_getElem_cons h, List.getElem?_eq_getElem h]; rfl
theorem drew_more {w wr : World} (h : ∃ n, wr = w.drewN n) : ∃ n, wr.drew = w.drewN n := by
  obtain ⟨n, e⟩ := h
  exact ⟨n + 1, by rw [e]; rfl⟩
set_option maxHeartbeats 4000000 in
set_option maxRecDepth 20000 in
theorem sameInts_q (va vb : Value) (za zb : List Int) (n₁ n₂ : Nat) (w : World) (ha : Ints n₁ w va za) (hb : Ints n₂ w vb zb) (hla : za.length ≤ 4611686018427387904) (_hlb : zb.length ≤ 4611686018427387904) :
    Calls Tryz.prog 78 #[va, vb] w fun e w' => e = .returned (.bool (decide (za = zb))) ∧ ∃ n, w' = w.drewN n := by
  obtain ⟨R, HR⟩ : ∃ R, Hid (R = decide (za = zb)) := ⟨_, rfl⟩
  rw [← HR.out]
  by_cases hl : za.length = zb.length
  · rcases Nat.eq_zero_or_pos za.length with h0 | h0
    · obtain ⟨x, c, rfl⟩ := ha.val
      obtain ⟨y, d, rfl⟩ := hb.val
      have hb0 : zb.length = 0 := by omega
      have hR : R = true := by rw [HR.out, List.eq_nil_of_length_eq_zero h0, List.eq_nil_of_length_eq_zero hb0]; rfl
      rw [h0, hb0]
      clear ha hb h0 hb0 hl hla
      go_enter Tryz.func78, Tryz.ntmps78
      go_wp2
      go_loopw [5] (fun i wr => i = .int .i64 0 ∧ wr = w) (fun _ _ => 0)
      case atStart => exact ⟨rfl, rfl⟩
      case round =>
        obtain ⟨rfl, rfl⟩ := hrel
        go_wp2
        go_ret
        exact ⟨by rw [hR]; rfl, ⟨0, rfl⟩⟩
    · rcases ha with ⟨_, _, _, h⟩ | ⟨b1, o1, c1, rfl, hb1, hc1⟩
      · rw [h] at h0; simp at h0
      rcases hb with ⟨_, _, _, h⟩ | ⟨b2, o2, c2, rfl, hb2, hc2⟩
      · rw [hl, h] at h0; simp at h0
      rw [← hl]
      rw [← hl] at hc2
      obtain ⟨L, hL⟩ : ∃ L, L = za.length := ⟨_, rfl⟩
      have HL : Hid (L = za.length ∧ L = zb.length) := ⟨hL, by rw [hL]; exact hl⟩
      rw [← hL] at hc1 hc2 hla h0 ⊢
      clear hl hL
      go_enter Tryz.func78, Tryz.ntmps78
      go_wp2
      go_loopw [5] (fun i wr => ∃ k : Nat, k ≤ L ∧ i = .int .i64 k ∧ Hid (R = decide (za.drop k = zb.drop k)) ∧ (∃ n, wr = w.drewN n) ∧ (∀ a, wr.cell? a = w.cell? a)) (fun i _ => L - (intOf i).toNat)
      case atStart => exact ⟨0, Nat.zero_le _, rfl, HR, ⟨0, rfl⟩, fun _ => rfl⟩
      case round =>
        obtain ⟨k, hk, rfl, HK, hbel, hsame⟩ := hrel
        by_cases hlt : k < L
        · have x1 := (hsame _).trans (hc1 k hlt)
          have x2 := (hsame _).trans (hc2 k hlt)
          have hK := HK.out
          rw [drop_getD za k (by rw [← HL.out.1]; exact hlt), drop_getD zb k (by rw [← HL.out.2]; exact hlt)] at hK
          obtain ⟨p, hp⟩ : ∃ p, p = za[k]?.getD 0 := ⟨_, rfl⟩
          obtain ⟨q, hq⟩ : ∃ q, q = zb[k]?.getD 0 := ⟨_, rfl⟩
          rw [← hp] at x1 hK
          rw [← hq] at x2 hK
          have HS : Hid (∀ a, wr.cell? a = w.cell? a) := hsame
          clear hp hq HK hc1 hc2 hsame
          by_cases hpq : p = q
          · have HK2 : Hid (R = decide (za.drop (k + 1) = zb.drop (k + 1))) := by show _ = _; rw [hK, hpq]; simp
            have t1 : (p == q) = true := by simpa using hpq
            have t2 : (p != q) = false := by simpa using hpq
            clear hK hpq
            go_wp2
            go_region
            go_wp2
            go_roundw
            case rel => exact ⟨k + 1, by omega, by go_num, HK2, drew_more hbel, HS.out⟩
            case measure => simp [intOf]; omega
          · have hR : R = false := by rw [hK]; simp [hpq]
            have t1 : (p == q) = false := by simpa using hpq
            have t2 : (p != q) = true := by simpa using hpq
            clear hK hpq
            go_wp2
            go_region
            go_wp2
            go_ret
            exact ⟨by first | (rw [hR]; rfl) | rfl, drew_more hbel⟩
        · obtain rfl : k = L := by omega
          have hR : R = true := by
            rw [HK.out, List.drop_eq_nil_of_le (by rw [← HL.out.1]; exact Nat.le_refl _), List.drop_eq_nil_of_le (by rw [← HL.out.2]; exact Nat.le_refl _)]; rfl
          clear HK
          go_wp2
          go_ret
          exact ⟨by first | (rw [hR]; rfl) | rfl, hbel⟩
  · obtain ⟨x, c, rfl⟩ := ha.val
    obtain ⟨y, d, rfl⟩ := hb.val
    have hR : R = false := by rw [HR.out]; simp; intro h; exact hl (by rw [h])
    clear ha hb
    go_enter Tryz.func78, Tryz.ntmps78
    go_wp2
    go_ret
    exact ⟨by rw [hR]; rfl, ⟨0, rfl⟩⟩

end Go.Proofs.YtkjoomdglealmaaGreatDoor

namespace Go.Proofs.YtkjoomdglealmaaGreatDoor
open Go.RowKit Go.Extern.Stop Go.Stop Go.Extern Go.Vf

theorem cell_keep {w w' : World} (h : Below w.heap.size w w') {a : Addr} {v : Value} (hc : w.cell? a = some v) : w'.cell? a = some v := by
  have hl : a.block < w.heap.size := by
    rcases Nat.lt_or_ge a.block w.heap.size with h | h
    · exact h
    · simp [World.cell?, Array.getElem?_eq_none h] at hc
  exact (h.cell hl).trans hc

theorem as_fault_b (e t : Addr) (old : Value) (w : World) (hg : w.cell? ⟨0, 0, none⟩ = some (.iface 215 (.agg #[hnd 42]))) (ht0 : w.cell? t = some old) (hf0 : w.frozen? t = false) :
    Calls Tryz.prog 52 #[.iface 98 (.pointer (some e)), .iface 107 (.pointer (some t))] w fun ev w' => ev = .returned (.bool true) ∧ w'.cell? t = some (.pointer (some e)) ∧ Below t.block w w' := by
  have htl : t.block < w.heap.size := by
    rcases Nat.lt_or_ge t.block w.heap.size with h | h
    · exact h
    · simp [World.cell?, Array.getElem?_eq_none h] at ht0
  refine (as_fault e t old w hg ht0 hf0).mono ?_
  rintro _ _ ⟨rfl, rfl⟩
  have hB : Below w.heap.size w (asW w t e) := by
    have b1 := (Below.refl w.heap.size w).alloc (Nat.le_refl _) (.cells #[.pointer (some t)] 107)
    have b2 := b1.alloc b1.size (.cells #[hnd 107, .pointer (some ⟨w.heap.size, 0, none⟩), .int .u64 150] 155)
    have b3 := b2.alloc b2.size (.cells #[hnd 107, .pointer (some ⟨w.heap.size, 0, none⟩), .int .u64 150] 155)
    exact b3.alloc b3.size _
  refine ⟨rfl, World.cell?_setCell_same' _ _ _ (by rw [cell_keep hB ht0]; rfl), ?_⟩
  exact (hB.mono (Nat.le_of_lt htl)).setCell (Nat.le_refl _) _

set_option maxRecDepth 20000 in
set_option maxHeartbeats 4000000 in
theorem keepIs_path (b : Nat) (c at' : Int) (v1 v2 : Value) (zs : List Int) (hz : zs.length ≤ 4611686018427387904) (w : World) (hne : c ≠ 0) (hg : w.cell? ⟨0, 0, none⟩ = some (.iface 215 (.agg #[hnd 42]))) (h0 : w.cell? ⟨b, 0, none⟩ = some (.int .i64 c)) (h1 : w.cell? ⟨b, 1, none⟩ = some (.int .i64 at')) (h2 : w.cell? ⟨b, 2, none⟩ = some v1)
    (hz1 : Ints w.heap.size w v1 zs) (hz2 : Ints w.heap.size w v2 zs) :
    Calls Tryz.prog 50 #[.iface 98 (.pointer (some ⟨b, 0, none⟩)), .agg #[.int .i64 c, .int .i64 at', v2]] w fun ev w' => ev = .returned (.bool true) ∧ Below w.heap.size w w' := by
  obtain ⟨xa, xc, rfl⟩ := hz1.val
  obtain ⟨ya, yc, rfl⟩ := hz2.val
  have d0 : decide (c = 0) = false := by simpa using hne
  have d1 : (c == 0) = false := by simpa using hne
  have bB1 := (Below.refl w.heap.size w).alloc (Nat.le_refl _) (.cells #[.int .i64 c, .int .i64 at', .slice ya zs.length yc] 47)
  have bB2 := bB1.alloc bB1.size (.cells #[.pointer none] 98)
  have s1 := alloc_size w (.cells #[.int .i64 c, .int .i64 at', .slice ya zs.length yc] 47)
  have k1 := Blk.new w 47 #[.int .i64 c, .int .i64 at', .slice ya zs.length yc]
  have bB3 := (Below.refl _ (w.alloc (.cells #[.int .i64 c, .int .i64 at', .slice ya zs.length yc] 47))).alloc (Nat.le_refl _) (.cells #[.pointer none] 98)
  have k2 := k1.old bB3
  have k3 := Blk.new (w.alloc (.cells #[.int .i64 c, .int .i64 at', .slice ya zs.length yc] 47)) 98 #[.pointer none]
  rw [s1] at k3
  have hsame : ∀ W, Below w.heap.size w W → Calls Tryz.prog 78 #[.slice xa zs.length xc, .slice ya zs.length yc] W fun e w' => e = .returned (.bool true) ∧ ∃ n, w' = W.drewN n := fun W hW => by
    have := sameInts_q _ _ zs zs w.heap.size w.heap.size W (hz1.below hW (Nat.le_refl _)) (hz2.below hW (Nat.le_refl _)) hz hz
    simpa using this
  clear bB3 k1 hz1 hz2
  generalize zs.length = zn at *
  go_enter Tryz.func50, Tryz.ntmps50
  go_wp2_with fail
  generalize (w.alloc (.cells #[.int .i64 c, .int .i64 at', .slice ya zn yc] 47)).alloc (.cells #[.pointer none] 98) = w2 at *
  have g2 := cell_keep bB2 hg
  have e0 := cell_keep bB2 h0
  have e1 := cell_keep bB2 h1
  have e2 := cell_keep bB2 h2
  refine (as_fault_b ⟨b, 0, none⟩ ⟨w.heap.size + 1, 0, none⟩ (.pointer none) w2 g2 ?_ ?_).mono ?_
  · exact k3.cell 0
  · exact k3.frozen 0
  rintro _ w3 ⟨rfl, ht, hB3⟩
  have hbl : b < w.heap.size := by
    rcases Nat.lt_or_ge b w.heap.size with h | h
    · exact h
    · simp [World.cell?, Array.getElem?_eq_none h] at h0
  have k4 := k2.below hB3 (Nat.lt_succ_self _)
  have a0 : w3.cell? ⟨b, 0, none⟩ = some (.int .i64 c) := (hB3.cell (by show b < w.heap.size + 1; omega)).trans e0
  have a1 : w3.cell? ⟨b, 1, none⟩ = some (.int .i64 at') := (hB3.cell (by show b < w.heap.size + 1; omega)).trans e1
  have a2 : w3.cell? ⟨b, 2, none⟩ = some (.slice xa zn xc) := (hB3.cell (by show b < w.heap.size + 1; omega)).trans e2
  have x0 : w3.cell? ⟨w.heap.size, 0, none⟩ = some (.int .i64 c) := k4.cell 0
  have x1 : w3.cell? ⟨w.heap.size, 1, none⟩ = some (.int .i64 at') := k4.cell 1
  have x2 : w3.cell? ⟨w.heap.size, 2, none⟩ = some (.slice ya zn yc) := k4.cell 2
  have bB4 : Below w.heap.size w w3 := bB2.trans (hB3.mono (Nat.le_succ _))
  have HS : Hid (∀ n, Calls Tryz.prog 78 #[.slice xa zn xc, .slice ya zn yc] (w3.drewN n) fun e w' => e = .returned (.bool true) ∧ ∃ m, w' = (w3.drewN n).drewN m) := fun n => hsame _ ⟨bB4.os, bB4.tape, bB4.output, bB4.size, bB4.block⟩
  clear k2 k3 k4 g2 e0 e1 e2 h0 h1 h2 hg s1 bB1 bB2 hB3 hsame
  go_wp2_with fail
  go_quiet (first | (go_at_call 78; refine Calls.quiet_of (HS.out _)) | (go_at_call 79; exact Calls.quiet_of_same (is_fault _ c _ (by simpa using a0))))
  go_wp2
  go_ret
  exact ⟨rfl, ⟨bB4.os, bB4.tape, bB4.output, bB4.size, bB4.block⟩⟩
end Go.Proofs.YtkjoomdglealmaaGreatDoor

namespace Go.Proofs.YtkjoomdglealmaaGreatDoor
open Go.RowKit Go.Extern.Stop Go.Stop Go.Extern Go.Vf

set_option maxRecDepth 20000 in
set_option maxHeartbeats 4000000 in
theorem keepWhy_fault (b g : Nat) (n : Int) (w : World) (hg : w.cell? ⟨0, 0, none⟩ = some (.iface 215 (.agg #[hnd 42]))) (h3 : w.cell? ⟨b, 3, none⟩ = some (.iface 98 (.pointer (some ⟨g, 0, none⟩)))) (hn : w.cell? ⟨g, 0, none⟩ = some (.int .i64 n)) :
    Calls Tryz.prog 51 #[.iface 98 (.pointer (some ⟨b, 0, none⟩)), .int .i64 n] w fun ev w' => ev = .returned (.bool true) ∧ Below w.heap.size w w' := by
  have bB2 := (Below.refl w.heap.size w).alloc (Nat.le_refl _) (.cells #[.pointer none] 98)
  have k3 := Blk.new w 98 #[.pointer none]
  have hbl : b < w.heap.size := by
    rcases Nat.lt_or_ge b w.heap.size with h | h
    · exact h
    · simp [World.cell?, Array.getElem?_eq_none h] at h3
  have hgl : g < w.heap.size := by
    rcases Nat.lt_or_ge g w.heap.size with h | h
    · exact h
    · simp [World.cell?, Array.getElem?_eq_none h] at hn
  go_enter Tryz.func51, Tryz.ntmps51
  go_upto_region 2 with fail
  generalize w.alloc (.cells #[.pointer none] 98) = w2 at *
  have g2 := cell_keep bB2 hg
  have e3 := cell_keep bB2 h3
  have en := cell_keep bB2 hn
  clear h3 hn hg
  go_wp2_with fail
  refine (as_fault_b ⟨b, 0, none⟩ ⟨w.heap.size, 0, none⟩ (.pointer none) w2 g2 ?_ ?_).mono ?_
  · exact k3.cell 0
  · exact k3.frozen 0
  rintro _ w3 ⟨rfl, ht, hB3⟩
  have a3 : w3.cell? ⟨b, 3, none⟩ = some (.iface 98 (.pointer (some ⟨g, 0, none⟩))) := (hB3.cell (by show b < w.heap.size; omega)).trans e3
  have an : w3.cell? ⟨g, 0, none⟩ = some (.int .i64 n) := (hB3.cell (by show g < w.heap.size; omega)).trans en
  have bB4 : Below w.heap.size w w3 := bB2.trans hB3
  have his := is_fault ⟨g, 0, none⟩ n w3 an
  clear k3 g2 e3 en bB2 hB3
  go_wp2_with fail
  refine his.mono ?_
  rintro _ w4 ⟨rfl, hw4⟩
  rw [hw4]
  clear his hw4
  go_wp2_with fail
  go_ret
  exact ⟨rfl, bB4⟩
end Go.Proofs.YtkjoomdglealmaaGreatDoor

namespace Go.Proofs.YtkjoomdglealmaaGreatDoor
open Go.RowKit Go.Vf

theorem fitField_any (f : Fld) (hf : FitsF 17179869184 f) (a : Option Addr) (c lo n₀ : Nat) (hc : f.fields.length ≤ c) (v : Value) (p : Prt) (hm : may p = true) (hd : dep p ≤ 100) (lo' n₁ : Nat) (w : World) (hn₀ : n₀ ≤ w.heap.size) (hn₁ : n₁ ≤ w.heap.size) (hin : FIn w lo n₀ f.fields a) (hv : VIn w lo' n₁ v p) (hT : Tabs w) (hE : ErrT w) :
    Calls Tryz.prog 20 #[fV f.own a f.fields.length c, v] w (ErrPost (argE (chkS bndQ 65536 [f]).1 (unf utfAt f p)) w) :=
  fitField_of f hf a c lo n₀ hc v w hn₀ hin _ fun hq W hW =>
    unfit_any f ((chkS_seen hq f (by simp)).good hf) p hm hd a c lo n₀ v lo' n₁ W (Nat.le_trans hn₀ hW.size) (Nat.le_trans hn₁ hW.size) (hin.keep hW hn₀) (hv.old hW hn₁) (hT.own hW) (hE.old (by have := hT.size; omega) hW)
theorem fitCheck_any (limit : Int) (l : List Fld) (hfit : ∀ x ∈ l, FitsF 17179869184 x) (hll : l.length ≤ 17179869184) (a : Option Addr) (c lo n₀ : Nat) (hc : l.length ≤ c) (v : Value) (p : Prt) (hm : may p = true) (hd : dep p ≤ 100) (lo' n₁ : Nat) (w : World) (hn₀ : n₀ ≤ w.heap.size) (hn₁ : n₁ ≤ w.heap.size) (hin : FIn w lo n₀ l a) (hv : VIn w lo' n₁ v p) (hT : Tabs w) (hE : ErrT w) :
    Calls Tryz.prog 15 #[.agg #[.int .i64 limit, .slice a l.length c], v] w (ErrPost (argE (chkS bndQ limit l).1 (unf utfAt (.mk tupO l) p)) w) :=
  fitCheck_of limit l hfit hll a c lo n₀ hc v w hn₀ hin _ fun hq W hW =>
    unfit_any (.mk tupO l) (.mk (show (1 : Int) ≤ tupO.kind by decide) (show tupO.kind ≤ 7 by decide) (show tupO.lm.size ≤ 17179869184 by decide) (show tupO.hm.size ≤ 17179869184 by decide) (fun h => by cases h) hll (fun x hx => (chkS_seen hq x hx).good (hfit x hx))) p hm hd a c lo n₀ v lo' n₁ W (Nat.le_trans hn₀ hW.size) (Nat.le_trans hn₁ hW.size) (hin.keep hW hn₀) (hv.old hW hn₁) (hT.own hW) (hE.old (by have := hT.size; omega) hW)

theorem ta98 (v : Value) (w : World) : (Instr.typeAssert (.iface 98 v) 42 98 true).run Tryz.prog w = .ok (.tuple #[v, .bool true]) w := by kernel_rfl
set_option maxHeartbeats 2000000 in
set_option maxRecDepth 20000 in
theorem told_fault (b g : Nat) (c at' n : Int) (v1 v2 : Value) (zs : List Int) (hz : zs.length ≤ 4611686018427387904) (w : World) (hne : c ≠ 0) (hn : n ≠ 0) (hg : ErrT w) (hB : Blk w b 100 #[.int .i64 c, .int .i64 at', v1, .iface 98 (.pointer (some ⟨g, 0, none⟩))]) (hgn : w.cell? ⟨g, 0, none⟩ = some (.int .i64 n))
    (hz1 : Ints w.heap.size w v1 zs) (hz2 : Ints w.heap.size w v2 zs) (h0 : 0 < w.heap.size) :
    Calls Tryz.prog 18 #[.iface 98 (.pointer (some ⟨b, 0, none⟩)), .agg #[.int .i64 c, .int .i64 at', v2], .int .i64 n] w fun ev w' => ev = .returned (.bool true) ∧ Below w.heap.size w w' := by
  have hb1 := (Below.refl w.heap.size w).alloc (Nat.le_refl _) (.cells #[.int .i64 c, .int .i64 at', v2] 47)
  have k1 := Blk.new w 47 #[.int .i64 c, .int .i64 at', v2]
  have hB1 := hB.old hb1
  have hg1 := hg.old h0 hb1
  have hgn1 := cell_keep hb1 hgn
  have hzs := hb1.size
  have his := keepIs_path b c at' v1 v2 zs hz (w.alloc (.cells #[.int .i64 c, .int .i64 at', v2] 47)) hne hg1 (hB1.cell 0) (hB1.cell 1) (hB1.cell 2) ((hz1.below hb1 (Nat.le_refl _)).mono hzs) ((hz2.below hb1 (Nat.le_refl _)).mono hzs)
  obtain ⟨ya, yc, rfl⟩ := hz2.val
  have d0 : decide (c = 0) = false := by simpa using hne
  have d1 : (c == 0) = false := by simpa using hne
  have d2 : decide (n = 0) = false := by simpa using hn
  have d3 : (n == 0) = false := by simpa using hn
  have tt := ta98 (.pointer (some ⟨b, 0, none⟩))
  have x0 : (w.alloc (.cells #[.int .i64 c, .int .i64 at', .slice ya zs.length yc] 47)).cell? ⟨w.heap.size, 0, none⟩ = some (.int .i64 c) := k1.cell 0
  have x1 : (w.alloc (.cells #[.int .i64 c, .int .i64 at', .slice ya zs.length yc] 47)).cell? ⟨w.heap.size, 1, none⟩ = some (.int .i64 at') := k1.cell 1
  have x2 : (w.alloc (.cells #[.int .i64 c, .int .i64 at', .slice ya zs.length yc] 47)).cell? ⟨w.heap.size, 2, none⟩ = some (.slice ya zs.length yc) := k1.cell 2
  have HW : Hid (∀ W, Below (w.alloc (.cells #[.int .i64 c, .int .i64 at', .slice ya zs.length yc] 47)).heap.size (w.alloc (.cells #[.int .i64 c, .int .i64 at', .slice ya zs.length yc] 47)) W → Calls Tryz.prog 51 #[.iface 98 (.pointer (some ⟨b, 0, none⟩)), .int .i64 n] W fun ev w' => ev = .returned (.bool true) ∧ Below W.heap.size W w') := fun W hW =>
    keepWhy_fault b g n W (hg1.old (by omega) hW) ((hB1.old hW).cell 3) (cell_keep hW hgn1)
  clear hz1 hz2 hg hB hgn hB1 hg1 hgn1
  go_enter Tryz.func18, Tryz.ntmps18
  go_wp2_with fail
  refine his.mono ?_
  rintro _ w2 ⟨rfl, hb2⟩
  have y0 : w2.cell? ⟨w.heap.size, 0, none⟩ = some (.int .i64 c) := (k1.old hb2).cell 0
  have hwhy := HW.out w2 hb2
  have hb02 := hb1.trans (hb2.mono hb1.size)
  clear his HW x0 x1 x2 k1
  go_wp2_with fail
  refine hwhy.mono ?_
  rintro _ w3 ⟨rfl, hb3⟩
  go_wp2_with fail
  go_ret
  exact ⟨rfl, hb02.trans (hb3.mono hb02.size)⟩
end Go.Proofs.YtkjoomdglealmaaGreatDoor
