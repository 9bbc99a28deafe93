/- Contracts and lemmas (nothing is claimed here). -/
import Derived.Test.YtkjoomdglealmaaGreatDoorJ15
import Derived.Test.YtkjoomdglealmaaGreatDoorFItm
namespace Go.Vf

theorem byte_of {n : Nat} {c : UInt8} (h : n = c.toNat) : UInt8.ofNat n = c := by subst h; simp

/-- A whole character is a point's. -/
theorem whole_enc {l : List UInt8} {k : Nat} (hne : l ≠ []) (hk : rowBU (l[0]?.getD 0).toNat = some k) (hw : wholeL k l = true) : ∃ p, IsPt p ∧ l = enc p ++ l.drop (enc p).length := by
  obtain ⟨hk9, h1, h2⟩ := rowB_lt hk
  cases l with
  | nil => exact absurd rfl hne
  | cons a l =>
    simp only [List.getElem?_cons_zero, Option.getD_some] at h1 h2
    have ha := a.toNat_lt
    simp only [wholeL, Bool.and_eq_true, decide_eq_true_eq, Bool.or_eq_true] at hw
    obtain ⟨w1, w2, w3⟩ := hw
    have hcase : k = 0 ∨ k = 1 ∨ (k = 2 ∨ k = 3 ∨ k = 4 ∨ k = 5) ∨ (k = 6 ∨ k = 7 ∨ k = 8) := by omega
    rcases hcase with rfl | rfl | hk3 | hk4
    · simp only [utab] at h1 h2
      refine ⟨a.toNat, by unfold IsPt; omega, ?_⟩
      have e : enc a.toNat = [a] := by unfold enc; rw [if_pos (by omega), byte_of rfl]
      rw [e]; simp
    · simp only [utab, secB, List.length_cons] at h1 h2 w1 w2
      cases l with
      | nil => simp at w1
      | cons b l =>
        simp at w2
        have e : enc ((a.toNat - 0xc0) * 64 + (b.toNat - 0x80)) = [a, b] := by
          unfold enc
          rw [if_neg (by omega), if_pos (by omega), byte_of (c := a) (by omega), byte_of (c := b) (by omega)]
        exact ⟨(a.toNat - 0xc0) * 64 + (b.toNat - 0x80), by unfold IsPt; omega, by rw [e]; simp⟩
    · have hz : (utab k).size = 3 := by rcases hk3 with rfl | rfl | rfl | rfl <;> rfl
      rw [hz] at w1 w2 w3
      match l, w1, w2, w3 with
      | b :: c :: l, _, w2, w3 =>
        simp [secB] at w2
        simp [tailB] at w3
        have e : ∀ p, p = ((a.toNat - 0xe0) * 64 + (b.toNat - 0x80)) * 64 + (c.toNat - 0x80) → 0x800 ≤ p → p < 0x10000 → 0xe0 ≤ a.toNat → 0x80 ≤ b.toNat → b.toNat ≤ 0xbf → enc p = [a, b, c] := by
          intro p hp g1 g2 g3 g4 g5
          unfold enc
          rw [if_neg (by omega), if_neg (by omega), if_pos (by omega), byte_of (c := a) (by omega), byte_of (c := b) (by omega), byte_of (c := c) (by omega)]
        rcases hk3 with rfl | rfl | rfl | rfl <;> simp only [utab] at h1 h2 w2 <;>
          exact ⟨((a.toNat - 0xe0) * 64 + (b.toNat - 0x80)) * 64 + (c.toNat - 0x80), by unfold IsPt; omega, by rw [e _ rfl (by omega) (by omega) (by omega) (by omega) (by omega)]; simp⟩
      | [b], w1, _, _ => simp at w1
      | [], w1, _, _ => simp at w1
    · have hz : (utab k).size = 4 := by rcases hk4 with rfl | rfl | rfl <;> rfl
      rw [hz] at w1 w2 w3
      match l, w1, w2, w3 with
      | b :: c :: d :: l, _, w2, w3 =>
        simp [secB] at w2
        simp [tailB] at w3
        have e : ∀ p, p = (((a.toNat - 0xf0) * 64 + (b.toNat - 0x80)) * 64 + (c.toNat - 0x80)) * 64 + (d.toNat - 0x80) → 0x10000 ≤ p → 0xf0 ≤ a.toNat → 0x80 ≤ b.toNat → b.toNat ≤ 0xbf → enc p = [a, b, c, d] := by
          intro p hp g1 g3 g4 g5
          unfold enc
          rw [if_neg (by omega), if_neg (by omega), if_neg (by omega), byte_of (c := a) (by omega), byte_of (c := b) (by omega), byte_of (c := c) (by omega), byte_of (c := d) (by omega)]
        rcases hk4 with rfl | rfl | rfl <;> simp only [utab] at h1 h2 w2 <;>
          exact ⟨(((a.toNat - 0xf0) * 64 + (b.toNat - 0x80)) * 64 + (c.toNat - 0x80)) * 64 + (d.toNat - 0x80), by unfold IsPt; omega, by rw [e _ rfl (by omega) (by omega) (by omega) (by omega)]; simp⟩
      | [b, c], w1, _, _ => simp at w1
      | [b], w1, _, _ => simp at w1
      | [], w1, _, _ => simp at w1

/-- Each text is characters, and then what begins with none. -/
theorem split_bytes (l : List UInt8) : ∃ (ps : List Nat) (rest : List UInt8), l = encs ps ++ rest ∧ (∀ p ∈ ps, IsPt p) ∧ (rest = [] ∨ noChar rest) := by
  generalize hn : l.length = n
  induction n using Nat.strongRecOn generalizing l with
  | ind n ih =>
    by_cases hne : l = []
    · exact ⟨[], [], by simp [hne, encs], by simp, .inl rfl⟩
    · by_cases hc : ∃ k, rowBU (l[0]?.getD 0).toNat = some k ∧ wholeL k l = true
      · obtain ⟨k, h1, h2⟩ := hc
        obtain ⟨p, hp, hl⟩ := whole_enc hne h1 h2
        have hlen := congrArg List.length hl
        rw [List.length_append] at hlen
        have hpos := enc_pos p
        obtain ⟨ps, rest, e1, e2, e3⟩ := ih (l.drop (enc p).length).length (by omega) (l.drop (enc p).length) rfl
        exact ⟨p :: ps, rest, by rw [hl, e1]; simp [encs], by simpa using ⟨hp, e2⟩, e3⟩
      · exact ⟨[], l, by simp [encs], by simp, .inr ⟨hne, fun k h1 => by
          cases h2 : wholeL k l with
          | false => rfl
          | true => exact absurd ⟨k, h1, h2⟩ hc⟩⟩
end Go.Vf

namespace Go.Proofs.YtkjoomdglealmaaGreatDoor
open Go.RowKit Go.Vf

/-- What utf.Check says of bytes. -/
noncomputable def utfAt (r : ByteArray) : Int := chkOf (split_bytes r.data.toList).choose (split_bytes r.data.toList).choose_spec.choose
theorem utfAt_any (r : ByteArray) (hr : r.size ≤ 4294967296) (w : World) (ht : Tabs w) : Calls Tryz.prog 108 #[.string r] w fun e w' => e = .returned (.int .i64 (utfAt r)) ∧ Below w.heap.size w w' := by
  obtain ⟨h1, h2, h3⟩ := (split_bytes r.data.toList).choose_spec.choose_spec
  exact ucheck_any r hr _ _ h1 h2 h3 w ht
theorem utfAt_nil : utfAt ⟨#[]⟩ = -1 := by
  obtain ⟨h1, h2, h3⟩ := (split_bytes (⟨#[]⟩ : ByteArray).data.toList).choose_spec.choose_spec
  unfold utfAt chkOf
  have h4 : (split_bytes (⟨#[]⟩ : ByteArray).data.toList).choose_spec.choose = [] := by
    exact (List.append_eq_nil_iff.1 (h1.symm.trans rfl)).2
  rw [if_pos h4]

/-- The cell of errors.errorType. -/
def ErrT (w : World) : Prop := w.cell? ⟨0, 0, none⟩ = some (.iface 215 (.agg #[hnd 42]))
theorem ErrT.old {w w' : World} (h : ErrT w) (hs : 0 < w.heap.size) (hb : Below w.heap.size w w') : ErrT w' := (hb.cell (p := ⟨0, 0, none⟩) hs).trans h

set_option maxHeartbeats 2000000 in
set_option maxRecDepth 20000 in
theorem unfit_tup (o : Go.Vf.Own) (a : Option Addr) (n c g : Nat) (lo n₀ : Nat) (l : List Prt) (hk : o.kind = 7) (w : World) (hn₀ : n₀ ≤ w.heap.size) (hv : VIn w lo n₀ (.iface 112 (.pointer (some ⟨g, 0, none⟩))) (.mk 7 false false ⟨#[]⟩ ⟨#[]⟩ l)) (R : Bad)
    (hI : ∀ W, Below w.heap.size w W → Calls Tryz.prog 72 #[.slice a n c, .iface 112 (.pointer (some ⟨g, 0, none⟩))] W (ErrPost R W)) :
    Calls Tryz.prog 46 #[fV o a n c, .iface 112 (.pointer (some ⟨g, 0, none⟩))] w (ErrPost R w) := by
  have hb1 := (Below.refl w.heap.size w).alloc (Nat.le_refl _) (.cells (cellsF o a n c) 57)
  have hN1 := Blk.new w 57 (cellsF o a n c)
  have hw := want_ok (p := .mk 7 false false ⟨#[]⟩ ⟨#[]⟩ l) (k := o.kind) (by omega) (by omega) hk.symm lo n₀ (w.alloc (.cells (cellsF o a n c) 57)) (hv.old hb1 hn₀)
  have t1 := ta58_74 ⟨g, 0, none⟩
  have t2 := ta44_74 ⟨g, 0, none⟩
  unfold fV
  obtain ⟨c0, c1, c2, c3, c4, c5, c6, c7, c8, c9, c10, c11, c12, c13⟩ := cells14 hN1
  simp only [cellsF] at hb1 hw c0 c1 c2 c3 c4 c5 c6 c7 c8 c9 c10 c11 c12 c13 hN1
  clear hk hv
  go_enter Tryz.func46, Tryz.ntmps46
  go_wp2_with fail
  refine hw.mono ?_
  rintro _ w2 ⟨rfl, hb2⟩
  have hb02 := hb1.trans (hb2.mono hb1.size)
  have hN2 := hN1.old hb2
  clear c0 c1 c2 c3 c4 c5 c6 c7 c8 c9 c10 c11 c12 c13 hw
  obtain ⟨c0, c1, c2, c3, c4, c5, c6, c7, c8, c9, c10, c11, c12, c13⟩ := hN2.c14
  have hob2 := hI w2 hb02
  clear hI
  go_wp2_with fail
  refine hob2.mono ?_
  intro e w3 hE
  obtain ⟨v3, rfl, hE⟩ := hE.val
  have HE : Hid (ErrPost R w (.returned v3) w3) := hE.after hb02
  clear hE hob2
  go_wp2_with fail
  go_ret
  exact HE.out

theorem may_num {y b : Bool} {m r : ByteArray} {l : List Prt} (h : may (.mk 2 y b m r l) = true) : m.size ≤ 255 ∧ chk b m.data.toList = 0 := by
  rw [may_eq] at h
  simp only [Bool.and_eq_true] at h
  have h2 := h.1.2
  have h3 : numOk b m = true := by simpa [own2, Prt.kind, Prt.neg, Prt.mag, Prt.raw, Prt.items] using h2
  unfold numOk at h3
  simp only [Bool.and_eq_true, decide_eq_true_eq, Bool.not_eq_true'] at h3
  have hl : m.data.toList.length = m.size := by simp
  refine ⟨h3.1, ?_⟩
  unfold chk
  rw [if_neg (by omega), if_neg (by rw [h3.2]; decide)]
theorem unfit_any : ∀ (f : Fld), GoodF f → ∀ (p : Prt), may p = true → dep p ≤ 100 → ∀ (a : Option Addr) (c lo n₀ : Nat) (v : Value) (lo' n₁ : Nat) (w : World), n₀ ≤ w.heap.size → n₁ ≤ w.heap.size → FIn w lo n₀ f.fields a → VIn w lo' n₁ v p → Tabs w → ErrT w →
    Calls Tryz.prog 46 #[fV f.own a f.fields.length c, v] w (ErrPost (unf utfAt f p) w) := by
  intro f
  induction f using Fld.ind with
  | h o l ih =>
    intro hg p hm hd a c lo n₀ v lo' n₁ w hn₀ hn₁ hin hv hT hE
    obtain ⟨k1, k7, s1, s2, hq, hll, hgs⟩ : 1 ≤ o.kind ∧ o.kind ≤ 7 ∧ o.lm.size ≤ 17179869184 ∧ o.hm.size ≤ 17179869184 ∧ (o.bnd = true → chk o.ln o.lm.data.toList = 0 ∧ chk o.hn o.hm.data.toList = 0) ∧ l.length ≤ 17179869184 ∧ ∀ x ∈ l, GoodF x := by
      cases hg with | mk a b c d e f g => exact ⟨a, b, c, d, e, f, g⟩
    have h3 : 3 ≤ w.heap.size := hT.size
    cases hv with
    | null =>
      have := unfit_null o a l.length c w
      rw [unf, if_pos rfl]; exact this
    | truth y =>
      by_cases hk : (1 : Int) = o.kind
      · rw [unf, if_neg (by decide), if_neg (fun h => h hk), if_neg (by decide), if_neg (by decide), if_neg (by decide)]
        exact unfit_truth o a l.length c y hk.symm w
      · rw [unf, if_neg (by decide), if_pos hk]
        exact unfit_kind o a l.length c _ _ (.mk 1 y false ⟨#[]⟩ ⟨#[]⟩ []) k1 k7 (by show (0 : Int) ≤ 1; omega) hk lo' n₁ w hn₁ (.truth y)
    | num b m =>
      obtain ⟨hm1, hm2⟩ := may_num hm
      by_cases hk : (2 : Int) = o.kind
      · rw [unf, if_neg (by decide), if_neg (fun h => h hk), if_pos rfl]
        exact unfit_num o a l.length c b m hk.symm s1 s2 (by omega) hm2 hq w
      · rw [unf, if_neg (by decide), if_pos hk]
        exact unfit_kind o a l.length c _ _ (.mk 2 false b m ⟨#[]⟩ []) k1 k7 (by show (0 : Int) ≤ 2; omega) hk lo' n₁ w hn₁ (.num b m)
    | raw k r hr =>
      have hr4 : (3 ≤ k ∧ k ≤ 6) := by
        unfold isRawK at hr
        simp only [Bool.or_eq_true, beq_iff_eq] at hr
        omega
      have hrs : r.size ≤ 65536 := by
        rw [may_eq] at hm
        simp only [Bool.and_eq_true] at hm
        have h2 := hm.1.2
        simp only [own2, Prt.kind, Prt.neg, Prt.mag, Prt.raw, Prt.items, Bool.and_eq_true, Bool.or_eq_true, beq_iff_eq] at h2
        rcases h2 with ((((h | h) | ⟨h, _⟩) | ⟨_, h⟩) | ⟨_, h⟩) | ⟨h, _⟩ <;> first | omega | (have := of_decide_eq_true h; omega)
      by_cases hk : k = o.kind
      · rw [unf, if_neg (by omega), if_neg (fun h => h hk), if_neg (by omega), if_pos hr]
        exact unfit_raw o a l.length c k r hr hk.symm (by omega) (by omega) (by omega) (utfAt r) w hT (fun W hW => utfAt_any r (by omega) W hW)
      · rw [unf, if_neg (by omega), if_pos hk]
        exact unfit_kind o a l.length c _ _ (.mk k false false ⟨#[]⟩ r []) k1 k7 (by show 0 ≤ k; omega) hk lo' n₁ w hn₁ (.raw k r hr)
    | tup V g1 g2 hB hc hV =>
      rename_i t g tc ta
      by_cases hk : (7 : Int) = o.kind
      · rw [unf, if_neg (by decide), if_neg (fun h => h hk), if_neg (by decide), if_neg (by decide), if_pos rfl]
        have hml : ∀ x ∈ t, may x = true := by
          rw [may_eq] at hm
          simp only [Prt.items, Bool.and_eq_true] at hm
          exact List.all_eq_true.1 hm.2
        have htl : t.length ≤ 1024 := by
          rw [may_eq] at hm
          simp only [Bool.and_eq_true] at hm
          have h2 := hm.1.2
          simp only [own2, Prt.kind, Prt.neg, Prt.mag, Prt.raw, Prt.items, Bool.and_eq_true, Bool.or_eq_true, beq_iff_eq] at h2
          rcases h2 with ((((h | h) | ⟨h, _⟩) | ⟨h, _⟩) | ⟨h, _⟩) | ⟨_, h⟩
          · omega
          · omega
          · omega
          · omega
          · omega
          · exact of_decide_eq_true h
        have hdl : depL t + 1 ≤ 100 := by rw [dep, if_pos rfl] at hd; exact hd
        refine unfit_tup o a l.length c g lo' n₁ t hk.symm w hn₁ (.tup V g1 g2 hB hc hV) _ (fun W hW => ?_)
        have hsz := hW.size
        refine unfitItems_any utfAt l t hll (by omega) a c lo n₀ g ta tc _ V lo' n₁ W (by omega) (by omega) (hin.keep hW hn₀) (hB.old hW) (fun j hj => ?_) (fun j hj => (hV j hj).old hW hn₁) (hE.old (by omega) hW) (by omega) (fun j h1 h2 aj cj vj X hX _ hf hv' => ?_) (fun j h1 h2 cc aa P y hu => ?_)
        · obtain ⟨h, off, e, q1, q2, q3⟩ := hc j hj
          exact ⟨h, off, e, q1, q2, (hW.cell (p := ⟨h, off + j, none⟩) (by show h < _; omega)).trans q3⟩
        · have hwX := hW.trans (hX.mono hW.size)
          have hsx := hwX.size
          have hdj := depL_mem (List.getElem_mem h2)
          exact ih l[j] (List.getElem_mem h1) (hgs _ (List.getElem_mem h1)) t[j] (hml _ (List.getElem_mem h2)) (by omega) aj cj lo n₀ vj lo' n₁ X (by omega) (by omega) hf hv' (hT.own hwX) (hE.old (by omega) hwX)
        · have hdj := depL_mem (List.getElem_mem h2)
          have := unf_len t[j] l[j] cc aa P y hu
          omega
      · rw [unf, if_neg (by decide), if_pos hk]
        exact unfit_kind o a l.length c _ _ (.mk 7 false false ⟨#[]⟩ ⟨#[]⟩ t) k1 k7 (by show (0 : Int) ≤ 7; omega) hk lo' n₁ w hn₁ (.tup V g1 g2 hB hc hV)
end Go.Proofs.YtkjoomdglealmaaGreatDoor
