/- What value.Same does (contracts; nothing is claimed here). -/
import Derived.Test.YtnjfkijekohdkaaDoorMade
import Derived.Test.YtnjfkijekohdkaaDoorRSame
import Derived.LaidEqlPtr
namespace Go.Proofs.YtnjfkijekohdkaaDoor
open Go.RowKit Go.Vf

theorem truth_eq (p q : Bool) (w : World) : (Op.equalIn 10000 79 (.agg #[.bool p]) (.agg #[.bool q])).run Tryd.prog w = .ok (p == q) w := by
  have h : ∀ d, (Op.equalIn (d + 1 + 1) 79 (.agg #[.bool p]) (.agg #[.bool q])).run Tryd.prog w = .ok (p == q) w := fun d => by
    simp [go_sem]
    by_cases h1 : p = q <;> simp [h1]
  exact h 9998
theorem number_eq (p : Bool) (A : ByteArray) (q : Bool) (B : ByteArray) (w : World) : (Op.equalIn 10000 81 (.agg #[.bool p, .string A]) (.agg #[.bool q, .string B])).run Tryd.prog w = .ok (p == q && A.toList == B.toList) w := by
  have h : ∀ d, (Op.equalIn (d + 1 + 1 + 1) 81 (.agg #[.bool p, .string A]) (.agg #[.bool q, .string B])).run Tryd.prog w = .ok (p == q && A.toList == B.toList) w := fun d => by
    simp [go_sem]
    by_cases h1 : p = q <;> by_cases h2 : A.toList = B.toList <;> simp [h1, h2]
  exact h 9997
theorem raw_eq (p : Int) (A : ByteArray) (q : Int) (B : ByteArray) (w : World) : (Op.equalIn 10000 86 (.agg #[.int .u8 p, .string A]) (.agg #[.int .u8 q, .string B])).run Tryd.prog w = .ok (p == q && A.toList == B.toList) w := by
  have h : ∀ d, (Op.equalIn (d + 1 + 1) 86 (.agg #[.int .u8 p, .string A]) (.agg #[.int .u8 q, .string B])).run Tryd.prog w = .ok (p == q && A.toList == B.toList) w := fun d => by
    simp [go_sem]
    by_cases h1 : p = q <;> by_cases h2 : A.toList = B.toList <;> simp [h1, h2]
  exact h 9998
theorem bytes_beq (a b : ByteArray) : (a.toList == b.toList) = @decide (a = b) (Classical.propDecidable _) := by
  by_cases h : a = b
  · subst h; simp
  · rw [bytes_ne h]; simp [h]

/-- A value says one part alone. -/
theorem VIn.det {w : World} {lo n lo' n' : Nat} {v : Value} {p q : Prt} (h : VIn w lo n v p) : VIn w lo' n' v q → p = q := by
  induction h generalizing q with
  | null => intro h2; cases h2; rfl
  | truth y => intro h2; cases h2; rfl
  | num b m => intro h2; cases h2; rfl
  | raw k r hk => intro h2; cases h2; rfl
  | @tup l g c a V h1 h2 h3 h4 _ ih =>
    intro hq
    cases hq with
    | @tup l2 _ c2 a2 V2 q1 q2 q3 q4 q5 =>
      have e := h3.symm.trans q3
      simp only [Option.some.injEq, Obj.cells.injEq, Array.mk.injEq, List.cons.injEq, Value.slice.injEq, and_true] at e
      obtain ⟨⟨ea, el, _⟩, _⟩ := e
      subst ea
      have : l = l2 := by
        refine List.ext_getElem el (fun j hj1 hj2 => ?_)
        obtain ⟨h, off, e1, _, _, k1⟩ := h4 j hj1
        obtain ⟨h', off', e2, _, _, k2⟩ := q4 j hj2
        rw [e1] at e2
        simp only [Option.some.injEq, Addr.mk.injEq, and_true] at e2
        obtain ⟨rfl, rfl⟩ := e2
        rw [k1] at k2
        have hv := Option.some.inj k2
        exact ih j hj1 (hv ▸ q5 j hj2)
      rw [this]

theorem info78 : ∃ j : TypeInfo, Tryd.prog.info? 115 = some j ∧ j.size ≠ 0 := by
  have h : (Tryd.prog.info? 115).map (fun i => i.size) = some 2 := by kernel_rfl
  obtain ⟨j, hj, hs⟩ := Option.map_eq_some_iff.1 h
  exact ⟨j, hj, by omega⟩
theorem ptr_same (w : World) (a : Addr) : (binOp .eql 83 (.pointer (some a)) (.pointer (some a))).run Tryd.prog w = .ok (.bool true) w := by
  obtain ⟨j, hj, _⟩ := info78
  exact run_eql_ptr_same w a Tryd.underlying83 hj
theorem ptr_other (w : World) {g g2 : Nat} {ca cb : Array Value} {ta tb : TypeId} (hne : (⟨g, 0, none⟩ : Addr) ≠ ⟨g2, 0, none⟩) (ha : Blk w g ta ca) (hb : Blk w g2 tb cb) : (binOp .eql 83 (.pointer (some ⟨g, 0, none⟩)) (.pointer (some ⟨g2, 0, none⟩))).run Tryd.prog w = .ok (.bool false) w := by
  obtain ⟨j, hj, hs⟩ := info78
  exact run_eql_ptr_other w Tryd.underlying83 hj hs hne ha hb
theorem below_drewN' (w : World) (n : Nat) : Below w.heap.size w (w.drewN n) := by
  induction n with
  | zero => exact Below.refl _ _
  | succ n ih => exact ih.drew
def SameOk (p : Prt) : Prop := ∀ (q : Prt), Fits q → ∀ (v v2 : Value) (lo1 n1 lo2 n2 : Nat) (w : World), n1 ≤ w.heap.size → n2 ≤ w.heap.size → VIn w lo1 n1 v p → VIn w lo2 n2 v2 q →
    Calls Tryd.prog 36 #[v, v2] w fun e w' => e = .returned (.bool (eqP p q)) ∧ Below w.heap.size w w'

set_option maxHeartbeats 2000000 in
set_option maxRecDepth 20000 in
theorem sameItems_step (l l2 : List Prt) (hl : l.length ≤ 281474976710656) (_hl2 : l2.length ≤ 281474976710656) (hf2 : ∀ x ∈ l2, Fits x) (ih : ∀ x ∈ l, SameOk x) (g g2 c c2 lo1 n1 lo2 n2 : Nat) (a a2 : Option Addr) (V V2 : Nat → Value) (w : World) (hn1 : n1 ≤ w.heap.size) (hn2 : n2 ≤ w.heap.size)
    (_hg : g < n1) (hg2 : g2 < n2) (hB : Blk w g 115 #[.slice a l.length c, .int .i64 ((depL l + 1 : Nat) : Int)]) (hB2 : Blk w g2 115 #[.slice a2 l2.length c2, .int .i64 ((depL l2 + 1 : Nat) : Int)])
    (hc : ∀ j, j < l.length → ∃ h off, a = some ⟨h, off, none⟩ ∧ lo1 ≤ h ∧ h < n1 ∧ w.cell? ⟨h, off + j, none⟩ = some (V j)) (hv : ∀ j (hj : j < l.length), VIn w lo1 n1 (V j) l[j])
    (hc2 : ∀ j, j < l2.length → ∃ h off, a2 = some ⟨h, off, none⟩ ∧ lo2 ≤ h ∧ h < n2 ∧ w.cell? ⟨h, off + j, none⟩ = some (V2 j)) (hv2 : ∀ j (hj : j < l2.length), VIn w lo2 n2 (V2 j) l2[j])
    (hsame : g = g2 → l = l2) :
    Calls Tryd.prog 52 #[.pointer (some ⟨g, 0, none⟩), .pointer (some ⟨g2, 0, none⟩)] w fun e w' => e = .returned (.bool (eqL l l2)) ∧ Below w.heap.size w w' := by
  by_cases hgg : g = g2
  · have he : eqL l l2 = true := eqL_iff.2 (hsame hgg)
    rw [he]
    subst hgg
    have hpe := fun w => ptr_same w ⟨g, 0, none⟩
    clear hc hv hc2 hv2 ih hB hB2 hsame he
    go_enter Tryd.func52, Tryd.ntmps52
    go_wp2_with fail
    go_ret
    exact ⟨rfl, Below.refl _ _⟩
  have hpo : (binOp .eql 83 (.pointer (some ⟨g, 0, none⟩)) (.pointer (some ⟨g2, 0, none⟩))).run Tryd.prog w = .ok (.bool false) w := ptr_other w (fun h => hgg (by simp at h)) hB hB2
  have k1 : w.cell? ⟨g, 0, none⟩ = some (.slice a l.length c) := hB.cell 0
  have k2 : w.cell? ⟨g2, 0, none⟩ = some (.slice a2 l2.length c2) := hB2.cell 0
  by_cases e6 : l.length = l2.length
  case neg =>
    have he : eqL l l2 = false := by
      cases h : eqL l l2 with
      | false => rfl
      | true => exact absurd (congrArg List.length (eqL_iff.1 h)) e6
    rw [he]
    clear hc hv hc2 hv2 ih hB hB2 hsame he hf2
    generalize l.length = ln at *
    generalize l2.length = ln2 at *
    have t : ((ln : Int) != (ln2 : Int)) = true := bne_iff_ne.2 (by omega)
    clear e6
    go_enter Tryd.func52, Tryd.ntmps52
    go_wp2_with fail
    go_quiet (fail)
    go_wp2_with fail
    go_ret
    exact ⟨rfl, below_drewN' w _⟩
  obtain ⟨R, hR⟩ : ∃ R, eqL l l2 = R := ⟨_, rfl⟩
  rw [hR]
  have HR : Hid (R = eqL (l.drop 0) (l2.drop 0)) := hR.symm
  clear hR
  obtain ⟨ln, hln⟩ : ∃ ln, l.length = ln := ⟨_, rfl⟩
  have HL : Hid (l.length = ln) := hln
  have HL2 : Hid (l2.length = ln) := e6.symm.trans hln
  rw [HL2.out] at k2 _hl2
  rw [hln] at k1 hl
  clear hln e6 hB hB2 hsame
  go_enter Tryd.func52, Tryd.ntmps52
  go_wp2_with fail
  go_quiet (fail)
  go_wp2_with fail
  go_loopw [26] (fun i wr => ∃ (j : Nat), j ≤ ln ∧ i = .int .i64 j ∧ Hid (R = eqL (l.drop j) (l2.drop j)) ∧ Below w.heap.size w wr) (fun i _ => ln - (intOf i).toNat)
  case atStart => exact ⟨0, by omega, rfl, HR, below_drewN' w _⟩
  case round =>
    clear HR
    obtain ⟨j, hj, rfl, HS, hbel⟩ := hrel
    have hsz := hbel.size
    have c2' : wr.cell? ⟨g2, 0, none⟩ = some (.slice a2 ln c2) := (cell_block (hbel.block g2 (by omega)) 0).trans k2
    by_cases hlt : j < ln
    · have hlt1 : j < l.length := by rw [HL.out]; exact hlt
      have hlt2 : j < l2.length := by rw [HL2.out]; exact hlt
      have HD : Hid (R = (eqP l[j] l2[j] && eqL (l.drop (j + 1)) (l2.drop (j + 1)))) := by
        show _ = _
        rw [HS.out, List.drop_eq_getElem_cons hlt1, List.drop_eq_getElem_cons hlt2, eqL_cons]
      obtain ⟨h, off, ha, q1, q2, q3⟩ := hc j hlt1
      obtain ⟨h', off', ha', q1', q2', q3'⟩ := hc2 j hlt2
      subst ha ha'
      have r0 : wr.cell? ⟨h, off + j, none⟩ = some (V j) := (cell_block (hbel.block h (by omega)) _).trans q3
      have r1 : wr.cell? ⟨h', off' + j, none⟩ = some (V2 j) := (cell_block (hbel.block h' (by omega)) _).trans q3'
      have hcall := ih l[j] (List.getElem_mem hlt1) l2[j] (hf2 _ (List.getElem_mem hlt2)) (V j) (V2 j) lo1 n1 lo2 n2 wr (by omega) (by omega) ((hv j hlt1).old hbel hn1) ((hv2 j hlt2).old hbel hn2)
      clear HS ih hc hc2 hv hv2 hf2 q3 q3' k1 k2 hpo
      generalize l[j] = x at *
      generalize l2[j] = x' at *
      generalize V j = vj at *
      generalize V2 j = vj2 at *
      go_wp2_with fail
      refine hcall.mono ?_
      rintro _ w3 ⟨rfl, hb3⟩
      have hb4 : Below w.heap.size w w3 := hbel.trans (hb3.mono hbel.size)
      cases hq : eqP x x' with
      | false =>
        have hRn : R = false := by rw [HD.out, hq]; rfl
        clear HD hq
        go_wp2_with fail
        go_ret
        exact ⟨by rw [hRn]; rfl, hb4⟩
      | true =>
        have HD2 : Hid (R = eqL (l.drop (j + 1)) (l2.drop (j + 1))) := by
          show _ = _
          rw [HD.out, hq]; rfl
        clear HD hq
        go_wp2_with fail
        go_roundw
        case rel => exact ⟨j + 1, by omega, by simp, HD2, hb4⟩
        case measure => simp only [intOf]; omega
    · have hRn : R = true := by rw [HS.out, List.drop_of_length_le (by rw [HL.out]; omega), List.drop_of_length_le (by rw [HL2.out]; omega)]; simp [eqL]
      clear HS ih hc hc2 hv hv2 hf2 hpo
      go_wp2_with fail
      go_ret
      exact ⟨by rw [hRn]; rfl, hbel⟩

theorem below_a1 (w : World) (o : Obj) : Below w.heap.size w (w.alloc o) := (Below.refl _ _).alloc (Nat.le_refl _) o
theorem below_a2 (w : World) (o o' : Obj) : Below w.heap.size w ((w.alloc o).alloc o') := (below_a1 w o).alloc (World.alloc_le w o) o'
set_option maxHeartbeats 4000000 in
set_option maxRecDepth 20000 in
theorem same_any : ∀ (p : Prt), Fits p → SameOk p := by
  intro p
  induction p using Prt.ind with
  | h k y n m r l ih =>
    intro hf q hf2 v v2 lo1 n1 lo2 n2 w hn1 hn2 hv hv2
    have z0 := ta74_nil
    have z1 := ta74_81
    have z2 := ta74_83
    have z3 := ta74_85
    have z4 := ta74_74
    have y0 := ta81_nil
    have y1 := ta81_81
    have y2 := ta81_83
    have y3 := ta81_85
    have y4 := ta81_74
    have x0 := ta83_nil
    have x1 := ta83_81
    have x2 := ta83_83
    have x3 := ta83_85
    have x4 := ta83_74
    have u0 := ta85_nil
    have u1 := ta85_81
    have u2 := ta85_83
    have u3 := ta85_85
    have u4 := ta85_74
    have hS : ∀ (R : Bool), eqP (.mk k y n m r l) q = R → (Calls Tryd.prog 36 #[v, v2] w fun e w' => e = .returned (.bool R) ∧ Below w.heap.size w w') →
        Calls Tryd.prog 36 #[v, v2] w fun e w' => e = .returned (.bool (eqP (.mk k y n m r l) q)) ∧ Below w.heap.size w w' := by
      intro R hR h
      rw [hR]; exact h
    cases hv with
    | null =>
      cases hv2 with
      | null =>
        refine hS true (eqP_self _) ?_
        clear hS ih hf hf2
        go_enter Tryd.func36, Tryd.ntmps36
        go_wp2_with fail
        go_ret
        exact ⟨rfl, by first | exact Below.refl _ _ | exact below_a1 _ _ | exact below_a2 _ _ _⟩
      | truth y2 =>
        refine hS false (eqP_ne (by simp)) ?_
        clear hS ih hf hf2
        go_enter Tryd.func36, Tryd.ntmps36
        go_wp2_with fail
        go_ret
        exact ⟨rfl, by first | exact Below.refl _ _ | exact below_a1 _ _ | exact below_a2 _ _ _⟩
      | num n2 m2 =>
        refine hS false (eqP_ne (by simp)) ?_
        clear hS ih hf hf2
        go_enter Tryd.func36, Tryd.ntmps36
        go_wp2_with fail
        go_ret
        exact ⟨rfl, by first | exact Below.refl _ _ | exact below_a1 _ _ | exact below_a2 _ _ _⟩
      | raw k2 r2 hk2 =>
        refine hS false (eqP_ne (fun h => by injection h with e1; first | (subst e1; simp [isRawK] at hk2) | (rw [e1] at hk2; simp [isRawK] at hk2) | (rw [← e1] at hk2; simp [isRawK] at hk2))) ?_
        clear hS ih hf hf2
        clear hk2
        go_enter Tryd.func36, Tryd.ntmps36
        go_wp2_with fail
        go_ret
        exact ⟨rfl, by first | exact Below.refl _ _ | exact below_a1 _ _ | exact below_a2 _ _ _⟩
      | @tup l2 g2 c2 a2 V2 q1 q2 q3 q4 q5 =>
        refine hS false (eqP_ne (by simp)) ?_
        clear hS ih hf hf2
        clear q3 q4 q5
        go_enter Tryd.func36, Tryd.ntmps36
        go_wp2_with fail
        go_ret
        exact ⟨rfl, by first | exact Below.refl _ _ | exact below_a1 _ _ | exact below_a2 _ _ _⟩
    | truth =>
      cases hv2 with
      | null =>
        refine hS false (eqP_ne (by simp)) ?_
        clear hS ih hf hf2
        go_enter Tryd.func36, Tryd.ntmps36
        go_wp2_with fail
        go_ret
        exact ⟨rfl, by first | exact Below.refl _ _ | exact below_a1 _ _ | exact below_a2 _ _ _⟩
      | truth y2 =>
        have hq : eqP (.mk 1 y false ⟨#[]⟩ ⟨#[]⟩ []) (.mk 1 y2 false ⟨#[]⟩ ⟨#[]⟩ []) = (y == y2) := by rw [Bool.eq_iff_iff, eqP_iff]; simp
        have he := fun w => truth_eq y y2 w
        generalize (y == y2) = B at hq he
        refine hS B hq ?_
        clear hS ih hf hf2 hq
        go_enter Tryd.func36, Tryd.ntmps36
        go_wp2_with fail
        go_ret
        exact ⟨rfl, by first | exact Below.refl _ _ | exact below_a1 _ _ | exact below_a2 _ _ _⟩
      | num n2 m2 =>
        refine hS false (eqP_ne (by simp)) ?_
        clear hS ih hf hf2
        go_enter Tryd.func36, Tryd.ntmps36
        go_wp2_with fail
        go_ret
        exact ⟨rfl, by first | exact Below.refl _ _ | exact below_a1 _ _ | exact below_a2 _ _ _⟩
      | raw k2 r2 hk2 =>
        refine hS false (eqP_ne (fun h => by injection h with e1; first | (subst e1; simp [isRawK] at hk2) | (rw [e1] at hk2; simp [isRawK] at hk2) | (rw [← e1] at hk2; simp [isRawK] at hk2))) ?_
        clear hS ih hf hf2
        clear hk2
        go_enter Tryd.func36, Tryd.ntmps36
        go_wp2_with fail
        go_ret
        exact ⟨rfl, by first | exact Below.refl _ _ | exact below_a1 _ _ | exact below_a2 _ _ _⟩
      | @tup l2 g2 c2 a2 V2 q1 q2 q3 q4 q5 =>
        refine hS false (eqP_ne (by simp)) ?_
        clear hS ih hf hf2
        clear q3 q4 q5
        go_enter Tryd.func36, Tryd.ntmps36
        go_wp2_with fail
        go_ret
        exact ⟨rfl, by first | exact Below.refl _ _ | exact below_a1 _ _ | exact below_a2 _ _ _⟩
    | num =>
      cases hv2 with
      | null =>
        refine hS false (eqP_ne (by simp)) ?_
        clear hS ih hf hf2
        go_enter Tryd.func36, Tryd.ntmps36
        go_wp2_with fail
        go_ret
        exact ⟨rfl, by first | exact Below.refl _ _ | exact below_a1 _ _ | exact below_a2 _ _ _⟩
      | truth y2 =>
        refine hS false (eqP_ne (by simp)) ?_
        clear hS ih hf hf2
        go_enter Tryd.func36, Tryd.ntmps36
        go_wp2_with fail
        go_ret
        exact ⟨rfl, by first | exact Below.refl _ _ | exact below_a1 _ _ | exact below_a2 _ _ _⟩
      | num n2 m2 =>
        have hq : eqP (.mk 2 false n m ⟨#[]⟩ []) (.mk 2 false n2 m2 ⟨#[]⟩ []) = (n == n2 && m.toList == m2.toList) := by rw [bytes_beq, Bool.eq_iff_iff, eqP_iff]; simp
        have he := fun w => number_eq n m n2 m2 w
        generalize (n == n2 && m.toList == m2.toList) = B at hq he
        refine hS B hq ?_
        clear hS ih hf hf2 hq
        go_enter Tryd.func36, Tryd.ntmps36
        go_wp2_with fail
        go_ret
        exact ⟨rfl, by first | exact Below.refl _ _ | exact below_a1 _ _ | exact below_a2 _ _ _⟩
      | raw k2 r2 hk2 =>
        refine hS false (eqP_ne (fun h => by injection h with e1; first | (subst e1; simp [isRawK] at hk2) | (rw [e1] at hk2; simp [isRawK] at hk2) | (rw [← e1] at hk2; simp [isRawK] at hk2))) ?_
        clear hS ih hf hf2
        clear hk2
        go_enter Tryd.func36, Tryd.ntmps36
        go_wp2_with fail
        go_ret
        exact ⟨rfl, by first | exact Below.refl _ _ | exact below_a1 _ _ | exact below_a2 _ _ _⟩
      | @tup l2 g2 c2 a2 V2 q1 q2 q3 q4 q5 =>
        refine hS false (eqP_ne (by simp)) ?_
        clear hS ih hf hf2
        clear q3 q4 q5
        go_enter Tryd.func36, Tryd.ntmps36
        go_wp2_with fail
        go_ret
        exact ⟨rfl, by first | exact Below.refl _ _ | exact below_a1 _ _ | exact below_a2 _ _ _⟩
    | raw _ _ hk =>
      cases hv2 with
      | null =>
        refine hS false (eqP_ne (fun h => by injection h with e1; first | (subst e1; simp [isRawK] at hk) | (rw [e1] at hk; simp [isRawK] at hk) | (rw [← e1] at hk; simp [isRawK] at hk))) ?_
        clear hS ih hf hf2
        clear hk
        go_enter Tryd.func36, Tryd.ntmps36
        go_wp2_with fail
        go_ret
        exact ⟨rfl, by first | exact Below.refl _ _ | exact below_a1 _ _ | exact below_a2 _ _ _⟩
      | truth y2 =>
        refine hS false (eqP_ne (fun h => by injection h with e1; first | (subst e1; simp [isRawK] at hk) | (rw [e1] at hk; simp [isRawK] at hk) | (rw [← e1] at hk; simp [isRawK] at hk))) ?_
        clear hS ih hf hf2
        clear hk
        go_enter Tryd.func36, Tryd.ntmps36
        go_wp2_with fail
        go_ret
        exact ⟨rfl, by first | exact Below.refl _ _ | exact below_a1 _ _ | exact below_a2 _ _ _⟩
      | num n2 m2 =>
        refine hS false (eqP_ne (fun h => by injection h with e1; first | (subst e1; simp [isRawK] at hk) | (rw [e1] at hk; simp [isRawK] at hk) | (rw [← e1] at hk; simp [isRawK] at hk))) ?_
        clear hS ih hf hf2
        clear hk
        go_enter Tryd.func36, Tryd.ntmps36
        go_wp2_with fail
        go_ret
        exact ⟨rfl, by first | exact Below.refl _ _ | exact below_a1 _ _ | exact below_a2 _ _ _⟩
      | raw k2 r2 hk2 =>
        have hq : eqP (.mk k false false ⟨#[]⟩ r []) (.mk k2 false false ⟨#[]⟩ r2 []) = (k == k2 && r.toList == r2.toList) := by rw [bytes_beq, Bool.eq_iff_iff, eqP_iff]; simp
        have he := fun w => raw_eq k r k2 r2 w
        generalize (k == k2 && r.toList == r2.toList) = B at hq he
        refine hS B hq ?_
        clear hS ih hf hf2 hq hk hk2
        go_enter Tryd.func36, Tryd.ntmps36
        go_wp2_with fail
        go_ret
        exact ⟨rfl, by first | exact Below.refl _ _ | exact below_a1 _ _ | exact below_a2 _ _ _⟩
      | @tup l2 g2 c2 a2 V2 q1 q2 q3 q4 q5 =>
        refine hS false (eqP_ne (fun h => by injection h with e1; first | (subst e1; simp [isRawK] at hk) | (rw [e1] at hk; simp [isRawK] at hk) | (rw [← e1] at hk; simp [isRawK] at hk))) ?_
        clear hS ih hf hf2
        clear hk
        clear q3 q4 q5
        go_enter Tryd.func36, Tryd.ntmps36
        go_wp2_with fail
        go_ret
        exact ⟨rfl, by first | exact Below.refl _ _ | exact below_a1 _ _ | exact below_a2 _ _ _⟩
    | @tup _ g c a V h1 h2 h3 h4 h5 =>
      cases hv2 with
      | null =>
        refine hS false (eqP_ne (by simp)) ?_
        clear hS ih hf hf2
        clear h3 h4 h5
        go_enter Tryd.func36, Tryd.ntmps36
        go_wp2_with fail
        go_ret
        exact ⟨rfl, by first | exact Below.refl _ _ | exact below_a1 _ _ | exact below_a2 _ _ _⟩
      | truth y2 =>
        refine hS false (eqP_ne (by simp)) ?_
        clear hS ih hf hf2
        clear h3 h4 h5
        go_enter Tryd.func36, Tryd.ntmps36
        go_wp2_with fail
        go_ret
        exact ⟨rfl, by first | exact Below.refl _ _ | exact below_a1 _ _ | exact below_a2 _ _ _⟩
      | num n2 m2 =>
        refine hS false (eqP_ne (by simp)) ?_
        clear hS ih hf hf2
        clear h3 h4 h5
        go_enter Tryd.func36, Tryd.ntmps36
        go_wp2_with fail
        go_ret
        exact ⟨rfl, by first | exact Below.refl _ _ | exact below_a1 _ _ | exact below_a2 _ _ _⟩
      | raw k2 r2 hk2 =>
        refine hS false (eqP_ne (fun h => by injection h with e1; first | (subst e1; simp [isRawK] at hk2) | (rw [e1] at hk2; simp [isRawK] at hk2) | (rw [← e1] at hk2; simp [isRawK] at hk2))) ?_
        clear hS ih hf hf2
        clear hk2
        clear h3 h4 h5
        go_enter Tryd.func36, Tryd.ntmps36
        go_wp2_with fail
        go_ret
        exact ⟨rfl, by first | exact Below.refl _ _ | exact below_a1 _ _ | exact below_a2 _ _ _⟩
      | @tup l2 g2 c2 a2 V2 q1 q2 q3 q4 q5 =>
        have hcall := sameItems_step l l2 (by have := hf.len; exact this) (by have := hf2.len; exact this) (fun x hx => hf2.mem (p := .mk 7 false false ⟨#[]⟩ ⟨#[]⟩ l2) hx) (fun x hx => ih x hx (hf.mem (p := .mk 7 false false ⟨#[]⟩ ⟨#[]⟩ l) hx)) g g2 c c2 lo1 n1 lo2 n2 a a2 V V2 w hn1 hn2 h2 q2 h3 q3 h4 h5 q4 q5 (fun hgg => by
          subst hgg
          have hd := VIn.det (VIn.tup V h1 h2 h3 h4 h5) (VIn.tup V2 q1 q2 q3 q4 q5)
          injection hd)
        refine hS (eqL l l2) (eqP_mk _ _ _ _ _ _ _) ?_
        clear hS ih hf hf2 h3 h4 h5 q3 q4 q5
        generalize eqL l l2 = B at hcall ⊢
        go_enter Tryd.func36, Tryd.ntmps36
        go_wp2_with fail
        refine hcall.mono ?_
        rintro _ w3 ⟨rfl, hb3⟩
        go_wp2_with fail
        go_ret
        exact ⟨rfl, hb3⟩

theorem Same_any (p q : Prt) (hf : Fits p) (hf2 : Fits q) (v v2 : Value) (lo1 n1 lo2 n2 : Nat) (w : World) (hn1 : n1 ≤ w.heap.size) (hn2 : n2 ≤ w.heap.size) (hv : VIn w lo1 n1 v p) (hv2 : VIn w lo2 n2 v2 q) :
    Calls Tryd.prog 19 #[v, v2] w fun e w' => e = .returned (.bool (eqP p q)) ∧ Below w.heap.size w w' := by
  have hc := same_any p hf q hf2 v v2 lo1 n1 lo2 n2 w hn1 hn2 hv hv2
  clear hv hv2 hf hf2
  go_enter Tryd.func19, Tryd.ntmps19
  go_wp2_with fail
  refine hc.mono ?_
  rintro _ w2 ⟨rfl, hb⟩
  go_wp2_with fail
  go_ret
  exact ⟨rfl, hb⟩
end Go.Proofs.YtnjfkijekohdkaaDoor
