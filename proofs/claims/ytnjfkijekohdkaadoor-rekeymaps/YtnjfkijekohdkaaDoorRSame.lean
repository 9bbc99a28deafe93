/- What dovetailref00.Same does (contracts; nothing is claimed here). -/
import Derived.Test.YtnjfkijekohdkaaDoorMayb
import Derived.BigRegion
import Derived.BigQuiet
namespace Go.Proofs.YtnjfkijekohdkaaDoor
open Go.RowKit Go.Vf

noncomputable def eqP (p q : Prt) : Bool := @decide (p = q) (Classical.propDecidable _)
noncomputable def eqL (p q : List Prt) : Bool := @decide (p = q) (Classical.propDecidable _)
theorem eqP_self (p : Prt) : eqP p p = true := by simp [eqP]
theorem eqP_ne {p q : Prt} (h : p ≠ q) : eqP p q = false := by simp [eqP, h]
theorem eqP_iff {p q : Prt} : eqP p q = true ↔ p = q := by simp [eqP]
theorem eqL_iff {p q : List Prt} : eqL p q = true ↔ p = q := by simp [eqL]
theorem eqL_cons (x y : Prt) (r s : List Prt) : eqL (x :: r) (y :: s) = (eqP x y && eqL r s) := by
  rw [Bool.eq_iff_iff, Bool.and_eq_true, eqL_iff, eqP_iff, eqL_iff]; simp
theorem eqP_mk (k : Int) (y n : Bool) (m r : ByteArray) (l l' : List Prt) : eqP (.mk k y n m r l) (.mk k y n m r l') = eqL l l' := by
  rw [Bool.eq_iff_iff, eqP_iff, eqL_iff]; simp
theorem bytes_ne {a b : ByteArray} (h : a ≠ b) : (a.toList == b.toList) = false := by
  rw [beq_eq_false_iff_ne]
  intro e
  rw [ByteArray.toList_eq, ByteArray.toList_eq] at e
  apply h
  obtain ⟨⟨x⟩⟩ := a; obtain ⟨⟨y⟩⟩ := b; simp at e; rw [e]

set_option maxHeartbeats 4000000 in
set_option maxRecDepth 20000 in
theorem rsame_any : ∀ (p : Prt), Fits p → ∀ (q : Prt), Fits q → ∀ (a b : Option Addr) (c d lo1 n1 lo2 n2 : Nat) (w : World), n1 ≤ w.heap.size → n2 ≤ w.heap.size → PIn w lo1 n1 p a → PIn w lo2 n2 q b →
    Calls Tryd.prog 18 #[pV p a c, pV q b d] w fun e w' => e = .returned (.bool (eqP p q)) ∧ Below w.heap.size w w' := by
  intro p
  induction p using Prt.ind with
  | h k y n m r l ih =>
    intro hf q hf2 a b c d lo1 n1 lo2 n2 w hn1 hn2 hin1 hin2
    cases q with | mk k2 y2 m2' m2 r2 l2 =>
    have hl := hf.len
    have hl2 := hf2.len
    simp only [Prt.items] at hl hl2
    have hS : ∀ (R : Bool), eqP (.mk k y n m r l) (.mk k2 y2 m2' m2 r2 l2) = R → (Calls Tryd.prog 18 #[pV (.mk k y n m r l) a c, pV (.mk k2 y2 m2' m2 r2 l2) b d] w fun e w' => e = .returned (.bool R) ∧ Below w.heap.size w w') →
        Calls Tryd.prog 18 #[pV (.mk k y n m r l) a c, pV (.mk k2 y2 m2' m2 r2 l2) b d] w fun e w' => e = .returned (.bool (eqP (.mk k y n m r l) (.mk k2 y2 m2' m2 r2 l2))) ∧ Below w.heap.size w w' := by
      intro R hR h
      rw [hR]; exact h
    have hb1 := ((Below.refl w.heap.size w).alloc (Nat.le_refl _) (.cells #[.int .u8 k, .bool y, .bool n, .string m, .string r, .slice a l.length c] 29))
    have hb2 := hb1.alloc hb1.size (.cells #[.int .u8 k2, .bool y2, .bool m2', .string m2, .string r2, .slice b l2.length d] 29)
    have heq := fun w => num_eq n m m2' m2 w
    unfold pV at hS ⊢
    simp only [Prt.kind, Prt.yes, Prt.neg, Prt.mag, Prt.raw, Prt.items] at hS ⊢
    by_cases e1 : k = k2
    case neg =>
      refine hS false (eqP_ne (by simp [e1])) ?_
      have t : (k != k2) = true := bne_iff_ne.2 e1
      clear hS ih hf hf2 hin1 hin2 heq
      go_enter Tryd.func18, Tryd.ntmps18
      go_wp2_with fail
      go_ret
      exact ⟨rfl, hb2⟩
    subst e1
    by_cases e2 : y = y2
    case neg =>
      refine hS false (eqP_ne (by simp [e2])) ?_
      have t : (y != y2) = true := bne_iff_ne.2 e2
      clear hS ih hf hf2 hin1 hin2 heq
      go_enter Tryd.func18, Tryd.ntmps18
      go_wp2_with fail
      go_ret
      exact ⟨rfl, hb2⟩
    subst e2
    by_cases e3 : n = m2' ∧ m = m2
    case neg =>
      refine hS false (eqP_ne (by simp; intro h1 h2; exact absurd ⟨h1, h2⟩ e3)) ?_
      have heq2 : ∀ w : World, (Op.equalIn 10000 26 (.agg #[.bool n, .string m]) (.agg #[.bool m2', .string m2])).run Tryd.prog w = .ok false w := fun w => by
        rw [heq]
        congr 1
        by_cases h1 : n = m2'
        · rw [bytes_ne (fun h => e3 ⟨h1, h⟩)]; simp
        · rw [beq_eq_false_iff_ne.2 h1]; simp
      clear hS ih hf hf2 hin1 hin2 heq e3
      go_enter Tryd.func18, Tryd.ntmps18
      go_wp2_with fail
      go_ret
      exact ⟨rfl, hb2⟩
    obtain ⟨e3, e4⟩ := e3
    subst e3 e4
    have heq2 : ∀ w : World, (Op.equalIn 10000 26 (.agg #[.bool n, .string m]) (.agg #[.bool n, .string m])).run Tryd.prog w = .ok true w := fun w => by
      rw [heq]; simp
    clear heq
    by_cases e5 : r = r2
    case neg =>
      refine hS false (eqP_ne (by simp [e5])) ?_
      have t := bytes_ne e5
      clear hS ih hf hf2 hin1 hin2 e5
      go_enter Tryd.func18, Tryd.ntmps18
      go_wp2_with fail
      go_ret
      exact ⟨rfl, hb2⟩
    subst e5
    by_cases e6 : l.length = l2.length
    case neg =>
      refine hS false (eqP_ne (by simp; intro h; exact e6 (by rw [h]))) ?_
      generalize l.length = ln at *
      generalize l2.length = ln2 at *
      have t : ((ln : Int) != (ln2 : Int)) = true := bne_iff_ne.2 (by omega)
      clear hS ih hf hf2 hin1 hin2 e6
      go_enter Tryd.func18, Tryd.ntmps18
      go_wp2_with fail
      go_ret
      exact ⟨rfl, hb2⟩
    obtain ⟨R, hR⟩ : ∃ R, eqL l l2 = R := ⟨_, rfl⟩
    refine hS R (by rw [eqP_mk, hR]) ?_
    have HR : Hid (R = eqL (l.drop 0) (l2.drop 0)) := hR.symm
    clear hS hR
    obtain ⟨ln, hln⟩ : ∃ ln, l.length = ln := ⟨_, rfl⟩
    have HL : Hid (l.length = ln) := hln
    have HL2 : Hid (l2.length = ln) := e6.symm.trans hln
    rw [HL2.out] at hb2 hl2 ⊢
    rw [hln] at hb1 hb2 hl ⊢
    clear hln e6
    have hB1 := Blk.new w 29 #[.int .u8 k, .bool y, .bool n, .string m, .string r, .slice a ln c]
    have hs1 := alloc_size w (.cells #[.int .u8 k, .bool y, .bool n, .string m, .string r, .slice a ln c] 29)
    have hB2 := Blk.new (w.alloc (.cells #[.int .u8 k, .bool y, .bool n, .string m, .string r, .slice a ln c] 29)) 29 #[.int .u8 k, .bool y, .bool n, .string m, .string r, .slice b ln d]
    have hs2 := alloc_size (w.alloc (.cells #[.int .u8 k, .bool y, .bool n, .string m, .string r, .slice a ln c] 29)) (.cells #[.int .u8 k, .bool y, .bool n, .string m, .string r, .slice b ln d] 29)
    have hB3 := hB1.old ((Below.refl _ _).alloc (Nat.le_refl _) (.cells #[.int .u8 k, .bool y, .bool n, .string m, .string r, .slice b ln d] 29))
    rw [hs1] at hB2 hs2
    go_enter Tryd.func18, Tryd.ntmps18
    go_wp2_with fail
    generalize (w.alloc (.cells #[.int .u8 k, .bool y, .bool n, .string m, .string r, .slice a ln c] 29)).alloc (.cells #[.int .u8 k, .bool y, .bool n, .string m, .string r, .slice b ln d] 29) = w2 at hb2 hB2 hB3 hs2 ⊢
    clear hB1 hb1 hs1
    go_loopw [5] (fun i wr => ∃ (j : Nat), j ≤ ln ∧ i = .int .i64 j ∧ Hid (R = eqL (l.drop j) (l2.drop j)) ∧ Below w2.heap.size w2 wr) (fun i _ => ln - (intOf i).toNat)
    case atStart => exact ⟨0, by omega, rfl, HR, Below.refl _ _⟩
    case round =>
      clear HR
      obtain ⟨j, hj, rfl, HS, hbel⟩ := hrel
      have hbb : Below w.heap.size w wr := hb2.trans (hbel.mono hb2.size)
      have hsz := hbb.size
      have hz1 := (hB3.old hbel).cell 5
      have hz2 := (hB2.old hbel).cell 5
      have c1 : wr.cell? ⟨w.heap.size, 5, none⟩ = some (.slice a ln c) := hz1
      have c2 : wr.cell? ⟨w.heap.size + 1, 5, none⟩ = some (.slice b ln d) := hz2
      clear hz1 hz2
      by_cases hlt : j < ln
      · have hlt1 : j < l.length := by rw [HL.out]; exact hlt
        have hlt2 : j < l2.length := by rw [HL2.out]; exact hlt
        have HD : Hid (R = (eqP l[j] l2[j] && eqL (l.drop (j + 1)) (l2.drop (j + 1)))) := by
          show _ = _
          rw [HS.out, List.drop_eq_getElem_cons hlt1, List.drop_eq_getElem_cons hlt2, eqL_cons]
        obtain ⟨b1, off1, aj, cj, ha, _, _, hrow, hinj⟩ := (hin1.keep hbb hn1).at hlt1
        obtain ⟨b2, off2, aj2, cj2, ha2, _, _, hrow2, hinj2⟩ := (hin2.keep hbb hn2).at hlt2
        simp only [Prt.items] at ha hrow hinj ha2 hrow2 hinj2
        subst ha ha2
        have ihj := ih l[j] (List.getElem_mem hlt1) (hf.mem (p := .mk k y n m r l) (List.getElem_mem hlt1)) l2[j] (hf2.mem (p := .mk k y n m r l2) (List.getElem_mem hlt2)) aj aj2 cj cj2 lo1 n1 lo2 n2
        have hdr : Below wr.heap.size wr wr.drew := (Below.refl _ _).drew
        have hcall := ihj wr.drew (by show n1 ≤ wr.heap.size; omega) (by show n2 ≤ wr.heap.size; omega) (hinj.keep hdr (by omega)) (hinj2.keep hdr (by omega))
        have hszd : wr.drew.heap.size = wr.heap.size := rfl
        rw [hszd] at hcall
        obtain ⟨r0, r1, r2, r3, r4, r5⟩ := hrow
        obtain ⟨x0, x1, x2, x3, x4, x5⟩ := hrow2
        unfold pV at hcall
        clear HS hin1 hin2 hf hf2 ih ihj hinj hinj2 hszd
        generalize l[j] = x at *
        generalize l2[j] = x' at *
        have hji : (j : Int) < (ln : Int) := by omega
        go_wp2_with fail
        go_region_with (go_at_call 18; refine hcall.mono ?_; rintro _ w3 ⟨rfl, hb3⟩)
        all_goals
          have hb4 : Below w2.heap.size w2 w3 := hbel.trans ((hdr.mono hbel.size).trans (hb3.mono hbel.size))
          clear hcall r0 r1 r2 r3 r4 r5 x0 x1 x2 x3 x4 x5
          cases hq : eqP x x' with
          | false =>
            have hRn : R = false := by rw [HD.out, hq]; rfl
            clear HD hq
            go_wp2_with fail
            go_ret
            exact ⟨by rw [hRn]; rfl, hb2.trans (hb4.mono hb2.size)⟩
          | true =>
            have HD2 : Hid (R = eqL (l.drop (j + 1)) (l2.drop (j + 1))) := by
              show _ = _
              rw [HD.out, hq]; rfl
            clear HD hq
            go_wp2_with fail
            go_roundw
            case rel => exact ⟨j + 1, by omega, by simp, HD2, hb4⟩
            case measure => simp only [intOf]; omega
      · have hRn : R = true := by rw [HS.out, List.drop_of_length_le (by rw [HL.out]; omega), List.drop_of_length_le (by rw [HL2.out]; omega)]; simp [eqL]
        clear HS ih hin1 hin2 hf hf2
        go_wp2_with fail
        go_ret
        exact ⟨by rw [hRn]; rfl, hbb⟩
end Go.Proofs.YtnjfkijekohdkaaDoor
