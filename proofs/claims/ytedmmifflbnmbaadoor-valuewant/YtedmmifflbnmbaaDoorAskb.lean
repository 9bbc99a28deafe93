/- What else can be asked of values: AsNumber, AsRaw, At, Kind, Num; the document's IsRaw and Depth (contracts; nothing is claimed here). -/
import Derived.Test.YtedmmifflbnmbaaDoorAsk
namespace Go.Proofs.YtedmmifflbnmbaaDoor
open Go.RowKit Go.Vf

theorem asNumber_num (b : Bool) (m : ByteArray) (w : World) : Calls Tryd.prog 25 #[.iface 86 (.agg #[.bool b, .string m])] w fun e w' => e = .returned (.tuple #[.iface 86 (.agg #[.bool b, .string m]), .bool true]) ∧ w' = w := by
  have z0 := ta67_83
  have h37 : Calls Tryd.prog 43 #[.iface 86 (.agg #[.bool b, .string m])] w fun e w' => e = .returned (.tuple #[.iface 86 (.agg #[.bool b, .string m]), .bool true]) ∧ w' = w := by
    go_enter Tryd.func43, Tryd.ntmps43
    go_wp2_with fail
    go_ret2
    exact ⟨rfl, rfl⟩
  clear z0
  go_enter Tryd.func25, Tryd.ntmps25
  go_wp2_with fail
  refine h37.mono ?_
  rintro _ _ ⟨rfl, rfl⟩
  go_wp2_with fail
  go_ret2
  exact ⟨rfl, rfl⟩
theorem asNumber_not (v : Value) (p : Prt) (lo n₀ : Nat) (w : World) (h : VIn w lo n₀ v p) (h2 : p.kind ≠ 2) : Calls Tryd.prog 25 #[v] w fun e w' => e = .returned (.tuple #[.nilIface, .bool false]) ∧ w' = w := by
  have z0 := ta67_nil
  have z1 := ta67_81
  have z2 := ta67_85
  have z3 := ta67_74
  have h37 : Calls Tryd.prog 43 #[v] w fun e w' => e = .returned (.tuple #[.nilIface, .bool false]) ∧ w' = w := by
    cases h
    case num => exact absurd rfl h2
    all_goals
      go_enter Tryd.func43, Tryd.ntmps43
      go_wp2_with fail
      go_ret2
      exact ⟨rfl, rfl⟩
  clear z0 z1 z2 z3 h
  go_enter Tryd.func25, Tryd.ntmps25
  go_wp2_with fail
  refine h37.mono ?_
  rintro _ _ ⟨rfl, rfl⟩
  go_wp2_with fail
  go_ret2
  exact ⟨rfl, rfl⟩
theorem asRaw_not (v : Value) (p : Prt) (lo n₀ : Nat) (w : World) (h : VIn w lo n₀ v p) (h2 : isRawK p.kind = false) : Calls Tryd.prog 13 #[v] w fun e w' => e = .returned (.tuple #[.nilIface, .bool false]) ∧ w' = w := by
  have z0 := ta58_nil
  have z1 := ta58_81
  have z2 := ta58_83
  have z3 := ta58_74
  have h37 : Calls Tryd.prog 31 #[v] w fun e w' => e = .returned (.tuple #[.nilIface, .bool false]) ∧ w' = w := by
    cases h
    case raw k r hk => exact absurd hk (by rw [show isRawK k = false from h2]; simp)
    all_goals
      go_enter Tryd.func31, Tryd.ntmps31
      go_wp2_with fail
      go_ret2
      exact ⟨rfl, rfl⟩
  clear z0 z1 z2 z3 h
  go_enter Tryd.func13, Tryd.ntmps13
  go_wp2_with fail
  refine h37.mono ?_
  rintro _ _ ⟨rfl, rfl⟩
  go_wp2_with fail
  go_ret2
  exact ⟨rfl, rfl⟩
theorem at_out (g : Nat) (a : Option Addr) (ln c : Nat) (i : Int) (w : World) (_hl : ln ≤ 281474976710656) (hi : i < 0 ∨ (ln : Int) ≤ i) (hi2 : -1 ≤ i ∧ i ≤ 4611686018427387904) (h0 : w.cell? ⟨g, 0, none⟩ = some (.slice a ln c)) :
    Calls Tryd.prog 76 #[.pointer (some ⟨g, 0, none⟩), .int .i64 i] w fun e w' => e = .returned .nilIface ∧ w' = w := by
  by_cases h : i < 0
  · have t : decide (i < 0) = true := decide_eq_true h
    clear hi
    go_enter Tryd.func76, Tryd.ntmps76
    go_wp2_with fail
    go_ret
    exact ⟨rfl, rfl⟩
  · have t : decide (i < 0) = false := decide_eq_false h
    have t2 : decide ((ln : Int) ≤ i) = true := decide_eq_true (by omega)
    clear hi
    go_enter Tryd.func76, Tryd.ntmps76
    go_wp2_with fail
    go_ret
    exact ⟨rfl, rfl⟩
theorem kindTup (g : Nat) (w : World) : Calls Tryd.prog 77 #[.pointer (some ⟨g, 0, none⟩)] w fun e w' => e = .returned (.int .u8 7) ∧ w' = w := by
  go_enter Tryd.func77, Tryd.ntmps77
  go_wp2_with fail
  go_ret
  exact ⟨rfl, rfl⟩
theorem kindTruth (y : Bool) (w : World) : Calls Tryd.prog 71 #[.agg #[.bool y]] w fun e w' => e = .returned (.int .u8 1) ∧ Below w.heap.size w w' := by
  go_enter Tryd.func71, Tryd.ntmps71
  go_wp2_with fail
  go_ret
  exact ⟨rfl, (Below.refl _ _).alloc (Nat.le_refl _) _⟩
theorem kindNum (b : Bool) (m : ByteArray) (w : World) : Calls Tryd.prog 73 #[.agg #[.bool b, .string m]] w fun e w' => e = .returned (.int .u8 2) ∧ Below w.heap.size w w' := by
  go_enter Tryd.func73, Tryd.ntmps73
  go_wp2_with fail
  go_ret
  exact ⟨rfl, (Below.refl _ _).alloc (Nat.le_refl _) _⟩
theorem kindRaw (k : Int) (r : ByteArray) (w : World) : Calls Tryd.prog 81 #[.agg #[.int .u8 k, .string r]] w fun e w' => e = .returned (.int .u8 k) ∧ Below w.heap.size w w' := by
  go_enter Tryd.func81, Tryd.ntmps81
  go_wp2_with fail
  go_ret
  exact ⟨rfl, (Below.refl _ _).alloc (Nat.le_refl _) _⟩
theorem risRaw_any (k : Int) (hk : k = 0 ∨ k = 1 ∨ k = 2 ∨ k = 3 ∨ k = 4 ∨ k = 5 ∨ k = 6 ∨ k = 7) (x1 x2 x3 x4 x5 : Value) (w : World) : Calls Tryd.prog 28 #[.agg #[.int .u8 k, x1, x2, x3, x4, x5]] w fun e w' => e = .returned (.bool (isRawK k)) ∧ Below w.heap.size w w' := by
  have hb1 := (Below.refl w.heap.size w).alloc (Nat.le_refl _) (.cells #[.int .u8 k, x1, x2, x3, x4, x5] 27)
  rcases hk with rfl | rfl | rfl | rfl | rfl | rfl | rfl | rfl
  all_goals
    go_enter Tryd.func28, Tryd.ntmps28
    go_wp2_with fail
    go_ret
    exact ⟨rfl, hb1⟩

theorem dep_not {k : Int} {y b : Bool} {m r : ByteArray} {l : List Prt} (h : k ≠ 7) : dep (.mk k y b m r l) = 0 := by rw [dep, if_neg h]
theorem depL_take (l : List Prt) (j : Nat) (hj : j < l.length) : depL (l.take (j + 1)) = max (depL (l.take j)) (dep l[j]) := by
  rw [List.take_succ_eq_append_getElem hj]
  generalize l.take j = A
  induction A with
  | nil => simp [depL]
  | cons x r ih => rw [List.cons_append, depL, depL, ih]; omega
def RDepOk (p : Prt) : Prop := ∀ (a : Option Addr) (c lo n₀ : Nat) (w : World), n₀ ≤ w.heap.size → PIn w lo n₀ p a → Calls Tryd.prog 29 #[pV p a c] w fun e w' => e = .returned (.int .i64 (dep p : Nat)) ∧ Below w.heap.size w w'

set_option maxHeartbeats 4000000 in
set_option maxRecDepth 20000 in
theorem rdep_any : ∀ (p : Prt), Fits p → dep p ≤ 1000 → RDepOk p := by
  intro p
  induction p using Prt.ind with
  | h k y b m r l ih =>
    intro hf hd a c lo n₀ w hn₀ hin
    have hl := hf.len
    simp only [Prt.items] at hl
    unfold pV
    simp only [Prt.kind, Prt.yes, Prt.neg, Prt.mag, Prt.raw, Prt.items]
    obtain ⟨ln, hln⟩ : ∃ ln, l.length = ln := ⟨_, rfl⟩
    have HLN : Hid (l.length = ln) := hln
    rw [hln] at hl ⊢
    clear hln
    have hb0 := Blk.new w 27 #[.int .u8 k, .bool y, .bool b, .string m, .string r, .slice a ln c]
    have hb1 := (Below.refl w.heap.size w).alloc (Nat.le_refl _) (.cells #[.int .u8 k, .bool y, .bool b, .string m, .string r, .slice a ln c] 27)
    by_cases h7 : k = 7
    · subst h7
      have hdl : dep (.mk 7 y b m r l) = depL l + 1 := by rw [dep, if_pos rfl]
      rw [hdl] at hd ⊢
      obtain ⟨DD, hDD⟩ : ∃ DD, depL l = DD := ⟨_, rfl⟩
      have HDD : Hid (depL l = DD) := hDD
      rw [hDD] at hd ⊢
      clear hDD hdl
      have HF : Hid (∀ x ∈ l, Fits x) := fun x hx => hf.mem (p := .mk 7 y b m r l) hx
      have HIN : Hid (∀ w1, Below w.heap.size w w1 → PIn w1 lo n₀ (.mk 7 y b m r l) a) := fun w1 h => hin.keep h hn₀
      clear hin hf
      go_enter Tryd.func29, Tryd.ntmps29
      go_upto_region 1 with fail
      generalize w.alloc (.cells #[.int .u8 7, .bool y, .bool b, .string m, .string r, .slice a ln c] 27) = w1 at *
      obtain ⟨c0, c1, c2, c3, c4, c5⟩ := hb0.c6
      go_wp2_with fail
      clear c0 c1 c2 c3 c4 c5
      go_loopw [3, 4] (fun nv iv wr => ∃ (j M : Nat), j ≤ ln ∧ M ≤ 1000 ∧ iv = .int .i64 (j : Int) ∧ nv = .int .i64 (M : Int) ∧ Hid (depL (l.take j) = M) ∧ Below w1.heap.size w1 wr) (fun _ iv _ => ln - (intOf iv).toNat)
      case atStart => exact ⟨0, 0, Nat.zero_le _, by omega, rfl, rfl, by show _ = _; simp [depL], Below.refl _ _⟩
      case round =>
        obtain ⟨j, M, hj, hM, rfl, rfl, HM, hbel⟩ := hrel
        have hbb : Below w.heap.size w wr := hb1.trans (hbel.mono hb1.size)
        have hbs := hbb.size
        have hB := hb0.below hbel hb0.lt
        obtain ⟨c0, c1, c2, c3, c4, c5⟩ := hB.c6
        clear hB
        by_cases hlt : j < ln
        · have tl : decide ((j : Int) < (ln : Int)) = true := decide_eq_true (by omega)
          have tl2 : decide (j < ln) = true := decide_eq_true hlt
          have hji : (j : Int) < (ln : Int) := by omega
          have hjl : j < l.length := by rw [HLN.out]; exact hlt
          obtain ⟨bb, off, aj, cj, ha, _, _, hrow, hinj⟩ := (HIN.out wr hbb).at (p := .mk 7 y b m r l) hjl
          simp only [Prt.items] at ha hrow hinj
          subst ha
          obtain ⟨r0, r1, r2, r3, r4, r5⟩ := hrow
          have hdx : dep l[j] ≤ 1000 := by
            have := depL_mem (List.getElem_mem hjl)
            have := HDD.out
            omega
          have hcall := ih l[j] (List.getElem_mem hjl) (HF.out _ (List.getElem_mem hjl)) hdx aj cj lo n₀ wr (by omega) hinj
          have HT : Hid (depL (l.take (j + 1)) = max M (dep l[j])) := by show _ = _; rw [depL_take l j hjl, HM.out]
          unfold pV at hcall
          generalize l[j] = x at *
          obtain ⟨dx, hdx'⟩ : ∃ dx, dep x = dx := ⟨_, rfl⟩
          rw [hdx'] at hcall hdx HT
          clear hinj ih HM hdx'
          go_wp2_with fail
          refine hcall.mono ?_
          rintro _ w4 ⟨rfl, hb4⟩
          clear hcall
          have hbn := hbel.trans (hb4.mono hbel.size)
          by_cases hgt : M < dx
          · have tg : decide ((M : Int) < (dx : Int)) = true := decide_eq_true (by omega)
            have tg2 : decide (M < dx) = true := decide_eq_true hgt
            go_wp2_with fail
            go_roundw
            case rel => exact ⟨j + 1, dx, hlt, hdx, by simp, rfl, by have := HT.out; show _ = _; omega, hbn⟩
            case measure => simp only [intOf]; omega
          · have tg : decide ((M : Int) < (dx : Int)) = false := decide_eq_false (by omega)
            have tg2 : decide (M < dx) = false := decide_eq_false hgt
            go_wp2_with fail
            go_roundw
            case rel => exact ⟨j + 1, M, hlt, hM, by simp, rfl, by have := HT.out; show _ = _; omega, hbn⟩
            case measure => simp only [intOf]; omega
        · have tl : decide ((j : Int) < (ln : Int)) = false := decide_eq_false (by omega)
          have tl2 : decide (j < ln) = false := decide_eq_false hlt
          have hDM : DD = M := by
            have e : l.take j = l := List.take_of_length_le (by rw [HLN.out]; omega)
            have := HM.out
            rw [e, HDD.out] at this
            exact this
          subst hDM
          clear HM ih HIN HF
          go_wp2_with fail
          go_ret
          exact ⟨by simp, hbb⟩
    · have t0 : (k != 7) = true := by simpa using h7
      have t1 : (k == 7) = false := by simpa using h7
      rw [dep_not h7]
      clear hin hf ih
      go_enter Tryd.func29, Tryd.ntmps29
      go_wp2_with fail
      go_ret
      exact ⟨rfl, hb1⟩
end Go.Proofs.YtedmmifflbnmbaaDoor
