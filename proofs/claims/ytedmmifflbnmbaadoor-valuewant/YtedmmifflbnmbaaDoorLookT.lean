/- What the statement's looks does with a tuple, and with any value (contracts; nothing is claimed here). -/
import Derived.Test.YtedmmifflbnmbaaDoorLook
namespace Go.Proofs.YtedmmifflbnmbaaDoor
open Go.RowKit Go.Vf
theorem cell_ltV {w : World} {h k : Nat} {v : Value} (e : w.cell? ⟨h, k, none⟩ = some v) : h < w.heap.size := by
  unfold World.cell? at e
  cases hh : w.heap[h]? with
  | none => simp [hh] at e
  | some o => exact (Array.getElem?_eq_some_iff.1 hh).1

set_option maxHeartbeats 16000000 in
set_option maxRecDepth 20000 in
theorem look_tup (l : List Prt) (hm : may (.mk 7 false false ⟨#[]⟩ ⟨#[]⟩ l) = true) (hf : Fits (.mk 7 false false ⟨#[]⟩ ⟨#[]⟩ l)) (hd : dep (.mk 7 false false ⟨#[]⟩ ⟨#[]⟩ l) ≤ 1000) (ih : ∀ x ∈ l, LookOk x) (g : Nat) (a : Option Addr) (c : Nat) (w : World) (hv : VIn w 0 w.heap.size (.iface 88 (.pointer (some ⟨g, 0, none⟩))) (.mk 7 false false ⟨#[]⟩ ⟨#[]⟩ l)) (hp : PIn w 0 w.heap.size (.mk 7 false false ⟨#[]⟩ ⟨#[]⟩ l) a) : Calls Tryd.prog 11 #[.iface 88 (.pointer (some ⟨g, 0, none⟩)), pV (.mk 7 false false ⟨#[]⟩ ⟨#[]⟩ l) a c] w fun e w' => e = .returned (.bool true) ∧ Below w.heap.size w w' := by
  obtain ⟨hl4, hml⟩ := may_tup hm
  unfold pV
  simp only [Prt.kind, Prt.yes, Prt.neg, Prt.mag, Prt.raw, Prt.items]
  obtain ⟨ln, hln⟩ : ∃ ln, l.length = ln := ⟨_, rfl⟩
  have HLN : Hid (l.length = ln) := hln
  rw [hln] at hl4 ⊢
  clear hln
  have hb1 := (Below.refl w.heap.size w).alloc (Nat.le_refl _) (.cells #[.int .u8 7, .bool false, .bool false, .string ⟨#[]⟩, .string ⟨#[]⟩, .slice a ln c] 27)
  have hB1 := Blk.new w 27 #[.int .u8 7, .bool false, .bool false, .string ⟨#[]⟩, .string ⟨#[]⟩, .slice a ln c]
  have HF : Hid (Fits (.mk 7 false false ⟨#[]⟩ ⟨#[]⟩ l)) := hf
  have HIH : Hid (∀ x ∈ l, LookOk x) := ih
  have HV0 : Hid (VIn w 0 w.heap.size (.iface 88 (.pointer (some ⟨g, 0, none⟩))) (.mk 7 false false ⟨#[]⟩ ⟨#[]⟩ l)) := hv
  have HTL : Hid (∀ x ∈ l, TellOk x) := fun x hx => tell_any x (hml x hx)
  obtain ⟨DD, hDD⟩ : ∃ DD, dep (.mk 7 false false ⟨#[]⟩ ⟨#[]⟩ l) = DD := ⟨_, rfl⟩
  have HDD : Hid (dep (.mk 7 false false ⟨#[]⟩ ⟨#[]⟩ l) = DD) := hDD
  rw [hDD] at hd
  have hv1 := VIn.go hv hb1
  have hp1 := PIn.go hp hb1
  clear hv hp hf hml hDD ih
  go_enter Tryd.func11, Tryd.ntmps11
  go_upto_region 1 with fail
  generalize w.alloc (.cells #[.int .u8 7, .bool false, .bool false, .string ⟨#[]⟩, .string ⟨#[]⟩, .slice a ln c] 27) = w1 at *
  have h28 := (asNumber_not _ _ _ _ w1 hv1 (by show (7 : Int) ≠ 2; omega)).sym'
  have h21 := (asRaw_not _ _ _ _ w1 hv1 rfl).sym'
  have h19 := (asList_tup ⟨g, 0, none⟩ w1).sym'
  have h18 := tell_any _ hm _ 0 w1.heap.size w1 (Nat.le_refl _) hv1
  unfold pV at h18
  simp only [Prt.kind, Prt.yes, Prt.neg, Prt.mag, Prt.raw, Prt.items] at h18
  rw [HLN.out] at h18
  have HV1 : Hid (VIn w1 0 w1.heap.size (.iface 88 (.pointer (some ⟨g, 0, none⟩))) (.mk 7 false false ⟨#[]⟩ ⟨#[]⟩ l)) := hv1
  have HP1 : Hid (PIn w1 0 w1.heap.size (.mk 7 false false ⟨#[]⟩ ⟨#[]⟩ l) a) := hp1
  have HB1 : Hid (Blk w1 w.heap.size 27 #[.int .u8 7, .bool false, .bool false, .string ⟨#[]⟩, .string ⟨#[]⟩, .slice a ln c]) := hB1
  clear hv1 hp1 hB1 hm
  go_wp2_with fail
  refine h28.mono ?_
  rintro _ _ ⟨rfl, rfl⟩
  clear h28
  go_wp2_with fail
  refine h21.mono ?_
  rintro _ _ ⟨rfl, rfl⟩
  clear h21
  go_wp2_with fail
  refine h19.mono ?_
  rintro _ _ ⟨rfl, rfl⟩
  clear h19
  go_wp2_with fail
  refine h18.mono ?_
  rintro _ w2 ⟨a3, c3, rfl, hp2, hb2⟩
  clear h18
  have hq3 := (Below.refl w2.heap.size w2).alloc (Nat.le_refl _) (.cells #[.int .u8 7, .bool false, .bool false, .string ⟨#[]⟩, .string ⟨#[]⟩, .slice a3 ln c3] 27)
  have hB3 := Blk.new w2 27 #[.int .u8 7, .bool false, .bool false, .string ⟨#[]⟩, .string ⟨#[]⟩, .slice a3 ln c3]
  go_upto_region 5 with fail
  generalize w2.alloc (.cells #[.int .u8 7, .bool false, .bool false, .string ⟨#[]⟩, .string ⟨#[]⟩, .slice a3 ln c3] 27) = w3 at *
  have hb13 : Below w1.heap.size w1 w3 := hb2.trans (hq3.mono hb2.size)
  have hs := rsame_any _ HF.out _ HF.out a3 a c3 c 0 w3.heap.size 0 w3.heap.size w3 (Nat.le_refl _) (Nat.le_refl _) (PIn.go hp2 hq3) (PIn.go HP1.out hb13)
  rw [eqP_self] at hs
  unfold pV at hs
  simp only [Prt.kind, Prt.yes, Prt.neg, Prt.mag, Prt.raw, Prt.items] at hs
  rw [HLN.out] at hs
  obtain ⟨x0, x1, x2, x3, x4, x5⟩ := hB3.c6
  have hBy := Blk.old HB1.out hb13
  obtain ⟨y0, y1, y2, y3, y4, y5⟩ := hBy.c6
  clear hp2 hB3 hq3 hb2 hBy
  go_wp2_with fail
  refine hs.mono ?_
  rintro _ w4 ⟨rfl, hb4⟩
  clear hs x0 x1 x2 x3 x4 x5 y0 y1 y2 y3 y4 y5
  have hb14 : Below w1.heap.size w1 w4 := hb13.trans (hb4.mono hb13.size)
  clear hb13 hb4
  have hBy := Blk.old HB1.out hb14
  obtain ⟨y0, y1, y2, y3, y4, y5⟩ := hBy.c6
  have h29 := risRaw_any 7 (by omega) (.bool false) (.bool false) (.string ⟨#[]⟩) (.string ⟨#[]⟩) (.slice a ln c) w4
  clear hBy
  rw [show isRawK 7 = false from rfl] at h29
  go_wp2_with fail
  refine h29.mono ?_
  rintro _ w5 ⟨rfl, hb5⟩
  clear h29 y0 y1 y2 y3 y4 y5
  have hb15 : Below w1.heap.size w1 w5 := hb14.trans (hb5.mono hb14.size)
  clear hb14 hb5
  have hw5 : Below w.heap.size w w5 := hb1.trans (hb15.mono hb1.size)
  have HB5 : Hid (Blk w5 w.heap.size 27 #[.int .u8 7, .bool false, .bool false, .string ⟨#[]⟩, .string ⟨#[]⟩, .slice a ln c]) := Blk.old HB1.out hb15
  have HV5 : Hid (VIn w5 0 w5.heap.size (.iface 88 (.pointer (some ⟨g, 0, none⟩))) (.mk 7 false false ⟨#[]⟩ ⟨#[]⟩ l)) := VIn.go HV1.out hb15
  have HP5 : Hid (PIn w5 0 w5.heap.size (.mk 7 false false ⟨#[]⟩ ⟨#[]⟩ l) a) := PIn.go HP1.out hb15
  clear HB1 HV1 HP1 hb15 hb1
  have hBy := HB5.out
  obtain ⟨y0, y1, y2, y3, y4, y5⟩ := hBy.c6
  clear hBy
  have HKeepA : Hid (∀ x y, Below w5.heap.size w5 x → Below x.heap.size x y → Below w5.heap.size w5 y) := fun x y h1 h2 => h1.trans (h2.mono h1.size)
  have HRd : Hid (∀ x, Below w5.heap.size w5 x → Blk x w.heap.size 27 #[.int .u8 7, .bool false, .bool false, .string ⟨#[]⟩, .string ⟨#[]⟩, .slice a ln c]) := fun x h => Blk.below HB5.out h (Blk.lt HB5.out)
  have HKd : Hid (∀ x, Below w5.heap.size w5 x → Calls Tryd.prog 77 #[.pointer (some ⟨g, 0, none⟩)] x fun e w' => e = .returned (.int .u8 7) ∧ x = w') := fun x _ => (kindTup g x).sym'
  have HDp : Hid (∀ x, Below w5.heap.size w5 x → Calls Tryd.prog 14 #[.iface 88 (.pointer (some ⟨g, 0, none⟩))] x fun e w' => e = .returned (.int .i64 (DD : Int)) ∧ x = w') := fun x h => by
    have := (Depth_any _ _ _ _ x (HV5.out.old h (Nat.le_refl _))).sym'
    rw [HDD.out] at this
    exact this
  have HRp : Hid (∀ x, Below w5.heap.size w5 x → Calls Tryd.prog 29 #[.agg #[.int .u8 7, .bool false, .bool false, .string ⟨#[]⟩, .string ⟨#[]⟩, .slice a ln c]] x fun e w' => e = .returned (.int .i64 (DD : Int)) ∧ Below x.heap.size x w') := fun x h => by
    have := rdep_any _ HF.out (by rw [HDD.out]; exact hd) a c 0 w5.heap.size x h.size (HP5.out.keep h (Nat.le_refl _))
    rw [HDD.out] at this
    unfold pV at this
    simp only [Prt.kind, Prt.yes, Prt.neg, Prt.mag, Prt.raw, Prt.items] at this
    rw [HLN.out] at this
    exact this
  have hmk := mKind_74 ⟨g, 0, none⟩
  go_upto_region 11 with fail
  refine wp_region_held_drew (S := fun x => Below w5.heap.size w5 x) (by kernel_rfl) ((Below.refl _ _).drew) (fun hHeldA => ?_)
  refine wpAnyH_takeD (i := 0) (some 88) (v := ?vA0) rfl rfl (by kernel_rfl) (by kernel_rfl) (by kernel_rfl) (fun _ _ _ h => h) (Or.inl ⟨by kernel_rfl, ?hyA0⟩) (by assumption) ?restA0
  case hyA0 => (intro x hSx; have hBq := HRd.out x hSx; obtain ⟨q0, q1, q2, q3, q4, q5⟩ := Blk.c6 hBq; clear hBq; (try dsimp only at hSx); go_simp; first | done | with_reducible rfl)
  try simp only [Act.put, List.setIfInBounds_toArray, List.set_cons_zero, List.set_cons_succ]
  refine wpAnyH_takeD (i := 1) (some 89) (v := .bool false) rfl rfl (by kernel_rfl) (by kernel_rfl) (by kernel_rfl) (fun _ _ _ h => h) (Or.inl ⟨by kernel_rfl, ?hyA1⟩) (by assumption) ?restA1
  case hyA1 => (intro x hSx; have hBq := HRd.out x hSx; obtain ⟨q0, q1, q2, q3, q4, q5⟩ := Blk.c6 hBq; clear hBq; (try dsimp only at hSx); go_simp; first | done | rfl | simp)
  try simp only [Act.put, List.setIfInBounds_toArray, List.set_cons_zero, List.set_cons_succ]
  refine wpAnyH_takeD (i := 2) (some 90) (v := ?vA2) rfl rfl (by kernel_rfl) (by kernel_rfl) (by kernel_rfl) (fun _ _ _ h => h) (Or.inl ⟨by kernel_rfl, ?hyA2⟩) (by assumption) ?restA2
  case hyA2 => (intro x hSx; have hBq := HRd.out x hSx; obtain ⟨q0, q1, q2, q3, q4, q5⟩ := Blk.c6 hBq; clear hBq; (try dsimp only at hSx); go_simp; first | done | with_reducible rfl)
  try simp only [Act.put, List.setIfInBounds_toArray, List.set_cons_zero, List.set_cons_succ]
  refine wpAnyH_takeD (i := 3) (some 91) (v := ?vA3) rfl rfl (by kernel_rfl) (by kernel_rfl) (by kernel_rfl) (fun _ _ _ h => h) (Or.inl ⟨by kernel_rfl, ?hyA3⟩) (by assumption) ?restA3
  case hyA3 => (intro x hSx; have hBq := HRd.out x hSx; obtain ⟨q0, q1, q2, q3, q4, q5⟩ := Blk.c6 hBq; clear hBq; (try dsimp only at hSx); go_simp; first | done | with_reducible rfl)
  try simp only [Act.put, List.setIfInBounds_toArray, List.set_cons_zero, List.set_cons_succ]
  refine wpAnyH_takeD (i := 5) (some 93) (v := ?vA5) rfl rfl (by kernel_rfl) (by kernel_rfl) (by kernel_rfl) (fun _ _ _ h => h) (Or.inl ⟨by kernel_rfl, ?hyA5⟩) (by assumption) ?restA5
  case hyA5 => (intro x hSx; have hBq := HRd.out x hSx; obtain ⟨q0, q1, q2, q3, q4, q5⟩ := Blk.c6 hBq; clear hBq; (try dsimp only at hSx); go_simp; first | done | with_reducible rfl)
  try simp only [Act.put, List.setIfInBounds_toArray, List.set_cons_zero, List.set_cons_succ]
  refine wpAnyH_takeD (i := 6) (some 94) (v := ?vA6) rfl rfl (by kernel_rfl) (by kernel_rfl) (by kernel_rfl) (fun _ _ _ h => h) (Or.inl ⟨by kernel_rfl, ?hyA6⟩) (by assumption) ?restA6
  case hyA6 => (intro x hSx; have hBq := HRd.out x hSx; obtain ⟨q0, q1, q2, q3, q4, q5⟩ := Blk.c6 hBq; clear hBq; (try dsimp only at hSx); go_simp; first | done | with_reducible rfl)
  try simp only [Act.put, List.setIfInBounds_toArray, List.set_cons_zero, List.set_cons_succ]
  refine wpAnyH_ready (rs := [4]) (by kernel_rfl) (by simp) ?_
  refine AllReadyH.cons rfl (fun K hK => ?_) AllReadyH.nil
  go_simp
  go_wp2_with (go_at_call 77; refine (HKd.out _ hHeldA).mono ?_; rintro e yA4 ⟨rfl, hbyA4⟩)
  subst hbyA4
  refine hK.out _ _ hHeldA (fun hHeldA4 => ?_)
  clear hK K
  try simp only [Act.put, List.setIfInBounds_toArray, List.set_cons_zero, List.set_cons_succ]
  refine wpAnyH_takeD (i := 7) (some 95) (v := .bool false) rfl rfl (by kernel_rfl) (by kernel_rfl) (by kernel_rfl) (fun _ _ _ h => h) (Or.inl ⟨by kernel_rfl, ?hyA7⟩) (by assumption) ?restA7
  case hyA7 => (intro x hSx; have hBq := HRd.out x hSx; obtain ⟨q0, q1, q2, q3, q4, q5⟩ := Blk.c6 hBq; clear hBq; (try dsimp only at hSx); go_simp; first | done | simp)
  try simp only [Act.put, List.setIfInBounds_toArray, List.set_cons_zero, List.set_cons_succ]
  refine wpAnyH_takeD (i := 8) (some 96) (v := ?vA8) rfl rfl (by kernel_rfl) (by kernel_rfl) (by kernel_rfl) (fun _ _ _ h => h) (Or.inl ⟨by kernel_rfl, ?hyA8⟩) (by assumption) ?restA8
  case hyA8 => (intro x hSx; have hBq := HRd.out x hSx; obtain ⟨q0, q1, q2, q3, q4, q5⟩ := Blk.c6 hBq; clear hBq; (try dsimp only at hSx); go_simp; first | done | with_reducible rfl)
  try simp only [Act.put, List.setIfInBounds_toArray, List.set_cons_zero, List.set_cons_succ]
  refine wpAnyH_takeD (i := 9) (some 97) (v := ?vA9) rfl rfl (by kernel_rfl) (by kernel_rfl) (by kernel_rfl) (fun _ _ _ h => h) (Or.inl ⟨by kernel_rfl, ?hyA9⟩) (by assumption) ?restA9
  case hyA9 => (intro x hSx; have hBq := HRd.out x hSx; obtain ⟨q0, q1, q2, q3, q4, q5⟩ := Blk.c6 hBq; clear hBq; (try dsimp only at hSx); go_simp; first | done | with_reducible rfl)
  try simp only [Act.put, List.setIfInBounds_toArray, List.set_cons_zero, List.set_cons_succ]
  refine wpAnyH_takeD (i := 10) (some 98) (v := ?vA10) rfl rfl (by kernel_rfl) (by kernel_rfl) (by kernel_rfl) (fun _ _ _ h => h) (Or.inl ⟨by kernel_rfl, ?hyA10⟩) (by assumption) ?restA10
  case hyA10 => (intro x hSx; have hBq := HRd.out x hSx; obtain ⟨q0, q1, q2, q3, q4, q5⟩ := Blk.c6 hBq; clear hBq; (try dsimp only at hSx); go_simp; first | done | with_reducible rfl)
  try simp only [Act.put, List.setIfInBounds_toArray, List.set_cons_zero, List.set_cons_succ]
  refine wpAnyH_takeD (i := 12) (some 100) (v := ?vA12) rfl rfl (by kernel_rfl) (by kernel_rfl) (by kernel_rfl) (fun _ _ _ h => h) (Or.inl ⟨by kernel_rfl, ?hyA12⟩) (by assumption) ?restA12
  case hyA12 => (intro x hSx; have hBq := HRd.out x hSx; obtain ⟨q0, q1, q2, q3, q4, q5⟩ := Blk.c6 hBq; clear hBq; (try dsimp only at hSx); go_simp; first | done | with_reducible rfl)
  try simp only [Act.put, List.setIfInBounds_toArray, List.set_cons_zero, List.set_cons_succ]
  refine wpAnyH_ready (rs := [11]) (by kernel_rfl) (by simp) ?_
  refine AllReadyH.cons rfl (fun K hK => ?_) AllReadyH.nil
  go_simp
  go_wp2_with (go_at_call 14; refine (HDp.out _ hHeldA4).mono ?_; rintro e yA11 ⟨rfl, hbyA11⟩)
  subst hbyA11
  refine hK.out _ _ hHeldA4 (fun hHeldA11 => ?_)
  clear hK K
  try simp only [Act.put, List.setIfInBounds_toArray, List.set_cons_zero, List.set_cons_succ]
  refine wpAnyH_ready (rs := [13]) (by kernel_rfl) (by simp) ?_
  refine AllReadyH.cons rfl (fun K hK => ?_) AllReadyH.nil
  go_simp
  go_wp2_with (go_at_call 29; refine (HRp.out _ hHeldA11).mono ?_; rintro e yA13 ⟨rfl, hbyA13⟩)
  refine hK.out _ _ (HKeepA.out _ _ hHeldA11 hbyA13) (fun hHeldA13 => ?_)
  clear hK K
  try simp only [Act.put, List.setIfInBounds_toArray, List.set_cons_zero, List.set_cons_succ]
  refine wpAnyH_takeD (i := 14) (some 102) (v := .bool false) rfl rfl (by kernel_rfl) (by kernel_rfl) (by kernel_rfl) (fun _ _ _ h => h) (Or.inl ⟨by kernel_rfl, ?hyA14⟩) (by assumption) ?restA14
  case hyA14 => (intro x hSx; have hBq := HRd.out x hSx; obtain ⟨q0, q1, q2, q3, q4, q5⟩ := Blk.c6 hBq; clear hBq; (try dsimp only at hSx); go_simp; first | done | simp)
  try simp only [Act.put, List.setIfInBounds_toArray, List.set_cons_zero, List.set_cons_succ]
  refine wpAnyH_takeD (i := 15) (some 103) (v := ?vA15) rfl rfl (by kernel_rfl) (by kernel_rfl) (by kernel_rfl) (fun _ _ _ h => h) (Or.inl ⟨by kernel_rfl, ?hyA15⟩) (by assumption) ?restA15
  case hyA15 => (intro x hSx; have hBq := HRd.out x hSx; obtain ⟨q0, q1, q2, q3, q4, q5⟩ := Blk.c6 hBq; clear hBq; (try dsimp only at hSx); go_simp; first | done | with_reducible rfl)
  try simp only [Act.put, List.setIfInBounds_toArray, List.set_cons_zero, List.set_cons_succ]
  refine wpAnyH_done (by kernel_rfl) ?_ _
  have hw6 := hw5.trans (hHeldA13.mono hw5.size)
  have HB6 : Hid (Blk yA13 w.heap.size 27 #[.int .u8 7, .bool false, .bool false, .string ⟨#[]⟩, .string ⟨#[]⟩, .slice a ln c]) := Blk.old HB5.out hHeldA13
  have HP6 : Hid (PIn yA13 0 yA13.heap.size (.mk 7 false false ⟨#[]⟩ ⟨#[]⟩ l) a) := PIn.go HP5.out hHeldA13
  have HV6 : Hid (VIn yA13 0 yA13.heap.size (.iface 88 (.pointer (some ⟨g, 0, none⟩))) (.mk 7 false false ⟨#[]⟩ ⟨#[]⟩ l)) := VIn.go HV5.out hHeldA13
  clear HKeepA HRd HKd HDp HRp y0 y1 y2 y3 y4 y5 HB5 HP5 HV5 hmk HDD hd
  generalize yA13 = w6 at *
  have hmp := mPart_74 ⟨g, 0, none⟩
  have hpc : Calls Tryd.prog 79 #[.pointer (some ⟨g, 0, none⟩)] w6 fun e w' => ∃ a4 c4, e = .returned (.agg #[.int .u8 7, .bool false, .bool false, .string ⟨#[]⟩, .string ⟨#[]⟩, .slice a4 ln c4]) ∧ PIn w' w6.heap.size w'.heap.size (.mk 7 false false ⟨#[]⟩ ⟨#[]⟩ l) a4 ∧ Below w6.heap.size w6 w' := by
    have hv6 := HV6.out
    cases hv6 with
    | tup V' q1 q2 q3 q4 q5 =>
      have := tuplePart_step l (by rw [HLN.out]; omega) HTL.out g _ 0 w6.heap.size _ V' w6 (Nat.le_refl _) q2 q3 q4 q5
      unfold pV at this
      simp only [Prt.kind, Prt.yes, Prt.neg, Prt.mag, Prt.raw, Prt.items] at this
      rw [HLN.out] at this
      exact this
  clear HTL
  go_wp2_with fail
  refine hpc.mono ?_
  rintro _ w7 ⟨a4, c4, rfl, hp7, hb7⟩
  clear hpc hmp
  have hq8 := (Below.refl w7.heap.size w7).alloc (Nat.le_refl _) (.cells #[.int .u8 7, .bool false, .bool false, .string ⟨#[]⟩, .string ⟨#[]⟩, .slice a4 ln c4] 27)
  have hB8 := Blk.new w7 27 #[.int .u8 7, .bool false, .bool false, .string ⟨#[]⟩, .string ⟨#[]⟩, .slice a4 ln c4]
  go_upto_region 14 with fail
  generalize w7.alloc (.cells #[.int .u8 7, .bool false, .bool false, .string ⟨#[]⟩, .string ⟨#[]⟩, .slice a4 ln c4] 27) = w8 at *
  have hb68 : Below w6.heap.size w6 w8 := hb7.trans (hq8.mono hb7.size)
  have hs := rsame_any _ HF.out _ HF.out a4 a c4 c 0 w8.heap.size 0 w8.heap.size w8 (Nat.le_refl _) (Nat.le_refl _) (PIn.go hp7 hq8) (PIn.go HP6.out hb68)
  rw [eqP_self] at hs
  unfold pV at hs
  simp only [Prt.kind, Prt.yes, Prt.neg, Prt.mag, Prt.raw, Prt.items] at hs
  rw [HLN.out] at hs
  obtain ⟨x0, x1, x2, x3, x4, x5⟩ := hB8.c6
  have hBy := Blk.old HB6.out hb68
  obtain ⟨y0, y1, y2, y3, y4, y5⟩ := hBy.c6
  clear hB8 hq8 hb7 hBy hp7
  go_wp2_with fail
  refine hs.mono ?_
  rintro _ w9 ⟨rfl, hb9⟩
  clear hs x0 x1 x2 x3 x4 x5 y0 y1 y2 y3 y4 y5 HF
  have hb69 : Below w6.heap.size w6 w9 := hb68.trans (hb9.mono hb68.size)
  have hw9 := hw6.trans (hb69.mono hw6.size)
  have HB9 : Hid (Blk w9 w.heap.size 27 #[.int .u8 7, .bool false, .bool false, .string ⟨#[]⟩, .string ⟨#[]⟩, .slice a ln c]) := Blk.old HB6.out hb69
  have HV9 : Hid (VIn w9 0 w9.heap.size (.iface 88 (.pointer (some ⟨g, 0, none⟩))) (.mk 7 false false ⟨#[]⟩ ⟨#[]⟩ l)) := VIn.go HV6.out hb69
  have HP9 : Hid (PIn w9 0 w9.heap.size (.mk 7 false false ⟨#[]⟩ ⟨#[]⟩ l) a) := PIn.go HP6.out hb69
  clear hb68 hb9 hb69 HB6 HP6 HV6 HV0 hw5 hw6
  have HRd : Hid (∀ x, Below w9.heap.size w9 x → Blk x w.heap.size 27 #[.int .u8 7, .bool false, .bool false, .string ⟨#[]⟩, .string ⟨#[]⟩, .slice a ln c]) := fun x h => Blk.below HB9.out h (Blk.lt HB9.out)
  have HVX : Hid (∃ (a5 : Option Addr) (c5 : Nat), (∀ x, Below w9.heap.size w9 x → x.cell? ⟨g, 0, none⟩ = some (.slice a5 ln c5)) ∧ (∀ x, Below w9.heap.size w9 x → ∀ j (hj : j < l.length), ∃ (V' : Value) (h' off : Nat), a5 = some ⟨h', off, none⟩ ∧ x.cell? ⟨h', off + j, none⟩ = some V' ∧ VIn x 0 w9.heap.size V' l[j])) := by
    have hv9 := HV9.out
    cases hv9 with
    | @tup _ _ c5 a5 V' q1 q2 q3 q4 q5 =>
      refine ⟨a5, c5, fun x h => ?_, fun x h j hj => ?_⟩
      · have := Blk.cell (Blk.below q3 h q2) 0
        rw [HLN.out] at this
        exact this
      · obtain ⟨h', off, e, r1, r2, r3⟩ := q4 j hj
        exact ⟨V' j, h', off, e, (h.cell (p := ⟨h', off + j, none⟩) r2).trans r3, (q5 j hj).old h (Nat.le_refl _)⟩
  obtain ⟨a5, c5, hg5, hit⟩ := HVX.out
  have HG5 : Hid (∀ x, Below w9.heap.size w9 x → x.cell? ⟨g, 0, none⟩ = some (.slice a5 ln c5)) := hg5
  have HIT : Hid (∀ x, Below w9.heap.size w9 x → ∀ j (hj : j < l.length), ∃ (V' : Value) (h' off : Nat), a5 = some ⟨h', off, none⟩ ∧ x.cell? ⟨h', off + j, none⟩ = some V' ∧ VIn x 0 w9.heap.size V' l[j]) := hit
  clear HVX hg5 hit HV9
  have HKeepB : Hid (∀ x y, Below w9.heap.size w9 x → Below x.heap.size x y → Below w9.heap.size w9 y) := fun x y h1 h2 => h1.trans (h2.mono h1.size)
  go_upto_region 15 with fail
  refine wp_region_held_drew (S := fun x => Below w9.heap.size w9 x) (by kernel_rfl) ((Below.refl _ _).drew) (fun hHeldB => ?_)
  refine wpAnyH_takeD (i := 0) (some 109) (v := ?vB0) rfl rfl (by kernel_rfl) (by kernel_rfl) (by kernel_rfl) (fun _ _ _ h => h) (Or.inl ⟨by kernel_rfl, ?hyB0⟩) (by assumption) ?restB0
  case hyB0 => (intro x hSx; have hBq := HRd.out x hSx; obtain ⟨q0, q1, q2, q3, q4, q5⟩ := Blk.c6 hBq; clear hBq; (try dsimp only at hSx); go_simp; first | done | with_reducible rfl)
  try simp only [Act.put, List.setIfInBounds_toArray, List.set_cons_zero, List.set_cons_succ]
  refine wpAnyH_takeD (i := 1) (some 110) (v := ?vB1) rfl rfl (by kernel_rfl) (by kernel_rfl) (by kernel_rfl) (fun _ _ _ h => h) (Or.inl ⟨by kernel_rfl, ?hyB1⟩) (by assumption) ?restB1
  case hyB1 => (intro x hSx; have hBq := HRd.out x hSx; obtain ⟨q0, q1, q2, q3, q4, q5⟩ := Blk.c6 hBq; clear hBq; (try dsimp only at hSx); go_simp; first | done | with_reducible rfl)
  try simp only [Act.put, List.setIfInBounds_toArray, List.set_cons_zero, List.set_cons_succ]
  refine wpAnyH_takeD (i := 2) (some 111) (v := ?vB2) rfl rfl (by kernel_rfl) (by kernel_rfl) (by kernel_rfl) (fun _ _ _ h => h) (Or.inl ⟨by kernel_rfl, ?hyB2⟩) (by assumption) ?restB2
  case hyB2 => (intro x hSx; have hBq := HRd.out x hSx; obtain ⟨q0, q1, q2, q3, q4, q5⟩ := Blk.c6 hBq; clear hBq; (try dsimp only at hSx); go_simp; first | done | with_reducible rfl)
  try simp only [Act.put, List.setIfInBounds_toArray, List.set_cons_zero, List.set_cons_succ]
  refine wpAnyH_takeD (i := 3) (some 112) (v := ?vB3) rfl rfl (by kernel_rfl) (by kernel_rfl) (by kernel_rfl) (fun _ _ _ h => h) (Or.inl ⟨by kernel_rfl, ?hyB3⟩) (by assumption) ?restB3
  case hyB3 => (intro x hSx; have hBq := HRd.out x hSx; obtain ⟨q0, q1, q2, q3, q4, q5⟩ := Blk.c6 hBq; clear hBq; (try dsimp only at hSx); go_simp; first | done | with_reducible rfl)
  try simp only [Act.put, List.setIfInBounds_toArray, List.set_cons_zero, List.set_cons_succ]
  refine wpAnyH_takeD (i := 4) (some 113) (v := ?vB4) rfl rfl (by kernel_rfl) (by kernel_rfl) (by kernel_rfl) (fun _ _ _ h => h) (Or.inl ⟨by kernel_rfl, ?hyB4⟩) (by assumption) ?restB4
  case hyB4 => (intro x hSx; have hBq := HRd.out x hSx; obtain ⟨q0, q1, q2, q3, q4, q5⟩ := Blk.c6 hBq; clear hBq; (try dsimp only at hSx); go_simp; first | done | with_reducible rfl)
  try simp only [Act.put, List.setIfInBounds_toArray, List.set_cons_zero, List.set_cons_succ]
  refine wpAnyH_takeD (i := 5) (some 114) (v := undef) rfl rfl (by kernel_rfl) (by kernel_rfl) (by kernel_rfl) (fun _ _ _ h => h) (Or.inr ⟨by kernel_rfl, rfl⟩) (by assumption) ?_
  try simp only [Act.put, List.setIfInBounds_toArray, List.set_cons_zero, List.set_cons_succ]
  refine wpAnyH_takeD (i := 6) (some 115) (v := undef) rfl rfl (by kernel_rfl) (by kernel_rfl) (by kernel_rfl) (fun _ _ _ h => h) (Or.inr ⟨by kernel_rfl, rfl⟩) (by assumption) ?_
  try simp only [Act.put, List.setIfInBounds_toArray, List.set_cons_zero, List.set_cons_succ]
  refine wpAnyH_takeD (i := 7) (some 116) (v := undef) rfl rfl (by kernel_rfl) (by kernel_rfl) (by kernel_rfl) (fun _ _ _ h => h) (Or.inr ⟨by kernel_rfl, rfl⟩) (by assumption) ?_
  try simp only [Act.put, List.setIfInBounds_toArray, List.set_cons_zero, List.set_cons_succ]
  refine wpAnyH_takeD (i := 8) (some 117) (v := undef) rfl rfl (by kernel_rfl) (by kernel_rfl) (by kernel_rfl) (fun _ _ _ h => h) (Or.inr ⟨by kernel_rfl, rfl⟩) (by assumption) ?_
  try simp only [Act.put, List.setIfInBounds_toArray, List.set_cons_zero, List.set_cons_succ]
  refine wpAnyH_takeD (i := 9) (some 118) (v := undef) rfl rfl (by kernel_rfl) (by kernel_rfl) (by kernel_rfl) (fun _ _ _ h => h) (Or.inr ⟨by kernel_rfl, rfl⟩) (by assumption) ?_
  try simp only [Act.put, List.setIfInBounds_toArray, List.set_cons_zero, List.set_cons_succ]
  refine wpAnyH_takeD (i := 10) (some 119) (v := ?vB10) rfl rfl (by kernel_rfl) (by kernel_rfl) (by kernel_rfl) (fun _ _ _ h => h) (Or.inl ⟨by kernel_rfl, ?hyB10⟩) (by assumption) ?restB10
  case hyB10 => (intro x hSx; have hBq := HRd.out x hSx; obtain ⟨q0, q1, q2, q3, q4, q5⟩ := Blk.c6 hBq; clear hBq; (try dsimp only at hSx); go_simp; first | done | with_reducible rfl)
  try simp only [Act.put, List.setIfInBounds_toArray, List.set_cons_zero, List.set_cons_succ]
  refine wpAnyH_takeD (i := 11) (some 120) (v := ?vB11) rfl rfl (by kernel_rfl) (by kernel_rfl) (by kernel_rfl) (fun _ _ _ h => h) (Or.inl ⟨by kernel_rfl, ?hyB11⟩) (by assumption) ?restB11
  case hyB11 => (intro x hSx; have hBq := HRd.out x hSx; obtain ⟨q0, q1, q2, q3, q4, q5⟩ := Blk.c6 hBq; clear hBq; (try dsimp only at hSx); go_simp; first | done | with_reducible rfl)
  try simp only [Act.put, List.setIfInBounds_toArray, List.set_cons_zero, List.set_cons_succ]
  refine wpAnyH_takeD (i := 12) (some 121) (v := ?vB12) rfl rfl (by kernel_rfl) (by kernel_rfl) (by kernel_rfl) (fun _ _ _ h => h) (Or.inl ⟨by kernel_rfl, ?hyB12⟩) (by assumption) ?restB12
  case hyB12 => (intro x hSx; have hBq := HRd.out x hSx; obtain ⟨q0, q1, q2, q3, q4, q5⟩ := Blk.c6 hBq; clear hBq; (try dsimp only at hSx); go_simp; first | done | with_reducible rfl)
  try simp only [Act.put, List.setIfInBounds_toArray, List.set_cons_zero, List.set_cons_succ]
  refine wpAnyH_takeD (i := 13) (some 122) (v := ?vB13) rfl rfl (by kernel_rfl) (by kernel_rfl) (by kernel_rfl) (fun _ _ _ h => h) (Or.inl ⟨by kernel_rfl, ?hyB13⟩) (by assumption) ?restB13
  case hyB13 => (intro x hSx; have hBq := HRd.out x hSx; obtain ⟨q0, q1, q2, q3, q4, q5⟩ := Blk.c6 hBq; clear hBq; (try dsimp only at hSx); go_simp; first | done | with_reducible rfl)
  try simp only [Act.put, List.setIfInBounds_toArray, List.set_cons_zero, List.set_cons_succ]
  refine wpAnyH_takeD (i := 14) (some 123) (v := ?vB14) rfl rfl (by kernel_rfl) (by kernel_rfl) (by kernel_rfl) (fun _ _ _ h => h) (Or.inl ⟨by kernel_rfl, ?hyB14⟩) (by assumption) ?restB14
  case hyB14 => (intro x hSx; have hBq := HRd.out x hSx; obtain ⟨q0, q1, q2, q3, q4, q5⟩ := Blk.c6 hBq; clear hBq; (try dsimp only at hSx); go_simp; first | done | with_reducible rfl)
  try simp only [Act.put, List.setIfInBounds_toArray, List.set_cons_zero, List.set_cons_succ]
  refine wpAnyH_takeD (i := 15) (some 124) (v := undef) rfl rfl (by kernel_rfl) (by kernel_rfl) (by kernel_rfl) (fun _ _ _ h => h) (Or.inr ⟨by kernel_rfl, rfl⟩) (by assumption) ?_
  try simp only [Act.put, List.setIfInBounds_toArray, List.set_cons_zero, List.set_cons_succ]
  refine wpAnyH_takeD (i := 16) (some 125) (v := undef) rfl rfl (by kernel_rfl) (by kernel_rfl) (by kernel_rfl) (fun _ _ _ h => h) (Or.inr ⟨by kernel_rfl, rfl⟩) (by assumption) ?_
  try simp only [Act.put, List.setIfInBounds_toArray, List.set_cons_zero, List.set_cons_succ]
  refine wpAnyH_takeD (i := 17) (some 126) (v := undef) rfl rfl (by kernel_rfl) (by kernel_rfl) (by kernel_rfl) (fun _ _ _ h => h) (Or.inr ⟨by kernel_rfl, rfl⟩) (by assumption) ?_
  try simp only [Act.put, List.setIfInBounds_toArray, List.set_cons_zero, List.set_cons_succ]
  refine wpAnyH_takeD (i := 18) (some 127) (v := undef) rfl rfl (by kernel_rfl) (by kernel_rfl) (by kernel_rfl) (fun _ _ _ h => h) (Or.inr ⟨by kernel_rfl, rfl⟩) (by assumption) ?_
  try simp only [Act.put, List.setIfInBounds_toArray, List.set_cons_zero, List.set_cons_succ]
  refine wpAnyH_takeD (i := 19) (some 128) (v := undef) rfl rfl (by kernel_rfl) (by kernel_rfl) (by kernel_rfl) (fun _ _ _ h => h) (Or.inr ⟨by kernel_rfl, rfl⟩) (by assumption) ?_
  try simp only [Act.put, List.setIfInBounds_toArray, List.set_cons_zero, List.set_cons_succ]
  refine wpAnyH_takeD (i := 20) (some 129) (v := ?vB20) rfl rfl (by kernel_rfl) (by kernel_rfl) (by kernel_rfl) (fun _ _ _ h => h) (Or.inl ⟨by kernel_rfl, ?hyB20⟩) (by assumption) ?restB20
  case hyB20 => (intro x hSx; have hBq := HRd.out x hSx; obtain ⟨q0, q1, q2, q3, q4, q5⟩ := Blk.c6 hBq; clear hBq; (try dsimp only at hSx); go_simp; first | done | with_reducible rfl)
  try simp only [Act.put, List.setIfInBounds_toArray, List.set_cons_zero, List.set_cons_succ]
  refine wpAnyH_takeD (i := 21) (some 130) (v := ?vB21) rfl rfl (by kernel_rfl) (by kernel_rfl) (by kernel_rfl) (fun _ _ _ h => h) (Or.inl ⟨by kernel_rfl, ?hyB21⟩) (by assumption) ?restB21
  case hyB21 => (intro x hSx; have hBq := HRd.out x hSx; obtain ⟨q0, q1, q2, q3, q4, q5⟩ := Blk.c6 hBq; clear hBq; (try dsimp only at hSx); go_simp; first | done | with_reducible rfl)
  try simp only [Act.put, List.setIfInBounds_toArray, List.set_cons_zero, List.set_cons_succ]
  refine wpAnyH_done (by kernel_rfl) ?_ _
  have HW9 : Hid (Below w9.heap.size w9 w9.drew) := hHeldB
  generalize w9.drew = w10 at *
  clear hHeldB HKeepB
  have HKeepC : Hid (∀ x y, Below w9.heap.size w9 x → Below x.heap.size x y → Below w9.heap.size w9 y) := fun x y h1 h2 => h1.trans (h2.mono h1.size)
  have HLn : Hid (∀ x, Below w9.heap.size w9 x → Calls Tryd.prog 78 #[.pointer (some ⟨g, 0, none⟩)] x fun e w' => e = .returned (.int .i64 (ln : Int)) ∧ x = w') := fun x h => (len_any g a5 ln c5 x (HG5.out x h) (by omega)).sym'
  have HAm : Hid (∀ x, Below w9.heap.size w9 x → Calls Tryd.prog 76 #[.pointer (some ⟨g, 0, none⟩), .int .i64 (-1)] x fun e w' => e = .returned .nilIface ∧ x = w') := fun x h => (at_out g a5 ln c5 (-1) x (by omega) (.inl (by omega)) (by omega) (HG5.out x h)).sym'
  have HAl : Hid (∀ x, Below w9.heap.size w9 x → Calls Tryd.prog 76 #[.pointer (some ⟨g, 0, none⟩), .int .i64 (ln : Int)] x fun e w' => e = .returned .nilIface ∧ x = w') := fun x h => (at_out g a5 ln c5 (ln : Int) x (by omega) (.inr (by omega)) (by omega) (HG5.out x h)).sym'
  have HAb : Hid (∀ x, Below w9.heap.size w9 x → Calls Tryd.prog 76 #[.pointer (some ⟨g, 0, none⟩), .int .i64 4611686018427387904] x fun e w' => e = .returned .nilIface ∧ x = w') := fun x h => (at_out g a5 ln c5 4611686018427387904 x (by omega) (.inr (by omega)) (by omega) (HG5.out x h)).sym'
  have HKd : Hid (∀ x, Below w9.heap.size w9 x → Calls Tryd.prog 77 #[.pointer (some ⟨g, 0, none⟩)] x fun e w' => e = .returned (.int .u8 7) ∧ x = w') := fun x _ => (kindTup g x).sym'
  have m1 := mLen ⟨g, 0, none⟩
  have m2 := mAt ⟨g, 0, none⟩
  have m3 := mKind_74 ⟨g, 0, none⟩
  go_upto_region 19 with fail
  refine wp_region_held_drew (S := fun x => Below w9.heap.size w9 x) (by kernel_rfl) (Below.drew HW9.out) (fun hHeldC => ?_)
  refine wpAnyH_takeD (i := 0) (some 133) (v := ?vC0) rfl rfl (by kernel_rfl) (by kernel_rfl) (by kernel_rfl) (fun _ _ _ h => h) (Or.inl ⟨by kernel_rfl, ?hyC0⟩) (by assumption) ?restC0
  case hyC0 => (intro x hSx; have hBq := HRd.out x hSx; obtain ⟨q0, q1, q2, q3, q4, q5⟩ := Blk.c6 hBq; clear hBq; (try dsimp only at hSx); go_simp; first | done | with_reducible rfl)
  try simp only [Act.put, List.setIfInBounds_toArray, List.set_cons_zero, List.set_cons_succ]
  refine wpAnyH_takeD (i := 2) (some 135) (v := ?vC2) rfl rfl (by kernel_rfl) (by kernel_rfl) (by kernel_rfl) (fun _ _ _ h => h) (Or.inl ⟨by kernel_rfl, ?hyC2⟩) (by assumption) ?restC2
  case hyC2 => (intro x hSx; have hBq := HRd.out x hSx; obtain ⟨q0, q1, q2, q3, q4, q5⟩ := Blk.c6 hBq; clear hBq; (try dsimp only at hSx); go_simp; first | done | with_reducible rfl)
  try simp only [Act.put, List.setIfInBounds_toArray, List.set_cons_zero, List.set_cons_succ]
  refine wpAnyH_takeD (i := 3) (some 136) (v := ?vC3) rfl rfl (by kernel_rfl) (by kernel_rfl) (by kernel_rfl) (fun _ _ _ h => h) (Or.inl ⟨by kernel_rfl, ?hyC3⟩) (by assumption) ?restC3
  case hyC3 => (intro x hSx; have hBq := HRd.out x hSx; obtain ⟨q0, q1, q2, q3, q4, q5⟩ := Blk.c6 hBq; clear hBq; (try dsimp only at hSx); go_simp; first | done | with_reducible rfl)
  try simp only [Act.put, List.setIfInBounds_toArray, List.set_cons_zero, List.set_cons_succ]
  refine wpAnyH_takeD (i := 4) (some 137) (v := ?vC4) rfl rfl (by kernel_rfl) (by kernel_rfl) (by kernel_rfl) (fun _ _ _ h => h) (Or.inl ⟨by kernel_rfl, ?hyC4⟩) (by assumption) ?restC4
  case hyC4 => (intro x hSx; have hBq := HRd.out x hSx; obtain ⟨q0, q1, q2, q3, q4, q5⟩ := Blk.c6 hBq; clear hBq; (try dsimp only at hSx); go_simp; first | done | with_reducible rfl)
  try simp only [Act.put, List.setIfInBounds_toArray, List.set_cons_zero, List.set_cons_succ]
  refine wpAnyH_ready (rs := [1]) (by kernel_rfl) (by simp) ?_
  refine AllReadyH.cons rfl (fun K hK => ?_) AllReadyH.nil
  go_simp
  go_wp2_with (go_at_call 78; refine (HLn.out _ hHeldC).mono ?_; rintro e yC1 ⟨rfl, hbyC1⟩)
  subst hbyC1
  refine hK.out _ _ hHeldC (fun hHeldC1 => ?_)
  clear hK K
  try simp only [Act.put, List.setIfInBounds_toArray, List.set_cons_zero, List.set_cons_succ]
  refine wpAnyH_takeD (i := 5) (some 138) (v := .bool false) rfl rfl (by kernel_rfl) (by kernel_rfl) (by kernel_rfl) (fun _ _ _ h => h) (Or.inl ⟨by kernel_rfl, ?hyC5⟩) (by assumption) ?restC5
  case hyC5 => (intro x hSx; have hBq := HRd.out x hSx; obtain ⟨q0, q1, q2, q3, q4, q5⟩ := Blk.c6 hBq; clear hBq; (try dsimp only at hSx); go_simp; first | done | simp)
  try simp only [Act.put, List.setIfInBounds_toArray, List.set_cons_zero, List.set_cons_succ]
  refine wpAnyH_takeD (i := 6) (some 139) (v := ?vC6) rfl rfl (by kernel_rfl) (by kernel_rfl) (by kernel_rfl) (fun _ _ _ h => h) (Or.inl ⟨by kernel_rfl, ?hyC6⟩) (by assumption) ?restC6
  case hyC6 => (intro x hSx; have hBq := HRd.out x hSx; obtain ⟨q0, q1, q2, q3, q4, q5⟩ := Blk.c6 hBq; clear hBq; (try dsimp only at hSx); go_simp; first | done | with_reducible rfl)
  try simp only [Act.put, List.setIfInBounds_toArray, List.set_cons_zero, List.set_cons_succ]
  refine wpAnyH_takeD (i := 7) (some 140) (v := ?vC7) rfl rfl (by kernel_rfl) (by kernel_rfl) (by kernel_rfl) (fun _ _ _ h => h) (Or.inl ⟨by kernel_rfl, ?hyC7⟩) (by assumption) ?restC7
  case hyC7 => (intro x hSx; have hBq := HRd.out x hSx; obtain ⟨q0, q1, q2, q3, q4, q5⟩ := Blk.c6 hBq; clear hBq; (try dsimp only at hSx); go_simp; first | done | with_reducible rfl)
  try simp only [Act.put, List.setIfInBounds_toArray, List.set_cons_zero, List.set_cons_succ]
  refine wpAnyH_ready (rs := [8]) (by kernel_rfl) (by simp) ?_
  refine AllReadyH.cons rfl (fun K hK => ?_) AllReadyH.nil
  go_simp
  go_wp2_with (go_at_call 76; refine (HAm.out _ hHeldC1).mono ?_; rintro e yC8 ⟨rfl, hbyC8⟩)
  subst hbyC8
  refine hK.out _ _ hHeldC1 (fun hHeldC8 => ?_)
  clear hK K
  try simp only [Act.put, List.setIfInBounds_toArray, List.set_cons_zero, List.set_cons_succ]
  refine wpAnyH_takeD (i := 9) (some 142) (v := .bool false) rfl rfl (by kernel_rfl) (by kernel_rfl) (by kernel_rfl) (fun _ _ _ h => h) (Or.inl ⟨by kernel_rfl, ?hyC9⟩) (by assumption) ?restC9
  case hyC9 => (intro x hSx; have hBq := HRd.out x hSx; obtain ⟨q0, q1, q2, q3, q4, q5⟩ := Blk.c6 hBq; clear hBq; (try dsimp only at hSx); go_simp; first | done | rfl | simp)
  try simp only [Act.put, List.setIfInBounds_toArray, List.set_cons_zero, List.set_cons_succ]
  refine wpAnyH_takeD (i := 10) (some 143) (v := ?vC10) rfl rfl (by kernel_rfl) (by kernel_rfl) (by kernel_rfl) (fun _ _ _ h => h) (Or.inl ⟨by kernel_rfl, ?hyC10⟩) (by assumption) ?restC10
  case hyC10 => (intro x hSx; have hBq := HRd.out x hSx; obtain ⟨q0, q1, q2, q3, q4, q5⟩ := Blk.c6 hBq; clear hBq; (try dsimp only at hSx); go_simp; first | done | with_reducible rfl)
  try simp only [Act.put, List.setIfInBounds_toArray, List.set_cons_zero, List.set_cons_succ]
  refine wpAnyH_takeD (i := 11) (some 144) (v := ?vC11) rfl rfl (by kernel_rfl) (by kernel_rfl) (by kernel_rfl) (fun _ _ _ h => h) (Or.inl ⟨by kernel_rfl, ?hyC11⟩) (by assumption) ?restC11
  case hyC11 => (intro x hSx; have hBq := HRd.out x hSx; obtain ⟨q0, q1, q2, q3, q4, q5⟩ := Blk.c6 hBq; clear hBq; (try dsimp only at hSx); go_simp; first | done | with_reducible rfl)
  try simp only [Act.put, List.setIfInBounds_toArray, List.set_cons_zero, List.set_cons_succ]
  refine wpAnyH_takeD (i := 12) (some 145) (v := ?vC12) rfl rfl (by kernel_rfl) (by kernel_rfl) (by kernel_rfl) (fun _ _ _ h => h) (Or.inl ⟨by kernel_rfl, ?hyC12⟩) (by assumption) ?restC12
  case hyC12 => (intro x hSx; have hBq := HRd.out x hSx; obtain ⟨q0, q1, q2, q3, q4, q5⟩ := Blk.c6 hBq; clear hBq; (try dsimp only at hSx); go_simp; first | done | with_reducible rfl)
  try simp only [Act.put, List.setIfInBounds_toArray, List.set_cons_zero, List.set_cons_succ]
  refine wpAnyH_takeD (i := 13) (some 146) (v := ?vC13) rfl rfl (by kernel_rfl) (by kernel_rfl) (by kernel_rfl) (fun _ _ _ h => h) (Or.inl ⟨by kernel_rfl, ?hyC13⟩) (by assumption) ?restC13
  case hyC13 => (intro x hSx; have hBq := HRd.out x hSx; obtain ⟨q0, q1, q2, q3, q4, q5⟩ := Blk.c6 hBq; clear hBq; (try dsimp only at hSx); go_simp; first | done | with_reducible rfl)
  try simp only [Act.put, List.setIfInBounds_toArray, List.set_cons_zero, List.set_cons_succ]
  refine wpAnyH_takeD (i := 14) (some 147) (v := ?vC14) rfl rfl (by kernel_rfl) (by kernel_rfl) (by kernel_rfl) (fun _ _ _ h => h) (Or.inl ⟨by kernel_rfl, ?hyC14⟩) (by assumption) ?restC14
  case hyC14 => (intro x hSx; have hBq := HRd.out x hSx; obtain ⟨q0, q1, q2, q3, q4, q5⟩ := Blk.c6 hBq; clear hBq; (try dsimp only at hSx); go_simp; first | done | with_reducible rfl)
  try simp only [Act.put, List.setIfInBounds_toArray, List.set_cons_zero, List.set_cons_succ]
  refine wpAnyH_takeD (i := 15) (some 148) (v := ?vC15) rfl rfl (by kernel_rfl) (by kernel_rfl) (by kernel_rfl) (fun _ _ _ h => h) (Or.inl ⟨by kernel_rfl, ?hyC15⟩) (by assumption) ?restC15
  case hyC15 => (intro x hSx; have hBq := HRd.out x hSx; obtain ⟨q0, q1, q2, q3, q4, q5⟩ := Blk.c6 hBq; clear hBq; (try dsimp only at hSx); go_simp; first | done | with_reducible rfl)
  try simp only [Act.put, List.setIfInBounds_toArray, List.set_cons_zero, List.set_cons_succ]
  refine wpAnyH_ready (rs := [16]) (by kernel_rfl) (by simp) ?_
  refine AllReadyH.cons rfl (fun K hK => ?_) AllReadyH.nil
  go_simp
  go_wp2_with (go_at_call 76; refine (HAl.out _ hHeldC8).mono ?_; rintro e yC16 ⟨rfl, hbyC16⟩)
  subst hbyC16
  refine hK.out _ _ hHeldC8 (fun hHeldC16 => ?_)
  clear hK K
  try simp only [Act.put, List.setIfInBounds_toArray, List.set_cons_zero, List.set_cons_succ]
  refine wpAnyH_takeD (i := 17) (some 150) (v := .bool false) rfl rfl (by kernel_rfl) (by kernel_rfl) (by kernel_rfl) (fun _ _ _ h => h) (Or.inl ⟨by kernel_rfl, ?hyC17⟩) (by assumption) ?restC17
  case hyC17 => (intro x hSx; have hBq := HRd.out x hSx; obtain ⟨q0, q1, q2, q3, q4, q5⟩ := Blk.c6 hBq; clear hBq; (try dsimp only at hSx); go_simp; first | done | rfl | simp)
  try simp only [Act.put, List.setIfInBounds_toArray, List.set_cons_zero, List.set_cons_succ]
  refine wpAnyH_takeD (i := 18) (some 151) (v := ?vC18) rfl rfl (by kernel_rfl) (by kernel_rfl) (by kernel_rfl) (fun _ _ _ h => h) (Or.inl ⟨by kernel_rfl, ?hyC18⟩) (by assumption) ?restC18
  case hyC18 => (intro x hSx; have hBq := HRd.out x hSx; obtain ⟨q0, q1, q2, q3, q4, q5⟩ := Blk.c6 hBq; clear hBq; (try dsimp only at hSx); go_simp; first | done | with_reducible rfl)
  try simp only [Act.put, List.setIfInBounds_toArray, List.set_cons_zero, List.set_cons_succ]
  refine wpAnyH_takeD (i := 19) (some 152) (v := ?vC19) rfl rfl (by kernel_rfl) (by kernel_rfl) (by kernel_rfl) (fun _ _ _ h => h) (Or.inl ⟨by kernel_rfl, ?hyC19⟩) (by assumption) ?restC19
  case hyC19 => (intro x hSx; have hBq := HRd.out x hSx; obtain ⟨q0, q1, q2, q3, q4, q5⟩ := Blk.c6 hBq; clear hBq; (try dsimp only at hSx); go_simp; first | done | with_reducible rfl)
  try simp only [Act.put, List.setIfInBounds_toArray, List.set_cons_zero, List.set_cons_succ]
  refine wpAnyH_takeD (i := 20) (some 153) (v := ?vC20) rfl rfl (by kernel_rfl) (by kernel_rfl) (by kernel_rfl) (fun _ _ _ h => h) (Or.inl ⟨by kernel_rfl, ?hyC20⟩) (by assumption) ?restC20
  case hyC20 => (intro x hSx; have hBq := HRd.out x hSx; obtain ⟨q0, q1, q2, q3, q4, q5⟩ := Blk.c6 hBq; clear hBq; (try dsimp only at hSx); go_simp; first | done | with_reducible rfl)
  try simp only [Act.put, List.setIfInBounds_toArray, List.set_cons_zero, List.set_cons_succ]
  refine wpAnyH_ready (rs := [21]) (by kernel_rfl) (by simp) ?_
  refine AllReadyH.cons rfl (fun K hK => ?_) AllReadyH.nil
  go_simp
  go_wp2_with (go_at_call 76; refine (HAb.out _ hHeldC16).mono ?_; rintro e yC21 ⟨rfl, hbyC21⟩)
  subst hbyC21
  refine hK.out _ _ hHeldC16 (fun hHeldC21 => ?_)
  clear hK K
  try simp only [Act.put, List.setIfInBounds_toArray, List.set_cons_zero, List.set_cons_succ]
  refine wpAnyH_takeD (i := 22) (some 155) (v := .bool false) rfl rfl (by kernel_rfl) (by kernel_rfl) (by kernel_rfl) (fun _ _ _ h => h) (Or.inl ⟨by kernel_rfl, ?hyC22⟩) (by assumption) ?restC22
  case hyC22 => (intro x hSx; have hBq := HRd.out x hSx; obtain ⟨q0, q1, q2, q3, q4, q5⟩ := Blk.c6 hBq; clear hBq; (try dsimp only at hSx); go_simp; first | done | rfl | simp)
  try simp only [Act.put, List.setIfInBounds_toArray, List.set_cons_zero, List.set_cons_succ]
  refine wpAnyH_takeD (i := 23) (some 156) (v := ?vC23) rfl rfl (by kernel_rfl) (by kernel_rfl) (by kernel_rfl) (fun _ _ _ h => h) (Or.inl ⟨by kernel_rfl, ?hyC23⟩) (by assumption) ?restC23
  case hyC23 => (intro x hSx; have hBq := HRd.out x hSx; obtain ⟨q0, q1, q2, q3, q4, q5⟩ := Blk.c6 hBq; clear hBq; (try dsimp only at hSx); go_simp; first | done | with_reducible rfl)
  try simp only [Act.put, List.setIfInBounds_toArray, List.set_cons_zero, List.set_cons_succ]
  refine wpAnyH_takeD (i := 24) (some 157) (v := ?vC24) rfl rfl (by kernel_rfl) (by kernel_rfl) (by kernel_rfl) (fun _ _ _ h => h) (Or.inl ⟨by kernel_rfl, ?hyC24⟩) (by assumption) ?restC24
  case hyC24 => (intro x hSx; have hBq := HRd.out x hSx; obtain ⟨q0, q1, q2, q3, q4, q5⟩ := Blk.c6 hBq; clear hBq; (try dsimp only at hSx); go_simp; first | done | with_reducible rfl)
  try simp only [Act.put, List.setIfInBounds_toArray, List.set_cons_zero, List.set_cons_succ]
  refine wpAnyH_takeD (i := 25) (some 158) (v := ?vC25) rfl rfl (by kernel_rfl) (by kernel_rfl) (by kernel_rfl) (fun _ _ _ h => h) (Or.inl ⟨by kernel_rfl, ?hyC25⟩) (by assumption) ?restC25
  case hyC25 => (intro x hSx; have hBq := HRd.out x hSx; obtain ⟨q0, q1, q2, q3, q4, q5⟩ := Blk.c6 hBq; clear hBq; (try dsimp only at hSx); go_simp; first | done | with_reducible rfl)
  try simp only [Act.put, List.setIfInBounds_toArray, List.set_cons_zero, List.set_cons_succ]
  refine wpAnyH_ready (rs := [26]) (by kernel_rfl) (by simp) ?_
  refine AllReadyH.cons rfl (fun K hK => ?_) AllReadyH.nil
  go_simp
  go_wp2_with (go_at_call 77; refine (HKd.out _ hHeldC21).mono ?_; rintro e yC26 ⟨rfl, hbyC26⟩)
  subst hbyC26
  refine hK.out _ _ hHeldC21 (fun hHeldC26 => ?_)
  clear hK K
  try simp only [Act.put, List.setIfInBounds_toArray, List.set_cons_zero, List.set_cons_succ]
  refine wpAnyH_takeD (i := 27) (some 160) (v := .bool false) rfl rfl (by kernel_rfl) (by kernel_rfl) (by kernel_rfl) (fun _ _ _ h => h) (Or.inl ⟨by kernel_rfl, ?hyC27⟩) (by assumption) ?restC27
  case hyC27 => (intro x hSx; have hBq := HRd.out x hSx; obtain ⟨q0, q1, q2, q3, q4, q5⟩ := Blk.c6 hBq; clear hBq; (try dsimp only at hSx); go_simp; first | done | simp)
  try simp only [Act.put, List.setIfInBounds_toArray, List.set_cons_zero, List.set_cons_succ]
  refine wpAnyH_takeD (i := 28) (some 161) (v := ?vC28) rfl rfl (by kernel_rfl) (by kernel_rfl) (by kernel_rfl) (fun _ _ _ h => h) (Or.inl ⟨by kernel_rfl, ?hyC28⟩) (by assumption) ?restC28
  case hyC28 => (intro x hSx; have hBq := HRd.out x hSx; obtain ⟨q0, q1, q2, q3, q4, q5⟩ := Blk.c6 hBq; clear hBq; (try dsimp only at hSx); go_simp; first | done | with_reducible rfl)
  try simp only [Act.put, List.setIfInBounds_toArray, List.set_cons_zero, List.set_cons_succ]
  refine wpAnyH_done (by kernel_rfl) ?_ _
  have HW11 : Hid (Below w9.heap.size w9 w10.drew) := hHeldC26
  generalize w10.drew = w11 at *
  clear HKeepC HLn HAm HAl HAb HKd HW9 m1 m3
  have hd11 : Below w9.heap.size w9 w11 := HW11.out
  go_wp2_with fail
  go_loopw [15] (fun iv wr => ∃ (j : Nat), j ≤ ln ∧ iv = .int .i64 (j : Int) ∧ Below w9.heap.size w9 wr) (fun iv _ => ln - (intOf iv).toNat)
  case atStart => exact ⟨0, Nat.zero_le _, rfl, hd11⟩
  case round =>
    clear hd11 HW11
    obtain ⟨j, hj, rfl, hbr⟩ := hrel
    have hBy := HRd.out wr hbr
    obtain ⟨y0, y1, y2, y3, y4, y5⟩ := hBy.c6
    by_cases hlt : j < ln
    · have tl : decide ((j : Int) < (ln : Int)) = true := decide_eq_true (by omega)
      have tl2 : decide (j < ln) = true := decide_eq_true hlt
      have hji : (j : Int) < (ln : Int) := by omega
      have hjl : j < l.length := by rw [HLN.out]; exact hlt
      obtain ⟨V', h', off, ha5, hc5, hvj⟩ := HIT.out wr hbr j hjl
      obtain ⟨bb, of2, aj, cj, ha, _, hbb, hrow, hinj⟩ := (HP9.out.keep hbr (Nat.le_refl _)).at (p := .mk 7 false false ⟨#[]⟩ ⟨#[]⟩ l) hjl
      simp only [Prt.items] at ha hrow hinj
      subst ha ha5
      have HRJ : Hid (∀ x, Below wr.heap.size wr x → Row6 x bb (of2 + j * 6) l[j] aj cj) := fun x h => hrow.below h (by have := hbr.size; omega)
      have HGJ : Hid (∀ x, Below wr.heap.size wr x → Calls Tryd.prog 76 #[.pointer (some ⟨g, 0, none⟩), .int .i64 (j : Int)] x fun e w' => e = .returned V' ∧ x = w') := fun x h => by
        have h9 := hbr.trans (h.mono hbr.size)
        obtain ⟨V2, h2, of3, e2, hc2, _⟩ := HIT.out x h9 j hjl
        have hlt9 : h' < wr.heap.size := cell_ltV hc5
        exact (at_in g h' off ln c5 j V' x hlt (by omega) (HG5.out x h9) ((h.cell (p := ⟨h', off + j, none⟩) hlt9).trans hc5)).sym'
      have HLK : Hid (∀ x, Below wr.heap.size wr x → Calls Tryd.prog 11 #[V', .agg #[.int .u8 l[j].kind, .bool l[j].yes, .bool l[j].neg, .string l[j].mag, .string l[j].raw, .slice aj l[j].items.length cj]] x fun e w' => e = .returned (.bool true) ∧ Below x.heap.size x w') := fun x h => by
        have hs := hbr.size
        have hs2 := h.size
        exact HIH.out _ (List.getElem_mem hjl) V' aj cj x ((hvj.old h hs).mono (by omega) (Nat.le_refl _)) ((hinj.keep h hs).mono (by omega) (Nat.le_refl _))
      have HRp : Hid (∀ x, Below wr.heap.size wr x → Blk x w.heap.size 27 #[.int .u8 7, .bool false, .bool false, .string ⟨#[]⟩, .string ⟨#[]⟩, .slice (some ⟨bb, of2, none⟩) ln c]) := fun x h => HRd.out x (hbr.trans (h.mono hbr.size))
      generalize l[j] = X at *
      clear hvj hrow hinj hc5 HRd HG5 HIT HIH HP9 HB9
      have HKeepD : Hid (∀ x y, Below wr.heap.size wr x → Below x.heap.size x y → Below wr.heap.size wr y) := fun x y h1 h2 => h1.trans (h2.mono h1.size)
      go_upto_region 24 with fail
      refine wp_region_held_drew (S := fun x => Below wr.heap.size wr x) (by kernel_rfl) ((Below.refl _ _).drew) (fun hHeldD => ?_)
      refine wpAnyH_takeD (i := 0) (some 169) (v := ?vD0) rfl rfl (by kernel_rfl) (by kernel_rfl) (by kernel_rfl) (fun _ _ _ h => h) (Or.inl ⟨by kernel_rfl, ?hyD0⟩) (by assumption) ?restD0
      case hyD0 => (intro x hSx; have hBq := HRp.out x hSx; obtain ⟨q0, q1, q2, q3, q4, q5⟩ := Blk.c6 hBq; clear hBq; obtain ⟨r0, r1, r2, r3, r4, r5⟩ := HRJ.out x hSx; (try dsimp only at hSx); go_simp; first | done | with_reducible rfl)
      try simp only [Act.put, List.setIfInBounds_toArray, List.set_cons_zero, List.set_cons_succ]
      refine wpAnyH_takeD (i := 1) (some 170) (v := ?vD1) rfl rfl (by kernel_rfl) (by kernel_rfl) (by kernel_rfl) (fun _ _ _ h => h) (Or.inl ⟨by kernel_rfl, ?hyD1⟩) (by assumption) ?restD1
      case hyD1 => (intro x hSx; have hBq := HRp.out x hSx; obtain ⟨q0, q1, q2, q3, q4, q5⟩ := Blk.c6 hBq; clear hBq; obtain ⟨r0, r1, r2, r3, r4, r5⟩ := HRJ.out x hSx; (try dsimp only at hSx); go_simp; first | done | with_reducible rfl)
      try simp only [Act.put, List.setIfInBounds_toArray, List.set_cons_zero, List.set_cons_succ]
      refine wpAnyH_takeD (i := 3) (some 172) (v := ?vD3) rfl rfl (by kernel_rfl) (by kernel_rfl) (by kernel_rfl) (fun _ _ _ h => h) (Or.inl ⟨by kernel_rfl, ?hyD3⟩) (by assumption) ?restD3
      case hyD3 => (intro x hSx; have hBq := HRp.out x hSx; obtain ⟨q0, q1, q2, q3, q4, q5⟩ := Blk.c6 hBq; clear hBq; obtain ⟨r0, r1, r2, r3, r4, r5⟩ := HRJ.out x hSx; (try dsimp only at hSx); go_simp; first | done | with_reducible rfl)
      try simp only [Act.put, List.setIfInBounds_toArray, List.set_cons_zero, List.set_cons_succ]
      refine wpAnyH_takeD (i := 4) (some 173) (v := ?vD4) rfl rfl (by kernel_rfl) (by kernel_rfl) (by kernel_rfl) (fun _ _ _ h => h) (Or.inl ⟨by kernel_rfl, ?hyD4⟩) (by assumption) ?restD4
      case hyD4 => (intro x hSx; have hBq := HRp.out x hSx; obtain ⟨q0, q1, q2, q3, q4, q5⟩ := Blk.c6 hBq; clear hBq; obtain ⟨r0, r1, r2, r3, r4, r5⟩ := HRJ.out x hSx; (try dsimp only at hSx); go_simp; first | done | with_reducible rfl)
      try simp only [Act.put, List.setIfInBounds_toArray, List.set_cons_zero, List.set_cons_succ]
      refine wpAnyH_takeD (i := 5) (some 174) (v := ?vD5) rfl rfl (by kernel_rfl) (by kernel_rfl) (by kernel_rfl) (fun _ _ _ h => h) (Or.inl ⟨by kernel_rfl, ?hyD5⟩) (by assumption) ?restD5
      case hyD5 => (intro x hSx; have hBq := HRp.out x hSx; obtain ⟨q0, q1, q2, q3, q4, q5⟩ := Blk.c6 hBq; clear hBq; obtain ⟨r0, r1, r2, r3, r4, r5⟩ := HRJ.out x hSx; (try dsimp only at hSx); go_simp; first | done | with_reducible rfl)
      try simp only [Act.put, List.setIfInBounds_toArray, List.set_cons_zero, List.set_cons_succ]
      refine wpAnyH_takeD (i := 6) (some 175) (v := ?vD6) rfl rfl (by kernel_rfl) (by kernel_rfl) (by kernel_rfl) (fun _ _ _ h => h) (Or.inl ⟨by kernel_rfl, ?hyD6⟩) (by assumption) ?restD6
      case hyD6 => (intro x hSx; have hBq := HRp.out x hSx; obtain ⟨q0, q1, q2, q3, q4, q5⟩ := Blk.c6 hBq; clear hBq; obtain ⟨r0, r1, r2, r3, r4, r5⟩ := HRJ.out x hSx; (try dsimp only at hSx); go_simp; first | done | with_reducible rfl)
      try simp only [Act.put, List.setIfInBounds_toArray, List.set_cons_zero, List.set_cons_succ]
      refine wpAnyH_takeD (i := 7) (some 176) (v := ?vD7) rfl rfl (by kernel_rfl) (by kernel_rfl) (by kernel_rfl) (fun _ _ _ h => h) (Or.inl ⟨by kernel_rfl, ?hyD7⟩) (by assumption) ?restD7
      case hyD7 => (intro x hSx; have hBq := HRp.out x hSx; obtain ⟨q0, q1, q2, q3, q4, q5⟩ := Blk.c6 hBq; clear hBq; obtain ⟨r0, r1, r2, r3, r4, r5⟩ := HRJ.out x hSx; (try dsimp only at hSx); go_simp; first | done | with_reducible rfl)
      try simp only [Act.put, List.setIfInBounds_toArray, List.set_cons_zero, List.set_cons_succ]
      refine wpAnyH_ready (rs := [2]) (by kernel_rfl) (by simp) ?_
      refine AllReadyH.cons rfl (fun K hK => ?_) AllReadyH.nil
      go_simp
      go_wp2_with (go_at_call 76; refine (HGJ.out _ hHeldD).mono ?_; rintro e yD2 ⟨rfl, hbyD2⟩)
      subst hbyD2
      refine hK.out _ _ hHeldD (fun hHeldD2 => ?_)
      clear hK K
      try simp only [Act.put, List.setIfInBounds_toArray, List.set_cons_zero, List.set_cons_succ]
      refine wpAnyH_ready (rs := [8]) (by kernel_rfl) (by simp) ?_
      refine AllReadyH.cons rfl (fun K hK => ?_) AllReadyH.nil
      go_simp
      go_wp2_with (go_at_call 11; refine (HLK.out _ hHeldD2).mono ?_; rintro e yD8 ⟨rfl, hbyD8⟩)
      refine hK.out _ _ (HKeepD.out _ _ hHeldD2 hbyD8) (fun hHeldD8 => ?_)
      clear hK K
      try simp only [Act.put, List.setIfInBounds_toArray, List.set_cons_zero, List.set_cons_succ]
      refine wpAnyH_takeD (i := 9) (some 16) (v := ?vD9) rfl rfl (by kernel_rfl) (by kernel_rfl) (by kernel_rfl) (fun _ _ _ h => h) (Or.inl ⟨by kernel_rfl, ?hyD9⟩) (by assumption) ?restD9
      case hyD9 => (intro x hSx; have hBq := HRp.out x hSx; obtain ⟨q0, q1, q2, q3, q4, q5⟩ := Blk.c6 hBq; clear hBq; obtain ⟨r0, r1, r2, r3, r4, r5⟩ := HRJ.out x hSx; (try dsimp only at hSx); go_simp; first | done | with_reducible rfl)
      try simp only [Act.put, List.setIfInBounds_toArray, List.set_cons_zero, List.set_cons_succ]
      refine wpAnyH_done (by kernel_rfl) ?_ _
      go_wp2_with fail
      go_roundw
      case rel => exact ⟨j + 1, hlt, by simp, hbr.trans (hHeldD8.mono hbr.size)⟩
      case measure => simp only [intOf]; omega
    · have tl : decide ((j : Int) < (ln : Int)) = false := decide_eq_false (by omega)
      have tl2 : decide (j < ln) = false := decide_eq_false hlt
      clear hBy
      go_wp2_with fail
      go_ret
      exact ⟨rfl, hw9.trans (hbr.mono hw9.size)⟩
theorem looks_any : ∀ (p : Prt), may p = true → Fits p → dep p ≤ 1000 → LookOk p := by
  intro p
  induction p using Prt.ind with
  | h k y n m r l ih =>
    intro hm hf hd v a c w hv hp
    have hv0 := hv
    cases hv0 with
    | null => exact look_null hm hf a c w hv hp
    | truth y => exact look_truth y hm hf a c w hv hp
    | num b m => exact look_num n m hm hf a c w hv hp
    | raw k r hk =>
      have hk' : k = 3 ∨ k = 4 ∨ k = 5 ∨ k = 6 := by simpa [isRawK, or_assoc] using hk
      exact look_raw k hk' r hm hf a c w hv hp
    | @tup _ g _ _ V h1 h2 h3 h4 h5 =>
      obtain ⟨hl, hml⟩ := may_tup hm
      have hdl : dep (.mk 7 false false ⟨#[]⟩ ⟨#[]⟩ l) = depL l + 1 := by rw [dep, if_pos rfl]
      exact look_tup l hm hf hd (fun x hx => ih x hx (hml x hx) (hf.mem (p := .mk 7 false false ⟨#[]⟩ ⟨#[]⟩ l) hx) (by have := depL_mem hx; rw [hdl] at hd; omega)) g a c w hv hp
end Go.Proofs.YtedmmifflbnmbaaDoor
