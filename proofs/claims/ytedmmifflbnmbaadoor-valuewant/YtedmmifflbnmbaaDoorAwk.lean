/- What dovetaillaw09.awake does (contracts; nothing is claimed here). -/
import Derived.Test.YtedmmifflbnmbaaDoorAsk
namespace Go.Proofs.YtedmmifflbnmbaaDoor
open Go.RowKit Go.Vf

theorem _root_.Go.Calls.sym' {P : Program} {f : FuncId} {args : Array Value} {w : World} {v : Value} (h : Calls P f args w fun e w' => e = .returned v ∧ w' = w) : Calls P f args w fun e w' => e = .returned v ∧ w = w' := h.mono fun _ _ h => ⟨h.1, h.2.symm⟩
def ab : ByteArray := ⟨#[97, 98]⟩
def a0 : Prt := .mk 1 true false ⟨#[]⟩ ⟨#[]⟩ []
def a1 : Prt := .mk 0 false false ⟨#[]⟩ ⟨#[]⟩ []
def a2 : Prt := .mk 5 false false ⟨#[]⟩ ⟨#[97, 98]⟩ []
def aP : Prt := .mk 7 false false ⟨#[]⟩ ⟨#[]⟩ [a0, a1, a2]
theorem a0_fits : Fits a0 := .mk (by decide) (by decide) (by decide) (by decide) (fun x hx => by simp [a0, Prt.items] at hx)
theorem a1_fits : Fits a1 := .mk (by decide) (by decide) (by decide) (by decide) (fun x hx => by simp [a1, Prt.items] at hx)
theorem a2_fits : Fits a2 := .mk (by decide) (by decide) (by decide) (by decide) (fun x hx => by simp [a2, Prt.items] at hx)
theorem aP_fits : Fits aP := .mk (by decide) (by decide) (by decide) (by decide) (fun x hx => by
  simp [aP, Prt.items] at hx
  rcases hx with rfl | rfl | rfl
  · exact a0_fits
  · exact a1_fits
  · exact a2_fits)
theorem aP_deep : deeper 16 aP = false := by decide
theorem aP_may : may aP = true := by rfl
theorem aP_dep : dep aP = 1 := by rfl

set_option maxHeartbeats 4000000 in
set_option maxRecDepth 20000 in
theorem awake_any (w : World) : Calls Tryd.prog 4 #[] w fun e w' => e = .returned (.bool true) ∧ Below w.heap.size w w' := by
  have hb1 := (Below.refl w.heap.size w).alloc (Nat.le_refl _) (.cells #[.int .u8 1, .bool true, .bool false, .string ⟨#[]⟩, .string ⟨#[]⟩, .slice none 0 0, .int .u8 0, .bool false, .bool false, .string ⟨#[]⟩, .string ⟨#[]⟩, .slice none 0 0, .int .u8 5, .bool false, .bool false, .string ⟨#[]⟩, .string ⟨#[97, 98]⟩, .slice none 0 0] 27)
  have hb2 := hb1.alloc hb1.size (.cells #[.int .u8 7, .bool false, .bool false, .string ⟨#[]⟩, .string ⟨#[]⟩, .slice (some ⟨w.heap.size, 0, none⟩) 3 3] 27)
  have hB1 := Blk.new w 27 #[.int .u8 1, .bool true, .bool false, .string ⟨#[]⟩, .string ⟨#[]⟩, .slice none 0 0, .int .u8 0, .bool false, .bool false, .string ⟨#[]⟩, .string ⟨#[]⟩, .slice none 0 0, .int .u8 5, .bool false, .bool false, .string ⟨#[]⟩, .string ⟨#[97, 98]⟩, .slice none 0 0]
  have hs1 := alloc_size w (.cells #[.int .u8 1, .bool true, .bool false, .string ⟨#[]⟩, .string ⟨#[]⟩, .slice none 0 0, .int .u8 0, .bool false, .bool false, .string ⟨#[]⟩, .string ⟨#[]⟩, .slice none 0 0, .int .u8 5, .bool false, .bool false, .string ⟨#[]⟩, .string ⟨#[97, 98]⟩, .slice none 0 0] 27)
  have hs2 := alloc_size (w.alloc (.cells #[.int .u8 1, .bool true, .bool false, .string ⟨#[]⟩, .string ⟨#[]⟩, .slice none 0 0, .int .u8 0, .bool false, .bool false, .string ⟨#[]⟩, .string ⟨#[]⟩, .slice none 0 0, .int .u8 5, .bool false, .bool false, .string ⟨#[]⟩, .string ⟨#[97, 98]⟩, .slice none 0 0] 27)) (.cells #[.int .u8 7, .bool false, .bool false, .string ⟨#[]⟩, .string ⟨#[]⟩, .slice (some ⟨w.heap.size, 0, none⟩) 3 3] 27)
  have hB2 := Blk.new (w.alloc (.cells #[.int .u8 1, .bool true, .bool false, .string ⟨#[]⟩, .string ⟨#[]⟩, .slice none 0 0, .int .u8 0, .bool false, .bool false, .string ⟨#[]⟩, .string ⟨#[]⟩, .slice none 0 0, .int .u8 5, .bool false, .bool false, .string ⟨#[]⟩, .string ⟨#[97, 98]⟩, .slice none 0 0] 27)) 27 #[.int .u8 7, .bool false, .bool false, .string ⟨#[]⟩, .string ⟨#[]⟩, .slice (some ⟨w.heap.size, 0, none⟩) 3 3]
  have hB1' := hB1.old ((Below.refl _ _).alloc (Nat.le_refl _) (.cells #[.int .u8 7, .bool false, .bool false, .string ⟨#[]⟩, .string ⟨#[]⟩, .slice (some ⟨w.heap.size, 0, none⟩) 3 3] 27))
  rw [hs1] at hB2 hs2
  go_enter Tryd.func4, Tryd.ntmps4
  go_upto_region 2 with fail
  generalize (w.alloc (.cells #[.int .u8 1, .bool true, .bool false, .string ⟨#[]⟩, .string ⟨#[]⟩, .slice none 0 0, .int .u8 0, .bool false, .bool false, .string ⟨#[]⟩, .string ⟨#[]⟩, .slice none 0 0, .int .u8 5, .bool false, .bool false, .string ⟨#[]⟩, .string ⟨#[97, 98]⟩, .slice none 0 0] 27)).alloc (.cells #[.int .u8 7, .bool false, .bool false, .string ⟨#[]⟩, .string ⟨#[]⟩, .slice (some ⟨w.heap.size, 0, none⟩) 3 3] 27) = w2 at hb2 hs2 hB2 hB1' ⊢
  clear hB1 hb1 hs1
  have hin : PIn w2 0 w2.heap.size aP (some ⟨w.heap.size, 0, none⟩) := by
    refine .cons (fun _ => none) (fun _ => 0) (by omega) (by omega) (fun j hj => ?_) (fun j hj => ?_)
    · have : j = 0 ∨ j = 1 ∨ j = 2 := by simp [aP, Prt.items] at hj; omega
      rcases this with rfl | rfl | rfl
      · exact ⟨hB1'.cell 0, hB1'.cell 1, hB1'.cell 2, hB1'.cell 3, hB1'.cell 4, hB1'.cell 5⟩
      · exact ⟨hB1'.cell 6, hB1'.cell 7, hB1'.cell 8, hB1'.cell 9, hB1'.cell 10, hB1'.cell 11⟩
      · exact ⟨hB1'.cell 12, hB1'.cell 13, hB1'.cell 14, hB1'.cell 15, hB1'.cell 16, hB1'.cell 17⟩
    · have : j = 0 ∨ j = 1 ∨ j = 2 := by simp [aP, Prt.items] at hj; omega
      rcases this with rfl | rfl | rfl <;> exact .nil rfl
  have hcall := make_any aP aP_fits (some ⟨w.heap.size, 0, none⟩) 3 0 w2.heap.size w2 (Nat.le_refl _) hin
  have hpv : pV aP (some ⟨w.heap.size, 0, none⟩) 3 = .agg #[.int .u8 7, .bool false, .bool false, .string ⟨#[]⟩, .string ⟨#[]⟩, .slice (some ⟨w.heap.size, 0, none⟩) 3 3] := rfl
  rw [hpv] at hcall
  obtain ⟨c0, c1, c2, c3, c4, c5⟩ := hB2.c6
  clear hin hB1' hB2 hpv
  go_wp2_with fail
  refine hcall.mono ?_
  rintro e w3 ⟨hb3, h | h | h⟩
  · have := aP_deep; rw [h.1] at this; cases this
  · have := aP_may; rw [h.2.1] at this; cases this
  obtain ⟨_, _, v, rfl, hv⟩ := h
  have hdep : ∀ w5, Below w3.heap.size w3 w5 → Calls Tryd.prog 14 #[v] w5 (fun e w' => e = .returned (.int .i64 1) ∧ w5 = w') := fun w5 hb => (Depth_any v aP _ _ w5 (hv.old hb (Nat.le_refl _))).sym'
  have hbw : Below w.heap.size w w3 := hb2.trans (hb3.mono hb2.size)
  generalize hP : aP = P at hv
  cases hv with
  | null => simp [aP] at hP
  | truth => simp [aP] at hP
  | num => simp [aP] at hP
  | raw k r hk => simp only [aP, Prt.mk.injEq] at hP; obtain ⟨e, _⟩ := hP; subst e; simp [isRawK] at hk
  | @tup l g c a V h1 h2 h3 h4 h5 =>
    simp only [aP, Prt.mk.injEq, true_and] at hP
    subst hP
    have v0 := h5 0 (by decide)
    have v1 := h5 1 (by decide)
    have v2 := h5 2 (by decide)
    obtain ⟨h, off, ha, _, _, q0⟩ := h4 0 (by decide)
    obtain ⟨h', off', ha', _, _, q1⟩ := h4 1 (by decide)
    obtain ⟨h'', off'', ha'', _, _, q2⟩ := h4 2 (by decide)
    rw [ha] at ha' ha''
    simp only [Option.some.injEq, Addr.mk.injEq, and_true] at ha' ha''
    obtain ⟨rfl, rfl⟩ := ha'
    obtain ⟨rfl, rfl⟩ := ha''
    subst ha
    have hc0 : w3.cell? ⟨g, 0, none⟩ = some (.slice (some ⟨h, off, none⟩) 3 c) := h3.cell 0
    simp only [List.getElem_cons_zero, List.getElem_cons_succ] at v0 v1 v2
    have e0 : V 0 = .iface 84 (.agg #[.bool true]) := by
      generalize hq : V 0 = u at v0
      generalize hp : a0 = p at v0
      cases v0 with
      | truth y => simp only [a0, Prt.mk.injEq] at hp; simp [← hp.2.1]
      | raw k r hk => simp only [a0, Prt.mk.injEq] at hp; obtain ⟨e, _⟩ := hp; subst e; simp [isRawK] at hk
      | null => simp [a0] at hp
      | num => simp [a0] at hp
      | tup => simp [a0] at hp
    have e1 : V 1 = .nilIface := by
      generalize hq : V 1 = u at v1
      generalize hp : a1 = p at v1
      cases v1 with
      | null => rfl
      | raw k r hk => simp only [a1, Prt.mk.injEq] at hp; obtain ⟨e, _⟩ := hp; subst e; simp [isRawK] at hk
      | truth y => simp [a1] at hp
      | num => simp [a1] at hp
      | tup => simp [a1] at hp
    have e2 : V 2 = .iface 91 (.agg #[.int .u8 5, .string ⟨#[97, 98]⟩]) := by
      generalize hq : V 2 = u at v2
      generalize hp : a2 = p at v2
      cases v2 with
      | raw k r hk => simp only [a2, Prt.mk.injEq] at hp; obtain ⟨e, _, _, _, e2, _⟩ := hp; subst e e2; rfl
      | null => simp [a2] at hp
      | truth y => simp [a2] at hp
      | num => simp [a2] at hp
      | tup => simp [a2] at hp
    rw [e0] at q0
    rw [e1] at q1
    rw [e2] at q2
    clear h3 h4 h5 v0 v1 v2 e0 e1 e2 hcall c0 c1 c2 c3 c4 c5
    have hl := (asList_tup ⟨g, 0, none⟩ w3).sym'
    have m1 := mLen ⟨g, 0, none⟩
    have m2 := mAt ⟨g, 0, none⟩
    have m3 := mBytes 5 ⟨#[97, 98]⟩
    have m4 := mPart_81 true
    have n1 : Calls Tryd.prog 78 #[.pointer (some ⟨g, 0, none⟩)] w3 (fun e w' => e = .returned (.int .i64 3) ∧ w3 = w') := (len_any g (some ⟨h, off, none⟩) 3 c w3 hc0 (by omega)).sym'
    have n2 : Calls Tryd.prog 76 #[.pointer (some ⟨g, 0, none⟩), .int .i64 0] w3 (fun e w' => e = .returned (.iface 84 (.agg #[.bool true])) ∧ w3 = w') := (at_in g h off 3 c 0 _ w3 (by omega) (by omega) hc0 q0).sym'
    have n3 : Calls Tryd.prog 76 #[.pointer (some ⟨g, 0, none⟩), .int .i64 1] w3 (fun e w' => e = .returned .nilIface ∧ w3 = w') := (at_in g h off 3 c 1 _ w3 (by omega) (by omega) hc0 q1).sym'
    have n4 : Calls Tryd.prog 76 #[.pointer (some ⟨g, 0, none⟩), .int .i64 2] w3 (fun e w' => e = .returned (.iface 91 (.agg #[.int .u8 5, .string ⟨#[97, 98]⟩])) ∧ w3 = w') := (at_in g h off 3 c 2 _ w3 (by omega) (by omega) hc0 q2).sym'
    have n5 := (asRaw_raw 5 ⟨#[97, 98]⟩ w3).sym'
    have n6 := bytes_any 5 ⟨#[97, 98]⟩ w3
    have n7 : ∀ w4, Below w3.heap.size w3 w4 → Calls Tryd.prog 76 #[.pointer (some ⟨g, 0, none⟩), .int .i64 0] w4 (fun e w' => e = .returned (.iface 84 (.agg #[.bool true])) ∧ w4 = w') := fun w4 hb4 =>
      (at_in g h off 3 c 0 _ w4 (by omega) (by omega) ((cell_block (hb4.block g h2) 0).trans hc0) ((cell_block (hb4.block h (by omega)) _).trans q0)).sym'
    have n8 := truthPart_any true
    unfold pV at n8
    simp only [Prt.kind, Prt.yes, Prt.neg, Prt.mag, Prt.raw, Prt.items] at n8
    clear hc0 q0 q1 q2
    go_wp2_with fail
    refine hl.mono ?_
    rintro _ _ ⟨rfl, rfl⟩
    go_wp2_with fail
    refine n1.mono ?_
    rintro _ _ ⟨rfl, rfl⟩
    go_wp2_with fail
    refine n3.mono ?_
    rintro _ _ ⟨rfl, rfl⟩
    go_wp2_with fail
    refine n2.mono ?_
    rintro _ _ ⟨rfl, rfl⟩
    go_wp2_with fail
    refine n4.mono ?_
    rintro _ _ ⟨rfl, rfl⟩
    go_wp2_with fail
    refine n4.mono ?_
    rintro _ _ ⟨rfl, rfl⟩
    go_wp2_with fail
    refine n5.mono ?_
    rintro _ _ ⟨rfl, rfl⟩
    go_wp2_with fail
    refine n6.mono ?_
    rintro _ w4 ⟨rfl, hb4⟩
    have n7' := n7 w4 hb4
    go_wp2_with fail
    refine n7'.mono ?_
    rintro _ _ ⟨rfl, rfl⟩
    go_wp2_with fail
    refine (n8 _).mono ?_
    rintro _ w5 ⟨cc, rfl, hb5⟩
    have hfld : ∀ w : World, (Instr.field 27 (.agg #[.int .u8 1, .bool true, .bool false, .string ⟨#[]⟩, .string ⟨#[]⟩, .slice none 0 cc]) 1).run Tryd.prog w = .ok (.bool true) w := fun w => by kernel_rfl
    have hd5 := hdep w5 (hb4.trans (hb5.mono hb4.size))
    go_wp2_with fail
    refine hd5.mono ?_
    rintro _ _ ⟨rfl, rfl⟩
    go_wp2_with fail
    go_ret
    exact ⟨rfl, hbw.trans ((hb4.mono hbw.size).trans (hb5.mono (Nat.le_trans hbw.size hb4.size)))⟩
end Go.Proofs.YtedmmifflbnmbaaDoor
