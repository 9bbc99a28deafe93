/- Contracts and lemmas (nothing is claimed here). -/
import Derived.Test.YtkjoomdglealmaaGreatDoorJ25
import Derived.Test.YtkjoomdglealmaaGreatDoorJ13
namespace Go.Proofs.YtkjoomdglealmaaGreatDoor
open Go.RowKit Go.Vf
def KeptOkF (l : List Fld) : Prop := ∀ (g : Nat) (a2 : Option Addr) (c2 lo n n2 : Nat) (w : World), n ≤ w.heap.size → n2 ≤ w.heap.size → LIf w lo n l g → FIn w 0 n2 l a2 → Calls Tryz.prog 16 #[.slice (some ⟨g, 0, none⟩) l.length (l.length + 2), .slice a2 l.length c2] w fun e w' => e = .returned (.bool true) ∧ Below w.heap.size w w'
theorem LIf.old {w w' : World} {lo n k : Nat} {l : List Fld} {b : Nat} (h : LIf w lo n l b) (hb : Below k w w') (hn : n ≤ k) : LIf w' lo n l b := h.keep fun x _ q => hb.block x (by omega)
theorem LIf.item {w : World} {lo n g : Nat} {l : List Fld} (h : LIf w lo n l g) {j : Nat} (hj : j < l.length) : g < n ∧ ∃ gj, RowF w g (j * 14) l[j].own (some ⟨gj, 0, none⟩) l[j].fields.length (l[j].fields.length + 2) ∧ LIf w lo n l[j].fields gj := by
  cases h with
  | row G h1 h2 h3 h4 h5 => exact ⟨h2, G j, h4 j hj, h5 j hj⟩
theorem LIf.mark {w : World} {lo n g : Nat} {l : List Fld} (h : LIf w lo n l g) {j : Nat} (h1 : l.length ≤ j) (h2 : j < l.length + 2) : w.cell? ⟨g, j * 14, none⟩ = some (.string ⟨#[109, 97, 114, 107]⟩) ∧ w.cell? ⟨g, j * 14 + 1, none⟩ = some (.int .u8 99) := by
  cases h with
  | row G _ _ h3 _ _ => exact h3 j h1 h2
set_option maxHeartbeats 16000000 in
set_option maxRecDepth 20000 in
theorem keptF_step (l : List Fld) (hl : l.length ≤ 67108864) (ih : ∀ x ∈ l, KeptOkF x.fields) : KeptOkF l := by
  intro g a2 c2 lo n n2 w hn hn2 hlin hin
  obtain ⟨ln, hln⟩ : ∃ ln, l.length = ln := ⟨_, rfl⟩
  have HLN : Hid (l.length = ln) := hln
  rw [hln] at hl ⊢
  clear hln
  have HIN : Hid (∀ w1, Below w.heap.size w w1 → FIn w1 0 n2 l a2) := fun w1 h => hin.keep h hn2
  have HLI : Hid (∀ w1, Below w.heap.size w w1 → LIf w1 lo n l g) := fun w1 h => hlin.old h hn
  have t0 : ((ln : Int) != (ln : Int)) = false := by simp
  have hb0 := Below.refl w.heap.size w
  clear hlin hin
  go_enter Tryz.func16, Tryz.ntmps16
  go_wp2_with fail
  go_loopw [5] (fun iv wr => ∃ (j : Nat), j ≤ ln ∧ iv = .int .i64 (j : Int) ∧ Below w.heap.size w wr) (fun iv _ => ln - (intOf iv).toNat)
  case atStart => exact ⟨0, Nat.zero_le _, rfl, hb0⟩
  case round =>
    clear hb0
    obtain ⟨j, hj, rfl, hb⟩ := hrel
    have hsz := hb.size
    by_cases hlt : j < ln
    · have tl : decide ((j : Int) < (ln : Int)) = true := decide_eq_true (by omega)
      have tl2 : decide (j < ln) = true := decide_eq_true hlt
      have hji : (j : Int) < (ln : Int) := by omega
      have hjl : j < l.length := by rw [HLN.out]; exact hlt
      obtain ⟨hgn, gj, hrow, hlj⟩ := (HLI.out wr hb).item hjl
      obtain ⟨bb, off, aj, cj, ha, _, hbb, hrow2, hinj⟩ := (HIN.out wr hb).at hjl
      subst ha
      obtain ⟨x, hx⟩ : ∃ x, l[j] = x := ⟨_, rfl⟩
      have HA : Hid (KeptOkF x.fields) := by have := ih l[j] (List.getElem_mem hjl); rw [hx] at this; exact this
      rw [hx] at hrow hrow2 hlj hinj
      have HI : Hid (FIn wr 0 n2 x.fields aj) := hinj
      have HL : Hid (LIf wr lo n x.fields gj) := hlj
      have HR1 : Hid (RowF wr g (j * 14) x.own (some ⟨gj, 0, none⟩) x.fields.length (x.fields.length + 2)) := hrow
      have HR2 : Hid (RowF wr bb (off + j * 14) x.own aj x.fields.length cj) := hrow2
      obtain ⟨r0, r1, r2, r3, r4, r5, r6, r7, r8, r9, r10, r11, r12, r13⟩ := hrow
      clear hx ih hinj hlj hrow2
      have hA1 := Blk.new wr 57 #[.string x.own.name, .int .u8 x.own.kind, .bool x.own.down, .int .u8 x.own.nulls, .bool x.own.bnd, .bool x.own.ln, .string x.own.lm, .bool x.own.hn, .string x.own.hm, .int .i64 x.own.most, .int .i64 x.own.str, .bool x.own.shf, .bool x.own.bck, .slice (some ⟨gj, 0, none⟩) x.fields.length (x.fields.length + 2)]
      have hq1 := (Below.refl wr.heap.size wr).alloc (Nat.le_refl _) (.cells #[.string x.own.name, .int .u8 x.own.kind, .bool x.own.down, .int .u8 x.own.nulls, .bool x.own.bnd, .bool x.own.ln, .string x.own.lm, .bool x.own.hn, .string x.own.hm, .int .i64 x.own.most, .int .i64 x.own.str, .bool x.own.shf, .bool x.own.bck, .slice (some ⟨gj, 0, none⟩) x.fields.length (x.fields.length + 2)] 57)
      have hs1 := alloc_size wr (.cells #[.string x.own.name, .int .u8 x.own.kind, .bool x.own.down, .int .u8 x.own.nulls, .bool x.own.bnd, .bool x.own.ln, .string x.own.lm, .bool x.own.hn, .string x.own.hm, .int .i64 x.own.most, .int .i64 x.own.str, .bool x.own.shf, .bool x.own.bck, .slice (some ⟨gj, 0, none⟩) x.fields.length (x.fields.length + 2)] 57)
      go_upto_region 7 with fail
      generalize wr.alloc (.cells #[.string x.own.name, .int .u8 x.own.kind, .bool x.own.down, .int .u8 x.own.nulls, .bool x.own.bnd, .bool x.own.ln, .string x.own.lm, .bool x.own.hn, .string x.own.hm, .int .i64 x.own.most, .int .i64 x.own.str, .bool x.own.shf, .bool x.own.bck, .slice (some ⟨gj, 0, none⟩) x.fields.length (x.fields.length + 2)] 57) = w1 at *
      clear r0 r1 r2 r3 r4 r5 r6 r7 r8 r9 r10 r11 r12 r13
      obtain ⟨s0, s1, s2, s3, s4, s5, s6, s7, s8, s9, s10, s11, s12, s13⟩ := HR2.out.below hq1 (by omega)
      have hB2 := Blk.new w1 57 #[.string x.own.name, .int .u8 x.own.kind, .bool x.own.down, .int .u8 x.own.nulls, .bool x.own.bnd, .bool x.own.ln, .string x.own.lm, .bool x.own.hn, .string x.own.hm, .int .i64 x.own.most, .int .i64 x.own.str, .bool x.own.shf, .bool x.own.bck, .slice aj x.fields.length cj]
      have hq2 := (Below.refl w1.heap.size w1).alloc (Nat.le_refl _) (.cells #[.string x.own.name, .int .u8 x.own.kind, .bool x.own.down, .int .u8 x.own.nulls, .bool x.own.bnd, .bool x.own.ln, .string x.own.lm, .bool x.own.hn, .string x.own.hm, .int .i64 x.own.most, .int .i64 x.own.str, .bool x.own.shf, .bool x.own.bck, .slice aj x.fields.length cj] 57)
      have hs2 := alloc_size w1 (.cells #[.string x.own.name, .int .u8 x.own.kind, .bool x.own.down, .int .u8 x.own.nulls, .bool x.own.bnd, .bool x.own.ln, .string x.own.lm, .bool x.own.hn, .string x.own.hm, .int .i64 x.own.most, .int .i64 x.own.str, .bool x.own.shf, .bool x.own.bck, .slice aj x.fields.length cj] 57)
      have hA2 := hA1.old hq2
      rw [hs1] at hB2 hs2
      have hq12 := hq1.trans (hq2.mono (by omega))
      go_upto_region 8 with fail
      generalize w1.alloc (.cells #[.string x.own.name, .int .u8 x.own.kind, .bool x.own.down, .int .u8 x.own.nulls, .bool x.own.bnd, .bool x.own.ln, .string x.own.lm, .bool x.own.hn, .string x.own.hm, .int .i64 x.own.most, .int .i64 x.own.str, .bool x.own.shf, .bool x.own.bck, .slice aj x.fields.length cj] 57) = w2 at *
      clear s0 s1 s2 s3 s4 s5 s6 s7 s8 s9 s10 s11 s12 s13 hA1 hq1 hq2 hs1
      have ca : w2.cell? ⟨wr.heap.size, 13, none⟩ = some (.slice (some ⟨gj, 0, none⟩) x.fields.length (x.fields.length + 2)) := hA2.cell 13
      have fa : w2.frozen? ⟨wr.heap.size, 13, none⟩ = false := hA2.frozen 13
      have hA3 := hA2.set 13 (.slice none 0 0)
      have hB3 := hB2.other (p := ⟨wr.heap.size, 13, none⟩) (by show wr.heap.size + 1 ≠ wr.heap.size; omega) (.slice none 0 0)
      have hq3 := hq12.setCell (p := ⟨wr.heap.size, 13, none⟩) (Nat.le_refl _) (.slice none 0 0)
      have hs3 : (w2.setCell ⟨wr.heap.size, 13, none⟩ (.slice none 0 0)).heap.size = wr.heap.size + 1 + 1 := by simp [World.setCell, hs2]
      go_upto_region 9 with fail
      generalize w2.setCell ⟨wr.heap.size, 13, none⟩ (.slice none 0 0) = w3 at *
      clear ca fa hA2 hB2 hs2 hq12
      have cb : w3.cell? ⟨wr.heap.size + 1, 13, none⟩ = some (.slice aj x.fields.length cj) := hB3.cell 13
      have fb : w3.frozen? ⟨wr.heap.size + 1, 13, none⟩ = false := hB3.frozen 13
      have hB4 := hB3.set 13 (.slice none 0 0)
      have hA4 := hA3.other (p := ⟨wr.heap.size + 1, 13, none⟩) (by show wr.heap.size ≠ wr.heap.size + 1; omega) (.slice none 0 0)
      have hq4 := hq3.setCell (p := ⟨wr.heap.size + 1, 13, none⟩) (by show wr.heap.size ≤ wr.heap.size + 1; omega) (.slice none 0 0)
      have hs4 : (w3.setCell ⟨wr.heap.size + 1, 13, none⟩ (.slice none 0 0)).heap.size = wr.heap.size + 1 + 1 := by simp [World.setCell, hs3]
      go_upto_region 10 with fail
      generalize w3.setCell ⟨wr.heap.size + 1, 13, none⟩ (.slice none 0 0) = w4 at *
      clear cb fb hA3 hB3 hs3 hq3
      have HA5 : Hid (Blk w4 wr.heap.size 57 #[.string x.own.name, .int .u8 x.own.kind, .bool x.own.down, .int .u8 x.own.nulls, .bool x.own.bnd, .bool x.own.ln, .string x.own.lm, .bool x.own.hn, .string x.own.hm, .int .i64 x.own.most, .int .i64 x.own.str, .bool x.own.shf, .bool x.own.bck, .slice none 0 0]) := by
        have := hA4
        show Blk _ _ _ _
        simpa using this
      have HB5 : Hid (Blk w4 (wr.heap.size + 1) 57 #[.string x.own.name, .int .u8 x.own.kind, .bool x.own.down, .int .u8 x.own.nulls, .bool x.own.bnd, .bool x.own.ln, .string x.own.lm, .bool x.own.hn, .string x.own.hm, .int .i64 x.own.most, .int .i64 x.own.str, .bool x.own.shf, .bool x.own.bck, .slice none 0 0]) := by
        have := hB4
        show Blk _ _ _ _
        simpa using this
      have HC1 : Hid (∀ zz, Calls Tryz.prog 47 #[.agg #[.string x.own.name, .int .u8 x.own.kind, .bool x.own.down, .int .u8 x.own.nulls, .bool x.own.bnd, .bool x.own.ln, .string x.own.lm, .bool x.own.hn, .string x.own.hm, .int .i64 x.own.most, .int .i64 x.own.str, .bool x.own.shf, .bool x.own.bck, .slice none 0 0], .agg #[.string x.own.name, .int .u8 x.own.kind, .bool x.own.down, .int .u8 x.own.nulls, .bool x.own.bnd, .bool x.own.ln, .string x.own.lm, .bool x.own.hn, .string x.own.hm, .int .i64 x.own.most, .int .i64 x.own.str, .bool x.own.shf, .bool x.own.bck, .slice none 0 0]] zz fun e w' => e = .returned (.bool true) ∧ Below zz.heap.size zz w') := fun zz => sameField_nil x.own zz
      have HC2 : Hid (∀ zz, Below w4.heap.size w4 zz → Calls Tryz.prog 16 #[.slice (some ⟨gj, 0, none⟩) x.fields.length (x.fields.length + 2), .slice aj x.fields.length cj] zz fun e w' => e = .returned (.bool true) ∧ Below zz.heap.size zz w') := fun zz h => by
        have hz := h.size
        have hq := hq4.trans (h.mono (by omega))
        exact HA.out gj aj cj lo n n2 zz (by omega) (by omega) (HL.out.old hq (by omega)) (HI.out.keep hq (by omega))
      have HG : Hid (∀ zz, Below w4.heap.size w4 zz → zz.cell? ⟨g, j * 14 + 13, none⟩ = some (.slice (some ⟨gj, 0, none⟩) x.fields.length (x.fields.length + 2)) ∧ zz.cell? ⟨bb, off + j * 14 + 13, none⟩ = some (.slice aj x.fields.length cj)) := fun zz h => by
        have hq := hq4.trans (h.mono (by omega))
        exact ⟨(HR1.out.below hq (by omega)).c13, (HR2.out.below hq (by omega)).c13⟩
      have HKP : Hid (∀ p q, Below w4.heap.size w4 p → Below p.heap.size p q → Below w4.heap.size w4 q) := fun p q h1 h2 => h1.trans (h2.mono h1.size)
      clear hA4 hB4 HA HL HI HR1 HR2 HIN HLI
      refine wp_region_held_drew (S := fun zz => Below w4.heap.size w4 zz) (by kernel_rfl) ((Below.refl _ _).drew) (fun hHeld => ?_)
      refine wpAnyH_takeD (i := 0) (some 31) (v := .agg #[.string x.own.name, .int .u8 x.own.kind, .bool x.own.down, .int .u8 x.own.nulls, .bool x.own.bnd, .bool x.own.ln, .string x.own.lm, .bool x.own.hn, .string x.own.hm, .int .i64 x.own.most, .int .i64 x.own.str, .bool x.own.shf, .bool x.own.bck, .slice none 0 0]) rfl rfl (by kernel_rfl) (by kernel_rfl) (by kernel_rfl) (fun _ _ _ h => h) (Or.inl ⟨by kernel_rfl, ?hy0⟩) (by assumption) ?rest0
      case hy0 => (intro zz hSx; obtain ⟨q0, q1, q2, q3, q4, q5, q6, q7, q8, q9, q10, q11, q12, q13⟩ := Blk.c14 (HA5.out.old hSx); (try dsimp only at hSx); go_simp; first | done | with_reducible rfl)
      try simp only [Act.put, List.setIfInBounds_toArray, List.set_cons_zero, List.set_cons_succ]
      refine wpAnyH_takeD (i := 1) (some 32) (v := .agg #[.string x.own.name, .int .u8 x.own.kind, .bool x.own.down, .int .u8 x.own.nulls, .bool x.own.bnd, .bool x.own.ln, .string x.own.lm, .bool x.own.hn, .string x.own.hm, .int .i64 x.own.most, .int .i64 x.own.str, .bool x.own.shf, .bool x.own.bck, .slice none 0 0]) rfl rfl (by kernel_rfl) (by kernel_rfl) (by kernel_rfl) (fun _ _ _ h => h) (Or.inl ⟨by kernel_rfl, ?hy1⟩) (by assumption) ?rest1
      case hy1 => (intro zz hSx; obtain ⟨q0, q1, q2, q3, q4, q5, q6, q7, q8, q9, q10, q11, q12, q13⟩ := Blk.c14 (HB5.out.old hSx); (try dsimp only at hSx); go_simp; first | done | with_reducible rfl)
      try simp only [Act.put, List.setIfInBounds_toArray, List.set_cons_zero, List.set_cons_succ]
      refine wpAnyH_ready (rs := [2]) (by kernel_rfl) (by simp) ?_
      refine AllReadyH.cons rfl (fun K hK => ?_) AllReadyH.nil
      go_simp
      go_wp2_with (go_at_call 47; refine (HC1.out _).mono ?_; rintro _ y2 ⟨rfl, hby2⟩)
      refine hK.out _ _ (HKP.out _ _ hHeld hby2) (fun hHeld2 => ?_)
      clear hK K
      try simp only [Act.put, List.setIfInBounds_toArray, List.set_cons_zero, List.set_cons_succ]
      refine wpAnyH_takeD (i := 3) (some 34) (v := .bool false) rfl rfl (by kernel_rfl) (by kernel_rfl) (by kernel_rfl) (fun _ _ _ h => h) (Or.inl ⟨by kernel_rfl, ?hy3⟩) (by assumption) ?rest3
      case hy3 => (intro zz hSx; (try dsimp only at hSx); go_simp; first | done | with_reducible rfl)
      try simp only [Act.put, List.setIfInBounds_toArray, List.set_cons_zero, List.set_cons_succ]
      refine wpAnyH_takeD (i := 4) (some 35) (v := .bool false) rfl rfl (by kernel_rfl) (by kernel_rfl) (by kernel_rfl) (fun _ _ _ h => h) (Or.inl ⟨by kernel_rfl, ?hy4⟩) (by assumption) ?rest4
      case hy4 => (intro zz hSx; (try dsimp only at hSx); go_simp; first | done | with_reducible rfl)
      try simp only [Act.put, List.setIfInBounds_toArray, List.set_cons_zero, List.set_cons_succ]
      refine wpAnyH_takeD (i := 5) (some 36) (v := .slice (some ⟨g, 0, none⟩) ln (ln + 2)) rfl rfl (by kernel_rfl) (by kernel_rfl) (by kernel_rfl) (fun _ _ _ h => h) (Or.inl ⟨by kernel_rfl, ?hy5⟩) (by assumption) ?rest5
      case hy5 => (intro zz hSx; (try dsimp only at hSx); go_simp; first | done | with_reducible rfl)
      try simp only [Act.put, List.setIfInBounds_toArray, List.set_cons_zero, List.set_cons_succ]
      refine wpAnyH_takeD (i := 6) (some 37) (v := .int .i64 (j : Int)) rfl rfl (by kernel_rfl) (by kernel_rfl) (by kernel_rfl) (fun _ _ _ h => h) (Or.inl ⟨by kernel_rfl, ?hy6⟩) (by assumption) ?rest6
      case hy6 => (intro zz hSx; (try dsimp only at hSx); go_simp; first | done | with_reducible rfl)
      try simp only [Act.put, List.setIfInBounds_toArray, List.set_cons_zero, List.set_cons_succ]
      refine wpAnyH_takeD (i := 7) (some 38) (v := .pointer (some ⟨g, j * 14, none⟩)) rfl rfl (by kernel_rfl) (by kernel_rfl) (by kernel_rfl) (fun _ _ _ h => h) (Or.inl ⟨by kernel_rfl, ?hy7⟩) (by assumption) ?rest7
      case hy7 => (intro zz hSx; (try dsimp only at hSx); go_simp; first | done | with_reducible rfl)
      try simp only [Act.put, List.setIfInBounds_toArray, List.set_cons_zero, List.set_cons_succ]
      refine wpAnyH_takeD (i := 8) (some 39) (v := .pointer (some ⟨g, j * 14 + 13, none⟩)) rfl rfl (by kernel_rfl) (by kernel_rfl) (by kernel_rfl) (fun _ _ _ h => h) (Or.inl ⟨by kernel_rfl, ?hy8⟩) (by assumption) ?rest8
      case hy8 => (intro zz hSx; (try dsimp only at hSx); go_simp; first | done | with_reducible rfl)
      try simp only [Act.put, List.setIfInBounds_toArray, List.set_cons_zero, List.set_cons_succ]
      refine wpAnyH_takeD (i := 9) (some 40) (v := .slice (some ⟨gj, 0, none⟩) x.fields.length (x.fields.length + 2)) rfl rfl (by kernel_rfl) (by kernel_rfl) (by kernel_rfl) (fun _ _ _ h => h) (Or.inl ⟨by kernel_rfl, ?hy9⟩) (by assumption) ?rest9
      case hy9 => (intro zz hSx; obtain ⟨q0, q1⟩ := HG.out zz hSx; (try dsimp only at hSx); go_simp; first | done | with_reducible rfl)
      try simp only [Act.put, List.setIfInBounds_toArray, List.set_cons_zero, List.set_cons_succ]
      refine wpAnyH_takeD (i := 10) (some 41) (v := .slice (some ⟨bb, off, none⟩) ln c2) rfl rfl (by kernel_rfl) (by kernel_rfl) (by kernel_rfl) (fun _ _ _ h => h) (Or.inl ⟨by kernel_rfl, ?hy10⟩) (by assumption) ?rest10
      case hy10 => (intro zz hSx; (try dsimp only at hSx); go_simp; first | done | with_reducible rfl)
      try simp only [Act.put, List.setIfInBounds_toArray, List.set_cons_zero, List.set_cons_succ]
      refine wpAnyH_takeD (i := 11) (some 42) (v := .int .i64 (j : Int)) rfl rfl (by kernel_rfl) (by kernel_rfl) (by kernel_rfl) (fun _ _ _ h => h) (Or.inl ⟨by kernel_rfl, ?hy11⟩) (by assumption) ?rest11
      case hy11 => (intro zz hSx; (try dsimp only at hSx); go_simp; first | done | with_reducible rfl)
      try simp only [Act.put, List.setIfInBounds_toArray, List.set_cons_zero, List.set_cons_succ]
      refine wpAnyH_takeD (i := 12) (some 43) (v := .pointer (some ⟨bb, off + j * 14, none⟩)) rfl rfl (by kernel_rfl) (by kernel_rfl) (by kernel_rfl) (fun _ _ _ h => h) (Or.inl ⟨by kernel_rfl, ?hy12⟩) (by assumption) ?rest12
      case hy12 => (intro zz hSx; (try dsimp only at hSx); go_simp; first | done | with_reducible rfl)
      try simp only [Act.put, List.setIfInBounds_toArray, List.set_cons_zero, List.set_cons_succ]
      refine wpAnyH_takeD (i := 13) (some 44) (v := .pointer (some ⟨bb, off + j * 14 + 13, none⟩)) rfl rfl (by kernel_rfl) (by kernel_rfl) (by kernel_rfl) (fun _ _ _ h => h) (Or.inl ⟨by kernel_rfl, ?hy13⟩) (by assumption) ?rest13
      case hy13 => (intro zz hSx; (try dsimp only at hSx); go_simp; first | done | with_reducible rfl)
      try simp only [Act.put, List.setIfInBounds_toArray, List.set_cons_zero, List.set_cons_succ]
      refine wpAnyH_takeD (i := 14) (some 45) (v := .slice aj x.fields.length cj) rfl rfl (by kernel_rfl) (by kernel_rfl) (by kernel_rfl) (fun _ _ _ h => h) (Or.inl ⟨by kernel_rfl, ?hy14⟩) (by assumption) ?rest14
      case hy14 => (intro zz hSx; obtain ⟨q0, q1⟩ := HG.out zz hSx; (try dsimp only at hSx); go_simp; first | done | with_reducible rfl)
      try simp only [Act.put, List.setIfInBounds_toArray, List.set_cons_zero, List.set_cons_succ]
      refine wpAnyH_ready (rs := [15]) (by kernel_rfl) (by simp) ?_
      refine AllReadyH.cons rfl (fun K hK => ?_) AllReadyH.nil
      go_simp
      go_wp2_with (go_at_call 16; refine (HC2.out _ hHeld2).mono ?_; rintro _ y15 ⟨rfl, hby15⟩)
      refine hK.out _ _ (HKP.out _ _ hHeld2 hby15) (fun hHeld15 => ?_)
      clear hK K
      try simp only [Act.put, List.setIfInBounds_toArray, List.set_cons_zero, List.set_cons_succ]
      refine wpAnyH_takeD (i := 16) (some 47) (v := .bool false) rfl rfl (by kernel_rfl) (by kernel_rfl) (by kernel_rfl) (fun _ _ _ h => h) (Or.inl ⟨by kernel_rfl, ?hy16⟩) (by assumption) ?rest16
      case hy16 => (intro zz hSx; (try dsimp only at hSx); go_simp; first | done | with_reducible rfl)
      try simp only [Act.put, List.setIfInBounds_toArray, List.set_cons_zero, List.set_cons_succ]
      refine wpAnyH_takeD (i := 17) (some 48) (v := .bool false) rfl rfl (by kernel_rfl) (by kernel_rfl) (by kernel_rfl) (fun _ _ _ h => h) (Or.inl ⟨by kernel_rfl, ?hy17⟩) (by assumption) ?rest17
      case hy17 => (intro zz hSx; (try dsimp only at hSx); go_simp; first | done | with_reducible rfl)
      try simp only [Act.put, List.setIfInBounds_toArray, List.set_cons_zero, List.set_cons_succ]
      refine wpAnyH_done (by kernel_rfl) ?_ _
      have hfin := hb.trans ((hq4.trans (hHeld15.mono (by omega))).mono hsz)
      clear HA5 HB5 HC1 HC2 HG HKP hHeld hHeld2 hHeld15
      go_wp2_with fail
      exact ⟨⟨j + 1, hlt, by simp, hfin⟩, by simp only [intOf]; omega⟩
    · have tl : decide ((j : Int) < (ln : Int)) = false := decide_eq_false (by omega)
      have tl2 : decide (j < ln) = false := decide_eq_false hlt
      clear ih HIN hlt
      go_wp2_with fail
      go_loopw [9] (fun iv wr => ∃ (i : Nat), ln ≤ i ∧ i ≤ ln + 2 ∧ iv = .int .i64 (i : Int) ∧ Below w.heap.size w wr) (fun iv _ => ln + 2 - (intOf iv).toNat)
      case atStart => exact ⟨ln, Nat.le_refl _, by omega, rfl, hb⟩
      case round =>
        clear hb hsz
        obtain ⟨i, hi1, hi2, rfl, hb⟩ := hrel
        by_cases hlt : i < ln + 2
        · have tl3 : decide ((i : Int) < (ln : Int) + 2) = true := decide_eq_true (by omega)
          have tl4 : decide ((i : Int) < ((ln + 2 : Nat) : Int)) = true := decide_eq_true (by omega)
          have tl5 : decide (i < ln + 2) = true := decide_eq_true hlt
          have hji : (i : Int) < (ln : Int) + 2 := by omega
          obtain ⟨m0, m1⟩ := (HLI.out wr hb).mark (j := i) (by rw [HLN.out]; exact hi1) (by rw [HLN.out]; exact hlt)
          go_wp2_with fail
          exact ⟨⟨i + 1, by omega, by omega, by simp, hb⟩, by simp only [intOf]; omega⟩
        · have tl3 : decide ((i : Int) < (ln : Int) + 2) = false := decide_eq_false (by omega)
          have tl4 : decide ((i : Int) < ((ln + 2 : Nat) : Int)) = false := decide_eq_false (by omega)
          have tl5 : decide (i < ln + 2) = false := decide_eq_false hlt
          go_wp2_with fail
          go_ret
          exact ⟨rfl, hb⟩
theorem keptF_any : ∀ (f : Fld), FitsF 67108864 f → KeptOkF f.fields := by
  intro f
  induction f using Fld.ind with
  | h o l ih => exact fun h => keptF_step l h.len fun x hx => ih x hx (h.mem hx)
theorem keptF_list {l : List Fld} (hl : l.length ≤ 67108864) (h : ∀ x ∈ l, FitsF 67108864 x) : KeptOkF l := keptF_step l hl fun x hx => keptF_any x (h x hx)
end Go.Proofs.YtkjoomdglealmaaGreatDoor

namespace Go.Proofs.YtkjoomdglealmaaGreatDoor
open Go.RowKit Go.Vf

def longN (c : Nat) : Nat := match rowBU c with
  | some k => (utab k).size
  | none => 0

theorem longN_cases (c : Nat) : (c ≤ 127 ∧ longN c = 1) ∨ (194 ≤ c ∧ c ≤ 223 ∧ longN c = 2) ∨ (224 ≤ c ∧ c ≤ 239 ∧ longN c = 3) ∨ (240 ≤ c ∧ c ≤ 244 ∧ longN c = 4) ∨ ((127 < c ∧ c < 194 ∨ 244 < c) ∧ longN c = 0) := by
  unfold longN
  cases h : rowBU c with
  | none =>
    refine .inr (.inr (.inr (.inr ⟨?_, rfl⟩)))
    refine Classical.byContradiction fun hn => ?_
    have hc : ∃ k, k < 9 ∧ (utab k).first ≤ c ∧ c ≤ (utab k).last := by
      have : c ≤ 127 ∨ (194 ≤ c ∧ c ≤ 223) ∨ c = 224 ∨ (225 ≤ c ∧ c ≤ 236) ∨ c = 237 ∨ (238 ≤ c ∧ c ≤ 239) ∨ c = 240 ∨ (241 ≤ c ∧ c ≤ 243) ∨ c = 244 := by omega
      rcases this with h | h | h | h | h | h | h | h | h
      · exact ⟨0, by decide, by simp only [utab]; omega, by simp only [utab]; omega⟩
      · exact ⟨1, by decide, by simp only [utab]; omega, by simp only [utab]; omega⟩
      · exact ⟨2, by decide, by simp only [utab]; omega, by simp only [utab]; omega⟩
      · exact ⟨3, by decide, by simp only [utab]; omega, by simp only [utab]; omega⟩
      · exact ⟨4, by decide, by simp only [utab]; omega, by simp only [utab]; omega⟩
      · exact ⟨5, by decide, by simp only [utab]; omega, by simp only [utab]; omega⟩
      · exact ⟨6, by decide, by simp only [utab]; omega, by simp only [utab]; omega⟩
      · exact ⟨7, by decide, by simp only [utab]; omega, by simp only [utab]; omega⟩
      · exact ⟨8, by decide, by simp only [utab]; omega, by simp only [utab]; omega⟩
    obtain ⟨k, hk, h1, h2⟩ := hc
    rw [rowB_hit hk h1 h2] at h
    cases h
  | some k =>
    obtain ⟨hk, h1, h2⟩ := rowB_lt h
    rcases cases_nine hk with rfl | rfl | rfl | rfl | rfl | rfl | rfl | rfl | rfl <;> simp only [utab] at h1 h2 <;>
      first | exact .inl ⟨by omega, rfl⟩ | exact .inr (.inl ⟨by omega, by omega, rfl⟩) | exact .inr (.inr (.inl ⟨by omega, by omega, rfl⟩)) | exact .inr (.inr (.inr (.inl ⟨by omega, by omega, rfl⟩)))

set_option maxHeartbeats 400000 in
theorem long_any (c : Nat) (w : World) : Calls Tryz.prog 151 #[.int .i64 (c : Int)] w fun e w' => e = .returned (.int .i64 (longN c : Int)) ∧ w = w' := by
  rcases longN_cases c with ⟨h1, e⟩ | ⟨h1, h2, e⟩ | ⟨h1, h2, e⟩ | ⟨h1, h2, e⟩ | ⟨h1, e⟩
  · rw [e]
    go_enter Tryz.func151, Tryz.ntmps151
    go_wp2
    go_ret
    exact ⟨rfl, rfl⟩
  · rw [e]
    have a1 : ¬ c ≤ 127 := by omega
    clear e
    go_enter Tryz.func151, Tryz.ntmps151
    go_wp2
    go_ret
    exact ⟨rfl, rfl⟩
  · rw [e]
    have a1 : ¬ c ≤ 127 := by omega
    have a2 : ¬ c ≤ 223 := by omega
    clear e
    go_enter Tryz.func151, Tryz.ntmps151
    go_wp2
    go_ret
    exact ⟨rfl, rfl⟩
  · rw [e]
    have a1 : ¬ c ≤ 127 := by omega
    have a2 : ¬ c ≤ 223 := by omega
    have a3 : ¬ c ≤ 239 := by omega
    clear e
    go_enter Tryz.func151, Tryz.ntmps151
    go_wp2
    go_ret
    exact ⟨rfl, rfl⟩
  · rw [e]
    have a1 : ¬ c ≤ 127 := by omega
    clear e
    rcases h1 with ⟨_, h1⟩ | h1
    · have a2 : ¬ 194 ≤ c := by omega
      have a3 : ¬ 224 ≤ c := by omega
      have a4 : ¬ 240 ≤ c := by omega
      go_enter Tryz.func151, Tryz.ntmps151
      go_wp2
      go_ret
      exact ⟨rfl, rfl⟩
    · have a2 : ¬ c ≤ 223 := by omega
      have a3 : ¬ c ≤ 239 := by omega
      have a4 : ¬ c ≤ 244 := by omega
      go_enter Tryz.func151, Tryz.ntmps151
      go_wp2
      go_ret
      exact ⟨rfl, rfl⟩

theorem second_any (c b k : Nat) (hk : rowBU c = some k) (hz : 2 ≤ (utab k).size) (w : World) :
    Calls Tryz.prog 152 #[.int .i64 (c : Int), .int .i64 (b : Int)] w fun e w' => e = .returned (.bool (decide ((utab k).low ≤ b) && decide (b ≤ (utab k).high))) ∧ w = w' := by
  obtain ⟨hk9, h1, h2⟩ := rowB_lt hk
  obtain ⟨R, HR⟩ : ∃ R, Hid (R = (decide ((utab k).low ≤ b) && decide (b ≤ (utab k).high))) := ⟨_, rfl⟩
  rw [← HR.out]
  have fin : ∀ (lo hi : Nat), (utab k).low = lo → (utab k).high = hi → R = (decide (lo ≤ b) && decide (b ≤ hi)) := fun lo hi e1 e2 => by rw [HR.out, e1, e2]
  have hcase : (c ≠ 0xe0 ∧ c ≠ 0xed ∧ c ≠ 0xf0 ∧ c ≠ 0xf4 ∧ (utab k).low = 128 ∧ (utab k).high = 191) ∨ (c = 0xe0 ∧ (utab k).low = 160 ∧ (utab k).high = 191) ∨ (c = 0xed ∧ (utab k).low = 128 ∧ (utab k).high = 159) ∨ (c = 0xf0 ∧ (utab k).low = 144 ∧ (utab k).high = 191) ∨ (c = 0xf4 ∧ (utab k).low = 128 ∧ (utab k).high = 143) := by
    rcases cases_nine hk9 with rfl | rfl | rfl | rfl | rfl | rfl | rfl | rfl | rfl <;> simp only [utab] at h1 h2 hz <;>
      first | omega | exact .inl ⟨by omega, by omega, by omega, by omega, rfl, rfl⟩ | exact .inr (.inl ⟨by omega, rfl, rfl⟩) | exact .inr (.inr (.inl ⟨by omega, rfl, rfl⟩)) | exact .inr (.inr (.inr (.inl ⟨by omega, rfl, rfl⟩))) | exact .inr (.inr (.inr (.inr ⟨by omega, rfl, rfl⟩)))
  clear HR h1 h2 hk hz
  rcases hcase with ⟨n1, n2, n3, n4, e1, e2⟩ | ⟨rfl, e1, e2⟩ | ⟨rfl, e1, e2⟩ | ⟨rfl, e1, e2⟩ | ⟨rfl, e1, e2⟩
  · have hR := fin _ _ e1 e2
    have m1 : ((c : Int) == 224) = false := by simp; omega
    have m2 : ((c : Int) == 237) = false := by simp; omega
    have m3 : ((c : Int) == 240) = false := by simp; omega
    have m4 : ((c : Int) == 244) = false := by simp; omega
    clear fin e1 e2
    by_cases l1 : 128 ≤ b <;> by_cases l2 : b ≤ 191 <;>
    · go_enter Tryz.func152, Tryz.ntmps152
      go_wp2
      all_goals go_ret
      all_goals exact ⟨by first | rfl | (rw [hR]; simp [l1, l2]; done) | (rw [hR]; simp [l1, l2]; omega), rfl⟩
  all_goals
    have hR := fin _ _ e1 e2
    clear fin e1 e2
  · by_cases l1 : 160 ≤ b <;> by_cases l2 : b ≤ 191 <;>
    · go_enter Tryz.func152, Tryz.ntmps152
      go_wp2
      all_goals go_ret
      all_goals exact ⟨by first | rfl | (rw [hR]; simp [l1, l2]; done) | (rw [hR]; simp [l1, l2]; omega), rfl⟩
  · by_cases l1 : 128 ≤ b <;> by_cases l2 : b ≤ 159 <;>
    · go_enter Tryz.func152, Tryz.ntmps152
      go_wp2
      all_goals go_ret
      all_goals exact ⟨by first | rfl | (rw [hR]; simp [l1, l2]; done) | (rw [hR]; simp [l1, l2]; omega), rfl⟩
  · by_cases l1 : 144 ≤ b <;> by_cases l2 : b ≤ 191 <;>
    · go_enter Tryz.func152, Tryz.ntmps152
      go_wp2
      all_goals go_ret
      all_goals exact ⟨by first | rfl | (rw [hR]; simp [l1, l2]; done) | (rw [hR]; simp [l1, l2]; omega), rfl⟩
  · by_cases l1 : 128 ≤ b <;> by_cases l2 : b ≤ 143 <;>
    · go_enter Tryz.func152, Tryz.ntmps152
      go_wp2
      all_goals go_ret
      all_goals exact ⟨by first | rfl | (rw [hR]; simp [l1, l2]; done) | (rw [hR]; simp [l1, l2]; omega), rfl⟩


def oneN (l : List UInt8) : Nat × Nat := match rowBU (l[0]?.getD 0).toNat with
  | some k => if wholeL k l then (accL (l.take (utab k).size) (utab k).size, (utab k).size) else (0, 0)
  | none => (0, 0)

theorem oneN_enc {p : Nat} (hp : IsPt p) (t : List UInt8) : oneN (enc p ++ t) = (p, (enc p).length) := by
  obtain ⟨k, hk, h1, _, h2, h3, h4⟩ := enc_row hp t
  have h0 : (enc p ++ t)[0]?.getD 0 = (enc p)[0]?.getD 0 := by rw [List.getElem?_append_left (enc_pos p)]
  unfold oneN
  rw [h0, h1]
  simp only [h3, if_true]
  rw [h2, List.take_left, h4]

theorem oneN_none {l : List UInt8} (h : noChar l) : oneN l = (0, 0) := by
  unfold oneN
  cases hr : rowBU (l[0]?.getD 0).toNat with
  | none => rfl
  | some k => simp [h.2 k hr]

theorem tail_all {l : List UInt8} {z : Nat} (h : z ≤ l.length) : ((l.take z).drop 2).all tailB = true ↔ ∀ i, 2 ≤ i → i < z → tailB (l[i]?.getD 0) = true := by
  have hi : ∀ i, 2 ≤ i → i < z → ((l.take z).drop 2)[i - 2]? = l[i]? := fun i h1 h2 => by
    rw [List.getElem?_drop, List.getElem?_take, if_pos (by omega)]
    congr 1
    omega
  rw [List.all_eq_true]
  constructor
  · intro ha i h1 h2
    have hm : l[i]?.getD 0 ∈ (l.take z).drop 2 := by
      have h3 := hi i h1 h2
      rw [List.getElem?_eq_getElem (show i < l.length by omega)] at h3
      rw [List.getElem?_eq_getElem (show i < l.length by omega)]
      exact List.mem_of_getElem? h3
    exact ha _ hm
  · intro ha x hx
    obtain ⟨n, hn, rfl⟩ := List.mem_iff_getElem.1 hx
    have hlen : n + 2 < z := by simp at hn; omega
    have := ha (n + 2) (by omega) hlen
    have h3 := hi (n + 2) (by omega) hlen
    rw [Nat.add_sub_cancel, List.getElem?_eq_getElem hn] at h3
    rw [← h3] at this
    exact this

theorem results21_run {tmps : Array Value} {w : World} {a b : Int} (t4 : tmps[4]?.getD undef = .int .i64 a) (t5 : tmps[5]?.getD undef = .int .i64 b) :
    (results Tryz.f113 tmps).run Tryz.prog w = .ok (.tuple #[.int .i64 a, .int .i64 b]) w := by
  simp [results, Tryz.results113, go_sem, t4, t5]

end Go.Proofs.YtkjoomdglealmaaGreatDoor
