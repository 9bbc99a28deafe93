/- Contracts and lemmas (nothing is claimed here). -/
import Derived.Test.YtcbjnifoojjipaaGreatDoorJ25
import Derived.Test.YtcbjnifoojjipaaGreatDoorJ23
import Derived.Test.YtcbjnifoojjipaaGreatDoorJ2
import Derived.Test.YtcbjnifoojjipaaGreatDoorJ21
import Derived.Test.YtcbjnifoojjipaaGreatDoorSLay
import Derived.Deep.QuietTactic
import Derived.BigQuiet
import Derived.BigRegion
import Derived.Test.YtcbjnifoojjipaaGreatDoorJ15
import Derived.OwnWalk
namespace Go.Proofs.YtcbjnifoojjipaaGreatDoor
open Go.RowKit Go.Vf
def KeptOkF (l : List Fld) : Prop := ∀ (g : Nat) (a2 : Option Addr) (c2 lo n n2 : Nat) (w : World), n ≤ w.heap.size → n2 ≤ w.heap.size → LIf w lo n l g → FIn w 0 n2 l a2 → Calls Tryz.prog 16 #[.slice (some ⟨g, 0, none⟩) l.length (l.length + 2), .slice a2 l.length c2] w fun e w' => e = .returned (.bool true) ∧ Below w.heap.size w w'
theorem LIf.old {w w' : World} {lo n k : Nat} {l : List Fld} {b : Nat} (h : LIf w lo n l b) (hb : Below k w w') (hn : n ≤ k) : LIf w' lo n l b := h.keep fun x _ q => hb.block x (by omega)
theorem LIf.item {w : World} {lo n g : Nat} {l : List Fld} (h : LIf w lo n l g) {j : Nat} (hj : j < l.length) : g < n ∧ ∃ gj, RowF w g (j * 14) l[j].own (some ⟨gj, 0, none⟩) l[j].fields.length (l[j].fields.length + 2) ∧ LIf w lo n l[j].fields gj := by
  cases h with
  | row G h1 h2 _ h3 h4 h5 => exact ⟨h2, G j, h4 j hj, h5 j hj⟩
theorem LIf.mark {w : World} {lo n g : Nat} {l : List Fld} (h : LIf w lo n l g) {j : Nat} (h1 : l.length ≤ j) (h2 : j < l.length + 2) : w.cell? ⟨g, j * 14, none⟩ = some (.string ⟨#[109, 97, 114, 107]⟩) ∧ w.cell? ⟨g, j * 14 + 1, none⟩ = some (.int .u8 99) := by
  cases h with
  | row G _ _ _ h3 _ _ => exact h3 j h1 h2
set_option maxHeartbeats 16000000 in
set_option maxRecDepth 20000 in
theorem keptF_step (l : List Fld) (hl : l.length ≤ 67108864) (ih : ∀ x ∈ l, KeptOkF x.fields) : KeptOkF l := by
  intro g a2 c2 lo n n2 w hn hn2 hlin hin
  obtain ⟨ln, hln⟩ : ∃ ln, l.length = ln := ⟨_, rfl⟩
  have HLN : Hid (l.length = ln) := hln
  rw [hln] at hl ⊢
  clear hln
  have HIN : Hid (∀ w1, Below w.heap.size w w1 → FIn w1 0 n2 l a2) := fun w1 h => hin.keep h hn2
  have HLI : Hid (∀ w1, Below w.heap.size w w1 → LIf w1 lo n l g) := fun w1 h => hlin.old h hn
  have t0 : ((ln : Int) != (ln : Int)) = false := by simp
  have hb0 := Below.refl w.heap.size w
  clear hlin hin
  go_enter Tryz.func16, Tryz.ntmps16
  go_wp2_with fail
  go_loopw [5] (fun iv wr => ∃ (j : Nat), j ≤ ln ∧ iv = .int .i64 (j : Int) ∧ Below w.heap.size w wr) (fun iv _ => ln - (intOf iv).toNat)
  case atStart => exact ⟨0, Nat.zero_le _, rfl, hb0⟩
  case round =>
    clear hb0
    obtain ⟨j, hj, rfl, hb⟩ := hrel
    have hsz := hb.size
    by_cases hlt : j < ln
    · have tl : decide ((j : Int) < (ln : Int)) = true := decide_eq_true (by omega)
      have tl2 : decide (j < ln) = true := decide_eq_true hlt
      have hji : (j : Int) < (ln : Int) := by omega
      have hjl : j < l.length := by rw [HLN.out]; exact hlt
      obtain ⟨hgn, gj, hrow, hlj⟩ := (HLI.out wr hb).item hjl
      obtain ⟨bb, off, aj, cj, ha, _, hbb, hrow2, hinj⟩ := (HIN.out wr hb).at hjl
      subst ha
      obtain ⟨x, hx⟩ : ∃ x, l[j] = x := ⟨_, rfl⟩
      have HA : Hid (KeptOkF x.fields) := by have := ih l[j] (List.getElem_mem hjl); rw [hx] at this; exact this
      rw [hx] at hrow hrow2 hlj hinj
      have HI : Hid (FIn wr 0 n2 x.fields aj) := hinj
      have HL : Hid (LIf wr lo n x.fields gj) := hlj
      have HR1 : Hid (RowF wr g (j * 14) x.own (some ⟨gj, 0, none⟩) x.fields.length (x.fields.length + 2)) := hrow
      have HR2 : Hid (RowF wr bb (off + j * 14) x.own aj x.fields.length cj) := hrow2
      obtain ⟨r0, r1, r2, r3, r4, r5, r6, r7, r8, r9, r10, r11, r12, r13⟩ := hrow
      clear hx ih hinj hlj hrow2
      have hA1 := Blk.new wr 48 #[.string x.own.name, .int .u8 x.own.kind, .bool x.own.down, .int .u8 x.own.nulls, .bool x.own.bnd, .bool x.own.ln, .string x.own.lm, .bool x.own.hn, .string x.own.hm, .int .i64 x.own.most, .int .i64 x.own.str, .bool x.own.shf, .bool x.own.bck, .slice (some ⟨gj, 0, none⟩) x.fields.length (x.fields.length + 2)]
      have hq1 := (Below.refl wr.heap.size wr).alloc (Nat.le_refl _) (.cells #[.string x.own.name, .int .u8 x.own.kind, .bool x.own.down, .int .u8 x.own.nulls, .bool x.own.bnd, .bool x.own.ln, .string x.own.lm, .bool x.own.hn, .string x.own.hm, .int .i64 x.own.most, .int .i64 x.own.str, .bool x.own.shf, .bool x.own.bck, .slice (some ⟨gj, 0, none⟩) x.fields.length (x.fields.length + 2)] 48)
      have hs1 := alloc_size wr (.cells #[.string x.own.name, .int .u8 x.own.kind, .bool x.own.down, .int .u8 x.own.nulls, .bool x.own.bnd, .bool x.own.ln, .string x.own.lm, .bool x.own.hn, .string x.own.hm, .int .i64 x.own.most, .int .i64 x.own.str, .bool x.own.shf, .bool x.own.bck, .slice (some ⟨gj, 0, none⟩) x.fields.length (x.fields.length + 2)] 48)
      go_upto_region 7 with fail
      generalize wr.alloc (.cells #[.string x.own.name, .int .u8 x.own.kind, .bool x.own.down, .int .u8 x.own.nulls, .bool x.own.bnd, .bool x.own.ln, .string x.own.lm, .bool x.own.hn, .string x.own.hm, .int .i64 x.own.most, .int .i64 x.own.str, .bool x.own.shf, .bool x.own.bck, .slice (some ⟨gj, 0, none⟩) x.fields.length (x.fields.length + 2)] 48) = w1 at *
      clear r0 r1 r2 r3 r4 r5 r6 r7 r8 r9 r10 r11 r12 r13
      obtain ⟨s0, s1, s2, s3, s4, s5, s6, s7, s8, s9, s10, s11, s12, s13⟩ := HR2.out.below hq1 (by omega)
      have hB2 := Blk.new w1 48 #[.string x.own.name, .int .u8 x.own.kind, .bool x.own.down, .int .u8 x.own.nulls, .bool x.own.bnd, .bool x.own.ln, .string x.own.lm, .bool x.own.hn, .string x.own.hm, .int .i64 x.own.most, .int .i64 x.own.str, .bool x.own.shf, .bool x.own.bck, .slice aj x.fields.length cj]
      have hq2 := (Below.refl w1.heap.size w1).alloc (Nat.le_refl _) (.cells #[.string x.own.name, .int .u8 x.own.kind, .bool x.own.down, .int .u8 x.own.nulls, .bool x.own.bnd, .bool x.own.ln, .string x.own.lm, .bool x.own.hn, .string x.own.hm, .int .i64 x.own.most, .int .i64 x.own.str, .bool x.own.shf, .bool x.own.bck, .slice aj x.fields.length cj] 48)
      have hs2 := alloc_size w1 (.cells #[.string x.own.name, .int .u8 x.own.kind, .bool x.own.down, .int .u8 x.own.nulls, .bool x.own.bnd, .bool x.own.ln, .string x.own.lm, .bool x.own.hn, .string x.own.hm, .int .i64 x.own.most, .int .i64 x.own.str, .bool x.own.shf, .bool x.own.bck, .slice aj x.fields.length cj] 48)
      have hA2 := hA1.old hq2
      rw [hs1] at hB2 hs2
      have hq12 := hq1.trans (hq2.mono (by omega))
      go_upto_region 8 with fail
      generalize w1.alloc (.cells #[.string x.own.name, .int .u8 x.own.kind, .bool x.own.down, .int .u8 x.own.nulls, .bool x.own.bnd, .bool x.own.ln, .string x.own.lm, .bool x.own.hn, .string x.own.hm, .int .i64 x.own.most, .int .i64 x.own.str, .bool x.own.shf, .bool x.own.bck, .slice aj x.fields.length cj] 48) = w2 at *
      clear s0 s1 s2 s3 s4 s5 s6 s7 s8 s9 s10 s11 s12 s13 hA1 hq1 hq2 hs1
      have ca : w2.cell? ⟨wr.heap.size, 13, none⟩ = some (.slice (some ⟨gj, 0, none⟩) x.fields.length (x.fields.length + 2)) := hA2.cell 13
      have fa : w2.frozen? ⟨wr.heap.size, 13, none⟩ = false := hA2.frozen 13
      have hA3 := hA2.set 13 (.slice none 0 0)
      have hB3 := hB2.other (p := ⟨wr.heap.size, 13, none⟩) (by show wr.heap.size + 1 ≠ wr.heap.size; omega) (.slice none 0 0)
      have hq3 := hq12.setCell (p := ⟨wr.heap.size, 13, none⟩) (Nat.le_refl _) (.slice none 0 0)
      have hs3 : (w2.setCell ⟨wr.heap.size, 13, none⟩ (.slice none 0 0)).heap.size = wr.heap.size + 1 + 1 := by simp [World.setCell, hs2]
      go_upto_region 9 with fail
      generalize w2.setCell ⟨wr.heap.size, 13, none⟩ (.slice none 0 0) = w3 at *
      clear ca fa hA2 hB2 hs2 hq12
      have cb : w3.cell? ⟨wr.heap.size + 1, 13, none⟩ = some (.slice aj x.fields.length cj) := hB3.cell 13
      have fb : w3.frozen? ⟨wr.heap.size + 1, 13, none⟩ = false := hB3.frozen 13
      have hB4 := hB3.set 13 (.slice none 0 0)
      have hA4 := hA3.other (p := ⟨wr.heap.size + 1, 13, none⟩) (by show wr.heap.size ≠ wr.heap.size + 1; omega) (.slice none 0 0)
      have hq4 := hq3.setCell (p := ⟨wr.heap.size + 1, 13, none⟩) (by show wr.heap.size ≤ wr.heap.size + 1; omega) (.slice none 0 0)
      have hs4 : (w3.setCell ⟨wr.heap.size + 1, 13, none⟩ (.slice none 0 0)).heap.size = wr.heap.size + 1 + 1 := by simp [World.setCell, hs3]
      go_upto_region 10 with fail
      generalize w3.setCell ⟨wr.heap.size + 1, 13, none⟩ (.slice none 0 0) = w4 at *
      clear cb fb hA3 hB3 hs3 hq3
      have HA5 : Hid (Blk w4 wr.heap.size 48 #[.string x.own.name, .int .u8 x.own.kind, .bool x.own.down, .int .u8 x.own.nulls, .bool x.own.bnd, .bool x.own.ln, .string x.own.lm, .bool x.own.hn, .string x.own.hm, .int .i64 x.own.most, .int .i64 x.own.str, .bool x.own.shf, .bool x.own.bck, .slice none 0 0]) := by
        have := hA4
        show Blk _ _ _ _
        simpa using this
      have HB5 : Hid (Blk w4 (wr.heap.size + 1) 48 #[.string x.own.name, .int .u8 x.own.kind, .bool x.own.down, .int .u8 x.own.nulls, .bool x.own.bnd, .bool x.own.ln, .string x.own.lm, .bool x.own.hn, .string x.own.hm, .int .i64 x.own.most, .int .i64 x.own.str, .bool x.own.shf, .bool x.own.bck, .slice none 0 0]) := by
        have := hB4
        show Blk _ _ _ _
        simpa using this
      have HC1 : Hid (∀ zz, Calls Tryz.prog 20 #[.agg #[.string x.own.name, .int .u8 x.own.kind, .bool x.own.down, .int .u8 x.own.nulls, .bool x.own.bnd, .bool x.own.ln, .string x.own.lm, .bool x.own.hn, .string x.own.hm, .int .i64 x.own.most, .int .i64 x.own.str, .bool x.own.shf, .bool x.own.bck, .slice none 0 0], .agg #[.string x.own.name, .int .u8 x.own.kind, .bool x.own.down, .int .u8 x.own.nulls, .bool x.own.bnd, .bool x.own.ln, .string x.own.lm, .bool x.own.hn, .string x.own.hm, .int .i64 x.own.most, .int .i64 x.own.str, .bool x.own.shf, .bool x.own.bck, .slice none 0 0]] zz fun e w' => e = .returned (.bool true) ∧ Below zz.heap.size zz w') := fun zz => sameField_nil x.own zz
      have HC2 : Hid (∀ zz, Below w4.heap.size w4 zz → Calls Tryz.prog 16 #[.slice (some ⟨gj, 0, none⟩) x.fields.length (x.fields.length + 2), .slice aj x.fields.length cj] zz fun e w' => e = .returned (.bool true) ∧ Below zz.heap.size zz w') := fun zz h => by
        have hz := h.size
        have hq := hq4.trans (h.mono (by omega))
        exact HA.out gj aj cj lo n n2 zz (by omega) (by omega) (HL.out.old hq (by omega)) (HI.out.keep hq (by omega))
      have HG : Hid (∀ zz, Below w4.heap.size w4 zz → zz.cell? ⟨g, j * 14 + 13, none⟩ = some (.slice (some ⟨gj, 0, none⟩) x.fields.length (x.fields.length + 2)) ∧ zz.cell? ⟨bb, off + j * 14 + 13, none⟩ = some (.slice aj x.fields.length cj)) := fun zz h => by
        have hq := hq4.trans (h.mono (by omega))
        exact ⟨(HR1.out.below hq (by omega)).c13, (HR2.out.below hq (by omega)).c13⟩
      have HKP : Hid (∀ p q, Below w4.heap.size w4 p → Below p.heap.size p q → Below w4.heap.size w4 q) := fun p q h1 h2 => h1.trans (h2.mono h1.size)
      clear hA4 hB4 HA HL HI HR1 HR2 HIN HLI
      refine wp_region_held_drew (S := fun zz => Below w4.heap.size w4 zz) (by kernel_rfl) ((Below.refl _ _).drew) (fun hHeld => ?_)
      refine wpAnyH_takeD (i := 0) (some 31) (v := .agg #[.string x.own.name, .int .u8 x.own.kind, .bool x.own.down, .int .u8 x.own.nulls, .bool x.own.bnd, .bool x.own.ln, .string x.own.lm, .bool x.own.hn, .string x.own.hm, .int .i64 x.own.most, .int .i64 x.own.str, .bool x.own.shf, .bool x.own.bck, .slice none 0 0]) rfl rfl (by kernel_rfl) (by kernel_rfl) (by kernel_rfl) (fun _ _ _ h => h) (Or.inl ⟨by kernel_rfl, ?hy0⟩) (by assumption) ?rest0
      case hy0 => (intro zz hSx; obtain ⟨q0, q1, q2, q3, q4, q5, q6, q7, q8, q9, q10, q11, q12, q13⟩ := Blk.c14 (HA5.out.old hSx); (try dsimp only at hSx); go_simp; first | done | with_reducible rfl)
      try simp only [Act.put, List.setIfInBounds_toArray, List.set_cons_zero, List.set_cons_succ]
      refine wpAnyH_takeD (i := 1) (some 32) (v := .agg #[.string x.own.name, .int .u8 x.own.kind, .bool x.own.down, .int .u8 x.own.nulls, .bool x.own.bnd, .bool x.own.ln, .string x.own.lm, .bool x.own.hn, .string x.own.hm, .int .i64 x.own.most, .int .i64 x.own.str, .bool x.own.shf, .bool x.own.bck, .slice none 0 0]) rfl rfl (by kernel_rfl) (by kernel_rfl) (by kernel_rfl) (fun _ _ _ h => h) (Or.inl ⟨by kernel_rfl, ?hy1⟩) (by assumption) ?rest1
      case hy1 => (intro zz hSx; obtain ⟨q0, q1, q2, q3, q4, q5, q6, q7, q8, q9, q10, q11, q12, q13⟩ := Blk.c14 (HB5.out.old hSx); (try dsimp only at hSx); go_simp; first | done | with_reducible rfl)
      try simp only [Act.put, List.setIfInBounds_toArray, List.set_cons_zero, List.set_cons_succ]
      refine wpAnyH_ready (rs := [2]) (by kernel_rfl) (by simp) ?_
      refine AllReadyH.cons rfl (fun K hK => ?_) AllReadyH.nil
      go_simp
      go_wp2_with (go_at_call 20; refine (HC1.out _).mono ?_; rintro _ y2 ⟨rfl, hby2⟩)
      refine hK.out _ _ (HKP.out _ _ hHeld hby2) (fun hHeld2 => ?_)
      clear hK K
      try simp only [Act.put, List.setIfInBounds_toArray, List.set_cons_zero, List.set_cons_succ]
      refine wpAnyH_takeD (i := 3) (some 34) (v := .bool false) rfl rfl (by kernel_rfl) (by kernel_rfl) (by kernel_rfl) (fun _ _ _ h => h) (Or.inl ⟨by kernel_rfl, ?hy3⟩) (by assumption) ?rest3
      case hy3 => (intro zz hSx; (try dsimp only at hSx); go_simp; first | done | with_reducible rfl)
      try simp only [Act.put, List.setIfInBounds_toArray, List.set_cons_zero, List.set_cons_succ]
      refine wpAnyH_takeD (i := 4) (some 35) (v := .bool false) rfl rfl (by kernel_rfl) (by kernel_rfl) (by kernel_rfl) (fun _ _ _ h => h) (Or.inl ⟨by kernel_rfl, ?hy4⟩) (by assumption) ?rest4
      case hy4 => (intro zz hSx; (try dsimp only at hSx); go_simp; first | done | with_reducible rfl)
      try simp only [Act.put, List.setIfInBounds_toArray, List.set_cons_zero, List.set_cons_succ]
      refine wpAnyH_takeD (i := 5) (some 36) (v := .slice (some ⟨g, 0, none⟩) ln (ln + 2)) rfl rfl (by kernel_rfl) (by kernel_rfl) (by kernel_rfl) (fun _ _ _ h => h) (Or.inl ⟨by kernel_rfl, ?hy5⟩) (by assumption) ?rest5
      case hy5 => (intro zz hSx; (try dsimp only at hSx); go_simp; first | done | with_reducible rfl)
      try simp only [Act.put, List.setIfInBounds_toArray, List.set_cons_zero, List.set_cons_succ]
      refine wpAnyH_takeD (i := 6) (some 37) (v := .int .i64 (j : Int)) rfl rfl (by kernel_rfl) (by kernel_rfl) (by kernel_rfl) (fun _ _ _ h => h) (Or.inl ⟨by kernel_rfl, ?hy6⟩) (by assumption) ?rest6
      case hy6 => (intro zz hSx; (try dsimp only at hSx); go_simp; first | done | with_reducible rfl)
      try simp only [Act.put, List.setIfInBounds_toArray, List.set_cons_zero, List.set_cons_succ]
      refine wpAnyH_takeD (i := 7) (some 38) (v := .pointer (some ⟨g, j * 14, none⟩)) rfl rfl (by kernel_rfl) (by kernel_rfl) (by kernel_rfl) (fun _ _ _ h => h) (Or.inl ⟨by kernel_rfl, ?hy7⟩) (by assumption) ?rest7
      case hy7 => (intro zz hSx; (try dsimp only at hSx); go_simp; first | done | with_reducible rfl)
      try simp only [Act.put, List.setIfInBounds_toArray, List.set_cons_zero, List.set_cons_succ]
      refine wpAnyH_takeD (i := 8) (some 39) (v := .pointer (some ⟨g, j * 14 + 13, none⟩)) rfl rfl (by kernel_rfl) (by kernel_rfl) (by kernel_rfl) (fun _ _ _ h => h) (Or.inl ⟨by kernel_rfl, ?hy8⟩) (by assumption) ?rest8
      case hy8 => (intro zz hSx; (try dsimp only at hSx); go_simp; first | done | with_reducible rfl)
      try simp only [Act.put, List.setIfInBounds_toArray, List.set_cons_zero, List.set_cons_succ]
      refine wpAnyH_takeD (i := 9) (some 40) (v := .slice (some ⟨gj, 0, none⟩) x.fields.length (x.fields.length + 2)) rfl rfl (by kernel_rfl) (by kernel_rfl) (by kernel_rfl) (fun _ _ _ h => h) (Or.inl ⟨by kernel_rfl, ?hy9⟩) (by assumption) ?rest9
      case hy9 => (intro zz hSx; obtain ⟨q0, q1⟩ := HG.out zz hSx; (try dsimp only at hSx); go_simp; first | done | with_reducible rfl)
      try simp only [Act.put, List.setIfInBounds_toArray, List.set_cons_zero, List.set_cons_succ]
      refine wpAnyH_takeD (i := 10) (some 41) (v := .slice (some ⟨bb, off, none⟩) ln c2) rfl rfl (by kernel_rfl) (by kernel_rfl) (by kernel_rfl) (fun _ _ _ h => h) (Or.inl ⟨by kernel_rfl, ?hy10⟩) (by assumption) ?rest10
      case hy10 => (intro zz hSx; (try dsimp only at hSx); go_simp; first | done | with_reducible rfl)
      try simp only [Act.put, List.setIfInBounds_toArray, List.set_cons_zero, List.set_cons_succ]
      refine wpAnyH_takeD (i := 11) (some 42) (v := .int .i64 (j : Int)) rfl rfl (by kernel_rfl) (by kernel_rfl) (by kernel_rfl) (fun _ _ _ h => h) (Or.inl ⟨by kernel_rfl, ?hy11⟩) (by assumption) ?rest11
      case hy11 => (intro zz hSx; (try dsimp only at hSx); go_simp; first | done | with_reducible rfl)
      try simp only [Act.put, List.setIfInBounds_toArray, List.set_cons_zero, List.set_cons_succ]
      refine wpAnyH_takeD (i := 12) (some 43) (v := .pointer (some ⟨bb, off + j * 14, none⟩)) rfl rfl (by kernel_rfl) (by kernel_rfl) (by kernel_rfl) (fun _ _ _ h => h) (Or.inl ⟨by kernel_rfl, ?hy12⟩) (by assumption) ?rest12
      case hy12 => (intro zz hSx; (try dsimp only at hSx); go_simp; first | done | with_reducible rfl)
      try simp only [Act.put, List.setIfInBounds_toArray, List.set_cons_zero, List.set_cons_succ]
      refine wpAnyH_takeD (i := 13) (some 44) (v := .pointer (some ⟨bb, off + j * 14 + 13, none⟩)) rfl rfl (by kernel_rfl) (by kernel_rfl) (by kernel_rfl) (fun _ _ _ h => h) (Or.inl ⟨by kernel_rfl, ?hy13⟩) (by assumption) ?rest13
      case hy13 => (intro zz hSx; (try dsimp only at hSx); go_simp; first | done | with_reducible rfl)
      try simp only [Act.put, List.setIfInBounds_toArray, List.set_cons_zero, List.set_cons_succ]
      refine wpAnyH_takeD (i := 14) (some 45) (v := .slice aj x.fields.length cj) rfl rfl (by kernel_rfl) (by kernel_rfl) (by kernel_rfl) (fun _ _ _ h => h) (Or.inl ⟨by kernel_rfl, ?hy14⟩) (by assumption) ?rest14
      case hy14 => (intro zz hSx; obtain ⟨q0, q1⟩ := HG.out zz hSx; (try dsimp only at hSx); go_simp; first | done | with_reducible rfl)
      try simp only [Act.put, List.setIfInBounds_toArray, List.set_cons_zero, List.set_cons_succ]
      refine wpAnyH_ready (rs := [15]) (by kernel_rfl) (by simp) ?_
      refine AllReadyH.cons rfl (fun K hK => ?_) AllReadyH.nil
      go_simp
      go_wp2_with (go_at_call 16; refine (HC2.out _ hHeld2).mono ?_; rintro _ y15 ⟨rfl, hby15⟩)
      refine hK.out _ _ (HKP.out _ _ hHeld2 hby15) (fun hHeld15 => ?_)
      clear hK K
      try simp only [Act.put, List.setIfInBounds_toArray, List.set_cons_zero, List.set_cons_succ]
      refine wpAnyH_takeD (i := 16) (some 47) (v := .bool false) rfl rfl (by kernel_rfl) (by kernel_rfl) (by kernel_rfl) (fun _ _ _ h => h) (Or.inl ⟨by kernel_rfl, ?hy16⟩) (by assumption) ?rest16
      case hy16 => (intro zz hSx; (try dsimp only at hSx); go_simp; first | done | with_reducible rfl)
      try simp only [Act.put, List.setIfInBounds_toArray, List.set_cons_zero, List.set_cons_succ]
      refine wpAnyH_takeD (i := 17) (some 48) (v := .bool false) rfl rfl (by kernel_rfl) (by kernel_rfl) (by kernel_rfl) (fun _ _ _ h => h) (Or.inl ⟨by kernel_rfl, ?hy17⟩) (by assumption) ?rest17
      case hy17 => (intro zz hSx; (try dsimp only at hSx); go_simp; first | done | with_reducible rfl)
      try simp only [Act.put, List.setIfInBounds_toArray, List.set_cons_zero, List.set_cons_succ]
      refine wpAnyH_done (by kernel_rfl) ?_ _
      have hfin := hb.trans ((hq4.trans (hHeld15.mono (by omega))).mono hsz)
      clear HA5 HB5 HC1 HC2 HG HKP hHeld hHeld2 hHeld15
      go_wp2_with fail
      exact ⟨⟨j + 1, hlt, by simp, hfin⟩, by simp only [intOf]; omega⟩
    · have tl : decide ((j : Int) < (ln : Int)) = false := decide_eq_false (by omega)
      have tl2 : decide (j < ln) = false := decide_eq_false hlt
      clear ih HIN hlt
      go_wp2_with fail
      go_loopw [9] (fun iv wr => ∃ (i : Nat), ln ≤ i ∧ i ≤ ln + 2 ∧ iv = .int .i64 (i : Int) ∧ Below w.heap.size w wr) (fun iv _ => ln + 2 - (intOf iv).toNat)
      case atStart => exact ⟨ln, Nat.le_refl _, by omega, rfl, hb⟩
      case round =>
        clear hb hsz
        obtain ⟨i, hi1, hi2, rfl, hb⟩ := hrel
        by_cases hlt : i < ln + 2
        · have tl3 : decide ((i : Int) < (ln : Int) + 2) = true := decide_eq_true (by omega)
          have tl4 : decide ((i : Int) < ((ln + 2 : Nat) : Int)) = true := decide_eq_true (by omega)
          have tl5 : decide (i < ln + 2) = true := decide_eq_true hlt
          have hji : (i : Int) < (ln : Int) + 2 := by omega
          obtain ⟨m0, m1⟩ := (HLI.out wr hb).mark (j := i) (by rw [HLN.out]; exact hi1) (by rw [HLN.out]; exact hlt)
          go_wp2_with fail
          exact ⟨⟨i + 1, by omega, by omega, by simp, hb⟩, by simp only [intOf]; omega⟩
        · have tl3 : decide ((i : Int) < (ln : Int) + 2) = false := decide_eq_false (by omega)
          have tl4 : decide ((i : Int) < ((ln + 2 : Nat) : Int)) = false := decide_eq_false (by omega)
          have tl5 : decide (i < ln + 2) = false := decide_eq_false hlt
          go_wp2_with fail
          go_ret
          exact ⟨rfl, hb⟩
/-- What KeptFields says of every list of fields that was lent and stayed. -/
theorem keptF_any : ∀ (f : Fld), FitsF 67108864 f → KeptOkF f.fields := by
  intro f
  induction f using Fld.ind with
  | h o l ih => exact fun h => keptF_step l h.len fun x hx => ih x hx (h.mem hx)
theorem keptF_list {l : List Fld} (hl : l.length ≤ 67108864) (h : ∀ x ∈ l, FitsF 67108864 x) : KeptOkF l := keptF_step l hl fun x hx => keptF_any x (h x hx)
end Go.Proofs.YtcbjnifoojjipaaGreatDoor

namespace Go.Proofs.YtcbjnifoojjipaaGreatDoor
open Go.RowKit Go.Vf

/-- The handle of errors.errorType. -/
def ErrT (w : World) : Prop := w.cell? ⟨0, 0, none⟩ = some (.iface 148 (.agg #[hnd 34]))
theorem ErrT.old {w w' : World} (h : ErrT w) (hs : 0 < w.heap.size) (hb : Below w.heap.size w w') : ErrT w' := (hb.cell (p := ⟨0, 0, none⟩) hs).trans h

/-- What Spoil leaves as it was: what lies below n0, what lies from n1 on, the codes of all Faults. -/
structure Spo (n0 n1 : Nat) (w w' : World) : Prop where
  below : Below n0 w w'
  above : ∀ b, n1 ≤ b → b < w.heap.size → w'.heap[b]? = w.heap[b]?
  code : ∀ q cs, Blk w q 75 cs → w'.cell? ⟨q, 0, none⟩ = w.cell? ⟨q, 0, none⟩
theorem Spo.of {n0 n1 : Nat} {w w' : World} (hb : Below w.heap.size w w') (h : n0 ≤ w.heap.size) : Spo n0 n1 w w' :=
  ⟨hb.mono h, fun b _ q => hb.block b q, fun q _ hq => hb.cell (p := ⟨q, 0, none⟩) hq.lt⟩
theorem Spo.set {n0 n1 : Nat} {w w' : World} (h : Spo n0 n1 w w') {g j : Nat} (h0 : n0 ≤ g) (h1 : g < n1) (hg : (∀ cs, ¬ Blk w g 75 cs) ∨ j = 1) (v : Value) : Spo n0 n1 w (w'.setCell ⟨g, j, none⟩ v) := by
  refine ⟨h.below.setCell (p := ⟨g, j, none⟩) h0 v, fun b q1 q2 => (Below.heap_setCell w' ⟨g, j, none⟩ v b (by show b ≠ g; omega)).trans (h.above b q1 q2), fun q cs hq => ?_⟩
  rw [← h.code q cs hq]
  refine World.cell?_setCell_other _ _ _ _ ?_
  intro e
  injection e with e1 e2
  subst e1
  rcases hg with hg | hg
  · exact hg cs hq
  · omega

/-- What the loop over the path knows. -/
structure SpL (n0 n1 F n : Nat) (c at' : Int) (pa : Option Addr) (pc : Nat) (why : Value) (w wr : World) : Prop where
  spo : Spo n0 n1 w wr
  box : wr.cell? ⟨w.heap.size, 0, none⟩ = some (.pointer (some ⟨F, 0, none⟩))
  blk : Blk wr F 75 #[.int .i64 c, .int .i64 at', .slice pa n pc, why]
  row : ∀ j, j < n → ∃ g v, pa = some ⟨g, 0, none⟩ ∧ n0 ≤ g ∧ g < n1 ∧ g ≠ F ∧ (∀ cs, ¬ Blk w g 75 cs) ∧ wr.cell? ⟨g, j, none⟩ = some v ∧ wr.frozen? ⟨g, j, none⟩ = false
theorem frozen_set (w : World) (p a : Addr) (v : Value) : (w.setCell p v).frozen? a = w.frozen? a := by
  simp [World.frozen?_setCell]
theorem SpL.put {n0 n1 F n : Nat} {c at' : Int} {pa : Option Addr} {pc : Nat} {why : Value} {w wr : World} (h : SpL n0 n1 F n c at' pa pc why w wr) (hn1 : n1 ≤ w.heap.size) {g j : Nat} (hj : j < n) (hg : pa = some ⟨g, 0, none⟩) (v : Value) : SpL n0 n1 F n c at' pa pc why w (wr.setCell ⟨g, j, none⟩ v) := by
  obtain ⟨g', v', e, h0, h1, hF, hB, _, _⟩ := h.row j hj
  obtain rfl : g' = g := by rw [hg] at e; injection e with e; injection e with e; exact e.symm
  refine ⟨h.spo.set h0 h1 (.inl hB) v, ?_, h.blk.other (p := ⟨g', j, none⟩) (fun e => hF e.symm) v, fun i hi => ?_⟩
  · rw [World.cell?_setCell_other _ _ _ _ (by intro e; injection e with e1; omega)]; exact h.box
  · obtain ⟨g2, v2, e2, q0, q1, qF, qB, qc, qf⟩ := h.row i hi
    obtain rfl : g2 = g' := by rw [hg] at e2; injection e2 with e2; injection e2 with e2; exact e2.symm
    by_cases hij : i = j
    · subst hij
      exact ⟨g2, v, hg, q0, q1, qF, qB, World.cell?_setCell_same' _ _ _ (by rw [qc]; rfl), by rw [frozen_set]; exact qf⟩
    · exact ⟨g2, v2, hg, q0, q1, qF, qB, by rw [World.cell?_setCell_other _ _ _ _ (by intro e; injection e with e1 e3; omega)]; exact qc, by rw [frozen_set]; exact qf⟩

set_option maxHeartbeats 4000000 in
set_option maxRecDepth 20000 in
theorem spoil_fault (n0 n1 F n : Nat) (c at' : Int) (pa : Option Addr) (pc : Nat) (why : Value) (w : World) (hn1 : n1 ≤ w.heap.size) (hn0 : n0 ≤ F) (hF1 : F < n1) (hn : n ≤ 1000) (hB : Blk w F 75 #[.int .i64 c, .int .i64 at', .slice pa n pc, why])
    (hrow : ∀ j, j < n → ∃ g v, pa = some ⟨g, 0, none⟩ ∧ n0 ≤ g ∧ g < n1 ∧ g ≠ F ∧ (∀ cs, ¬ Blk w g 75 cs) ∧ w.cell? ⟨g, j, none⟩ = some v ∧ w.frozen? ⟨g, j, none⟩ = false) (hE : ErrT w) (hz0 : 0 < w.heap.size) :
    Calls Tryz.prog 15 #[.iface 71 (.pointer (some ⟨F, 0, none⟩))] w fun e w' => e = .returned (.tuple #[]) ∧ Spo n0 n1 w w' := by
  have hb1 := (Below.refl w.heap.size w).alloc (Nat.le_refl _) (.cells #[.pointer none] 71)
  have hT1 := Blk.new w 71 #[.pointer none]
  have hs1 := alloc_size w (.cells #[.pointer none] 71)
  have hE1 := hE.old hz0 hb1
  go_enter Tryz.func15, Tryz.ntmps15
  go_wp2_with fail
  refine (as_fault_b ⟨F, 0, none⟩ ⟨w.heap.size, 0, none⟩ (.pointer none) _ hE1 (hT1.cell 0) (hT1.frozen 0)).mono ?_
  rintro _ w2 ⟨rfl, ht, hb2⟩
  have hb02 : Below w.heap.size w w2 := hb1.trans hb2
  have hS : SpL n0 n1 F n c at' pa pc why w w2 := ⟨.of hb02 (by omega), ht, hB.old hb02, fun j hj => by
    obtain ⟨g, v, e, q0, q1, qF, qB, qc, qf⟩ := hrow j hj
    have hgl : g < w.heap.size := by omega
    exact ⟨g, v, e, q0, q1, qF, qB, (hb02.cell (p := ⟨g, j, none⟩) hgl).trans qc, (hb02.frozen (p := ⟨g, j, none⟩) hgl).trans qf⟩⟩
  have HS : Hid (SpL n0 n1 F n c at' pa pc why w w2) := hS
  clear hrow hb1 hT1 hs1 hE1 hE hb2 hb02 hS hB
  go_wp2_with fail
  go_loopw [3] (fun iv wr => ∃ (j : Nat), j ≤ n ∧ iv = .int .i64 (j : Int) ∧ Hid (SpL n0 n1 F n c at' pa pc why w wr)) (fun iv _ => n - (intOf iv).toNat)
  case atStart => exact ⟨0, Nat.zero_le _, rfl, HS⟩
  case round =>
    clear HS ht
    obtain ⟨j, hj, rfl, HS⟩ := hrel
    have d0 := HS.out.box
    have d1 : wr.cell? ⟨F, 2, none⟩ = some (.slice pa n pc) := HS.out.blk.cell 2
    by_cases hlt : j < n
    · have tl : decide ((j : Int) < (n : Int)) = true := decide_eq_true (by omega)
      have tl2 : decide (j < n) = true := decide_eq_true hlt
      have hji : (j : Int) < (n : Int) := by omega
      obtain ⟨g, v, e, q0, q1, qF, qB, qc, qf⟩ := HS.out.row j hlt
      subst e
      go_wp2_with fail
      exact ⟨⟨j + 1, by omega, by simp, HS.out.put hn1 hlt rfl _⟩, by simp only [intOf]; omega⟩
    · have tl : decide ((j : Int) < (n : Int)) = false := decide_eq_false (by omega)
      have tl2 : decide (j < n) = false := decide_eq_false hlt
      have d2 : wr.cell? ⟨F, 1, none⟩ = some (.int .i64 at') := HS.out.blk.cell 1
      have f2 := HS.out.blk.frozen 1
      go_wp2_with fail
      exact ⟨rfl, _, by simp [results, Tryz.results15], rfl, HS.out.spo.set hn0 hF1 (.inr rfl) _⟩
set_option maxHeartbeats 1000000 in
theorem spoil_none (n0 n1 : Nat) (w : World) (h0 : n0 ≤ w.heap.size) : Calls Tryz.prog 15 #[.nilIface] w fun e w' => e = .returned (.tuple #[]) ∧ Spo n0 n1 w w' := by
  have hb1 := (Below.refl w.heap.size w).alloc (Nat.le_refl _) (.cells #[.pointer none] 71)
  go_enter Tryz.func15, Tryz.ntmps15
  go_wp2_with fail
  exact ⟨rfl, _, by simp [results, Tryz.results15], rfl, .of hb1 h0⟩
/-- Spoil, of what Check answered. -/
theorem spoil_check (r : Int × List Int) (w0 w1 w : World) (ev : Value) (hr : SCheckPost r w0 (.returned ev) w1) (hP : r.2.length ≤ 1000) (hb : Below w1.heap.size w1 w) (hE : ErrT w) (hz0 : 0 < w.heap.size) :
    Calls Tryz.prog 15 #[ev] w fun e w' => e = .returned (.tuple #[]) ∧ Spo w0.heap.size w1.heap.size w w' := by
  have hs0 := hr.1.size
  have hs1 := hb.size
  rcases hr.2 with ⟨_, he⟩ | ⟨_, v, he, F, pa, pc, hv', hF0, hF1, hF2, hF3⟩
  · injection he with e
    subst e
    exact spoil_none _ _ w (by omega)
  · injection he with e
    subst e
    subst hv'
    refine spoil_fault _ _ F r.2.length r.1 0 pa pc _ w hs1 hF0 hF1.lt hP (hF1.old hb) (fun j hj => ?_) hE hz0
    rcases hF2.form with ⟨e, e2⟩ | ⟨g, cap, e, h1, h2, h3, h4, h5⟩
    · rw [e2] at hj; simp at hj
    · injection e with e1 e2 e3
      subst e1
      have hgF : g ≠ F := fun e => hF3 (by rw [e]; simp [Value.ownBlock])
      refine ⟨g, _, rfl, h1, h2, hgF, fun cs hcs => ?_, (hb.cell (p := ⟨g, j, none⟩) h2).trans (h4 j hj), (hb.frozen (p := ⟨g, j, none⟩) h2).trans (h5 j)⟩
      obtain ⟨_, cs', f, hh⟩ := own_ge hF2 (j := g) (by simp [Value.ownBlock])
      have hh2 : w.heap[g]? = some (.cells cs' 3 f) := (hb.block g h2).trans hh
      rw [show w.heap[g]? = _ from hcs] at hh2
      cases hh2
end Go.Proofs.YtcbjnifoojjipaaGreatDoor

namespace Go.Proofs.YtcbjnifoojjipaaGreatDoor
open Go.RowKit Go.Vf

def laidC : List (String × DataW Unit) := [("math/bits.deBruijn32tab", Rows.laid_math_bits_deBruijn32tab), ("math/bits.deBruijn64tab", Rows.laid_math_bits_deBruijn64tab), ("internal/strconv.uint64pow10", Rows.laid_internal_strconv_uint64pow10), ("errors.errorType", Rows.laid_errors_errorType)]
theorem et_at : Tryz.prog.globalNamed "errors.errorType" = some 0 := by kernel_rfl
theorem et_rtype : (Tryz.prog.cutTypes.find? (·.1 == "internal/reflectlite.rtype")).map (·.2) = some 148 := by kernel_rfl
theorem et_one : ((List.range 259).filter fun t => Tryz.prog.rowNamed t [101, 114, 114, 111, 114]) = [34] := by kernel_rfl
theorem et_size : Tryz.prog.types.size = 259 := by kernel_rfl
theorem laid_partsC {W : World} (h : laidMetH Tryz.prog laidC W) : laidMet Tryz.prog laidN W ∧ handlesMet Tryz.prog [("errors.errorType", Rows.laid_errors_errorType)] W := h
theorem err_of_laid {W : World} (h : handlesMet Tryz.prog [("errors.errorType", Rows.laid_errors_errorType)] W) : ErrT W := by
  obtain ⟨name, u, ty, e1, e2, e3, e4, e5⟩ := h _ (List.mem_singleton.2 rfl)
  have en : name = [101, 114, 114, 111, 114] := (Option.some.inj e1).symm
  subst en
  obtain rfl := Option.some.inj (et_rtype.symm.trans e2)
  have hm : ty ∈ (List.range 259).filter fun t => Tryz.prog.rowNamed t [101, 114, 114, 111, 114] := List.mem_filter.2 ⟨List.mem_range.2 (by rw [← et_size]; exact e3), e4⟩
  rw [et_one] at hm
  obtain rfl := List.mem_singleton.1 hm
  have hh : typeHandle Tryz.prog 34 = .pointer (some ⟨5, 34, none⟩) := by kernel_rfl
  rw [hh] at e5
  have := World.var?_cell et_at e5 0
  unfold ErrT
  simpa using this
/-- A world that meets the condition: the variables' cells are laid. -/
noncomputable def laidWorldC (os : Os) : World :=
  let w0 := World.laidAll Tryz.prog os laidN
  { w0 with heap := w0.heap.modify 0 fun
      | .cells _ t frozen => .cells #[.iface 148 (.agg #[hnd 34])] t frozen
      | o => o }
theorem laid_metC (os : Os) (args : Array Value) : laidMetH Tryz.prog laidC ((laidWorldC os).forCall (fun _ _ => 0) ⟨#[], args, []⟩).memory :=
  laidMetH_of_parts (laidMet_of_run' 200 (by kernel_rfl) (by kernel_rfl)) (by kernel_rfl)
theorem laid_shapedC (os : Os) (args : Array Value) : ((laidWorldC os).forCall (fun _ _ => 0) ⟨#[], args, []⟩).Shaped Tryz.prog := World.shaped_of_ZipB (by kernel_rfl) (by kernel_rfl)
end Go.Proofs.YtcbjnifoojjipaaGreatDoor

namespace Go.Proofs.YtcbjnifoojjipaaGreatDoor
open Go.RowKit Go.Vf

def wgB : Nat := 67108864
def wgL (d : Nat) (n : Nat) : List Fld → Nat
  | [] => n
  | .mk o fl :: r => if n ≤ wgB then wgL d (n + 100 + o.name.size + o.lm.size + o.hm.size + (if 1000 < d + 1 then wgB + 1 else wgL (d + 1) 0 fl)) r else n
termination_by l => SizeOf.sizeOf l
def wg (d : Nat) (l : List Fld) : Nat := if 1000 < d then wgB + 1 else wgL d 0 l
theorem wgL_nil (d n : Nat) : wgL d n [] = n := by rw [wgL]
theorem wgL_above {d n : Nat} {l : List Fld} (h : ¬ n ≤ wgB) : wgL d n l = n := by
  cases l with
  | nil => rw [wgL]
  | cons f r => obtain ⟨o, fl⟩ := f; rw [wgL, if_neg h]
theorem wgL_cons {d n : Nat} {f : Fld} {r : List Fld} (h : n ≤ wgB) : wgL d n (f :: r) = wgL d (n + 100 + f.own.name.size + f.own.lm.size + f.own.hm.size + wg (d + 1) f.fields) r := by
  obtain ⟨o, fl⟩ := f; rw [wgL, if_pos h]; rfl
theorem wgL_le : ∀ (N : Nat) (l : List Fld), SizeOf.sizeOf l ≤ N → (∀ x ∈ l, FitsF 281474976710656 x) → ∀ (d n : Nat), d ≤ 1000 → n ≤ (1002 - d) * 1125899906842624 → wgL d n l ≤ (1002 - d) * 1125899906842624 := by
  intro N
  induction N with
  | zero => intro l h; cases l <;> simp at h
  | succ N ih =>
    intro l hl hf d n hd hn
    cases l with
    | nil => rw [wgL_nil]; exact hn
    | cons f r =>
      by_cases h : n ≤ wgB
      · have hff := hf f (by simp)
        have hs1 : SizeOf.sizeOf f.fields ≤ N := by obtain ⟨o, fl⟩ := f; simp [Fld.fields] at hl ⊢; omega
        have hs2 : SizeOf.sizeOf r ≤ N := by simp at hl; omega
        have hW : wgB = 67108864 := rfl
        have h1 := hff.own.nm
        have h2 := hff.own.lm
        have h3 := hff.own.hm
        rw [wgL_cons h]
        refine ih r hs2 (fun x hx => hf x (by simp [hx])) d _ hd ?_
        unfold wg
        split
        · omega
        · have := ih f.fields hs1 (fun x hx => hff.mem hx) (d + 1) 0 (by omega) (by omega)
          omega
      · rw [wgL_above h]; exact hn
theorem wg_le {l : List Fld} (hf : ∀ x ∈ l, FitsF 281474976710656 x) {d : Nat} (hd : d ≤ 1001) : wg d l ≤ 1128151706656309248 := by
  unfold wg
  split
  · show 67108864 + 1 ≤ _; omega
  · have := wgL_le _ l (Nat.le_refl _) hf d 0 (by omega) (by omega)
    omega
def WgOk (l : List Fld) : Prop := ∀ (a : Option Addr) (c lo n₀ d : Nat) (w : World), d ≤ 1001 → l.length ≤ 281474976710656 → (∀ x ∈ l, FitsF 281474976710656 x) → n₀ ≤ w.heap.size → FIn w lo n₀ l a →
    Calls Tryz.prog 29 #[.slice a l.length c, .int .i64 (d : Int)] w fun e w' => e = .returned (.int .i64 (wg d l : Nat)) ∧ ∃ n, w' = w.drewN n
set_option maxHeartbeats 4000000 in
set_option maxRecDepth 20000 in
theorem wg_step (l : List Fld) (ih : ∀ x ∈ l, WgOk x.fields) : WgOk l := by
  intro a c lo n₀ d w hd hl hf hn₀ hin
  by_cases h3 : 1000 < d
  · have hR : wg d l = 67108865 := by rw [wg, if_pos h3]; rfl
    rw [hR]
    have t1 : decide ((1000 : Int) < (d : Int)) = true := by simp; omega
    clear ih hin hf hR
    go_enter Tryz.func29, Tryz.ntmps29
    go_wp2_with fail
    go_ret
    exact ⟨rfl, 0, rfl⟩
  have t1 : decide ((1000 : Int) < (d : Int)) = false := by simp; omega
  obtain ⟨R, hR⟩ : ∃ R, wg d l = R := ⟨_, rfl⟩
  rw [hR]
  have HR : Hid (R = wgL d 0 (l.drop 0)) := by show _ = _; rw [← hR, wg, if_neg h3]; rfl
  have HW : Hid (wgB = 67108864) := rfl
  clear hR
  go_enter Tryz.func29, Tryz.ntmps29
  go_wp2_with fail
  go_loopw [5, 6] (fun nv iv wr => ∃ (j s q : Nat), j ≤ l.length ∧ iv = .int .i64 (j : Int) ∧ nv = .int .i64 (s : Int) ∧ Hid (R = wgL d s (l.drop j)) ∧ wr = w.drewN q) (fun _ iv _ => l.length - (intOf iv).toNat)
  case atStart => exact ⟨0, 0, 0, by omega, rfl, rfl, HR, rfl⟩
  case round =>
    clear HR
    obtain ⟨j, s, q, hj, rfl, rfl, HS, rfl⟩ := hrel
    by_cases hlt : j < l.length
    · by_cases hms : s ≤ wgB
      · have hms' : s ≤ 67108864 := hms
        have t2 : decide ((s : Int) ≤ 67108864) = true := by simp; omega
        have t3 : decide (s ≤ 67108864) = true := by simp; omega
        obtain ⟨bb, off, aj, cj, ha, _, _, hrow, hinj⟩ := hin.at hlt
        subst ha
        have hff := hf _ (List.getElem_mem hlt)
        have hih := ih _ (List.getElem_mem hlt)
        have HD : Hid (R = wgL d (s + 100 + l[j].own.name.size + l[j].own.lm.size + l[j].own.hm.size + wg (d + 1) l[j].fields) (l.drop (j + 1))) := by
          show _ = _
          rw [HS.out, List.drop_eq_getElem_cons hlt, wgL_cons hms]
        generalize l[j] = x at *
        have HROW : Hid (RowF w bb (off + j * 14) x.own aj x.fields.length cj) := hrow
        have k1 := hff.own.nm
        have k2 := hff.own.lm
        have k3 := hff.own.hm
        have hle : wg (d + 1) x.fields ≤ 1128151706656309248 := wg_le (fun z hz => hff.mem hz) (by omega)
        have HC : Hid (∀ n, Calls Tryz.prog 29 #[.slice aj x.fields.length cj, .int .i64 ((d : Int) + 1)] ((w.drewN q).drewN n) fun e w' => e = .returned (.int .i64 (wg (d + 1) x.fields : Nat)) ∧ ∃ m, w' = ((w.drewN q).drewN n).drewN m) := fun n => by
          have := hih aj cj lo n₀ (d + 1) ((w.drewN q).drewN n) (by omega) hff.len (fun z hz => hff.mem hz) (by exact hn₀) (hinj.keep' fun _ _ _ => rfl)
          rw [show ((d + 1 : Nat) : Int) = (d : Int) + 1 from rfl] at this
          exact this
        generalize wg (d + 1) x.fields = Q at HD hle HC
        clear HS ih hf hin hih hinj hrow
        obtain ⟨V, hV⟩ : ∃ V, V = w.drewN q := ⟨_, rfl⟩
        have HV : Hid (V = w.drewN q) := hV
        rw [← hV] at HC ⊢
        have hrV : RowF V bb (off + j * 14) x.own aj x.fields.length cj := HROW.out.of fun k => by rw [hV]; rfl
        clear hV
        obtain ⟨r0, r1, r2, r3, r4, r5, r6, r7, r8, r9, r10, r11, r12, r13⟩ := hrV
        have e1 : IntKind.i64.wrap ((s : Int) + 100) = (s : Int) + 100 := by rw [IntKind.wrap_i64] <;> omega
        have e2 : IntKind.i64.wrap ((s : Int) + 100 + (x.own.name.size : Int)) = (s : Int) + 100 + (x.own.name.size : Int) := by rw [IntKind.wrap_i64] <;> omega
        have e3 : IntKind.i64.wrap ((s : Int) + 100 + (x.own.name.size : Int) + (x.own.lm.size : Int)) = (s : Int) + 100 + (x.own.name.size : Int) + (x.own.lm.size : Int) := by rw [IntKind.wrap_i64] <;> omega
        have e4 : IntKind.i64.wrap ((s : Int) + 100 + (x.own.name.size : Int) + (x.own.lm.size : Int) + (x.own.hm.size : Int)) = (s : Int) + 100 + (x.own.name.size : Int) + (x.own.lm.size : Int) + (x.own.hm.size : Int) := by rw [IntKind.wrap_i64] <;> omega
        have e5 : IntKind.i64.wrap ((s : Int) + 100 + (x.own.name.size : Int) + (x.own.lm.size : Int) + (x.own.hm.size : Int) + (Q : Int)) = (s : Int) + 100 + (x.own.name.size : Int) + (x.own.lm.size : Int) + (x.own.hm.size : Int) + (Q : Int) := by rw [IntKind.wrap_i64] <;> omega
        have e6 : IntKind.i64.wrap ((d : Int) + 1) = (d : Int) + 1 := by rw [IntKind.wrap_i64] <;> omega
        have hltI : (j : Int) < (l.length : Int) := by omega
        go_upto_region 7 with fail
        go_quiet (first | (go_at_call 29; refine Calls.quiet_of (HC.out _)))
        clear HC
        go_wp2_with fail
        exact ⟨⟨j + 1, s + 100 + x.own.name.size + x.own.lm.size + x.own.hm.size + Q, q + nq, by omega, by simp, by rw [show ((s + 100 + x.own.name.size + x.own.lm.size + x.own.hm.size + Q : Nat) : Int) = (s : Int) + 100 + (x.own.name.size : Int) + (x.own.lm.size : Int) + (x.own.hm.size : Int) + (Q : Int) by omega], HD, by rw [HV.out, World.drewN_drewN]⟩, by simp only [intOf]; omega⟩
      · have t2 : decide ((s : Int) ≤ 67108864) = false := by have := HW.out; simp; omega
        have t3 : decide (s ≤ 67108864) = false := by have := HW.out; simp; omega
        have hRn : R = s := by rw [HS.out, wgL_above hms]
        subst hRn
        clear HS ih hf hin
        go_wp2_with fail
        go_ret
        exact ⟨rfl, q, rfl⟩
    · have hRn : R = s := by rw [HS.out, List.drop_of_length_le (by omega), wgL_nil]
      subst hRn
      clear HS ih hf hin
      go_wp2_with fail
      go_ret
      exact ⟨rfl, q, rfl⟩
theorem fld_wg : ∀ f : Fld, WgOk f.fields := fun f => by
  induction f using Fld.ind with
  | h o l ih => exact wg_step l ih
theorem wg_any (l : List Fld) : WgOk l := wg_step l fun x _ => fld_wg x
/-- Vast. -/
theorem vast_any (l : List Fld) (a : Option Addr) (c lo n₀ : Nat) (w : World) (hl : l.length ≤ 281474976710656) (hf : ∀ x ∈ l, FitsF 281474976710656 x) (hn₀ : n₀ ≤ w.heap.size) (hin : FIn w lo n₀ l a) :
    Calls Tryz.prog 10 #[.slice a l.length c] w fun e w' => e = .returned (.bool (decide (67108864 < wg 0 l))) ∧ ∃ n, w' = w.drewN n := by
  have h := wg_any l a c lo n₀ 0 w (by omega) hl hf hn₀ hin
  generalize wg 0 l = R at h ⊢
  go_enter Tryz.func10, Tryz.ntmps10
  go_wp2_with fail
  refine h.mono ?_
  rintro _ w2 ⟨rfl, n, rfl⟩
  clear h
  go_wp2_with fail
  go_ret
  exact ⟨by simp; omega, n, rfl⟩
theorem wgL_fits : ∀ (N : Nat) (l : List Fld), SizeOf.sizeOf l ≤ N → (∀ x ∈ l, FitsF 281474976710656 x) → ∀ (d n : Nat), wgL d n l ≤ wgB → n + 100 * l.length ≤ wgL d n l ∧ ∀ x ∈ l, FitsF 67108864 x := by
  intro N
  induction N with
  | zero => intro l h; cases l <;> simp at h
  | succ N ih =>
    intro l hl hf d n hle
    have hW : wgB = 67108864 := rfl
    cases l with
    | nil => rw [wgL_nil]; exact ⟨by simp, fun x hx => by simp at hx⟩
    | cons f r =>
      by_cases h : n ≤ wgB
      · have hff := hf f (by simp)
        have hs1 : SizeOf.sizeOf f.fields ≤ N := by obtain ⟨o, fl⟩ := f; simp [Fld.fields] at hl ⊢; omega
        have hs2 : SizeOf.sizeOf r ≤ N := by simp at hl; omega
        rw [wgL_cons h] at hle ⊢
        obtain ⟨g1, g2⟩ := ih r hs2 (fun x hx => hf x (by simp [hx])) d _ hle
        have hq : wg (d + 1) f.fields ≤ wgB := by omega
        have h3 : ¬ 1000 < d + 1 := fun h3 => by rw [wg, if_pos h3] at hq; omega
        rw [wg, if_neg h3] at hq
        obtain ⟨g3, g4⟩ := ih f.fields hs1 (fun x hx => hff.mem hx) _ _ hq
        refine ⟨by rw [List.length_cons]; omega, fun x hx => ?_⟩
        rcases List.mem_cons.1 hx with rfl | hx
        · have o := hff.own
          exact .mk ⟨o.k0, o.k1, o.n0, o.n1, by omega, by omega, by omega, o.m0, o.m1, o.s0, o.s1⟩ (by omega) g4
        · exact g2 x hx
      · rw [wgL_above h] at hle; exact absurd hle h
theorem FitsF.up {B B' : Nat} (hB : B ≤ B') : ∀ {f : Fld}, FitsF B f → FitsF B' f := by
  intro f h
  induction h with
  | mk o h1 _ ih => exact .mk ⟨o.k0, o.k1, o.n0, o.n1, Nat.le_trans o.nm hB, Nat.le_trans o.lm hB, Nat.le_trans o.hm hB, o.m0, o.m1, o.s0, o.s1⟩ (Nat.le_trans h1 hB) ih
theorem wg_fits {l : List Fld} (hf : ∀ x ∈ l, FitsF 281474976710656 x) (h : ¬ 67108864 < wg 0 l) : l.length ≤ 671088 ∧ (∀ x ∈ l, FitsF 67108864 x) ∧ ∀ x ∈ l, FitsF 17179869184 x := by
  have hW : wgB = 67108864 := rfl
  rw [wg, if_neg (by omega)] at h
  obtain ⟨h1, h2⟩ := wgL_fits _ l (Nat.le_refl _) hf 0 0 (by omega)
  exact ⟨by omega, h2, fun x hx => (h2 x hx).up (by omega)⟩
end Go.Proofs.YtcbjnifoojjipaaGreatDoor

namespace Go.Proofs.YtcbjnifoojjipaaGreatDoor
open Go.RowKit Go.Vf

/-- What writing leaves: what lies outside, and in each row its fields' lists or none. -/
structure Wst (lo n₀ : Nat) (w w' : World) : Prop where
  below : Below lo w w'
  above : ∀ b, n₀ ≤ b → b < w.heap.size → w'.heap[b]? = w.heap[b]?
  row : ∀ b cs, lo ≤ b → b < n₀ → Blk w b 48 cs → ∃ cs', Blk w' b 48 cs' ∧ cs'.size = cs.size ∧ ∀ i, (i + 3) * 14 ≤ cs.size → cs'[i * 14 + 13]? = cs[i * 14 + 13]? ∨ cs'[i * 14 + 13]? = some (.slice none 0 0)
theorem Wst.refl (lo n₀ : Nat) (w : World) : Wst lo n₀ w w := ⟨Below.refl _ _, fun _ _ _ => rfl, fun _ cs _ _ h => ⟨cs, h, rfl, fun _ _ => .inl rfl⟩⟩
theorem Wst.trans {lo n₀ : Nat} {a b c : World} (h : Wst lo n₀ a b) (k : Wst lo n₀ b c) : Wst lo n₀ a c := by
  refine ⟨h.below.trans k.below, fun x h1 h2 => (k.above x h1 (Nat.lt_of_lt_of_le h2 h.below.size)).trans (h.above x h1 h2), fun x cs h1 h2 hx => ?_⟩
  obtain ⟨cs', a1, a2, a3⟩ := h.row x cs h1 h2 hx
  obtain ⟨cs'', b1, b2, b3⟩ := k.row x cs' h1 h2 a1
  refine ⟨cs'', b1, b2.trans a2, fun i hi => ?_⟩
  rcases b3 i (by rw [a2]; exact hi) with e | e
  · rw [e]; exact a3 i hi
  · exact .inr e
theorem Wst.of {lo n₀ : Nat} {w w' : World} (hb : Below w.heap.size w w') (hlo : lo ≤ w.heap.size) : Wst lo n₀ w w' :=
  ⟨hb.mono hlo, fun b _ h => hb.block b h, fun _ cs _ _ h => ⟨cs, h.old hb, rfl, fun _ _ => .inl rfl⟩⟩
/-- A change of one row alone. -/
theorem Wst.one {lo n₀ b : Nat} {w w' : World} {cs cs' : Array Value} (h1 : lo ≤ b) (h2 : b < n₀) (hO : w.grownBy w' (some b)) (hlo : lo ≤ w.heap.size) (hB : Blk w b 48 cs) (hB' : Blk w' b 48 cs') (hz : cs'.size = cs.size) (hc : ∀ i, (i + 3) * 14 ≤ cs.size → cs'[i * 14 + 13]? = cs[i * 14 + 13]? ∨ cs'[i * 14 + 13]? = some (.slice none 0 0)) : Wst lo n₀ w w' := by
  refine ⟨(Below.refl lo w).grown hO hlo (fun j e => by cases e; exact h1), fun x q1 q2 => hO.block x q2 (by simp; omega), fun x ds q1 q2 hx => ?_⟩
  by_cases hxb : x = b
  · subst hxb
    have e := hB.symm.trans hx
    cases e
    exact ⟨cs', hB', hz, hc⟩
  · exact ⟨ds, (hO.block x hx.lt (by simp; omega)).trans hx, rfl, fun _ _ => .inl rfl⟩
/-- Rows that may be written. -/
inductive Wf (w : World) (lo n₀ : Nat) : List Fld → Nat → Prop where
  | row {l : List Fld} {b : Nat} (G : Nat → Nat) (cs : Array Value) : lo ≤ b → b < n₀ → Blk w b 48 cs → cs.size = (l.length + 2) * 14 →
      (∀ j (hj : j < l.length), cs[j * 14 + 13]? = some (.slice (some ⟨G j, 0, none⟩) l[j].fields.length (l[j].fields.length + 2)) ∨ cs[j * 14 + 13]? = some (.slice none 0 0)) → (∀ j (hj : j < l.length), Wf w lo n₀ l[j].fields (G j)) → Wf w lo n₀ l b
theorem Wf.step {w w' : World} {lo n₀ : Nat} {l : List Fld} {b : Nat} (h : Wf w lo n₀ l b) (hs : Wst lo n₀ w w') : Wf w' lo n₀ l b := by
  induction h with
  | @row l b G cs h1 h2 hB hz hc _ ih =>
    obtain ⟨cs', a1, a2, a3⟩ := hs.row b cs h1 h2 hB
    refine .row G cs' h1 h2 a1 (a2.trans hz) (fun j hj => ?_) ih
    rcases a3 j (by rw [hz]; omega) with e | e
    · rw [e]; exact hc j hj
    · exact .inr e
theorem LIf.wf {w : World} {lo n₀ : Nat} {l : List Fld} {b : Nat} (h : LIf w lo n₀ l b) : Wf w lo n₀ l b := by
  induction h with
  | @row l b G h1 h2 hB _ h4 _ ih =>
    obtain ⟨cs, e1, e2⟩ := hB
    exact .row G cs h1 h2 e1 e2 (fun j hj => .inl ((e1.cell _).symm.trans (h4 j hj).c13)) ih
def WrOk (l : List Fld) : Prop := ∀ (b lo n₀ : Nat) (w : World), Wf w lo n₀ l b → n₀ ≤ w.heap.size → lo ≤ w.heap.size → l.length ≤ 67108864 → (∀ x ∈ l, FitsF 67108864 x) →
  Calls Tryz.prog 17 #[.slice (some ⟨b, 0, none⟩) l.length (l.length + 2)] w fun e w' => e = .returned (.tuple #[]) ∧ Wst lo n₀ w w'
def news78 : List Value := [.string ⟨#[]⟩, .int .u8 78, .bool false, .int .u8 0, .bool false, .bool false, .string ⟨#[]⟩, .bool false, .string ⟨#[]⟩, .int .i64 0, .int .i64 0, .bool false, .bool false, .slice none 0 0]
theorem news78_at (W : World) : ∀ (j : Nat) u, news78[j]? = some u → (W.alloc (.cells news78.toArray 48)).cell? ((⟨W.heap.size, 0, none⟩ : Addr).add j) = some u := fun j u hu => by
  have hN := Blk.new W 48 news78.toArray
  rw [show (⟨W.heap.size, 0, none⟩ : Addr).add j = ⟨W.heap.size, j, none⟩ by simp [Addr.add]; omega, hN.cell j]
  simpa using hu
theorem news78_one : ∀ u ∈ news78, u.oneCell' = true := by
  intro u hu
  simp only [news78, List.mem_cons, List.not_mem_nil, or_false] at hu
  rcases hu with h | h | h | h | h | h | h | h | h | h | h | h | h | h <;> (subst h; rfl)
set_option maxHeartbeats 2000000 in
theorem write_nil (w : World) : Calls Tryz.prog 17 #[.slice none 0 0] w fun e w' => e = .returned (.tuple #[]) ∧ Below w.heap.size w w' := by
  obtain ⟨i, hi, hz, hsz, hby⟩ := info_parts info57
  have hb1 := (Below.refl w.heap.size w).alloc (Nat.le_refl _) (.cells news78.toArray 48)
  have hat := news78_at w
  go_enter Tryz.func17, Tryz.ntmps17
  go_wp2
  refine wp_loop_rounds 1 ?_
  rw [rounds_succ]
  unfold news78 at hb1 hat
  go_upto_region 6 with (first | (at_builtin; refine wpList_append_own_at _ rfl _ _ 23 rfl w.heap.size 48 i _ 14 120 Tryz.underlying23 hi hz hsz hby rfl (by decide) (.slice none 0 0) 0 [] rfl (World.ownsRow_nil _ _ _ _) ⟨w.heap.size, 0, none⟩ 1 1 _ rfl rfl hat news78_one (by unfold maxLen; omega) (by omega) (by simp) ?_; intro v' w' h1 h2 h3 h4))
  rcases h1.2 with ⟨_, hbad⟩ | ⟨g, cap, cur, rfl, hg, hh, hc1, hc2, hc3, hc4⟩
  · omega
  have k0 : ∃ v, w'.cell? ⟨g, 0, none⟩ = some v := by
    have hq : w'.cell? ⟨g, 0, none⟩ = cur[0]? := by simp [World.cell?, hh]
    exact ⟨_, hq.trans (Array.getElem?_eq_getElem (by rw [hc3]; omega))⟩
  obtain ⟨v0, k0⟩ := k0
  have kf : w'.frozen? ⟨g, 0, none⟩ = false := by simp [World.frozen?, hh]
  have hbw : Below w.heap.size w w' := hb1.grown h2 hb1.size (fun j e => by cases e)
  simp only [Nat.zero_add]
  clear h1 h2 h3 h4 hat hb1 hh hc4
  go_wp2_with fail
  exact ⟨rfl, _, by simp [results, Tryz.results17], rfl, hbw.setCell (p := ⟨g, 0, none⟩) hg _⟩
set_option maxHeartbeats 4000000 in
set_option maxRecDepth 20000 in
theorem write_step (l : List Fld) (ih : ∀ x ∈ l, WrOk x.fields) : WrOk l := by
  intro b lo n₀ w hwf hn₀ hlo hll hfit
  obtain ⟨n, hn⟩ : ∃ n, l.length = n := ⟨_, rfl⟩
  have HN : Hid (l.length = n) := hn
  rw [hn]
  have hnl : n ≤ 67108864 := by omega
  have HWF : Hid (Wf w lo n₀ l b) := hwf
  have HFIT : Hid (∀ x ∈ l, FitsF 67108864 x) := hfit
  have HIH : Hid (∀ x ∈ l, WrOk x.fields) := ih
  clear hn hll hwf hfit ih
  go_enter Tryz.func17, Tryz.ntmps17
  go_upto_region 1 with fail
  go_loopw [2] (fun i wr => ∃ j : Nat, j ≤ n ∧ i = .int .i64 j ∧ Hid (Wst lo n₀ w wr)) (fun i _ => n - (intOf i).toNat)
  case atStart => exact ⟨0, by omega, rfl, Wst.refl _ _ _⟩
  case round =>
    obtain ⟨j, hj, rfl, HST⟩ := hrel
    have hsz := HST.out.below.size
    have hwf2 := HWF.out.step HST.out
    have hln := HN.out
    by_cases hlt : j < n
    · have hjl : j < l.length := by omega
      have hx := HFIT.out _ (List.getElem_mem hjl)
      have hihx := HIH.out _ (List.getElem_mem hjl)
      have hrec : ∃ v, wr.cell? ⟨b, j * 14 + 13, none⟩ = some v ∧ (∃ a' n' c', v = .slice a' n' c') ∧ Calls Tryz.prog 17 #[v] wr (fun e w' => e = .returned (.tuple #[]) ∧ Wst lo n₀ wr w') := by
        cases hwf2 with
        | row G cs h1 h2 hB hz hc hin =>
          rcases hc j hjl with e | e
          · exact ⟨_, (hB.cell _).trans e, ⟨_, _, _, rfl⟩, hihx (G j) lo n₀ wr (hin j hjl) (by omega) (by omega) hx.len (fun z hz => hx.mem hz)⟩
          · exact ⟨_, (hB.cell _).trans e, ⟨_, _, _, rfl⟩, (write_nil wr).mono fun e w' h => ⟨h.1, Wst.of h.2 (by omega)⟩⟩
      obtain ⟨v, hv, ⟨a', n', c', rfl⟩, hcall⟩ := hrec
      have hbl : b < wr.heap.size := World.block_lt_of_cell? wr _ hv
      clear hwf2 hx hihx hln
      go_wp2_with fail
      refine hcall.mono ?_
      clear hcall hv
      rintro _ w3 ⟨rfl, hst3⟩
      have HST3 : Hid (Wst lo n₀ w w3) := HST.out.trans hst3
      have hwf3 := HWF.out.step HST3.out
      have hblk : ∃ cs, lo ≤ b ∧ b < n₀ ∧ Blk w3 b 48 cs ∧ cs.size = (n + 2) * 14 := by
        have hln := HN.out
        cases hwf3 with
        | row G cs h1 h2 hB hz hc hin => exact ⟨cs, h1, h2, hB, by rw [hz, hln]⟩
      obtain ⟨cs3, hb1, hb2, hB3, hz3⟩ := hblk
      have HB3 : Hid (Blk w3 b 48 cs3) := hB3
      obtain ⟨v0, u0⟩ : ∃ v, w3.cell? ⟨b, j * 14, none⟩ = some v := ⟨_, (hB3.cell _).trans (Array.getElem?_eq_getElem (by rw [hz3]; omega))⟩
      have f0 : w3.frozen? ⟨b, j * 14, none⟩ = false := hB3.frozen _
      obtain ⟨v1, u1⟩ : ∃ v, w3.cell? ⟨b, j * 14 + 1, none⟩ = some v := ⟨_, (hB3.cell _).trans (Array.getElem?_eq_getElem (by rw [hz3]; omega))⟩
      have f1 : w3.frozen? ⟨b, j * 14 + 1, none⟩ = false := hB3.frozen _
      obtain ⟨v2, u2⟩ : ∃ v, w3.cell? ⟨b, j * 14 + 2, none⟩ = some v := ⟨_, (hB3.cell _).trans (Array.getElem?_eq_getElem (by rw [hz3]; omega))⟩
      have f2 : w3.frozen? ⟨b, j * 14 + 2, none⟩ = false := hB3.frozen _
      obtain ⟨v3, u3⟩ : ∃ v, w3.cell? ⟨b, j * 14 + 3, none⟩ = some v := ⟨_, (hB3.cell _).trans (Array.getElem?_eq_getElem (by rw [hz3]; omega))⟩
      have f3 : w3.frozen? ⟨b, j * 14 + 3, none⟩ = false := hB3.frozen _
      obtain ⟨v4, u4⟩ : ∃ v, w3.cell? ⟨b, j * 14 + 4, none⟩ = some v := ⟨_, (hB3.cell _).trans (Array.getElem?_eq_getElem (by rw [hz3]; omega))⟩
      have f4 : w3.frozen? ⟨b, j * 14 + 4, none⟩ = false := hB3.frozen _
      obtain ⟨v5, u5⟩ : ∃ v, w3.cell? ⟨b, j * 14 + 5, none⟩ = some v := ⟨_, (hB3.cell _).trans (Array.getElem?_eq_getElem (by rw [hz3]; omega))⟩
      have f5 : w3.frozen? ⟨b, j * 14 + 5, none⟩ = false := hB3.frozen _
      obtain ⟨v6, u6⟩ : ∃ v, w3.cell? ⟨b, j * 14 + 6, none⟩ = some v := ⟨_, (hB3.cell _).trans (Array.getElem?_eq_getElem (by rw [hz3]; omega))⟩
      have f6 : w3.frozen? ⟨b, j * 14 + 6, none⟩ = false := hB3.frozen _
      obtain ⟨v7, u7⟩ : ∃ v, w3.cell? ⟨b, j * 14 + 7, none⟩ = some v := ⟨_, (hB3.cell _).trans (Array.getElem?_eq_getElem (by rw [hz3]; omega))⟩
      have f7 : w3.frozen? ⟨b, j * 14 + 7, none⟩ = false := hB3.frozen _
      obtain ⟨v8, u8⟩ : ∃ v, w3.cell? ⟨b, j * 14 + 8, none⟩ = some v := ⟨_, (hB3.cell _).trans (Array.getElem?_eq_getElem (by rw [hz3]; omega))⟩
      have f8 : w3.frozen? ⟨b, j * 14 + 8, none⟩ = false := hB3.frozen _
      obtain ⟨v9, u9⟩ : ∃ v, w3.cell? ⟨b, j * 14 + 9, none⟩ = some v := ⟨_, (hB3.cell _).trans (Array.getElem?_eq_getElem (by rw [hz3]; omega))⟩
      have f9 : w3.frozen? ⟨b, j * 14 + 9, none⟩ = false := hB3.frozen _
      obtain ⟨v10, u10⟩ : ∃ v, w3.cell? ⟨b, j * 14 + 10, none⟩ = some v := ⟨_, (hB3.cell _).trans (Array.getElem?_eq_getElem (by rw [hz3]; omega))⟩
      have f10 : w3.frozen? ⟨b, j * 14 + 10, none⟩ = false := hB3.frozen _
      obtain ⟨v11, u11⟩ : ∃ v, w3.cell? ⟨b, j * 14 + 11, none⟩ = some v := ⟨_, (hB3.cell _).trans (Array.getElem?_eq_getElem (by rw [hz3]; omega))⟩
      have f11 : w3.frozen? ⟨b, j * 14 + 11, none⟩ = false := hB3.frozen _
      obtain ⟨v12, u12⟩ : ∃ v, w3.cell? ⟨b, j * 14 + 12, none⟩ = some v := ⟨_, (hB3.cell _).trans (Array.getElem?_eq_getElem (by rw [hz3]; omega))⟩
      have f12 : w3.frozen? ⟨b, j * 14 + 12, none⟩ = false := hB3.frozen _
      obtain ⟨v13, u13⟩ : ∃ v, w3.cell? ⟨b, j * 14 + 13, none⟩ = some v := ⟨_, (hB3.cell _).trans (Array.getElem?_eq_getElem (by rw [hz3]; omega))⟩
      have f13 : w3.frozen? ⟨b, j * 14 + 13, none⟩ = false := hB3.frozen _
      have hbl3 : b < w3.heap.size := hB3.lt
      clear hwf3 hst3 HST hB3
      go_wp2_with fail
      have hset := setL_blk [.string ⟨#[119, 114, 105, 116, 116, 101, 110]⟩, .int .u8 77, .bool false, .int .u8 0, .bool false, .bool false, .string ⟨#[]⟩, .bool false, .string ⟨#[]⟩, .int .i64 0, .int .i64 0, .bool false, .bool false, .slice none 0 0] w3 (j * 14) cs3 HB3.out (by rw [hz3]; simp; omega)
      obtain ⟨cs4, q1, q2, q3, q4⟩ := hset
      have hgr : w3.grownBy (setL w3 b (j * 14) [.string ⟨#[119, 114, 105, 116, 116, 101, 110]⟩, .int .u8 77, .bool false, .int .u8 0, .bool false, .bool false, .string ⟨#[]⟩, .bool false, .string ⟨#[]⟩, .int .i64 0, .int .i64 0, .bool false, .bool false, .slice none 0 0]) (some b) := ⟨(setL_below (B := 0) (Nat.zero_le _) _ w3 _ (Below.refl 0 w3)).os, (setL_below (B := 0) (Nat.zero_le _) _ w3 _ (Below.refl 0 w3)).tape, (setL_below (B := 0) (Nat.zero_le _) _ w3 _ (Below.refl 0 w3)).output, by rw [setL_size]; exact Nat.le_refl _, fun k _ hk => setL_other (by simpa using hk) _ _ _⟩
      have hw4 : Wst lo n₀ w3 (setL w3 b (j * 14) [.string ⟨#[119, 114, 105, 116, 116, 101, 110]⟩, .int .u8 77, .bool false, .int .u8 0, .bool false, .bool false, .string ⟨#[]⟩, .bool false, .string ⟨#[]⟩, .int .i64 0, .int .i64 0, .bool false, .bool false, .slice none 0 0]) := by
        refine Wst.one hb1 hb2 hgr (Nat.le_trans hlo HST3.out.below.size) HB3.out q1 q2 (fun i _ => ?_)
        by_cases hij : i = j
        · subst hij
          exact .inr (q3 13 (by simp))
        · exact .inl (q4 _ (by simp; omega))
      refine ⟨⟨j + 1, by omega, by simp, HST3.out.trans hw4⟩, by simp only [intOf]; omega⟩
    · have hjn : j = n := by omega
      have hblk : ∃ cs, lo ≤ b ∧ b < n₀ ∧ Blk wr b 48 cs ∧ cs.size = (n + 2) * 14 := by
        cases hwf2 with
        | row G cs h1 h2 hB hz hc hin => exact ⟨cs, h1, h2, hB, by rw [hz, hln]⟩
      obtain ⟨cs3, hb1, hb2, hB3, hz3⟩ := hblk
      obtain ⟨i, hi, hz, hsz', hby⟩ := info_parts info57
      have hb4 := (Below.refl wr.heap.size wr).alloc (Nat.le_refl _) (.cells news78.toArray 48)
      have hat := news78_at wr
      have hB4 := hB3.old hb4
      have hown : (wr.alloc (.cells news78.toArray 48)).ownsRow lo 48 14 (.slice (some ⟨b, 0, none⟩) n (n + 2)) n (cs3.toList.take (n * 14)) := by
        refine ⟨by rw [List.length_take, Array.length_toList, hz3]; omega, .inr ⟨b, n + 2, cs3, rfl, hb1, hB4, by omega, by unfold maxLen; omega, hz3, rfl⟩⟩
      have HB3 : Hid (Blk wr b 48 cs3) := hB3
      have HB4 : Hid (Below wr.heap.size wr (wr.alloc (.cells news78.toArray 48))) := hb4
      clear hwf2 hB3 hB4 hjn hb4
      unfold news78 at hat hown HB4
      go_upto_region 6 with (first | (at_builtin; refine wpList_append_fits _ rfl _ _ 23 rfl lo 48 i 14 Tryz.underlying23 hi hsz' b n (n + 2) (cs3.toList.take (n * 14)) rfl hown ⟨wr.heap.size, 0, none⟩ 1 1 _ rfl rfl hat news78_one (by omega) ?_; intro w7 h1 h2))
      obtain ⟨cur, hh, hcz, htk⟩ : ∃ cur : Array Value, Blk w7 b 48 cur ∧ cur.size = (n + 2) * 14 ∧ cur.toList.take ((n + 1) * 14) = cs3.toList.take (n * 14) ++ news78 := by
        rcases h1.2 with ⟨hv, _⟩ | ⟨g, cap, cur, hv, _, hh, _, _, hc3, hc4⟩
        · cases hv
        · cases hv
          exact ⟨cur, hh, hc3, hc4⟩
      have hw7 : Wst lo n₀ wr w7 := by
        refine (Wst.of HB4.out (by omega)).trans ?_
        have hB4 : Blk (wr.alloc (.cells news78.toArray 48)) b 48 cs3 := HB3.out.old HB4.out
        refine Wst.one hb1 hb2 h2 (Nat.le_trans (by omega) HB4.out.size) hB4 hh (hcz.trans hz3.symm) (fun k hk => .inl ?_)
        have hk2 : k < n := by rw [hz3] at hk; omega
        have e1 := congrArg (fun L : List Value => L[k * 14 + 13]?) htk
        rw [List.getElem?_take_of_lt (by omega), List.getElem?_append_left (by rw [List.length_take, Array.length_toList, hz3]; omega), List.getElem?_take_of_lt (by omega)] at e1
        simpa using e1
      have HW7 : Hid (Wst lo n₀ w w7) := HST.out.trans hw7
      obtain ⟨v0, k0⟩ : ∃ v, w7.cell? ⟨b, n * 14, none⟩ = some v := ⟨_, (hh.cell _).trans (Array.getElem?_eq_getElem (by rw [hcz]; omega))⟩
      have kf : w7.frozen? ⟨b, n * 14, none⟩ = false := hh.frozen _
      have HH : Hid (Blk w7 b 48 cur) := hh
      have e1 : ((n + 1 : Nat) : Int) - 1 = (n : Int) := by omega
      have hn1 : (n : Int) < ((n + 1 : Nat) : Int) := by omega
      clear h1 h2 hat hown htk hw7 HB4 hh
      go_wp2_with fail
      refine ⟨rfl, _, by simp [results, Tryz.results17], rfl, HW7.out.trans ?_⟩
      have hS := HH.out.set (n * 14) (.string ⟨#[98, 101, 104, 105, 110, 100]⟩)
      refine Wst.one hb1 hb2 ⟨rfl, rfl, rfl, by simp [World.setCell], fun k _ hk => Below.heap_setCell w7 ⟨b, n * 14, none⟩ _ k (by simpa using hk)⟩ (Nat.le_trans hlo HW7.out.below.size) HH.out hS (by simp) (fun k _ => .inl ?_)
      rw [Array.getElem?_setIfInBounds, if_neg (by omega)]
theorem write_fld : ∀ f : Fld, WrOk f.fields := fun f => by
  induction f using Fld.ind with
  | h o l ih => exact write_step l ih
theorem write_any (l : List Fld) : WrOk l := write_step l fun x _ => write_fld x
end Go.Proofs.YtcbjnifoojjipaaGreatDoor

namespace Go.Proofs.YtcbjnifoojjipaaGreatDoor
open Go.RowKit Go.Vf

theorem tourL_len (Q : Go.Vf.Own → Bool) : ∀ (N : Nat) (l : List Fld), SizeOf.sizeOf l ≤ N → ∀ (P : List Int) (ah : List Fld) (n : Nat) (c : Int) (p : List Int) (m : Nat), P.length ≤ 16 → tourL Q P ah n l = .bad c p m → p.length ≤ 17 := by
  intro N
  induction N with
  | zero => intro l h; cases l <;> simp at h
  | succ N ih =>
    intro l hl P ah n c p m hP h
    cases l with
    | nil => rw [tourL_nil] at h; cases h
    | cons f r =>
      obtain ⟨o, fl⟩ := f
      have hs1 : SizeOf.sizeOf fl ≤ N := by simp at hl; omega
      have hs2 : SizeOf.sizeOf r ≤ N := by simp at hl; omega
      by_cases h0 : seeF Q (P.length + 1) (n + 1) ah (.mk o fl) = 0
      · cases h1 : tourL Q (P ++ [(ah.length : Int)]) [] (n + 1) fl with
        | bad c' p' q =>
          rw [tourL_in Q P ah n (.mk o fl) r h0 h1] at h
          cases h
          exact ih fl hs1 _ _ _ _ _ _ (by rw [List.length_append]; exact (see_room h0).2) h1
        | ok q =>
          rw [tourL_on Q P ah n (.mk o fl) r h0 h1] at h
          exact ih r hs2 _ _ _ _ _ _ hP h
      · rw [tourL_bad Q P ah n (.mk o fl) r h0] at h
        cases h
        rw [List.length_append]; simp; omega
theorem chkS_len (Q : Go.Vf.Own → Bool) (limit : Int) (l : List Fld) : (chkS Q limit l).2.length ≤ 17 := by
  unfold chkS
  split
  · simp
  · split
    · simp
    · cases h : tourL Q [] [] 0 l with
      | ok m => simp
      | bad c p m => exact tourL_len Q _ l (Nat.le_refl _) _ _ _ _ _ _ (by simp) h
set_option maxHeartbeats 1000000 in
theorem keepIs_none (v2 : Value) (w : World) (a : Option Addr) (n c : Nat) (hv : v2 = .slice a n c) : Calls Tryz.prog 14 #[.nilIface, .agg #[.int .i64 0, .int .i64 0, v2]] w fun e w' => e = .returned (.bool true) ∧ Below w.heap.size w w' := by
  subst hv
  have hb1 := (Below.refl w.heap.size w).alloc (Nat.le_refl _) (.cells #[.int .i64 0, .int .i64 0, .slice a n c] 31)
  go_enter Tryz.func14, Tryz.ntmps14
  go_wp2_with fail
  go_ret
  exact ⟨rfl, hb1⟩
theorem own_keepI {w w' : World} {base : Nat} {v : Value} {zs : List Int} (h : IOwn w base v zs) (hs : ∀ j, v.ownBlock = some j → w'.heap[j]? = w.heap[j]?) : IOwn w' base v zs := by
  obtain ⟨h1, h2⟩ := h
  refine ⟨h1, ?_⟩
  rcases h2 with h2 | ⟨g, cap, cur, rfl, e2, e3, e4⟩
  · exact .inl h2
  · exact .inr ⟨g, cap, cur, rfl, e2, (hs g rfl).trans e3, e4⟩
/-- Is, of what Check answered, where its blocks are as they were. -/
theorem is_check (r : Int × List Int) (w0 w1 w : World) (ev : Value) (hr : SCheckPost r w0 (.returned ev) w1) (hP : r.2.length ≤ 1000) (hk : ∀ b, w0.heap.size ≤ b → b < w1.heap.size → w.heap[b]? = w1.heap[b]?) (v2 : Value) (hv2 : Ints w.heap.size w v2 r.2) (hE : ErrT w) :
    Calls Tryz.prog 14 #[ev, .agg #[.int .i64 r.1, .int .i64 0, v2]] w fun e w' => e = .returned (.bool true) ∧ Below w.heap.size w w' := by
  obtain ⟨ya, yc, hy⟩ := hv2.val
  rcases hr.2 with ⟨h0, he⟩ | ⟨hne, v, he, F, pa, pc, hv', hF0, hF1, hF2, hF3⟩
  · injection he with e
    subst e
    rw [h0]
    exact keepIs_none v2 w _ _ _ hy
  · injection he with e
    subst e
    subst hv'
    have hB : Blk w F 75 _ := (hk F hF0 hF1.lt).trans hF1
    have hz1 : Ints w.heap.size w (.slice pa r.2.length pc) r.2 := IOwn.ints (base := w0.heap.size) (own_keepI hF2 fun i hi => by obtain ⟨h1, cs', f, hh⟩ := own_ge hF2 hi; exact hk i h1 (Array.getElem?_eq_some_iff.1 hh).1)
    exact keepIs_path F r.1 0 _ v2 r.2 (by omega) w hne hE (hB.cell 0) (hB.cell 1) (hB.cell 2) hz1 hv2
end Go.Proofs.YtcbjnifoojjipaaGreatDoor
