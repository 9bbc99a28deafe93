/- Contracts and lemmas (nothing is claimed here). -/
import Derived.Test.YtcbjnifoojjipaaGreatDoorJ2
import Derived.Test.YtcbjnifoojjipaaGreatDoorJ8
import Derived.Deep.RegionHeld
import Derived.Test.YtcbjnifoojjipaaGreatDoorSPar
namespace Go.Proofs.YtcbjnifoojjipaaGreatDoor
open Go.RowKit Go.Vf
theorem eqN27 (n : Bool) (m : ByteArray) (w : World) : (Op.equalIn 10000 44 (.agg #[.bool n, .string m]) (.agg #[.bool n, .string m])).run Tryz.prog w = .ok true w := by
  rw [num_eq]; simp
theorem eqC55 (s : Int) (x y : Bool) (w : World) : (Op.equalIn 10000 46 (.agg #[.int .i64 s, .bool x, .bool y]) (.agg #[.int .i64 s, .bool x, .bool y])).run Tryz.prog w = .ok true w := by
  have h : ∀ d, (Op.equalIn (d + 1 + 1) 46 (.agg #[.int .i64 s, .bool x, .bool y]) (.agg #[.int .i64 s, .bool x, .bool y])).run Tryz.prog w = .ok true w := fun d => by
    simp [go_sem]
  exact h 9998
theorem sameFields_none (w : World) : Calls Tryz.prog 28 #[.slice none 0 0, .slice none 0 0] w fun e w' => e = .returned (.bool true) ∧ w' = w := by
  go_enter Tryz.func28, Tryz.ntmps28
  go_wp2
  refine wp_loop_rounds 1 ?_
  rw [rounds_succ]
  go_wp2
  go_ret
  exact ⟨rfl, rfl⟩
set_option maxHeartbeats 4000000 in
set_option maxRecDepth 20000 in
theorem sameField_nil (o : Go.Vf.Own) (w : World) : Calls Tryz.prog 20 #[fV o none 0 0, fV o none 0 0] w fun e w' => e = .returned (.bool true) ∧ Below w.heap.size w w' := by
  have hb1 := (Below.refl w.heap.size w).alloc (Nat.le_refl _) (.cells (cellsF o none 0 0) 48)
  have hs1 := alloc_size w (.cells (cellsF o none 0 0) 48)
  have hA1 := Blk.new w 48 (cellsF o none 0 0)
  have hb12 := (Below.refl _ (w.alloc (.cells (cellsF o none 0 0) 48))).alloc (Nat.le_refl _) (.cells (cellsF o none 0 0) 48)
  have hB2 := Blk.new (w.alloc (.cells (cellsF o none 0 0) 48)) 48 (cellsF o none 0 0)
  have hA2 := hA1.old hb12
  have hb2 := hb1.trans (hb12.mono hb1.size)
  have q1 := eqN27 o.ln o.lm
  have q2 := eqN27 o.hn o.hm
  have q3 := eqC55 o.str o.shf o.bck
  have hsf := fun W => sameFields_none W
  rw [hs1] at hB2
  unfold fV
  simp only [cellsF] at hb1 hA1 hA2 hB2 hb12 hb2 hs1
  go_enter Tryz.func20, Tryz.ntmps20
  go_upto_region 1 with fail
  generalize (w.alloc (.cells #[.string o.name, .int .u8 o.kind, .bool o.down, .int .u8 o.nulls, .bool o.bnd, .bool o.ln, .string o.lm, .bool o.hn, .string o.hm, .int .i64 o.most, .int .i64 o.str, .bool o.shf, .bool o.bck, .slice none 0 0] 48)).alloc (.cells #[.string o.name, .int .u8 o.kind, .bool o.down, .int .u8 o.nulls, .bool o.bnd, .bool o.ln, .string o.lm, .bool o.hn, .string o.hm, .int .i64 o.most, .int .i64 o.str, .bool o.shf, .bool o.bck, .slice none 0 0] 48) = w2 at *
  obtain ⟨c0, c1, c2, c3, c4, c5, c6, c7, c8, c9, c10, c11, c12, c13⟩ := hA2.c14
  obtain ⟨d0, d1, d2, d3, d4, d5, d6, d7, d8, d9, d10, d11, d12, d13⟩ := hB2.c14
  have hsf2 := hsf w2
  clear hsf hA1 hA2 hB2 hb1 hb12 hs1
  go_wp2_with fail
  refine hsf2.mono ?_
  rintro _ w3 ⟨rfl, hw3⟩
  rw [hw3]
  clear hsf2 hw3
  go_wp2_with fail
  go_ret
  exact ⟨rfl, hb2⟩
def SfOk (l : List Fld) : Prop := ∀ (a b : Option Addr) (ca cb lo n₀ lo' n₁ : Nat) (w : World), FIn w lo n₀ l a → FIn w lo' n₁ l b → n₀ ≤ w.heap.size → n₁ ≤ w.heap.size → l.length ≤ 17179869184 → (∀ x ∈ l, FitsF 17179869184 x) →
  Calls Tryz.prog 28 #[.slice a l.length ca, .slice b l.length cb] w fun e w' => e = .returned (.bool true) ∧ Below w.heap.size w w'
set_option maxHeartbeats 4000000 in
set_option maxRecDepth 20000 in
theorem sameField_eq (o : Go.Vf.Own) (l : List Fld) (hsf : SfOk l) (a b : Option Addr) (ca cb lo n₀ lo' n₁ : Nat) (w : World) (ha : FIn w lo n₀ l a) (hb : FIn w lo' n₁ l b) (hn₀ : n₀ ≤ w.heap.size) (hn₁ : n₁ ≤ w.heap.size) (hl : l.length ≤ 17179869184) (hfit : ∀ x ∈ l, FitsF 17179869184 x) :
    Calls Tryz.prog 20 #[.agg #[.string o.name, .int .u8 o.kind, .bool o.down, .int .u8 o.nulls, .bool o.bnd, .bool o.ln, .string o.lm, .bool o.hn, .string o.hm, .int .i64 o.most, .int .i64 o.str, .bool o.shf, .bool o.bck, .slice a l.length ca], .agg #[.string o.name, .int .u8 o.kind, .bool o.down, .int .u8 o.nulls, .bool o.bnd, .bool o.ln, .string o.lm, .bool o.hn, .string o.hm, .int .i64 o.most, .int .i64 o.str, .bool o.shf, .bool o.bck, .slice b l.length cb]] w fun e w' => e = .returned (.bool true) ∧ Below w.heap.size w w' := by
  have hb1 := (Below.refl w.heap.size w).alloc (Nat.le_refl _) (.cells #[.string o.name, .int .u8 o.kind, .bool o.down, .int .u8 o.nulls, .bool o.bnd, .bool o.ln, .string o.lm, .bool o.hn, .string o.hm, .int .i64 o.most, .int .i64 o.str, .bool o.shf, .bool o.bck, .slice a l.length ca] 48)
  have hs1 := alloc_size w (.cells #[.string o.name, .int .u8 o.kind, .bool o.down, .int .u8 o.nulls, .bool o.bnd, .bool o.ln, .string o.lm, .bool o.hn, .string o.hm, .int .i64 o.most, .int .i64 o.str, .bool o.shf, .bool o.bck, .slice a l.length ca] 48)
  have hA1 := Blk.new w 48 #[.string o.name, .int .u8 o.kind, .bool o.down, .int .u8 o.nulls, .bool o.bnd, .bool o.ln, .string o.lm, .bool o.hn, .string o.hm, .int .i64 o.most, .int .i64 o.str, .bool o.shf, .bool o.bck, .slice a l.length ca]
  have hb12 := (Below.refl _ (w.alloc (.cells #[.string o.name, .int .u8 o.kind, .bool o.down, .int .u8 o.nulls, .bool o.bnd, .bool o.ln, .string o.lm, .bool o.hn, .string o.hm, .int .i64 o.most, .int .i64 o.str, .bool o.shf, .bool o.bck, .slice a l.length ca] 48))).alloc (Nat.le_refl _) (.cells #[.string o.name, .int .u8 o.kind, .bool o.down, .int .u8 o.nulls, .bool o.bnd, .bool o.ln, .string o.lm, .bool o.hn, .string o.hm, .int .i64 o.most, .int .i64 o.str, .bool o.shf, .bool o.bck, .slice b l.length cb] 48)
  have hB2 := Blk.new (w.alloc (.cells #[.string o.name, .int .u8 o.kind, .bool o.down, .int .u8 o.nulls, .bool o.bnd, .bool o.ln, .string o.lm, .bool o.hn, .string o.hm, .int .i64 o.most, .int .i64 o.str, .bool o.shf, .bool o.bck, .slice a l.length ca] 48)) 48 #[.string o.name, .int .u8 o.kind, .bool o.down, .int .u8 o.nulls, .bool o.bnd, .bool o.ln, .string o.lm, .bool o.hn, .string o.hm, .int .i64 o.most, .int .i64 o.str, .bool o.shf, .bool o.bck, .slice b l.length cb]
  have hA2 := hA1.old hb12
  have hb2 := hb1.trans (hb12.mono hb1.size)
  have q1 := eqN27 o.ln o.lm
  have q2 := eqN27 o.hn o.hm
  have q3 := eqC55 o.str o.shf o.bck
  have ha2 := ha.keep hb2 hn₀
  have hbb2 := hb.keep hb2 hn₁
  rw [hs1] at hB2
  go_enter Tryz.func20, Tryz.ntmps20
  go_upto_region 1 with fail
  generalize (w.alloc (.cells #[.string o.name, .int .u8 o.kind, .bool o.down, .int .u8 o.nulls, .bool o.bnd, .bool o.ln, .string o.lm, .bool o.hn, .string o.hm, .int .i64 o.most, .int .i64 o.str, .bool o.shf, .bool o.bck, .slice a l.length ca] 48)).alloc (.cells #[.string o.name, .int .u8 o.kind, .bool o.down, .int .u8 o.nulls, .bool o.bnd, .bool o.ln, .string o.lm, .bool o.hn, .string o.hm, .int .i64 o.most, .int .i64 o.str, .bool o.shf, .bool o.bck, .slice b l.length cb] 48) = w2 at *
  have hsf2 := hsf a b ca cb lo n₀ lo' n₁ w2 ha2 hbb2 (by have := hb2.size; omega) (by have := hb2.size; omega) hl hfit
  obtain ⟨c0, c1, c2, c3, c4, c5, c6, c7, c8, c9, c10, c11, c12, c13⟩ := hA2.c14
  obtain ⟨d0, d1, d2, d3, d4, d5, d6, d7, d8, d9, d10, d11, d12, d13⟩ := hB2.c14
  clear hsf hA1 hA2 hB2 hb1 hb12 hs1 ha hb ha2 hbb2 hfit
  go_wp2_with fail
  refine hsf2.mono ?_
  rintro _ w3 ⟨rfl, hb3⟩
  clear hsf2
  go_wp2_with fail
  go_ret
  exact ⟨rfl, hb2.trans (hb3.mono hb2.size)⟩
set_option maxHeartbeats 4000000 in
set_option maxRecDepth 20000 in
theorem sameFields_step (l : List Fld) (ih : ∀ x ∈ l, SfOk x.fields) : SfOk l := by
  intro a b ca cb lo n₀ lo' n₁ w ha hb hn₀ hn₁ hl hfit
  obtain ⟨n, hn⟩ : ∃ n, l.length = n := ⟨_, rfl⟩
  have HN : Hid (l.length = n) := hn
  rw [hn]
  have hn2 : n ≤ 17179869184 := by omega
  clear hn hl
  go_enter Tryz.func28, Tryz.ntmps28
  go_upto_region 4 with fail
  go_loopw [5] (fun i wr => ∃ j : Nat, j ≤ n ∧ i = .int .i64 j ∧ Below w.heap.size w wr) (fun i _ => n - (intOf i).toNat)
  case atStart => exact ⟨0, by omega, rfl, Below.refl _ _⟩
  case round =>
    obtain ⟨j, hj, rfl, hbel⟩ := hrel
    by_cases hlt : j < n
    · have hjl : j < l.length := by have := HN.out; omega
      obtain ⟨ba, oa, aj, cj, rfl, _, _, hra, hina⟩ := (ha.keep hbel hn₀).at hjl
      obtain ⟨bb, ob, bj, dj, rfl, _, _, hrb, hinb⟩ := (hb.keep hbel hn₁).at hjl
      have hz := hbel.size
      have hx := hfit _ (List.getElem_mem hjl)
      have hihx := ih _ (List.getElem_mem hjl)
      generalize l[j] = x at *
      have hc0 : ba < wr.heap.size := World.block_lt_of_cell? wr _ hra.c0
      have hc1 : bb < wr.heap.size := World.block_lt_of_cell? wr _ hrb.c0
      have HRA : Hid (∀ y, Below wr.heap.size wr y → RowF y ba (oa + j * 14) x.own aj x.fields.length cj) := fun y hy => hra.below hy hc0
      have HRB : Hid (∀ y, Below wr.heap.size wr y → RowF y bb (ob + j * 14) x.own bj x.fields.length dj) := fun y hy => hrb.below hy hc1
      have hsx := fun y (hy : Below wr.heap.size wr y) => sameField_eq x.own x.fields hihx aj bj cj dj lo n₀ lo' n₁ y (hina.keep hy (by omega)) (hinb.keep hy (by omega)) (by have := hy.size; omega) (by have := hy.size; omega) hx.len (fun z hz => hx.mem hz)
      have HK : Hid (∀ x y, Below wr.heap.size wr x → Below x.heap.size x y → Below wr.heap.size wr y) := fun x y h1 h2 => h1.trans (h2.mono h1.size)
      clear ha hb hfit ih hra hrb hina hinb hihx hx
      go_upto_region 6 with fail
      refine wp_region_held_drew (S := fun x => Below wr.heap.size wr x) (by kernel_rfl) ((Below.refl _ _).drew) (fun hHeld => ?_)
      refine wpAnyH_takeD (i := 0) (some 18) (v := .slice (some ⟨ba, oa, none⟩) n ca) rfl rfl (by kernel_rfl) (by kernel_rfl) (by kernel_rfl) (fun _ _ _ h => h) (Or.inl ⟨by kernel_rfl, ?hy1⟩) (by assumption) ?rest1
      case hy1 => (intro x hSx; go_simp; first | done | with_reducible rfl | (intro h; exfalso; omega))
      try simp only [Act.put, List.setIfInBounds_toArray, List.set_cons_zero, List.set_cons_succ]
      refine wpAnyH_takeD (i := 1) (some 19) (v := .int .i64 (j : Int)) rfl rfl (by kernel_rfl) (by kernel_rfl) (by kernel_rfl) (fun _ _ _ h => h) (Or.inl ⟨by kernel_rfl, ?hy2⟩) (by assumption) ?rest2
      case hy2 => (intro x hSx; go_simp; first | done | with_reducible rfl | (intro h; exfalso; omega))
      try simp only [Act.put, List.setIfInBounds_toArray, List.set_cons_zero, List.set_cons_succ]
      refine wpAnyH_takeD (i := 2) (some 20) (v := .pointer (some ⟨ba, oa + j * 14, none⟩)) rfl rfl (by kernel_rfl) (by kernel_rfl) (by kernel_rfl) (fun _ _ _ h => h) (Or.inl ⟨by kernel_rfl, ?hy3⟩) (by assumption) ?rest3
      case hy3 => (intro x hSx; go_simp; first | done | with_reducible rfl | (intro h; exfalso; omega))
      try simp only [Act.put, List.setIfInBounds_toArray, List.set_cons_zero, List.set_cons_succ]
      refine wpAnyH_takeD (i := 3) (some 21) (v := .agg #[.string x.own.name, .int .u8 x.own.kind, .bool x.own.down, .int .u8 x.own.nulls, .bool x.own.bnd, .bool x.own.ln, .string x.own.lm, .bool x.own.hn, .string x.own.hm, .int .i64 x.own.most, .int .i64 x.own.str, .bool x.own.shf, .bool x.own.bck, .slice aj x.fields.length cj]) rfl rfl (by kernel_rfl) (by kernel_rfl) (by kernel_rfl) (fun _ _ _ h => h) (Or.inl ⟨by kernel_rfl, ?hy4⟩) (by assumption) ?rest4
      case hy4 => (intro y hSx; obtain ⟨p0, p1, p2, p3, p4, p5, p6, p7, p8, p9, p10, p11, p12, p13⟩ := HRA.out y hSx; go_simp; first | done | with_reducible rfl)
      try simp only [Act.put, List.setIfInBounds_toArray, List.set_cons_zero, List.set_cons_succ]
      refine wpAnyH_takeD (i := 4) (some 22) (v := .slice (some ⟨bb, ob, none⟩) n cb) rfl rfl (by kernel_rfl) (by kernel_rfl) (by kernel_rfl) (fun _ _ _ h => h) (Or.inl ⟨by kernel_rfl, ?hy5⟩) (by assumption) ?rest5
      case hy5 => (intro x hSx; go_simp; first | done | with_reducible rfl | (intro h; exfalso; omega))
      try simp only [Act.put, List.setIfInBounds_toArray, List.set_cons_zero, List.set_cons_succ]
      refine wpAnyH_takeD (i := 5) (some 23) (v := .int .i64 (j : Int)) rfl rfl (by kernel_rfl) (by kernel_rfl) (by kernel_rfl) (fun _ _ _ h => h) (Or.inl ⟨by kernel_rfl, ?hy6⟩) (by assumption) ?rest6
      case hy6 => (intro x hSx; go_simp; first | done | with_reducible rfl | (intro h; exfalso; omega))
      try simp only [Act.put, List.setIfInBounds_toArray, List.set_cons_zero, List.set_cons_succ]
      refine wpAnyH_takeD (i := 6) (some 24) (v := .pointer (some ⟨bb, ob + j * 14, none⟩)) rfl rfl (by kernel_rfl) (by kernel_rfl) (by kernel_rfl) (fun _ _ _ h => h) (Or.inl ⟨by kernel_rfl, ?hy7⟩) (by assumption) ?rest7
      case hy7 => (intro x hSx; go_simp; first | done | with_reducible rfl | (intro h; exfalso; omega))
      try simp only [Act.put, List.setIfInBounds_toArray, List.set_cons_zero, List.set_cons_succ]
      refine wpAnyH_takeD (i := 7) (some 25) (v := .agg #[.string x.own.name, .int .u8 x.own.kind, .bool x.own.down, .int .u8 x.own.nulls, .bool x.own.bnd, .bool x.own.ln, .string x.own.lm, .bool x.own.hn, .string x.own.hm, .int .i64 x.own.most, .int .i64 x.own.str, .bool x.own.shf, .bool x.own.bck, .slice bj x.fields.length dj]) rfl rfl (by kernel_rfl) (by kernel_rfl) (by kernel_rfl) (fun _ _ _ h => h) (Or.inl ⟨by kernel_rfl, ?hy8⟩) (by assumption) ?rest8
      case hy8 => (intro y hSx; obtain ⟨p0, p1, p2, p3, p4, p5, p6, p7, p8, p9, p10, p11, p12, p13⟩ := HRB.out y hSx; go_simp; first | done | with_reducible rfl)
      try simp only [Act.put, List.setIfInBounds_toArray, List.set_cons_zero, List.set_cons_succ]
      refine wpAnyH_ready (rs := [8]) (by kernel_rfl) (by simp) ?_
      refine AllReadyH.cons rfl (fun K2 hK2 => ?_) AllReadyH.nil
      go_simp
      go_wp2_with (go_at_call 20; refine (hsx _ hHeld).mono ?_; rintro e y8 ⟨rfl, hb8⟩)
      refine hK2.out _ _ (HK.out _ _ hHeld hb8) (fun hHeld8 => ?_)
      clear hK2 K2
      try simp only [Act.put, List.setIfInBounds_toArray, List.set_cons_zero, List.set_cons_succ]
      refine wpAnyH_takeD (i := 9) (some 6) (v := .bool true) rfl rfl (by kernel_rfl) (by kernel_rfl) (by kernel_rfl) (fun _ _ _ h => h) (Or.inl ⟨by kernel_rfl, ?hyZ⟩) (by assumption) ?restZ
      case hyZ => (intro x hSx; go_simp; first | done | with_reducible rfl)
      try simp only [Act.put, List.setIfInBounds_toArray, List.set_cons_zero, List.set_cons_succ]
      refine wpAnyH_done (by kernel_rfl) ?_ _
      have hbe := hbel.trans (hHeld8.mono hz)
      clear hsx hHeld hHeld8 hb8
      go_wp2_with fail
      go_roundw
      case rel => exact ⟨j + 1, by omega, by simp, hbe⟩
      case measure => simp only [intOf]; omega
    · clear ha hb hfit ih
      go_wp2_with fail
      go_ret
      exact ⟨rfl, hbel⟩
theorem sameFields_fld : ∀ f : Fld, SfOk f.fields := fun f => by
  induction f using Fld.ind with
  | h o l ih => exact sameFields_step l ih
theorem sameFields_any (l : List Fld) : SfOk l := sameFields_step l fun x _ => sameFields_fld x
def awX : Fld := ⟨⟨⟨#[120]⟩, 1, false, 0, false, false, ⟨#[]⟩, false, ⟨#[]⟩, 0, 0, false, false⟩, []⟩
def awY : Fld := ⟨⟨⟨#[121]⟩, 6, false, 0, false, false, ⟨#[]⟩, false, ⟨#[]⟩, 0, 2, false, true⟩, []⟩
def awT : Fld := ⟨⟨⟨#[116]⟩, 7, false, 0, false, false, ⟨#[]⟩, false, ⟨#[]⟩, 0, 0, false, false⟩, [awX, awY]⟩
def awText : List UInt8 := [108, 105, 109, 105, 116, 32, 57, 10, 102, 105, 101, 108, 100, 32, 116, 32, 116, 117, 112, 108, 101, 10, 32, 32, 102, 105, 101, 108, 100, 32, 120, 32, 98, 111, 111, 108, 10, 32, 32, 102, 105, 101, 108, 100, 32, 121, 32, 116, 101, 120, 116, 32, 115, 116, 114, 101, 110, 103, 116, 104, 32, 50, 32, 98, 97, 99, 107, 10, 101, 110, 100, 10]
theorem awChk : chkS bndQ 9 [awT] = (0, []) := by kernel_rfl
theorem awPrn : prnS 9 [awT] = awText := by kernel_rfl
theorem awSch : schemaP (1 + ((linesL awText).length : Int)) (lnF 1 (linesL awText)) [] = .ok (9, [awT], [1, 2, 3, 4]) := by kernel_rfl
theorem awPar : parseS awText = .ok (9, [awT]) := by
  unfold parseS
  rw [if_neg (by decide), awSch]
  unfold afterS
  simp only [awChk, awPrn]
  rfl
def wsB (ws : List ByteArray) : Bool := decide (ws.length ≤ 1000000) && ws.all (fun x => decide (0 < x.size) && decide (x.size ≤ 1000000))
theorem wsB_ok {ws : List ByteArray} (h : wsB ws = true) : WsOK ws := by
  unfold wsB at h
  rw [Bool.and_eq_true] at h
  refine ⟨of_decide_eq_true h.1, fun x hx => ?_⟩
  have := (List.all_eq_true.1 h.2) x hx
  rw [Bool.and_eq_true] at this
  exact ⟨of_decide_eq_true this.1, of_decide_eq_true this.2⟩
theorem awWb : (lnF 1 (linesL awText)).all (fun l => wsB l.2) = true := by kernel_rfl
theorem awWs : ∀ l ∈ lnF 1 (linesL awText), WsOK l.2 := fun l hl => wsB_ok ((List.all_eq_true.1 awWb) l hl)
theorem awFitX : FitsF 17179869184 awX := .mk ⟨by decide, by decide, by decide, by decide, by decide, by decide, by decide, by decide, by decide, by decide, by decide⟩ (by decide) (fun _ h => by cases h)
theorem awFitY : FitsF 17179869184 awY := .mk ⟨by decide, by decide, by decide, by decide, by decide, by decide, by decide, by decide, by decide, by decide, by decide⟩ (by decide) (fun _ h => by cases h)
theorem awFitT : FitsF 17179869184 awT := .mk ⟨by decide, by decide, by decide, by decide, by decide, by decide, by decide, by decide, by decide, by decide, by decide⟩ (by decide) (fun x h => by
  have h2 : x ∈ [awX, awY] := h
  simp only [List.mem_cons, List.not_mem_nil, or_false] at h2
  rcases h2 with h2 | h2 <;> subst h2
  · exact awFitX
  · exact awFitY)
theorem awFit : ∀ x ∈ [awT], FitsF 17179869184 x := fun x h => by
  simp only [List.mem_cons, List.not_mem_nil, or_false] at h
  subst h
  exact awFitT
theorem awOk : ∀ x ∈ [awT], OkP x := fun x h => by
  simp only [List.mem_cons, List.not_mem_nil, or_false] at h
  subst h
  refine .mk (by decide) (by decide) (fun x h => ?_)
  have h2 : x ∈ [awX, awY] := h
  simp only [List.mem_cons, List.not_mem_nil, or_false] at h2
  rcases h2 with h2 | h2 <;> subst h2
  · exact .mk (by decide) (by decide) (fun x h => by cases h)
  · exact .mk (by decide) (by decide) (fun x h => by cases h)
theorem awRead : ReadOk (9, [awT], [1, 2, 3, 4]) := ⟨awFit, by decide, by decide, by decide, fun h => absurd (by rw [awChk]) h, by decide, fun _ => ⟨awOk, by rw [awPrn]; decide⟩⟩
theorem parse_aw (w : World) (hE : Env w) : Calls Tryz.prog 27 #[.string (bs awText)] w fun e w' => Below w.heap.size w w' ∧ ∃ fa fc, e = .returned (.tuple #[.agg #[.int .i64 9, .slice fa 1 fc], .nilIface]) ∧ FIn w' w.heap.size w'.heap.size [awT] fa := by
  refine (parse_s awText (fun _ => awWs) (fun _ q h => ?_) w hE).mono ?_
  · rw [awSch] at h
    cases h
    exact awRead
  · intro e w' h
    rw [awPar] at h
    obtain ⟨h1, fa, fc, h2, _, h4, _⟩ := h
    exact ⟨h1, fa, fc, h2, h4⟩
theorem print_aw (a : Option Addr) (c lo n₀ : Nat) (hc : 1 ≤ c) (w : World) (hn₀ : n₀ ≤ w.heap.size) (hin : FIn w lo n₀ [awT] a) (hE : Env w) :
    Calls Tryz.prog 25 #[.agg #[.int .i64 9, .slice a 1 c]] w fun e w' => e = .returned (.tuple #[.string (bs awText), .nilIface]) ∧ Below w.heap.size w w' := by
  refine (print_s 9 (by decide) (by decide) [awT] (by decide) awFit (fun _ => ⟨awOk, by rw [awPrn]; decide⟩) a c lo n₀ hc w hn₀ hin hE).mono ?_
  rintro e w' ⟨h1, ⟨h2, _⟩ | ⟨_, h2, _⟩ | ⟨_, _, h2⟩⟩
  · exact absurd (by rw [awChk]) h2
  · rw [awPrn] at h2
    exact absurd h2 (by decide)
  · rw [awPrn] at h2
    exact ⟨h2, h1⟩
end Go.Proofs.YtcbjnifoojjipaaGreatDoor
