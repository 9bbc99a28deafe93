/- What schema's readField does (contracts; nothing is claimed here). -/
import Derived.Test.YtcbjnifoojjipaaGreatDoorSFlA
import Derived.Deep.RegionHeld
namespace Go.Proofs.YtcbjnifoojjipaaGreatDoor
open Go.RowKit Go.Vf Go.Maps
set_option maxHeartbeats 4000000 in
set_option maxRecDepth 20000 in
theorem readField_any (K R : Nat) (after num : Int) (ws : List ByteArray) (hws : WsOK ws) (ls : List Ln) (ns : List Int) (hns : ns.length ≤ 1000000) (wa : Option Addr) (wcp : Nat) (w : World) (hrow : WRow K R w wa wcp ws) (a : Option Addr) (c : Nat) (hrd : RdAt K R w ls after (.slice a ns.length c)) (hown : IOwn w K (.slice a ns.length c) ns)
    (P : Ending → World → Prop) (hlost : ∀ w', lineL ws = none → Grw K R (Value.slice a ns.length c).ownBlock w w' → P (lostL num) w')
    (hdone : ∀ w' o g cap, lineL ws = some o → o.kind ≠ 7 → Grw K R (Value.slice a ns.length c).ownBlock w w' → RdAt K R w' ls after (.slice (some ⟨g, 0, none⟩) (ns.length + 1) cap) → IOwn w' K (.slice (some ⟨g, 0, none⟩) (ns.length + 1) cap) (ns ++ [num]) → ((Value.slice a ns.length c).ownBlock = some g ∨ w.heap.size ≤ g) → P (.returned (fV o none 0 0)) w')
    (hwith : ∀ o w1 g cap, lineL ws = some o → o.kind = 7 → Grw K R (Value.slice a ns.length c).ownBlock w w1 → RdAt K R w1 ls after (.slice (some ⟨g, 0, none⟩) (ns.length + 1) cap) → IOwn w1 K (.slice (some ⟨g, 0, none⟩) (ns.length + 1) cap) (ns ++ [num]) → ((Value.slice a ns.length c).ownBlock = some g ∨ w.heap.size ≤ g) →
      Calls Tryz.prog 109 #[.pointer (some ⟨R, 0, none⟩)] w1 fun e w2 => (∃ n', e = lostL n' ∧ P (lostL n') w2) ∨ (∃ fa fn fc, e = .returned (.slice fa fn fc) ∧ Grw K R (some g) w1 w2 ∧ ∀ wF, wF.os = w2.os → wF.tape = w2.tape → wF.output = w2.output → w2.heap.size ≤ wF.heap.size → (∀ k, k < w2.heap.size → (k < w.heap.size ∨ w1.heap.size ≤ k ∨ k = g) → wF.heap[k]? = w2.heap[k]?) → P (.returned (fV o fa fn fc)) wF)) :
    Calls Tryz.prog 81 #[.pointer (some ⟨R, 0, none⟩), .agg #[.int .i64 num, .slice wa ws.length wcp]] w P := by
  have hR := hrd.hR
  have hK := hrd.hK
  obtain ⟨la, lc, hRB, hLR⟩ := hrd.row
  obtain ⟨m, hm⟩ : ∃ m, ws.length = m := ⟨_, rfl⟩
  rw [hm]
  have hb0 := ((Below.refl w.heap.size w).alloc (Nat.le_refl _) (.cells #[.int .i64 num, .slice wa m wcp] 139)).alloc (by simp) (.cells #[.string ⟨#[]⟩, .int .u8 0, .bool false, .int .u8 0, .bool false, .bool false, .string ⟨#[]⟩, .bool false, .string ⟨#[]⟩, .int .i64 0, .int .i64 0, .bool false, .bool false, .slice none 0 0] 48)
  have hN0 := (Blk.new w 139 #[.int .i64 num, .slice wa m wcp]).old ((Below.refl _ _).alloc (Nat.le_refl _) (.cells #[.string ⟨#[]⟩, .int .u8 0, .bool false, .int .u8 0, .bool false, .bool false, .string ⟨#[]⟩, .bool false, .string ⟨#[]⟩, .int .i64 0, .int .i64 0, .bool false, .bool false, .slice none 0 0] 48))
  have hT0 : Blk ((w.alloc (.cells #[.int .i64 num, .slice wa m wcp] 139)).alloc (.cells #[.string ⟨#[]⟩, .int .u8 0, .bool false, .int .u8 0, .bool false, .bool false, .string ⟨#[]⟩, .bool false, .string ⟨#[]⟩, .int .i64 0, .int .i64 0, .bool false, .bool false, .slice none 0 0] 48)) (w.heap.size + 1) 48 #[.string ⟨#[]⟩, .int .u8 0, .bool false, .int .u8 0, .bool false, .bool false, .string ⟨#[]⟩, .bool false, .string ⟨#[]⟩, .int .i64 0, .int .i64 0, .bool false, .bool false, .slice none 0 0] := by
    have := Blk.new (w.alloc (.cells #[.int .i64 num, .slice wa m wcp] 139)) 48 #[.string ⟨#[]⟩, .int .u8 0, .bool false, .int .u8 0, .bool false, .bool false, .string ⟨#[]⟩, .bool false, .string ⟨#[]⟩, .int .i64 0, .int .i64 0, .bool false, .bool false, .slice none 0 0]
    rw [alloc_size] at this
    exact this
  have hs0 : ((w.alloc (.cells #[.int .i64 num, .slice wa m wcp] 139)).alloc (.cells #[.string ⟨#[]⟩, .int .u8 0, .bool false, .int .u8 0, .bool false, .bool false, .string ⟨#[]⟩, .bool false, .string ⟨#[]⟩, .int .i64 0, .int .i64 0, .bool false, .bool false, .slice none 0 0] 48)).heap.size = w.heap.size + 2 := by simp
  go_enter Tryz.func81, Tryz.ntmps81
  go_upto_region 1 with fail
  generalize (w.alloc (.cells #[.int .i64 num, .slice wa m wcp] 139)).alloc (.cells #[.string ⟨#[]⟩, .int .u8 0, .bool false, .int .u8 0, .bool false, .bool false, .string ⟨#[]⟩, .bool false, .string ⟨#[]⟩, .int .i64 0, .int .i64 0, .bool false, .bool false, .slice none 0 0] 48) = w1 at *
  have hle : w.heap.size + 2 ≤ w1.heap.size := by omega
  clear hs0
  have hRB1 := hRB.old hb0
  have hown1 : IOwn w1 K _ _ := own_after hown hb0
  go_cut [3] from 6 (fun v wx => v = .pointer (some ⟨w.heap.size, 0, none⟩) ∧ ∃ g cap, ((g ≠ w.heap.size ∧ g ≠ w.heap.size + 1) ∧ ((Value.slice a ns.length c).ownBlock = some g ∨ w.heap.size ≤ g)) ∧ RdAt K R wx ls after (.slice (some ⟨g, 0, none⟩) (ns.length + 1) cap) ∧ IOwn wx K (.slice (some ⟨g, 0, none⟩) (ns.length + 1) cap) (ns ++ [num]) ∧ Grw K R (Value.slice a ns.length c).ownBlock w1 wx)
  case first =>
    obtain ⟨i0, hi0, hz0, hz1, hz2⟩ := info_parts info3
    have hLR1 : LRow K R w1 la lc ls := hLR.kp (fun k hk _ => hb0.block k (by omega))
    have hRw : R < w.heap.size := by omega
    have g0 : w1.drew.cell? ⟨w.heap.size, 0, none⟩ = some (.int .i64 num) := hN0.cell 0
    have g2 : w1.drew.cell? ⟨R, 2, none⟩ = some (.slice a ns.length c) := hRB1.cell 2
    have g2' : (w1.alloc (.cells #[.int .i64 num] 3)).drew.cell? ⟨R, 2, none⟩ = some (.slice a ns.length c) := (World.cell?_alloc_lt _ _ _ hRB1.lt).trans g2
    have HG : Hid (∀ (w7 : World) (g cap : Nat), w7.ownsRow K 3 1 (.slice (some ⟨g, 0, none⟩) (ns.length + 1) cap) (ns.length + 1) (ns.map (Value.int .i64) ++ [.int .i64 num]) → (w1.alloc (.cells #[.int .i64 num] 3)).drew.grownBy w7 (Value.slice a ns.length c).ownBlock → _) := fun w7 g cap h1 h2 => lines_grow (num := num) hR (by omega) hRB1 hLR1 hown1 h1 h2
    have HNE : Hid (∀ g, (Value.slice a ns.length c).ownBlock = some g ∨ g = w1.heap.size + 1 → (g ≠ w.heap.size ∧ g ≠ w.heap.size + 1) ∧ ((Value.slice a ns.length c).ownBlock = some g ∨ w.heap.size ≤ g)) := fun g h => by
      rcases h with h | h
      · refine ⟨?_, .inl h⟩
        obtain ⟨_, cs, f, hh⟩ := own_ge hown h
        have := (Array.getElem?_eq_some_iff.1 hh).1
        omega
      · exact ⟨by omega, .inr (by omega)⟩
    go_region_law (refine step_append_lies _ (by rfl) _ _ _ (by rfl) K 3 i0 _ 1 8 Tryz.underlying29 hi0 hz0 hz1 hz2 rfl (by omega) (.slice a ns.length c) ns.length (ns.map (Value.int .i64)) (by rfl) (World.ownsRow.alloc hown1 _) ⟨w1.heap.size, 0, none⟩ 1 1 [.int .i64 num] (by rfl) (by rfl) (World.news_of_block (cs := #[.int .i64 num]) (t := 3) (fr := (0, 0)) (heap_alloc_new w1 _)) (by simp [Value.oneCell']) (by omega) (by unfold maxLen; omega) (by omega) (by simp; omega) (w1.heap.size + 1) (by simp) ?_; intro gg cap w7 hown7 hgrow7 hat7 hlt7; obtain ⟨y1, y2, y3, y4⟩ := HG.out _ _ _ hown7 hgrow7; have z2 : w7.cell? ⟨R, 2, none⟩ = some (.slice a ns.length c) := y1.cell 2; have zf := Blk.free y1 2)
    all_goals
      go_wp2_with fail
      go_meet
      exact ⟨rfl, _, _, HNE.out _ hat7, y2, y3, y4⟩
  case rest =>
    obtain ⟨rfl, g, cap, hgB, hrd2, hown2, hgr2⟩ := hcut
    have hoB : ∀ k, w.heap.size ≤ k → some k ≠ (Value.slice a ns.length c).ownBlock := fun k hk e => by
      obtain ⟨_, cs, f, hh⟩ := own_ge hown e.symm
      have := (Array.getElem?_eq_some_iff.1 hh).1
      omega
    have hBc : Blk wc w.heap.size 139 #[.int .i64 num, .slice wa m wcp] := (hgr2.block w.heap.size (by omega) (by omega) (hoB _ (Nat.le_refl _))).trans hN0
    have hLc : LnAt wc w.heap.size num ws := by
      refine ⟨wa, wcp, by rw [hm]; exact hBc, (hrow.kp (w' := wc) (fun k hk hne => ?_)).wat hK⟩
      exact (hgr2.block k (by omega) hne (own_R hown1 hk)).trans (hb0.block k (by omega))
    have hst : FSt K R w.heap.size (Value.slice a ns.length c).ownBlock ls after g cap (ns.length + 1) (ns ++ [num]) w wc := by
      refine ⟨⟨hgr2.os.trans hb0.os, hgr2.tape.trans hb0.tape, hgr2.output.trans hb0.output, Nat.le_trans hb0.size hgr2.size, fun k hk h1 h2 => (hgr2.block k (by omega) h1 h2).trans (hb0.block k hk)⟩, hrd2, hown2, ?_, hgB.1.1, hgB.1.2, hK, Nat.le_refl _⟩
      exact (hgr2.block (w.heap.size + 1) (by omega) (by omega) (hoB _ (by omega))).trans hT0
    have HGN : Hid ((Value.slice a ns.length c).ownBlock = some g ∨ w.heap.size ≤ g) := hgB.2
    clear hrd2 hown2 hgr2 hBc hb0 hN0 hRB1 hown1 hrd hown hRB hLR hrow hle hT0 hgB hoB
    obtain ⟨B, hB⟩ : ∃ B, w.heap.size = B := ⟨_, rfl⟩
    rw [hB] at hLc hst hK ⊢
    clear hB
    have HST : Hid (FSt K R B _ ls after g cap _ _ w wc) := hst
    clear hst
    have hnw := needWord_any B num ws ⟨#[102, 105, 101, 108, 100]⟩ hws.1 wc hLc
    have hw2 := hws.skip ⟨#[102, 105, 101, 108, 100]⟩
    go_wp2_with fail
    refine hnw.mono ?_
    clear hnw hLc
    rintro _ w2 (⟨hs, rfl, hL2, hO2⟩ | ⟨hs, rfl, hO2⟩)
    · have htk := take_ws B num _ hw2 w2 hL2
      have HST2 : Hid (FSt K R B _ ls after g cap _ _ w w2) := HST.out.oth hO2
      clear hL2 hO2 HST
      go_wp2_with fail
      refine htk.mono ?_
      clear htk
      intro e w3 hp
      cases hc : takeW (skipL ws ⟨#[102, 105, 101, 108, 100]⟩).2 with
      | none =>
        rw [hc] at hp
        obtain ⟨rfl, hO3⟩ := hp
        have hln : lineL ws = none := by rw [lineL, if_pos hs, hc]
        have hp := hlost w3 hln (HST2.out.oth hO3).grw
        clear hlost hc hs hln HST2 hO3
        unfold lostL at *
        go_wp2_with fail
        exact ⟨rfl, hp⟩
      | some x =>
        obtain ⟨x, r1⟩ := x
        rw [hc] at hp
        obtain ⟨rfl, hL3, hO3⟩ := hp
        have HST3 : Hid (FSt K R B _ ls after g cap _ _ w w3) := HST2.out.oth hO3
        have HL3 : Hid (LnAt w3 B num r1) := hL3
        have hwx : x.size ≤ 1000000 ∧ WsOK r1 := by
          revert hc
          cases hq : (skipL ws ⟨#[102, 105, 101, 108, 100]⟩).2 with
          | nil => intro hc; cases hc
          | cons y r =>
            intro hc
            cases hc
            rw [hq] at hw2
            exact ⟨(hw2.2 x (List.mem_cons_self ..)).2, hw2.tail⟩
        obtain ⟨hx, hw3⟩ := hwx
        clear HST2 hO3 hL3
        have hcl := clone_any x w3 (by omega)
        go_wp2_with fail
        refine hcl.mono ?_
        clear hcl
        rintro _ w4 ⟨rfl, hb4⟩
        have HST4 : Hid (FSt K R B _ ls after g cap _ _ w w4) := HST3.out.old hb4
        have HL4 : Hid (LnAt w4 B num r1) := HL3.out.old hb4
        clear HST3 HL3 hb4
        go_upto_region 4 with fail
        have hF5 : FAt _ w4.heap.size (own0 x) := Blk.new w4 48 (cellsF (own0 x) none 0 0)
        have hb5 := (Below.refl w4.heap.size w4).alloc (Nat.le_refl _) (.cells (cellsF (own0 x) none 0 0) 48)
        have hBF : B + 1 < w4.heap.size := HST4.out.res.lt
        have hgF : g ≠ w4.heap.size := Nat.ne_of_lt HST4.out.glt
        have HST5 : Hid (FSt K R B _ ls after g cap _ _ w _) := HST4.out.old hb5
        have hL5 := HL4.out.old hb5
        unfold cellsF own0 at hF5 hb5 HST5 hL5
        generalize w4.alloc (.cells _ 48) = w5 at *
        generalize w4.heap.size = F at *
        have hBF0 : B < F := by omega
        clear HST4 HL4 hb5
        have htk := takeKind_ws B num r1 hw3 w5 hL5
        have HF5 : Hid (FAt w5 F (own0 x)) := hF5
        clear hL5 hF5
        go_wp2_with fail
        refine htk.mono ?_
        clear htk
        intro e w6 hp
        cases hk : kindW r1 with
        | none =>
          rw [hk] at hp
          obtain ⟨rfl, hO6⟩ := hp
          have hln : lineL ws = none := by rw [lineL, if_pos hs, hc]; simp only [hk]
          have hp := hlost w6 hln (HST5.out.oth hO6).grw
          clear hlost hc hs hln HST5 hO6 hk
          unfold lostL at *
          go_wp2_with fail
          exact ⟨rfl, hp⟩
        | some k =>
          obtain ⟨k, r2⟩ := k
          rw [hk] at hp
          obtain ⟨rfl, hL6, hO6⟩ := hp
          obtain ⟨hw6, hk8⟩ := kindW_ok hw3 hk
          have hk1 := kindW_pos hw3 hk
          have hF6 := HF5.out.keep hO6 hBF0
          have c1 : w6.cell? ⟨F, 1, none⟩ = some (.int .u8 0) := Blk.cell hF6 1
          have f1 : w6.frozen? ⟨F, 1, none⟩ = false := Blk.free hF6 1
          have HST7 : Hid (FSt K R B _ ls after g cap _ _ w _) := (HST5.out.oth hO6).othF (OthF.set B F 1 w6 (.int .u8 (k : Int))) hBF hgF
          have hL7 : LnAt _ B num r2 := hL6.setF hBF0 1 (.int .u8 (k : Int))
          have HF7 : Hid (FAt _ F _) := hF6.kind (k : Int)
          have hsk := skip_any B num r2 ⟨#[100, 111, 119, 110]⟩ hw6.1 _ hL7
          have hw7 := hw6.skip ⟨#[100, 111, 119, 110]⟩
          clear HST5 HF5 hO6 hL6 hF6 hL7
          go_wp2_with fail
          refine hsk.mono ?_
          clear hsk
          rintro _ w8 ⟨rfl, hL8, hO8⟩
          have hF8 := HF7.out.keep hO8 hBF0
          have c2 : w8.cell? ⟨F, 2, none⟩ = some (.bool false) := Blk.cell hF8 2
          have f2 : w8.frozen? ⟨F, 2, none⟩ = false := Blk.free hF8 2
          have HST9 : Hid (FSt K R B _ ls after g cap _ _ w _) := (HST7.out.oth hO8).othF (OthF.set B F 2 w8 (.bool (skipL r2 ⟨#[100, 111, 119, 110]⟩).1)) hBF hgF
          have hL9 : LnAt _ B num _ := hL8.setF hBF0 2 (.bool (skipL r2 ⟨#[100, 111, 119, 110]⟩).1)
          have HF9 : Hid (FAt _ F _) := hF8.down (skipL r2 ⟨#[100, 111, 119, 110]⟩).1
          have hnl := takeNulls_any B num _ hw7.1 _ hL9
          have hw9 := nullsW_ok hw7
          have HLN : Hid (lineL ws = (match readKL k (nullsW (skipL r2 ⟨#[100, 111, 119, 110]⟩).2).2 { own0 x with kind := (k : Int), down := (skipL r2 ⟨#[100, 111, 119, 110]⟩).1, nulls := (nullsW (skipL r2 ⟨#[100, 111, 119, 110]⟩).2).1 } with | some z => if z.1.isEmpty then some z.2 else none | none => none)) := by
            show lineL ws = _
            rw [lineL, if_pos hs, hc]
            simp only [hk]
            rfl
          obtain ⟨d, hd⟩ : ∃ d, skipL r2 ⟨#[100, 111, 119, 110]⟩ = d := ⟨_, rfl⟩
          rw [hd] at hnl hw9 HF9 HST9 HLN ⊢
          obtain ⟨d1, d2⟩ := d
          simp only at hnl hw9 HF9 HST9 HLN ⊢
          clear HST7 HF7 hO8 hL8 hF8 hL9 c1 f1 hd hw7 hc hs hk
          go_wp2_with fail
          refine hnl.mono ?_
          clear hnl
          rintro _ w10 ⟨rfl, hL10, hO10⟩
          have hF10 := HF9.out.keep hO10 hBF0
          have c3 : w10.cell? ⟨F, 3, none⟩ = some (.int .u8 0) := Blk.cell hF10 3
          have f3 : w10.frozen? ⟨F, 3, none⟩ = false := Blk.free hF10 3
          obtain ⟨q, hq⟩ : ∃ q, nullsW d2 = q := ⟨_, rfl⟩
          rw [hq] at hw9 HLN hL10 ⊢
          obtain ⟨q1, q2⟩ := q
          simp only at hw9 HLN hL10 ⊢
          have HST11 : Hid (FSt K R B _ ls after g cap _ _ w _) := (HST9.out.oth hO10).othF (OthF.set B F 3 w10 (.int .u8 q1)) hBF hgF
          have HL11 : Hid (LnAt _ B num _) := hL10.setF hBF0 3 (.int .u8 q1)
          have HF11 : Hid (FAt _ F _) := hF10.nulls q1
          clear HST9 HF9 hO10 hL10 hF10 c2 f2 hq
          go_upto_region 7 with fail
          generalize w10.setCell ⟨F, 3, none⟩ (.int .u8 q1) = W at *
          have hL11 := HL11.out
          have hF11 := HF11.out
          have c1 : W.cell? ⟨F, 1, none⟩ = some (.int .u8 (k : Int)) := Blk.cell hF11 1
          have hFl : F < W.heap.size := Blk.lt hF11
          have hkd := kinds_any
          clear c3 f3 HL11 HF11
          refine wp_region_held_drew (S := fun x => x.cell? ⟨F, 1, none⟩ = some (.int .u8 (k : Int))) (by kernel_rfl) c1 (fun hHeld => ?_)
          refine wpAnyH_takeD (i := 1) (some 28) (v := .pointer (some ⟨F, 1, none⟩)) rfl rfl (by kernel_rfl) (by kernel_rfl) (by kernel_rfl) (fun _ _ _ h => h) (Or.inl ⟨by kernel_rfl, ?hy1⟩) (by assumption) ?rest1
          case hy1 => (intro x hSx; (try dsimp only at hSx); go_simp; first | done | with_reducible rfl)
          try simp only [Act.put, List.setIfInBounds_toArray, List.set_cons_zero, List.set_cons_succ]
          refine wpAnyH_takeD (i := 2) (some 29) (v := .int .u8 (k : Int)) rfl rfl (by kernel_rfl) (by kernel_rfl) (by kernel_rfl) (fun _ _ _ h => h) (Or.inl ⟨by kernel_rfl, ?hy2⟩) (by assumption) ?rest2
          case hy2 => (intro x hSx; (try dsimp only at hSx); go_simp; first | done | with_reducible rfl)
          try simp only [Act.put, List.setIfInBounds_toArray, List.set_cons_zero, List.set_cons_succ]
          refine wpAnyH_ready (rs := [0]) (by kernel_rfl) (by simp) ?_
          refine AllReadyH.cons rfl (fun K2 hK2 => ?_) AllReadyH.nil
          go_simp
          go_wp2_with (go_at_call 108; refine (hkd _).mono ?_; rintro e y ⟨gk, rfl, hgk, hKd, hby⟩)
          have hbW : Below W.heap.size W y := ((Below.refl W.heap.size W).drew).trans hby
          refine hK2.out _ _ ((hbW.cell (p := ⟨F, 1, none⟩) hFl).trans c1) (fun hH1 => ?_)
          clear hK2 K2 hkd
          try simp only [Act.put, List.setIfInBounds_toArray, List.set_cons_zero, List.set_cons_succ]
          have q3 := kread_at hKd hk1 hk8
          have hrk := readK_any k B F num q2 _ hBF0 hw9 y (hL11.old hbW) (Blk.old hF11 hbW)
          have hgl := hKd.lt
          have HCF : Hid (∀ args w, Sem.run Tryz.prog (callFunc (kread k) args) w = .ok (.enter (kread k) args) w) := fun args w => kread_call hk1 hk8 args w
          have HST12 : Hid (FSt K R B _ ls after g cap _ _ w y) := HST11.out.old hbW
          clear HST11 hL11 hF11 hby hbW hKd hgk
          generalize kread k = G at *
          refine wpAnyH_takeD (i := 3) (some 30) (v := .pointer (some ⟨gk, k * 5, none⟩)) rfl rfl (by kernel_rfl) (by kernel_rfl) (by kernel_rfl) (fun _ _ _ h => h) (Or.inl ⟨by kernel_rfl, ?hy3⟩) (by assumption) ?rest3
          case hy3 => (intro x hSx; (try dsimp only at hSx); go_simp; first | done | with_reducible rfl | (intro h; exfalso; omega))
          try simp only [Act.put, List.setIfInBounds_toArray, List.set_cons_zero, List.set_cons_succ]
          refine wpAnyH_takeD (i := 4) (some 31) (v := .pointer (some ⟨gk, k * 5 + 3, none⟩)) rfl rfl (by kernel_rfl) (by kernel_rfl) (by kernel_rfl) (fun _ _ _ h => h) (Or.inl ⟨by kernel_rfl, ?hy4⟩) (by assumption) ?rest4
          case hy4 => (intro x hSx; (try dsimp only at hSx); go_simp; first | done | with_reducible rfl)
          try simp only [Act.put, List.setIfInBounds_toArray, List.set_cons_zero, List.set_cons_succ]
          refine wpAnyH_ready (rs := [5]) (by kernel_rfl) (by simp) ?_
          refine AllReadyH.cons rfl (fun K2 hK2 => ?_) AllReadyH.nil
          go_simp
          refine hK2.out _ _ hH1 (fun hH2 => ?_)
          clear hK2 K2
          try simp only [Act.put, List.setIfInBounds_toArray, List.set_cons_zero, List.set_cons_succ]
          refine wpAnyH_ready (rs := [6]) (by kernel_rfl) (by simp) ?_
          refine AllReadyH.cons rfl (fun K2 hK2 => ?_) AllReadyH.nil
          go_simp
          rw [HCF.out, Oper.upon_enter]
          refine hrk.mono ?_
          clear hrk
          intro e w12 hp
          obtain ⟨RK, hRK⟩ : ∃ RK, readKL k q2 { own0 x with kind := (k : Int), down := d1, nulls := q1 } = RK := ⟨_, rfl⟩
          have hp2 : ReadPost B F num y RK e w12 := by rw [← hRK]; exact hp
          clear hp
          have HLN2 := HLN.out
          rw [hRK] at HLN2
          cases RK with
          | none =>
            obtain ⟨rfl, hO12⟩ := hp2
            have hp := hlost w12 HLN2 (HST12.out.othF hO12 hBF hgF).grw
            clear hlost HLN HLN2 HST12 hO12
            unfold lostL at *
            go_wp2_with fail
            exact ⟨rfl, hp⟩
          | some z =>
            obtain ⟨rfl, hL12, hF12, hO12⟩ := hp2
            obtain ⟨z1, z2⟩ := z
            have hz : z2.kind = (k : Int) := readKL_kind hRK
            have hzw : WsOK z1 := readKL_ok hw9 hRK
            have c12 : w12.cell? ⟨F, 1, none⟩ = some (.int .u8 (k : Int)) := by rw [← hz]; exact Blk.cell hF12 1
            have HST13 : Hid (FSt K R B _ ls after g cap _ _ w w12) := HST12.out.othF hO12 hBF hgF
            go_simp
            refine hK2.out _ _ c12 (fun hEnd => ?_)
            clear hK2 K2 HST12 hO12 q3 hH1 hH2 hHeld hgl c1 HLN hRK
            try simp only [Act.put, List.setIfInBounds_toArray, List.set_cons_zero, List.set_cons_succ]
            refine wpAnyH_done (by kernel_rfl) ?_ _
            cases z1 with
            | cons y1 yr =>
              have hyl : yr.length ≤ 1000000 := hzw.tail.1
              have hne := needEnd_no B num y1 yr hyl w12 hL12
              have hp := hlost w12 HLN2 HST13.out.grw
              clear hlost HLN2 HST13
              unfold lostL at *
              go_wp2_with fail
              refine hne.mono ?_
              rintro _ w13 ⟨rfl, rfl⟩
              clear hne
              go_wp2_with fail
              exact ⟨rfl, hp⟩
            | nil =>
              have hne := needEnd_ok B num w12 hL12
              go_wp2_with fail
              refine hne.mono ?_
              rintro _ w13 ⟨rfl, rfl⟩
              clear hne
              by_cases h7 : k = 7
              · have t7 : ((k : Int) == 7) = true := by simp; omega
                have hwi := hwith z2 w12 g cap HLN2 (by rw [hz]; omega) HST13.out.grw HST13.out.rd HST13.out.own HGN.out
                have HF12 : Hid (FAt w12 F z2) := hF12
                have HBl : Hid (w.heap.size ≤ B) := HST13.out.h0B
                have HRB : Hid (R < B) := Nat.lt_of_lt_of_le hR hK
                clear hlost hdone hwith hEnd hL12 hF12
                go_wp2_with fail
                refine hwi.mono ?_
                clear hwi
                rintro _ w14 (⟨n', rfl, hp⟩ | ⟨fa, fn, fc, rfl, hG, hk⟩)
                · unfold lostL at *
                  go_wp2_with fail
                  exact ⟨rfl, hp⟩
                · have hFl2 : F < w12.heap.size := Blk.lt HF12.out
                  have hRB := HRB.out
                  have hF14 : FAt w14 F z2 := (hG.block F hFl2 (by omega) (by simpa using Ne.symm hgF)).trans HF12.out
                  have hT14 : Blk w14 (B + 1) 48 #[.string ⟨#[]⟩, .int .u8 0, .bool false, .int .u8 0, .bool false, .bool false, .string ⟨#[]⟩, .bool false, .string ⟨#[]⟩, .int .i64 0, .int .i64 0, .bool false, .bool false, .slice none 0 0] := (hG.block (B + 1) HST13.out.res.lt (by omega) (by simpa using Ne.symm HST13.out.hgT)).trans HST13.out.res
                  obtain ⟨a0, a1, a2, a3, a4, a5, a6, a7, a8, a9, a10, a11, a12, a13⟩ := Blk.c14 hF14
                  obtain ⟨b0, b1, b2, b3, b4, b5, b6, b7, b8, b9, b10, b11, b12, b13⟩ := Blk.c14 hT14
                  have ff13 : w14.frozen? ⟨F, 13, none⟩ = false := Blk.free hF14 13
                  have fz0 : w14.frozen? ⟨B + 1, 0, none⟩ = false := Blk.free hT14 0
                  have fz1 : w14.frozen? ⟨B + 1, 1, none⟩ = false := Blk.free hT14 1
                  have fz2 : w14.frozen? ⟨B + 1, 2, none⟩ = false := Blk.free hT14 2
                  have fz3 : w14.frozen? ⟨B + 1, 3, none⟩ = false := Blk.free hT14 3
                  have fz4 : w14.frozen? ⟨B + 1, 4, none⟩ = false := Blk.free hT14 4
                  have fz5 : w14.frozen? ⟨B + 1, 5, none⟩ = false := Blk.free hT14 5
                  have fz6 : w14.frozen? ⟨B + 1, 6, none⟩ = false := Blk.free hT14 6
                  have fz7 : w14.frozen? ⟨B + 1, 7, none⟩ = false := Blk.free hT14 7
                  have fz8 : w14.frozen? ⟨B + 1, 8, none⟩ = false := Blk.free hT14 8
                  have fz9 : w14.frozen? ⟨B + 1, 9, none⟩ = false := Blk.free hT14 9
                  have fz10 : w14.frozen? ⟨B + 1, 10, none⟩ = false := Blk.free hT14 10
                  have fz11 : w14.frozen? ⟨B + 1, 11, none⟩ = false := Blk.free hT14 11
                  have fz12 : w14.frozen? ⟨B + 1, 12, none⟩ = false := Blk.free hT14 12
                  have fz13 : w14.frozen? ⟨B + 1, 13, none⟩ = false := Blk.free hT14 13
                  rw [hz] at a1
                  have HK14 : Hid (∀ wF, _ → _ → _ → _ → _ → P _ wF) := hk
                  have HT14 : Hid (Blk w14 (B + 1) 48 #[.string ⟨#[]⟩, .int .u8 0, .bool false, .int .u8 0, .bool false, .bool false, .string ⟨#[]⟩, .bool false, .string ⟨#[]⟩, .int .i64 0, .int .i64 0, .bool false, .bool false, .slice none 0 0]) := hT14
                  clear hk hG hF14 hT14 c12
                  have hz7 : z2.kind = 7 := by omega
                  have HZ7 : Hid (z2.kind = 7) := hz7
                  clear hz7
                  go_wp2_with fail
                  have hO0 := Oth.set F 13 w14 (.slice fa fn fc)
                  have hT15 : Blk (w14.setCell ⟨F, 13, none⟩ (.slice fa fn fc)) (B + 1) 48 #[.string ⟨#[]⟩, .int .u8 0, .bool false, .int .u8 0, .bool false, .bool false, .string ⟨#[]⟩, .bool false, .string ⟨#[]⟩, .int .i64 0, .int .i64 0, .bool false, .bool false, .slice none 0 0] := (hO0.block (B + 1) HT14.out.lt (by omega)).trans HT14.out
                  have hrs := res_set hT15 (.string z2.name) (.int .u8 7) (.bool z2.down) (.int .u8 z2.nulls) (.bool z2.bnd) (.bool z2.ln) (.string z2.lm) (.bool z2.hn) (.string z2.hm) (.int .i64 z2.most) (.int .i64 z2.str) (.bool z2.shf) (.bool z2.bck) (.slice fa fn fc) rfl
                  obtain ⟨hTF, hOF⟩ := hrs
                  have hBl := HBl.out
                  have hgT := HST13.out.hgT
                  have hp := HK14.out _ (hOF.os.trans hO0.os) (hOF.tape.trans hO0.tape) (hOF.output.trans hO0.output) (Nat.le_trans hO0.size hOF.size) (fun i hi hor => (hOF.block i (Nat.lt_of_lt_of_le hi hO0.size) (by rcases hor with h | h | h <;> omega)).trans (hO0.block i hi (by rcases hor with h | h | h <;> omega)))
                  obtain ⟨d0, d1', d2', d3, d4, d5, d6, d7, d8, d9, d10, d11, d12, d13⟩ := Blk.c14 hTF
                  refine ⟨rfl, fV z2 fa fn fc, ?_, hp⟩
                  unfold fV
                  rw [HZ7.out]
                  simp [results, Tryz.results81, go_sem, d0, d1', d2', d3, d4, d5, d6, d7, d8, d9, d10, d11, d12, d13]
              · have t7 : ((k : Int) == 7) = false := by simp; omega
                have hT12 := HST13.out.res
                obtain ⟨a0, a1, a2, a3, a4, a5, a6, a7, a8, a9, a10, a11, a12, a13⟩ := Blk.c14 hF12
                obtain ⟨b0, b1, b2, b3, b4, b5, b6, b7, b8, b9, b10, b11, b12, b13⟩ := Blk.c14 hT12
                have fz0 : w12.frozen? ⟨B + 1, 0, none⟩ = false := Blk.free hT12 0
                have fz1 : w12.frozen? ⟨B + 1, 1, none⟩ = false := Blk.free hT12 1
                have fz2 : w12.frozen? ⟨B + 1, 2, none⟩ = false := Blk.free hT12 2
                have fz3 : w12.frozen? ⟨B + 1, 3, none⟩ = false := Blk.free hT12 3
                have fz4 : w12.frozen? ⟨B + 1, 4, none⟩ = false := Blk.free hT12 4
                have fz5 : w12.frozen? ⟨B + 1, 5, none⟩ = false := Blk.free hT12 5
                have fz6 : w12.frozen? ⟨B + 1, 6, none⟩ = false := Blk.free hT12 6
                have fz7 : w12.frozen? ⟨B + 1, 7, none⟩ = false := Blk.free hT12 7
                have fz8 : w12.frozen? ⟨B + 1, 8, none⟩ = false := Blk.free hT12 8
                have fz9 : w12.frozen? ⟨B + 1, 9, none⟩ = false := Blk.free hT12 9
                have fz10 : w12.frozen? ⟨B + 1, 10, none⟩ = false := Blk.free hT12 10
                have fz11 : w12.frozen? ⟨B + 1, 11, none⟩ = false := Blk.free hT12 11
                have fz12 : w12.frozen? ⟨B + 1, 12, none⟩ = false := Blk.free hT12 12
                have fz13 : w12.frozen? ⟨B + 1, 13, none⟩ = false := Blk.free hT12 13
                rw [hz] at a1
                have HT12 : Hid (Blk w12 (B + 1) 48 #[.string ⟨#[]⟩, .int .u8 0, .bool false, .int .u8 0, .bool false, .bool false, .string ⟨#[]⟩, .bool false, .string ⟨#[]⟩, .int .i64 0, .int .i64 0, .bool false, .bool false, .slice none 0 0]) := hT12
                clear c12 hEnd hL12 hF12 hT12
                go_wp2_with fail
                have hrs := res_set HT12.out (.string z2.name) (.int .u8 (k : Int)) (.bool z2.down) (.int .u8 z2.nulls) (.bool z2.bnd) (.bool z2.ln) (.string z2.lm) (.bool z2.hn) (.string z2.hm) (.int .i64 z2.most) (.int .i64 z2.str) (.bool z2.shf) (.bool z2.bck) (.slice none 0 0) rfl
                obtain ⟨hTF, hOF⟩ := hrs
                obtain ⟨hG1, hG2, hG3⟩ := HST13.out.done hOF
                have hp := hdone _ z2 g cap HLN2 (by rw [hz]; omega) hG1 hG2 hG3 HGN.out
                obtain ⟨d0, d1', d2', d3, d4, d5, d6, d7, d8, d9, d10, d11, d12, d13⟩ := Blk.c14 hTF
                refine ⟨rfl, fV z2 none 0 0, ?_, hp⟩
                unfold fV
                rw [hz]
                simp [results, Tryz.results81, go_sem, d0, d1', d2', d3, d4, d5, d6, d7, d8, d9, d10, d11, d12, d13]
    · have hln : lineL ws = none := by rw [lineL, hs]; rfl
      have hp := hlost w2 hln (HST.out.oth hO2).grw
      clear hlost hs hln HST hO2
      unfold lostL at *
      go_wp2_with fail
      exact ⟨rfl, hp⟩
end Go.Proofs.YtcbjnifoojjipaaGreatDoor
