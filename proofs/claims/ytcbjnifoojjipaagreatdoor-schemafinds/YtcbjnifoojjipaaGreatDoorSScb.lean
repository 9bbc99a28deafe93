/- What schema's readSchema does (a contract; nothing is claimed here). -/
import Derived.Test.YtcbjnifoojjipaaGreatDoorSSca
namespace Go.Proofs.YtcbjnifoojjipaaGreatDoor
open Go.RowKit Go.Vf Go.Maps
set_option maxHeartbeats 4000000 in
set_option maxRecDepth 20000 in
theorem readSchema_any (K R : Nat) (after : Int) (ls : List Ln) (hok : ∀ l ∈ ls, WsOK l.2) (ns : List Int) (hlen : ns.length + ls.length ≤ 999990) (a : Option Addr) (c : Nat) (w : World) (hrd : RdAt K R w ls after (.slice a ns.length c)) (hown : IOwn w K (.slice a ns.length c) ns) :
    Calls Tryz.prog 52 #[.pointer (some ⟨R, 0, none⟩)] w (ScPost K R after (Value.slice a ns.length c).ownBlock w (schemaP after ls ns)) := by
  obtain ⟨G, hG⟩ : ∃ G, schemaP after ls ns = G := ⟨_, rfl⟩
  rw [hG]
  obtain ⟨ob, hob⟩ : ∃ ob, (Value.slice a ns.length c).ownBlock = ob := ⟨_, rfl⟩
  have HOB : Hid ((Value.slice a ns.length c).ownBlock = ob) := hob
  rw [hob]
  have hK := hrd.hK
  have hR := hrd.hR
  have hrs : Rs K R after ob w w ls a c ns := ⟨hrd, hown, .inl hob, Grw.refl _ _ _ _⟩
  have hb0 := (Below.refl w.heap.size w).alloc (Nat.le_refl _) (.cells #[.int .i64 0, .slice none 0 0] 25)
  have hC0 := Blk.new w 25 #[.int .i64 0, .slice none 0 0]
  have hn0 : some w.heap.size ≠ (Value.slice a ns.length c).ownBlock := fun e => by
    obtain ⟨_, cs, f, hh⟩ := own_ge hown e.symm
    have := (Array.getElem?_eq_some_iff.1 hh).1
    omega
  have hrs0 := hrs.oth hK (Oth.of (B := w.heap.size) hb0) (Nat.le_refl _) hn0
  clear hrs hrd hown hn0 hob
  go_enter Tryz.func52, Tryz.ntmps52
  go_upto_region 1 with fail
  have hsA : w.heap.size < (w.alloc (.cells #[.int .i64 0, .slice none 0 0] 25)).heap.size := by rw [alloc_size]; omega
  generalize w.alloc (.cells #[.int .i64 0, .slice none 0 0] 25) = wA at *
  have hnx := next_two hrs0 hok (by omega)
  clear hb0
  go_wp2_with fail
  refine hnx.mono ?_
  clear hnx
  rintro _ w1 ⟨num, ws, ls1, wa, wc, rfl, h1, h2, h3, h4, h5, h6, h7⟩
  have HG : Hid (G = schP after num ws ls1 ns) := by show G = _; rw [← hG, h7.out]
  have hC1 : Blk w1 w.heap.size 25 #[.int .i64 0, .slice none 0 0] := (h5.block _ hC0.lt (by omega)).trans hC0
  have hs1 := h5.size
  clear hG h7 hrs0 hC0 h5 hok
  go_upto_region 2 with fail
  have hb2 := (Below.refl w1.heap.size w1).alloc (Nat.le_refl _) (.cells #[.int .i64 num, .slice wa ws.length wc] 139)
  have hB2 := Blk.new w1 139 #[.int .i64 num, .slice wa ws.length wc]
  have hn1 : some w1.heap.size ≠ (Value.slice a ns.length c).ownBlock := fun e => by
    obtain ⟨_, cs, f, hh⟩ := own_ge h4.own e.symm
    have := (Array.getElem?_eq_some_iff.1 hh).1
    omega
  have hrs2 := h4.oth hK (Oth.of (B := w1.heap.size) hb2) (by omega) hn1
  have hC2 := hC1.old hb2
  have h12 := h1.kp (w' := w1.alloc (.cells #[.int .i64 num, .slice wa ws.length wc] 139)) fun k hk _ => hb2.block k (by have := h4.rd.hK; omega)
  have hs2 : w1.heap.size < (w1.alloc (.cells #[.int .i64 num, .slice wa ws.length wc] 139)).heap.size := by rw [alloc_size]; omega
  generalize w1.alloc (.cells #[.int .i64 num, .slice wa ws.length wc] 139) = w2 at *
  generalize hBdef : w1.heap.size = B at *
  clear hb2 hn1 h4 hC1 h1
  obtain ⟨m, hm⟩ : ∃ m, ws.length = m := ⟨_, rfl⟩
  rw [hm] at hB2 ⊢
  go_cut [] from 7 to 17 (fun wx => ∃ g cap, ((Value.slice a ns.length c).ownBlock = some g ∨ w2.heap.size ≤ g) ∧ RdAt K R wx ls1 after (.slice (some ⟨g, 0, none⟩) (ns.length + 1) cap) ∧ IOwn wx K (.slice (some ⟨g, 0, none⟩) (ns.length + 1) cap) (ns ++ [num]) ∧ Grw K R (Value.slice a ns.length c).ownBlock w2 wx)
  case first =>
    obtain ⟨i0, hi0, hz0, hz1, hz2⟩ := info_parts info3
    obtain ⟨la, lc, hRB1, hLR1⟩ := hrs2.rd.row
    have hown1 := hrs2.own
    have hKs := hrs2.rd.hK
    have hRw : R < w2.heap.size := by omega
    have g0 : w2.drew.cell? ⟨B, 0, none⟩ = some (.int .i64 num) := hB2.cell 0
    have g2 : w2.drew.cell? ⟨R, 2, none⟩ = some (.slice a ns.length c) := hRB1.cell 2
    have g2' : (w2.alloc (.cells #[.int .i64 num] 3)).drew.cell? ⟨R, 2, none⟩ = some (.slice a ns.length c) := (World.cell?_alloc_lt _ _ _ hRB1.lt).trans g2
    have HGW : Hid (∀ (w7 : World) (g cap : Nat), w7.ownsRow K 3 1 (.slice (some ⟨g, 0, none⟩) (ns.length + 1) cap) (ns.length + 1) (ns.map (Value.int .i64) ++ [.int .i64 num]) → (w2.alloc (.cells #[.int .i64 num] 3)).drew.grownBy w7 (Value.slice a ns.length c).ownBlock → _) := fun w7 g cap h1 h2 => lines_grow (num := num) hR (by omega) hRB1 hLR1 hown1 h1 h2
    have HNE : Hid (∀ g, (Value.slice a ns.length c).ownBlock = some g ∨ g = w2.heap.size + 1 → (Value.slice a ns.length c).ownBlock = some g ∨ w2.heap.size ≤ g) := fun g h => by
      rcases h with h | h
      · exact .inl h
      · exact .inr (by omega)
    have hnl : ns.length ≤ 1000000 := by omega
    clear hsA hs1 hs2 h6 hlen
    clear hrs2 HOB HG
    go_region_law (refine step_append_lies _ (by rfl) _ _ _ (by rfl) K 3 i0 _ 1 8 Tryz.underlying29 hi0 hz0 hz1 hz2 rfl (by omega) (.slice a ns.length c) ns.length (ns.map (Value.int .i64)) (by rfl) (World.ownsRow.alloc hown1 _) ⟨w2.heap.size, 0, none⟩ 1 1 [.int .i64 num] (by rfl) (by rfl) (World.news_of_block (cs := #[.int .i64 num]) (t := 3) (fr := (0, 0)) (heap_alloc_new w2 _)) (by simp [Value.oneCell']) (by omega) (by unfold maxLen; omega) (by omega) (by simp; omega) (w2.heap.size + 1) (by simp) ?_; intro gg cap w7 hown7 hgrow7 hat7 hlt7; obtain ⟨y1, y2, y3, y4⟩ := HGW.out _ _ _ hown7 hgrow7; have z2 : w7.cell? ⟨R, 2, none⟩ = some (.slice a ns.length c) := y1.cell 2; have zf := Blk.free y1 2)
    all_goals
      go_wp2_with fail
      go_meet
      exact ⟨_, _, HNE.out _ hat7, y2, y3, y4⟩
  case rest =>
    obtain ⟨g, cap, hgn, hrd3, hown3, hgr3⟩ := hcut
    have hKs := hrs2.rd.hK
    have hs0 := hrs2.grw.size
    have hty : ∀ {b : Nat} {t : TypeId} {cs : Array Value}, Blk w2 b t cs → t ≠ 3 → some b ≠ (Value.slice a ns.length c).ownBlock := fun {b t cs} hb ht e => by
      obtain ⟨_, cs', f', hh⟩ := own_ge hrs2.own e.symm
      rw [show w2.heap[b]? = _ from hb] at hh
      cases hh
      exact ht rfl
    have hB3 : Blk wc B 139 #[.int .i64 num, .slice wa m _] := (hgr3.block B hB2.lt (by omega) (hty hB2 (by decide))).trans hB2
    have hC3 : Blk wc w.heap.size 25 #[.int .i64 0, .slice none 0 0] := (hgr3.block _ hC2.lt (by omega) (hty hC2 (by decide))).trans hC2
    have hL3 : LnAt wc B num ws := ⟨wa, _, by rw [hm]; exact hB3, (h12.kp (w' := wc) fun k hk hne => hgr3.block k (by omega) hne (own_R hrs2.own hk)).wat (by omega)⟩
    have hn1 : (ns ++ [num]).length = ns.length + 1 := by simp
    have hrs3 : Rs K R after ob w wc ls1 (some ⟨g, 0, none⟩) cap (ns ++ [num]) := ⟨by rw [hn1]; exact hrd3, by rw [hn1]; exact hown3, hrs2.obn.trans (OBn.of hgn) hs0, hrs2.grw.trans hgr3 hrs2.obn⟩
    have hgB : some B ≠ (Value.slice (some ⟨g, 0, none⟩) (ns ++ [num]).length cap).ownBlock := fun e => by
      obtain ⟨_, cs', f', hh⟩ := own_ge hrs3.own e.symm
      rw [show wc.heap[B]? = _ from hB3] at hh
      cases hh
    have hBw : w.heap.size ≤ B := by omega
    have hCB : w.heap.size ≠ B := by omega
    have hlen2 : (ns ++ [num]).length + 1 + ls1.length ≤ 999999 := by rw [hn1]; omega
    clear hn1
    have HX : Hid (some B ≠ (Value.slice (some ⟨g, 0, none⟩) (ns ++ [num]).length cap).ownBlock) := hgB
    have HRS : Hid (Rs K R after ob w wc ls1 (some ⟨g, 0, none⟩) cap (ns ++ [num])) := hrs3
    have HC : Hid (Blk wc w.heap.size 25 #[.int .i64 0, .slice none 0 0]) := hC3
    have HG : Hid (G = limP num (limL ws) (topA after ls1 (ns ++ [num]) [])) := HG
    generalize ns ++ [num] = ns' at *
    clear hgn hrd3 hown3 hgr3 hty hB3 hrs3 hC3 hgB hrs2 hB2 hC2 h12 hsA hs1 hs2 h6 hlen hs0 HOB hKs hm hBdef
    have hnw := needWord_any B num ws ⟨#[108, 105, 109, 105, 116]⟩ h2.1 wc hL3
    have hw2 := h2.skip ⟨#[108, 105, 109, 105, 116]⟩
    go_wp2_with fail
    refine hnw.mono ?_
    clear hnw hL3
    rintro _ w4 (⟨hs, rfl, hL4, hO4⟩ | ⟨hs, rfl, hO4⟩)
    · have hct := takeCount_ws B num _ hw2 w4 hL4
      have HRS4 : Hid (Rs K R after ob w w4 ls1 (some ⟨g, 0, none⟩) cap ns') := HRS.out.oth hK hO4 hBw HX.out
      have HC4 : Hid (Blk w4 w.heap.size 25 #[.int .i64 0, .slice none 0 0]) := (hO4.block _ HC.out.lt hCB).trans HC.out
      clear hL4 hO4 HRS HC
      go_wp2_with fail
      refine hct.mono ?_
      clear hct
      intro e w5 hp
      cases hc : cntW (skipL ws ⟨#[108, 105, 109, 105, 116]⟩).2 with
      | none =>
        rw [hc] at hp
        obtain ⟨rfl, hO5⟩ := hp
        have hGq : Hid (G = .error num) := by show G = _; rw [HG.out, limL, if_pos hs, hc]; rfl
        have hgr := (HRS4.out.oth hK hO5 hBw HX.out).grw
        clear hs hc HRS4 HC4 hO5 HG
        unfold lostL at *
        go_wp2_with fail
        refine ⟨rfl, ?_⟩
        rw [hGq.out]
        exact ⟨rfl, hgr⟩
      | some z =>
        obtain ⟨z, r1⟩ := z
        rw [hc] at hp
        obtain ⟨rfl, hL5, hO5⟩ := hp
        have hwz : WsOK r1 := cntW_ok hw2 hc
        have HRS5 : Hid (Rs K R after ob w w5 ls1 (some ⟨g, 0, none⟩) cap ns') := HRS4.out.oth hK hO5 hBw HX.out
        have HC5 : Hid (Blk w5 w.heap.size 25 #[.int .i64 0, .slice none 0 0]) := (hO5.block _ HC4.out.lt hCB).trans HC4.out
        have hb6 := (Below.refl w5.heap.size w5).alloc (Nat.le_refl _) (.cells #[.int .i64 z, .slice none 0 0] 25)
        have hL6 := hL5.old hb6
        have HN6 : Hid (Blk (w5.alloc (.cells #[.int .i64 z, .slice none 0 0] 25)) w5.heap.size 25 #[.int .i64 z, .slice none 0 0]) := Blk.new w5 25 #[.int .i64 z, .slice none 0 0]
        have HA6 : Hid (ScAt K R after ob w (w5.alloc (.cells #[.int .i64 z, .slice none 0 0] 25)) w.heap.size w5.heap.size z ls1 ns' (some ⟨g, 0, none⟩) cap none 0 []) := by
          refine ⟨HC5.out.old hb6, HN6.out, Nat.le_refl _, HRS5.out.grw.size, Nat.ne_of_lt HC5.out.lt, h3, FRow.nil _ _, HRS5.out.oth hK (Oth.of (B := w5.heap.size) hb6) HRS5.out.grw.size fun e => ?_⟩
          obtain ⟨_, cs, f, hh⟩ := own_ge HRS5.out.own e.symm
          have := (Array.getElem?_eq_some_iff.1 hh).1
          omega
        have hgr6 : Hid (Grw K R ob w (w5.alloc (.cells #[.int .i64 z, .slice none 0 0] 25))) := HA6.out.rs.grw
        clear hL5 hO5 HRS4 HC4 HRS5 HC5 hb6 HN6
        go_upto_region 5 with fail
        generalize w5.alloc (.cells #[.int .i64 z, .slice none 0 0] 25) = w6 at *
        generalize w5.heap.size = S at *
        cases r1 with
        | cons y1 yr =>
          have hne := needEnd_no B num y1 yr hwz.tail.1 w6 hL6
          have hGq : Hid (G = .error num) := by show G = _; rw [HG.out, limL, if_pos hs, hc]; rfl
          clear hs hc HA6 HG hL6
          unfold lostL at *
          go_wp2_with fail
          refine hne.mono ?_
          rintro _ w7 ⟨rfl, rfl⟩
          clear hne
          go_wp2_with fail
          refine ⟨rfl, ?_⟩
          rw [hGq.out]
          exact ⟨rfl, hgr6.out⟩
        | nil =>
          have hne := needEnd_ok B num w6 hL6
          obtain ⟨GT, hGT⟩ : ∃ GT, topA after ls1 ns' [] = GT := ⟨_, rfl⟩
          have HG7 : Hid (G = finP z GT) := by show G = _; rw [HG.out, limL, if_pos hs, hc, hGT]; rfl
          have HGT : Hid (GT = topA after ls1 ns' (([] : List FQ).map Prod.fst)) := hGT.symm
          clear hs hc HG hL6 hGT hgr6
          go_wp2_with fail
          refine hne.mono ?_
          rintro _ w7 ⟨rfl, rfl⟩
          clear hne
          go_upto_region 6 with fail
          go_loopg [] (ls1.length) (fun k wr => ∃ ls ns a c fa fc qs, k = ls.length ∧ ScAt K R after ob w wr w.heap.size S z ls ns a c fa fc qs ∧ ns.length + 1 + ls.length ≤ 999999 ∧ qs.length ≤ ns.length ∧ Hid (GT = topA after ls ns (qs.map Prod.fst)))
          case atStart => exact ⟨ls1, ns', _, cap, none, 0, [], rfl, HA6.out, hlen2, by simp, HGT⟩
          case round =>
            clear HGT HA6 hlen2
            obtain ⟨ls, ns, a, c, fa, fc, qs, hgk, hst, hlen, hqn, HGT⟩ := hrel
            have hHgk : Hid (gk = ls.length) := hgk
            clear hgk
            obtain ⟨la, lc, hRB, hLR⟩ := hst.rs.rd.row
            have c0 : wr.cell? ⟨R, 0, none⟩ = some (.slice la ls.length lc) := hRB.cell 0
            have hRl := hRB.lt
            have HST : Hid (ScAt K R after ob w wr w.heap.size S z ls ns a c fa fc qs) := hst
            clear hst hRB hLR
            cases ls with
            | nil =>
              simp only [List.length_nil] at c0
              have hGq : Hid (G = .ok (z, qs.map Prod.fst, ns)) := by show G = _; rw [HG7.out, HGT.out, topA_nil]; rfl
              have hst := HST.out
              obtain ⟨s0, s1⟩ : wr.cell? ⟨S, 0, none⟩ = some (.int .i64 z) ∧ wr.cell? ⟨S, 1, none⟩ = some (.slice fa qs.length fc) := ⟨hst.box.cell 0, hst.box.cell 1⟩
              have t0 : wr.cell? ⟨w.heap.size, 0, none⟩ = some (.int .i64 0) := hst.res.cell 0
              have t1 : wr.cell? ⟨w.heap.size, 1, none⟩ = some (.slice none 0 0) := hst.res.cell 1
              have tf0 : wr.frozen? ⟨w.heap.size, 0, none⟩ = false := hst.res.frozen 0
              have tf1 : wr.frozen? ⟨w.heap.size, 1, none⟩ = false := hst.res.frozen 1
              clear hst HG7 HGT
              go_wp2_with fail
              have hst := HST.out
              have hO : Oth w.heap.size wr ((wr.setCell ⟨w.heap.size, 0, none⟩ (.int .i64 z)).setCell ⟨w.heap.size, 1, none⟩ (.slice fa qs.length fc)) := (Oth.set w.heap.size 0 wr _).trans (Oth.set w.heap.size 1 _ _)
              have hres := (hst.res.set 0 (.int .i64 z)).set 1 (.slice fa qs.length fc)
              have d0 := hres.cell 0
              have d1 := hres.cell 1
              obtain ⟨_, hfc, hFT⟩ := (hst.frow.oth hO (not48 hst.res (by decide))).fin
              refine ⟨rfl, .agg #[.int .i64 z, .slice fa qs.length fc], by simp [results, Tryz.results52, go_sem, d0, d1], ?_⟩
              rw [hGq.out]
              exact ⟨fa, fc, a, c, by simp, by simpa using hfc, hFT, hst.rs.oth hK hO (Nat.le_refl _) hst.ne.1⟩
            | cons l ls =>
              simp only [List.length_cons] at c0 hlen
              have hnx := next_cons K R after _ l ls (by omega) wr.drew (HST.out.rs.rd.kp (w' := wr.drew) (Nat.le_refl _) (fun _ _ => rfl))
              have cS0 : wr.drew.cell? ⟨S, 1, none⟩ = some (.slice fa qs.length fc) := HST.out.box.cell 1
              have HD : Hid (Oth R wr wr.drew) := Oth.of ((Below.refl wr.heap.size wr).drew)
              cases hF : fieldP after l.1 l.2 ls ns with
              | error e0 =>
                have hGq : Hid (G = .error e0) := by show G = _; rw [HG7.out, HGT.out, topA_bad hF]; rfl
                have HN : Hid (∀ y1 wa wc, WRow K R y1 wa wc l.2 → RdAt K R y1 ls after (.slice a ns.length c) → Oth R wr.drew y1 → y1.cell? ⟨S, 1, none⟩ = some (.slice fa qs.length fc) ∧ Calls Tryz.prog 81 #[.pointer (some ⟨R, 0, none⟩), .agg #[.int .i64 l.1, .slice wa l.2.length wc]] y1 (fun e w' => e = .panicked [{ v := .iface 73 (.agg #[.int .i64 110, .int .i64 e0, .slice none 0 0, .int .i64 0]), recovered := false }] ∧ Grw K R (Value.slice a ns.length c).ownBlock y1 w')) := fun y1 wa wc n1 n2 n3 => by
                  have h1 := HST.out.next hK n2 (HD.out.trans n3)
                  refine ⟨h1.box.cell 1, ?_⟩
                  have hwl : wl l.2 ≤ 1 := by unfold wl; split <;> omega
                  have := readField_whole K R after l.1 l.2 (HST.out.lok l (List.mem_cons_self ..)) ls h1.lok ns (by omega) wa wc y1 n1 a c n2 h1.rs.own
                  rw [hF] at this
                  exact this
                have HB : Hid (∀ y1 y3 wa wc, WRow K R y1 wa wc l.2 → RdAt K R y1 ls after (.slice a ns.length c) → Oth R wr.drew y1 → Grw K R (Value.slice a ns.length c).ownBlock y1 y3 → ScPost K R after ob w G (lostL e0) y3) := fun y1 y3 wa wc n1 n2 n3 hg => by
                  have h1 := HST.out.next hK n2 (HD.out.trans n3)
                  rw [hGq.out]
                  exact ⟨rfl, h1.rs.grw.trans hg h1.rs.obn⟩
                clear hF hGq HG7 HGT HST
                go_upto_region 7 with fail
                refine wp_region_held_drew (S := fun _ => True) (by kernel_rfl) trivial (fun _ => ?_)
                refine wpAnyH_takeD (i := 0) (some 28) (v := .pointer (some ⟨S, 1, none⟩)) rfl rfl (by kernel_rfl) (by kernel_rfl) (by kernel_rfl) (fun _ _ _ h => h) (Or.inl ⟨by kernel_rfl, ?hyb1⟩) trivial ?restb1
                case hyb1 => (intro x hSx; go_simp; first | done | with_reducible rfl)
                try simp only [Act.put, List.setIfInBounds_toArray, List.set_cons_zero, List.set_cons_succ]
                refine wpAnyH_takeD (i := 2) (some 30) (v := .pointer (some ⟨R, 0, none⟩)) rfl rfl (by kernel_rfl) (by kernel_rfl) (by kernel_rfl) (fun _ _ _ h => h) (Or.inl ⟨by kernel_rfl, ?hyb2⟩) trivial ?restb2
                case hyb2 => (intro x hSx; go_simp; first | done | with_reducible rfl)
                try simp only [Act.put, List.setIfInBounds_toArray, List.set_cons_zero, List.set_cons_succ]
                refine wpAnyH_takeD (i := 3) (some 31) (v := .pointer (some ⟨R, 0, none⟩)) rfl rfl (by kernel_rfl) (by kernel_rfl) (by kernel_rfl) (fun _ _ _ h => h) (Or.inl ⟨by kernel_rfl, ?hyb3⟩) trivial ?restb3
                case hyb3 => (intro x hSx; go_simp; first | done | with_reducible rfl)
                try simp only [Act.put, List.setIfInBounds_toArray, List.set_cons_zero, List.set_cons_succ]
                refine wpAnyH_ready (rs := [1, 4]) (by kernel_rfl) (by simp) ?_
                refine (AllReadyH.cons rfl (fun K2 hK2 => ?_) (AllReadyH.cons rfl (fun K2 hK2 => ?_) AllReadyH.nil))
                · go_simp
                  refine hK2.out _ _ trivial (fun _ => ?_)
                  clear hK2 K2
                  try simp only [Act.put, List.setIfInBounds_toArray, List.set_cons_zero, List.set_cons_succ]
                  refine wpAnyH_ready (rs := [4]) (by kernel_rfl) (by simp) ?_
                  refine (AllReadyH.cons rfl (fun K2 hK2 => ?_) AllReadyH.nil)
                  go_simp
                  go_wp2_with (go_at_call 77; refine hnx.mono ?_; rintro e y1 ⟨wa, wc, rfl, n1, n2, n3⟩)
                  obtain ⟨cS1, hrf⟩ := HN.out y1 wa wc n1 n2 n3
                  refine hK2.out _ _ trivial (fun _ => ?_)
                  clear hK2 K2 hnx
                  try simp only [Act.put, List.setIfInBounds_toArray, List.set_cons_zero, List.set_cons_succ]
                  refine wpAnyH_ready (rs := [5]) (by kernel_rfl) (by simp) ?_
                  refine (AllReadyH.cons rfl (fun K2 hK2 => ?_) AllReadyH.nil)
                  go_simp
                  go_wp2_with (go_at_call 81; refine hrf.mono ?_; rintro e y3 ⟨rfl, hg3⟩)
                  exact ⟨rfl, HB.out y1 y3 wa wc n1 n2 n3 hg3⟩
                · go_simp
                  go_wp2_with (go_at_call 77; refine hnx.mono ?_; rintro e y1 ⟨wa, wc, rfl, n1, n2, n3⟩)
                  obtain ⟨cS1, hrf⟩ := HN.out y1 wa wc n1 n2 n3
                  refine hK2.out _ _ trivial (fun _ => ?_)
                  clear hK2 K2 hnx
                  try simp only [Act.put, List.setIfInBounds_toArray, List.set_cons_zero, List.set_cons_succ]
                  refine wpAnyH_ready (rs := [1, 5]) (by kernel_rfl) (by simp) ?_
                  refine (AllReadyH.cons rfl (fun K2 hK2 => ?_) (AllReadyH.cons rfl (fun K2 hK2 => ?_) AllReadyH.nil))
                  · go_simp
                    refine hK2.out _ _ trivial (fun _ => ?_)
                    clear hK2 K2
                    try simp only [Act.put, List.setIfInBounds_toArray, List.set_cons_zero, List.set_cons_succ]
                    refine wpAnyH_ready (rs := [5]) (by kernel_rfl) (by simp) ?_
                    refine (AllReadyH.cons rfl (fun K2 hK2 => ?_) AllReadyH.nil)
                    go_simp
                    go_wp2_with (go_at_call 81; refine hrf.mono ?_; rintro e y3 ⟨rfl, hg3⟩)
                    exact ⟨rfl, HB.out y1 y3 wa wc n1 n2 n3 hg3⟩
                  · go_simp
                    go_wp2_with (go_at_call 81; refine hrf.mono ?_; rintro e y3 ⟨rfl, hg3⟩)
                    exact ⟨rfl, HB.out y1 y3 wa wc n1 n2 n3 hg3⟩
              | ok q =>
                obtain ⟨f, ls2, ns2⟩ := q
                have HG2 : Hid (∀ (ga : Option Addr) (gc : Nat), Hid (GT = topA after ls2 ns2 ((qs ++ [(f, ga, gc)]).map Prod.fst))) := fun ga gc => by show GT = _; rw [HGT.out, topA_ok hF]; simp
                obtain ⟨l1, l2, l3, l4⟩ := fieldP_len hF
                have l5 := fieldP_less hF
                simp only at l2 l3 l4 l5
                have HM : Hid (ls2.length < gk) := by have := hHgk.out; simp only [List.length_cons] at this; show _ < _; omega
                have HL : Hid (ns2.length + 1 + ls2.length ≤ 999999 ∧ qs.length + 1 ≤ ns2.length) := ⟨by omega, by omega⟩
                have hql : qs.length ≤ 1000000 := by omega
                have HN : Hid (∀ y1 wa wc, WRow K R y1 wa wc l.2 → RdAt K R y1 ls after (.slice a ns.length c) → Oth R wr.drew y1 → y1.cell? ⟨S, 1, none⟩ = some (.slice fa qs.length fc) ∧ Calls Tryz.prog 81 #[.pointer (some ⟨R, 0, none⟩), .agg #[.int .i64 l.1, .slice wa l.2.length wc]] y1 (fun e w' => ∃ ga gc a2 c2, e = .returned (.agg #[.string f.own.name, .int .u8 f.own.kind, .bool f.own.down, .int .u8 f.own.nulls, .bool f.own.bnd, .bool f.own.ln, .string f.own.lm, .bool f.own.hn, .string f.own.hm, .int .i64 f.own.most, .int .i64 f.own.str, .bool f.own.shf, .bool f.own.bck, .slice ga f.fields.length gc]) ∧ f.fields.length ≤ gc ∧ FT w' y1.heap.size none f.fields ga gc ∧ Rs K R after (Value.slice a ns.length c).ownBlock y1 w' ls2 a2 c2 ns2)) := fun y1 wa wc n1 n2 n3 => by
                  have h1 := HST.out.next hK n2 (HD.out.trans n3)
                  refine ⟨h1.box.cell 1, ?_⟩
                  have hwl : wl l.2 ≤ 1 := by unfold wl; split <;> omega
                  have := readField_whole K R after l.1 l.2 (HST.out.lok l (List.mem_cons_self ..)) ls h1.lok ns (by omega) wa wc y1 n1 a c n2 h1.rs.own
                  rw [hF] at this
                  exact this
                have HF : Hid (∀ y1 y3 wa wc, WRow K R y1 wa wc l.2 → RdAt K R y1 ls after (.slice a ns.length c) → Oth R wr.drew y1 → ∀ ga gc a2 c2, f.fields.length ≤ gc → FT y3 y1.heap.size none f.fields ga gc → Rs K R after (Value.slice a ns.length c).ownBlock y1 y3 ls2 a2 c2 ns2 → y3.cell? ⟨S, 1, none⟩ = some (.slice fa qs.length fc) ∧ (y3.alloc (.cells #[.string f.own.name, .int .u8 f.own.kind, .bool f.own.down, .int .u8 f.own.nulls, .bool f.own.bnd, .bool f.own.ln, .string f.own.lm, .bool f.own.hn, .string f.own.hm, .int .i64 f.own.most, .int .i64 f.own.str, .bool f.own.shf, .bool f.own.bck, .slice ga f.fields.length gc] 48)).cell? ⟨S, 1, none⟩ = some (.slice fa qs.length fc) ∧ Hid (ScAt K R after ob w (y3.alloc (.cells #[.string f.own.name, .int .u8 f.own.kind, .bool f.own.down, .int .u8 f.own.nulls, .bool f.own.bnd, .bool f.own.ln, .string f.own.lm, .bool f.own.hn, .string f.own.hm, .int .i64 f.own.most, .int .i64 f.own.str, .bool f.own.shf, .bool f.own.bck, .slice ga f.fields.length gc] 48)) w.heap.size S z ls2 ns2 a2 c2 fa fc qs ∧ (f.fields.length ≤ gc ∧ FT (y3.alloc (.cells #[.string f.own.name, .int .u8 f.own.kind, .bool f.own.down, .int .u8 f.own.nulls, .bool f.own.bnd, .bool f.own.ln, .string f.own.lm, .bool f.own.hn, .string f.own.hm, .int .i64 f.own.most, .int .i64 f.own.str, .bool f.own.shf, .bool f.own.bck, .slice ga f.fields.length gc] 48)) w.heap.size (Value.slice fa qs.length fc).ownBlock f.fields ga gc) ∧ Blk (y3.alloc (.cells #[.string f.own.name, .int .u8 f.own.kind, .bool f.own.down, .int .u8 f.own.nulls, .bool f.own.bnd, .bool f.own.ln, .string f.own.lm, .bool f.own.hn, .string f.own.hm, .int .i64 f.own.most, .int .i64 f.own.str, .bool f.own.shf, .bool f.own.bck, .slice ga f.fields.length gc] 48)) y3.heap.size 48 (cellQ (f, ga, gc)).toArray ∧ w.heap.size ≤ (y3.alloc (.cells #[.string f.own.name, .int .u8 f.own.kind, .bool f.own.down, .int .u8 f.own.nulls, .bool f.own.bnd, .bool f.own.ln, .string f.own.lm, .bool f.own.hn, .string f.own.hm, .int .i64 f.own.most, .int .i64 f.own.str, .bool f.own.shf, .bool f.own.bck, .slice ga f.fields.length gc] 48)).heap.size)) := fun y1 y3 wa wc n1 n2 n3 ga gc a2 c2 r1 r2 r3 => by
                  have h1 := HST.out.next hK n2 (HD.out.trans n3)
                  have h3 := h1.field hK r3 (fun x hx => h1.lok x (l4 x hx))
                  have hb4 := (Below.refl y3.heap.size y3).alloc (Nat.le_refl _) (.cells #[.string f.own.name, .int .u8 f.own.kind, .bool f.own.down, .int .u8 f.own.nulls, .bool f.own.bnd, .bool f.own.ln, .string f.own.lm, .bool f.own.hn, .string f.own.hm, .int .i64 f.own.most, .int .i64 f.own.str, .bool f.own.shf, .bool f.own.bck, .slice ga f.fields.length gc] 48)
                  have h4 := h3.old hK hb4
                  refine ⟨h3.box.cell 1, h4.box.cell 1, h4, ⟨r1, ?_⟩, Blk.new y3 48 (cellQ (f, ga, gc)).toArray, h4.rs.grw.size⟩
                  refine r2.kept h1.rs.grw.size fun b hb _ hT => ⟨hb4.block b hT.lt, fun e => ?_⟩
                  have := (h1.frow.t48 e.symm).2.lt
                  omega
                clear hF HG7 HGT HST l1 l2 l3 l4 l5 hlen hqn
                go_upto_region 7 with fail
                refine wp_region_held_drew (S := fun _ => True) (by kernel_rfl) trivial (fun _ => ?_)
                refine wpAnyH_takeD (i := 0) (some 28) (v := .pointer (some ⟨S, 1, none⟩)) rfl rfl (by kernel_rfl) (by kernel_rfl) (by kernel_rfl) (fun _ _ _ h => h) (Or.inl ⟨by kernel_rfl, ?hyk1⟩) trivial ?restk1
                case hyk1 => (intro x hSx; go_simp; first | done | with_reducible rfl)
                try simp only [Act.put, List.setIfInBounds_toArray, List.set_cons_zero, List.set_cons_succ]
                refine wpAnyH_takeD (i := 2) (some 30) (v := .pointer (some ⟨R, 0, none⟩)) rfl rfl (by kernel_rfl) (by kernel_rfl) (by kernel_rfl) (fun _ _ _ h => h) (Or.inl ⟨by kernel_rfl, ?hyk2⟩) trivial ?restk2
                case hyk2 => (intro x hSx; go_simp; first | done | with_reducible rfl)
                try simp only [Act.put, List.setIfInBounds_toArray, List.set_cons_zero, List.set_cons_succ]
                refine wpAnyH_takeD (i := 3) (some 31) (v := .pointer (some ⟨R, 0, none⟩)) rfl rfl (by kernel_rfl) (by kernel_rfl) (by kernel_rfl) (fun _ _ _ h => h) (Or.inl ⟨by kernel_rfl, ?hyk3⟩) trivial ?restk3
                case hyk3 => (intro x hSx; go_simp; first | done | with_reducible rfl)
                try simp only [Act.put, List.setIfInBounds_toArray, List.set_cons_zero, List.set_cons_succ]
                refine wpAnyH_ready (rs := [1, 4]) (by kernel_rfl) (by simp) ?_
                refine (AllReadyH.cons rfl (fun K2 hK2 => ?_) (AllReadyH.cons rfl (fun K2 hK2 => ?_) AllReadyH.nil))
                · go_simp
                  refine hK2.out _ _ trivial (fun _ => ?_)
                  clear hK2 K2
                  try simp only [Act.put, List.setIfInBounds_toArray, List.set_cons_zero, List.set_cons_succ]
                  refine wpAnyH_ready (rs := [4]) (by kernel_rfl) (by simp) ?_
                  refine (AllReadyH.cons rfl (fun K2 hK2 => ?_) AllReadyH.nil)
                  go_simp
                  go_wp2_with (go_at_call 77; refine hnx.mono ?_; rintro e y1 ⟨wa, wc, rfl, n1, n2, n3⟩)
                  obtain ⟨cS1, hrf⟩ := HN.out y1 wa wc n1 n2 n3
                  refine hK2.out _ _ trivial (fun _ => ?_)
                  clear hK2 K2 hnx
                  try simp only [Act.put, List.setIfInBounds_toArray, List.set_cons_zero, List.set_cons_succ]
                  refine wpAnyH_ready (rs := [5]) (by kernel_rfl) (by simp) ?_
                  refine (AllReadyH.cons rfl (fun K2 hK2 => ?_) AllReadyH.nil)
                  go_simp
                  go_wp2_with (go_at_call 81; refine hrf.mono ?_; rintro e y3 ⟨ga, gc, a2, c2, rfl, r1, r2, r3⟩)
                  obtain ⟨cS3, cS4, hFF⟩ := HF.out y1 y3 wa wc n1 n2 n3 ga gc a2 c2 r1 r2 r3
                  refine hK2.out _ _ trivial (fun _ => ?_)
                  clear hK2 K2 hrf
                  try simp only [Act.put, List.setIfInBounds_toArray, List.set_cons_zero, List.set_cons_succ]
                  refine wpAnyH_ready (rs := [6]) (by kernel_rfl) (by simp) ?_
                  refine (AllReadyH.cons rfl (fun K2 hK2 => ?_) AllReadyH.nil)
                  go_simp
                  refine hK2.out _ _ trivial (fun _ => ?_)
                  clear hK2 K2
                  try simp only [Act.put, List.setIfInBounds_toArray, List.set_cons_zero, List.set_cons_succ]
                  obtain ⟨hA4, hq4, hN4, hbase⟩ := hFF.out
                  refine wpAnyH_ready (rs := [7]) (by kernel_rfl) (by simp) ?_
                  refine (AllReadyH.cons rfl (fun K2 hK2 => ?_) AllReadyH.nil)
                  refine step_append_field (by rfl) _ _ (by rfl) w.heap.size (.slice fa qs.length fc) qs (by rfl) hA4.frow (f, ga, gc) hq4 y3.heap.size 1 (by rfl) hN4 hql hbase ?_
                  intro g7 c7 y7 hfr7 hgr7 hat7
                  obtain ⟨⟨z0, z1⟩, hE⟩ := hA4.put hK hfr7 hgr7
                  refine hK2.out _ _ trivial (fun _ => ?_)
                  clear hK2 K2
                  try simp only [Act.put, List.setIfInBounds_toArray]
                  refine wpAnyH_takeD (i := 8) (some 36) (v := .pointer (some ⟨S, 1, none⟩)) rfl rfl (by kernel_rfl) (by kernel_rfl) (by kernel_rfl) (fun _ _ _ h => h) (Or.inl ⟨by kernel_rfl, ?hyk4⟩) trivial ?restk4
                  case hyk4 => (intro x hSx; go_simp; first | done | with_reducible rfl)
                  try simp only [Act.put]
                  refine wpAnyH_ready (rs := [9]) (by kernel_rfl) (by simp) ?_
                  refine (AllReadyH.cons rfl (fun K2 hK2 => ?_) AllReadyH.nil)
                  go_simp
                  refine hK2.out _ _ trivial (fun _ => ?_)
                  clear hK2 K2
                  try simp only [Act.put, List.setIfInBounds_toArray, List.set_cons_zero, List.set_cons_succ]
                  refine wpAnyH_done (by kernel_rfl) ?_ _
                  clear hfr7 hgr7 hat7 z0 z1 hA4 hq4 hN4 hbase hFF cS3 cS4 r1 r2 r3 n1 n2 n3
                  go_wp2_with fail
                  go_roundg ls2.length
                  case measure => exact HM.out
                  case rel => exact ⟨ls2, ns2, a2, c2, _, c7, qs ++ [(f, ga, gc)], rfl, hE, HL.out.1, by simp only [List.length_append, List.length_cons, List.length_nil]; exact HL.out.2, HG2.out ga gc⟩
                · go_simp
                  go_wp2_with (go_at_call 77; refine hnx.mono ?_; rintro e y1 ⟨wa, wc, rfl, n1, n2, n3⟩)
                  obtain ⟨cS1, hrf⟩ := HN.out y1 wa wc n1 n2 n3
                  refine hK2.out _ _ trivial (fun _ => ?_)
                  clear hK2 K2 hnx
                  try simp only [Act.put, List.setIfInBounds_toArray, List.set_cons_zero, List.set_cons_succ]
                  refine wpAnyH_ready (rs := [1, 5]) (by kernel_rfl) (by simp) ?_
                  refine (AllReadyH.cons rfl (fun K2 hK2 => ?_) (AllReadyH.cons rfl (fun K2 hK2 => ?_) AllReadyH.nil))
                  · go_simp
                    refine hK2.out _ _ trivial (fun _ => ?_)
                    clear hK2 K2
                    try simp only [Act.put, List.setIfInBounds_toArray, List.set_cons_zero, List.set_cons_succ]
                    refine wpAnyH_ready (rs := [5]) (by kernel_rfl) (by simp) ?_
                    refine (AllReadyH.cons rfl (fun K2 hK2 => ?_) AllReadyH.nil)
                    go_simp
                    go_wp2_with (go_at_call 81; refine hrf.mono ?_; rintro e y3 ⟨ga, gc, a2, c2, rfl, r1, r2, r3⟩)
                    obtain ⟨cS3, cS4, hFF⟩ := HF.out y1 y3 wa wc n1 n2 n3 ga gc a2 c2 r1 r2 r3
                    refine hK2.out _ _ trivial (fun _ => ?_)
                    clear hK2 K2 hrf
                    try simp only [Act.put, List.setIfInBounds_toArray, List.set_cons_zero, List.set_cons_succ]
                    refine wpAnyH_ready (rs := [6]) (by kernel_rfl) (by simp) ?_
                    refine (AllReadyH.cons rfl (fun K2 hK2 => ?_) AllReadyH.nil)
                    go_simp
                    refine hK2.out _ _ trivial (fun _ => ?_)
                    clear hK2 K2
                    try simp only [Act.put, List.setIfInBounds_toArray, List.set_cons_zero, List.set_cons_succ]
                    obtain ⟨hA4, hq4, hN4, hbase⟩ := hFF.out
                    refine wpAnyH_ready (rs := [7]) (by kernel_rfl) (by simp) ?_
                    refine (AllReadyH.cons rfl (fun K2 hK2 => ?_) AllReadyH.nil)
                    refine step_append_field (by rfl) _ _ (by rfl) w.heap.size (.slice fa qs.length fc) qs (by rfl) hA4.frow (f, ga, gc) hq4 y3.heap.size 1 (by rfl) hN4 hql hbase ?_
                    intro g7 c7 y7 hfr7 hgr7 hat7
                    obtain ⟨⟨z0, z1⟩, hE⟩ := hA4.put hK hfr7 hgr7
                    refine hK2.out _ _ trivial (fun _ => ?_)
                    clear hK2 K2
                    try simp only [Act.put, List.setIfInBounds_toArray]
                    refine wpAnyH_takeD (i := 8) (some 36) (v := .pointer (some ⟨S, 1, none⟩)) rfl rfl (by kernel_rfl) (by kernel_rfl) (by kernel_rfl) (fun _ _ _ h => h) (Or.inl ⟨by kernel_rfl, ?hyk5⟩) trivial ?restk5
                    case hyk5 => (intro x hSx; go_simp; first | done | with_reducible rfl)
                    try simp only [Act.put]
                    refine wpAnyH_ready (rs := [9]) (by kernel_rfl) (by simp) ?_
                    refine (AllReadyH.cons rfl (fun K2 hK2 => ?_) AllReadyH.nil)
                    go_simp
                    refine hK2.out _ _ trivial (fun _ => ?_)
                    clear hK2 K2
                    try simp only [Act.put, List.setIfInBounds_toArray, List.set_cons_zero, List.set_cons_succ]
                    refine wpAnyH_done (by kernel_rfl) ?_ _
                    clear hfr7 hgr7 hat7 z0 z1 hA4 hq4 hN4 hbase hFF cS3 cS4 r1 r2 r3 n1 n2 n3
                    go_wp2_with fail
                    go_roundg ls2.length
                    case measure => exact HM.out
                    case rel => exact ⟨ls2, ns2, a2, c2, _, c7, qs ++ [(f, ga, gc)], rfl, hE, HL.out.1, by simp only [List.length_append, List.length_cons, List.length_nil]; exact HL.out.2, HG2.out ga gc⟩
                  · go_simp
                    go_wp2_with (go_at_call 81; refine hrf.mono ?_; rintro e y3 ⟨ga, gc, a2, c2, rfl, r1, r2, r3⟩)
                    obtain ⟨cS3, cS4, hFF⟩ := HF.out y1 y3 wa wc n1 n2 n3 ga gc a2 c2 r1 r2 r3
                    refine hK2.out _ _ trivial (fun _ => ?_)
                    clear hK2 K2 hrf
                    try simp only [Act.put, List.setIfInBounds_toArray, List.set_cons_zero, List.set_cons_succ]
                    refine wpAnyH_ready (rs := [1, 6]) (by kernel_rfl) (by simp) ?_
                    refine (AllReadyH.cons rfl (fun K2 hK2 => ?_) (AllReadyH.cons rfl (fun K2 hK2 => ?_) AllReadyH.nil))
                    · go_simp
                      refine hK2.out _ _ trivial (fun _ => ?_)
                      clear hK2 K2
                      try simp only [Act.put, List.setIfInBounds_toArray, List.set_cons_zero, List.set_cons_succ]
                      refine wpAnyH_ready (rs := [6]) (by kernel_rfl) (by simp) ?_
                      refine (AllReadyH.cons rfl (fun K2 hK2 => ?_) AllReadyH.nil)
                      go_simp
                      refine hK2.out _ _ trivial (fun _ => ?_)
                      clear hK2 K2
                      try simp only [Act.put, List.setIfInBounds_toArray, List.set_cons_zero, List.set_cons_succ]
                      obtain ⟨hA4, hq4, hN4, hbase⟩ := hFF.out
                      refine wpAnyH_ready (rs := [7]) (by kernel_rfl) (by simp) ?_
                      refine (AllReadyH.cons rfl (fun K2 hK2 => ?_) AllReadyH.nil)
                      refine step_append_field (by rfl) _ _ (by rfl) w.heap.size (.slice fa qs.length fc) qs (by rfl) hA4.frow (f, ga, gc) hq4 y3.heap.size 1 (by rfl) hN4 hql hbase ?_
                      intro g7 c7 y7 hfr7 hgr7 hat7
                      obtain ⟨⟨z0, z1⟩, hE⟩ := hA4.put hK hfr7 hgr7
                      refine hK2.out _ _ trivial (fun _ => ?_)
                      clear hK2 K2
                      try simp only [Act.put, List.setIfInBounds_toArray]
                      refine wpAnyH_takeD (i := 8) (some 36) (v := .pointer (some ⟨S, 1, none⟩)) rfl rfl (by kernel_rfl) (by kernel_rfl) (by kernel_rfl) (fun _ _ _ h => h) (Or.inl ⟨by kernel_rfl, ?hyk6⟩) trivial ?restk6
                      case hyk6 => (intro x hSx; go_simp; first | done | with_reducible rfl)
                      try simp only [Act.put]
                      refine wpAnyH_ready (rs := [9]) (by kernel_rfl) (by simp) ?_
                      refine (AllReadyH.cons rfl (fun K2 hK2 => ?_) AllReadyH.nil)
                      go_simp
                      refine hK2.out _ _ trivial (fun _ => ?_)
                      clear hK2 K2
                      try simp only [Act.put, List.setIfInBounds_toArray, List.set_cons_zero, List.set_cons_succ]
                      refine wpAnyH_done (by kernel_rfl) ?_ _
                      clear hfr7 hgr7 hat7 z0 z1 hA4 hq4 hN4 hbase hFF cS3 cS4 r1 r2 r3 n1 n2 n3
                      go_wp2_with fail
                      go_roundg ls2.length
                      case measure => exact HM.out
                      case rel => exact ⟨ls2, ns2, a2, c2, _, c7, qs ++ [(f, ga, gc)], rfl, hE, HL.out.1, by simp only [List.length_append, List.length_cons, List.length_nil]; exact HL.out.2, HG2.out ga gc⟩
                    · go_simp
                      refine hK2.out _ _ trivial (fun _ => ?_)
                      clear hK2 K2
                      try simp only [Act.put, List.setIfInBounds_toArray, List.set_cons_zero, List.set_cons_succ]
                      refine wpAnyH_ready (rs := [1]) (by kernel_rfl) (by simp) ?_
                      refine (AllReadyH.cons rfl (fun K2 hK2 => ?_) AllReadyH.nil)
                      go_simp
                      refine hK2.out _ _ trivial (fun _ => ?_)
                      clear hK2 K2
                      try simp only [Act.put, List.setIfInBounds_toArray, List.set_cons_zero, List.set_cons_succ]
                      obtain ⟨hA4, hq4, hN4, hbase⟩ := hFF.out
                      refine wpAnyH_ready (rs := [7]) (by kernel_rfl) (by simp) ?_
                      refine (AllReadyH.cons rfl (fun K2 hK2 => ?_) AllReadyH.nil)
                      refine step_append_field (by rfl) _ _ (by rfl) w.heap.size (.slice fa qs.length fc) qs (by rfl) hA4.frow (f, ga, gc) hq4 y3.heap.size 1 (by rfl) hN4 hql hbase ?_
                      intro g7 c7 y7 hfr7 hgr7 hat7
                      obtain ⟨⟨z0, z1⟩, hE⟩ := hA4.put hK hfr7 hgr7
                      refine hK2.out _ _ trivial (fun _ => ?_)
                      clear hK2 K2
                      try simp only [Act.put, List.setIfInBounds_toArray]
                      refine wpAnyH_takeD (i := 8) (some 36) (v := .pointer (some ⟨S, 1, none⟩)) rfl rfl (by kernel_rfl) (by kernel_rfl) (by kernel_rfl) (fun _ _ _ h => h) (Or.inl ⟨by kernel_rfl, ?hyk7⟩) trivial ?restk7
                      case hyk7 => (intro x hSx; go_simp; first | done | with_reducible rfl)
                      try simp only [Act.put]
                      refine wpAnyH_ready (rs := [9]) (by kernel_rfl) (by simp) ?_
                      refine (AllReadyH.cons rfl (fun K2 hK2 => ?_) AllReadyH.nil)
                      go_simp
                      refine hK2.out _ _ trivial (fun _ => ?_)
                      clear hK2 K2
                      try simp only [Act.put, List.setIfInBounds_toArray, List.set_cons_zero, List.set_cons_succ]
                      refine wpAnyH_done (by kernel_rfl) ?_ _
                      clear hfr7 hgr7 hat7 z0 z1 hA4 hq4 hN4 hbase hFF cS3 cS4 r1 r2 r3 n1 n2 n3
                      go_wp2_with fail
                      go_roundg ls2.length
                      case measure => exact HM.out
                      case rel => exact ⟨ls2, ns2, a2, c2, _, c7, qs ++ [(f, ga, gc)], rfl, hE, HL.out.1, by simp only [List.length_append, List.length_cons, List.length_nil]; exact HL.out.2, HG2.out ga gc⟩
    · have hGq : Hid (G = .error num) := by show G = _; rw [HG.out, limL, hs]; rfl
      have hgr := (HRS.out.oth hK hO4 hBw HX.out).grw
      clear hs HRS HC hO4 HG
      unfold lostL at *
      go_wp2_with fail
      refine ⟨rfl, ?_⟩
      rw [hGq.out]
      exact ⟨rfl, hgr⟩
end Go.Proofs.YtcbjnifoojjipaaGreatDoor
