/- What the walk's settle does (a contract; nothing is claimed here). -/
import Derived.Test.YtadbkkakjekopaaDoorWalk
namespace Go.Proofs.YtadbkkakjekopaaDoor
open Go.RowKit Go.Vf Go.Maps

/-- The two maps while the group is closed: so many of it are done. -/
structure WM (w : World) (base bt bl n1 n2 : Nat) (S : TS) (lp : Bool) (done : List Int) : Prop where
  met : MapAt w bt (n1 + done.length) (intsF (updAll S.met done settledN))
  loops : MapAt w bl (n2 + done.length) (intsF (if lp then updAll S.loops done 1 else S.loops))

theorem updAll_snoc (f : Int → Int) (l : List Int) (x v : Int) : updAll f (l ++ [x]) v = upd (updAll f l v) x v := by simp [updAll]

/-- Nothing but two blocks is written. -/
structure Two (w w' : World) (b1 b2 : Nat) : Prop where
  os : w'.os = w.os
  tape : w'.tape = w.tape
  output : w'.output = w.output
  size : w'.heap.size = w.heap.size
  block : ∀ k, k < w.heap.size → k ≠ b1 → k ≠ b2 → w'.heap[k]? = w.heap[k]?
theorem Two.refl (w : World) (b1 b2 : Nat) : Two w w b1 b2 := ⟨rfl, rfl, rfl, rfl, fun _ _ _ _ => rfl⟩
theorem Two.step {w w1 w2 : World} {b1 b2 : Nat} {row : Nat} (h : Two w w1 b1 b2) (hg : w1.grownBy w2 (some row)) (hs : w2.heap.size = w1.heap.size) (hr : row = b1 ∨ row = b2) : Two w w2 b1 b2 :=
  ⟨hg.os.trans h.os, hg.tape.trans h.tape, hg.output.trans h.output, hs.trans h.size, fun k hk h1 h2 => (hg.block k (by rw [h.size]; exact hk) (fun e => by
    have e' : k = row := by simpa using e
    rcases hr with hr | hr
    · exact h1 (e'.trans hr)
    · exact h2 (e'.trans hr))).trans (h.block k hk h1 h2)⟩
theorem Two.below {w w' : World} {b1 b2 base : Nat} (h : Two w w' b1 b2) (h1 : base ≤ b1) (h2 : base ≤ b2) (hb : base ≤ w.heap.size) : Below base w w' :=
  ⟨h.os, h.tape, h.output, by rw [h.size]; exact Nat.le_refl _, fun k hk => h.block k (by omega) (by omega) (by omega)⟩
theorem Two.blk {w w' : World} {b1 b2 b : Nat} {t : TypeId} {cs : Array Value} (h : Two w w' b1 b2) (hb : Blk w b t cs) (h1 : b ≠ b1) (h2 : b ≠ b2) : Blk w' b t cs := (h.block b hb.lt h1 h2).trans hb
theorem Two.own {w w' : World} {b1 b2 n1 n2 : Nat} {f1 f2 : Int → Option Value} {base : Nat} {e : TypeId} {size : Nat} {v : Value} {k : Nat} {xs : List Value} (h : Two w w' b1 b2) (ho : w.ownsRow base e size v k xs) (h1 : MapAt w b1 n1 f1) (h2 : MapAt w b2 n2 f2) : w'.ownsRow base e size v k xs := by
  refine ⟨ho.1, ?_⟩
  rcases ho.2 with hn | ⟨g, cap, cur, rfl, hb, hg, rest⟩
  · exact .inl hn
  · exact .inr ⟨g, cap, cur, rfl, hb, (h.block g (Array.getElem?_eq_some_iff.1 hg).1 (map_ne_blk hg h1) (map_ne_blk hg h2)).trans hg, rest⟩

theorem IOwn.front {w : World} {base g n cap : Nat} {zs : List Int} (h : IOwn w base (.slice (some ⟨g, 0, none⟩) n cap) zs) (k : Nat) (hk : k ≤ zs.length) : IOwn w base (.slice (some ⟨g, 0, none⟩) k cap) (zs.take k) := by
  obtain ⟨h1, h2⟩ := h
  rcases h2 with ⟨h2, _⟩ | ⟨g', cap', cur, e1, hb, hg, hc1, hc2, hc3, hc4⟩
  · cases h2
  · simp only [Value.slice.injEq, Option.some.injEq, Addr.mk.injEq] at e1
    obtain ⟨⟨rfl, _⟩, rfl, rfl⟩ := e1
    have hl : (zs.take k).length = k := by simp; omega
    unfold IOwn
    rw [hl]
    refine ⟨by simp; omega, .inr ⟨g, cap, cur, rfl, hb, hg, by omega, hc2, hc3, ?_⟩⟩
    rw [List.map_take, ← hc4, List.take_take, Nat.mul_one, Nat.mul_one, Nat.min_eq_left hk]

/-- The walk's memory behind settle. -/
theorem WK.settled {w wr w3 : World} {base bw bm bt bl g cap : Nat} {vr vr' : Value} {S : TS} {G : Int → List Int} {frm : Nat} (h : WK w base bw bm bt bl (.slice (some ⟨g, 0, none⟩) S.opn.length cap) vr S) (hfrm : frm < S.opn.length)
    (h2 : Two w wr bt bl) (hm : WM wr base bt bl (S.count.toNat + S.ord.length) S.ord.length S (isLoop G (S.opn.drop frm)) (S.opn.drop frm))
    (ho : IOwn w3 base vr' (S.ord ++ S.opn.drop frm)) (hg : wr.grownBy w3 vr.ownBlock) (hat : vr'.ownBlock = vr.ownBlock ∨ vr'.ownBlock = some wr.heap.size) :
    (Blk w3 bw 78 #[.map (some bm), .map (some bt), .int .i64 S.count, .slice (some ⟨g, 0, none⟩) S.opn.length cap, vr, .map (some bl)]) ∧
    WK ((w3.setCell ⟨bw, 4, none⟩ vr').setCell ⟨bw, 3, none⟩ (.slice (some ⟨g, 0, none⟩) frm cap)) base bw bm bt bl (.slice (some ⟨g, 0, none⟩) frm cap) vr' (settleF G S frm) ∧
    Below base w ((w3.setCell ⟨bw, 4, none⟩ vr').setCell ⟨bw, 3, none⟩ (.slice (some ⟨g, 0, none⟩) frm cap)) := by
  have hordR := h2.own h.ord h.met h.loops
  have hopnR := h2.own h.opn h.met h.loops
  have hblkR := h2.blk h.blk (map_ne_blk h.blk h.met) (map_ne_blk h.blk h.loops)
  have hblk3 : Blk w3 bw 78 #[.map (some bm), .map (some bt), .int .i64 S.count, .slice (some ⟨g, 0, none⟩) S.opn.length cap, vr, .map (some bl)] := (hg.block bw hblkR.lt (own_ne_blk hordR hblkR (by decide))).trans hblkR
  have hsep : (Value.slice (some ⟨g, 0, none⟩) S.opn.length cap).ownBlock ≠ vr.ownBlock := h.sep.resolve_left (by simp [Value.ownBlock])
  have hopn3 : IOwn w3 base (.slice (some ⟨g, 0, none⟩) S.opn.length cap) S.opn := World.ownsRow.kept hopnR hg (.inr hsep)
  have hglt : g < wr.heap.size := (hopnR.lt g rfl).2
  have hmet3 : MapAt w3 bt _ _ := map_kept_row hordR hm.met hg
  have hlo3 : MapAt w3 bl _ _ := map_kept_row hordR hm.loops hg
  have own2 : ∀ {v : Value} {zs : List Int}, IOwn w3 base v zs → IOwn ((w3.setCell ⟨bw, 4, none⟩ vr').setCell ⟨bw, 3, none⟩ (.slice (some ⟨g, 0, none⟩) frm cap)) base v zs := fun {v zs} h1 => by
    have h4 := hblk3.set 4 vr'
    have h5 : IOwn (w3.setCell ⟨bw, 4, none⟩ vr') base v zs := ownsRow_setCell_other h1 (a := ⟨bw, 4, none⟩) (fun e => own_ne_blk h1 hblk3 (by decide) e.symm) _
    exact ownsRow_setCell_other h5 (a := ⟨bw, 3, none⟩) (fun e => own_ne_blk h5 h4 (by decide) e.symm) _
  have map2 : ∀ {b n : Nat} {f : Int → Option Value}, MapAt w3 b n f → MapAt ((w3.setCell ⟨bw, 4, none⟩ vr').setCell ⟨bw, 3, none⟩ (.slice (some ⟨g, 0, none⟩) frm cap)) b n f := fun {b n f} h1 =>
    (h1.setCell (a := ⟨bw, 4, none⟩) (fun e => map_ne_blk hblk3 h1 e.symm) _).setCell (a := ⟨bw, 3, none⟩) (fun e => map_ne_blk hblk3 h1 e.symm) _
  have hl : (S.opn.drop frm).length + frm = S.opn.length := by simp; omega
  have hcnt := h.cnt
  refine ⟨hblk3, ⟨?_, h.gw, h.gt, h.gl, h.ne, ?_, ?_, ?_, ?_, own2 ho, ?_, ?_, ?_⟩, ?_⟩
  · have := (hblk3.set 4 vr').set 3 (.slice (some ⟨g, 0, none⟩) frm cap)
    simpa [Blk, settleF] using this
  · have h1 := hg.size; have h3 := h2.size; have h4 := h.sz; simp; omega
  · have := map2 hmet3
    refine MapAt.mono this ?_
    show S.count.toNat + S.ord.length + (S.opn.drop frm).length ≤ S.count.toNat + (S.ord ++ S.opn.drop frm).length
    rw [List.length_append]; omega
  · have := map2 hlo3
    refine MapAt.mono this ?_
    show S.ord.length + (S.opn.drop frm).length ≤ (S.ord ++ S.opn.drop frm).length
    rw [List.length_append]; exact Nat.le_refl _
  · exact own2 (hopn3.front frm (by omega))
  · right
    rcases hat with e | e
    · rw [e]; exact hsep
    · rw [e]; simp [Value.ownBlock]; omega
  · show 0 ≤ S.count ∧ S.count ≤ 1000000 ∧ (((S.opn.take frm).length + (S.ord ++ S.opn.drop frm).length : Nat) : Int) ≤ S.count
    rw [List.length_append, List.length_take]
    omega
  · exact ⟨fun x hx => h.ins.1 x (List.mem_of_mem_take hx), fun x hx => by
      rcases List.mem_append.1 hx with hx | hx
      · exact h.ins.2 x hx
      · exact h.ins.1 x (List.mem_of_mem_drop hx)⟩
  · have h1 : Below base w w3 := (h2.below h.gt h.gl h.sz).grown hg (by rw [h2.size]; exact h.sz) (fun j hj => (own_ge hordR hj).1)
    exact (h1.setCell (p := ⟨bw, 4, none⟩) h.gw _).setCell (p := ⟨bw, 3, none⟩) h.gw _

set_option maxHeartbeats 4000000 in
set_option maxRecDepth 20000 in
theorem settle_any (base bw bm bt bl n : Nat) (vo vr : Value) (pv : Int → Value) (L : List Mk) (S : TS) (frm : Nat) (w : World) (hfrm : frm < S.opn.length) (hwk : WK w base bw bm bt bl vo vr S) (hmd : MD w base bm n pv L) :
    Calls Tryd.prog 74 #[.pointer (some ⟨bw, 0, none⟩), .int .i64 (frm : Int)] w fun e w' => e = .returned (.tuple #[]) ∧ ∃ vo' vr', WK w' base bw bm bt bl vo' vr' (settleF (partsAt L) S frm) ∧ Below base w w' := by
  have hlen : S.opn.length ≤ 1000000 := by have := hwk.cnt; omega
  rcases hwk.opn.form with ⟨_, h0⟩ | ⟨g, cap, rfl, hbg, hglt, hcap, hcells, hfr⟩
  · rw [h0] at hfrm; simp at hfrm
  have b0 := hwk.blk.cell 0
  have b1 := hwk.blk.cell 1
  have b3 := hwk.blk.cell 3
  have b4 := hwk.blk.cell 4
  have b5 := hwk.blk.cell 5
  simp only [List.getElem?_toArray, List.getElem?_cons_zero, List.getElem?_cons_succ] at b0 b1 b3 b4 b5
  have hk1 : (frm : Int) ≤ (S.opn.length : Int) := by omega
  have hk2 : (frm : Int) ≤ (cap : Int) := by omega
  have hk3 : (0 : Int) ≤ (frm : Int) := by omega
  have hcf : ¬ cap = frm := by omega
  go_enter Tryd.func74, Tryd.ntmps74
  go_wp2_with fail
  go_cut [5] from 14 (fun v wx => v = .bool (isLoop (partsAt L) (S.opn.drop frm)) ∧ Below w.heap.size w wx)
  case first =>
    by_cases hm : 1 < S.opn.length - frm
    · have hd : decide ((1 : Int) < ((S.opn.length - frm : Nat) : Int)) = true := by simp; omega
      go_quiet (fail)
      go_wp2
      go_meet
      case rel =>
        refine ⟨?_, below_drewN _ _ _⟩
        simp [isLoop, hm]
    · have hm1 : S.opn.length - frm = 1 := by omega
      have hd : decide ((1 : Int) < ((S.opn.length - frm : Nat) : Int)) = false := by simp; omega
      have hc0 := hcells frm hfrm
      have hp : S.opn[frm]?.getD 0 = S.opn[frm] := by simp [List.getElem?_eq_getElem hfrm]
      rw [hp] at hc0
      obtain ⟨c, a, k, cp, hl, hints, hk, hk2', _⟩ := hmd.look (hwk.ins.1 _ (List.getElem_mem hfrm))
      have hdrop : S.opn.drop frm = [S.opn[frm]] := by
        rw [List.drop_eq_getElem_cons hfrm, List.drop_of_length_le (by omega)]
      generalize hq : S.opn[frm] = q at hc0 hl hints hdrop hk
      have hLl : (partsAt L q).length ≤ 131072 := by omega
      clear hk
      have hf1 := field1 c (.slice a k cp) (.slice none 0 0)
      have hi0 : (0 : Int) < ((S.opn.length - frm : Nat) : Int) := by omega
      have hl' : ∀ j, (Instr.lookup 47 (.map (some bm)) (.int .i64 q) false).run Tryd.prog (w.drewN j) = .ok (markV c (.slice a k cp) (.slice none 0 0)) (w.drewN j) := fun j => hl _ rfl
      go_quiet ((go_at_call 81; exact Calls.quiet_of_same (contains_any (n₀ := base) a k cp (partsAt L q) q _ hints hLl)))
      go_wp2
      go_meet
      case rel =>
        refine ⟨?_, below_drewN _ _ _⟩
        rw [hdrop]
        simp [isLoop]
  case rest =>
    obtain ⟨rfl, hbc⟩ := hcut
    have hwc := hwk.below hbc
    have hbcB : Below base w wc := hbc.mono hwk.sz
    have hWW := fun (wr w3 : World) (vr' : Value) => WK.settled (w := wc) (wr := wr) (w3 := w3) (vr' := vr') (G := partsAt L) hwc hfrm
    have HW : Hid (∀ (wr w3 : World) (vr' : Value), Two wc wr bt bl → WM wr base bt bl (S.count.toNat + S.ord.length) S.ord.length S (isLoop (partsAt L) (S.opn.drop frm)) (S.opn.drop frm) → IOwn w3 base vr' (S.ord ++ S.opn.drop frm) → wr.grownBy w3 vr.ownBlock → (vr'.ownBlock = vr.ownBlock ∨ vr'.ownBlock = some wr.heap.size) → _) := hWW
    clear hWW
    have hmt := hwc.met
    have hntl := hwc.ne
    have hlo := hwc.loops
    have hor := hwc.ord
    have hblc := hwc.blk
    have hop := hwc.opn
    have hins := hwc.ins.1
    have hszc := hwc.sz
    have hcnt := hwc.cnt
    obtain ⟨av, cv, rfl⟩ := row_val hor
    generalize hlp : isLoop (partsAt L) (S.opn.drop frm) = lp
    rw [hlp] at HW
    clear b0 b1 b3 b4 b5 hwk hmd hcells hfr hwc hlp
    obtain ⟨gr, hgr⟩ : ∃ gr, gr = S.opn.drop frm := ⟨_, rfl⟩
    have hgl : gr.length = S.opn.length - frm := by rw [hgr]; simp
    have hgi : ∀ x ∈ gr, InI x := fun x hx => hins x (List.mem_of_mem_drop (hgr ▸ hx))
    rw [← hgr] at HW
    rw [← hgl]
    go_wp2_with fail
    go_loopw [34] (fun i wr => ∃ k : Nat, k ≤ gr.length ∧ i = .int .i64 k ∧ WM wr base bt bl (S.count.toNat + S.ord.length) S.ord.length S lp (gr.take k) ∧ Two wc wr bt bl) (fun i _ => gr.length - (intOf i).toNat)
    case atStart => exact ⟨0, by omega, rfl, ⟨by simpa [updAll] using hmt, by simpa [updAll] using hlo⟩, Two.refl _ _ _⟩
    case round =>
      obtain ⟨k, hk, rfl, hwm, htwo⟩ := hrel
      have hblr := htwo.blk hblc (map_ne_blk hblc hmt) (map_ne_blk hblc hlo)
      have b1 : wr.cell? ⟨bw, 1, none⟩ = some (.map (some bt)) := hblr.cell 1
      have b5 : wr.cell? ⟨bw, 5, none⟩ = some (.map (some bl)) := hblr.cell 5
      have hopr := htwo.own hop hmt hlo
      rcases IOwn.form (zs := S.opn) hopr with ⟨hbad, _⟩ | ⟨g', cap', he, hbg', hglt', hcap', hcells, hfr⟩
      · cases hbad
      simp only [Value.slice.injEq, Option.some.injEq, Addr.mk.injEq] at he
      obtain ⟨⟨rfl, _⟩, _, rfl⟩ := he
      by_cases hlt : k < gr.length
      · have hx : gr[k] = S.opn[frm + k]?.getD 0 := by
          simp only [hgr, List.getElem_drop]
          rw [List.getElem?_eq_getElem (by omega)]; rfl
        have hck : wr.cell? ⟨g, frm + k, none⟩ = some (.int .i64 gr[k]) := by rw [hcells (frm + k) (by omega), hx]
        have hxi := hgi gr[k] (List.getElem_mem hlt)
        have htk : gr.take (k + 1) = gr.take k ++ [gr[k]] := List.take_succ_eq_append_getElem hlt
        have hlk : (gr.take k).length = k := by simp; omega
        generalize gr[k] = x at hck hxi htk
        obtain ⟨w4, hup4, hm4, hg4, hs4⟩ := hwm.met.update Tryd.underlying76 (by unfold maxLen; omega) hxi (.int .i64 9223372036854775807)
        rw [intsF_upd _ _ _ (by decide), ← updAll_snoc, ← htk] at hm4
        have ht4 : Two wc w4 bt bl := htwo.step hg4 hs4 (.inl rfl)
        have hlo4 : MapAt w4 bl _ _ := hwm.loops.kept hg4 (fun e => hntl (by simpa using e.symm))
        have hbl4 := ht4.blk hblc (map_ne_blk hblc hmt) (map_ne_blk hblc hlo)
        have q1 : w4.cell? ⟨bw, 5, none⟩ = some (.map (some bl)) := hbl4.cell 5
        clear hcells hopr hblr
        cases lp with
        | false =>
          go_wp2_with fail
          go_roundw
          case rel => exact ⟨k + 1, by omega, by simp, ⟨MapAt.mono hm4 (by rw [htk]; simp; try omega), MapAt.mono (by simpa using hlo4) (by rw [htk]; simp; try omega)⟩, ht4⟩
          case measure => simp only [intOf]; omega
        | true =>
          obtain ⟨w5, hup5, hm5, hg5, hs5⟩ := hlo4.update Tryd.underlying76 (by unfold maxLen; omega) hxi (.int .i64 1)
          simp only [if_true] at hm5
          rw [intsF_upd _ _ _ (by decide), ← updAll_snoc, ← htk] at hm5
          have ht5 : Two wc w5 bt bl := ht4.step hg5 hs5 (.inr rfl)
          have hmt5 : MapAt w5 bt _ _ := hm4.kept hg5 (fun e => hntl (by simpa using e))
          go_wp2_with fail
          go_roundw
          case rel => exact ⟨k + 1, by omega, by simp, ⟨MapAt.mono hmt5 (by rw [htk]; simp; try omega), MapAt.mono (by simpa using hm5) (by rw [htk]; simp; try omega)⟩, ht5⟩
          case measure => simp only [intOf]; omega
      · have hk' : gr.take k = gr := List.take_of_length_le (by omega)
        rw [hk'] at hwm
        have b3 : wr.cell? ⟨bw, 3, none⟩ = some (.slice (some ⟨g, 0, none⟩) S.opn.length cap) := hblr.cell 3
        have b4 : wr.cell? ⟨bw, 4, none⟩ = some (.slice av S.ord.length cv) := hblr.cell 4
        have HC : ∀ j, j < gr.length → wr.cell? ((⟨g, frm, none⟩ : Addr).add j) = some (.int .i64 (gr[j]?.getD 0)) := fun j hj => by
          rw [show (⟨g, frm, none⟩ : Addr).add j = ⟨g, frm + j, none⟩ by simp [Addr.add], hcells (frm + j) (by omega), hgr, List.getElem?_drop]
        have HCH : Hid (∀ j, j < gr.length → wr.cell? ((⟨g, frm, none⟩ : Addr).add j) = some (.int .i64 (gr[j]?.getD 0))) := HC
        have hordR := htwo.own hor hmt hlo
        have hszr : base ≤ wr.heap.size := by rw [htwo.size]; exact hszc
        clear HC hcells hfr
        have hsl4 : S.ord.length + gr.length ≤ 1099511627776 := by omega
        go_wp2_with (first | (at_builtin; refine wpList_append_ints rfl _ _ rfl base _ S.ord rfl hordR gr ⟨g, frm, none⟩ _ rfl HCH.out hsl4 hszr ?_; intro a3 c3 w3 hown3 hgr3 _ hat3; obtain ⟨y1, y2, y3⟩ := HW.out wr w3 _ htwo hwm hown3 hgr3 hat3; have z4 : w3.cell? ⟨bw, 4, none⟩ = some (.slice av S.ord.length cv) := y1.cell 4; have z3 : w3.cell? ⟨bw, 3, none⟩ = some (.slice (some ⟨g, 0, none⟩) S.opn.length cap) := y1.cell 3; have zf4 := y1.frozen 4; have zf3 := y1.frozen 3))
        go_end0
        rw [hgl] at y2 y3
        exact ⟨rfl, _, _, y2, hbcB.trans y3⟩

end Go.Proofs.YtadbkkakjekopaaDoor
