/- Contracts and lemmas (nothing is claimed here). -/
import Derived.Test.YtcbjnifoojjipaaGreatDoorJ31
import Derived.Deep.QuietTactic
import Derived.BigQuiet
import Derived.BigRegion
import Derived.Deep.LoopGhost
import Derived.Test.YtcbjnifoojjipaaGreatDoorJ25
import Derived.Test.YtcbjnifoojjipaaGreatDoorJ27
namespace Go.Proofs.YtcbjnifoojjipaaGreatDoor
open Go.RowKit Go.Vf Go.Maps
def RdOk (m : Nat) : Prop := ∀ (rs : List Ln), (∀ l ∈ rs, WsOK l.2) → (∀ l ∈ rs, 1 ≤ l.1) → rs.length ≤ 900000 → ∀ i0, i0 ≤ rs.length → rs.length - i0 ≤ m → ∀ (wi : Bool) (last : Int), 0 ≤ last → last ≤ 1000000 → ∀ (a : Option Addr) (c : Nat) (w : World), RowsAt w a rs →
 Calls Tryz.prog 48 #[.slice a rs.length c, .int .i64 (i0 : Int), .int .i64 last, .bool wi] w (RdPost w rs.length (rdA (last + 1) wi (rs.drop i0) [] []))
set_option maxHeartbeats 8000000 in
set_option maxRecDepth 20000 in
theorem read_step (m : Nat) (ih : ∀ k, k < m → RdOk k) : RdOk m := by
 intro rs hok hpos hrl i0 hi0 hm wi last hl0 hl1 a c w hrows
 obtain ⟨after, hafter⟩ : ∃ x, last + 1 = x := ⟨_, rfl⟩
 rw [hafter]
 obtain ⟨G, hG⟩ : ∃ G, rdA after wi (rs.drop i0) [] [] = G := ⟨_, rfl⟩
 rw [hG]
 have HAF : Hid (last + 1 = after) := hafter
 have HG0 : Hid (rdA after wi (rs.drop i0) [] (([] : List FQ).map Prod.fst) = G) := hG
 have HROWS : Hid (RowsAt w a rs) := hrows
 have HOK : Hid (∀ l ∈ rs, WsOK l.2) := hok
 have HPOS : Hid (∀ l ∈ rs, 1 ≤ l.1) := hpos
 obtain ⟨L, hL⟩ : ∃ L, rs.length = L := ⟨_, rfl⟩
 have HL : Hid (rs.length = L) := hL
 rw [hL] at hi0 hm hrl ⊢
 have HM : Hid (L - i0 ≤ m) := hm
 have HIH : Hid (∀ k, k < m → RdOk k) := ih
 clear hG hafter hrows hok hpos hL ih hm
 have hb1 := (Below.refl w.heap.size w).alloc (Nat.le_refl _) (.cells #[.slice none 0 0, .slice none 0 0] 98)
 have hC1 := Blk.new w 98 #[.slice none 0 0, .slice none 0 0]
 have hs1 := alloc_size w (.cells #[.slice none 0 0, .slice none 0 0] 98)
 obtain ⟨w1, hw1⟩ : ∃ w1, w.alloc (.cells #[.slice none 0 0, .slice none 0 0] 98) = w1 := ⟨_, rfl⟩
 rw [hw1] at hb1 hC1 hs1
 have hb2 := (Below.refl w1.heap.size w1).alloc (Nat.le_refl _) (.cells #[.slice none 0 0, .slice none 0 0] 98)
 have hC2 := Blk.new w1 98 #[.slice none 0 0, .slice none 0 0]
 rw [hs1] at hC2
 have HB0 : Hid (RdB w (w1.alloc (.cells #[.slice none 0 0, .slice none 0 0] 98)) (.slice none ([] : List FQ).length 0) none 0 []) := ⟨hC1.old hb2, hC2, IOwn.nil _ _, hb1.trans (hb2.mono hb1.size)⟩
 clear hb1 hC1 hb2 hC2
 go_enter Tryz.func48, Tryz.ntmps48
 go_upto_region 1 with fail
 go_upto_region 2 with fail
 clear hw1 hs1
 generalize w1.alloc (.cells #[.slice none 0 0, .slice none 0 0] 98) = w2 at *
 go_loopg [1] (L - i0) (fun k iv wr => ∃ (i : Nat) (ns : List Int) (la : Option Addr) (lc : Nat) (fa : Option Addr) (fc : Nat) (qs : List FQ), k = L - i ∧ i ≤ L ∧ i0 ≤ i ∧ iv = .int .i64 (i : Int) ∧ Hid (RdB w wr (.slice fa qs.length fc) la lc ns) ∧ Hid (FRow wr w.heap.size (.slice fa qs.length fc) qs) ∧ Hid (ns.length ≤ i) ∧ Hid (qs.length ≤ ns.length) ∧ Hid (rdA after wi (rs.drop i) ns (qs.map Prod.fst) = G))
 case atStart => exact ⟨i0, [], none, 0, none, 0, [], rfl, hi0, Nat.le_refl _, rfl, HB0, FRow.nil _ _, Nat.zero_le _, Nat.le_refl _, HG0⟩
 case round =>
  clear HG0 HB0
  obtain ⟨i, ns, la, lc, fa, fc, qs, hgk, hiL, hi0i, rfl, HB, HF, HNS, HQS, HG⟩ := hrel
  have HGK : Hid (gk = L - i) := hgk
  clear hgk
  by_cases hlt : i < L
  ·
   have t1 : decide ((i : Int) < (L : Int)) = true := decide_eq_true (by omega)
   have t2 : decide (i < L) = true := decide_eq_true hlt
   have hil : i < rs.length := by rw [HL.out]; exact hlt
   obtain ⟨⟨num, ws⟩, hrow⟩ : ∃ p, rs[i] = p := ⟨_, rfl⟩
   have hRA := (HROWS.out.old HB.out.bel) i hil
   rw [hrow] at hRA
   obtain ⟨b, off, wa, wcp, ea, hbl, c0, c1, hwc, hst⟩ := hRA
   have hbw : b < w.heap.size := by
    obtain ⟨b', off', _, _, e', hb', _⟩ := HROWS.out i hil
    rw [ea] at e'; cases e'; exact hb'
   have hbn : b ≠ w.heap.size := by omega
   have hbn' : w.heap.size ≠ b := by omega
   subst ea
   simp only at c0 c1 hwc hst
   have HD : Hid (rs.drop i = (num, ws) :: rs.drop (i + 1)) := by show _ = _; rw [← hrow]; exact List.drop_eq_getElem_cons hil
   have hwok : WsOK ws := by have := HOK.out rs[i] (List.getElem_mem hil); rw [hrow] at this; exact this
   have HST : Hid (StrAt wr wa ws) := hst
   have hiLi : (i : Int) < (L : Int) := by omega
   clear hrow hst
   have hfd := field_any ws hwok wa wcp wr HST.out
   go_upto_region 4 with fail
   obtain ⟨E, hE0⟩ : ∃ E, isEndL ws = E := ⟨_, rfl⟩
   have HE : Hid (isEndL ws = E) := hE0
   clear hE0
   go_cut [36] from 28 to 36 (fun v wx => v = .bool E ∧ wx = wr)
   case first =>
    clear hfd HG HD HB HF
    by_cases h1 : ws.length = 1
    ·
     obtain ⟨x, rfl⟩ : ∃ x, ws = [x] := by
      cases ws with
      | nil => simp at h1
      | cons x r =>
       cases r with
       | nil => exact ⟨x, rfl⟩
       | cons y r => simp at h1
     obtain ⟨wb, woff, rfl, _, hx⟩ := HST.out 0 (by simp)
     simp only [List.getElem_cons_zero, Nat.add_zero] at hx
     have hk : (⟨#[101, 110, 100]⟩ : ByteArray).toList = [101, 110, 100] := by rw [ByteArray.toList_eq]
     have hq : (x.toList == [101, 110, 100]) = E := HE.out
     clear HE HST h1 hwok c1
     cases E <;>
     ·
      go_wp2_with fail
      go_meet
      exact ⟨rfl, rfl⟩
    ·
     have hr : isEndL ws = false := by
      cases ws with
      | nil => rfl
      | cons x r =>
       cases r with
       | nil => exact absurd rfl h1
       | cons y r => rfl
     have hEf : E = false := by rw [← HE.out]; exact hr
     subst hEf
     clear hr HST hwok HE
     generalize ws.length = n at *
     have t5 : ((n : Int) == 1) = false := by simp; omega
     have t6 : decide ((n : Int) = 1) = false := by simp; omega
     have t7 : (n == 1) = false := by simp; omega
     clear c1 hwc
     go_wp2_with fail
     go_meet
     exact ⟨rfl, rfl⟩
   case rest =>
    obtain ⟨rfl, rfl⟩ := hcut
    have hE := HE.out
    clear HE
    cases E with
    | true =>
     cases wi with
     | true =>
      have HGe : Hid (G = .ok (qs.map Prod.fst, rs.drop (i + 1), ns)) := by show G = _; rw [← HG.out, HD.out, rdA_end_t hE]
      have s0 : wc.cell? ⟨w.heap.size + 1, 0, none⟩ = some (.slice fa qs.length fc) := HB.out.box.cell 0
      have s1 : wc.cell? ⟨w.heap.size + 1, 1, none⟩ = some (.slice la ns.length lc) := HB.out.box.cell 1
      have k0 : wc.cell? ⟨w.heap.size, 0, none⟩ = some (.slice none 0 0) := HB.out.res.cell 0
      have k1 : wc.cell? ⟨w.heap.size, 1, none⟩ = some (.slice none 0 0) := HB.out.res.cell 1
      have kf0 : wc.frozen? ⟨w.heap.size, 0, none⟩ = false := Blk.free HB.out.res 0
      have kf1 : wc.frozen? ⟨w.heap.size, 1, none⟩ = false := Blk.free HB.out.res 1
      clear HG HST HD hE
      go_wp2_with fail
      obtain ⟨hD, hDF, hDI, hDB⟩ := HB.out.done HF.out
      refine bodyPost_ret (res48 hD rfl rfl rfl) rfl ?_
      exact rpost_ok (x := i + 1) HGe.out (by rw [List.length_drop, HL.out]; omega) hDB hDF hDI
     | false =>
      have HGe : Hid (G = .error num) := by show G = _; rw [← HG.out, HD.out, rdA_none (end_line hE) (by simp)]
      have s0 : wc.cell? ⟨w.heap.size + 1, 0, none⟩ = some (.slice fa qs.length fc) := HB.out.box.cell 0
      have s1 : wc.cell? ⟨w.heap.size + 1, 1, none⟩ = some (.slice la ns.length lc) := HB.out.box.cell 1
      have k0 : wc.cell? ⟨w.heap.size, 0, none⟩ = some (.slice none 0 0) := HB.out.res.cell 0
      have k1 : wc.cell? ⟨w.heap.size, 1, none⟩ = some (.slice none 0 0) := HB.out.res.cell 1
      have kf0 : wc.frozen? ⟨w.heap.size, 0, none⟩ = false := Blk.free HB.out.res 0
      have kf1 : wc.frozen? ⟨w.heap.size, 1, none⟩ = false := Blk.free HB.out.res 1
      clear HG HST HD hE
      go_upto_region 7 with fail
      go_region
      go_wp2_with fail
      have HBd : RdB w wc.drew (.slice fa qs.length fc) la lc ns := HB.out.old (below_drew (Below.refl _ _))
      have HFd : FRow wc.drew w.heap.size (.slice fa qs.length fc) qs := HF.out.keep fun _ _ _ => rfl
      obtain ⟨hD, hDF, hDI, hDB⟩ := HBd.done HFd
      refine bodyPost_ret (res48 hD rfl rfl rfl) rfl ?_
      exact rpost_err HGe.out hDB _ _ _ _ _ _ _
    | false =>
     go_wp2_with fail
     refine hfd.mono ?_
     clear hfd
     rintro e w5 ⟨hb5, hp⟩
     cases hl : lineL ws with
     | none =>
      rw [hl] at hp
      unfold fV at hp
      obtain ⟨o, rfl⟩ := hp
      have HGe : Hid (G = .error num) := by show G = _; rw [← HG.out, HD.out, rdA_none hl (fun _ => hE)]
      have hb6 := (Below.refl w5.heap.size w5).alloc (Nat.le_refl _) (.cells #[.string o.name, .int .u8 o.kind, .bool o.down, .int .u8 o.nulls, .bool o.bnd, .bool o.ln, .string o.lm, .bool o.hn, .string o.hm, .int .i64 o.most, .int .i64 o.str, .bool o.shf, .bool o.bck, .slice none 0 0] 48)
      have HB6 : Hid (RdB w (w5.alloc (.cells #[.string o.name, .int .u8 o.kind, .bool o.down, .int .u8 o.nulls, .bool o.bnd, .bool o.ln, .string o.lm, .bool o.hn, .string o.hm, .int .i64 o.most, .int .i64 o.str, .bool o.shf, .bool o.bck, .slice none 0 0] 48)) (.slice fa qs.length fc) la lc ns) := (HB.out.old hb5).old hb6
      have HF6 : Hid (FRow (w5.alloc (.cells #[.string o.name, .int .u8 o.kind, .bool o.down, .int .u8 o.nulls, .bool o.bnd, .bool o.ln, .string o.lm, .bool o.hn, .string o.hm, .int .i64 o.most, .int .i64 o.str, .bool o.shf, .bool o.bck, .slice none 0 0] 48)) w.heap.size (.slice fa qs.length fc) qs) := (HF.out.keep fun b _ hb => hb5.block b hb.lt).keep fun b _ hb => hb6.block b hb.lt
      have c06 : (w5.alloc (.cells #[.string o.name, .int .u8 o.kind, .bool o.down, .int .u8 o.nulls, .bool o.bnd, .bool o.ln, .string o.lm, .bool o.hn, .string o.hm, .int .i64 o.most, .int .i64 o.str, .bool o.shf, .bool o.bck, .slice none 0 0] 48)).cell? ⟨b, off + i * 2, none⟩ = some (.int .i64 num) := (hb6.cell (p := ⟨b, _, none⟩) (Nat.lt_of_lt_of_le hbl hb5.size)).trans ((hb5.cell (p := ⟨b, _, none⟩) hbl).trans c0)
      clear HG HST HD hE hl hb5 hb6 c0 c1 HB HF
      go_upto_region 9 with fail
      generalize w5.alloc (.cells #[.string o.name, .int .u8 o.kind, .bool o.down, .int .u8 o.nulls, .bool o.bnd, .bool o.ln, .string o.lm, .bool o.hn, .string o.hm, .int .i64 o.most, .int .i64 o.str, .bool o.shf, .bool o.bck, .slice none 0 0] 48) = w6 at *
      have s0 : w6.cell? ⟨w.heap.size + 1, 0, none⟩ = some (.slice fa qs.length fc) := HB6.out.box.cell 0
      have s1 : w6.cell? ⟨w.heap.size + 1, 1, none⟩ = some (.slice la ns.length lc) := HB6.out.box.cell 1
      have k0 : w6.cell? ⟨w.heap.size, 0, none⟩ = some (.slice none 0 0) := HB6.out.res.cell 0
      have k1 : w6.cell? ⟨w.heap.size, 1, none⟩ = some (.slice none 0 0) := HB6.out.res.cell 1
      have kf0 : w6.frozen? ⟨w.heap.size, 0, none⟩ = false := Blk.free HB6.out.res 0
      have kf1 : w6.frozen? ⟨w.heap.size, 1, none⟩ = false := Blk.free HB6.out.res 1
      go_upto_region 10 with fail
      go_region
      go_wp2_with fail
      have HBd : RdB w w6.drew (.slice fa qs.length fc) la lc ns := HB6.out.old (below_drew (Below.refl _ _))
      have HFd : FRow w6.drew w.heap.size (.slice fa qs.length fc) qs := HF6.out.keep fun _ _ _ => rfl
      obtain ⟨hD, hDF, hDI, hDB⟩ := HBd.done HFd
      refine bodyPost_ret (res48 hD rfl rfl rfl) rfl ?_
      exact rpost_err HGe.out hDB _ _ _ _ _ _ _
     | some o =>
      rw [hl] at hp
      unfold fV at hp
      subst hp
      have hs5 : w.heap.size + 1 < w5.heap.size := Nat.lt_of_lt_of_le HB.out.box.lt hb5.size
      have hb6 := (Below.refl w5.heap.size w5).alloc (Nat.le_refl _) (.cells #[.string o.name, .int .u8 o.kind, .bool o.down, .int .u8 o.nulls, .bool o.bnd, .bool o.ln, .string o.lm, .bool o.hn, .string o.hm, .int .i64 o.most, .int .i64 o.str, .bool o.shf, .bool o.bck, .slice none 0 0] 48)
      have HB6 : Hid (RdB w (w5.alloc (.cells #[.string o.name, .int .u8 o.kind, .bool o.down, .int .u8 o.nulls, .bool o.bnd, .bool o.ln, .string o.lm, .bool o.hn, .string o.hm, .int .i64 o.most, .int .i64 o.str, .bool o.shf, .bool o.bck, .slice none 0 0] 48)) (.slice fa qs.length fc) la lc ns) := (HB.out.old hb5).old hb6
      have HF5 : Hid (FRow w5 w.heap.size (.slice fa qs.length fc) qs) := HF.out.keep fun b _ hb => hb5.block b hb.lt
      have HK6 : Hid (K48 w5.heap.size w5 (w5.alloc (.cells #[.string o.name, .int .u8 o.kind, .bool o.down, .int .u8 o.nulls, .bool o.bnd, .bool o.ln, .string o.lm, .bool o.hn, .string o.hm, .int .i64 o.most, .int .i64 o.str, .bool o.shf, .bool o.bck, .slice none 0 0] 48))) := K48.of hb6 (Nat.le_refl _)
      have HFB6 : Hid (Blk (w5.alloc (.cells #[.string o.name, .int .u8 o.kind, .bool o.down, .int .u8 o.nulls, .bool o.bnd, .bool o.ln, .string o.lm, .bool o.hn, .string o.hm, .int .i64 o.most, .int .i64 o.str, .bool o.shf, .bool o.bck, .slice none 0 0] 48)) w5.heap.size 48 #[.string o.name, .int .u8 o.kind, .bool o.down, .int .u8 o.nulls, .bool o.bnd, .bool o.ln, .string o.lm, .bool o.hn, .string o.hm, .int .i64 o.most, .int .i64 o.str, .bool o.shf, .bool o.bck, .slice none 0 0]) := Blk.new w5 48 _
      have c06 : (w5.alloc (.cells #[.string o.name, .int .u8 o.kind, .bool o.down, .int .u8 o.nulls, .bool o.bnd, .bool o.ln, .string o.lm, .bool o.hn, .string o.hm, .int .i64 o.most, .int .i64 o.str, .bool o.shf, .bool o.bck, .slice none 0 0] 48)).cell? ⟨b, off + i * 2, none⟩ = some (.int .i64 num) := (hb6.cell (p := ⟨b, _, none⟩) (Nat.lt_of_lt_of_le hbl hb5.size)).trans ((hb5.cell (p := ⟨b, _, none⟩) hbl).trans c0)
      have hql : qs.length ≤ 1000000 := by have := HQS.out; have := HNS.out; omega
      have hnl : ns.length ≤ 1000000 := by have := HNS.out; omega
      clear HST hE hb5 hb6 c0 c1 HB HF hbl
      go_upto_region 9 with fail
      generalize w5.alloc (.cells #[.string o.name, .int .u8 o.kind, .bool o.down, .int .u8 o.nulls, .bool o.bnd, .bool o.ln, .string o.lm, .bool o.hn, .string o.hm, .int .i64 o.most, .int .i64 o.str, .bool o.shf, .bool o.bck, .slice none 0 0] 48) = w6 at *
      obtain ⟨F, hF⟩ : ∃ F, w5.heap.size = F := ⟨_, rfl⟩
      have HFW : Hid (w5.heap.size = F) := hF
      have HFS : Hid (w.heap.size + 1 < F) := by show _ < _; omega
      rw [hF] at HK6 HFB6 ⊢
      clear hF hs5
      go_upto_region 11 with fail
      go_cut [] from 62 to 71 (fun wx => ∃ la3 lc3, Hid (RdB w wx (.slice fa qs.length fc) la3 lc3 (ns ++ [num])) ∧ Hid (K48 F w5 wx) ∧ Hid (Blk wx F 48 #[.string o.name, .int .u8 o.kind, .bool o.down, .int .u8 o.nulls, .bool o.bnd, .bool o.ln, .string o.lm, .bool o.hn, .string o.hm, .int .i64 o.most, .int .i64 o.str, .bool o.shf, .bool o.bck, .slice none 0 0]))
      case first =>
       obtain ⟨i3, hi3, hz0, hz1, hz2⟩ := info_parts info3
       have hbA := (Below.refl w6.heap.size w6).alloc (Nat.le_refl _) (.cells #[.int .i64 num] 3)
       have hBA : RdB w (w6.alloc (.cells #[.int .i64 num] 3)).drew (.slice fa qs.length fc) la lc ns := (HB6.out.old hbA).old (below_drew (Below.refl _ _))
       have hown1 := HB6.out.own
       have g1 : w6.drew.cell? ⟨w.heap.size + 1, 1, none⟩ = some (.slice la ns.length lc) := HB6.out.box.cell 1
       have g1' : (w6.alloc (.cells #[.int .i64 num] 3)).drew.cell? ⟨w.heap.size + 1, 1, none⟩ = some (.slice la ns.length lc) := (World.cell?_alloc_lt _ _ _ HB6.out.box.lt).trans g1
       have HGW : Hid (∀ (w7 : World) (g cap : Nat), w7.ownsRow w.heap.size 3 1 (.slice (some ⟨g, 0, none⟩) (ns.length + 1) cap) (ns.length + 1) (ns.map (Value.int .i64) ++ [.int .i64 num]) → (w6.alloc (.cells #[.int .i64 num] 3)).drew.grownBy w7 (Value.slice la ns.length lc).ownBlock →
         Blk w7 (w.heap.size + 1) 98 #[.slice fa qs.length fc, .slice la ns.length lc] ∧ Hid (RdB w (w7.setCell ⟨w.heap.size + 1, 1, none⟩ (.slice (some ⟨g, 0, none⟩) (ns.length + 1) cap)) (.slice fa qs.length fc) (some ⟨g, 0, none⟩) cap (ns ++ [num])) ∧ Hid (K48 F w5 (w7.setCell ⟨w.heap.size + 1, 1, none⟩ (.slice (some ⟨g, 0, none⟩) (ns.length + 1) cap))) ∧ Hid (Blk (w7.setCell ⟨w.heap.size + 1, 1, none⟩ (.slice (some ⟨g, 0, none⟩) (ns.length + 1) cap)) F 48 #[.string o.name, .int .u8 o.kind, .bool o.down, .int .u8 o.nulls, .bool o.bnd, .bool o.ln, .string o.lm, .bool o.hn, .string o.hm, .int .i64 o.most, .int .i64 o.str, .bool o.shf, .bool o.bck, .slice none 0 0])) := fun w7 g cap h1 h2 => by
        have h1' : IOwn w7 w.heap.size (.slice (some ⟨g, 0, none⟩) (ns.length + [num].length) cap) (ns ++ [num]) := by
         unfold IOwn; rw [List.map_append, List.length_append]; exact h1
        obtain ⟨r1, r2⟩ := RdB.lines hBA h1' h2
        have hz : w6.heap.size ≤ (w6.alloc (.cells #[.int .i64 num] 3)).drew.heap.size := hbA.size
        have q1 : K48 w6.heap.size w6 (w6.alloc (.cells #[.int .i64 num] 3)).drew := K48.of (below_drew hbA) (Nat.le_refl _)
        have q2 : K48 w6.heap.size (w6.alloc (.cells #[.int .i64 num] 3)).drew w7 := K48.lines hz hBA.own h2
        have q3 : K48 w6.heap.size w7 (w7.setCell ⟨w.heap.size + 1, 1, none⟩ (.slice (some ⟨g, 0, none⟩) (ns.length + 1) cap)) := K48.oth (Oth.set _ 1 w7 _) (fun h => absurd h (not48 r1 (by decide)))
        have q4 := (q1.trans q2).trans q3
        exact ⟨r1, r2, HK6.out.trans (fun b hb ht => q4 b ht.lt ht), (q4 F HFB6.out.lt ⟨_, _, HFB6.out⟩).trans HFB6.out⟩
       clear hbA hBA HF5 HK6 HFB6 HG HD hl hwok hwc
       go_region_law (refine step_append_lies _ (by rfl) _ _ _ (by rfl) w.heap.size 3 i3 _ 1 8 Tryz.underlying29 hi3 hz0 hz1 hz2 rfl (by omega) (.slice la ns.length lc) ns.length (ns.map (Value.int .i64)) (by rfl) (World.ownsRow.alloc hown1 _) ⟨w6.heap.size, 0, none⟩ 1 1 [.int .i64 num] (by rfl) (by rfl) (World.news_of_block (cs := #[.int .i64 num]) (t := 3) (fr := (0, 0)) (heap_alloc_new w6 _)) (by simp [Value.oneCell']) (by omega) (by unfold maxLen; omega) (by omega) (by have := HB6.out.bel.size; simp; omega) (w6.heap.size + 1) (by simp) ?_; intro gg cap w7 hown7 hgrow7 hat7 hlt7; obtain ⟨y1, y2, y3, y4⟩ := HGW.out _ _ _ hown7 hgrow7; have z2 : w7.cell? ⟨w.heap.size + 1, 1, none⟩ = some (.slice la ns.length lc) := y1.cell 1; have zf := Blk.free y1 1)
       all_goals
        go_wp2_with fail
        go_meet
        exact ⟨_, _, y2, y3, y4⟩
      case rest =>
       obtain ⟨la3, lc3, HB3, HK, HFB⟩ := hcut
       clear HB6 HK6 HFB6 c06
       have f1 : wc.cell? ⟨F, 1, none⟩ = some (.int .u8 o.kind) := HFB.out.cell 1
       by_cases hk : o.kind = 7
       ·
        have hk7 : o.kind = 7 := hk
        have tk : (o.kind == 7) = true := beq_iff_eq.2 hk7
        have tk2 : decide (o.kind = 7) = true := decide_eq_true hk7
        have HK7 : Hid (o.kind = 7) := hk7
        have hrec := HIH.out (L - (i + 1)) (by have := HM.out; omega) rs HOK.out HPOS.out (by rw [HL.out]; omega) (i + 1) (by rw [HL.out]; omega) (by rw [HL.out]; omega) true last hl0 hl1 (some ⟨b, off, none⟩) c wc (HROWS.out.old HB3.out.bel)
        rw [HL.out, HAF.out] at hrec
        have f1 : wc.cell? ⟨F, 1, none⟩ = some (.int .u8 o.kind) := HFB.out.cell 1
        clear hk hk7
        go_upto_region 14 with fail
        clear f1 tk tk2
        go_wp2_with fail
        refine hrec.mono ?_
        clear hrec
        rintro e w9 ⟨hb9, hp⟩
        cases hq : allP after (rs.drop (i + 1)) [] [] with
        | error mm =>
         rw [show rdA after true (rs.drop (i + 1)) [] [] = allP after (rs.drop (i + 1)) [] [] from rfl, hq] at hp
         obtain ⟨a1, n1, c1', a2, n2, c2, x, rfl⟩ := hp
         have HGe : Hid (G = .error mm) := by show G = _; rw [← HG.out, HD.out, rdA_bad hl HK7.out hq]
         have hmm : 1 ≤ mm := within_err _ _ _ _ _ _ (fun l hl => HPOS.out l (List.mem_of_mem_drop hl)) (by have := HAF.out; omega) hq
         have tm : decide (0 < mm) = true := decide_eq_true (by omega)
         have hb10 := (Below.refl w9.heap.size w9).alloc (Nat.le_refl _) (.cells #[.slice a1 n1 c1', .slice a2 n2 c2] 98)
         have HB10 : Hid (RdB w (w9.alloc (.cells #[.slice a1 n1 c1', .slice a2 n2 c2] 98)) (.slice fa qs.length fc) la3 lc3 (ns ++ [num])) := (HB3.out.old hb9).old hb10
         have HF10 : Hid (FRow (w9.alloc (.cells #[.slice a1 n1 c1', .slice a2 n2 c2] 98)) w.heap.size (.slice fa qs.length fc) qs) := ((HF5.out.k48 (by rw [HFW.out]; exact HK.out)).keep fun b _ hb => hb9.block b hb.lt).keep fun b _ hb => hb10.block b hb.lt
         clear HG HD hl hq hb9 hb10 HB3 HF5 HK HFB
         go_upto_region 15 with fail
         generalize w9.alloc (.cells #[.slice a1 n1 c1', .slice a2 n2 c2] 98) = w10 at *
         obtain ⟨ns3, hns3⟩ : ∃ z, ns ++ [num] = z := ⟨_, rfl⟩
         rw [hns3] at HB10
         have s0 : w10.cell? ⟨w.heap.size + 1, 0, none⟩ = some (.slice fa qs.length fc) := HB10.out.box.cell 0
         have s1 : w10.cell? ⟨w.heap.size + 1, 1, none⟩ = some (.slice la3 ns3.length lc3) := HB10.out.box.cell 1
         have k0 : w10.cell? ⟨w.heap.size, 0, none⟩ = some (.slice none 0 0) := HB10.out.res.cell 0
         have k1 : w10.cell? ⟨w.heap.size, 1, none⟩ = some (.slice none 0 0) := HB10.out.res.cell 1
         have kf0 : w10.frozen? ⟨w.heap.size, 0, none⟩ = false := Blk.free HB10.out.res 0
         have kf1 : w10.frozen? ⟨w.heap.size, 1, none⟩ = false := Blk.free HB10.out.res 1
         go_wp2_with fail
         obtain ⟨hD, hDF, hDI, hDB⟩ := HB10.out.done HF10.out
         refine bodyPost_ret (res48 hD rfl rfl rfl) rfl ?_
         exact rpost_err HGe.out hDB _ _ _ _ _ _ _
        | ok r =>
         obtain ⟨fs, rest, ms⟩ := r
         rw [show rdA after true (rs.drop (i + 1)) [] [] = allP after (rs.drop (i + 1)) [] [] from rfl, hq] at hp
         obtain ⟨ga, gc, ma, mc, rfl, hgc, hFT, hms⟩ := hp
         simp only at hgc hFT hms ⊢
         obtain ⟨hrl1, hrp⟩ := rest_place (rs := rs) (i := i + 1) (by rw [HL.out]; omega) hq
         simp only at hrl1 hrp
         rw [HL.out] at hrl1 hrp
         obtain ⟨hwl1, hwl2, _⟩ := withinP_len _ _ _ _ _ _ hq
         simp only [List.length_nil, List.length_drop] at hwl1 hwl2
         rw [HL.out] at hwl2
         have HGn : Hid (rdA after wi (rs.drop (L - rest.length)) ((ns ++ [num]) ++ ms) ((qs ++ [((⟨o, fs⟩ : Fld), ga, gc)]).map Prod.fst) = G) := by show _ = G; rw [← HG.out, HD.out, rdA_tup hl HK7.out hq, hrp, List.map_append]; rfl
         obtain ⟨j, hj⟩ : ∃ j, L - rest.length = j := ⟨_, rfl⟩
         rw [hj] at HGn ⊢
         have hjL : i + 1 ≤ j ∧ j ≤ L := by omega
         have HMS : Hid (ms.length + (i + 1) ≤ j) := by show _ ≤ _; omega
         clear hj hrl1 hrp hwl1 hwl2 hq HG HD hl
         have hF9 : Blk w9 F 48 #[.string o.name, .int .u8 o.kind, .bool o.down, .int .u8 o.nulls, .bool o.bnd, .bool o.ln, .string o.lm, .bool o.hn, .string o.hm, .int .i64 o.most, .int .i64 o.str, .bool o.shf, .bool o.bck, .slice none 0 0] := HFB.out.old hb9
         have hFlt : F < wc.heap.size := HFB.out.lt
         have hK9 : K48 F w5 w9 := HK.out.trans (K48.of hb9 (Nat.le_of_lt hFlt))
         have hB9 := HB3.out.old hb9
         obtain ⟨ns3, hns3⟩ : ∃ z, ns ++ [num] = z := ⟨_, rfl⟩
         have HN3 : Hid (ns3.length = ns.length + 1) := by show _ = _; rw [← hns3]; simp
         rw [hns3] at HGn hB9
         have hb10 := (Below.refl w9.heap.size w9).alloc (Nat.le_refl _) (.cells #[.slice ga fs.length gc, .slice ma ms.length mc] 98)
         have hB10 := hB9.old hb10
         have hF10 := hF9.old hb10
         have hK10 : K48 F w5 (w9.alloc (.cells #[.slice ga fs.length gc, .slice ma ms.length mc] 98)) := hK9.trans (K48.of hb10 (Nat.le_of_lt hF9.lt))
         have hX10 := Blk.new w9 98 #[.slice ga fs.length gc, .slice ma ms.length mc]
         have hFT10 : FT (w9.alloc (.cells #[.slice ga fs.length gc, .slice ma ms.length mc] 98)) wc.heap.size none fs ga gc := hFT.keep fun b _ _ hb => hb10.block b hb.lt
         have hms10 : IOwn (w9.alloc (.cells #[.slice ga fs.length gc, .slice ma ms.length mc] 98)) wc.heap.size (.slice ma ms.length mc) ms := own_after hms hb10
         have hwc : w.heap.size + 1 < F := HFS.out
         have hF9z : F < w9.heap.size := hF9.lt
         have hXc : wc.heap.size ≤ w9.heap.size := hb9.size
         clear hb9 hb10 hB9 hF9 hK9 hFT hms HB3 HFB HK HFS
         go_upto_region 15 with fail
         generalize w9.alloc (.cells #[.slice ga fs.length gc, .slice ma ms.length mc] 98) = w10 at *
         generalize w9.heap.size = X at *
         have x0 : w10.cell? ⟨X, 0, none⟩ = some (.slice ga fs.length gc) := hX10.cell 0
         have x1 : w10.cell? ⟨X, 1, none⟩ = some (.slice ma ms.length mc) := hX10.cell 1
         have f13 : w10.cell? ⟨F, 13, none⟩ = some (.slice none 0 0) := hF10.cell 13
         have f13f : w10.frozen? ⟨F, 13, none⟩ = false := Blk.free hF10 13
         have HB10 : Hid (RdB w w10 (.slice fa qs.length fc) la3 lc3 ns3) := hB10
         have HF10 : Hid (Blk w10 F 48 #[.string o.name, .int .u8 o.kind, .bool o.down, .int .u8 o.nulls, .bool o.bnd, .bool o.ln, .string o.lm, .bool o.hn, .string o.hm, .int .i64 o.most, .int .i64 o.str, .bool o.shf, .bool o.bck, .slice none 0 0]) := hF10
         have HK10 : Hid (K48 F w5 w10) := hK10
         have HX10 : Hid (Blk w10 X 98 #[.slice ga fs.length gc, .slice ma ms.length mc]) := hX10
         have HFT10 : Hid (FT w10 wc.heap.size none fs ga gc) := hFT10
         have HMS10 : Hid (IOwn w10 wc.heap.size (.slice ma ms.length mc) ms) := hms10
         clear hB10 hF10 hK10 hX10 hFT10 hms10
         go_upto_region 18 with fail
         have hO11 : Oth F w10 (w10.setCell ⟨F, 13, none⟩ (.slice ga fs.length gc)) := Oth.set F 13 w10 _
         have HB11 : Hid (RdB w (w10.setCell ⟨F, 13, none⟩ (.slice ga fs.length gc)) (.slice fa qs.length fc) la3 lc3 ns3) := HB10.out.oth hO11 hwc (own_ty HB10.out.own ⟨_, _, HF10.out⟩ (by decide))
         have HF11 : Hid (Blk (w10.setCell ⟨F, 13, none⟩ (.slice ga fs.length gc)) F 48 #[.string o.name, .int .u8 o.kind, .bool o.down, .int .u8 o.nulls, .bool o.bnd, .bool o.ln, .string o.lm, .bool o.hn, .string o.hm, .int .i64 o.most, .int .i64 o.str, .bool o.shf, .bool o.bck, .slice ga fs.length gc]) := HF10.out.set 13 (.slice ga fs.length gc)
         have HK11 : Hid (K48 F w5 (w10.setCell ⟨F, 13, none⟩ (.slice ga fs.length gc))) := HK10.out.trans (K48.oth hO11 (fun _ => Nat.le_refl _))
         have HX11 : Hid (Blk (w10.setCell ⟨F, 13, none⟩ (.slice ga fs.length gc)) X 98 #[.slice ga fs.length gc, .slice ma ms.length mc]) := (hO11.block X HX10.out.lt (by omega)).trans HX10.out
         have HFT11 : Hid (FT (w10.setCell ⟨F, 13, none⟩ (.slice ga fs.length gc)) wc.heap.size none fs ga gc) := HFT10.out.keep fun b hb _ ht => hO11.block b ht.lt (by omega)
         have HMS11 : Hid (IOwn (w10.setCell ⟨F, 13, none⟩ (.slice ga fs.length gc)) wc.heap.size (.slice ma ms.length mc) ms) := HMS10.out.oth hO11 (own_ty HMS10.out ⟨_, _, HF10.out⟩ (by decide))
         generalize w10.setCell ⟨F, 13, none⟩ (.slice ga fs.length gc) = w11 at *
         clear HB10 HF10 HK10 HX10 HFT10 HMS10 hO11 x0 x1 f13 f13f
         have x1 : w11.cell? ⟨X, 1, none⟩ = some (.slice ma ms.length mc) := HX11.out.cell 1
         have s1 : w11.cell? ⟨w.heap.size + 1, 1, none⟩ = some (.slice la3 ns3.length lc3) := HB11.out.box.cell 1
         have hll : ns3.length + ms.length ≤ 1099511627776 := by have := HN3.out; have := HMS.out; have := HNS.out; omega
         have hbs11 := HB11.out.bel.size
         have HSZ11 : Hid (wc.heap.size ≤ w11.heap.size) := by show _ ≤ _; have h1 := HX11.out.lt; omega
         go_upto_region 19 with (first | (at_builtin; refine wpList_append_spread rfl _ _ rfl w.heap.size la3 lc3 ns3 rfl HB11.out.own wc.heap.size ms ma mc rfl HMS11.out hll hbs11 ?_; intro a12 c12 w12 hown12 hgr12; obtain ⟨hS12, hB12⟩ := RdB.lines HB11.out hown12 hgr12; have d1 : w12.cell? ⟨w.heap.size + 1, 1, none⟩ = some (.slice la3 ns3.length lc3) := hS12.cell 1; have d1f : w12.frozen? ⟨w.heap.size + 1, 1, none⟩ = false := Blk.free hS12 1))
         have hO13 : Oth (w.heap.size + 1) w12 (w12.setCell ⟨w.heap.size + 1, 1, none⟩ (.slice a12 (ns3.length + ms.length) c12)) := Oth.set _ 1 w12 _
         have hK12 : K48 w11.heap.size w11 w12 := K48.lines (Nat.le_refl _) HB11.out.own hgr12
         have hn12 : ¬ T48 w12 (w.heap.size + 1) := not48 hS12 (by decide)
         have hK13 : K48 w11.heap.size w11 (w12.setCell ⟨w.heap.size + 1, 1, none⟩ (.slice a12 (ns3.length + ms.length) c12)) := hK12.trans (K48.oth hO13 (fun h => absurd h hn12))
         have HB13 : Hid (RdB w (w12.setCell ⟨w.heap.size + 1, 1, none⟩ (.slice a12 (ns3.length + ms.length) c12)) (.slice fa qs.length fc) a12 c12 (ns3 ++ ms)) := hB12
         have HF13 : Hid (Blk (w12.setCell ⟨w.heap.size + 1, 1, none⟩ (.slice a12 (ns3.length + ms.length) c12)) F 48 #[.string o.name, .int .u8 o.kind, .bool o.down, .int .u8 o.nulls, .bool o.bnd, .bool o.ln, .string o.lm, .bool o.hn, .string o.hm, .int .i64 o.most, .int .i64 o.str, .bool o.shf, .bool o.bck, .slice ga fs.length gc]) := (hK13 F HF11.out.lt ⟨_, _, HF11.out⟩).trans HF11.out
         have HFR13 : Hid (FRow (w12.setCell ⟨w.heap.size + 1, 1, none⟩ (.slice a12 (ns3.length + ms.length) c12)) w.heap.size (.slice fa qs.length fc) qs) := by
          have h1 : K48 w5.heap.size w5 w11 := by rw [HFW.out]; exact HK11.out
          have h2 := HF5.out.k48 h1
          exact h2.keep fun b _ hb => hK13 b hb.lt hb
         have HFT13 : Hid (FT (w12.setCell ⟨w.heap.size + 1, 1, none⟩ (.slice a12 (ns3.length + ms.length) c12)) w.heap.size (Value.slice fa qs.length fc).ownBlock fs ga gc) := by
          refine HFT11.out.kept (by omega) fun b hb _ ht => ⟨hK13 b ht.lt ht, fun e => ?_⟩
          have := (HF5.out.t48 e.symm).2.lt
          have h3 := HFW.out
          omega
         generalize w12.setCell ⟨w.heap.size + 1, 1, none⟩ (.slice a12 (ns3.length + ms.length) c12) = w13 at *
         clear HB11 HF11 HK11 HX11 HFT11 HMS11 hO13 hK12 hK13 hn12 x1 s1 d1 d1f hS12 hB12 hown12 hgr12 HF5 hbs11 HSZ11
         have hb8 := (Below.refl w13.heap.size w13).alloc (Nat.le_refl _) (.cells #[.string o.name, .int .u8 o.kind, .bool o.down, .int .u8 o.nulls, .bool o.bnd, .bool o.ln, .string o.lm, .bool o.hn, .string o.hm, .int .i64 o.most, .int .i64 o.str, .bool o.shf, .bool o.bck, .slice ga fs.length gc] 48)
         have hB8 := HB13.out.old hb8
         have hf8 : FRow (w13.alloc (.cells #[.string o.name, .int .u8 o.kind, .bool o.down, .int .u8 o.nulls, .bool o.bnd, .bool o.ln, .string o.lm, .bool o.hn, .string o.hm, .int .i64 o.most, .int .i64 o.str, .bool o.shf, .bool o.bck, .slice ga fs.length gc] 48)) w.heap.size (.slice fa qs.length fc) qs := HFR13.out.keep fun b _ hb => hb8.block b hb.lt
         have hq8 : FT (w13.alloc (.cells #[.string o.name, .int .u8 o.kind, .bool o.down, .int .u8 o.nulls, .bool o.bnd, .bool o.ln, .string o.lm, .bool o.hn, .string o.hm, .int .i64 o.most, .int .i64 o.str, .bool o.shf, .bool o.bck, .slice ga fs.length gc] 48)) w.heap.size (Value.slice fa qs.length fc).ownBlock fs ga gc := HFT13.out.keep fun b _ _ hb => hb8.block b hb.lt
         have hN8 : Blk (w13.alloc (.cells #[.string o.name, .int .u8 o.kind, .bool o.down, .int .u8 o.nulls, .bool o.bnd, .bool o.ln, .string o.lm, .bool o.hn, .string o.hm, .int .i64 o.most, .int .i64 o.str, .bool o.shf, .bool o.bck, .slice ga fs.length gc] 48)) w13.heap.size 48 (cellQ ((⟨o, fs⟩ : Fld), ga, gc)).toArray := Blk.new w13 48 _
         have hbase8 : w.heap.size ≤ (w13.alloc (.cells #[.string o.name, .int .u8 o.kind, .bool o.down, .int .u8 o.nulls, .bool o.bnd, .bool o.ln, .string o.lm, .bool o.hn, .string o.hm, .int .i64 o.most, .int .i64 o.str, .bool o.shf, .bool o.bck, .slice ga fs.length gc] 48)).heap.size := hB8.bel.size
         obtain ⟨f0, f1, f2, f3, f4, f5, f6, f7, f8, f9, f10, f11, f12, f13⟩ := Blk.c14 HF13.out
         have s0 : w13.cell? ⟨w.heap.size + 1, 0, none⟩ = some (.slice fa qs.length fc) := HB13.out.box.cell 0
         clear hb8 HB13 HF13 HFR13 HFT13
         obtain ⟨w8, hw8⟩ : ∃ w8, w13.alloc (.cells #[.string o.name, .int .u8 o.kind, .bool o.down, .int .u8 o.nulls, .bool o.bnd, .bool o.ln, .string o.lm, .bool o.hn, .string o.hm, .int .i64 o.most, .int .i64 o.str, .bool o.shf, .bool o.bck, .slice ga fs.length gc] 48) = w8 := ⟨_, rfl⟩
         rw [hw8] at hB8 hf8 hN8 hbase8 hq8
         go_wp2_with (first | (at_builtin; (try rw [hw8]); refine wpList_append_field rfl _ _ rfl w.heap.size _ qs rfl hf8 (⟨o, fs⟩, ga, gc) ⟨hgc, hq8⟩ w13.heap.size 1 rfl hN8 hql hbase8 ?_; intro a7 c7 w7 hfr7 hgr7 hat7; obtain ⟨hS7, hB7, hF7⟩ := RdB.fields hB8 hf8 hfr7 hgr7; have d0 : w7.cell? ⟨w.heap.size + 1, 0, none⟩ = some (.slice fa qs.length fc) := hS7.cell 0; have d0f : w7.frozen? ⟨w.heap.size + 1, 0, none⟩ = false := Blk.free hS7 0; clear hgr7 hat7 hfr7 hS7))
         clear hB8 hf8 hN8 hq8
         go_roundg (L - j)
         case measure => have := HGK.out; omega
         case rel => exact ⟨j, ns3 ++ ms, a12, c12, a7, c7, qs ++ [(⟨o, fs⟩, ga, gc)], rfl, hjL.2, by omega, by simp, (show RdB _ _ _ _ _ _ from by simpa using hB7), (show FRow _ _ _ _ from by simpa using hF7), by have := HNS.out; have := HN3.out; have := HMS.out; show _ ≤ _; simp; omega, by have := HQS.out; have := HN3.out; show _ ≤ _; simp; omega, HGn⟩
       ·
        have hk7 : ¬ o.kind = 7 := hk
        have HGn : Hid (rdA after wi (rs.drop (i + 1)) (ns ++ [num]) ((qs ++ [((⟨o, []⟩ : Fld), (none : Option Addr), 0)]).map Prod.fst) = G) := by show _ = G; rw [← HG.out, HD.out, rdA_leaf hl hk7, List.map_append]; rfl
        have tk : (o.kind == 7) = false := beq_eq_false_iff_ne.2 hk7
        have tk2 : decide (o.kind = 7) = false := decide_eq_false hk7
        have hb8 := (Below.refl wc.heap.size wc).alloc (Nat.le_refl _) (.cells #[.string o.name, .int .u8 o.kind, .bool o.down, .int .u8 o.nulls, .bool o.bnd, .bool o.ln, .string o.lm, .bool o.hn, .string o.hm, .int .i64 o.most, .int .i64 o.str, .bool o.shf, .bool o.bck, .slice none 0 0] 48)
        have hB8 : RdB w (wc.alloc (.cells #[.string o.name, .int .u8 o.kind, .bool o.down, .int .u8 o.nulls, .bool o.bnd, .bool o.ln, .string o.lm, .bool o.hn, .string o.hm, .int .i64 o.most, .int .i64 o.str, .bool o.shf, .bool o.bck, .slice none 0 0] 48)) (.slice fa qs.length fc) la3 lc3 (ns ++ [num]) := HB3.out.old hb8
        have hf8 : FRow (wc.alloc (.cells #[.string o.name, .int .u8 o.kind, .bool o.down, .int .u8 o.nulls, .bool o.bnd, .bool o.ln, .string o.lm, .bool o.hn, .string o.hm, .int .i64 o.most, .int .i64 o.str, .bool o.shf, .bool o.bck, .slice none 0 0] 48)) w.heap.size (.slice fa qs.length fc) qs := (HF5.out.k48 (by rw [HFW.out]; exact HK.out)).keep fun b _ hb => hb8.block b hb.lt
        have hN8 : Blk (wc.alloc (.cells #[.string o.name, .int .u8 o.kind, .bool o.down, .int .u8 o.nulls, .bool o.bnd, .bool o.ln, .string o.lm, .bool o.hn, .string o.hm, .int .i64 o.most, .int .i64 o.str, .bool o.shf, .bool o.bck, .slice none 0 0] 48)) wc.heap.size 48 (cellQ ((⟨o, []⟩ : Fld), (none : Option Addr), 0)).toArray := Blk.new wc 48 _
        have hbase8 : w.heap.size ≤ (wc.alloc (.cells #[.string o.name, .int .u8 o.kind, .bool o.down, .int .u8 o.nulls, .bool o.bnd, .bool o.ln, .string o.lm, .bool o.hn, .string o.hm, .int .i64 o.most, .int .i64 o.str, .bool o.shf, .bool o.bck, .slice none 0 0] 48)).heap.size := hB8.bel.size
        obtain ⟨f0, f1, f2, f3, f4, f5, f6, f7, f8, f9, f10, f11, f12, f13⟩ := Blk.c14 HFB.out
        have s0 : wc.cell? ⟨w.heap.size + 1, 0, none⟩ = some (.slice fa qs.length fc) := HB3.out.box.cell 0
        clear HG HD hl hk hk7 hb8 HB3 HF5 HK HFB
        obtain ⟨w8, hw8⟩ : ∃ w8, wc.alloc (.cells #[.string o.name, .int .u8 o.kind, .bool o.down, .int .u8 o.nulls, .bool o.bnd, .bool o.ln, .string o.lm, .bool o.hn, .string o.hm, .int .i64 o.most, .int .i64 o.str, .bool o.shf, .bool o.bck, .slice none 0 0] 48) = w8 := ⟨_, rfl⟩
        rw [hw8] at hB8 hf8 hN8 hbase8
        go_wp2_with (first | (at_builtin; (try rw [hw8]); refine wpList_append_field rfl _ _ rfl w.heap.size _ qs rfl hf8 (⟨o, []⟩, none, 0) ⟨Nat.le_refl _, .nil⟩ wc.heap.size 1 rfl hN8 hql hbase8 ?_; intro a7 c7 w7 hfr7 hgr7 hat7; obtain ⟨hS7, hB7, hF7⟩ := RdB.fields hB8 hf8 hfr7 hgr7; have d0 : w7.cell? ⟨w.heap.size + 1, 0, none⟩ = some (.slice fa qs.length fc) := hS7.cell 0; have d0f : w7.frozen? ⟨w.heap.size + 1, 0, none⟩ = false := Blk.free hS7 0; clear hgr7 hat7 hfr7 hS7))
        clear hB8 hf8 hN8
        go_roundg (L - (i + 1))
        case measure => have := HGK.out; omega
        case rel => exact ⟨i + 1, ns ++ [num], la3, lc3, a7, c7, qs ++ [(⟨o, []⟩, none, 0)], rfl, by omega, by omega, by simp, (show RdB _ _ _ _ _ _ from by simpa using hB7), (show FRow _ _ _ _ from by simpa using hF7), by have := HNS.out; show _ ≤ _; simp; omega, by have := HQS.out; show _ ≤ _; simp; omega, HGn⟩
  ·
   have t1 : decide ((i : Int) < (L : Int)) = false := decide_eq_false (by omega)
   have t2 : decide (i < L) = false := decide_eq_false hlt
   have HD : Hid (rs.drop i = []) := List.drop_of_length_le (by rw [HL.out]; omega)
   cases wi with
   | true =>
    have HGe : Hid (G = .error after) := by show G = _; rw [← HG.out, HD.out, rdA_nil_t]
    have s0 : wr.cell? ⟨w.heap.size + 1, 0, none⟩ = some (.slice fa qs.length fc) := HB.out.box.cell 0
    have s1 : wr.cell? ⟨w.heap.size + 1, 1, none⟩ = some (.slice la ns.length lc) := HB.out.box.cell 1
    have k0 : wr.cell? ⟨w.heap.size, 0, none⟩ = some (.slice none 0 0) := HB.out.res.cell 0
    have k1 : wr.cell? ⟨w.heap.size, 1, none⟩ = some (.slice none 0 0) := HB.out.res.cell 1
    have kf0 : wr.frozen? ⟨w.heap.size, 0, none⟩ = false := Blk.free HB.out.res 0
    have kf1 : wr.frozen? ⟨w.heap.size, 1, none⟩ = false := Blk.free HB.out.res 1
    have ea : IntKind.i64.wrap (last + 1) = last + 1 := IntWalk.i64_in _ (by omega)
    clear HG HD
    go_wp2_with fail
    obtain ⟨hD, hDF, hDI, hDB⟩ := HB.out.done HF.out
    refine bodyPost_ret (res48 hD rfl rfl rfl) rfl ?_
    rw [HAF.out]; exact rpost_err HGe.out hDB _ _ _ _ _ _ _
   | false =>
    have HGe : Hid (G = .ok (qs.map Prod.fst, [], ns)) := by show G = _; rw [← HG.out, HD.out, rdA_nil_f]
    have s0 : wr.cell? ⟨w.heap.size + 1, 0, none⟩ = some (.slice fa qs.length fc) := HB.out.box.cell 0
    have s1 : wr.cell? ⟨w.heap.size + 1, 1, none⟩ = some (.slice la ns.length lc) := HB.out.box.cell 1
    have k0 : wr.cell? ⟨w.heap.size, 0, none⟩ = some (.slice none 0 0) := HB.out.res.cell 0
    have k1 : wr.cell? ⟨w.heap.size, 1, none⟩ = some (.slice none 0 0) := HB.out.res.cell 1
    have kf0 : wr.frozen? ⟨w.heap.size, 0, none⟩ = false := Blk.free HB.out.res 0
    have kf1 : wr.frozen? ⟨w.heap.size, 1, none⟩ = false := Blk.free HB.out.res 1
    clear HG HD
    go_wp2_with fail
    obtain ⟨hD, hDF, hDI, hDB⟩ := HB.out.done HF.out
    refine bodyPost_ret (res48 hD rfl rfl rfl) rfl ?_
    exact rpost_ok (x := i) HGe.out (by simp; omega) hDB hDF hDI
theorem read_any (m : Nat) : RdOk m := by
 induction m using Nat.strongRecOn with
 | _ m ih => exact read_step m ih
def aheadT (ns : List Int) : Except Int (List Fld × List Int) → Except Int (List Fld × List Int)
  | .error e => .error e
  | .ok r => .ok (r.1, ns ++ r.2)
def aheadF (ns : List Int) : Except Int (Fld × List Ln × List Int) → Except Int (Fld × List Ln × List Int)
  | .error e => .error e
  | .ok r => .ok (r.1, r.2.1, ns ++ r.2.2)
theorem aheadT_app (a b : List Int) (r : Except Int (List Fld × List Int)) : aheadT a (aheadT b r) = aheadT (a ++ b) r := by
  cases r with
  | error e => rfl
  | ok r => simp [aheadT]
theorem field_shift (after num : Int) (ws : List ByteArray) (ls : List Ln) (ns : List Int) : fieldP after num ws ls ns = aheadF ns (fieldP after num ws ls []) := by
  unfold fieldP
  cases lineL ws with
  | none => rfl
  | some o =>
    simp only
    by_cases h7 : o.kind = 7
    · rw [if_pos h7, if_pos h7, all_shift after ls (ns ++ [num]) [], all_shift after ls ([] ++ [num]) []]
      cases allP after ls [] [] with
      | error e => rfl
      | ok r => simp [aheadN, aheadF]
    · rw [if_neg h7, if_neg h7]; simp [aheadF]
theorem top_shift (n : Nat) : ∀ (after : Int) (ls : List Ln) (ns : List Int) (acc : List Fld), topP n after ls ns acc = aheadT ns (topP n after ls [] acc) := by
  induction n with
  | zero => intro after ls ns acc; simp [topP, aheadT]
  | succ n ih =>
    intro after ls ns acc
    cases ls with
    | nil => simp [topP, aheadT]
    | cons l ls =>
      rw [topP, topP, field_shift after l.1 l.2 ls ns]
      cases fieldP after l.1 l.2 ls [] with
      | error e => rfl
      | ok r =>
        show topP n after r.2.1 (ns ++ r.2.2) _ = aheadT ns (topP n after r.2.1 r.2.2 _)
        rw [ih after r.2.1 (ns ++ r.2.2), ih after r.2.1 r.2.2, aheadT_app]
abbrev limW : ByteArray := ⟨#[108, 105, 109, 105, 116]⟩
theorem limL_two (x y : ByteArray) : limL [x, y] = if x.toList == limW.toList then cntL y.data.toList else none := by
  unfold limL
  cases hx : (x.toList == limW.toList) with
  | true =>
    rw [show skipL [x, y] ⟨#[108, 105, 109, 105, 116]⟩ = (true, [y]) by rw [skipL, if_pos hx]]
    simp only [cntW]
    cases cntL y.data.toList <;> rfl
  | false =>
    rw [show skipL [x, y] ⟨#[108, 105, 109, 105, 116]⟩ = (false, [x, y]) by rw [skipL, if_neg (by rw [hx]; simp)]]
    rfl
theorem limL_not {ws : List ByteArray} (h : ws.length ≠ 2) : limL ws = none := by
  unfold limL
  match ws, h with
  | [], _ => rfl
  | [x], _ =>
    cases hx : (x.toList == limW.toList) with
    | true => rw [show skipL [x] ⟨#[108, 105, 109, 105, 116]⟩ = (true, []) by rw [skipL, if_pos hx]]; rfl
    | false => rw [show skipL [x] ⟨#[108, 105, 109, 105, 116]⟩ = (false, [x]) by rw [skipL, if_neg (by rw [hx]; simp)]]; rfl
  | [x, y], h => exact absurd rfl h
  | x :: y :: z :: r, _ =>
    cases hx : (x.toList == limW.toList) with
    | true =>
      rw [show skipL (x :: y :: z :: r) ⟨#[108, 105, 109, 105, 116]⟩ = (true, y :: z :: r) by rw [skipL, if_pos hx]]
      simp only [cntW]
      cases cntL y.data.toList <;> rfl
    | false => rw [show skipL (x :: y :: z :: r) ⟨#[108, 105, 109, 105, 116]⟩ = (false, x :: y :: z :: r) by rw [skipL, if_neg (by rw [hx]; simp)]]; rfl
theorem parseS_none {s : List UInt8} (hs : s.length ≤ 65536) (h : lnF 1 (linesL s) = []) : parseS s = .error (110, ((linesL s).length : Int) + 1, []) := by
  rw [parseS, if_neg (by omega), h, Int.add_comm]
  rfl
theorem parseS_lim {s : List UInt8} (hs : s.length ≤ 65536) {num : Int} {ws : List ByteArray} {ls : List Ln} (h : lnF 1 (linesL s) = (num, ws) :: ls) (hl : limL ws = none) : parseS s = .error (110, num, []) := by
  rw [parseS, if_neg (by omega), h]
  show afterS (limP num (limL ws) _) = _
  rw [hl]; rfl
theorem parseS_bad {s : List UInt8} (hs : s.length ≤ 65536) {num : Int} {ws : List ByteArray} {ls : List Ln} (h : lnF 1 (linesL s) = (num, ws) :: ls) {z : Int} (hl : limL ws = some z) {m : Int} (hr : rdA (((linesL s).length : Int) + 1) false ls [] [] = .error m) : parseS s = .error (110, m, []) := by
  rw [parseS, if_neg (by omega), h]
  show afterS (limP num (limL ws) (topA _ ls ([] ++ [num]) [])) = _
  have e : topA (1 + ((linesL s).length : Int)) ls [] [] = .error m := by
    rw [Int.add_comm]
    change topT (topA _ ls [] []) = _ at hr
    revert hr
    cases topA (((linesL s).length : Int) + 1) ls [] [] with
    | error e => intro hr; cases hr; rfl
    | ok r => intro hr; cases hr
  unfold topA at e ⊢
  rw [hl, top_shift, e]; rfl
theorem schema_ok {s : List UInt8} {num : Int} {ws : List ByteArray} {ls : List Ln} (h : lnF 1 (linesL s) = (num, ws) :: ls) {z : Int} (hl : limL ws = some z) {r : List Fld × List Ln × List Int} (hr : rdA (((linesL s).length : Int) + 1) false ls [] [] = .ok r) : schemaP (1 + ((linesL s).length : Int)) (lnF 1 (linesL s)) [] = .ok (z, r.1, num :: r.2.2) := by
  rw [h]
  show limP num (limL ws) (topA _ ls ([] ++ [num]) []) = _
  have e : topA (1 + ((linesL s).length : Int)) ls [] [] = .ok (r.1, r.2.2) := by
    rw [Int.add_comm]
    change topT (topA _ ls [] []) = _ at hr
    revert hr
    cases topA (((linesL s).length : Int) + 1) ls [] [] with
    | error e => intro hr; cases hr
    | ok r => intro hr; cases hr; rfl
  unfold topA at e ⊢
  rw [hl, top_shift, e]; rfl
theorem chk_line {z num : Int} {fs : List Fld} {ns : List Int} (hR : ReadOk (z, fs, num :: ns)) (hq : (chkS bndQ z fs).1 ≠ 0) :
    ((chkS bndQ z fs).2 = [] ∧ (num :: ns)[(chkN bndQ z fs).toNat]?.getD 0 = num) ∨ ((chkS bndQ z fs).2 ≠ [] ∧ ValidP fs (chkS bndQ z fs).2 ∧ placeF fs (chkS bndQ z fs).2 < ns.length ∧ (num :: ns)[(chkN bndQ z fs).toNat]?.getD 0 = ns[placeF fs (chkS bndQ z fs).2]?.getD 0) := by
  obtain ⟨k, hk1, hk2⟩ := hR.cnt hq
  simp only at hk1 hk2
  unfold chkN at hk1 ⊢
  unfold chkS at hq ⊢
  by_cases h1 : z < 1 ∨ 65536 < z
  · rw [if_pos h1, if_pos h1]; exact .inl ⟨rfl, rfl⟩
  · rw [if_neg h1] at hq hk1
    rw [if_neg h1, if_neg h1]
    by_cases h2 : fs = []
    · rw [if_pos h2, if_pos h2]; exact .inl ⟨rfl, rfl⟩
    · rw [if_neg h2] at hq hk1
      rw [if_neg h2, if_neg h2]
      cases ht : tourL bndQ [] [] 0 fs with
      | ok m => rw [ht] at hq; exact absurd rfl hq
      | bad c p m =>
        rw [ht] at hk1
        simp only at hk1 ⊢
        obtain ⟨ps, e1, e2, e3⟩ := tour_place (Q := bndQ) _ fs (Nat.le_refl _) [] [] 0 c p m ht
        rw [List.nil_append] at e1 e2 e3
        rw [numF_nil] at e3
        subst e1
        have hm : m = placeF fs p + 1 := by omega
        have hkm : k = m := by omega
        rw [List.length_cons] at hk2
        refine .inr ⟨fun e => by subst e; exact e2, e2, by omega, ?_⟩
        rw [hm, Int.toNat_natCast, List.getElem?_cons_succ]
theorem read_num {s : List UInt8} (hs : s.length ≤ 65536) {l0 : Ln} {ls : List Ln} (h : lnF 1 (linesL s) = l0 :: ls) {after : Int} {r : List Fld × List Ln × List Int} (hr : rdA after false ls [] [] = .ok r) : numF r.1 ≤ 65536 ∧ r.2.2.length ≤ 65536 := by
  have hw := lines_ok s hs
  have hl := Nat.le_trans (lnF_len 1 (linesL s)) (linesL_len s).1
  rw [h] at hw hl
  rw [List.length_cons] at hl
  change topT (topA _ ls [] []) = _ at hr
  cases ht : topA after ls [] [] with
  | error e => rw [ht] at hr; cases hr
  | ok q =>
    rw [ht] at hr
    cases hr
    unfold topA at ht
    obtain ⟨_, a2, a3⟩ := top_rk _ after ls [] [] q (fun x hx => hw x (List.mem_cons_of_mem _ hx)) (by omega) (fun x hx => by cases hx) ht
    rw [numF_nil] at a2
    simp only [List.length_nil] at a2 a3
    show numF q.1 ≤ _ ∧ q.2.length ≤ _
    omega
def RPaPost (r : Except (Int × Int × List Int) (Int × List Fld)) (w : World) (e : Ending) (w' : World) : Prop :=
  Below w.heap.size w w' ∧ match r with
  | .error q => ∃ pa pc, e = .returned (.tuple #[.agg #[.int .i64 0, .slice none 0 0], .agg #[.int .i64 q.1, .int .i64 q.2.1, .slice pa q.2.2.length pc]]) ∧ IOwn w' w.heap.size (.slice pa q.2.2.length pc) q.2.2
  | .ok q => ∃ fa fc pa pc, e = .returned (.tuple #[.agg #[.int .i64 q.1, .slice fa q.2.length fc], .agg #[.int .i64 0, .int .i64 0, .slice pa 0 pc]]) ∧ q.2.length ≤ fc ∧ FT w' w.heap.size none q.2 fa fc ∧ IOwn w' w.heap.size (.slice pa 0 pc) []
theorem rpa_err {w w' : World} {G : Except (Int × Int × List Int) (Int × List Fld)} {c m : Int} {p : List Int} (h : G = .error (c, m, p)) (hb : Below w.heap.size w w') {pa : Option Addr} {pc : Nat} (hi : IOwn w' w.heap.size (.slice pa p.length pc) p) : RPaPost G w (.returned (.tuple #[.agg #[.int .i64 0, .slice none 0 0], .agg #[.int .i64 c, .int .i64 m, .slice pa p.length pc]])) w' := by
  subst h
  exact ⟨hb, pa, pc, rfl, hi⟩
theorem rpa_ok {w w' : World} {G : Except (Int × Int × List Int) (Int × List Fld)} {z : Int} {fs : List Fld} (h : G = .ok (z, fs)) (hb : Below w.heap.size w w') {fa pa : Option Addr} {fc pc : Nat} (hc : fs.length ≤ fc) (hf : FT w' w.heap.size none fs fa fc) (hi : IOwn w' w.heap.size (.slice pa 0 pc) []) : RPaPost G w (.returned (.tuple #[.agg #[.int .i64 z, .slice fa fs.length fc], .agg #[.int .i64 0, .int .i64 0, .slice pa 0 pc]])) w' := by
  subst h
  exact ⟨hb, fa, fc, pa, pc, rfl, hc, hf, hi⟩
theorem res26 {tmps : Array Value} {w : World} {C D : Nat} {v0 v1 u0 u1 u2 : Value} (hC : Blk w C 25 #[v0, v1]) (hD : Blk w D 31 #[u0, u1, u2]) (t2 : tmps[2]?.getD undef = .pointer (some ⟨C, 0, none⟩)) (t3 : tmps[3]?.getD undef = .pointer (some ⟨D, 0, none⟩)) : (results Tryz.f26 tmps).run Tryz.prog w = .ok (.tuple #[.agg #[v0, v1], .agg #[u0, u1, u2]]) w := by
  have d0 : w.cell? ⟨C, 0, none⟩ = some v0 := hC.cell 0
  have d1 : w.cell? ⟨C, 1, none⟩ = some v1 := hC.cell 1
  have d2 : w.cell? ⟨D, 0, none⟩ = some u0 := hD.cell 0
  have d3 : w.cell? ⟨D, 1, none⟩ = some u1 := hD.cell 1
  have d4 : w.cell? ⟨D, 2, none⟩ = some u2 := hD.cell 2
  simp [results, Tryz.results26, go_sem, t2, t3, d0, d1, d2, d3, d4]
theorem set26 {w W : World} {C D : Nat} {x0 x1 y0 y1 y2 : Value} (hCD : C ≠ D) (hC0 : w.heap.size ≤ C) (hD0 : w.heap.size ≤ D) (hb : Below w.heap.size w W) (hC : Blk W C 25 #[x0, x1]) (hD : Blk W D 31 #[y0, y1, y2]) (v0 v1 u0 u1 u2 : Value) {wF : World} (hF : wF = ((((W.setCell ⟨C, 0, none⟩ v0).setCell ⟨C, 1, none⟩ v1).setCell ⟨D, 0, none⟩ u0).setCell ⟨D, 1, none⟩ u1).setCell ⟨D, 2, none⟩ u2) :
    Blk wF C 25 #[v0, v1] ∧ Blk wF D 31 #[u0, u1, u2] ∧ Below w.heap.size w wF ∧ (∀ k, k ≠ C → k ≠ D → wF.heap[k]? = W.heap[k]?) ∧ wF.heap.size = W.heap.size := by
  subst hF
  have c1 : Blk (W.setCell ⟨C, 0, none⟩ v0) C 25 #[v0, x1] := hC.set 0 v0
  have c2 : Blk ((W.setCell ⟨C, 0, none⟩ v0).setCell ⟨C, 1, none⟩ v1) C 25 #[v0, v1] := c1.set 1 v1
  have d1 : Blk (W.setCell ⟨C, 0, none⟩ v0) D 31 #[y0, y1, y2] := hD.other (p := ⟨C, 0, none⟩) hCD.symm v0
  have d2 : Blk ((W.setCell ⟨C, 0, none⟩ v0).setCell ⟨C, 1, none⟩ v1) D 31 #[y0, y1, y2] := d1.other (p := ⟨C, 1, none⟩) hCD.symm v1
  refine ⟨((c2.other (p := ⟨D, 0, none⟩) hCD u0).other (p := ⟨D, 1, none⟩) hCD u1).other (p := ⟨D, 2, none⟩) hCD u2, ?_, ?_, ?_, by simp [World.setCell]⟩
  · have d3 : Blk _ D 31 #[u0, y1, y2] := d2.set 0 u0
    have d4 : Blk _ D 31 #[u0, u1, y2] := d3.set 1 u1
    exact d4.set 2 u2
  · exact ((((hb.setCell (p := ⟨C, 0, none⟩) hC0 _).setCell (p := ⟨C, 1, none⟩) hC0 _).setCell (p := ⟨D, 0, none⟩) hD0 _).setCell (p := ⟨D, 1, none⟩) hD0 _).setCell (p := ⟨D, 2, none⟩) hD0 _
  · intro k h1 h2
    rw [Below.heap_setCell _ ⟨D, 2, none⟩ _ k h2, Below.heap_setCell _ ⟨D, 1, none⟩ _ k h2, Below.heap_setCell _ ⟨D, 0, none⟩ _ k h2, Below.heap_setCell _ ⟨C, 1, none⟩ _ k h1, Below.heap_setCell _ ⟨C, 0, none⟩ _ k h1]
theorem box26 {W : World} {C D : Nat} (hC : Blk W C 25 #[.int .i64 0, .slice none 0 0]) (hD : Blk W D 31 #[.int .i64 0, .int .i64 0, .slice none 0 0]) : W.cell? ⟨C, 0, none⟩ = some (.int .i64 0) ∧ W.cell? ⟨C, 1, none⟩ = some (.slice none 0 0) ∧ W.cell? ⟨D, 0, none⟩ = some (.int .i64 0) ∧ W.cell? ⟨D, 1, none⟩ = some (.int .i64 0) ∧ W.cell? ⟨D, 2, none⟩ = some (.slice none 0 0) ∧ W.frozen? ⟨C, 0, none⟩ = false ∧ W.frozen? ⟨C, 1, none⟩ = false ∧ W.frozen? ⟨D, 0, none⟩ = false ∧ W.frozen? ⟨D, 1, none⟩ = false ∧ W.frozen? ⟨D, 2, none⟩ = false := ⟨hC.cell 0, hC.cell 1, hD.cell 0, hD.cell 1, hD.cell 2, hC.frozen 0, hC.frozen 1, hD.frozen 0, hD.frozen 1, hD.frozen 2⟩
theorem blk_no {W : World} {b j : Nat} {t : TypeId} {cs : Array Value} {num : Int} (h : Blk W b t cs) (hc : W.cell? ⟨b, j, none⟩ = some (.int .i64 num)) (hn : 1 ≤ num) (hcs : ∀ (j : Nat) v, cs[j]? = some v → v = .int .i64 0 ∨ v = .slice none 0 0) : False := by
 rw [h.cell j] at hc
 rcases hcs j _ hc with e | e
 ·
  cases e; omega
 ·
  cases e
theorem top_err (n : Nat) : ∀ (after : Int) (ls : List Ln) (ns : List Int) (acc : List Fld) (m : Int), (∀ l ∈ ls, 1 ≤ l.1) → 1 ≤ after → topP n after ls ns acc = .error m → 1 ≤ m := by
 induction n with
 | zero => intro _ _ _ _ _ _ _ h; cases h
 | succ n ih =>
  intro after ls ns acc m hls ha h
  cases ls with
  | nil => cases h
  | cons l ls =>
   have hl1 := hls l List.mem_cons_self
   have hls2 : ∀ x ∈ ls, 1 ≤ x.1 := fun x hx => hls x (List.mem_cons_of_mem _ hx)
   rw [topP] at h
   cases hf : fieldP after l.1 l.2 ls ns with
   | error e =>
    rw [hf] at h
    cases h
    unfold fieldP at hf
    split at hf
    ·
     cases hf; exact hl1
    ·
     split at hf
     ·
      split at hf
      ·
       rename_i e' he
       cases hf
       exact within_err _ _ _ _ _ _ hls2 ha he
      ·
       cases hf
     ·
      cases hf
   | ok r =>
    rw [hf] at h
    exact ih _ _ _ _ _ (fun x hx => hls2 x ((fieldP_len hf).2.2.2 x hx)) ha h
theorem rd_err {after : Int} {ls : List Ln} {m : Int} (hls : ∀ l ∈ ls, 1 ≤ l.1) (ha : 1 ≤ after) (h : rdA after false ls [] [] = .error m) : 1 ≤ m := by
 change topT (topA _ ls [] []) = _ at h
 cases ht : topA after ls [] [] with
 | error e => rw [ht] at h; cases h; exact top_err _ _ _ _ _ _ hls ha ht
 | ok r => rw [ht] at h; cases h
theorem drew_blk {w : World} {b : Nat} {t : TypeId} {cs : Array Value} (h : Blk w b t cs) : Blk w.drew b t cs := h
set_option maxHeartbeats 16000000 in
set_option maxRecDepth 20000 in
theorem rparse_s (s : List UInt8) (w : World) : Calls Tryz.prog 26 #[.string (bs s)] w (RPaPost (parseS s) w) := by
 obtain ⟨G, hG⟩ : ∃ G, parseS s = G := ⟨_, rfl⟩
 rw [hG]
 have HG : Hid (parseS s = G) := hG
 clear hG
 have hsz := bs_size s
 have hb1 := (Below.refl w.heap.size w).alloc (Nat.le_refl _) (.cells #[.int .i64 0, .slice none 0 0] 25)
 have hC1 := Blk.new w 25 #[.int .i64 0, .slice none 0 0]
 have hs1 := alloc_size w (.cells #[.int .i64 0, .slice none 0 0] 25)
 obtain ⟨w1, hw1⟩ : ∃ w1, w.alloc (.cells #[.int .i64 0, .slice none 0 0] 25) = w1 := ⟨_, rfl⟩
 rw [hw1] at hb1 hC1 hs1
 have hb2' := (Below.refl w1.heap.size w1).alloc (Nat.le_refl _) (.cells #[.int .i64 0, .int .i64 0, .slice none 0 0] 31)
 have hD2 := Blk.new w1 31 #[.int .i64 0, .int .i64 0, .slice none 0 0]
 rw [hs1] at hD2
 have hC2 := hC1.old hb2'
 have hb2 := hb1.trans (hb2'.mono hb1.size)
 have hs2 := alloc_size w1 (.cells #[.int .i64 0, .int .i64 0, .slice none 0 0] 31)
 rw [hs1] at hs2
 clear hb1 hb2' hC1
 by_cases hlong : 65536 < s.length
 ·
  have HGe : Hid (G = .error (2, 0, [])) := by show _ = _; rw [← HG.out, parseS, if_pos hlong]
  have t1 : decide ((65536 : Int) < ((bs s).size : Int)) = true := decide_eq_true (by rw [hsz]; omega)
  have t2 : decide (65536 < (bs s).size) = true := decide_eq_true (by rw [hsz]; exact hlong)
  clear HG hlong hsz hs2
  go_enter Tryz.func26, Tryz.ntmps26
  go_upto_region 1 with fail
  clear hw1 hs1
  generalize w1.alloc (.cells #[.int .i64 0, .int .i64 0, .slice none 0 0] 31) = w2 at *
  obtain ⟨k0, k1, k2, k3, k4, kf0, kf1, kf2, kf3, kf4⟩ := box26 hC2 hD2
  have HC2 : Hid (Blk w2 w.heap.size 25 #[.int .i64 0, .slice none 0 0]) := hC2
  have HD2 : Hid (Blk w2 (w.heap.size + 1) 31 #[.int .i64 0, .int .i64 0, .slice none 0 0]) := hD2
  clear hC2 hD2
  go_wp2_with fail
  have hF := set26 (by omega) (Nat.le_refl _) (Nat.le_succ _) hb2 HC2.out HD2.out (.int .i64 0) (.slice none 0 0) (.int .i64 2) (.int .i64 0) (.slice none 0 0) rfl
  refine bodyPost_ret (res26 hF.1 hF.2.1 rfl rfl) rfl ?_
  exact rpa_err HGe.out hF.2.2.1 (IOwn.nil _ _)
 ·
  have hs6 : s.length ≤ 65536 := by omega
  have t1 : decide ((65536 : Int) < ((bs s).size : Int)) = false := decide_eq_false (by rw [hsz]; omega)
  have t2 : decide (65536 < (bs s).size) = false := decide_eq_false (by rw [hsz]; exact hlong)
  have hrow := rows_any s hs6 (w1.alloc (.cells #[.int .i64 0, .int .i64 0, .slice none 0 0] 31))
  have hNL : (linesL s).length ≤ 65536 := Nat.le_trans (linesL_len s).1 hs6
  have hRL : (lnF 1 (linesL s)).length ≤ 65536 := Nat.le_trans (lnF_len 1 (linesL s)) hNL
  have HOK : Hid (∀ l ∈ lnF 1 (linesL s), WsOK l.2) := lines_ok s hs6
  have HPOS : Hid (∀ l ∈ lnF 1 (linesL s), 1 ≤ l.1) := lnF_pos _ 1 (Int.le_refl _)
  have HRK : Hid (∀ q, schemaP (1 + ((linesL s).length : Int)) (lnF 1 (linesL s)) [] = .ok q → ReadOk q) := read_ok s hs6
  have HS6 : Hid (s.length ≤ 65536) := hs6
  clear hlong hsz hs6
  go_enter Tryz.func26, Tryz.ntmps26
  go_upto_region 1 with fail
  clear hw1 hs1
  generalize w1.alloc (.cells #[.int .i64 0, .int .i64 0, .slice none 0 0] 31) = w2 at *
  obtain ⟨RS, hRS⟩ : ∃ RS, lnF 1 (linesL s) = RS := ⟨_, rfl⟩
  obtain ⟨NL, hNLe⟩ : ∃ NL, (linesL s).length = NL := ⟨_, rfl⟩
  have HRS : Hid (lnF 1 (linesL s) = RS) := hRS
  have HNL : Hid ((linesL s).length = NL) := hNLe
  rw [hRS] at hrow hRL HOK HPOS
  rw [hNLe] at hrow hNL
  clear hRS hNLe
  go_wp2_with fail
  refine hrow.mono ?_
  clear hrow
  rintro _ w3 ⟨a, c, rfl, hRows, hcap, hb3⟩
  have hb03 := hb2.trans (hb3.mono hb2.size)
  have HC3 : Hid (Blk w3 w.heap.size 25 #[.int .i64 0, .slice none 0 0]) := hC2.old hb3
  have HD3 : Hid (Blk w3 (w.heap.size + 1) 31 #[.int .i64 0, .int .i64 0, .slice none 0 0]) := hD2.old hb3
  have hz3 : w.heap.size + 2 ≤ w3.heap.size := by have := hb3.size; omega
  have HROWS : Hid (RowsAt w3 a RS) := hRows
  have HR2 : Hid (∀ k (_ : k < RS.length), ∃ b off, a = some ⟨b, off, none⟩ ∧ b ≠ w.heap.size ∧ b ≠ w.heap.size + 1) := fun k hk => by
   obtain ⟨b, off, wa, wcp, e, hbl, c0, c1, _⟩ := hRows k hk
   refine ⟨b, off, e, ?_, ?_⟩
   ·
    rintro rfl
    exact blk_no (hC2.old hb3) c0 (HPOS.out _ (List.getElem_mem hk)) (fun j v h => by match j, h with | 0, h => exact .inl (Option.some.inj h).symm | 1, h => exact .inr (Option.some.inj h).symm)
   ·
    rintro rfl
    exact blk_no (hD2.old hb3) c0 (HPOS.out _ (List.getElem_mem hk)) (fun j v h => by match j, h with | 0, h => exact .inl (Option.some.inj h).symm | 1, h => exact .inl (Option.some.inj h).symm | 2, h => exact .inr (Option.some.inj h).symm)
  clear hRows hb2 hC2 hD2 hb3 hs2
  cases RS with
  | nil =>
   have HGe : Hid (G = .error (110, (NL : Int) + 1, [])) := by show _ = _; rw [← HG.out, parseS_none HS6.out HRS.out, HNL.out]
   obtain ⟨k0, k1, k2, k3, k4, kf0, kf1, kf2, kf3, kf4⟩ := box26 HC3.out HD3.out
   clear HG HRS HRK HNL
   go_wp2_with fail
   have hF := set26 (by omega) (Nat.le_refl _) (Nat.le_succ _) hb03 HC3.out HD3.out (.int .i64 0) (.slice none 0 0) (.int .i64 110) (.int .i64 ((NL : Int) + 1)) (.slice none 0 0) rfl
   refine bodyPost_ret (res26 hF.1 hF.2.1 rfl rfl) rfl ?_
   exact rpa_err HGe.out hF.2.2.1 (IOwn.nil _ _)
  | cons l0 ls =>
   obtain ⟨num, ws⟩ := l0
   obtain ⟨b, off, wa, wcp, ea, hbl, c0, c1, hwc, hst⟩ := HROWS.out 0 (by simp)
   obtain ⟨hbC, hbD⟩ : b ≠ w.heap.size ∧ b ≠ w.heap.size + 1 := by
    obtain ⟨b', off', e', h1, h2⟩ := HR2.out 0 (by simp)
    rw [ea] at e'; cases e'; exact ⟨h1, h2⟩
   subst ea
   simp only [List.getElem_cons_zero, Nat.zero_mul, Nat.add_zero] at c0 c1 hwc hst
   have hwok : WsOK ws := HOK.out (num, ws) List.mem_cons_self
   have HST : Hid (StrAt w3 wa ws) := hst
   have HYO : Hid (∀ x ∈ ws, 0 < x.size ∧ x.size ≤ 1000000) := hwok.2
   rw [List.length_cons] at hRL hcap
   have HLs : Hid (((num, ws) :: ls).length = ls.length + 1) := rfl
   rw [HLs.out]
   obtain ⟨L, hL⟩ : ∃ L, ls.length + 1 = L := ⟨_, rfl⟩
   have HL : Hid (ls.length + 1 = L) := hL
   rw [hL] at hRL hcap ⊢
   have hL1 : 1 ≤ L := by omega
   have hL1i : (0 : Int) < (L : Int) := by omega
   have hLne : L ≠ 0 := by omega
   have tl : ((L : Int) == 0) = false := by simp; omega
   have tl2 : (L == 0) = false := by simp; omega
   clear hst hL HR2
   obtain ⟨T, hT⟩ : ∃ T, (limL ws).isNone = T := ⟨_, rfl⟩
   have HT : Hid ((limL ws).isNone = T) := hT
   clear hT
   go_upto_region 7 with fail
   go_cut [48] from 33 to 48 (fun v wx => v = .bool T ∧ wx = w3)
   case first =>
    clear HG HRS HRK HROWS HC3 HD3 HOK HPOS hwok
    by_cases h2 : ws.length = 2
    ·
     obtain ⟨x, y, rfl⟩ : ∃ x y, ws = [x, y] := by
      match ws, h2 with
      | [x, y], _ => exact ⟨x, y, rfl⟩
     obtain ⟨wb, woff, rfl, _, hx⟩ := HST.out 0 (by simp)
     obtain ⟨wb', woff', e', _, hy⟩ := HST.out 1 (by simp)
     cases e'
     simp only [List.getElem_cons_zero, List.getElem_cons_succ, Nat.add_zero] at hx hy
     have hTT := HT.out
     rw [limL_two] at hTT
     have hlk : limW.toList = [108, 105, 109, 105, 116] := by rw [ByteArray.toList_eq]
     have hyok := HYO.out
     have hsm := small_any y (hyok y (by simp)).1 (hyok y (by simp)).2 w3
     cases hq : (x.toList == limW.toList) with
     | false =>
      rw [hq] at hTT
      have hTe : T = true := by rw [← hTT]; rfl
      subst hTe
      rw [hlk] at hq
      have hq2 : (x.toList != [108, 105, 109, 105, 116]) = true := by rw [bne, hq]; rfl
      have hk : (⟨#[108, 105, 109, 105, 116]⟩ : ByteArray).toList = [108, 105, 109, 105, 116] := hlk
      clear HT HST h2 hTT hlk hsm hyok c1 HYO
      go_wp2_with fail
      go_meet
      exact ⟨rfl, rfl⟩
     | true =>
      rw [hq, if_pos rfl] at hTT
      rw [hlk] at hq
      have hq2 : (x.toList != [108, 105, 109, 105, 116]) = false := by rw [bne, hq]; rfl
      have hk : (⟨#[108, 105, 109, 105, 116]⟩ : ByteArray).toList = [108, 105, 109, 105, 116] := hlk
      cases hc : cntL y.data.toList with
      | none =>
       rw [hc] at hsm hTT
       have hTe : T = true := by rw [← hTT]; rfl
       subst hTe
       clear HT HST h2 hTT hlk hyok c1 HYO hc
       simp only [Option.getD_none] at hsm
       go_wp2_with fail
       refine hsm.mono ?_
       clear hsm
       rintro _ _ ⟨rfl, rfl⟩
       go_wp2_with fail
       go_meet
       exact ⟨rfl, rfl⟩
      | some z =>
       rw [hc] at hsm hTT
       have hTe : T = false := by rw [← hTT]; rfl
       subst hTe
       have hz0 : 0 ≤ z := (cnt_range (ws := [y]) (z := (z, [])) (by rw [cntW, hc])).1
       have tz : decide (z < 0) = false := decide_eq_false (by omega)
       clear HT HST h2 hTT hlk hyok c1 HYO hc
       simp only [Option.getD_some] at hsm
       go_wp2_with fail
       refine hsm.mono ?_
       clear hsm
       rintro _ _ ⟨rfl, rfl⟩
       go_wp2_with fail
       go_meet
       exact ⟨rfl, rfl⟩
    ·
     have hTe : T = true := by rw [← HT.out, limL_not h2]; rfl
     subst hTe
     clear HT HST HYO
     generalize ws.length = n at *
     have t5 : ((n : Int) != 2) = true := by simp; omega
     have t6 : ((n : Int) == 2) = false := by simp; omega
     have t7 : (n != 2) = true := by simp; omega
     have t8 : (n == 2) = false := by simp; omega
     clear c1 hwc
     go_wp2_with fail
     go_meet
     exact ⟨rfl, rfl⟩
   case rest =>
    obtain ⟨rfl, rfl⟩ := hcut
    have hTT := HT.out
    clear HT
    cases T with
    | true =>
     have hln : limL ws = none := Option.isNone_iff_eq_none.1 hTT
     have HGe : Hid (G = .error (110, num, [])) := by show _ = _; rw [← HG.out, parseS_lim HS6.out HRS.out hln]
     obtain ⟨k0, k1, k2, k3, k4, kf0, kf1, kf2, kf3, kf4⟩ := box26 HC3.out HD3.out
     clear HG HRS HRK HNL hTT hln HST HROWS c1
     go_upto_region 8 with fail
     have hbC' : w.heap.size ≠ b := fun h => hbC h.symm
     have hbD' : w.heap.size + 1 ≠ b := fun h => hbD h.symm
     have hCD : w.heap.size ≠ w.heap.size + 1 := by omega
     have hDC : w.heap.size + 1 ≠ w.heap.size := by omega
     have hDge : w.heap.size ≤ w.heap.size + 1 := by omega
     generalize w.heap.size + 1 = D at *
     go_region
     go_wp2_with fail
     have hF := set26 hCD (Nat.le_refl _) hDge hb03 HC3.out HD3.out (.int .i64 0) (.slice none 0 0) (.int .i64 110) (.int .i64 num) (.slice none 0 0) rfl
     refine bodyPost_ret (res26 (drew_blk hF.1) (drew_blk hF.2.1) rfl rfl) rfl ?_
     exact rpa_err HGe.out (below_drew hF.2.2.1) (IOwn.nil _ _)
    | false =>
     obtain ⟨z, hlz⟩ : ∃ z, limL ws = some z := by
      cases h : limL ws with
      | none => rw [h] at hTT; cases hTT
      | some z => exact ⟨z, rfl⟩
     have HLZ : Hid (limL ws = some z) := hlz
     have hrd := read_any L ((num, ws) :: ls) HOK.out HPOS.out (by rw [List.length_cons, HL.out]; omega) 1 (by simp) (by rw [List.length_cons, HL.out]; omega) false (NL : Int) (by omega) (by omega) (some ⟨b, off, none⟩) c wc HROWS.out
     rw [List.length_cons, HL.out, List.drop_succ_cons, List.drop_zero] at hrd
     clear hTT hlz
     go_wp2_with fail
     refine hrd.mono ?_
     clear hrd
     rintro e w4 ⟨hb4, hp⟩
     have hb04 := hb03.trans (hb4.mono hb03.size)
     have hz4 := hb4.size
     cases hr : rdA ((NL : Int) + 1) false ls [] [] with
     | error m =>
      rw [hr] at hp
      obtain ⟨a1, n1, c1', a2, n2, c2, x, rfl⟩ := hp
      have HGe : Hid (G = .error (110, m, [])) := by show _ = _; rw [← HG.out, parseS_bad HS6.out HRS.out HLZ.out (by rw [HNL.out]; exact hr)]
      have hm1 : 1 ≤ m := rd_err (fun l hl => HPOS.out l (List.mem_cons_of_mem _ hl)) (by omega) hr
      have tm : decide (0 < m) = true := decide_eq_true (by omega)
      have hb5 := (Below.refl w4.heap.size w4).alloc (Nat.le_refl _) (.cells #[.slice a1 n1 c1', .slice a2 n2 c2] 98)
      have HC5 : Hid (Blk (w4.alloc (.cells #[.slice a1 n1 c1', .slice a2 n2 c2] 98)) w.heap.size 25 #[.int .i64 0, .slice none 0 0]) := (HC3.out.old hb4).old hb5
      have HD5 : Hid (Blk (w4.alloc (.cells #[.slice a1 n1 c1', .slice a2 n2 c2] 98)) (w.heap.size + 1) 31 #[.int .i64 0, .int .i64 0, .slice none 0 0]) := (HD3.out.old hb4).old hb5
      have hb05 := hb04.trans (hb5.mono hb04.size)
      clear HG HRS HRK HNL hr hb4 hb5 HC3 HD3 HROWS c0 c1 HST
      go_upto_region 10 with fail
      generalize w4.alloc (.cells #[.slice a1 n1 c1', .slice a2 n2 c2] 98) = w5 at *
      obtain ⟨k0, k1, k2, k3, k4, kf0, kf1, kf2, kf3, kf4⟩ := box26 HC5.out HD5.out
      go_wp2_with fail
      have hF := set26 (by omega) (Nat.le_refl _) (Nat.le_succ _) hb05 HC5.out HD5.out (.int .i64 0) (.slice none 0 0) (.int .i64 110) (.int .i64 m) (.slice none 0 0) rfl
      refine bodyPost_ret (res26 hF.1 hF.2.1 rfl rfl) rfl ?_
      exact rpa_err HGe.out hF.2.2.1 (IOwn.nil _ _)
     | ok r =>
      obtain ⟨fs, rest, ns⟩ := r
      rw [hr] at hp
      obtain ⟨fa, fc, la, lc, rfl, hfc, hFT, hns⟩ := hp
      simp only at hfc hFT hns ⊢
      have HSP : Hid (schemaP (1 + ((linesL s).length : Int)) (lnF 1 (linesL s)) [] = .ok (z, fs, num :: ns)) := schema_ok (r := (fs, rest, ns)) HRS.out HLZ.out (by rw [HNL.out]; exact hr)
      have hRO := HRK.out _ HSP.out
      have hnum := read_num HS6.out HRS.out hr
      simp only at hnum
      have HG2 : Hid (afterS (.ok (z, fs, num :: ns)) = G) := by show _ = _; rw [← HG.out, parseS, if_neg (by have := HS6.out; omega), HSP.out]
      obtain ⟨x, y, hxy⟩ : ∃ x y, ws = [x, y] := by
       have h2 : ws.length = 2 := Classical.byContradiction fun h => by rw [limL_not h] at *; cases HLZ.out
       match ws, h2 with
       | [x, y], _ => exact ⟨x, y, rfl⟩
      have hcy : cntL y.data.toList = some z := by
       have := HLZ.out
       rw [hxy, limL_two] at this
       split at this
       ·
        exact this
       ·
        cases this
      have hyok := hwok.2 y (by rw [hxy]; simp)
      obtain ⟨wb, woff, hwa, hwty, hy⟩ := HST.out 1 (by rw [hxy]; simp)
      have hy3 : wc.cell? ⟨wb, woff + 1, none⟩ = some (.string y) := by rw [hy]; simp [hxy]
      have hwbl : wb < wc.heap.size := by obtain ⟨_, _, hh⟩ := hwty; exact (Array.getElem?_eq_some_iff.1 hh).1
      have hwl : ws.length = 2 := by rw [hxy]; rfl
      subst hwa
      rw [hwl] at hwc ⊢
      have hb5 := (Below.refl w4.heap.size w4).alloc (Nat.le_refl _) (.cells #[.slice fa fs.length fc, .slice la ns.length lc] 98)
      have hC5 := (HC3.out.old hb4).old hb5
      have hD5 := (HD3.out.old hb4).old hb5
      have hX5 := Blk.new w4 98 #[.slice fa fs.length fc, .slice la ns.length lc]
      have hFT5 : FT (w4.alloc (.cells #[.slice fa fs.length fc, .slice la ns.length lc] 98)) wc.heap.size none fs fa fc := hFT.keep fun b _ _ hb => hb5.block b hb.lt
      have hns5 : IOwn (w4.alloc (.cells #[.slice fa fs.length fc, .slice la ns.length lc] 98)) wc.heap.size (.slice la ns.length lc) ns := own_after hns hb5
      have hy5 : (w4.alloc (.cells #[.slice fa fs.length fc, .slice la ns.length lc] 98)).cell? ⟨wb, woff + 1, none⟩ = some (.string y) := (hb5.cell (p := ⟨wb, _, none⟩) (Nat.lt_of_lt_of_le hwbl hz4)).trans ((hb4.cell (p := ⟨wb, _, none⟩) hwbl).trans hy3)
      have c05 : (w4.alloc (.cells #[.slice fa fs.length fc, .slice la ns.length lc] 98)).cell? ⟨b, off, none⟩ = some (.int .i64 num) := (hb5.cell (p := ⟨b, _, none⟩) (Nat.lt_of_lt_of_le hbl hz4)).trans ((hb4.cell (p := ⟨b, _, none⟩) hbl).trans c0)
      have hb05 := hb04.trans (hb5.mono hb04.size)
      have hz5 := alloc_size w4 (.cells #[.slice fa fs.length fc, .slice la ns.length lc] 98)
      clear HG HRS HRK HNL hr hb4 hb5 HC3 HD3 HROWS c0 c1 HST hwl hxy hy hwty HSP hFT hns hy3 HLZ HYO
      go_upto_region 12 with fail
      generalize w4.alloc (.cells #[.slice fa fs.length fc, .slice la ns.length lc] 98) = w5 at *
      obtain ⟨X, hX⟩ : ∃ X, w4.heap.size = X := ⟨_, rfl⟩
      rw [hX] at hX5 hz5 hz4 ⊢
      clear hX hb04
      obtain ⟨n3, hn3⟩ : ∃ n3, wc.heap.size = n3 := ⟨_, rfl⟩
      rw [hn3] at hFT5 hns5 hz4 hz3 hwbl hbl
      clear hn3 hb03
      have hsm : ∀ W, Calls Tryz.prog 47 #[.string y] W fun e w' => e = .returned (.int .i64 z) ∧ W = w' := fun W => by
       have := small_any y hyok.1 hyok.2 W
       rw [hcy] at this; exact this
      clear hcy
      have HFT5 : Hid (FT w5 n3 none fs fa fc) := hFT5
      have HNS5 : Hid (IOwn w5 n3 (.slice la ns.length lc) ns) := hns5
      have HC5 : Hid (Blk w5 w.heap.size 25 #[.int .i64 0, .slice none 0 0]) := hC5
      have HD5 : Hid (Blk w5 (w.heap.size + 1) 31 #[.int .i64 0, .int .i64 0, .slice none 0 0]) := hD5
      have HX5 : Hid (Blk w5 X 98 #[.slice fa fs.length fc, .slice la ns.length lc]) := hX5
      have HRO : Hid (ReadOk (z, fs, num :: ns)) := hRO
      have HZ5 : Hid (w5.heap.size = X + 1) := hz5
      clear hFT5 hns5 hC5 hD5 hX5 hRO hz5
      go_cut [10] from 67 to 73 (fun v wx => v = .pointer (some ⟨w5.heap.size, 0, none⟩) ∧ Hid (Blk wx w5.heap.size 25 #[.int .i64 z, .slice fa fs.length fc]) ∧ Hid (Below w5.heap.size w5 wx))
      case first =>
       have x0' : w5.cell? ⟨X, 0, none⟩ = some (.slice fa fs.length fc) := HX5.out.cell 0
       have hwb5 : wb < w5.heap.size := by have := HZ5.out; omega
       have hX5l : X < w5.heap.size := HX5.out.lt
       have hbA : Below w5.heap.size w5 (w5.drew.alloc (.cells #[.int .i64 0, .slice none 0 0] 25)) := (below_drew (Below.refl _ _)).trans ((Below.refl w5.heap.size w5.drew).alloc (Nat.le_refl _) _)
       have HB8 : Hid (Below w5.heap.size w5 (w5.alloc (.cells #[.int .i64 z, .slice fa fs.length fc] 25)).drew) := below_drew ((Below.refl w5.heap.size w5).alloc (Nat.le_refl _) _)
       have HK8 : Hid (Blk (w5.alloc (.cells #[.int .i64 z, .slice fa fs.length fc] 25)).drew w5.heap.size 25 #[.int .i64 z, .slice fa fs.length fc]) := Blk.new w5 25 _
       have q0 : (w5.drew.alloc (.cells #[.int .i64 0, .slice none 0 0] 25)).cell? ⟨w5.heap.size, 0, none⟩ = some (.int .i64 0) := (Blk.new w5.drew 25 #[.int .i64 0, .slice none 0 0]).cell 0
       have q1 : (w5.drew.alloc (.cells #[.int .i64 0, .slice none 0 0] 25)).cell? ⟨w5.heap.size, 1, none⟩ = some (.slice none 0 0) := (Blk.new w5.drew 25 #[.int .i64 0, .slice none 0 0]).cell 1
       have qf0 : (w5.drew.alloc (.cells #[.int .i64 0, .slice none 0 0] 25)).frozen? ⟨w5.heap.size, 0, none⟩ = false := Blk.free (Blk.new w5.drew 25 #[.int .i64 0, .slice none 0 0]) 0
       have qf1 : (w5.drew.alloc (.cells #[.int .i64 0, .slice none 0 0] 25)).frozen? ⟨w5.heap.size, 1, none⟩ = false := Blk.free (Blk.new w5.drew 25 #[.int .i64 0, .slice none 0 0]) 1
       clear HFT5 HNS5 HC5 HD5 HX5 HRO HG2 HZ5
       refine wp_region_held_drew (S := fun x => Below w5.heap.size w5 x) (by kernel_rfl) ((Below.refl _ _).drew) (fun hHeld => ?_)
       refine wpAnyH_takeD (i := 0) (some 67) (v := .slice (some ⟨wb, woff, none⟩) 2 wcp) rfl rfl (by kernel_rfl) (by kernel_rfl) (by kernel_rfl) (fun _ _ _ h => h) (Or.inl ⟨by kernel_rfl, ?hyu0⟩) (by assumption) ?restu0
       case hyu0 => (intro x hSx; (try dsimp only at hSx); go_simp; first | done | with_reducible rfl)
       try simp only [Act.put, sA, sB, sC]
       refine wpAnyH_takeD (i := 1) (some 68) (v := .pointer (some ⟨wb, woff + 1, none⟩)) rfl rfl (by kernel_rfl) (by kernel_rfl) (by kernel_rfl) (fun _ _ _ h => h) (Or.inl ⟨by kernel_rfl, ?hyu1⟩) (by assumption) ?restu1
       case hyu1 => (intro x hSx; (try dsimp only at hSx); go_simp; first | done | with_reducible rfl)
       try simp only [Act.put, sA, sB, sC]
       refine wpAnyH_takeD (i := 2) (some 69) (v := .string y) rfl rfl (by kernel_rfl) (by kernel_rfl) (by kernel_rfl) (fun _ _ _ h => h) (Or.inl ⟨by kernel_rfl, ?hyu2⟩) (by assumption) ?restu2
       case hyu2 => (intro x hSx; have hq := (hSx.cell (p := ⟨wb, woff + 1, none⟩) hwb5).trans hy5; (try dsimp only at hSx); go_simp; first | done | with_reducible rfl)
       try simp only [Act.put, sA, sB, sC]
       refine wpAnyH_takeD (i := 4) (some 71) (v := .pointer (some ⟨X, 0, none⟩)) rfl rfl (by kernel_rfl) (by kernel_rfl) (by kernel_rfl) (fun _ _ _ h => h) (Or.inl ⟨by kernel_rfl, ?hyu4⟩) (by assumption) ?restu4
       case hyu4 => (intro x hSx; (try dsimp only at hSx); go_simp; first | done | with_reducible rfl)
       try simp only [Act.put, sA, sB, sC]
       refine wpAnyH_takeD (i := 5) (some 72) (v := .slice fa fs.length fc) rfl rfl (by kernel_rfl) (by kernel_rfl) (by kernel_rfl) (fun _ _ _ h => h) (Or.inl ⟨by kernel_rfl, ?hyu5⟩) (by assumption) ?restu5
       case hyu5 => (intro x hSx; have hq := (hSx.cell (p := ⟨X, 0, none⟩) hX5l).trans x0'; (try dsimp only at hSx); go_simp; first | done | with_reducible rfl)
       try simp only [Act.put, sA, sB, sC]
       refine wpAnyH_ready (rs := [3, 7]) (by kernel_rfl) (by simp) ?_
       refine (AllReadyH.cons rfl (fun K2 hK2 => ?_) (AllReadyH.cons rfl (fun K2 hK2 => ?_) AllReadyH.nil))
       ·
        go_simp
        go_wp2_with (go_at_call 47; refine (hsm _).mono ?_; rintro _ _ ⟨rfl, rfl⟩)
        refine hK2.out _ _ (by assumption) (fun _ => ?_)
        clear hK2 K2
        try simp only [Act.put, sA, sB, sC]
        refine wpAnyH_takeD (i := 6) (some 73) (v := .agg #[.int .i64 z, .slice fa fs.length fc]) rfl rfl (by kernel_rfl) (by kernel_rfl) (by kernel_rfl) (fun _ _ _ h => h) (Or.inl ⟨by kernel_rfl, ?hya6⟩) (by assumption) ?resta6
        case hya6 => (intro x hSx; (try dsimp only at hSx); go_simp; first | done | with_reducible rfl)
        try simp only [Act.put, sA, sB, sC]
        refine wpAnyH_ready (rs := [7]) (by kernel_rfl) (by simp) ?_
        refine (AllReadyH.cons rfl (fun K2 hK2 => ?_) AllReadyH.nil)
        go_simp
        refine hK2.out _ _ hbA (fun _ => ?_)
        clear hK2 K2
        try simp only [Act.put, sA, sB, sC]
        refine wpAnyH_ready (rs := [8]) (by kernel_rfl) (by simp) ?_
        refine (AllReadyH.cons rfl (fun K2 hK2 => ?_) AllReadyH.nil)
        go_simp
        refine hK2.out _ _ (HB8.out) (fun _ => ?_)
        clear hK2 K2
        try simp only [Act.put, sA, sB, sC]
        refine wpAnyH_done (by kernel_rfl) ?_ _
        go_wp2_with fail
        go_meet
        exact ⟨rfl, HK8, HB8.out⟩
       ·
        go_simp
        refine hK2.out _ _ hbA (fun _ => ?_)
        clear hK2 K2
        try simp only [Act.put, sA, sB, sC]
        refine wpAnyH_ready (rs := [3]) (by kernel_rfl) (by simp) ?_
        refine (AllReadyH.cons rfl (fun K2 hK2 => ?_) AllReadyH.nil)
        go_simp
        go_wp2_with (go_at_call 47; refine (hsm _).mono ?_; rintro _ _ ⟨rfl, rfl⟩)
        refine hK2.out _ _ (by assumption) (fun _ => ?_)
        clear hK2 K2
        try simp only [Act.put, sA, sB, sC]
        refine wpAnyH_takeD (i := 6) (some 73) (v := .agg #[.int .i64 z, .slice fa fs.length fc]) rfl rfl (by kernel_rfl) (by kernel_rfl) (by kernel_rfl) (fun _ _ _ h => h) (Or.inl ⟨by kernel_rfl, ?hyb6⟩) (by assumption) ?restb6
        case hyb6 => (intro x hSx; (try dsimp only at hSx); go_simp; first | done | with_reducible rfl)
        try simp only [Act.put, sA, sB, sC]
        refine wpAnyH_ready (rs := [8]) (by kernel_rfl) (by simp) ?_
        refine (AllReadyH.cons rfl (fun K2 hK2 => ?_) AllReadyH.nil)
        go_simp
        refine hK2.out _ _ (HB8.out) (fun _ => ?_)
        clear hK2 K2
        try simp only [Act.put, sA, sB, sC]
        refine wpAnyH_done (by kernel_rfl) ?_ _
        go_wp2_with fail
        go_meet
        exact ⟨rfl, HK8, HB8.out⟩
      case rest =>
       obtain ⟨rfl, HSx, HBx⟩ := hcut
       have hb6 := HBx.out
       have HC6 : Hid (Blk wc w.heap.size 25 #[.int .i64 0, .slice none 0 0]) := HC5.out.old hb6
       have HD6 : Hid (Blk wc (w.heap.size + 1) 31 #[.int .i64 0, .int .i64 0, .slice none 0 0]) := HD5.out.old hb6
       have HX6 : Hid (Blk wc X 98 #[.slice fa fs.length fc, .slice la ns.length lc]) := HX5.out.old hb6
       have HFT6 : Hid (FT wc n3 none fs fa fc) := HFT5.out.keep fun b _ _ hb => hb6.block b hb.lt
       have HNS6 : Hid (IOwn wc n3 (.slice la ns.length lc) ns) := own_after HNS5.out hb6
       have hb06 : Below w.heap.size w wc := hb05.trans (hb6.mono hb05.size)
       have c06 : wc.cell? ⟨b, off, none⟩ = some (.int .i64 num) := (hb6.cell (p := ⟨b, _, none⟩) (Nat.lt_of_lt_of_le hbl (by have := HZ5.out; omega))).trans c05
       have hSz : X < w5.heap.size := by have := HZ5.out; omega
       obtain ⟨S, hS⟩ : ∃ S, w5.heap.size = S := ⟨_, rfl⟩
       have HS6b : Hid (Blk wc S 25 #[.int .i64 z, .slice fa fs.length fc]) := by rw [← hS]; exact HSx.out
       rw [hS] at hSz ⊢
       clear HSx HBx hb6 c05 hy5 HZ5 hS HC5 HD5 HX5 HFT5 HNS5 hb05
       have hck := rscheck_any z fs fa fc n3 wc.heap.size wc HRO.out.fit HRO.out.len (Nat.le_refl _) HFT6.out.fin
       have hpr : ∀ W, Below wc.heap.size wc W → Calls Tryz.prog 24 #[.agg #[.int .i64 z, .slice fa fs.length fc]] W (RPrnPost (prnA z fs) W) := fun W hW => rprint_s z fs HRO.out.len HRO.out.fit fa fc n3 wc.heap.size W hW.size (HFT6.out.fin.keep hW (Nat.le_refl _))
       obtain ⟨q, P, hqP⟩ : ∃ q P, chkS bndQ z fs = (q, P) := ⟨_, _, rfl⟩
       rw [hqP] at hck
       have HQP : Hid (chkS bndQ z fs = (q, P)) := hqP
       have hPl : P.length ≤ 17 := by have := chkS_len bndQ z fs; rw [hqP] at this; exact this
       clear hqP
       have s0 : wc.cell? ⟨S, 0, none⟩ = some (.int .i64 z) := HS6b.out.cell 0
       have s1 : wc.cell? ⟨S, 1, none⟩ = some (.slice fa fs.length fc) := HS6b.out.cell 1
       go_wp2_with fail
       refine hck.mono ?_
       clear hck s0 s1
       rintro _ w7 ⟨hb7, pa, pc, rfl, hown7⟩
       simp only at hown7 ⊢
       have HC7 : Hid (Blk w7 w.heap.size 25 #[.int .i64 0, .slice none 0 0]) := HC6.out.old hb7
       have HD7 : Hid (Blk w7 (w.heap.size + 1) 31 #[.int .i64 0, .int .i64 0, .slice none 0 0]) := HD6.out.old hb7
       have HX7 : Hid (Blk w7 X 98 #[.slice fa fs.length fc, .slice la ns.length lc]) := HX6.out.old hb7
       have HFT7 : Hid (FT w7 n3 none fs fa fc) := HFT6.out.keep fun b _ _ hb => hb7.block b hb.lt
       have HNS7 : Hid (IOwn w7 n3 (.slice la ns.length lc) ns) := own_after HNS6.out hb7
       have hb07 : Below w.heap.size w w7 := hb06.trans (hb7.mono hb06.size)
       have HS7 : Hid (Blk w7 S 25 #[.int .i64 z, .slice fa fs.length fc]) := HS6b.out.old hb7
       have hb8 := (Below.refl w7.heap.size w7).alloc (Nat.le_refl _) (.cells #[.int .i64 q, .int .i64 0, .slice pa P.length pc] 31)
       have HC8 : Hid (Blk (w7.alloc (.cells #[.int .i64 q, .int .i64 0, .slice pa P.length pc] 31)) w.heap.size 25 #[.int .i64 0, .slice none 0 0]) := HC7.out.old hb8
       have HD8 : Hid (Blk (w7.alloc (.cells #[.int .i64 q, .int .i64 0, .slice pa P.length pc] 31)) (w.heap.size + 1) 31 #[.int .i64 0, .int .i64 0, .slice none 0 0]) := HD7.out.old hb8
       have HX8 : Hid (Blk (w7.alloc (.cells #[.int .i64 q, .int .i64 0, .slice pa P.length pc] 31)) X 98 #[.slice fa fs.length fc, .slice la ns.length lc]) := HX7.out.old hb8
       have HFT8 : Hid (FT (w7.alloc (.cells #[.int .i64 q, .int .i64 0, .slice pa P.length pc] 31)) n3 none fs fa fc) := HFT7.out.keep fun b _ _ hb => hb8.block b hb.lt
       have HNS8 : Hid (IOwn (w7.alloc (.cells #[.int .i64 q, .int .i64 0, .slice pa P.length pc] 31)) n3 (.slice la ns.length lc) ns) := own_after HNS7.out hb8
       have hb08 : Below w.heap.size w (w7.alloc (.cells #[.int .i64 q, .int .i64 0, .slice pa P.length pc] 31)) := hb07.trans (hb8.mono hb07.size)
       have HS8 : Hid (Blk (w7.alloc (.cells #[.int .i64 q, .int .i64 0, .slice pa P.length pc] 31)) S 25 #[.int .i64 z, .slice fa fs.length fc]) := HS7.out.old hb8
       have HW8 : Hid (Blk (w7.alloc (.cells #[.int .i64 q, .int .i64 0, .slice pa P.length pc] 31)) w7.heap.size 31 #[.int .i64 q, .int .i64 0, .slice pa P.length pc]) := Blk.new w7 31 _
       have HP8 : Hid (IOwn (w7.alloc (.cells #[.int .i64 q, .int .i64 0, .slice pa P.length pc] 31)) wc.heap.size (.slice pa P.length pc) P) := own_after hown7 hb8
       have hbw : b < w7.heap.size ∧ S < w7.heap.size := ⟨Nat.lt_of_lt_of_le hbl (by have := HS7.out.lt; omega), HS7.out.lt⟩
       have c08 : (w7.alloc (.cells #[.int .i64 q, .int .i64 0, .slice pa P.length pc] 31)).cell? ⟨b, off, none⟩ = some (.int .i64 num) := (hb8.cell (p := ⟨b, _, none⟩) hbw.1).trans ((hb7.cell (p := ⟨b, _, none⟩) (show b < wc.heap.size from by have := HS6b.out.lt; omega)).trans c06)
       have hpr8 := hpr (w7.alloc (.cells #[.int .i64 q, .int .i64 0, .slice pa P.length pc] 31)) (hb7.trans (hb8.mono hb7.size))
       have HPW2 : Hid (w.heap.size ≤ wc.heap.size ∧ n3 ≤ wc.heap.size ∧ S < wc.heap.size) := ⟨by have := hb06.size; omega, by have := HS6b.out.lt; omega, HS6b.out.lt⟩
       clear hpr hb7 hb8 hown7 HC6 HD6 HX6 HFT6 HNS6 HC7 HD7 HX7 HFT7 HNS7 HS6b HS7 hb06 hb07 c06
       go_upto_region 14 with fail
       generalize w7.alloc (.cells #[.int .i64 q, .int .i64 0, .slice pa P.length pc] 31) = w8 at *
       obtain ⟨WB, hWB⟩ : ∃ WB, w7.heap.size = WB := ⟨_, rfl⟩
       rw [hWB] at HW8 hbw ⊢
       clear hWB
       obtain ⟨hbw1, hbw2⟩ := hbw
       have hZ8 : WB < w8.heap.size := HW8.out.lt
       have hDn3 : w.heap.size + 1 < n3 := by omega
       have e0 : w8.cell? ⟨WB, 0, none⟩ = some (.int .i64 q) := HW8.out.cell 0
       by_cases hq0 : q = 0
       ·
        have tq : (q == 0) = true := beq_iff_eq.2 hq0
        have tq2 : decide (q = 0) = true := decide_eq_true hq0
        have hA : prnA z fs = if 65536 < (prnS z fs).length then ([], 2, []) else (prnS z fs, 0, []) := by unfold prnA; rw [HQP.out, if_pos hq0]
        have HGa : Hid (G = if 65536 < (prnS z fs).length then .error (2, 0, []) else .ok (z, fs)) := by show _ = _; rw [← HG2.out]; unfold afterS; simp only; rw [HQP.out, if_pos hq0]
        have s0 : w8.cell? ⟨S, 0, none⟩ = some (.int .i64 z) := HS8.out.cell 0
        have s1 : w8.cell? ⟨S, 1, none⟩ = some (.slice fa fs.length fc) := HS8.out.cell 1
        have HQ0 : Hid (q = 0) := hq0
        clear hq0
        go_upto_region 15 with fail
        clear tq tq2
        go_wp2_with fail
        refine hpr8.mono ?_
        clear hpr8 s0 s1 e0
        rintro _ w9 ⟨hb9, ra, rc, rfl, hown9⟩
        have HC9 : Hid (Blk w9 w.heap.size 25 #[.int .i64 0, .slice none 0 0]) := HC8.out.old hb9
        have HD9 : Hid (Blk w9 (w.heap.size + 1) 31 #[.int .i64 0, .int .i64 0, .slice none 0 0]) := HD8.out.old hb9
        have HX9 : Hid (Blk w9 X 98 #[.slice fa fs.length fc, .slice la ns.length lc]) := HX8.out.old hb9
        have HFT9 : Hid (FT w9 n3 none fs fa fc) := HFT8.out.keep fun b _ _ hb => hb9.block b hb.lt
        have HNS9 : Hid (IOwn w9 n3 (.slice la ns.length lc) ns) := own_after HNS8.out hb9
        have hb09 : Below w.heap.size w w9 := hb08.trans (hb9.mono hb08.size)
        have HS9 : Hid (Blk w9 S 25 #[.int .i64 z, .slice fa fs.length fc]) := HS8.out.old hb9
        have HW9 : Hid (Blk w9 WB 31 #[.int .i64 q, .int .i64 0, .slice pa P.length pc]) := HW8.out.old hb9
        clear hb9 HC8 HD8 HX8 HFT8 HNS8 HS8 HW8 HP8 hb08 c08
        by_cases hlen : 65536 < (prnS z fs).length
        ·
         rw [if_pos hlen] at hA
         have HGe : Hid (G = .error (2, 0, [])) := by show _ = _; rw [HGa.out, if_pos hlen]
         rw [hA] at hown9 ⊢
         simp only [List.length_nil] at hown9 ⊢
         have e0 : w9.cell? ⟨WB, 0, none⟩ = some (.int .i64 q) := HW9.out.cell 0
         have e1 : w9.cell? ⟨WB, 1, none⟩ = some (.int .i64 0) := HW9.out.cell 1
         have e2 : w9.cell? ⟨WB, 2, none⟩ = some (.slice pa P.length pc) := HW9.out.cell 2
         have ef0 : w9.frozen? ⟨WB, 0, none⟩ = false := Blk.free HW9.out 0
         have ef1 : w9.frozen? ⟨WB, 1, none⟩ = false := Blk.free HW9.out 1
         have ef2 : w9.frozen? ⟨WB, 2, none⟩ = false := Blk.free HW9.out 2
         clear hA hlen HGa
         go_upto_region 16 with fail
         have hOw : Oth WB w9 (((w9.setCell ⟨WB, 0, none⟩ (.int .i64 2)).setCell ⟨WB, 1, none⟩ (.int .i64 0)).setCell ⟨WB, 2, none⟩ (.slice ra 0 rc)) := ((Oth.set WB 0 w9 _).trans (Oth.set WB 1 _ _)).trans (Oth.set WB 2 _ _)
         have HC10 : Hid (Blk (((w9.setCell ⟨WB, 0, none⟩ (.int .i64 2)).setCell ⟨WB, 1, none⟩ (.int .i64 0)).setCell ⟨WB, 2, none⟩ (.slice ra 0 rc)) w.heap.size 25 #[.int .i64 0, .slice none 0 0]) := (hOw.block _ HC9.out.lt (by omega)).trans HC9.out
         have HD10 : Hid (Blk (((w9.setCell ⟨WB, 0, none⟩ (.int .i64 2)).setCell ⟨WB, 1, none⟩ (.int .i64 0)).setCell ⟨WB, 2, none⟩ (.slice ra 0 rc)) (w.heap.size + 1) 31 #[.int .i64 0, .int .i64 0, .slice none 0 0]) := (hOw.block _ HD9.out.lt (by omega)).trans HD9.out
         have HX10 : Hid (Blk (((w9.setCell ⟨WB, 0, none⟩ (.int .i64 2)).setCell ⟨WB, 1, none⟩ (.int .i64 0)).setCell ⟨WB, 2, none⟩ (.slice ra 0 rc)) X 98 #[.slice fa fs.length fc, .slice la ns.length lc]) := (hOw.block _ HX9.out.lt (by omega)).trans HX9.out
         have HS10 : Hid (Blk (((w9.setCell ⟨WB, 0, none⟩ (.int .i64 2)).setCell ⟨WB, 1, none⟩ (.int .i64 0)).setCell ⟨WB, 2, none⟩ (.slice ra 0 rc)) S 25 #[.int .i64 z, .slice fa fs.length fc]) := (hOw.block _ HS9.out.lt (by omega)).trans HS9.out
         have HFT10 : Hid (FT (((w9.setCell ⟨WB, 0, none⟩ (.int .i64 2)).setCell ⟨WB, 1, none⟩ (.int .i64 0)).setCell ⟨WB, 2, none⟩ (.slice ra 0 rc)) n3 none fs fa fc) := HFT9.out.keep fun b _ _ hb => hOw.block b hb.lt (by rintro rfl; exact not48 HW9.out (by decide) hb)
         have HNS10 : Hid (IOwn (((w9.setCell ⟨WB, 0, none⟩ (.int .i64 2)).setCell ⟨WB, 1, none⟩ (.int .i64 0)).setCell ⟨WB, 2, none⟩ (.slice ra 0 rc)) n3 (.slice la ns.length lc) ns) := HNS9.out.oth hOw (own_ty HNS9.out ⟨_, _, HW9.out⟩ (by decide))
         have hb010 : Below w.heap.size w (((w9.setCell ⟨WB, 0, none⟩ (.int .i64 2)).setCell ⟨WB, 1, none⟩ (.int .i64 0)).setCell ⟨WB, 2, none⟩ (.slice ra 0 rc)) := ⟨hOw.os.trans hb09.os, hOw.tape.trans hb09.tape, hOw.output.trans hb09.output, Nat.le_trans hb09.size hOw.size, fun k hk => (hOw.block k (Nat.lt_of_lt_of_le hk hb09.size) (by omega)).trans (hb09.block k hk)⟩
         have HW10 : Hid (Blk (((w9.setCell ⟨WB, 0, none⟩ (.int .i64 2)).setCell ⟨WB, 1, none⟩ (.int .i64 0)).setCell ⟨WB, 2, none⟩ (.slice ra 0 rc)) WB 31 #[.int .i64 2, .int .i64 0, .slice ra 0 rc]) := HW9.out.set3 _ _ _
         have HO10 : Hid (IOwn (((w9.setCell ⟨WB, 0, none⟩ (.int .i64 2)).setCell ⟨WB, 1, none⟩ (.int .i64 0)).setCell ⟨WB, 2, none⟩ (.slice ra 0 rc)) w8.heap.size (.slice ra 0 rc) []) := IOwn.oth (zs := []) hown9 hOw (own_ty hown9 ⟨_, _, HW9.out⟩ (by decide))
         generalize (((w9.setCell ⟨WB, 0, none⟩ (.int .i64 2)).setCell ⟨WB, 1, none⟩ (.int .i64 0)).setCell ⟨WB, 2, none⟩ (.slice ra 0 rc)) = w10 at *
         clear hOw HC9 HD9 HX9 HFT9 HNS9 HS9 HW9 hb09 e0 e1 e2 ef0 ef1 ef2 hown9
         have e0 : w10.cell? ⟨WB, 0, none⟩ = some (.int .i64 2) := HW10.out.cell 0
         have e1 : w10.cell? ⟨WB, 1, none⟩ = some (.int .i64 0) := HW10.out.cell 1
         have e2 : w10.cell? ⟨WB, 2, none⟩ = some (.slice ra 0 rc) := HW10.out.cell 2
         have s0 : w10.cell? ⟨S, 0, none⟩ = some (.int .i64 z) := HS10.out.cell 0
         have s1 : w10.cell? ⟨S, 1, none⟩ = some (.slice fa fs.length fc) := HS10.out.cell 1
         obtain ⟨k0, k1, k2, k3, k4, kf0, kf1, kf2, kf3, kf4⟩ := box26 HC10.out HD10.out
         have n1 : w.heap.size ≠ WB := by omega
         have n2 : w.heap.size + 1 ≠ WB := by omega
         have n3' : w.heap.size ≠ S := by omega
         have n4 : w.heap.size + 1 ≠ S := by omega
         have n5 : S ≠ WB := by omega
         have hCD : w.heap.size ≠ w.heap.size + 1 := by omega
         have hDge : w.heap.size ≤ w.heap.size + 1 := by omega
         generalize w.heap.size + 1 = D at *
         have HFX : Hid (∀ wF : World, (∀ k, k ≠ w.heap.size → k ≠ D → wF.heap[k]? = w10.heap[k]?) → wF.heap.size = w10.heap.size → IOwn wF.drew w.heap.size (.slice ra 0 rc) []) := fun wF h1 h2 => by
          obtain ⟨g1, g2⟩ := HO10.out
          refine ⟨g1, ?_⟩
          rcases g2 with g2 | ⟨g, cap, cur, e, e2, e3, e4⟩
          ·
           exact .inl g2
          ·
           exact .inr ⟨g, cap, cur, e, by omega, (h1 g (by omega) (by omega)).trans e3, e4⟩
         go_upto_region 17 with fail
         go_region
         go_wp2_with fail
         have hF := set26 hCD (Nat.le_refl _) hDge hb010 HC10.out HD10.out (.int .i64 0) (.slice none 0 0) (.int .i64 2) (.int .i64 0) (.slice ra 0 rc) rfl
         refine bodyPost_ret (res26 (drew_blk hF.1) (drew_blk hF.2.1) rfl rfl) rfl ?_
         exact rpa_err (p := []) HGe.out (below_drew hF.2.2.1) (HFX.out _ hF.2.2.2.1 hF.2.2.2.2)
        ·
         rw [if_neg hlen] at hA
         have HGe : Hid (G = .ok (z, fs)) := by show _ = _; rw [HGa.out, if_neg hlen]
         rw [hA] at hown9 ⊢
         simp only [List.length_nil] at hown9 ⊢
         have e0 : w9.cell? ⟨WB, 0, none⟩ = some (.int .i64 q) := HW9.out.cell 0
         have e1 : w9.cell? ⟨WB, 1, none⟩ = some (.int .i64 0) := HW9.out.cell 1
         have e2 : w9.cell? ⟨WB, 2, none⟩ = some (.slice pa P.length pc) := HW9.out.cell 2
         have ef0 : w9.frozen? ⟨WB, 0, none⟩ = false := Blk.free HW9.out 0
         have ef1 : w9.frozen? ⟨WB, 1, none⟩ = false := Blk.free HW9.out 1
         have ef2 : w9.frozen? ⟨WB, 2, none⟩ = false := Blk.free HW9.out 2
         clear hA hlen HGa
         go_upto_region 16 with fail
         have hOw : Oth WB w9 (((w9.setCell ⟨WB, 0, none⟩ (.int .i64 0)).setCell ⟨WB, 1, none⟩ (.int .i64 0)).setCell ⟨WB, 2, none⟩ (.slice ra 0 rc)) := ((Oth.set WB 0 w9 _).trans (Oth.set WB 1 _ _)).trans (Oth.set WB 2 _ _)
         have HC10 : Hid (Blk (((w9.setCell ⟨WB, 0, none⟩ (.int .i64 0)).setCell ⟨WB, 1, none⟩ (.int .i64 0)).setCell ⟨WB, 2, none⟩ (.slice ra 0 rc)) w.heap.size 25 #[.int .i64 0, .slice none 0 0]) := (hOw.block _ HC9.out.lt (by omega)).trans HC9.out
         have HD10 : Hid (Blk (((w9.setCell ⟨WB, 0, none⟩ (.int .i64 0)).setCell ⟨WB, 1, none⟩ (.int .i64 0)).setCell ⟨WB, 2, none⟩ (.slice ra 0 rc)) (w.heap.size + 1) 31 #[.int .i64 0, .int .i64 0, .slice none 0 0]) := (hOw.block _ HD9.out.lt (by omega)).trans HD9.out
         have HX10 : Hid (Blk (((w9.setCell ⟨WB, 0, none⟩ (.int .i64 0)).setCell ⟨WB, 1, none⟩ (.int .i64 0)).setCell ⟨WB, 2, none⟩ (.slice ra 0 rc)) X 98 #[.slice fa fs.length fc, .slice la ns.length lc]) := (hOw.block _ HX9.out.lt (by omega)).trans HX9.out
         have HS10 : Hid (Blk (((w9.setCell ⟨WB, 0, none⟩ (.int .i64 0)).setCell ⟨WB, 1, none⟩ (.int .i64 0)).setCell ⟨WB, 2, none⟩ (.slice ra 0 rc)) S 25 #[.int .i64 z, .slice fa fs.length fc]) := (hOw.block _ HS9.out.lt (by omega)).trans HS9.out
         have HFT10 : Hid (FT (((w9.setCell ⟨WB, 0, none⟩ (.int .i64 0)).setCell ⟨WB, 1, none⟩ (.int .i64 0)).setCell ⟨WB, 2, none⟩ (.slice ra 0 rc)) n3 none fs fa fc) := HFT9.out.keep fun b _ _ hb => hOw.block b hb.lt (by rintro rfl; exact not48 HW9.out (by decide) hb)
         have HNS10 : Hid (IOwn (((w9.setCell ⟨WB, 0, none⟩ (.int .i64 0)).setCell ⟨WB, 1, none⟩ (.int .i64 0)).setCell ⟨WB, 2, none⟩ (.slice ra 0 rc)) n3 (.slice la ns.length lc) ns) := HNS9.out.oth hOw (own_ty HNS9.out ⟨_, _, HW9.out⟩ (by decide))
         have hb010 : Below w.heap.size w (((w9.setCell ⟨WB, 0, none⟩ (.int .i64 0)).setCell ⟨WB, 1, none⟩ (.int .i64 0)).setCell ⟨WB, 2, none⟩ (.slice ra 0 rc)) := ⟨hOw.os.trans hb09.os, hOw.tape.trans hb09.tape, hOw.output.trans hb09.output, Nat.le_trans hb09.size hOw.size, fun k hk => (hOw.block k (Nat.lt_of_lt_of_le hk hb09.size) (by omega)).trans (hb09.block k hk)⟩
         have HW10 : Hid (Blk (((w9.setCell ⟨WB, 0, none⟩ (.int .i64 0)).setCell ⟨WB, 1, none⟩ (.int .i64 0)).setCell ⟨WB, 2, none⟩ (.slice ra 0 rc)) WB 31 #[.int .i64 0, .int .i64 0, .slice ra 0 rc]) := HW9.out.set3 _ _ _
         have HO10 : Hid (IOwn (((w9.setCell ⟨WB, 0, none⟩ (.int .i64 0)).setCell ⟨WB, 1, none⟩ (.int .i64 0)).setCell ⟨WB, 2, none⟩ (.slice ra 0 rc)) w8.heap.size (.slice ra 0 rc) []) := IOwn.oth (zs := []) hown9 hOw (own_ty hown9 ⟨_, _, HW9.out⟩ (by decide))
         generalize (((w9.setCell ⟨WB, 0, none⟩ (.int .i64 0)).setCell ⟨WB, 1, none⟩ (.int .i64 0)).setCell ⟨WB, 2, none⟩ (.slice ra 0 rc)) = w10 at *
         clear hOw HC9 HD9 HX9 HFT9 HNS9 HS9 HW9 hb09 e0 e1 e2 ef0 ef1 ef2 hown9
         have e0 : w10.cell? ⟨WB, 0, none⟩ = some (.int .i64 0) := HW10.out.cell 0
         have e1 : w10.cell? ⟨WB, 1, none⟩ = some (.int .i64 0) := HW10.out.cell 1
         have e2 : w10.cell? ⟨WB, 2, none⟩ = some (.slice ra 0 rc) := HW10.out.cell 2
         have s0 : w10.cell? ⟨S, 0, none⟩ = some (.int .i64 z) := HS10.out.cell 0
         have s1 : w10.cell? ⟨S, 1, none⟩ = some (.slice fa fs.length fc) := HS10.out.cell 1
         obtain ⟨k0, k1, k2, k3, k4, kf0, kf1, kf2, kf3, kf4⟩ := box26 HC10.out HD10.out
         have n1 : w.heap.size ≠ WB := by omega
         have n2 : w.heap.size + 1 ≠ WB := by omega
         have n3' : w.heap.size ≠ S := by omega
         have n4 : w.heap.size + 1 ≠ S := by omega
         have n5 : S ≠ WB := by omega
         have hCD : w.heap.size ≠ w.heap.size + 1 := by omega
         have hDge : w.heap.size ≤ w.heap.size + 1 := by omega
         generalize w.heap.size + 1 = D at *
         have HFX : Hid (∀ wF : World, (∀ k, k ≠ w.heap.size → k ≠ D → wF.heap[k]? = w10.heap[k]?) → wF.heap.size = w10.heap.size → IOwn wF.drew w.heap.size (.slice ra 0 rc) []) := fun wF h1 h2 => by
          obtain ⟨g1, g2⟩ := HO10.out
          refine ⟨g1, ?_⟩
          rcases g2 with g2 | ⟨g, cap, cur, e, e2, e3, e4⟩
          ·
           exact .inl g2
          ·
           exact .inr ⟨g, cap, cur, e, by omega, (h1 g (by omega) (by omega)).trans e3, e4⟩
         have HFY : Hid (∀ wF : World, (∀ k, k ≠ w.heap.size → k ≠ D → wF.heap[k]? = w10.heap[k]?) → wF.heap.size = w10.heap.size → FT wF.drew w.heap.size none fs fa fc) := fun wF h1 h2 => HFT10.out.kept (by omega) fun b hb _ ht => ⟨h1 b (by omega) (by omega), by simp⟩
         go_upto_region 18 with fail
         go_region
         go_wp2_with fail
         have hF := set26 hCD (Nat.le_refl _) hDge hb010 HC10.out HD10.out (.int .i64 z) (.slice fa fs.length fc) (.int .i64 0) (.int .i64 0) (.slice ra 0 rc) rfl
         refine bodyPost_ret (res26 (drew_blk hF.1) (drew_blk hF.2.1) rfl rfl) rfl ?_
         exact rpa_ok HGe.out (below_drew hF.2.2.1) hfc ((HFY.out _ hF.2.2.2.1 hF.2.2.2.2)) (HFX.out _ hF.2.2.2.1 hF.2.2.2.2)
       ·
        have tq : (q == 0) = false := beq_eq_false_iff_ne.2 hq0
        have tq2 : decide (q = 0) = false := decide_eq_false hq0
        have HGa : Hid (G = .error (q, (num :: ns)[(chkN bndQ z fs).toNat]?.getD 0, P)) := by show _ = _; rw [← HG2.out]; unfold afterS; simp only; rw [HQP.out, if_neg hq0]
        have hcl := chk_line HRO.out (by rw [HQP.out]; exact hq0)
        rw [HQP.out] at hcl
        simp only at hcl
        have e1 : w8.cell? ⟨WB, 1, none⟩ = some (.int .i64 0) := HW8.out.cell 1
        have e2 : w8.cell? ⟨WB, 2, none⟩ = some (.slice pa P.length pc) := HW8.out.cell 2
        have ef1 : w8.frozen? ⟨WB, 1, none⟩ = false := Blk.free HW8.out 1
        have hbW : b ≠ WB := by omega
        clear hq0 hpr8 HG2
        go_upto_region 20 with fail
        have hOw : Oth WB w8 (w8.setCell ⟨WB, 1, none⟩ (.int .i64 num)) := Oth.set WB 1 w8 _
        have HC9 : Hid (Blk (w8.setCell ⟨WB, 1, none⟩ (.int .i64 num)) w.heap.size 25 #[.int .i64 0, .slice none 0 0]) := (hOw.block _ HC8.out.lt (by omega)).trans HC8.out
        have HD9 : Hid (Blk (w8.setCell ⟨WB, 1, none⟩ (.int .i64 num)) (w.heap.size + 1) 31 #[.int .i64 0, .int .i64 0, .slice none 0 0]) := (hOw.block _ HD8.out.lt (by omega)).trans HD8.out
        have HX9 : Hid (Blk (w8.setCell ⟨WB, 1, none⟩ (.int .i64 num)) X 98 #[.slice fa fs.length fc, .slice la ns.length lc]) := (hOw.block _ HX8.out.lt (by omega)).trans HX8.out
        have HS9 : Hid (Blk (w8.setCell ⟨WB, 1, none⟩ (.int .i64 num)) S 25 #[.int .i64 z, .slice fa fs.length fc]) := (hOw.block _ HS8.out.lt (by omega)).trans HS8.out
        have HFT9 : Hid (FT (w8.setCell ⟨WB, 1, none⟩ (.int .i64 num)) n3 none fs fa fc) := HFT8.out.keep fun b _ _ hb => hOw.block b hb.lt (by rintro rfl; exact not48 HW8.out (by decide) hb)
        have HNS9 : Hid (IOwn (w8.setCell ⟨WB, 1, none⟩ (.int .i64 num)) n3 (.slice la ns.length lc) ns) := HNS8.out.oth hOw (own_ty HNS8.out ⟨_, _, HW8.out⟩ (by decide))
        have hb09 : Below w.heap.size w (w8.setCell ⟨WB, 1, none⟩ (.int .i64 num)) := ⟨hOw.os.trans hb08.os, hOw.tape.trans hb08.tape, hOw.output.trans hb08.output, Nat.le_trans hb08.size hOw.size, fun k hk => (hOw.block k (Nat.lt_of_lt_of_le hk hb08.size) (by omega)).trans (hb08.block k hk)⟩
        have HW9 : Hid (Blk (w8.setCell ⟨WB, 1, none⟩ (.int .i64 num)) WB 31 #[.int .i64 q, .int .i64 num, .slice pa P.length pc]) := HW8.out.set 1 (.int .i64 num)
        have HP9 : Hid (IOwn (w8.setCell ⟨WB, 1, none⟩ (.int .i64 num)) wc.heap.size (.slice pa P.length pc) P) := HP8.out.oth hOw (own_ty HP8.out ⟨_, _, HW8.out⟩ (by decide))
        generalize w8.setCell ⟨WB, 1, none⟩ (.int .i64 num) = w9 at *
        clear hOw HC8 HD8 HX8 HFT8 HNS8 HS8 HW8 HP8 hb08 c08 e0 e1 e2 ef1
        have e0 : w9.cell? ⟨WB, 0, none⟩ = some (.int .i64 q) := HW9.out.cell 0
        have e1 : w9.cell? ⟨WB, 1, none⟩ = some (.int .i64 num) := HW9.out.cell 1
        have e2 : w9.cell? ⟨WB, 2, none⟩ = some (.slice pa P.length pc) := HW9.out.cell 2
        rcases hcl with ⟨hP0, hnm⟩ | ⟨hP0, hV, hpl, hnm⟩
        ·
         subst hP0
         have HGe : Hid (G = .error (q, num, [])) := by show _ = _; rw [HGa.out, hnm]
         clear HGa hnm
         simp only [List.length_nil] at e2
         obtain ⟨k0, k1, k2, k3, k4, kf0, kf1, kf2, kf3, kf4⟩ := box26 HC9.out HD9.out
         have n1 : w.heap.size ≠ WB := by omega
         have n2 : w.heap.size + 1 ≠ WB := by omega
         have hCD : w.heap.size ≠ w.heap.size + 1 := by omega
         have hDge : w.heap.size ≤ w.heap.size + 1 := by omega
         have HFX : Hid (∀ wF : World, (∀ k, k ≠ w.heap.size → k ≠ w.heap.size + 1 → wF.heap[k]? = w9.heap[k]?) → wF.heap.size = w9.heap.size → IOwn wF.drew w.heap.size (.slice pa 0 pc) []) := fun wF h1 h2 => by
          obtain ⟨g1, g2⟩ := HP9.out
          refine ⟨g1, ?_⟩
          rcases g2 with g2 | ⟨g, cap, cur, e, e2, e3, e4⟩
          ·
           exact .inl g2
          ·
           have h8 := HPW2.out
           exact .inr ⟨g, cap, cur, e, by omega, (h1 g (by omega) (by omega)).trans e3, e4⟩
         generalize w.heap.size + 1 = D at *
         go_upto_region 22 with fail
         go_region
         go_wp2_with fail
         have hF := set26 hCD (Nat.le_refl _) hDge hb09 HC9.out HD9.out (.int .i64 0) (.slice none 0 0) (.int .i64 q) (.int .i64 num) (.slice pa 0 pc) rfl
         refine bodyPost_ret (res26 (drew_blk hF.1) (drew_blk hF.2.1) rfl rfl) rfl ?_
         exact rpa_err (p := []) HGe.out (below_drew hF.2.2.1) (HFX.out _ hF.2.2.2.1 hF.2.2.2.2)
        ·
         have HGe : Hid (G = .error (q, (ns[placeF fs P]?.getD 0), P)) := by show _ = _; rw [HGa.out, hnm]
         have hpos : 0 < P.length := List.length_pos_iff.2 hP0
         obtain ⟨pl, hple⟩ : ∃ pl, P.length = pl := ⟨_, rfl⟩
         have HPLE : Hid (P.length = pl) := hple
         have tp : decide ((0 : Int) < (pl : Int)) = true := decide_eq_true (by omega)
         have tp2 : decide (0 < pl) = true := decide_eq_true (by omega)
         have hplne : pl ≠ 0 := by omega
         obtain ⟨g, lcap, hlv, hg3, hgl, hlc, hgc, _⟩ : ∃ g cap, Value.slice la ns.length lc = .slice (some ⟨g, 0, none⟩) ns.length cap ∧ n3 ≤ g ∧ g < w9.heap.size ∧ ns.length ≤ cap ∧ (∀ j, j < ns.length → w9.cell? ⟨g, j, none⟩ = some (.int .i64 (ns[j]?.getD 0))) ∧ (∀ j, w9.frozen? ⟨g, j, none⟩ = false) := by
          rcases HNS9.out.form with ⟨_, hbad⟩ | h
          ·
           rw [hbad] at hpl; simp at hpl
          ·
           exact h
         cases hlv
         have hplc := place_any P fs fa pa fc pc n3 w9.heap.size
         have hints : Ints w9.heap.size w9 (.slice pa P.length pc) P := HP9.out.ints
         have hpcl : P.length ≤ pc := by
          obtain ⟨_, _, h⟩ := HP9.out.some_of hpos; exact h.2
         have HPL : Hid (∀ y : World, y.heap = w9.heap → Calls Tryz.prog 49 #[.slice fa fs.length fc, .slice pa pl pc] y fun e w' => e = .returned (.int .i64 (placeF fs P : Int)) ∧ ∃ n, w' = y.drewN n) := fun y hy => by
          rw [← HPLE.out]
          refine place_any P fs fa pa fc pc n3 w9.heap.size y hV (HFT9.out.fin.keep' fun b _ _ => ?_) (by rw [hy]; exact Nat.le_refl _) (by omega) ?_ (by omega) hpcl
          ·
           rw [hy]
          ·
           rw [hy]
           rcases hints with h | ⟨b, off, cap, e, hb, hc⟩
           ·
            exact .inl h
           ·
            exact .inr ⟨b, off, cap, e, hb, fun j hj => by simp only [World.cell?, hy]; exact hc j hj⟩
         have hgv := hgc (placeF fs P) hpl
         have hpb : placeF fs P ≤ 65536 := by omega
         obtain ⟨pf, hpf⟩ : ∃ pf, placeF fs P = pf := ⟨_, rfl⟩
         obtain ⟨lv, hlv⟩ : ∃ lv, ns[placeF fs P]?.getD 0 = lv := ⟨_, rfl⟩
         rw [hlv] at hgv HGe
         rw [hpf] at hgv HPL hpb hpl
         have hpli : (pf : Int) < (ns.length : Int) := by omega
         have hgW : g ≠ WB := by rintro rfl; exact own_ty HNS9.out ⟨_, _, HW9.out⟩ (by decide) rfl
         clear hplc hints hpos hgc hnm HGa hP0 hV
         rw [hple] at e2
         go_upto_region 21 with fail
         obtain ⟨wcc, hwcc⟩ : ∃ wcc, wc.heap.size = wcc := ⟨_, rfl⟩
         rw [hwcc] at HP9 HPW2
         clear hwcc
         go_cut [] from 12 (fun wx => Hid (Oth WB w9 wx) ∧ Hid (Blk wx WB 31 #[.int .i64 q, .int .i64 lv, .slice pa pl pc]))
         case first =>
          have x1 : w9.cell? ⟨X, 1, none⟩ = some (.slice (some ⟨g, 0, none⟩) ns.length lc) := HX9.out.cell 1
          have s1 : w9.cell? ⟨S, 1, none⟩ = some (.slice fa fs.length fc) := HS9.out.cell 1
          have HE : Hid (∀ k : Nat, Oth WB w9 ((w9.drewN k).setCell ⟨WB, 1, none⟩ (.int .i64 lv)) ∧ Blk ((w9.drewN k).setCell ⟨WB, 1, none⟩ (.int .i64 lv)) WB 31 #[.int .i64 q, .int .i64 lv, .slice pa pl pc]) := fun k => by
           have hO1 : Oth WB w9 (w9.drewN k) := ⟨rfl, rfl, rfl, Nat.le_refl _, fun _ _ _ => rfl⟩
           have hW1 : Blk (w9.drewN k) WB 31 #[.int .i64 q, .int .i64 num, .slice pa pl pc] := by rw [← HPLE.out]; exact HW9.out
           exact ⟨hO1.trans (Oth.set WB 1 (w9.drewN k) _), hW1.set 1 (.int .i64 lv)⟩
          have hHq : ∀ y : World, y.heap = w9.heap → y.cell? ⟨X, 1, none⟩ = some (.slice (some ⟨g, 0, none⟩) ns.length lc) ∧ y.cell? ⟨S, 1, none⟩ = some (.slice fa fs.length fc) ∧ y.cell? ⟨WB, 2, none⟩ = some (.slice pa pl pc) ∧ y.cell? ⟨g, pf, none⟩ = some (.int .i64 lv) := fun y hy => by
           simp only [World.cell?, hy]; exact ⟨x1, s1, e2, hgv⟩
          refine wp_region_held_drew (S := fun y => y.cell? ⟨X, 1, none⟩ = some (.slice (some ⟨g, 0, none⟩) ns.length lc) ∧ y.cell? ⟨S, 1, none⟩ = some (.slice fa fs.length fc) ∧ y.cell? ⟨WB, 2, none⟩ = some (.slice pa pl pc) ∧ y.cell? ⟨g, pf, none⟩ = some (.int .i64 lv)) (by kernel_rfl) (hHq w9.drew rfl) (fun hHeld => ?_)
          refine wpAnyH_takeD (i := 0) (some 100) (v := .pointer (some ⟨X, 1, none⟩)) rfl rfl (by kernel_rfl) (by kernel_rfl) (by kernel_rfl) (fun _ _ _ h => h) (Or.inl ⟨by kernel_rfl, ?hyp0⟩) (by assumption) ?restp0
          case hyp0 => (intro x hSx; (try dsimp only at hSx); go_simp; first | done | with_reducible rfl)
          try simp only [Act.put, sA, sB, sC]
          refine wpAnyH_takeD (i := 1) (some 101) (v := .slice (some ⟨g, 0, none⟩) ns.length lc) rfl rfl (by kernel_rfl) (by kernel_rfl) (by kernel_rfl) (fun _ _ _ h => h) (Or.inl ⟨by kernel_rfl, ?hyp1⟩) (by assumption) ?restp1
          case hyp1 => (intro x hSx; obtain ⟨hx1, hx2, hx3, hx4⟩ := hSx; (try dsimp only at hSx); go_simp; first | done | with_reducible rfl)
          try simp only [Act.put, sA, sB, sC]
          refine wpAnyH_takeD (i := 2) (some 102) (v := .pointer (some ⟨S, 1, none⟩)) rfl rfl (by kernel_rfl) (by kernel_rfl) (by kernel_rfl) (fun _ _ _ h => h) (Or.inl ⟨by kernel_rfl, ?hyp2⟩) (by assumption) ?restp2
          case hyp2 => (intro x hSx; (try dsimp only at hSx); go_simp; first | done | with_reducible rfl)
          try simp only [Act.put, sA, sB, sC]
          refine wpAnyH_takeD (i := 3) (some 103) (v := .slice fa fs.length fc) rfl rfl (by kernel_rfl) (by kernel_rfl) (by kernel_rfl) (fun _ _ _ h => h) (Or.inl ⟨by kernel_rfl, ?hyp3⟩) (by assumption) ?restp3
          case hyp3 => (intro x hSx; obtain ⟨hx1, hx2, hx3, hx4⟩ := hSx; (try dsimp only at hSx); go_simp; first | done | with_reducible rfl)
          try simp only [Act.put, sA, sB, sC]
          refine wpAnyH_takeD (i := 4) (some 104) (v := .pointer (some ⟨WB, 2, none⟩)) rfl rfl (by kernel_rfl) (by kernel_rfl) (by kernel_rfl) (fun _ _ _ h => h) (Or.inl ⟨by kernel_rfl, ?hyp4⟩) (by assumption) ?restp4
          case hyp4 => (intro x hSx; (try dsimp only at hSx); go_simp; first | done | with_reducible rfl)
          try simp only [Act.put, sA, sB, sC]
          refine wpAnyH_takeD (i := 5) (some 105) (v := .slice pa pl pc) rfl rfl (by kernel_rfl) (by kernel_rfl) (by kernel_rfl) (fun _ _ _ h => h) (Or.inl ⟨by kernel_rfl, ?hyp5⟩) (by assumption) ?restp5
          case hyp5 => (intro x hSx; obtain ⟨hx1, hx2, hx3, hx4⟩ := hSx; (try dsimp only at hSx); go_simp; first | done | with_reducible rfl)
          try simp only [Act.put, sA, sB, sC]
          refine wpAnyH_ready (rs := [6]) (by kernel_rfl) (by simp) ?_
          refine (AllReadyH.cons rfl (fun K2 hK2 => ?_) AllReadyH.nil)
          go_simp
          go_wp2_with (go_at_call 49; refine (HPL.out w9.drew rfl).mono ?_; rintro _ _ ⟨rfl, nd, rfl⟩)
          refine hK2.out _ _ (hHq _ (by rfl)) (fun _ => ?_)
          clear hK2 K2
          try simp only [Act.put, sA, sB, sC]
          refine wpAnyH_takeD (i := 7) (some 107) (v := .pointer (some ⟨g, pf, none⟩)) rfl rfl (by kernel_rfl) (by kernel_rfl) (by kernel_rfl) (fun _ _ _ h => h) (Or.inl ⟨by kernel_rfl, ?hyp7⟩) (by assumption) ?restp7
          case hyp7 => (intro x hSx; (try dsimp only at hSx); go_simp; first | done | with_reducible rfl)
          try simp only [Act.put, sA, sB, sC]
          refine wpAnyH_takeD (i := 8) (some 108) (v := .int .i64 lv) rfl rfl (by kernel_rfl) (by kernel_rfl) (by kernel_rfl) (fun _ _ _ h => h) (Or.inl ⟨by kernel_rfl, ?hyp8⟩) (by assumption) ?restp8
          case hyp8 => (intro x hSx; obtain ⟨hx1, hx2, hx3, hx4⟩ := hSx; (try dsimp only at hSx); go_simp; first | done | with_reducible rfl)
          try simp only [Act.put, sA, sB, sC]
          refine wpAnyH_takeD (i := 9) (some 109) (v := .pointer (some ⟨WB, 1, none⟩)) rfl rfl (by kernel_rfl) (by kernel_rfl) (by kernel_rfl) (fun _ _ _ h => h) (Or.inl ⟨by kernel_rfl, ?hyp9⟩) (by assumption) ?restp9
          case hyp9 => (intro x hSx; (try dsimp only at hSx); go_simp; first | done | with_reducible rfl)
          try simp only [Act.put, sA, sB, sC]
          refine wpAnyH_ready (rs := [10]) (by kernel_rfl) (by simp) ?_
          refine (AllReadyH.cons rfl (fun K2 hK2 => ?_) AllReadyH.nil)
          have hyh : (w9.drewN (1 + nd)).heap = w9.heap := rfl
          have ew1 : (w9.drewN (1 + nd)).cell? ⟨WB, 1, none⟩ = some (.int .i64 num) := e1
          have ewf1 : (w9.drewN (1 + nd)).frozen? ⟨WB, 1, none⟩ = false := Blk.free (W := w9.drewN (1 + nd)) HW9.out 1
          obtain ⟨r1', r2'⟩ := HE.out (1 + nd)
          have HR1 : Hid _ := r1'
          have HR2 : Hid _ := r2'
          clear r1' r2'
          generalize w9.drewN (1 + nd) = y9 at *
          go_simp
          have r1 := HR1.out
          have r2 := HR2.out
          have HH10 : (y9.setCell ⟨WB, 1, none⟩ (.int .i64 lv)).cell? ⟨X, 1, none⟩ = some (.slice (some ⟨g, 0, none⟩) ns.length lc) ∧ (y9.setCell ⟨WB, 1, none⟩ (.int .i64 lv)).cell? ⟨S, 1, none⟩ = some (.slice fa fs.length fc) ∧ (y9.setCell ⟨WB, 1, none⟩ (.int .i64 lv)).cell? ⟨WB, 2, none⟩ = some (.slice pa pl pc) ∧ (y9.setCell ⟨WB, 1, none⟩ (.int .i64 lv)).cell? ⟨g, pf, none⟩ = some (.int .i64 lv) := by
           refine ⟨(cell_of_block (r1.block X HX9.out.lt (by omega)) 1).trans x1, (cell_of_block (r1.block S HS9.out.lt (by omega)) 1).trans s1, Blk.cell r2 2, (cell_of_block (r1.block g hgl hgW) pf).trans hgv⟩
          refine hK2.out _ _ HH10 (fun _ => ?_)
          clear hK2 K2
          try simp only [Act.put, sA, sB, sC]
          refine wpAnyH_done (by kernel_rfl) ?_ _
          go_wp2_with fail
          go_meet
          exact ⟨r1, r2⟩
         case rest =>
          obtain ⟨HOx, HWx⟩ := hcut
          have hOx := HOx.out
          have HC10 : Hid (Blk wc w.heap.size 25 #[.int .i64 0, .slice none 0 0]) := (hOx.block _ HC9.out.lt (by omega)).trans HC9.out
          have HD10 : Hid (Blk wc (w.heap.size + 1) 31 #[.int .i64 0, .int .i64 0, .slice none 0 0]) := (hOx.block _ HD9.out.lt (by omega)).trans HD9.out
          have HX10 : Hid (Blk wc X 98 #[.slice fa fs.length fc, .slice (some ⟨g, 0, none⟩) ns.length lc]) := (hOx.block _ HX9.out.lt (by omega)).trans HX9.out
          have HS10 : Hid (Blk wc S 25 #[.int .i64 z, .slice fa fs.length fc]) := (hOx.block _ HS9.out.lt (by omega)).trans HS9.out
          have HFT10 : Hid (FT wc n3 none fs fa fc) := HFT9.out.keep fun b _ _ hb => hOx.block b hb.lt (by rintro rfl; exact not48 HW9.out (by decide) hb)
          have HNS10 : Hid (IOwn wc n3 (.slice (some ⟨g, 0, none⟩) ns.length lc) ns) := HNS9.out.oth hOx (own_ty HNS9.out ⟨_, _, HW9.out⟩ (by decide))
          have hb010 : Below w.heap.size w wc := ⟨hOx.os.trans hb09.os, hOx.tape.trans hb09.tape, hOx.output.trans hb09.output, Nat.le_trans hb09.size hOx.size, fun k hk => (hOx.block k (Nat.lt_of_lt_of_le hk hb09.size) (by omega)).trans (hb09.block k hk)⟩
          have HP10 : Hid (IOwn wc wcc (.slice pa pl pc) P) := by show IOwn _ _ _ _; rw [← HPLE.out]; exact HP9.out.oth hOx (own_ty HP9.out ⟨_, _, HW9.out⟩ (by decide))
          clear hOx HOx HC9 HD9 HX9 HFT9 HNS9 HS9 HW9 hb09 e0 e1 e2 HP9
          have e0 : wc.cell? ⟨WB, 0, none⟩ = some (.int .i64 q) := HWx.out.cell 0
          have e1 : wc.cell? ⟨WB, 1, none⟩ = some (.int .i64 lv) := HWx.out.cell 1
          have e2 : wc.cell? ⟨WB, 2, none⟩ = some (.slice pa pl pc) := HWx.out.cell 2
          obtain ⟨k0, k1, k2, k3, k4, kf0, kf1, kf2, kf3, kf4⟩ := box26 HC10.out HD10.out
          have n1 : w.heap.size ≠ WB := by omega
          have n2 : w.heap.size + 1 ≠ WB := by omega
          have hCD : w.heap.size ≠ w.heap.size + 1 := by omega
          have hDge : w.heap.size ≤ w.heap.size + 1 := by omega
          have HFX : Hid (∀ wF : World, (∀ k, k ≠ w.heap.size → k ≠ w.heap.size + 1 → wF.heap[k]? = wc.heap[k]?) → wF.heap.size = wc.heap.size → IOwn wF.drew w.heap.size (.slice pa pl pc) P) := fun wF h1 h2 => by
           obtain ⟨g1, g2⟩ := HP10.out
           refine ⟨g1, ?_⟩
           rcases g2 with g2 | ⟨g, cap, cur, e, e2, e3, e4⟩
           ·
            exact .inl g2
           ·
            have h8 := HPW2.out
            exact .inr ⟨g, cap, cur, e, by omega, (h1 g (by omega) (by omega)).trans e3, e4⟩
          generalize w.heap.size + 1 = D at *
          go_upto_region 22 with fail
          go_region
          go_wp2_with fail
          have hpe := HPLE.out
          subst hpe
          have hF := set26 hCD (Nat.le_refl _) hDge hb010 HC10.out HD10.out (.int .i64 0) (.slice none 0 0) (.int .i64 q) (.int .i64 lv) (.slice pa P.length pc) rfl
          refine bodyPost_ret (res26 (drew_blk hF.1) (drew_blk hF.2.1) rfl rfl) rfl ?_
          exact rpa_err (p := P) HGe.out (below_drew hF.2.2.1) (HFX.out _ hF.2.2.2.1 hF.2.2.2.2)
end Go.Proofs.YtcbjnifoojjipaaGreatDoor
