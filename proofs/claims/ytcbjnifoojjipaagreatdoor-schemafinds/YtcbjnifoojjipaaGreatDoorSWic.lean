/- What schema's readWithin does (a contract; nothing is claimed here). -/
import Derived.Test.YtcbjnifoojjipaaGreatDoorSWib
import Derived.Deep.LoopGhost
namespace Go.Proofs.YtcbjnifoojjipaaGreatDoor
open Go.RowKit Go.Vf Go.Maps
theorem Oth.grown {w w' : World} {ob : Option Nat} (h : w.grownBy w' ob) : ∃ X, (ob = some X ∨ (ob = none ∧ X = w.heap.size)) ∧ Oth X w w' := by
  cases ob with
  | none => exact ⟨w.heap.size, .inr ⟨rfl, rfl⟩, h.os, h.tape, h.output, h.size, fun k hk _ => h.block k hk (by simp)⟩
  | some j => exact ⟨j, .inl rfl, h.os, h.tape, h.output, h.size, fun k hk hn => h.block k hk (by simpa using hn)⟩
theorem Rs.oth {K R : Nat} {after : Int} {ob : Option Nat} {w0 w w' : World} {ls : List Ln} {a : Option Addr} {c : Nat} {ns : List Int} (h : Rs K R after ob w0 w ls a c ns) (hK : K ≤ w0.heap.size) {X : Nat} (hO : Oth X w w') (hX : w0.heap.size ≤ X) (hn : some X ≠ (Value.slice a ns.length c).ownBlock) : Rs K R after ob w0 w' ls a c ns := by
  have hs := h.grw.size
  refine ⟨h.rd.kp hO.size fun k hk => hO.block k (by omega) (by omega), own_same h.own fun j hj => hO.block j ?_ ?_, h.obn, hO.os.trans h.grw.os, hO.tape.trans h.grw.tape, hO.output.trans h.grw.output, Nat.le_trans hs hO.size, fun k hk hkR hkn => (hO.block k (by omega) (by omega)).trans (h.grw.block k hk hkR hkn)⟩
  · obtain ⟨_, cs, f, hh⟩ := own_ge h.own hj
    exact (Array.getElem?_eq_some_iff.1 hh).1
  · rintro rfl
    exact hn hj.symm
theorem Rs.next {K R : Nat} {after : Int} {ob : Option Nat} {w0 w w' : World} {ls ls' : List Ln} {a : Option Addr} {c : Nat} {ns : List Int} (h : Rs K R after ob w0 w ls a c ns) (hr : RdAt K R w' ls' after (.slice a ns.length c)) (hO : Oth R w w') : Rs K R after ob w0 w' ls' a c ns := by
  have hs := h.grw.size
  refine ⟨hr, own_same h.own fun j hj => hO.block j ?_ ?_, h.obn, hO.os.trans h.grw.os, hO.tape.trans h.grw.tape, hO.output.trans h.grw.output, Nat.le_trans hs hO.size, fun k hk hkR hkn => (hO.block k (by omega) hkR).trans (h.grw.block k hk hkR hkn)⟩
  · obtain ⟨_, cs, f, hh⟩ := own_ge h.own hj
    exact (Array.getElem?_eq_some_iff.1 hh).1
  · rintro rfl
    exact own_R h.own h.rd.hR hj.symm
theorem FRow.oth {w w' : World} {lo X : Nat} {v : Value} {qs : List FQ} (h : FRow w lo v qs) (hO : Oth X w w') (hX : ¬ T48 w X) : FRow w' lo v qs :=
  h.keep fun b _ hb => hO.block b hb.lt (by rintro rfl; exact hX hb)
theorem not48 {w : World} {b : Nat} {t : TypeId} {cs : Array Value} (h : Blk w b t cs) (ht : t ≠ 48) : ¬ T48 w b := by
  rintro ⟨cs', f, hh⟩
  rw [show w.heap[b]? = _ from h] at hh
  cases hh
  exact ht rfl
theorem none48 {w : World} {b : Nat} (h : w.heap.size ≤ b) : ¬ T48 w b := fun hb => by have := hb.lt; omega
structure WiAt (K R : Nat) (after : Int) (ob : Option Nat) (w0 wr : World) (B : Nat) (num : Int) (ws : List ByteArray) (ls : List Ln) (ns : List Int) (a : Option Addr) (c : Nat) (wa : Option Addr) (wc : Nat) (fa : Option Addr) (fc : Nat) (qs : List FQ) : Prop where
  box : Blk wr B 139 #[.int .i64 num, .slice wa ws.length wc]
  hB : w0.heap.size ≤ B
  row : WRow K R wr wa wc ws
  wok : WsOK ws
  lok : ∀ l ∈ ls, WsOK l.2
  frow : FRow wr w0.heap.size (.slice fa qs.length fc) qs
  rs : Rs K R after ob w0 wr ls a c ns
  len : ns.length + 1 + ls.length + wl ws ≤ 1000000
  qlen : qs.length ≤ ns.length
theorem WiAt.first {K R : Nat} {after : Int} {ob : Option Nat} {w0 w9 wE : World} {B : Nat} {num : Int} {ws : List ByteArray} {ls : List Ln} {ns : List Int} {a : Option Addr} {c : Nat} {wa : Option Addr} {wc : Nat} {fa : Option Addr} {fc : Nat} {qs : List FQ}
    (hK : K ≤ w0.heap.size) {v0 v1 : Value} (hb : Blk w9 B 139 #[v0, v1]) (hB : w0.heap.size ≤ B) (hrow : WRow K R w9 wa wc ws) (hok : WsOK ws) (lok : ∀ l ∈ ls, WsOK l.2) (hf : FRow w9 w0.heap.size (.slice fa qs.length fc) qs) (hrs : Rs K R after ob w0 w9 ls a c ns) (hlen : ns.length + 1 + ls.length + wl ws ≤ 1000000) (hq : qs.length ≤ ns.length)
    (hE : wE = (w9.setCell ⟨B, 0, none⟩ (.int .i64 num)).setCell ⟨B, 1, none⟩ (.slice wa ws.length wc)) : WiAt K R after ob w0 wE B num ws ls ns a c wa wc fa fc qs := by
  subst hE
  have h1 := (hb.set 0 (.int .i64 num)).set 1 (.slice wa ws.length wc)
  have hO : Oth B w9 ((w9.setCell ⟨B, 0, none⟩ (.int .i64 num)).setCell ⟨B, 1, none⟩ (.slice wa ws.length wc)) := (Oth.set B 0 w9 _).trans (Oth.set B 1 _ _)
  have hn : some B ≠ (Value.slice a ns.length c).ownBlock := fun e => by
    obtain ⟨_, cs, f, hh⟩ := own_ge hrs.own e.symm
    rw [show w9.heap[B]? = _ from hb] at hh
    cases hh
  have hKs := hrs.rd.hK
  exact ⟨h1, hB, hrow.kp fun k hk _ => hO.block k (by omega) (by omega), hok, lok, hf.oth hO (not48 hb (by decide)), hrs.oth hK hO hB hn, hlen, hq⟩
theorem next_any {K R : Nat} {after : Int} {ob : Option Nat} {w0 w : World} {ls : List Ln} {a : Option Addr} {c : Nat} {ns : List Int} (hs : Rs K R after ob w0 w ls a c ns) (hok : ∀ l ∈ ls, WsOK l.2) (hl : ls.length ≤ 1000000) :
    Calls Tryz.prog 77 #[.pointer (some ⟨R, 0, none⟩)] w fun e w' => ∃ num ws ls' wa wc, e = .returned (.agg #[.int .i64 num, .slice wa ws.length wc]) ∧ WRow K R w' wa wc ws ∧ WsOK ws ∧ (∀ l ∈ ls', WsOK l.2) ∧ Rs K R after ob w0 w' ls' a c ns ∧ Oth R w w' ∧ ls'.length + wl ws ≤ ls.length ∧ (wl ws = 1 → ls'.length < ls.length) ∧ ∀ acc, allP after ls ns acc = curP after num ws ls' ns acc := by
  cases ls with
  | nil =>
    refine (next_nil K R after _ w hs.rd).mono ?_
    rintro e w' ⟨rfl, hb⟩
    have hO : Oth R w w' := Oth.of hb
    have hKs := hs.rd.hK
    exact ⟨after, [], [], none, 0, rfl, ⟨Nat.le_refl _, fun j hj => by simp at hj⟩, ⟨by simp, fun x hx => by cases hx⟩, hok, hs.next (hs.rd.kp hb.size fun k hk => hb.block k (by omega)) hO, hO, Nat.le_refl _, (fun h => by simp [wl] at h), fun acc => allP_nil after ns acc⟩
  | cons l ls =>
    simp only [List.length_cons] at hl
    refine (next_cons K R after _ l ls (by omega) w hs.rd).mono ?_
    rintro e w' ⟨wa, wc, rfl, h1, h2, h3⟩
    have hw : wl l.2 ≤ 1 := by unfold wl; split <;> omega
    exact ⟨l.1, l.2, ls, wa, wc, rfl, h1, hok l (List.mem_cons_self ..), fun x hx => hok x (List.mem_cons_of_mem _ hx), hs.next h2 h3, h3, by simp only [List.length_cons]; omega, fun _ => by simp, fun acc => allP_cons after l ls ns acc⟩
set_option maxHeartbeats 4000000 in
theorem readWithin_step (n : Nat) (ih : ∀ m, m < n → WiOk m) : WiOk n := by
  intro K R after ls hls hok ns hns a c w hrd hown
  obtain ⟨G, hG⟩ : ∃ G, allP after ls ns [] = G := ⟨_, rfl⟩
  rw [hG]
  obtain ⟨ob, hob⟩ : ∃ ob, (Value.slice a ns.length c).ownBlock = ob := ⟨_, rfl⟩
  rw [hob]
  have hK := hrd.hK
  have hrs : Rs K R after ob w w ls a c ns := ⟨hrd, hown, .inl hob, Grw.refl _ _ _ _⟩
  have hnx := next_any hrs hok (by omega)
  clear hob hrs hrd hown
  go_enter Tryz.func109, Tryz.ntmps109
  go_wp2_with fail
  refine hnx.mono ?_
  clear hnx
  rintro _ w1 ⟨num, ws, ls1, wa, wc, rfl, h1, h2, h3, h4, h5, h6, h7, h8⟩
  have HG : Hid (G = curP after num ws ls1 ns []) := by show G = _; rw [← hG, h8]
  clear hG h8
  go_upto_region 3 with fail
  have hst : WiAt K R after ob w (w1.alloc (.cells #[.int .i64 num, .slice wa ws.length wc] 139)) w1.heap.size num ws ls1 ns a c wa wc none 0 [] := by
    have hb1 := (Below.refl w1.heap.size w1).alloc (Nat.le_refl _) (.cells #[.int .i64 num, .slice wa ws.length wc] 139)
    have hKs := h4.rd.hK
    refine ⟨Blk.new w1 139 #[.int .i64 num, .slice wa ws.length wc], h5.size, h1.kp fun k hk _ => hb1.block k (by omega), h2, h3, FRow.nil _ _, h4.oth hK (Oth.of (B := w1.heap.size) hb1) h5.size (fun e => ?_), by omega, by simp⟩
    obtain ⟨_, cs, f, hh⟩ := own_ge h4.own e.symm
    have := (Array.getElem?_eq_some_iff.1 hh).1
    omega
  have hlt : wl ws = 1 → ls1.length < n := fun h => by have := h7 h; omega
  generalize w1.alloc (.cells #[.int .i64 num, .slice wa ws.length wc] 139) = w2 at hst ⊢
  generalize w1.heap.size = B0 at hst ⊢
  clear h1 h2 h3 h4 h5 h6 h7 hls hok hns
  go_loopg [3, 4] (2 * ls1.length + wl ws) (fun k fv lp wr => ∃ B num ws ls ns a c wa wc fa fc qs, k = 2 * ls.length + wl ws ∧ fv = .slice fa qs.length fc ∧ lp = .pointer (some ⟨B, 0, none⟩) ∧ WiAt K R after ob w wr B num ws ls ns a c wa wc fa fc qs ∧ (wl ws = 1 → ls.length < n) ∧ Hid (G = curP after num ws ls ns (qs.map Prod.fst)))
  case atStart => exact ⟨B0, num, ws, ls1, ns, a, c, wa, wc, none, 0, [], rfl, rfl, rfl, hst, hlt, HG⟩
  case round =>
    clear HG hlt hst w2
    obtain ⟨B, num, ws, ls, ns, a, c, wa, wc, fa, fc, qs, hgk, rfl, rfl, hst, hlt, HG⟩ := hrel
    have hend := isEnd_any B num ws hst.wok.1 wr ⟨wa, wc, hst.box, hst.row.wat (Nat.le_trans hK hst.hB)⟩
    have hgk' : Hid (gk = 2 * ls.length + wl ws) := hgk
    have hlt' : Hid (wl ws = 1 → ls.length < n) := hlt
    clear hgk hlt
    cases hE : isEndL ws with
    | true =>
      rw [hE] at hend
      have hGq : Hid (G = .ok (qs.map Prod.fst, ls, ns)) := by show G = _; rw [HG.out, curP, if_pos hE]
      obtain ⟨_, hfc, hFT⟩ := hst.frow.fin
      have hrs := hst.rs
      clear hst HG ih
      go_wp2_with fail
      refine hend.mono ?_
      rintro _ w3 ⟨rfl, rfl⟩
      clear hend
      go_wp2_with fail
      go_ret
      rw [hGq.out]
      exact ⟨fa, fc, a, c, by simp, by simpa using hfc, hFT, hrs⟩
    | false =>
      rw [hE] at hend
      have hrf := readField_all K R after num ws hst.wok ls (fun h => ⟨ls.length, ih _ (hlt'.out h), Nat.le_refl _⟩) hst.lok ns hst.len wa wc wr hst.row a c hst.rs.rd hst.rs.own
      have c0 : wr.cell? ⟨B, 0, none⟩ = some (.int .i64 num) := hst.box.cell 0
      have c1 : wr.cell? ⟨B, 1, none⟩ = some (.slice wa ws.length wc) := hst.box.cell 1
      have HST : Hid (WiAt K R after ob w wr B num ws ls ns a c wa wc fa fc qs) := hst
      have HE : Hid (isEndL ws = false) := hE
      clear hst ih hE
      go_wp2_with fail
      refine hend.mono ?_
      rintro _ wq ⟨rfl, rfl⟩
      clear hend
      go_wp2_with fail
      refine hrf.mono ?_
      clear hrf
      intro e w3 hp
      cases hF : fieldP after num ws ls ns with
      | error m =>
        rw [hF] at hp
        obtain ⟨rfl, hg⟩ := hp
        have hGq : Hid (G = .error m) := by show G = _; rw [HG.out, curP, if_neg (by rw [HE.out]; simp), hF]
        have hgr := HST.out.rs.grw.trans hg HST.out.rs.obn
        clear HST HG HE hF
        unfold lostL at *
        go_wp2_with fail
        refine ⟨rfl, ?_⟩
        rw [hGq.out]
        exact ⟨rfl, hgr⟩
      | ok q =>
        rw [hF] at hp
        obtain ⟨f, ls2, ns2⟩ := q
        obtain ⟨ga, gc, a2, c2, he, hgc, hFT, hrs2⟩ := hp
        simp only at he hgc hFT hrs2
        unfold fV at he
        subst he
        obtain ⟨l1, l2, l3, l4⟩ := fieldP_len hF
        have l5 := fieldP_less hF
        simp only at l2 l3 l4 l5
        have hGq : Hid (G = allP after ls2 ns2 ((qs ++ [(f, ga, gc)]).map Prod.fst)) := by show G = _; rw [HG.out, curP, if_neg (by rw [HE.out]; simp), hF]; simp
        have hst := HST.out
        have hrs3 : Rs K R after ob w w3 ls2 a2 c2 ns2 := ⟨hrs2.rd, hrs2.own, hst.rs.obn.trans hrs2.obn hst.rs.grw.size, hst.rs.grw.trans hrs2.grw hst.rs.obn⟩
        have hf3 : FRow w3 w.heap.size (.slice fa qs.length fc) qs := hst.frow.keep fun b _ hb => hrs2.grw.block b hb.lt (hst.rs.t48 hb).1 (hst.rs.t48 hb).2
        have hBR : B ≠ R := by have := hst.rs.rd.hR; have := hst.hB; omega
        have hBo : some B ≠ (Value.slice a ns.length c).ownBlock := fun e => by
          obtain ⟨_, cs, f', hh⟩ := own_ge hst.rs.own e.symm
          rw [show wq.heap[B]? = _ from hst.box] at hh
          cases hh
        have hbox3 : Blk w3 B 139 #[.int .i64 num, .slice wa ws.length wc] := (hrs2.grw.block B hst.box.lt hBR hBo).trans hst.box
        have hFT3 : FT w3 w.heap.size (Value.slice fa qs.length fc).ownBlock f.fields ga gc := hFT.mono hst.rs.grw.size fun b hb _ _ e => by
          have := (hst.frow.t48 e.symm).2.lt
          omega
        have hlen := hst.len
        have hql := hst.qlen
        have hBs := hst.hB
        have lok2 : ∀ l ∈ ls2, WsOK l.2 := fun l hl => hst.lok l (l4 l hl)
        obtain ⟨W4, hW4⟩ : ∃ W4, w3.alloc (.cells #[.string f.own.name, .int .u8 f.own.kind, .bool f.own.down, .int .u8 f.own.nulls, .bool f.own.bnd, .bool f.own.ln, .string f.own.lm, .bool f.own.hn, .string f.own.hm, .int .i64 f.own.most, .int .i64 f.own.str, .bool f.own.shf, .bool f.own.bck, .slice ga f.fields.length gc] 48) = W4 := ⟨_, rfl⟩
        have hb4 : Below w3.heap.size w3 W4 := by rw [← hW4]; exact (Below.refl w3.heap.size w3).alloc (Nat.le_refl _) _
        have hN4 : Blk W4 w3.heap.size 48 (cellQ (f, ga, gc)).toArray := by rw [← hW4]; exact Blk.new w3 48 (cellQ (f, ga, gc)).toArray
        have hn3 : some w3.heap.size ≠ (Value.slice a2 ns2.length c2).ownBlock := fun e => by
          obtain ⟨_, cs, f', hh⟩ := own_ge hrs3.own e.symm
          have := (Array.getElem?_eq_some_iff.1 hh).1
          omega
        have hs3 := hrs3.grw.size
        have hrs4 : Rs K R after ob w W4 ls2 a2 c2 ns2 := hrs3.oth hK (Oth.of (B := w3.heap.size) hb4) hs3 hn3
        have hf4 : FRow W4 w.heap.size (.slice fa qs.length fc) qs := hf3.keep fun b _ hb => hb4.block b hb.lt
        have hFT4 : FT W4 w.heap.size (Value.slice fa qs.length fc).ownBlock f.fields ga gc := hFT3.keep fun b _ _ hb => hb4.block b hb.lt
        have hbox4 := hbox3.old hb4
        have hbase : w.heap.size ≤ W4.heap.size := Nat.le_trans hs3 hb4.size
        have hq4 : qs.length ≤ 1000000 := by omega
        clear hrs3 hf3 hbox3 hFT3 hFT HST hst hF HG HE hrs2 hb4 hs3 hn3 hBo c0 c1
        go_upto_region 6 with (first | (at_builtin; refine wpList_append_field rfl _ _ rfl w.heap.size _ qs rfl hf4 (f, ga, gc) ⟨hgc, hFT4⟩ w3.heap.size 1 rfl hN4 hq4 hbase ?_; intro a7 c7 w7 hfr7 hgr7 hat7))
        obtain ⟨X, hX, hO7⟩ := Oth.grown hgr7
        have hXT : w.heap.size ≤ X ∧ some X ≠ (Value.slice a2 ns2.length c2).ownBlock ∧ B ≠ X := by
          rcases hX with e | ⟨e, rfl⟩
          · obtain ⟨e1, e2⟩ := hf4.t48 e
            refine ⟨e1, (hrs4.t48 e2).2, ?_⟩
            rintro rfl
            exact not48 hbox4 (by decide) e2
          · refine ⟨hbase, fun e => ?_, Nat.ne_of_lt hbox4.lt⟩
            obtain ⟨_, cs, f', hh⟩ := own_ge hrs4.own e.symm
            have := (Array.getElem?_eq_some_iff.1 hh).1
            omega
        have hrs7 : Rs K R after ob w w7 ls2 a2 c2 ns2 := hrs4.oth hK hO7 hXT.1 hXT.2.1
        have hbox7 : Blk w7 B 139 #[.int .i64 num, .slice wa ws.length wc] := (hO7.block B hbox4.lt hXT.2.2).trans hbox4
        have z0 : w7.cell? ⟨B, 0, none⟩ = some (.int .i64 num) := hbox7.cell 0
        have z1 : w7.cell? ⟨B, 1, none⟩ = some (.slice wa ws.length wc) := hbox7.cell 1
        have hb8 := (Below.refl w7.heap.size w7).alloc (Nat.le_refl _) (.cells #[.int .i64 num, .slice wa ws.length wc] 139)
        have hN8 := Blk.new w7 139 #[.int .i64 num, .slice wa ws.length wc]
        have hs7 := hrs7.grw.size
        have hn7 : some w7.heap.size ≠ (Value.slice a2 ns2.length c2).ownBlock := fun e => by
          obtain ⟨_, cs, f', hh⟩ := own_ge hrs7.own e.symm
          have := (Array.getElem?_eq_some_iff.1 hh).1
          omega
        have hrs8 := hrs7.oth hK (Oth.of (B := w7.heap.size) hb8) hs7 hn7
        have hfr8 := hfr7.keep (w' := w7.alloc (.cells #[.int .i64 num, .slice wa ws.length wc] 139)) (fun b _ hb => hb8.block b hb.lt)
        have hRw : R < w7.heap.size := by have := hrs7.rd.hR; have := hrs7.rd.hK; omega
        have hR8 : ¬ T48 (w7.alloc (.cells #[.int .i64 num, .slice wa ws.length wc] 139)) R := by
          obtain ⟨_, _, hB, _⟩ := hrs8.rd.row
          exact not48 hB (by decide)
        have hnx := next_any hrs8 lok2 (by omega)
        clear hf4 hFT4 hN4 hgr7 hat7 hrs4 hbox4 hX hO7 hXT hb8 hrs7 hfr7 hn7 hrs8 hbox7 hW4
        go_wp2_with fail
        refine hnx.mono ?_
        clear hnx
        rintro _ w9 ⟨num9, ws9, ls9, wa9, wc9, rfl, h1, h2, h3, h4, h5, h6, h7, h8⟩
        have hG9 : Hid (G = curP after num9 ws9 ls9 ns2 ((qs ++ [(f, ga, gc)]).map Prod.fst)) := by show G = _; rw [hGq.out, h8]
        have hN9 : Blk w9 w7.heap.size 139 #[.int .i64 num, .slice wa ws.length wc] := (h5.block _ (by rw [alloc_size]; omega) (by omega)).trans hN8
        have hf9 : FRow w9 w.heap.size (.slice a7 (qs ++ [(f, ga, gc)]).length c7) (qs ++ [(f, ga, gc)]) := by
          rw [List.length_append]
          exact hfr8.oth h5 hR8
        have y0 : w9.cell? ⟨w7.heap.size, 0, none⟩ = some (.int .i64 num) := hN9.cell 0
        have y1 : w9.cell? ⟨w7.heap.size, 1, none⟩ = some (.slice wa ws.length wc) := hN9.cell 1
        have yf0 : w9.frozen? ⟨w7.heap.size, 0, none⟩ = false := hN9.frozen 0
        have yf1 : w9.frozen? ⟨w7.heap.size, 1, none⟩ = false := hN9.frozen 1
        have hlt9 : Hid (wl ws9 = 1 → ls9.length < n) := fun h => by
          have := h7 h
          have := hlt'.out l1
          omega
        clear h8 hGq hfr8 hN8 h5 h7
        go_wp2_with fail
        go_roundg (2 * ls9.length + wl ws9)
        case measure =>
          have := hgk'.out
          omega
        case rel =>
          have hst := WiAt.first (num := num9) hK hN9 (by omega) h1 h2 h3 hf9 h4 (by omega) (by simp; omega) rfl
          exact ⟨w7.heap.size, num9, ws9, ls9, ns2, a2, c2, wa9, wc9, a7, c7, qs ++ [(f, ga, gc)], rfl, by simp, rfl, hst, hlt9.out, hG9⟩
theorem readWithin_any (n : Nat) : WiOk n := by
  induction n using Nat.strongRecOn with
  | _ n ih => exact readWithin_step n ih
theorem readField_whole (K R : Nat) (after num : Int) (ws : List ByteArray) (hws : WsOK ws) (ls : List Ln) (hok : ∀ l ∈ ls, WsOK l.2) (ns : List Int) (hns : ns.length + 1 + ls.length + wl ws ≤ 1000000) (wa : Option Addr) (wcp : Nat) (w : World) (hrow : WRow K R w wa wcp ws) (a : Option Addr) (c : Nat) (hrd : RdAt K R w ls after (.slice a ns.length c)) (hown : IOwn w K (.slice a ns.length c) ns) :
    Calls Tryz.prog 81 #[.pointer (some ⟨R, 0, none⟩), .agg #[.int .i64 num, .slice wa ws.length wcp]] w (RfPost K R after (Value.slice a ns.length c).ownBlock w (fieldP after num ws ls ns)) :=
  readField_all K R after num ws hws ls (fun _ => ⟨_, readWithin_any _, Nat.le_refl _⟩) hok ns hns wa wcp w hrow a c hrd hown
end Go.Proofs.YtcbjnifoojjipaaGreatDoor
