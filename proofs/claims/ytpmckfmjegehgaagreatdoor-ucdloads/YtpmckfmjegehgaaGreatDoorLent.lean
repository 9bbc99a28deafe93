/- What dovetaillaw04.lent and kept do (contracts; nothing is claimed here). -/
import Derived.Test.YtpmckfmjegehgaaGreatDoorSameM
import Derived.Test.YtpmckfmjegehgaaGreatDoorMarks
import Derived.Test.YtpmckfmjegehgaaGreatDoorHeavy
import Derived.Deep.Upon
namespace Go.Proofs.YtpmckfmjegehgaaGreatDoor
open Go.RowKit Go.Vf Go.Maps

/-- 'out = append(out, m)' of a mark. -/
theorem wpList_append_mark {w : World} {ops : Array Oper} {rest : List Oper} {o : Oper} {a : Act} {Q : Exit → Act → World → Prop} (hgd : o.guard = none) (s x : Operand)
    (ho : o.op = .call { callee := .builtin .append, args := #[s, x], argTypes := #[27, 27] })
    (base : Nat) (v : Value) (ps : List (PM × Value)) (hs : a.eval s = v) (hown : w.ownsRow base 36 3 v ps.length (flatM ps)) (p c : Int) (ua : Option Addr) (uk uc : Nat) (hx : a.eval x = .slice (some ⟨w.heap.size, 0, none⟩) 1 1)
    (hlen : ps.length ≤ 1099511627776) (hbase : base ≤ w.heap.size)
    (h : ∀ a' c' w', w'.ownsRow base 36 3 (.slice a' (ps.length + 1) c') (ps.length + 1) (flatM ps ++ [.int .i64 p, .int .i64 c, .slice ua uk uc]) → (w.alloc (.cells #[.int .i64 p, .int .i64 c, .slice ua uk uc] 36)).grownBy w' v.ownBlock → wpList Tryz.prog ops Q rest (a.put o.dst (.slice a' (ps.length + 1) c')) w') :
    wpList Tryz.prog ops Q (o :: rest) a (w.alloc (.cells #[.int .i64 p, .int .i64 c, .slice ua uk uc] 36)) := by
  obtain ⟨i, hi, hz, hsz, hby⟩ := info_parts info36
  have hb := Blk.new w 36 #[.int .i64 p, .int .i64 c, .slice ua uk uc]
  refine wpList_append_own_at (P := Tryz.prog) _ hgd s x 27 ho base 36 i _ 3 40 Tryz.underlying27 hi hz hsz hby rfl (by decide) v ps.length (flatM ps) hs (World.ownsRow.alloc hown _) ⟨w.heap.size, 0, none⟩ 1 1 [.int .i64 p, .int .i64 c, .slice ua uk uc] hx (by rfl) ?_ ?_ ?_ ?_ ?_ ?_
  · intro j u hu
    match j, hu with
    | 0, hu => simp at hu; subst hu; exact hb.cell 0
    | 1, hu => simp at hu; subst hu; exact hb.cell 1
    | 2, hu => simp at hu; subst hu; exact hb.cell 2
  · intro u hu; simp at hu; rcases hu with rfl | rfl | rfl <;> rfl
  · unfold maxLen; omega
  · omega
  · simp; omega
  · intro v' w' h1 h2 _ _
    obtain ⟨a', c', rfl⟩ := row_val h1
    exact h a' c' w' h1 h2

theorem append_nil_none (w : World) (ty : TypeId) (pa : Option Addr) (pc : Nat) : (Builtin.append_ #[22, 22] ty #[.slice none 0 0, .slice pa 0 pc]).run Tryz.prog w = .ok (.slice none 0 0) w := by
  obtain ⟨i, hi, hz, hsz, hby⟩ := info_parts info3
  cases pa with
  | none => exact run_append_nothing (P := Tryz.prog) w 22 22 ty 3 i Tryz.underlying22 hi none 0 0 (Nat.le_refl _) _ (Src.ofNil w Tryz.underlying22 pc)
  | some ad => exact run_append_nothing (P := Tryz.prog) w 22 22 ty 3 i Tryz.underlying22 hi none 0 0 (Nat.le_refl _) _ (Src.ofSlice w Tryz.underlying22 ad 0 pc [] (by simp) (by simp) (by simp))

/-- 'append(nil, x...)' of an empty x. -/
theorem wpList_append_none {w : World} {ops : Array Oper} {rest : List Oper} {o : Oper} {a : Act} {Q : Exit → Act → World → Prop} (hgd : o.guard = none) (s x : Operand)
    (ho : o.op = .call { callee := .builtin .append, args := #[s, x], argTypes := #[22, 22] }) (hs : a.eval s = .slice none 0 0) (pa : Option Addr) (pc : Nat) (hx : a.eval x = .slice pa 0 pc)
    (h : wpList Tryz.prog ops Q rest (a.put o.dst (.slice none 0 0)) w) : wpList Tryz.prog ops Q (o :: rest) a w := by
  refine wpList_plain hgd fun K hK => ?_
  have hr := append_nil_none w o.type pa pc
  unfold Oper.wp execOp
  simp only [ho, resolve, invoke, builtin, Sem.run_bind, Sem.run_pure, Result.andThen_ok, List.map_toArray, List.map_cons, List.map_nil, hs, hx, hr]
  exact hK _ _ h

theorem row_some {w : World} {base : Nat} {e : TypeId} {size : Nat} {v : Value} {n : Nat} {xs : List Value} (h : w.ownsRow base e size v n xs) (hn : 0 < n) : ∃ g cap, v = .slice (some ⟨g, 0, none⟩) n cap ∧ n ≤ cap ∧ g < w.heap.size ∧ ∀ j u, xs[j]? = some u → w.cell? ⟨g, j, none⟩ = some u := by
  rcases h.2 with ⟨_, h0⟩ | ⟨g, cap, cur, hv, hb, hg, hc, hm, hs, ht⟩
  · omega
  · refine ⟨g, cap, hv, hc, (Array.getElem?_eq_some_iff.1 hg).1, fun j u hu => ?_⟩
    rw [← ht] at hu
    have hj := (List.getElem?_eq_some_iff.1 hu).1
    rw [List.getElem?_take_of_lt (by rw [List.length_take] at hj; omega)] at hu
    simp only [World.cell?, hg]
    simpa using hu

/-- A mark's parts with marked room behind them. -/
def LPart (w : World) (base : Nat) (x : PM × Value) : Prop := ∃ g cap, x.2 = .slice (some ⟨g, 0, none⟩) x.1.parts.length cap ∧ IOwn w base (.slice (some ⟨g, 0, none⟩) (x.1.parts.length + 1) cap) (x.1.parts ++ [-77])
theorem LPart.after {w w' : World} {base : Nat} {x : PM × Value} (h : LPart w base x) (hb : Below w.heap.size w w') : LPart w' base x := by
  obtain ⟨g, cap, e, ho⟩ := h
  exact ⟨g, cap, e, own_after ho hb⟩
theorem LPart.kept {w w5 : World} {base : Nat} {x : PM × Value} {v : Value} {n : Nat} {xs : List Value} {b2 : Nat} (h : LPart w base x) (hv : w.ownsRow b2 36 3 v n xs) (hg : w.grownBy w5 v.ownBlock) : LPart w5 base x := by
  obtain ⟨g, cap, e, ho⟩ := h
  exact ⟨g, cap, e, own_kept_row ho hv (by decide) hg⟩
theorem LPart.alloc {w : World} {base : Nat} {x : PM × Value} (h : LPart w base x) (o : Obj) : LPart (w.alloc o) base x := by
  obtain ⟨g, cap, e, ho⟩ := h
  exact ⟨g, cap, e, World.ownsRow.alloc ho o⟩

set_option maxHeartbeats 4000000 in
set_option maxRecDepth 20000 in
theorem lent_any (l : List PM) (hwt : wtM l ≤ 1048576) (v : Value) (n₀ : Nat) (w : World) (hn₀ : n₀ ≤ w.heap.size) (hin : MIn n₀ w v l) :
    Calls Tryz.prog 15 #[v] w fun e w' => ∃ g cap ps, e = .returned (.slice (some ⟨g, 0, none⟩) l.length cap) ∧ ps.map Prod.fst = l ∧ w'.ownsRow w.heap.size 36 3 (.slice (some ⟨g, 0, none⟩) (ps.length + 1) cap) (ps.length + 1) (flatM ps ++ [.int .i64 (-77), .int .i64 0, .slice none 0 0]) ∧ (∀ x ∈ ps, LPart w' w.heap.size x) ∧ Below w.heap.size w w' := by
  have hll : l.length ≤ 1048576 := Nat.le_trans (wtM_len l) hwt
  have HPL : Hid (∀ m ∈ l, m.parts.length ≤ 1048576) := fun m hm => Nat.le_trans (wtM_parts hm) hwt
  obtain ⟨a, cap, rfl⟩ := hin.val
  clear hwt
  go_enter Tryz.func15, Tryz.ntmps15
  go_wp2_with fail
  go_loopw [3, 4, 5, 6] (fun v i _ _ wr => ∃ (ps : List (PM × Value)), ps.length ≤ l.length ∧ i = .int .i64 ps.length ∧ wr.ownsRow w.heap.size 36 3 v ps.length (flatM ps) ∧ (∀ x ∈ ps, LPart wr w.heap.size x) ∧ Hid (ps.map Prod.fst = l.take ps.length) ∧ Below w.heap.size w wr) (fun _ i _ _ _ => l.length - (intOf i).toNat)
  case atStart => exact ⟨[], by simp, rfl, World.ownsRow_nil _ _ _ _, by simp, by show _ = _; simp, Below.refl _ _⟩
  case round =>
    obtain ⟨ps, hk, rfl, hrow, hparts, HP, hbel⟩ := hrel
    obtain ⟨av, cv, rfl⟩ := row_val hrow
    by_cases hlt : ps.length < l.length
    · obtain ⟨b, off, hao, pa, pk, pc, c0, c1, c2, hpi⟩ := (hin.below hbel hn₀).at hlt
      subst hao
      have hml := HPL.out _ (List.getElem_mem hlt)
      have HP2 : Hid ((ps.map Prod.fst) ++ [l[ps.length]] = l.take (ps.length + 1)) := by
        show _ = _
        rw [HP.out, List.take_succ_eq_append_getElem hlt]
      have hbw : b < wr.heap.size := World.block_lt_of_cell? wr _ c0
      generalize l[ps.length] = mm at c0 c1 c2 hpi hml HP2
      obtain ⟨pt, cl, us⟩ := mm
      simp only at c0 c1 c2 hpi hml
      obtain ⟨_, _, he⟩ := hpi.val
      simp only [Value.slice.injEq] at he
      obtain ⟨rfl, rfl, rfl⟩ := he
      have hb1 := (Below.refl wr.heap.size wr).alloc (Nat.le_refl _) (.cells #[.int .i64 pt, .int .i64 cl, .slice pa us.length pc] 36)
      have hbn := Blk.new wr 36 #[.int .i64 pt, .int .i64 cl, .slice pa us.length pc]
      have hs1 : (wr.alloc (.cells #[.int .i64 pt, .int .i64 cl, .slice pa us.length pc] 36)).heap.size = wr.heap.size + 1 := by simp
      have hpi1 := hpi.below hb1 (Nat.le_trans hn₀ hbel.size)
      have d0 := (hb1.cell (p := ⟨b, off + ps.length * 3 + 2, none⟩) hbw).trans c2
      go_upto_region 7 with fail
      generalize wr.alloc (.cells #[.int .i64 pt, .int .i64 cl, .slice pa us.length pc] 36) = W at hb1 hbn hs1 hpi1 d0 ⊢
      have HBW : Hid (W.heap.size = wr.heap.size + 1) := hs1
      have hsW : wr.heap.size < W.heap.size := by omega
      clear hs1
      have HUL : Hid (us.length ≤ 1048576) := hml
      go_cut [6] from 17 to 23 (fun v wx => ∃ a2 c2, v = .slice a2 us.length c2 ∧ IOwn wx W.heap.size (.slice a2 us.length c2) us ∧ Below W.heap.size W wx)
      case first =>
        by_cases h0 : us.length = 0
        · have hu0 : us = [] := List.eq_nil_of_length_eq_zero h0
          subst hu0
          clear HUL hml
          go_wp2_with (first | (at_builtin; refine wpList_append_none rfl _ _ rfl rfl pa pc rfl ?_))
          go_meet
          exact ⟨_, _, rfl, IOwn.nil _ _, Below.refl _ _⟩
        · obtain ⟨b4, o4, ha4, _, hb4, hcell4⟩ := hpi1.cell (fun e => h0 (by rw [e]; rfl))
          subst ha4
          have HC4 : Hid (∀ j, j < us.length → W.cell? ((⟨b4, o4, none⟩ : Addr).add j) = some (.int .i64 (us[j]?.getD 0))) := fun j hj => by
            rw [show (⟨b4, o4, none⟩ : Addr).add j = ⟨b4, o4 + j, none⟩ by simp [Addr.add]]; exact hcell4 j hj
          have hsum : ([] : List Int).length + us.length ≤ 1099511627776 := by simp; omega
          clear hcell4
          go_wp2_with (first | (at_builtin; refine wpList_append_ints rfl _ _ rfl W.heap.size _ [] rfl (IOwn.nil _ _) us ⟨b4, o4, none⟩ _ rfl HC4.out hsum (Nat.le_refl _) ?_; intro a6 c6 w6 hown6 hgr6 hnil6 hat6))
          go_meet
          exact ⟨a6, c6, by simp, by simpa using hown6, (Below.refl _ W).grown hgr6 (Nat.le_refl _) (fun j hj => by cases hj)⟩
      case rest =>
        obtain ⟨a2, c2', rfl, hown2, hbc⟩ := hcut
        have hb2 := (Below.refl W.heap.size wc).alloc hbc.size (.cells #[.int .i64 (-77)] 3)
        have hown2' : IOwn (wc.alloc (.cells #[.int .i64 (-77)] 3)) W.heap.size (.slice a2 us.length c2') us := World.ownsRow.alloc hown2 _
        have hn2 : ∀ j, j < ([-77] : List Int).length → (wc.alloc (.cells #[.int .i64 (-77)] 3)).cell? ((⟨wc.heap.size, 0, none⟩ : Addr).add j) = some (.int .i64 (([-77] : List Int)[j]?.getD 0)) := fun j hj => by
          have : j = 0 := by simp at hj; omega
          subst this
          exact (Blk.new wc 3 #[.int .i64 (-77)]).cell 0
        have HN2 : Hid (∀ j, j < ([-77] : List Int).length → (wc.alloc (.cells #[.int .i64 (-77)] 3)).cell? ((⟨wc.heap.size, 0, none⟩ : Addr).add j) = some (.int .i64 (([-77] : List Int)[j]?.getD 0))) := hn2
        have hsum : us.length + ([-77] : List Int).length ≤ 1099511627776 := by have := HUL.out; simp; omega
        have hsz2 : W.heap.size ≤ (wc.alloc (.cells #[.int .i64 (-77)] 3)).heap.size := by have := hbc.size; simp; omega
        clear hn2
        have HROW : Hid (∀ x, Below wr.heap.size wr x → x.ownsRow w.heap.size 36 3 (.slice av ps.length cv) ps.length (flatM ps)) := fun x hx => own_after hrow hx
        have HLP : Hid (∀ x, Below wr.heap.size wr x → ∀ y ∈ ps, LPart x w.heap.size y) := fun x hx y hy => (hparts y hy).after hx
        have hpsl : ps.length ≤ 1099511627776 := by omega
        clear hrow hparts
        go_upto_region 9 with (first | (at_builtin; refine wpList_append_ints rfl _ _ rfl W.heap.size _ us rfl hown2' [-77] ⟨wc.heap.size, 0, none⟩ _ rfl HN2.out hsum hsz2 ?_; intro a3 c3 w3 hown3 hgr3 hnil3 hat3; clear hnil3 hat3))
        have hb3 : Below W.heap.size W w3 := (hbc.trans hb2).grown hgr3 hsz2 (fun j hj => (own_ge hown2' hj).1)
        have d3 := (hb3.cell (p := ⟨b, off + ps.length * 3 + 2, none⟩) (show b < W.heap.size by omega)).trans d0
        have hbn3 := hbn.below hb3 hbn.lt
        obtain ⟨g3, hg3, hgW, hc3⟩ := hown3.some_of (by simp)
        subst hg3
        have hc3' : us.length + 1 ≤ c3 := by simpa using hc3
        have z2 := hbn3.frozen 2
        have y2 : w3.cell? ⟨wr.heap.size, 2, none⟩ = some (.slice pa us.length pc) := hbn3.cell 2
        have hbn4 := hbn3.set 2 (.slice (some ⟨g3, 0, none⟩) us.length c3)
        have f0 : (w3.setCell ⟨wr.heap.size, 2, none⟩ (.slice (some ⟨g3, 0, none⟩) us.length c3)).cell? ⟨wr.heap.size, 0, none⟩ = some (.int .i64 pt) := hbn4.cell 0
        have f1 : (w3.setCell ⟨wr.heap.size, 2, none⟩ (.slice (some ⟨g3, 0, none⟩) us.length c3)).cell? ⟨wr.heap.size, 1, none⟩ = some (.int .i64 cl) := hbn4.cell 1
        have f2 : (w3.setCell ⟨wr.heap.size, 2, none⟩ (.slice (some ⟨g3, 0, none⟩) us.length c3)).cell? ⟨wr.heap.size, 2, none⟩ = some (.slice (some ⟨g3, 0, none⟩) us.length c3) := hbn4.cell 2
        have hb3r : Below wr.heap.size wr w3 := hb1.trans (hb3.mono (Nat.le_of_lt hsW))
        have hb4 : Below wr.heap.size wr (w3.setCell ⟨wr.heap.size, 2, none⟩ (.slice (some ⟨g3, 0, none⟩) us.length c3)) := hb3r.setCell (Nat.le_refl _) _
        have hown4 : (w3.setCell ⟨wr.heap.size, 2, none⟩ (.slice (some ⟨g3, 0, none⟩) us.length c3)).ownsRow W.heap.size 3 1 (.slice (some ⟨g3, 0, none⟩) (us.length + 1) c3) (us.length + 1) ((us ++ [-77]).map (Value.int .i64)) := own_setCell (by simpa [IOwn] using hown3) hsW _
        have hc3c : (us.length : Int) ≤ (c3 : Int) := by omega
        clear hbn4 hbn3 hown3 hgr3 hown2' HN2 hb2 hsum hsz2 hbc hown2 hb3r hc3
        go_upto_region 10 with fail
        generalize w3.setCell ⟨wr.heap.size, 2, none⟩ (.slice (some ⟨g3, 0, none⟩) us.length c3) = w4 at f0 f1 f2 hb4 hown4 ⊢
        have hrow4 := HROW.out w4 hb4
        have hbase4 : w.heap.size ≤ w4.heap.size := Nat.le_trans hbel.size hb4.size
        clear y2 z2 d3 hb3
        go_wp2_with (first | (at_builtin; refine wpList_append_mark rfl _ _ rfl w.heap.size _ ps rfl hrow4 pt cl _ _ _ rfl hpsl hbase4 ?_; intro a5 c5 w5 hrow5 hgr5))
        have hrow4a := World.ownsRow.alloc hrow4 (.cells #[.int .i64 pt, .int .i64 cl, .slice (some ⟨g3, 0, none⟩) us.length c3] 36)
        have HB5 : Hid (Below w.heap.size w w5) := ((hbel.trans (hb4.mono hbel.size)).alloc hbase4 _).grown hgr5 (by simp; omega) (fun j hj => (own_ge hrow4 hj).1)
        have HL5 : Hid (∀ x ∈ ps ++ [((⟨pt, cl, us⟩ : PM), (.slice (some ⟨g3, 0, none⟩) us.length c3 : Value))], LPart w5 w.heap.size x) := fun x hx => by
          rcases List.mem_append.1 hx with hx | hx
          · exact ((HLP.out w4 hb4 x hx).alloc _).kept hrow4a hgr5
          · simp at hx
            subst hx
            refine ⟨g3, c3, rfl, ?_⟩
            have h6 : IOwn w4 w.heap.size (.slice (some ⟨g3, 0, none⟩) (us.length + 1) c3) (us ++ [-77]) := by
              unfold IOwn
              rw [List.length_append]
              exact ownsRow_mono hown4 (by have := hbel.size; omega)
            exact own_kept_row (World.ownsRow.alloc h6 _) hrow4a (by decide) hgr5
        clear hrow4a
        go_roundw
        case rel => exact ⟨ps ++ [(⟨pt, cl, us⟩, .slice (some ⟨g3, 0, none⟩) us.length c3)], by simp; omega, by simp, by rw [flatM_snoc, List.length_append]; exact hrow5, HL5.out, by show _ = _; rw [List.map_append, List.length_append]; exact HP2.out, HB5.out⟩
        case measure => simp only [intOf]; omega
    · have HF : Hid (ps.map Prod.fst = l) := by show _ = _; rw [HP.out, List.take_of_length_le (by omega)]
      have hpsl : ps.length ≤ 1099511627776 := by omega
      have hlen : l.length = ps.length := by omega
      have HLEN : Hid (l.length = ps.length) := hlen
      have hbs := hbel.size
      go_wp2_with (first | (at_builtin; refine wpList_append_mark rfl _ _ rfl w.heap.size _ ps rfl hrow (-77) 0 none 0 0 rfl hpsl hbs ?_; intro a5 c5 w5 hrow5 hgr5; obtain ⟨g5, cap5, e5, hc5, hg5, _⟩ := row_some hrow5 (by omega); cases e5))
      go_ret
      refine ⟨g5, c5, ps, by rw [HLEN.out]; rfl, HF.out, hrow5, fun x hx => ((hparts x hx).alloc _).kept (World.ownsRow.alloc hrow _) hgr5, (hbel.alloc hbs _).grown hgr5 (by simp; omega) (fun j hj => (own_ge hrow hj).1)⟩

/-- What lies in memory that was lent. -/
structure LentAt (w : World) (g cap : Nat) (l : List PM) : Prop where
  min : MIn w.heap.size w (.slice (some ⟨g, 0, none⟩) l.length cap) l
  room : l.length + 1 ≤ cap
  lt : g < w.heap.size
  mark : w.cell? ⟨g, l.length * 3, none⟩ = some (.int .i64 (-77))
  parts : ∀ j (h : j < l.length), ∃ gp cp, gp < w.heap.size ∧ w.cell? ⟨g, j * 3 + 2, none⟩ = some (.slice (some ⟨gp, 0, none⟩) (l[j]).parts.length cp) ∧ (l[j]).parts.length + 1 ≤ cp ∧ w.cell? ⟨gp, (l[j]).parts.length, none⟩ = some (.int .i64 (-77))
theorem LentAt.below {w w' : World} {g cap : Nat} {l : List PM} (h : LentAt w g cap l) (hb : Below w.heap.size w w') : LentAt w' g cap l where
  min := by
    have := h.min.below hb (Nat.le_refl _)
    rcases this with h1 | ⟨b, off, c, e, hlt, hc⟩
    · exact .inl h1
    · exact .inr ⟨b, off, c, e, Nat.lt_of_lt_of_le hlt hb.size, fun j hj => by
        obtain ⟨pa, pk, pc, q0, q1, q2, q3⟩ := hc j hj
        exact ⟨pa, pk, pc, q0, q1, q2, q3.mono hb.size⟩⟩
  room := h.room
  lt := Nat.lt_of_lt_of_le h.lt hb.size
  mark := (hb.cell (p := ⟨g, _, none⟩) h.lt).trans h.mark
  parts := fun j hj => by
    obtain ⟨gp, cp, q0, q1, q2, q3⟩ := h.parts j hj
    exact ⟨gp, cp, Nat.lt_of_lt_of_le q0 hb.size, (hb.cell (p := ⟨g, _, none⟩) h.lt).trans q1, q2, (hb.cell (p := ⟨gp, _, none⟩) q0).trans q3⟩
theorem flatM_len (ps : List (PM × Value)) : (flatM ps).length = ps.length * 3 := by
  induction ps with
  | nil => rfl
  | cons a r ih => simp [flatM] at ih ⊢; omega
theorem lentAt_of {w : World} {base g cap : Nat} {ps : List (PM × Value)} (hrow : w.ownsRow base 36 3 (.slice (some ⟨g, 0, none⟩) (ps.length + 1) cap) (ps.length + 1) (flatM ps ++ [.int .i64 (-77), .int .i64 0, .slice none 0 0])) (hlp : ∀ x ∈ ps, LPart w base x) : LentAt w g cap (ps.map Prod.fst) := by
  obtain ⟨g', cap', e, hc, hg, hcell⟩ := row_some hrow (by omega)
  cases e
  have hfl := flatM_len ps
  have hmark : w.cell? ⟨g, (ps.map Prod.fst).length * 3, none⟩ = some (.int .i64 (-77)) := hcell _ _ (by rw [List.length_map, List.getElem?_append_right (by omega), hfl]; simp)
  have hpart : ∀ j (h : j < ps.length), ∃ gp cp, gp < w.heap.size ∧ (ps[j]).2 = .slice (some ⟨gp, 0, none⟩) (ps[j]).1.parts.length cp ∧ (ps[j]).1.parts.length + 1 ≤ cp ∧ w.cell? ⟨gp, (ps[j]).1.parts.length, none⟩ = some (.int .i64 (-77)) ∧ Ints w.heap.size w (ps[j]).2 (ps[j]).1.parts := fun j hj => by
    obtain ⟨gp, cp, e1, ho⟩ := hlp _ (List.getElem_mem hj)
    have ho' : w.ownsRow base 3 1 (.slice (some ⟨gp, 0, none⟩) ((ps[j]).1.parts.length + 1) cp) ((ps[j]).1.parts.length + 1) (((ps[j]).1.parts ++ [-77]).map (Value.int .i64)) := by
      have := ho
      unfold IOwn at this
      rwa [List.length_append] at this
    obtain ⟨g2, c2, e2, h2, h3, h4⟩ := row_some ho' (by omega)
    cases e2
    refine ⟨gp, cp, h3, e1, h2, h4 _ _ (by simp), ?_⟩
    rw [e1]
    refine .inr ⟨gp, 0, cp, rfl, h3, fun i hi => ?_⟩
    rw [Nat.zero_add]
    refine h4 _ _ ?_
    rw [List.map_append, List.getElem?_append_left (by simpa using hi)]
    simp [hi]
  refine ⟨.inr ⟨g, 0, cap, rfl, hg, fun j hj => ?_⟩, by simpa using hc, hg, hmark, fun j hj => ?_⟩
  · have hj' : j < ps.length := by simpa using hj
    obtain ⟨h1, h2, h3⟩ := flatM_at ps j hj'
    obtain ⟨gp, cp, q0, q1, q2, q3, q4⟩ := hpart j hj'
    rw [q1] at q4 h3
    rw [Nat.zero_add]
    exact ⟨some ⟨gp, 0, none⟩, (ps[j]).1.parts.length, cp, hcell _ _ (by rw [List.getElem?_append_left (by omega), h1]; simp), hcell _ _ (by rw [List.getElem?_append_left (by omega), h2]; simp), hcell _ _ (by rw [List.getElem?_append_left (by omega), h3]), by simpa using q4⟩
  · have hj' : j < ps.length := by simpa using hj
    obtain ⟨_, _, h3⟩ := flatM_at ps j hj'
    obtain ⟨gp, cp, q0, q1, q2, q3, _⟩ := hpart j hj'
    rw [q1] at h3
    exact ⟨gp, cp, q0, by simpa using hcell _ _ (by rw [List.getElem?_append_left (by omega), h3]), by simpa using q2, by simpa using q3⟩

set_option maxHeartbeats 4000000 in
set_option maxRecDepth 20000 in
theorem kept_any (l : List PM) (hwt : wtM l ≤ 1048576) (g cap : Nat) (v : Value) (n₁ : Nat) (w : World) (hn₁ : n₁ ≤ w.heap.size) (hl : LentAt w g cap l) (hin : MIn n₁ w v l) :
    Calls Tryz.prog 18 #[.slice (some ⟨g, 0, none⟩) l.length cap, v] w fun e w' => e = .returned (.bool true) ∧ Below w.heap.size w w' := by
  have hll : l.length ≤ 1048576 := Nat.le_trans (wtM_len l) hwt
  have HPL : Hid (∀ m ∈ l, m.parts.length ≤ 1048576) := fun m hm => Nat.le_trans (wtM_parts hm) hwt
  have hsm := sameMarks_any _ _ l _ _ w hl.min hin (by omega) (fun m hm => Nat.le_trans (HPL.out m hm) (by omega))
  obtain ⟨a, cp, rfl⟩ := hin.val
  have hroom := hl.room
  clear hwt
  go_enter Tryz.func18, Tryz.ntmps18
  go_wp2_with fail
  refine hsm.mono ?_
  rintro e w1 ⟨rfl, hb1⟩
  have hl1 := hl.below hb1
  have hin1 := hin.below hb1 hn₁
  have m1 := hl1.mark
  have HB1 : Hid (Below w.heap.size w w1) := hb1
  have hcap2 : (l.length : Int) + 1 ≤ (cap : Int) := by omega
  clear hsm hl hin hb1
  go_wp2_with fail
  clear m1 hcap2
  go_loopw [6, 7] (fun i _ wr => ∃ k : Nat, k ≤ l.length ∧ i = .int .i64 k ∧ wr = w1) (fun i _ _ => l.length - (intOf i).toNat)
  case atStart => exact ⟨0, by omega, rfl, rfl⟩
  case round =>
    obtain ⟨k, hk, rfl, rfl⟩ := hrel
    by_cases hlt : k < l.length
    · obtain ⟨b, off, hao, pa, pk, pc, _, _, c2, hpi⟩ := hin1.at hlt
      subst hao
      obtain ⟨gp, cp', q0, q1, q2, q3⟩ := hl1.parts k hlt
      have hml := HPL.out _ (List.getElem_mem hlt)
      generalize l[k] = mm at c2 hpi q1 q2 q3 hml
      obtain ⟨_, _, e⟩ := hpi.val
      simp only [Value.slice.injEq] at e
      obtain ⟨rfl, rfl, rfl⟩ := e
      have hq2 : (mm.parts.length : Int) + 1 ≤ (cp' : Int) := by omega
      go_wp2_with fail
      go_roundw
      case rel => exact ⟨k + 1, by omega, by go_num, trivial⟩
      case measure => simp only [intOf]; omega
    · obtain rfl : k = l.length := by omega
      go_wp2_with fail
      go_ret
      exact ⟨rfl, HB1.out⟩

end Go.Proofs.YtpmckfmjegehgaaGreatDoor
