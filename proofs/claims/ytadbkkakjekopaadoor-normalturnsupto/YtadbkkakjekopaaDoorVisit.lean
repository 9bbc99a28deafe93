/- What the walk's reach and visit do (contracts; nothing is claimed here). -/
import Derived.Test.YtadbkkakjekopaaDoorSettle
namespace Go.Proofs.YtadbkkakjekopaaDoor
open Go.RowKit Go.Vf Go.Maps

/-- The walk's memory while a visit begins: the count is raised, the point is met. -/
theorem WK.met1 {w : World} {base bw bm bt bl : Nat} {vo vr : Value} {S : TS} (h : WK w base bw bm bt bl vo vr S) (c : Int) : Blk (w.setCell ⟨bw, 2, none⟩ (.int .i64 c)) bw 78 #[.map (some bm), .map (some bt), .int .i64 c, vo, vr, .map (some bl)] ∧
    MapAt (w.setCell ⟨bw, 2, none⟩ (.int .i64 c)) bt (S.count.toNat + S.ord.length) (intsF S.met) := by
  refine ⟨by simpa [Blk] using h.blk.set 2 (.int .i64 c), h.met.setCell (a := ⟨bw, 2, none⟩) (fun e => map_ne_blk h.blk h.met e.symm) _⟩

/-- .. -/
theorem WK.met2 {w w2 : World} {base bw bm bt bl : Nat} {vo vr : Value} {S : TS} {p : Int} (h : WK w base bw bm bt bl vo vr S) (hc : S.count < 1000000)
    (hm2 : MapAt w2 bt (S.count.toNat + S.ord.length + 1) (intsF (upd S.met p (S.count + 1)))) (hg2 : (w.setCell ⟨bw, 2, none⟩ (.int .i64 (S.count + 1))).grownBy w2 (some bt)) :
    WK w2 base bw bm bt bl vo vr { S with met := upd S.met p (S.count + 1), count := S.count + 1 } ∧ Below base w w2 := by
  have hb1 : Blk (w.setCell ⟨bw, 2, none⟩ (.int .i64 (S.count + 1))) bw 78 #[.map (some bm), .map (some bt), .int .i64 (S.count + 1), vo, vr, .map (some bl)] := (h.met1 _).1
  have hm1 := (h.met1 (S.count + 1)).2
  have own1 : ∀ {v : Value} {zs : List Int}, IOwn w base v zs → IOwn w2 base v zs := fun {v zs} h1 => by
    have h2 : IOwn (w.setCell ⟨bw, 2, none⟩ (.int .i64 (S.count + 1))) base v zs := ownsRow_setCell_other h1 (a := ⟨bw, 2, none⟩) (fun e => own_ne_blk h1 h.blk (by decide) e.symm) _
    exact own_kept_map h2 hm1 hg2
  have hlo1 : MapAt (w.setCell ⟨bw, 2, none⟩ (.int .i64 (S.count + 1))) bl S.ord.length (intsF S.loops) := h.loops.setCell (a := ⟨bw, 2, none⟩) (fun e => map_ne_blk h.blk h.loops e.symm) _
  have hcn := h.cnt
  have hs2 := hg2.size
  simp at hs2
  refine ⟨⟨(hg2.block bw hb1.lt (fun e => map_ne_blk hb1 hm1 (by simpa using e))).trans hb1, h.gw, h.gt, h.gl, h.ne, by have := h.sz; omega, ?_, hlo1.kept hg2 (fun e => h.ne (by simpa using e.symm)), own1 h.opn, own1 h.ord, h.sep, ?_, h.ins⟩, ?_⟩
  · refine MapAt.mono hm2 ?_
    show S.count.toNat + S.ord.length + 1 ≤ (S.count + 1).toNat + S.ord.length
    omega
  · show 0 ≤ S.count + 1 ∧ S.count + 1 ≤ 1000000 ∧ (S.opn.length + S.ord.length : Int) ≤ S.count + 1
    omega
  · exact ((Below.refl base w).setCell (p := ⟨bw, 2, none⟩) h.gw _).grown hg2 (by simpa using h.sz) (fun j hj => by cases hj; exact h.gt)

/-- .. the point is opened. -/
theorem WK.start {w w4 : World} {base bw bm bt bl : Nat} {vo vr vo' : Value} {S : TS} {p : Int} {o : Obj} (h : WK w base bw bm bt bl vo vr S) (hp : InI p) (hc : (S.opn.length + S.ord.length + 1 : Int) ≤ S.count)
    (ho : IOwn w4 base vo' (S.opn ++ [p])) (hg4 : (w.alloc o).grownBy w4 vo.ownBlock) (hat : vo'.ownBlock = vo.ownBlock ∨ vo'.ownBlock = some (w.alloc o).heap.size) (hne : vo'.ownBlock ≠ none) :
    Blk w4 bw 78 #[.map (some bm), .map (some bt), .int .i64 S.count, vo, vr, .map (some bl)] ∧
    WK (w4.setCell ⟨bw, 3, none⟩ vo') base bw bm bt bl vo' vr { S with opn := S.opn ++ [p] } ∧ Below base w (w4.setCell ⟨bw, 3, none⟩ vo') := by
  have hopa := World.ownsRow.alloc h.opn o
  have hora := World.ownsRow.alloc h.ord o
  have hba : Blk (w.alloc o) bw 78 #[.map (some bm), .map (some bt), .int .i64 S.count, vo, vr, .map (some bl)] := (Below.heap_alloc w o bw h.blk.lt).trans h.blk
  have hb4 : Blk w4 bw 78 #[.map (some bm), .map (some bt), .int .i64 S.count, vo, vr, .map (some bl)] := (hg4.block bw hba.lt (own_ne_blk hopa hba (by decide))).trans hba
  have hsep : vr.ownBlock = none ∨ vr.ownBlock ≠ vo.ownBlock := by
    cases hr : vr.ownBlock with
    | none => exact .inl rfl
    | some j =>
      right
      intro e
      rcases h.sep with h1 | h1
      · rw [h1] at e; cases e
      · exact h1 (by rw [hr, e])
  have hor4 : IOwn w4 base vr S.ord := World.ownsRow.kept hora hg4 hsep
  have own2 : ∀ {v : Value} {zs : List Int}, IOwn w4 base v zs → IOwn (w4.setCell ⟨bw, 3, none⟩ vo') base v zs := fun {v zs} h1 => ownsRow_setCell_other h1 (a := ⟨bw, 3, none⟩) (fun e => own_ne_blk h1 hb4 (by decide) e.symm) _
  have map2 : ∀ {b n : Nat} {f : Int → Option Value}, MapAt w b n f → MapAt (w4.setCell ⟨bw, 3, none⟩ vo') b n f := fun {b n f} h1 => by
    have h2 : MapAt w4 b n f := map_kept_row hopa (h1.alloc o) hg4
    exact h2.setCell (a := ⟨bw, 3, none⟩) (fun e => map_ne_blk hb4 h2 e.symm) _
  have hcn := h.cnt
  have hs4 := hg4.size
  simp at hs4
  refine ⟨hb4, ⟨?_, h.gw, h.gt, h.gl, h.ne, by have := h.sz; simp; omega, map2 h.met, map2 h.loops, own2 ho, own2 hor4, ?_, ?_, ?_⟩, ?_⟩
  · simpa [Blk] using hb4.set 3 vo'
  · right
    rcases hat with e | e
    · rw [e]
      rcases h.sep with h1 | h1
      · rw [e] at hne; exact absurd h1 hne
      · exact h1
    · rw [e]
      intro e2
      have := (World.ownsRow.lt hora _ e2.symm).2
      omega
  · show 0 ≤ S.count ∧ S.count ≤ 1000000 ∧ (((S.opn ++ [p]).length + S.ord.length : Nat) : Int) ≤ S.count
    rw [List.length_append]; simp; omega
  · exact ⟨fun x hx => by
      rcases List.mem_append.1 hx with hx | hx
      · exact h.ins.1 x hx
      · simp at hx; subst hx; exact hp, h.ins.2⟩
  · exact (((Below.refl base w).alloc h.sz o).grown hg4 (by have := h.sz; simp; omega) (fun j hj => (own_ge hopa hj).1)).setCell (p := ⟨bw, 3, none⟩) h.gw _

theorem own_some {w : World} {base : Nat} {v : Value} {zs : List Int} (h : IOwn w base v zs) (hne : zs ≠ []) : v.ownBlock ≠ none := by
  rcases h.form with ⟨_, h0⟩ | ⟨g, cap, rfl, _⟩
  · exact absurd h0 hne
  · simp [Value.ownBlock]

/-- What a visit leaves. -/
def VisitPost (base bw bm bt bl : Nat) (S' : TS) (r : Int) (w : World) (e : Ending) (w' : World) : Prop :=
  e = .returned (.int .i64 r) ∧ ∃ vo vr, WK w' base bw bm bt bl vo vr S' ∧ Below base w w'

set_option maxHeartbeats 1000000 in
theorem reach_of (base bw bm bt bl n k : Nat) (pv : Int → Value) (L : List Mk)
    (ih : ∀ (p : Int) (S S' : TS) (r : Int) (vo vr : Value) (w : World), InI p → visitF (partsAt L) k p S = some (S', r) → WK w base bw bm bt bl vo vr S → MD w base bm n pv L →
      Calls Tryd.prog 58 #[.pointer (some ⟨bw, 0, none⟩), .int .i64 p] w fun e w' => VisitPost base bw bm bt bl S' r w e w')
    (p : Int) (S S' : TS) (r : Int) (vo vr : Value) (w : World) (hp : InI p) (hv : reachF (partsAt L) k p S = some (S', r)) (hwk : WK w base bw bm bt bl vo vr S) (hmd : MD w base bm n pv L) :
    Calls Tryd.prog 43 #[.pointer (some ⟨bw, 0, none⟩), .int .i64 p] w fun e w' => VisitPost base bw bm bt bl S' r w e w' := by
  have b1 : w.cell? ⟨bw, 1, none⟩ = some (.map (some bt)) := hwk.blk.cell 1
  have hl := hwk.met.look Tryd.underlying76 (zero3 w) hp
  rw [intsF_get] at hl
  unfold reachF at hv
  by_cases hm : S.met p > 0
  · rw [if_pos hm] at hv
    simp only [Option.some.injEq, Prod.mk.injEq] at hv
    obtain ⟨rfl, rfl⟩ := hv
    go_enter Tryd.func43, Tryd.ntmps43
    go_wp2_with fail
    go_ret
    exact ⟨rfl, _, _, hwk, Below.refl _ _⟩
  · rw [if_neg hm] at hv
    go_enter Tryd.func43, Tryd.ntmps43
    go_wp2_with fail
    refine (ih p S S' r vo vr w hp hv hwk hmd).mono ?_
    rintro e w2 ⟨rfl, hpost⟩
    go_wp2
    go_ret
    exact ⟨rfl, hpost⟩

set_option maxHeartbeats 4000000 in
set_option maxRecDepth 20000 in
theorem visit_any (base bw bm bt bl n : Nat) (pv : Int → Value) (L : List Mk) : ∀ (k : Nat) (p : Int) (S S' : TS) (r : Int) (vo vr : Value) (w : World), InI p → visitF (partsAt L) k p S = some (S', r) → WK w base bw bm bt bl vo vr S → MD w base bm n pv L →
      Calls Tryd.prog 58 #[.pointer (some ⟨bw, 0, none⟩), .int .i64 p] w fun e w' => VisitPost base bw bm bt bl S' r w e w' := by
  intro k
  induction k with
  | zero => intro p S S' r vo vr w _ hv _ _; cases hv
  | succ k ih =>
    intro p S S' r vo vr w hp hv hwk hmd
    rw [visitF_succ] at hv
    by_cases hcount : S.count < 1000000
    · rw [if_pos hcount] at hv
      have hcn := hwk.cnt
      have hcn0 : 0 ≤ S.count := hcn.1
      obtain ⟨ao, co, rfl⟩ := hwk.opn.val
      have b2 : w.cell? ⟨bw, 2, none⟩ = some (.int .i64 S.count) := hwk.blk.cell 2
      have f2 := hwk.blk.frozen 2
      have hb1 := (hwk.met1 (S.count + 1)).1
      have hm1 := (hwk.met1 (S.count + 1)).2
      have q2 : (w.setCell ⟨bw, 2, none⟩ (.int .i64 (S.count + 1))).cell? ⟨bw, 2, none⟩ = some (.int .i64 (S.count + 1)) := hb1.cell 2
      have q3 : (w.setCell ⟨bw, 2, none⟩ (.int .i64 (S.count + 1))).cell? ⟨bw, 3, none⟩ = some (.slice ao S.opn.length co) := hb1.cell 3
      have q1 : (w.setCell ⟨bw, 2, none⟩ (.int .i64 (S.count + 1))).cell? ⟨bw, 1, none⟩ = some (.map (some bt)) := hb1.cell 1
      go_enter Tryd.func58, Tryd.ntmps58
      go_wp2_with fail
      generalize hW1 : w.setCell ⟨bw, 2, none⟩ (.int .i64 (S.count + 1)) = W1 at hb1 hm1 q1 q2 q3 ⊢
      go_quiet (fail)
      have hm1' : MapAt (W1.drewN nq) bt (S.count.toNat + S.ord.length) (intsF S.met) := hm1.block rfl
      obtain ⟨w2, hup2, hm2, hg2, hs2⟩ := hm1'.update Tryd.underlying76 (by unfold maxLen; omega) hp (.int .i64 (S.count + 1))
      rw [intsF_upd _ _ _ (by omega)] at hm2
      obtain ⟨hwk2, hbel2⟩ := hwk.met2 hcount hm2 (by rw [hW1]; exact ⟨hg2.os, hg2.tape, hg2.output, hg2.size, hg2.block⟩)
      have hb2 := hwk2.blk
      have r0 : w2.cell? ⟨bw, 0, none⟩ = some (.map (some bm)) := hb2.cell 0
      have r3 : w2.cell? ⟨bw, 3, none⟩ = some (.slice ao S.opn.length co) := hb2.cell 3
      have hop2 := hwk2.opn
      have hsz2 := hwk2.sz
      have HST := fun (w4 : World) (vo' : Value) => WK.start (w := w2) (w4 := w4) (vo' := vo') (p := p) (o := .cells #[.int .i64 p] 3) hwk2 hp (by show (S.opn.length + S.ord.length + 1 : Int) ≤ S.count + 1; omega)
      have HS : Hid (∀ (w4 : World) (vo' : Value), IOwn w4 base vo' (S.opn ++ [p]) → (w2.alloc (.cells #[.int .i64 p] 3)).grownBy w4 (Value.slice ao S.opn.length co).ownBlock → (vo'.ownBlock = (Value.slice ao S.opn.length co).ownBlock ∨ vo'.ownBlock = some (w2.alloc (.cells #[.int .i64 p] 3)).heap.size) → vo'.ownBlock ≠ none → _) := HST
      clear HST
      have hl1 : S.opn.length + [p].length ≤ 1099511627776 := by simp; omega
      have hbs : base ≤ (w2.alloc (.cells #[.int .i64 p] 3)).heap.size := by simp; omega
      clear hs2 q2 q3 hm1 hm1' hb1 b2 f2 hm2 hg2
      go_wp2_with (first | (at_builtin; refine wpList_append_ints rfl _ _ rfl base _ S.opn rfl (World.ownsRow.alloc hop2 _) [p] ⟨w2.heap.size, 0, none⟩ 1 rfl (cell_one p w2) hl1 hbs ?_; intro a4 c4 w4 hown4 hgr4 hnil4 hat4; obtain ⟨y1, y2, y3⟩ := HS.out w4 _ hown4 hgr4 hat4 (own_some hown4 (by simp)); simp only [List.length_cons, List.length_nil, Nat.zero_add] at y2 y3; obtain ⟨cm, am, km, cpm, hlm, him, hkm, hkl, hqi⟩ := (hmd.below (hbel2.trans y3)).look hp; have hlm' := hlm _ rfl; have hf1 := field1 cm (.slice am km cpm) (.slice none 0 0); clear hlm; have HKM : Hid (km = (partsAt L p).length) := hkm; clear hkm; have z3 : w4.cell? ⟨bw, 3, none⟩ = some (.slice ao S.opn.length co) := y1.cell 3; have zf3 := y1.frozen 3; have z0 : w4.cell? ⟨bw, 0, none⟩ = some (.map (some bm)) := y1.cell 0))
      generalize w4.setCell ⟨bw, 3, none⟩ (.slice a4 (S.opn.length + 1) c4) = W5 at y2 y3 him hlm' ⊢
      have y2' : WK W5 base bw bm bt bl (.slice a4 (S.opn.length + 1) c4) vr (startF S p) := y2
      have hbel5 := hbel2.trans y3
      have hmd5 := hmd.below hbel5
      clear y2 y1 y3 z3 zf3 z0 HS hop2 hb2 r0 r3 hup2 hwk2 hbel2 hwk hmd q1 hlm' hf1 hown4 hgr4 hnil4 hat4
      cases hpf : partsF (reachF (partsAt L) k) (partsAt L p) (startF S p) (S.count + 1) with
      | none => rw [hpf] at hv; cases hv
      | some q2 =>
        obtain ⟨S2, l2⟩ := q2
        rw [hpf] at hv
        simp only at hv
        have HP : Hid (partsF (reachF (partsAt L) k) (partsAt L p) (startF S p) (S.count + 1) = some (S2, l2)) := hpf
        have HV : Hid ((if l2 = S.count + 1 then (if S.opn.length < S2.opn.length then some (settleF (partsAt L) S2 S.opn.length, l2) else none) else some (S2, l2)) = some (S', r)) := hv
        have HI : Hid (∀ (p : Int) (S S' : TS) (r : Int) (vo vr : Value) (w : World), InI p → visitF (partsAt L) k p S = some (S', r) → WK w base bw bm bt bl vo vr S → MD w base bm n pv L → Calls Tryd.prog 58 #[.pointer (some ⟨bw, 0, none⟩), .int .i64 p] w fun e w' => VisitPost base bw bm bt bl S' r w e w') := ih
        clear hpf hv ih hW1
        go_loopw [7, 51] (fun l i wr => ∃ (j : Nat) (Sj : TS) (lj : Int) (vo vr : Value), j ≤ km ∧ i = .int .i64 j ∧ l = .int .i64 lj ∧ WK wr base bw bm bt bl vo vr Sj ∧ Hid (partsF (reachF (partsAt L) k) ((partsAt L p).drop j) Sj lj = some (S2, l2)) ∧ Below base W5 wr) (fun _ i _ => km - (intOf i).toNat)
        case atStart => exact ⟨0, startF S p, S.count + 1, _, vr, by omega, rfl, rfl, y2', by simpa using HP, Below.refl _ _⟩
        case round =>
          obtain ⟨j, Sj, lj, vo, vr', hj, rfl, rfl, hwkj, HK, hbelj⟩ := hrel
          by_cases hlt : j < km
          · have hltp : j < (partsAt L p).length := by rw [← HKM.out]; exact hlt
            have hd : (partsAt L p).drop j = (partsAt L p)[j] :: (partsAt L p).drop (j + 1) := List.drop_eq_getElem_cons hltp
            have himj := him.below hbelj (Nat.le_refl _)
            obtain ⟨bp, op, hao, hnk, hblt, hcell⟩ := himj.cell (fun e => by rw [e] at hltp; simp at hltp)
            have hcj := hcell j hltp
            rw [show (partsAt L p)[j]?.getD 0 = (partsAt L p)[j] by simp [List.getElem?_eq_getElem hltp]] at hcj
            have hqI := hqi _ (List.getElem_mem hltp)
            have hmdj := hmd5.below hbelj
            have hKK := HK.out
            rw [hd, partsF] at hKK
            generalize (partsAt L p)[j] = q at hcj hqI hKK
            subst hao
            cases hrq : reachF (partsAt L) k q Sj with
            | none => rw [hrq] at hKK; cases hKK
            | some q3 =>
              obtain ⟨Sq, rq⟩ := q3
              rw [hrq] at hKK
              simp only at hKK
              have HK2 : Hid (partsF (reachF (partsAt L) k) ((partsAt L p).drop (j + 1)) Sq (min lj rq) = some (S2, l2)) := hKK
              have HRQ : Hid (reachF (partsAt L) k q Sj = some (Sq, rq)) := hrq
              clear hcell himj hd HK hKK hrq hltp hnk
              go_wp2_with fail
              refine (reach_of base bw bm bt bl n k pv L HI.out q Sj Sq rq vo vr' _ hqI HRQ.out hwkj hmdj).mono ?_
              rintro e w6 ⟨rfl, vo6, vr6, hwk6, hbel6⟩
              by_cases hmin : lj ≤ rq
              · have hm : min lj rq = lj := Int.min_eq_left hmin
                rw [hm] at HK2
                go_wp2_with fail
                go_roundw
                case rel => exact ⟨j + 1, Sq, lj, vo6, vr6, by omega, by simp, rfl, hwk6, HK2, hbelj.trans hbel6⟩
                case measure => simp only [intOf]; omega
              · have hm : min lj rq = rq := Int.min_eq_right (by omega)
                rw [hm] at HK2
                go_wp2_with fail
                go_roundw
                case rel => exact ⟨j + 1, Sq, rq, vo6, vr6, by omega, by simp, rfl, hwk6, HK2, hbelj.trans hbel6⟩
                case measure => simp only [intOf]; omega
          · have hjk : j = km := by omega
            have hKK := HK.out
            rw [List.drop_of_length_le (by rw [← HKM.out]; omega), partsF] at hKK
            simp only [Option.some.injEq, Prod.mk.injEq] at hKK
            obtain ⟨rfl, rfl⟩ := hKK
            have hVV := HV.out
            have hbw : Below base w wr := hbel5.trans hbelj
            by_cases hls : lj = S.count + 1
            · rw [if_pos hls] at hVV
              by_cases hfl : S.opn.length < Sj.opn.length
              · rw [if_pos hfl] at hVV
                simp only [Option.some.injEq, Prod.mk.injEq] at hVV
                obtain ⟨rfl, rfl⟩ := hVV
                have hmdr := hmd5.below hbelj
                obtain ⟨at_, hat⟩ : ∃ at_, at_ = S.count + 1 := ⟨_, rfl⟩
                have hls' : (lj == S.count + 1) = true := by simpa using hls
                clear HV HP HI HK him
                go_wp2_with fail
                refine (settle_any base bw bm bt bl n vo vr' pv L Sj S.opn.length _ hfl hwkj hmdr).mono ?_
                rintro e w7 ⟨rfl, vo7, vr7, hwk7, hbel7⟩
                go_wp2
                go_ret
                refine ⟨?_, vo7, vr7, hwk7, hbw.trans hbel7⟩
                first | rfl | (rw [hls]; rfl)
              · rw [if_neg hfl] at hVV; cases hVV
            · rw [if_neg hls] at hVV
              simp only [Option.some.injEq, Prod.mk.injEq] at hVV
              obtain ⟨rfl, rfl⟩ := hVV
              have hls' : (lj == S.count + 1) = false := by simpa using hls
              clear HV HP HI HK him
              go_wp2_with fail
              go_ret
              exact ⟨rfl, vo, vr', hwkj, hbw⟩
    · rw [if_neg hcount] at hv; cases hv

end Go.Proofs.YtadbkkakjekopaaDoor
