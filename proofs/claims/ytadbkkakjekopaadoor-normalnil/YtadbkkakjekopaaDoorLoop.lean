/- What needNoLoop does (a contract; nothing is claimed here). -/
import Derived.Test.YtadbkkakjekopaaDoorVisit
namespace Go.Proofs.YtadbkkakjekopaaDoor
open Go.RowKit Go.Vf Go.Maps

theorem placesC_length (L : List Mk) : (placesC L).length = L.length * 2 := by
  induction L with
  | nil => rfl
  | cons a r ih => simp only [placesC, List.flatMap_cons, List.length_append, List.length_cons, List.length_nil] at ih ⊢; omega
theorem placesC_at (L : List Mk) : ∀ (j : Nat) (hj : j < L.length), (placesC L)[j * 2]? = some (.int .i64 L[j].point) ∧ (placesC L)[j * 2 + 1]? = some (.int .i64 L[j].line) := by
  induction L with
  | nil => intro j hj; simp at hj
  | cons a r ih =>
    intro j hj
    cases j with
    | zero => simp [placesC]
    | succ j =>
      have := ih j (by simpa using hj)
      have e : placesC (a :: r) = .int .i64 a.point :: .int .i64 a.line :: placesC r := by simp [placesC]
      rw [e, show (j + 1) * 2 = j * 2 + 1 + 1 by omega]
      simpa using this

/-- The places in memory: a slice that is nil, or its cells. -/
def PL (w : World) (vp : Value) (L : List Mk) : Prop := (vp = .slice none 0 0 ∧ L = []) ∨ ∃ gp cap, vp = .slice (some ⟨gp, 0, none⟩) L.length cap ∧ gp < w.heap.size ∧ ∀ j (hj : j < L.length), w.cell? ⟨gp, j * 2, none⟩ = some (.int .i64 L[j].point) ∧ w.cell? ⟨gp, j * 2 + 1, none⟩ = some (.int .i64 L[j].line)
theorem PL.of {w : World} {base : Nat} {vp : Value} {L : List Mk} (h : w.ownsRow base 80 2 vp L.length (placesC L)) : PL w vp L := by
  rcases h.2 with ⟨rfl, h0⟩ | ⟨g, cap, cur, rfl, _, hg, _, _, _, ht⟩
  · exact .inl ⟨rfl, List.eq_nil_of_length_eq_zero h0⟩
  · refine .inr ⟨g, cap, rfl, (Array.getElem?_eq_some_iff.1 hg).1, fun j hj => ?_⟩
    obtain ⟨h1, h2⟩ := placesC_at L j hj
    rw [← ht] at h1 h2
    rw [List.getElem?_take_of_lt (by omega)] at h1 h2
    simp only [World.cell?, hg]
    exact ⟨by simpa using h1, by simpa using h2⟩
theorem PL.below {w w' : World} {vp : Value} {L : List Mk} (h : PL w vp L) (hb : Below w.heap.size w w') : PL w' vp L := by
  rcases h with h | ⟨gp, cap, e, hlt, hc⟩
  · exact .inl h
  · exact .inr ⟨gp, cap, e, Nat.lt_of_lt_of_le hlt hb.size, fun j hj => ⟨(hb.cell (p := ⟨gp, j * 2, none⟩) hlt).trans (hc j hj).1, (hb.cell (p := ⟨gp, j * 2 + 1, none⟩) hlt).trans (hc j hj).2⟩⟩
theorem PL.val {w : World} {vp : Value} {L : List Mk} (h : PL w vp L) : ∃ a cap, vp = .slice a L.length cap := by
  rcases h with ⟨rfl, rfl⟩ | ⟨gp, cap, rfl, _⟩
  · exact ⟨_, _, rfl⟩
  · exact ⟨_, _, rfl⟩

def LoopPost (L : List Mk) (S : TS) (w : World) (e : Ending) (w' : World) : Prop :=
  Below w.heap.size w w' ∧
  match L.find? (fun m => decide (S.loops m.point > 0)) with
  | some m => e = lostE 42 m.line
  | none => ∃ a k cap, e = .returned (.slice a k cap) ∧ IOwn w' w.heap.size (.slice a k cap) S.ord ∧ S.ord.length ≤ 1000000 ∧ ∀ x ∈ S.ord, InI x

theorem newWK (w : World) (bm : Nat) : WK ((((w.alloc (.map #[] 0)).alloc (.map #[] 0)).alloc (.cells #[.map (some bm), .map (some w.heap.size), .int .i64 0, .slice none 0 0, .slice none 0 0, .map (some (w.heap.size + 1))] 78))) w.heap.size (w.heap.size + 1 + 1) bm w.heap.size (w.heap.size + 1) (.slice none 0 0) (.slice none 0 0) TS.empty := by
  refine ⟨?_, by omega, by omega, by omega, by omega, by simp; omega, ?_, ?_, IOwn.nil _ _, IOwn.nil _ _, .inl rfl, by simp [TS.empty], by simp [TS.empty]⟩
  · have := Blk.new ((w.alloc (.map #[] 0)).alloc (.map #[] 0)) 78 #[.map (some bm), .map (some w.heap.size), .int .i64 0, .slice none 0 0, .slice none 0 0, .map (some (w.heap.size + 1))]
    simpa [TS.empty] using this
  · exact (((MapAt.made w).alloc _).alloc _)
  · have := (MapAt.made (w.alloc (.map #[] 0))).alloc (.cells #[.map (some bm), .map (some w.heap.size), .int .i64 0, .slice none 0 0, .slice none 0 0, .map (some (w.heap.size + 1))] 78)
    rw [show (w.alloc (.map #[] 0)).heap.size = w.heap.size + 1 by simp] at this
    exact this

set_option maxHeartbeats 4000000 in
set_option maxRecDepth 20000 in
theorem needNoLoop_any (bm n K : Nat) (vp : Value) (pv : Int → Value) (L : List Mk) (S : TS) (w : World) (hL : L.length ≤ 4096) (hpl : PL w vp L) (hmd : MD w w.heap.size bm n pv L) (hwalk : walkF (partsAt L) K (L.map Mk.point) TS.empty = some S) :
    Calls Tryd.prog 23 #[.map (some bm), vp] w fun e w' => LoopPost L S w e w' := by
  have hmm := @run_makeMap Tryd.prog
  have hwk0 := newWK w bm
  have hb0 : Below w.heap.size w ((((w.alloc (.map #[] 0)).alloc (.map #[] 0)).alloc (.cells #[.map (some bm), .map (some w.heap.size), .int .i64 0, .slice none 0 0, .slice none 0 0, .map (some (w.heap.size + 1))] 78))) := (((Below.refl _ w).alloc (Nat.le_refl _) _).alloc (by simp) _).alloc (by simp; omega) _
  obtain ⟨av, cv, rfl⟩ := hpl.val
  have HWK : Hid (walkF (partsAt L) K (L.map Mk.point) TS.empty = some S) := hwalk
  clear hwalk
  go_enter Tryd.func23, Tryd.ntmps23
  go_wp2_with fail
  generalize (((w.alloc (.map #[] 0)).alloc (.map #[] 0)).alloc (.cells #[.map (some bm), .map (some w.heap.size), .int .i64 0, .slice none 0 0, .slice none 0 0, .map (some (w.heap.size + 1))] 78)) = W0 at hwk0 hb0 ⊢
  have hmd0 := hmd.below hb0
  clear hmd hmm
  generalize w.heap.size + 1 + 1 = bw at hwk0 ⊢
  generalize w.heap.size + 1 = bl at hwk0 ⊢
  go_loopw [16] (fun i wr => ∃ (k : Nat) (Sj : TS) (vo vr : Value), k ≤ L.length ∧ i = .int .i64 k ∧ WK wr w.heap.size bw bm w.heap.size bl vo vr Sj ∧ Hid (walkF (partsAt L) K ((L.map Mk.point).drop k) Sj = some S) ∧ Below w.heap.size W0 wr) (fun i _ => L.length - (intOf i).toNat)
  case atStart => exact ⟨0, TS.empty, _, _, by omega, rfl, hwk0, by simpa using HWK, Below.refl _ _⟩
  case round =>
    obtain ⟨k, Sj, vo, vr, hk, rfl, hwkj, HK, hbelj⟩ := hrel
    have hplj := hpl.below (hb0.trans hbelj)
    clear hwk0 HWK
    by_cases hlt : k < L.length
    · rcases hplj with ⟨_, h0⟩ | ⟨gp, cap, he, hgp, hc⟩
      · rw [h0] at hlt; simp at hlt
      simp only [Value.slice.injEq] at he
      obtain ⟨rfl, _, rfl⟩ := he
      obtain ⟨c0, c1⟩ := hc k hlt
      have hd : (L.map Mk.point).drop k = L[k].point :: (L.map Mk.point).drop (k + 1) := by
        rw [List.drop_eq_getElem_cons (by simpa using hlt)]; simp
      have hpI := (hmd0.ins L[k] (List.getElem_mem hlt)).1
      have hmdj := hmd0.below hbelj
      have hKK := HK.out
      rw [hd, walkF] at hKK
      generalize L[k] = mk at c0 c1 hpI hKK
      cases hrq : reachF (partsAt L) K mk.point Sj with
      | none => rw [hrq] at hKK; cases hKK
      | some q3 =>
        obtain ⟨Sq, rq⟩ := q3
        rw [hrq] at hKK
        simp only at hKK
        have HK2 : Hid (walkF (partsAt L) K ((L.map Mk.point).drop (k + 1)) Sq = some S) := hKK
        have hb1 := (Below.refl wr.heap.size wr).alloc (Nat.le_refl _) (.cells #[.int .i64 mk.point, .int .i64 mk.line] 80)
        have hwk1 := hwkj.below hb1
        have hmd1 := hmdj.below (hb1.mono hwkj.sz)
        have HRQ : Hid (reachF (partsAt L) K mk.point Sj = some (Sq, rq)) := hrq
        clear hc hd hKK HK hrq
        go_wp2_with fail
        refine (reach_of w.heap.size bw bm w.heap.size bl n K pv L (visit_any w.heap.size bw bm w.heap.size bl n pv L K) mk.point Sj Sq rq vo vr _ hpI HRQ.out hwk1 hmd1).mono ?_
        rintro e w3 ⟨rfl, vo3, vr3, hwk3, hbel3⟩
        have hb3 : Below w.heap.size W0 w3 := (hbelj.trans (hb1.mono hwkj.sz)).trans hbel3
        clear hmd1 hwk1 HRQ c0 c1
        go_wp2_with fail
        go_roundw
        case rel => exact ⟨k + 1, Sq, vo3, vr3, by omega, by simp, hwk3, HK2, hb3⟩
        case measure => simp only [intOf]; omega
    · have hKK := HK.out
      rw [List.drop_of_length_le (by simp; omega), walkF] at hKK
      simp only [Option.some.injEq] at hKK
      subst hKK
      clear HK
      generalize hF : L.find? (fun m => decide (Sj.loops m.point > 0)) = F
      have HF : Hid (L.find? (fun m => decide (Sj.loops m.point > 0)) = F) := hF
      have hpost : ∀ (e : Ending) (w' : World), (Below w.heap.size w w' ∧ match F with
        | some m => e = lostE 42 m.line
        | none => ∃ a k cap, e = .returned (.slice a k cap) ∧ IOwn w' w.heap.size (.slice a k cap) Sj.ord ∧ Sj.ord.length ≤ 1000000 ∧ ∀ x ∈ Sj.ord, InI x) → LoopPost L Sj w e w' := fun e w' h => by unfold LoopPost; rw [hF]; exact h
      have HPO : Hid (∀ (e : Ending) (w' : World), (Below w.heap.size w w' ∧ match F with
        | some m => e = lostE 42 m.line
        | none => ∃ a k cap, e = .returned (.slice a k cap) ∧ IOwn w' w.heap.size (.slice a k cap) Sj.ord ∧ Sj.ord.length ≤ 1000000 ∧ ∀ x ∈ Sj.ord, InI x) → LoopPost L Sj w e w') := hpost
      clear hF hpost
      go_wp2_with fail
      go_loopw [26] (fun i wr => ∃ (k : Nat), k ≤ L.length ∧ i = .int .i64 k ∧ WK wr w.heap.size bw bm w.heap.size bl vo vr Sj ∧ Hid ((L.drop k).find? (fun m => decide (Sj.loops m.point > 0)) = F) ∧ Below w.heap.size w wr) (fun i _ => L.length - (intOf i).toNat)
      case atStart => exact ⟨0, by omega, rfl, hwkj, by simpa using HF, hb0.trans hbelj⟩
      case round =>
        clear hwkj HF hbelj hplj
        obtain ⟨k2, hk2, rfl, hwkr, HK2, hbelr⟩ := hrel
        have hplr := hpl.below hbelr
        by_cases hlt2 : k2 < L.length
        · rcases hplr with ⟨_, h0⟩ | ⟨gp, cap, he, hgp, hc⟩
          · rw [h0] at hlt2; simp at hlt2
          simp only [Value.slice.injEq] at he
          obtain ⟨rfl, _, rfl⟩ := he
          obtain ⟨c0, c1⟩ := hc k2 hlt2
          have hd : L.drop k2 = L[k2] :: L.drop (k2 + 1) := List.drop_eq_getElem_cons hlt2
          have hpI := (hmd0.ins L[k2] (List.getElem_mem hlt2)).1
          have hKK := HK2.out
          rw [hd, List.find?_cons] at hKK
          generalize L[k2] = mk at c0 c1 hpI hKK
          have hb1 := (Below.refl wr.heap.size wr).alloc (Nat.le_refl _) (.cells #[.int .i64 mk.point, .int .i64 mk.line] 80)
          have hwk1 := hwkr.below hb1
          have b5 : (wr.alloc (.cells #[.int .i64 mk.point, .int .i64 mk.line] 80)).cell? ⟨bw, 5, none⟩ = some (.map (some bl)) := hwk1.blk.cell 5
          have hl := hwk1.loops.look Tryd.underlying76 (zero3 _) hpI
          rw [intsF_get] at hl
          have hbel1 : Below w.heap.size w (wr.alloc (.cells #[.int .i64 mk.point, .int .i64 mk.line] 80)) := hbelr.trans (hb1.mono hwkr.sz)
          by_cases hpos : Sj.loops mk.point > 0
          · have hFm : F = some mk := by rw [← hKK]; simp [hpos]
            clear hKK HK2 hd hc
            go_wp2_with fail
            refine ⟨rfl, HPO.out _ _ ⟨hbel1, ?_⟩⟩
            rw [hFm]
          · have HK3 : Hid ((L.drop (k2 + 1)).find? (fun m => decide (Sj.loops m.point > 0)) = F) := by show _ = _; rw [← hKK]; simp [hpos]
            clear hKK HK2 hd hc
            go_wp2_with fail
            go_roundw
            case rel => exact ⟨k2 + 1, by omega, by simp, hwk1, HK3, hbel1⟩
            case measure => simp only [intOf]; omega
        · have hFm : F = none := by rw [← HK2.out, List.drop_of_length_le (by omega)]; rfl
          have b4 := hwkr.blk.cell 4
          simp only [List.getElem?_toArray, List.getElem?_cons_zero, List.getElem?_cons_succ] at b4
          have hord := hwkr.ord
          have hcO := hwkr.cnt
          have hinsO := hwkr.ins.2
          obtain ⟨ar, cr, rfl⟩ := hord.val
          clear HK2
          go_wp2_with fail
          go_ret
          refine HPO.out _ _ ⟨hbelr, ?_⟩
          rw [hFm]
          exact ⟨_, _, _, rfl, hord, by omega, hinsO⟩

end Go.Proofs.YtadbkkakjekopaaDoor
