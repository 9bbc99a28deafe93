/- What dovetaillaw04.spoiled does (a contract; nothing is claimed here). -/
import Derived.Test.YtpmckfmjegehgaaGreatDoorRefX
namespace Go.Proofs.YtpmckfmjegehgaaGreatDoor
open Go.RowKit Go.Vf Go.Maps

theorem IOwn.set {w : World} {base g n c : Nat} {zs : List Int} (h : IOwn w base (.slice (some ⟨g, 0, none⟩) n c) zs) (k : Nat) (_hk : k < zs.length) (z : Int) : IOwn (w.setCell ⟨g, k, none⟩ (.int .i64 z)) base (.slice (some ⟨g, 0, none⟩) n c) (zs.set k z) := by
  rcases h.2 with ⟨e, _⟩ | ⟨g', cap, cur, e, hb, hg, hn, hm, hs, ht⟩
  · cases e
  · simp only [Value.slice.injEq, Option.some.injEq, Addr.mk.injEq] at e
    obtain ⟨⟨rfl, _, _⟩, rfl, rfl⟩ := e
    refine ⟨by simp, .inr ⟨g, c, cur.setIfInBounds k (.int .i64 z), by simp, hb, ?_, by simpa using hn, hm, by simpa using hs, ?_⟩⟩
    · exact (show Blk w g 3 cur from hg).set k (.int .i64 z)
    · rw [List.length_set, Array.toList_setIfInBounds, List.take_set, ht, List.map_set]
theorem grownBy_set {w w' : World} {g k : Nat} {v : Value} (h : w.grownBy w' (some g)) : w.grownBy (w'.setCell ⟨g, k, none⟩ v) (some g) :=
  ⟨h.os, h.tape, h.output, by simpa [World.setCell] using h.size, fun j hj hne => (Below.heap_setCell _ ⟨g, k, none⟩ _ j (by show j ≠ g; intro e; subst e; exact hne rfl)).trans (h.block j hj hne)⟩

set_option maxHeartbeats 4000000 in
set_option maxRecDepth 20000 in
theorem spoiled_any (zs : List Int) (hl : zs.length ≤ 1000000) (v : Value) (base : Nat) (w : World) (hbase : base ≤ w.heap.size) (hown : IOwn w base v zs) :
    Calls Tryz.prog 35 #[v] w fun e w' => e = .returned (.tuple #[]) ∧ w.grownBy w' v.ownBlock := by
  obtain ⟨av, cv, rfl⟩ := hown.val
  obtain ⟨L, hL⟩ : ∃ L, zs.length = L := ⟨_, rfl⟩
  rw [hL] at hl hown ⊢
  have HL : Hid (zs.length = L) := hL
  clear hL
  go_enter Tryz.func35, Tryz.ntmps35
  go_wp2_with fail
  go_loopw [2] (fun i wr => ∃ (k : Nat) (cur : List Int), k ≤ L ∧ i = .int .i64 k ∧ Hid (cur.length = L) ∧ IOwn wr base (.slice av L cv) cur ∧ w.grownBy wr (Value.slice av L cv).ownBlock) (fun i _ => L - (intOf i).toNat)
  case atStart => exact ⟨0, zs, by omega, rfl, HL, hown, (Grew.refl w _).by_⟩
  case round =>
    obtain ⟨k, cur, hk, rfl, HC, hownr, hgr⟩ := hrel
    by_cases hlt : k < L
    · obtain ⟨g, hg, hgb, hcc⟩ := hownr.some_of (by rw [HC.out]; omega)
      subst hg
      have hkc : k < cur.length := by rw [HC.out]; exact hlt
      rcases hownr.form with ⟨e, _⟩ | ⟨g', cap', e, _, _, _, hcell, hfz⟩
      · cases e
      · cases e
        have y0 := hcell k hkc
        have z0 := hfz k
        have HO : Hid (IOwn (wr.setCell ⟨g, k, none⟩ (.int .i64 (-5))) base (.slice (some ⟨g, 0, none⟩) cur.length cv) (cur.set k (-5))) := hownr.set k hkc (-5)
        have HG : Hid (w.grownBy (wr.setCell ⟨g, k, none⟩ (.int .i64 (-5))) (some g)) := grownBy_set hgr
        clear hcell hfz hcc
        go_wp2_with fail
        exact ⟨⟨k + 1, cur.set k (-5), by omega, by go_num, by show _ = _; simp, HO.out, HG.out⟩, by simp only [intOf]; omega⟩
    · have hgrew : Grew w (.slice av L cv) wr (.slice av L cv) := ⟨hgr, .inl rfl⟩
      have hsr : base ≤ wr.heap.size := Nat.le_trans hbase hgr.size
      have hcl : cur.length ≤ 1000000 := by rw [HC.out]; exact hl
      have hownr' : IOwn wr base (.slice av cur.length cv) cur := by rw [HC.out]; exact hownr
      have HVE : Hid (Value.slice av L cv = .slice av cur.length cv) := by show _ = _; rw [HC.out]
      have hgrew' : Grew w (.slice av L cv) wr (.slice av cur.length cv) := by rw [← HVE.out]; exact hgrew
      go_wp2_with fail
      go_loopw [0, 3] (fun x i wr => ∃ (j : Nat) (o : List Int) (oa : Option Addr) (oc : Nat), j ≤ 9 ∧ i = .int .i64 j ∧ x = .slice oa o.length oc ∧ IOwn wr base (.slice oa o.length oc) o ∧ o.length ≤ 1000000 + j ∧ Grew w (.slice av L cv) wr (.slice oa o.length oc) ∧ base ≤ wr.heap.size) (fun _ i _ => 9 - (intOf i).toNat)
      case atStart => exact ⟨0, cur, av, cv, by omega, rfl, HVE.out, hownr', by omega, hgrew', hsr⟩
      case round =>
        obtain ⟨j, o, oa, oc, hj, rfl, rfl, hown2, ho, hg2, hs2⟩ := hrel
        by_cases hlt2 : j < 9
        · have hown3 : IOwn (wr.alloc (.cells #[.int .i64 (-6)] 3)) base (.slice oa o.length oc) o := World.ownsRow.alloc hown2 _
          have HN2 : Hid (∀ i, i < ([-6] : List Int).length → (wr.alloc (.cells #[.int .i64 (-6)] 3)).cell? ((⟨wr.heap.size, 0, none⟩ : Addr).add i) = some (.int .i64 (([-6] : List Int)[i]?.getD 0))) := fun i hi => by
            have : i = 0 := by simp at hi; omega
            subst this
            exact (Blk.new wr 3 #[.int .i64 (-6)]).cell 0
          have hsum : o.length + ([-6] : List Int).length ≤ 1099511627776 := by simp; omega
          have hsz2 : base ≤ (wr.alloc (.cells #[.int .i64 (-6)] 3)).heap.size := by simp; omega
          go_wp2_with (first | (at_builtin; refine wpList_append_ints rfl _ _ rfl base _ o rfl hown3 [-6] ⟨wr.heap.size, 0, none⟩ _ rfl HN2.out hsum hsz2 ?_; intro a7 c7 w7 hown7 hgr7 hnil7 hat7))
          have HG7 : Hid (Grew w (.slice av L cv) w7 (.slice a7 (o.length + [-6].length) c7)) := (hg2.trans (Grew.of_below _ ((Below.refl _ wr).alloc (Nat.le_refl _) _))).trans ⟨hgr7, by
            rcases hat7 with e | e
            · exact .inl e
            · exact .inr ⟨_, e, Nat.le_refl _⟩⟩
          have hs7 : base ≤ w7.heap.size := Nat.le_trans hsz2 hgr7.size
          clear hnil7 hat7
          go_roundw
          case rel => exact ⟨j + 1, o ++ [-6], a7, c7, by omega, by go_num, by simp, by rw [List.length_append]; exact hown7, by simp; omega, by rw [List.length_append]; exact HG7.out, hs7⟩
          case measure => simp only [intOf]; omega
        · obtain rfl : j = 9 := by omega
          go_wp2_with fail
          go_end0
          exact ⟨rfl, hg2.by_⟩

end Go.Proofs.YtpmckfmjegehgaaGreatDoor
