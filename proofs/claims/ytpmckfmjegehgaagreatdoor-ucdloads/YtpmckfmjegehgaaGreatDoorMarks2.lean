/- What Marks does, and that its lists lie apart (a contract; nothing is claimed here). -/
import Derived.Test.YtpmckfmjegehgaaGreatDoorMarks
namespace Go.Proofs.YtpmckfmjegehgaaGreatDoor
open Go.RowKit Go.Vf Go.Maps Go.Sort

def Apart (ps : List (PM × Value)) : Prop := ps.Pairwise fun x y => ∀ g, x.2.ownBlock = some g → y.2.ownBlock ≠ some g
theorem own_lt' {w : World} {b1 : Nat} {e1 : TypeId} {s1 k1 : Nat} {v1 : Value} {x1 : List Value} (h1 : w.ownsRow b1 e1 s1 v1 k1 x1) : ∀ g, v1.ownBlock = some g → g < w.heap.size := fun g hg => by
  obtain ⟨_, cs, f, q⟩ := own_ge h1 hg
  exact (Array.getElem?_eq_some_iff.1 q).1

set_option maxHeartbeats 4000000 in
set_option maxRecDepth 20000 in
theorem marks_any2 (bd : Nat) (L : List Mk) (E : Int → List Int) (w : World) (hd : DataAt w bd L E) :
    Calls Tryz.prog 19 #[.pointer (some ⟨bd, 0, none⟩)] w fun e w' => ∃ a k cap ps, e = .returned (.slice a k cap) ∧ MOwn w' w.heap.size (.slice a k cap) ps ∧ ps.map Prod.fst = marksR L ∧ Below w.heap.size w w' ∧ Apart ps := by
  have hd0 := hd
  obtain ⟨bm, n, pv, ev, hbd, hdd, hn, hnd, hlen, hok⟩ := hd
  obtain ⟨D, hown, hf⟩ := hdd.mp
  have hperm := keys_perm (L := L) hown hf (fun x => by simp) (fun m hm => (hdd.ins m hm).1) hnd
  have hsz := hown.size_le
  have b0 : w.cell? ⟨bd, 0, none⟩ = some (.map (some bm)) := hbd.cell 0
  have hin : ∀ q ∈ (L.map Mk.point).mergeSort (fun x y => decide (x ≤ y)), InI q := fun q hq => by
    have := (List.mergeSort_perm (L.map Mk.point) (fun x y => decide (x ≤ y))).subset hq
    obtain ⟨m, hm, rfl⟩ := List.mem_map.1 this
    exact (hdd.ins m hm).1
  have hsl : ((L.map Mk.point).mergeSort (fun x y => decide (x ≤ y))).length ≤ 4096 := by rw [List.length_mergeSort, List.length_map]; exact hlen
  unfold marksR
  go_enter Tryz.func19, Tryz.ntmps19
  go_wp2_with fail
  refine (keys_call (some bm) w).mono ?_
  rintro e w1 ⟨rfl, rfl⟩
  go_wp2_with fail
  refine (sorted_call bm n D tokR w hown (by unfold maxLen; omega) (by omega)).mono ?_
  rintro e w2 ⟨v2, ss, rfl, hss, hrow, hb2⟩
  have hmer : ss.mergeSort (fun x y => decide (x ≤ y)) = (L.map Mk.point).mergeSort (fun x y => decide (x ≤ y)) := mergeSort_of_perm_i (hss.trans hperm.symm)
  rw [hmer] at hrow
  have hssl : ss.length = ((L.map Mk.point).mergeSort (fun x y => decide (x ≤ y))).length := by rw [← hmer, List.length_mergeSort]
  rw [hssl] at hrow
  obtain ⟨pts, HPTS⟩ : ∃ pts, Hid ((L.map Mk.point).mergeSort (fun x y => decide (x ≤ y)) = pts) := ⟨_, rfl⟩
  rw [HPTS.out] at hrow hin hsl
  have hkey : IOwn w2 (w.heap.size + 1) v2 pts := hrow
  have hb02 : Below w.heap.size w w2 := ((Below.refl w.heap.size w).alloc (Nat.le_refl _) (.cells #[.map (some bm)] 51)).trans (hb2.mono (by omega))
  have hd2 := hd0.below hb02
  obtain ⟨ak, ck, rfl⟩ := hkey.val
  have hki := hkey.ints
  clear hrow hkey hmer hssl hss hperm hsz b0 hf hown hb2
  have hbd2 := hbd.below hb02 hbd.lt
  have hdd2 := hdd.below hb02
  clear hdd hd0
  go_wp2_with fail
  go_loopw [3, 16] (fun v i wr => ∃ (k : Nat) (ps : List (PM × Value)), k ≤ pts.length ∧ i = .int .i64 k ∧ MOwn wr w2.heap.size v ps ∧ ps.length = k ∧ Hid (ps.map Prod.fst = (pts.take k).map fun p => (⟨p, classAt L p, partsAt L p⟩ : PM)) ∧ Below w2.heap.size w2 wr ∧ Hid (Apart ps)) (fun _ i _ => pts.length - (intOf i).toNat)
  case atStart => exact ⟨0, [], by omega, rfl, MOwn.nil _ _, rfl, by show _ = _; simp, Below.refl _ _, List.Pairwise.nil⟩
  case round =>
    obtain ⟨k, ps, hk, rfl, hmo, hpl, HP, hbel, HAP⟩ := hrel
    subst hpl
    by_cases hlt : ps.length < pts.length
    · obtain ⟨bp, op, hao, hnk, hblt, hcell⟩ := (hki.below hbel (Nat.le_refl _)).cell (fun e => by rw [e] at hlt; simp at hlt)
      have hcj := hcell ps.length hlt
      rw [show pts[ps.length]?.getD 0 = pts[ps.length] by simp [List.getElem?_eq_getElem hlt]] at hcj
      have hqI := hin _ (List.getElem_mem hlt)
      have htk : pts.take (ps.length + 1) = pts.take ps.length ++ [pts[ps.length]] := List.take_succ_eq_append_getElem hlt
      generalize pts[ps.length] = q at hcj hqI htk
      have HP2 : Hid ((ps.map Prod.fst) ++ [(⟨q, classAt L q, partsAt L q⟩ : PM)] = (pts.take (ps.length + 1)).map fun p => (⟨p, classAt L p, partsAt L p⟩ : PM)) := by show _ = _; rw [htk, List.map_append, HP.out]; rfl
      subst hao
      obtain ⟨av, cv, rfl⟩ := row_val hmo.1
      have hddr := hdd2.below hbel
      have hbdr := hbd2.below hbel hbd2.lt
      have b0 : wr.cell? ⟨bd, 0, none⟩ = some (.map (some bm)) := hbdr.cell 0
      obtain ⟨a, kk, cap, a2, k2, cap2, hl, _, hpi, hkA, hkl, _, _, hk2, _⟩ := hddr.look hqI
      have hl' := hl wr rfl
      have hb1 := (Below.refl wr.heap.size wr).alloc (Nat.le_refl _) (.cells #[.int .i64 (classAt L q), .slice a kk cap, .slice a2 k2 cap2] 77)
      have hbn := Blk.new wr 77 #[.int .i64 (classAt L q), .slice a kk cap, .slice a2 k2 cap2]
      have hmo1 := hmo.after hb1
      have hpi1 := (hpi.below hb1 (Nat.le_refl _)).mono hb1.size
      have HPLN : Hid ((partsAt L q).length ≤ 131072) := by show _ ≤ _; omega
      clear hcell hnk htk hkA hk2 hl HP hpi
      go_upto_region 8 with fail
      generalize wr.alloc (.cells #[.int .i64 (classAt L q), .slice a kk cap, .slice a2 k2 cap2] 77) = W at hb1 hbn hmo1 hpi1 ⊢
      have s0 : W.drew.cell? ⟨wr.heap.size, 0, none⟩ = some (.int .i64 (classAt L q)) ∧ W.drew.cell? ⟨wr.heap.size, 1, none⟩ = some (.slice a kk cap) := ⟨hbn.cell 0, hbn.cell 1⟩
      have hwsz : w2.heap.size ≤ W.heap.size := Nat.le_trans hbel.size hb1.size
      have HCL : Hid (Calls Tryz.prog 44 #[.slice a kk cap] W.drew fun e w' => ∃ a' k' c', e = .returned (.slice a' k' c') ∧ IOwn w' W.drew.heap.size (.slice a' k' c') (partsAt L q) ∧ Below W.drew.heap.size W.drew w') := clone_any (n₀ := W.heap.size) a kk cap (partsAt L q) W.drew hpi1 HPLN.out
      obtain ⟨i0, hi0, hz0, hz1, hz2⟩ := info_parts info36
      have HMO : Hid (MOwn W.drew w2.heap.size (.slice av ps.length cv) ps) := hmo1
      have HBN : Hid (Blk W.drew wr.heap.size 77 #[.int .i64 (classAt L q), .slice a kk cap, .slice a2 k2 cap2]) := hbn
      have hps4 : ps.length + 1 ≤ maxLen := by unfold maxLen; omega
      have hps5 : (ps.length + 1) * 40 ≤ 140737488355328 := by omega
      clear hmo1 hbn hl' b0 hbdr hddr hcj hpi1
      go_region_held_law (fun x => x.cell? ⟨wr.heap.size, 0, none⟩ = some (.int .i64 (classAt L q)) ∧ x.cell? ⟨wr.heap.size, 1, none⟩ = some (.slice a kk cap)) (first | exact s0 | assumption | exact ⟨hbn3.out.cell 0, hbn3.out.cell 1⟩ | exact ⟨hbn4.out.cell 0, hbn4.out.cell 1⟩ | exact ⟨hbn5.out.cell 0, hbn5.out.cell 1⟩)
        (first
          | (refine step_append_lies _ (by rfl) _ _ _ (by rfl) w2.heap.size 36 i0 _ 3 40 Tryz.underlying27 hi0 hz0 hz1 hz2 rfl (by omega) (.slice av ps.length cv) ps.length (flatM ps) (by rfl) (World.ownsRow.alloc hmo3.out.1 _) ⟨w3.heap.size, 0, none⟩ 1 1 [.int .i64 q, .int .i64 (classAt L q), .slice a3 k3 c3] (by rfl) (by rfl) (World.news_of_block (cs := #[.int .i64 q, .int .i64 (classAt L q), .slice a3 k3 c3]) (t := 36) (fr := (0, 0)) (heap_alloc_new w3 _)) (by simp [Value.oneCell']) (by omega) hps4 hps5 hsz3' (w3.heap.size + 1) (by simp) ?_; intro g5 cap5 w5 hown5 hgrow5 hat5 hlt5; have hbn5 : Hid (Blk w5 wr.heap.size 77 #[.int .i64 (classAt L q), .slice a kk cap, .slice a2 k2 cap2]) := (hgrow5.block wr.heap.size hbn4.out.lt (own_ne_blk (World.ownsRow.alloc hmo3.out.1 _) hbn4.out (by decide))).trans hbn4.out)
          | (go_at_call 44; refine HCL.out.mono ?_; rintro e w3 ⟨a3, k3, c3, rfl, hown3, hb3⟩; have hbn3 : Hid (Blk w3 wr.heap.size 77 #[.int .i64 (classAt L q), .slice a kk cap, .slice a2 k2 cap2]) := HBN.out.below hb3 HBN.out.lt; have hbn4 : Hid (Blk (w3.alloc (.cells #[.int .i64 q, .int .i64 (classAt L q), .slice a3 k3 c3] 36)) wr.heap.size 77 #[.int .i64 (classAt L q), .slice a kk cap, .slice a2 k2 cap2]) := (Below.heap_alloc w3 _ _ hbn3.out.lt).trans hbn3.out; have hmo3 : Hid (MOwn w3 w2.heap.size (.slice av ps.length cv) ps) := HMO.out.after hb3; have hsz3' : w2.heap.size ≤ (w3.alloc (.cells #[.int .i64 q, .int .i64 (classAt L q), .slice a3 k3 c3] 36)).heap.size := Nat.le_trans hwsz (Nat.le_trans hb3.size (by simp))))
      have HBEL5 : Hid (Below w2.heap.size w2 w5) := ((((hbel.trans (hb1.mono hbel.size)).trans (below_drewN W 1 _)).trans (Below.mono hb3 hwsz)).alloc (Nat.le_trans hwsz hb3.size) _).grown hgrow5 hsz3' (fun j hj => (own_ge hmo3.out.1 hj).1)
      have HMO5 : Hid (MOwn w5 w2.heap.size (.slice (some ⟨g5, 0, none⟩) (ps.length + 1) cap5) (ps ++ [(⟨q, classAt L q, partsAt L q⟩, .slice a3 k3 c3)])) := MOwn.snoc (o := .cells #[.int .i64 q, .int .i64 (classAt L q), .slice a3 k3 c3] 36) (m := ⟨q, classAt L q, partsAt L q⟩) hmo3.out (hown3.mono hwsz) hown5 hgrow5
      have HAP2 : Hid (Apart (ps ++ [((⟨q, classAt L q, partsAt L q⟩ : PM), (.slice a3 k3 c3 : Value))])) := List.pairwise_append.2 ⟨HAP.out, by simp, fun x hx y hy g hg1 hg2 => by
        simp at hy
        subst hy
        have h1 := own_lt' (hmo.2 x hx) g hg1
        have h2 := (own_ge hown3 hg2).1
        have h3 : wr.heap.size ≤ W.drew.heap.size := hb1.size
        omega⟩
      clear hmo3 hown5 hgrow5 hbn3 hbn4 hbn5 hown3 hb3 hat5
      go_wp2_with fail
      go_roundw
      case rel => exact ⟨ps.length + 1, ps ++ [(⟨q, classAt L q, partsAt L q⟩, .slice a3 k3 c3)], by omega, by simp, HMO5.out, by simp, by show _ = _; rw [List.map_append]; exact HP2.out, HBEL5.out, HAP2⟩
      case measure => simp only [intOf]; omega
    · have HF : Hid (ps.map Prod.fst = pts.map fun p => (⟨p, classAt L p, partsAt L p⟩ : PM)) := by show _ = _; rw [HP.out, List.take_of_length_le (by omega)]
      obtain ⟨av, cv, rfl⟩ := row_val hmo.1
      clear HP
      go_wp2_with fail
      go_ret
      exact ⟨_, _, _, ps, rfl, ⟨ownsRow_mono hmo.1 hb02.size, fun x hx => (hmo.2 x hx).mono hb02.size⟩, by rw [HPTS.out]; exact HF.out, hb02.trans (hbel.mono hb02.size), HAP.out⟩

end Go.Proofs.YtpmckfmjegehgaaGreatDoor
