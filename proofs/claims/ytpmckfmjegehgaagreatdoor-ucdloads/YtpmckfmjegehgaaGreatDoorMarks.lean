/- What Marks does (a contract; nothing is claimed here). -/
import Derived.Test.YtpmckfmjegehgaaGreatDoorKeys
import Derived.Test.YtpmckfmjegehgaaGreatDoorAsk
import Derived.Test.YtpmckfmjegehgaaGreatDoorPrint2
namespace Go.Vf
/-- The marks of all lines, by rising points. -/
def marksR (L : List Mk) : List PM := ((L.map Mk.point).mergeSort (fun x y => decide (x ≤ y))).map fun p => ⟨p, classAt L p, partsAt L p⟩
end Go.Vf
namespace Go.Proofs.YtpmckfmjegehgaaGreatDoor
open Go.RowKit Go.Vf Go.Maps Go.Sort Go.Shelf

theorem info36 : (Tryz.prog.info? 36).map (fun i => (i.zero, i.size, i.bytes)) = some (some (.agg #[.int .i64 0, .int .i64 0, .slice none 0 0]), 3, 40) := by kernel_rfl

theorem hasAt_mem (L : List Mk) (x : Int) : (markAt L x).isSome = true ↔ x ∈ L.map Mk.point := by
  unfold markAt
  rw [List.find?_isSome]
  constructor
  · rintro ⟨m, hm, e⟩
    exact List.mem_map.2 ⟨m, hm, by simpa using e⟩
  · intro h
    obtain ⟨m, hm, rfl⟩ := List.mem_map.1 h
    exact ⟨m, hm, by simp⟩

theorem keys_perm {w : World} {bm n : Nat} {D : DataW Value} {f : Int → Option Value} {L : List Mk} (hown : w.ownsMap Tryz.prog 3 tokR bm n D) (hf : ∀ x, InI x → Maps.has D (.int .i64 x) = (f x).isSome ∧ ∀ z, D.atKey (.int .i64 x) (.held z) = .held ((f x).getD z))
    (hL : ∀ x, (f x).isSome = (markAt L x).isSome) (hin : ∀ m ∈ L, InI m.point) (hnd : (L.map Mk.point).Nodup) : (L.map Mk.point).Perm (intKeys D) := by
  have hcol : CollectedI D (fun _ => false) (L.map Mk.point) := ⟨hnd, fun x => by
    constructor
    · intro hx
      obtain ⟨m, hm, rfl⟩ := List.mem_map.1 hx
      refine ⟨?_, rfl⟩
      rw [(hf _ (hin m hm)).1, hL]
      exact (hasAt_mem L _).2 hx
    · rintro ⟨hx, _⟩
      have hI : InI x := by
        obtain ⟨es, rfl, hko⟩ := hown.keysOf
        rw [has_eq, List.any_eq_true] at hx
        obtain ⟨p, hp, hs⟩ := hx
        obtain ⟨v, hv⟩ := hko p hp
        obtain ⟨y, _, hy, hl⟩ := Maps.keyOf_i64 Tryz.underlying3 hv
        have e := WideAt.sameKey_eq hs
        rw [hy] at e
        cases e
        have := hl
        simp only [Lit.wf, Bool.and_eq_true, decide_eq_true_eq] at this
        unfold InI
        have e1 : IntKind.i64.min = -9223372036854775808 := by decide
        have e2 : IntKind.i64.max = 9223372036854775807 := by decide
        omega
      rw [(hf _ hI).1, hL] at hx
      exact (hasAt_mem L _).1 hx⟩
  exact hcol.perm hown keyed3 Tryz.underlying3 (fun _ => rfl)

/-- Marks that the call owns, each with its list's value. -/
def flatM (ps : List (PM × Value)) : List Value := ps.flatMap fun x => [.int .i64 x.1.point, .int .i64 x.1.cls, x.2]
def MOwn (w : World) (base : Nat) (v : Value) (ps : List (PM × Value)) : Prop := w.ownsRow base 36 3 v ps.length (flatM ps) ∧ ∀ x ∈ ps, IOwn w base x.2 x.1.parts
theorem MOwn.nil (w : World) (base : Nat) : MOwn w base (.slice none 0 0) [] := ⟨World.ownsRow_nil _ _ _ _, by simp⟩
theorem flatM_at (ps : List (PM × Value)) : ∀ (j : Nat) (hj : j < ps.length), (flatM ps)[j * 3]? = some (.int .i64 ps[j].1.point) ∧ (flatM ps)[j * 3 + 1]? = some (.int .i64 ps[j].1.cls) ∧ (flatM ps)[j * 3 + 2]? = some ps[j].2 := by
  induction ps with
  | nil => intro j hj; simp at hj
  | cons a r ih =>
    intro j hj
    have e : flatM (a :: r) = .int .i64 a.1.point :: .int .i64 a.1.cls :: a.2 :: flatM r := by simp [flatM]
    rw [e]
    cases j with
    | zero => simp
    | succ j =>
      have := ih j (by simpa using hj)
      rw [show (j + 1) * 3 = j * 3 + 1 + 1 + 1 by omega]
      simpa using this
theorem MOwn.min {w : World} {base : Nat} {v : Value} {ps : List (PM × Value)} (h : MOwn w base v ps) : MIn w.heap.size w v (ps.map Prod.fst) := by
  rcases h.1.2 with ⟨rfl, h0⟩ | ⟨g, cap, cur, rfl, _, hg, _, _, _, ht⟩
  · exact .inl ⟨_, _, rfl, by rw [List.eq_nil_of_length_eq_zero h0]; rfl⟩
  · refine .inr ⟨g, 0, cap, by simp, (Array.getElem?_eq_some_iff.1 hg).1, fun j hj => ?_⟩
    have hj' : j < ps.length := by simpa using hj
    obtain ⟨h1, h2, h3⟩ := flatM_at ps j hj'
    rw [← ht] at h1 h2 h3
    rw [List.getElem?_take_of_lt (by omega)] at h1 h2 h3
    have hi := h.2 ps[j] (List.getElem_mem hj')
    obtain ⟨pa, pc, hv⟩ := hi.val
    refine ⟨pa, ps[j].1.parts.length, pc, ?_, ?_, ?_, ?_⟩
    · simp only [World.cell?, hg, Nat.zero_add, List.getElem_map]; simpa using h1
    · simp only [World.cell?, hg, Nat.zero_add, List.getElem_map]; simpa using h2
    · simp only [World.cell?, hg, Nat.zero_add]; rw [← hv]; simpa using h3
    · rw [← hv]; simpa using hi.ints

theorem flatM_snoc (ps : List (PM × Value)) (x : PM × Value) : flatM (ps ++ [x]) = flatM ps ++ [.int .i64 x.1.point, .int .i64 x.1.cls, x.2] := by simp [flatM]

/-- One mark more. -/
theorem MOwn.snoc {w w5 : World} {base : Nat} {v v' : Value} {ps : List (PM × Value)} {o : Obj} {m : PM} {u : Value} (h : MOwn w base v ps) (hu : IOwn w base u m.parts) (h5 : w5.ownsRow base 36 3 v' (ps.length + 1) (flatM ps ++ [.int .i64 m.point, .int .i64 m.cls, u])) (hg : (w.alloc o).grownBy w5 v.ownBlock) : MOwn w5 base v' (ps ++ [(m, u)]) := by
  have hva := World.ownsRow.alloc h.1 o
  have keep : ∀ {z : Value} {zs : List Int}, IOwn w base z zs → IOwn w5 base z zs := fun {z zs} hz => own_kept_row (World.ownsRow.alloc hz o) hva (by decide) hg
  refine ⟨by rw [flatM_snoc, List.length_append]; exact h5, fun x hx => ?_⟩
  rcases List.mem_append.1 hx with hx | hx
  · exact keep (h.2 x hx)
  · simp at hx; subst hx; exact keep hu
theorem MOwn.after {w w' : World} {base : Nat} {v : Value} {ps : List (PM × Value)} (h : MOwn w base v ps) (hb : Below w.heap.size w w') : MOwn w' base v ps := ⟨own_after h.1 hb, fun x hx => own_after (h.2 x hx) hb⟩

theorem marks_nil (w : World) : Calls Tryz.prog 19 #[.pointer none] w fun e w' => e = .returned (.slice none 0 0) ∧ w = w' := by
  go_enter Tryz.func19, Tryz.ntmps19
  go_wp2
  go_ret
  exact ⟨rfl, rfl⟩

set_option maxHeartbeats 4000000 in
set_option maxRecDepth 20000 in
theorem marks_any (bd : Nat) (L : List Mk) (E : Int → List Int) (w : World) (hd : DataAt w bd L E) :
    Calls Tryz.prog 19 #[.pointer (some ⟨bd, 0, none⟩)] w fun e w' => ∃ a k cap ps, e = .returned (.slice a k cap) ∧ MOwn w' w.heap.size (.slice a k cap) ps ∧ ps.map Prod.fst = marksR L ∧ Below w.heap.size w w' := by
  have hd0 := hd
  obtain ⟨bm, n, pv, ev, hbd, hdd, hn, hnd, hlen, hok⟩ := hd
  obtain ⟨D, hown, hf⟩ := hdd.mp
  have hperm := keys_perm (L := L) hown hf (fun x => by simp) (fun m hm => (hdd.ins m hm).1) hnd
  have hsz := hown.size_le
  have b0 : w.cell? ⟨bd, 0, none⟩ = some (.map (some bm)) := hbd.cell 0
  have hin : ∀ q ∈ (L.map Mk.point).mergeSort (fun x y => decide (x ≤ y)), InI q := fun q hq => by
    have := (List.mergeSort_perm (L.map Mk.point) (fun x y => decide (x ≤ y))).subset hq
    obtain ⟨m, hm, rfl⟩ := List.mem_map.1 this
    exact (hdd.ins m hm).1
  have hsl : ((L.map Mk.point).mergeSort (fun x y => decide (x ≤ y))).length ≤ 4096 := by rw [List.length_mergeSort, List.length_map]; exact hlen
  unfold marksR
  go_enter Tryz.func19, Tryz.ntmps19
  go_wp2_with fail
  refine (keys_call (some bm) w).mono ?_
  rintro e w1 ⟨rfl, rfl⟩
  go_wp2_with fail
  refine (sorted_call bm n D tokR w hown (by unfold maxLen; omega) (by omega)).mono ?_
  rintro e w2 ⟨v2, ss, rfl, hss, hrow, hb2⟩
  have hmer : ss.mergeSort (fun x y => decide (x ≤ y)) = (L.map Mk.point).mergeSort (fun x y => decide (x ≤ y)) := mergeSort_of_perm_i (hss.trans hperm.symm)
  rw [hmer] at hrow
  have hssl : ss.length = ((L.map Mk.point).mergeSort (fun x y => decide (x ≤ y))).length := by rw [← hmer, List.length_mergeSort]
  rw [hssl] at hrow
  obtain ⟨pts, HPTS⟩ : ∃ pts, Hid ((L.map Mk.point).mergeSort (fun x y => decide (x ≤ y)) = pts) := ⟨_, rfl⟩
  rw [HPTS.out] at hrow hin hsl
  have hkey : IOwn w2 (w.heap.size + 1) v2 pts := hrow
  have hb02 : Below w.heap.size w w2 := ((Below.refl w.heap.size w).alloc (Nat.le_refl _) (.cells #[.map (some bm)] 51)).trans (hb2.mono (by omega))
  have hd2 := hd0.below hb02
  obtain ⟨ak, ck, rfl⟩ := hkey.val
  have hki := hkey.ints
  clear hrow hkey hmer hssl hss hperm hsz b0 hf hown hb2
  have hbd2 := hbd.below hb02 hbd.lt
  have hdd2 := hdd.below hb02
  clear hdd hd0
  go_wp2_with fail
  go_loopw [3, 16] (fun v i wr => ∃ (k : Nat) (ps : List (PM × Value)), k ≤ pts.length ∧ i = .int .i64 k ∧ MOwn wr w2.heap.size v ps ∧ ps.length = k ∧ Hid (ps.map Prod.fst = (pts.take k).map fun p => (⟨p, classAt L p, partsAt L p⟩ : PM)) ∧ Below w2.heap.size w2 wr) (fun _ i _ => pts.length - (intOf i).toNat)
  case atStart => exact ⟨0, [], by omega, rfl, MOwn.nil _ _, rfl, by show _ = _; simp, Below.refl _ _⟩
  case round =>
    obtain ⟨k, ps, hk, rfl, hmo, hpl, HP, hbel⟩ := hrel
    subst hpl
    by_cases hlt : ps.length < pts.length
    · obtain ⟨bp, op, hao, hnk, hblt, hcell⟩ := (hki.below hbel (Nat.le_refl _)).cell (fun e => by rw [e] at hlt; simp at hlt)
      have hcj := hcell ps.length hlt
      rw [show pts[ps.length]?.getD 0 = pts[ps.length] by simp [List.getElem?_eq_getElem hlt]] at hcj
      have hqI := hin _ (List.getElem_mem hlt)
      have htk : pts.take (ps.length + 1) = pts.take ps.length ++ [pts[ps.length]] := List.take_succ_eq_append_getElem hlt
      generalize pts[ps.length] = q at hcj hqI htk
      have HP2 : Hid ((ps.map Prod.fst) ++ [(⟨q, classAt L q, partsAt L q⟩ : PM)] = (pts.take (ps.length + 1)).map fun p => (⟨p, classAt L p, partsAt L p⟩ : PM)) := by show _ = _; rw [htk, List.map_append, HP.out]; rfl
      subst hao
      obtain ⟨av, cv, rfl⟩ := row_val hmo.1
      have hddr := hdd2.below hbel
      have hbdr := hbd2.below hbel hbd2.lt
      have b0 : wr.cell? ⟨bd, 0, none⟩ = some (.map (some bm)) := hbdr.cell 0
      obtain ⟨a, kk, cap, a2, k2, cap2, hl, _, hpi, hkA, hkl, _, _, hk2, _⟩ := hddr.look hqI
      have hl' := hl wr rfl
      have hb1 := (Below.refl wr.heap.size wr).alloc (Nat.le_refl _) (.cells #[.int .i64 (classAt L q), .slice a kk cap, .slice a2 k2 cap2] 77)
      have hbn := Blk.new wr 77 #[.int .i64 (classAt L q), .slice a kk cap, .slice a2 k2 cap2]
      have hmo1 := hmo.after hb1
      have hpi1 := (hpi.below hb1 (Nat.le_refl _)).mono hb1.size
      have HPLN : Hid ((partsAt L q).length ≤ 131072) := by show _ ≤ _; omega
      clear hcell hnk htk hkA hk2 hl HP hpi
      go_upto_region 8 with fail
      generalize wr.alloc (.cells #[.int .i64 (classAt L q), .slice a kk cap, .slice a2 k2 cap2] 77) = W at hb1 hbn hmo1 hpi1 ⊢
      have s0 : W.drew.cell? ⟨wr.heap.size, 0, none⟩ = some (.int .i64 (classAt L q)) ∧ W.drew.cell? ⟨wr.heap.size, 1, none⟩ = some (.slice a kk cap) := ⟨hbn.cell 0, hbn.cell 1⟩
      have hwsz : w2.heap.size ≤ W.heap.size := Nat.le_trans hbel.size hb1.size
      have HCL : Hid (Calls Tryz.prog 44 #[.slice a kk cap] W.drew fun e w' => ∃ a' k' c', e = .returned (.slice a' k' c') ∧ IOwn w' W.drew.heap.size (.slice a' k' c') (partsAt L q) ∧ Below W.drew.heap.size W.drew w') := clone_any (n₀ := W.heap.size) a kk cap (partsAt L q) W.drew hpi1 HPLN.out
      obtain ⟨i0, hi0, hz0, hz1, hz2⟩ := info_parts info36
      have HMO : Hid (MOwn W.drew w2.heap.size (.slice av ps.length cv) ps) := hmo1
      have HBN : Hid (Blk W.drew wr.heap.size 77 #[.int .i64 (classAt L q), .slice a kk cap, .slice a2 k2 cap2]) := hbn
      have hps4 : ps.length + 1 ≤ maxLen := by unfold maxLen; omega
      have hps5 : (ps.length + 1) * 40 ≤ 140737488355328 := by omega
      clear hmo1 hbn hl' b0 hbdr hddr hcj hpi1
      go_region_held_law (fun x => x.cell? ⟨wr.heap.size, 0, none⟩ = some (.int .i64 (classAt L q)) ∧ x.cell? ⟨wr.heap.size, 1, none⟩ = some (.slice a kk cap)) (first | exact s0 | assumption | exact ⟨hbn3.out.cell 0, hbn3.out.cell 1⟩ | exact ⟨hbn4.out.cell 0, hbn4.out.cell 1⟩ | exact ⟨hbn5.out.cell 0, hbn5.out.cell 1⟩)
        (first
          | (refine step_append_lies _ (by rfl) _ _ _ (by rfl) w2.heap.size 36 i0 _ 3 40 Tryz.underlying27 hi0 hz0 hz1 hz2 rfl (by omega) (.slice av ps.length cv) ps.length (flatM ps) (by rfl) (World.ownsRow.alloc hmo3.out.1 _) ⟨w3.heap.size, 0, none⟩ 1 1 [.int .i64 q, .int .i64 (classAt L q), .slice a3 k3 c3] (by rfl) (by rfl) (World.news_of_block (cs := #[.int .i64 q, .int .i64 (classAt L q), .slice a3 k3 c3]) (t := 36) (fr := (0, 0)) (heap_alloc_new w3 _)) (by simp [Value.oneCell']) (by omega) hps4 hps5 hsz3' (w3.heap.size + 1) (by simp) ?_; intro g5 cap5 w5 hown5 hgrow5 hat5 hlt5; have hbn5 : Hid (Blk w5 wr.heap.size 77 #[.int .i64 (classAt L q), .slice a kk cap, .slice a2 k2 cap2]) := (hgrow5.block wr.heap.size hbn4.out.lt (own_ne_blk (World.ownsRow.alloc hmo3.out.1 _) hbn4.out (by decide))).trans hbn4.out)
          | (go_at_call 44; refine HCL.out.mono ?_; rintro e w3 ⟨a3, k3, c3, rfl, hown3, hb3⟩; have hbn3 : Hid (Blk w3 wr.heap.size 77 #[.int .i64 (classAt L q), .slice a kk cap, .slice a2 k2 cap2]) := HBN.out.below hb3 HBN.out.lt; have hbn4 : Hid (Blk (w3.alloc (.cells #[.int .i64 q, .int .i64 (classAt L q), .slice a3 k3 c3] 36)) wr.heap.size 77 #[.int .i64 (classAt L q), .slice a kk cap, .slice a2 k2 cap2]) := (Below.heap_alloc w3 _ _ hbn3.out.lt).trans hbn3.out; have hmo3 : Hid (MOwn w3 w2.heap.size (.slice av ps.length cv) ps) := HMO.out.after hb3; have hsz3' : w2.heap.size ≤ (w3.alloc (.cells #[.int .i64 q, .int .i64 (classAt L q), .slice a3 k3 c3] 36)).heap.size := Nat.le_trans hwsz (Nat.le_trans hb3.size (by simp))))
      have HBEL5 : Hid (Below w2.heap.size w2 w5) := ((((hbel.trans (hb1.mono hbel.size)).trans (below_drewN W 1 _)).trans (Below.mono hb3 hwsz)).alloc (Nat.le_trans hwsz hb3.size) _).grown hgrow5 hsz3' (fun j hj => (own_ge hmo3.out.1 hj).1)
      have HMO5 : Hid (MOwn w5 w2.heap.size (.slice (some ⟨g5, 0, none⟩) (ps.length + 1) cap5) (ps ++ [(⟨q, classAt L q, partsAt L q⟩, .slice a3 k3 c3)])) := MOwn.snoc (o := .cells #[.int .i64 q, .int .i64 (classAt L q), .slice a3 k3 c3] 36) (m := ⟨q, classAt L q, partsAt L q⟩) hmo3.out (hown3.mono hwsz) hown5 hgrow5
      clear hmo3 hown5 hgrow5 hbn3 hbn4 hbn5 hown3 hb3 hat5
      go_wp2_with fail
      go_roundw
      case rel => exact ⟨ps.length + 1, ps ++ [(⟨q, classAt L q, partsAt L q⟩, .slice a3 k3 c3)], by omega, by simp, HMO5.out, by simp, by show _ = _; rw [List.map_append]; exact HP2.out, HBEL5.out⟩
      case measure => simp only [intOf]; omega
    · have HF : Hid (ps.map Prod.fst = pts.map fun p => (⟨p, classAt L p, partsAt L p⟩ : PM)) := by show _ = _; rw [HP.out, List.take_of_length_le (by omega)]
      obtain ⟨av, cv, rfl⟩ := row_val hmo.1
      clear HP
      go_wp2_with fail
      go_ret
      exact ⟨_, _, _, ps, rfl, ⟨ownsRow_mono hmo.1 hb02.size, fun x hx => (hmo.2 x hx).mono hb02.size⟩, by rw [HPTS.out]; exact HF.out, hb02.trans (hbel.mono hb02.size)⟩

end Go.Proofs.YtpmckfmjegehgaaGreatDoor
