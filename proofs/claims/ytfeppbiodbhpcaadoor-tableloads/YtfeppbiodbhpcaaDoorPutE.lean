/- What table.appendElement does (a contract; nothing is claimed here). -/
import Derived.Test.YtfeppbiodbhpcaaDoorPut
import Derived.Test.YtfeppbiodbhpcaaDoorEntE
namespace Go.Proofs.YtfeppbiodbhpcaaDoor
open Go.RowKit Go.Vf Go.Maps

/-- 'append(text, b..)' of bytes that were laid in a block of their own. -/
theorem run_app (base : Nat) (a : Option Addr) (n c : Nat) (acc : List UInt8) (w : World) (hown : BOwn 5 w base (.slice a n c) acc) (hlen : acc.length ≤ 1099511627776) (hbase : base ≤ w.heap.size) (bs : List UInt8) (h1 : 1 ≤ bs.length) (h2 : bs.length ≤ 16) :
    ∃ a' c' w', (Builtin.append_ #[79, 79] 79 #[.slice a n c, .slice (some ⟨w.heap.size, 0, none⟩) bs.length bs.length]).run Tryd.prog (w.alloc (.cells (cellsL bs).toArray 5)) = .ok (.slice a' (acc.length + bs.length) c') w' ∧ BOwn 5 w' base (.slice a' (acc.length + bs.length) c') (acc ++ bs) ∧ Below base w w' ∧ base ≤ w'.heap.size ∧ KO w w' := by
  obtain ⟨i, hi, hz, hsz, hby⟩ := info_parts info5
  have hnb := Blk.new w 5 (cellsL bs).toArray
  have hcl : (cellsL bs).length = bs.length := by simp [cellsL]
  obtain ⟨v', w', hrun, hown', hg, _, _⟩ := run_append_own_at (P := Tryd.prog) (w.alloc (.cells (cellsL bs).toArray 5)) base 79 79 5 i _ 1 1 Tryd.underlying79 hi hz hsz hby rfl (by decide) _ _ _ (BOwn.alloc hown _) ⟨w.heap.size, 0, none⟩ bs.length bs.length (cellsL bs) (by rw [hcl, Nat.mul_one])
    (by
      intro j u hu
      have e : (⟨w.heap.size, 0, none⟩ : Addr).add j = ⟨w.heap.size, j, none⟩ := by
        unfold Addr.add
        split
        · rename_i h; subst h; rfl
        · simp
      rw [e, hnb.cell]
      simpa using hu)
    (by intro u hu; simp [cellsL] at hu; obtain ⟨b, _, rfl⟩ := hu; rfl) (by unfold maxLen; omega) (by omega) (by simp; omega)
  obtain ⟨a', c', rfl⟩ := row_val hown'
  refine ⟨a', c', w', hrun, ?_, ?_, ?_, ?_⟩
  · unfold BOwn
    have e1 : cellsL (acc ++ bs) = cellsL acc ++ cellsL bs := by simp [cellsL]
    rw [e1, List.length_append]
    exact hown'
  · exact ((Below.refl base w).alloc hbase _).grown hg (by simp; omega) (fun k hk => (World.ownsRow.lt (BOwn.alloc hown (.cells (cellsL bs).toArray 5)) k hk).1)
  · have := hg.size; simp at this; omega
  · exact ((KO.refl w).alloc _).trans (KO.grown (BOwn.alloc hown _) hg)
theorem blk_alloc {w : World} {b : Nat} {t : TypeId} {cs : Array Value} (h : Blk w b t cs) (o : Obj) : Blk (w.alloc o) b t cs := (Below.heap_alloc w o b h.lt).trans h
theorem pointS_short (u : Nat) (hu : u ≤ 1114111) : (pointS u).length ≤ 1000 := by
  have h := hexLow_len u 6 (by omega) (by omega)
  unfold pointS upHex Lib.toUpperA
  simp
  omega

set_option maxHeartbeats 4000000 in
set_option maxRecDepth 20000 in
theorem appendElement_any (va : Bool) (pr se te base : Nat) (hpr : pr ≤ 65535) (hse : se ≤ 65535) (hte : te ≤ 65535) (v : Value) (acc : List UInt8) (w : World) (hown : BOwn 5 w base v acc) (hacc : acc.length ≤ 100000000) (hbase : base ≤ w.heap.size) (h6 : 6 < base) (ht : w.cell? ⟨6, 15, none⟩ = some (.int .u8 4)) :
    Calls Tryd.prog 76 #[v, .agg #[.bool va, .int .i64 (pr : Int), .int .i64 (se : Int), .int .i64 (te : Int)]] w fun e w' => ∃ v', e = .returned v' ∧ BOwn 5 w' base v' (acc ++ elP ⟨va, pr, se, te⟩) ∧ Below base w w' ∧ base ≤ w'.heap.size ∧ KO w w' := by
  obtain ⟨a0, c0, rfl⟩ := bown_val hown
  have hB0 := Blk.new w 49 #[.bool va, .int .i64 (pr : Int), .int .i64 (se : Int), .int .i64 (te : Int)]
  have hb0 := (Below.refl base w).alloc hbase (.cells #[.bool va, .int .i64 (pr : Int), .int .i64 (se : Int), .int .i64 (te : Int)] 49)
  have ho0 := BOwn.alloc hown (.cells #[.bool va, .int .i64 (pr : Int), .int .i64 (se : Int), .int .i64 (te : Int)] 49)
  have hk0 := (KO.refl w).alloc (.cells #[.bool va, .int .i64 (pr : Int), .int .i64 (se : Int), .int .i64 (te : Int)] 49)
  have hs0 : base ≤ (w.alloc (.cells #[.bool va, .int .i64 (pr : Int), .int .i64 (se : Int), .int .i64 (te : Int)] 49)).heap.size := by simp; omega
  obtain ⟨n0, hn0⟩ : ∃ n', acc.length = n' := ⟨_, rfl⟩
  have HN0 : Hid (acc.length = n0) := hn0
  rw [hn0] at ho0 ⊢
  clear hown hn0
  obtain ⟨acc0, hacc0⟩ : ∃ acc0, acc0 = acc := ⟨_, rfl⟩
  rw [← hacc0] at ho0 HN0 hacc
  have HA0 : Hid (acc0 = acc) := hacc0
  clear hacc0
  have q0 := hB0.cell 0
  cases va with
  | false =>
    go_enter Tryd.func76, Tryd.ntmps76
    go_upto_region 4 with fail
    generalize w.alloc (.cells #[.bool false, .int .i64 (pr : Int), .int .i64 (se : Int), .int .i64 (te : Int)] 49) = W0 at hB0 hb0 ho0 hk0 hs0 q0 ⊢
    generalize w.heap.size = B at hB0 q0 ⊢
    refine wp_region_held_drew (S := fun x => Blk x B 49 #[.bool false, .int .i64 (pr : Int), .int .i64 (se : Int), .int .i64 (te : Int)]) (by kernel_rfl) hB0 (fun hHeld => ?_)
    have hd : Below base w W0.drew := hb0.drew
    have hod : BOwn 5 W0.drew base (.slice a0 n0 c0) acc0 := ho0
    have hsd : base ≤ W0.drew.heap.size := hs0
    have hkd : KO w W0.drew := hk0
    generalize W0.drew = Wd at hHeld hd hod hsd hkd ⊢
    clear ho0 hb0 hs0 hk0 hB0
    refine wpAnyH_takeD (i := 0) (some 8) (v := ?v1) rfl rfl (by kernel_rfl) (by kernel_rfl) (by kernel_rfl) (fun _ _ _ h => h) (Or.inl ⟨by kernel_rfl, ?hy1⟩) (by assumption) ?rest1
    case hy1 => (intro x hSx; (try dsimp only at hSx); have s0 := hSx.cell 0; have s1 := hSx.cell 1; have s2 := hSx.cell 2; have s3 := hSx.cell 3; go_simp; first | done | with_reducible rfl)
    try simp only [Act.put, List.setIfInBounds_toArray, List.set_cons_zero, List.set_cons_succ]
    refine wpAnyH_takeD (i := 1) (some 9) (v := ?v2) rfl rfl (by kernel_rfl) (by kernel_rfl) (by kernel_rfl) (fun _ _ _ h => h) (Or.inl ⟨by kernel_rfl, ?hy2⟩) (by assumption) ?rest2
    case hy2 => (intro x hSx; (try dsimp only at hSx); have s0 := hSx.cell 0; have s1 := hSx.cell 1; have s2 := hSx.cell 2; have s3 := hSx.cell 3; go_simp; first | done | with_reducible rfl)
    try simp only [Act.put, List.setIfInBounds_toArray, List.set_cons_zero, List.set_cons_succ]
    refine wpAnyH_takeD (i := 4) (some 12) (v := ?v3) rfl rfl (by kernel_rfl) (by kernel_rfl) (by kernel_rfl) (fun _ _ _ h => h) (Or.inl ⟨by kernel_rfl, ?hy3⟩) (by assumption) ?rest3
    case hy3 => (intro x hSx; (try dsimp only at hSx); have s0 := hSx.cell 0; have s1 := hSx.cell 1; have s2 := hSx.cell 2; have s3 := hSx.cell 3; go_simp; first | done | with_reducible rfl)
    try simp only [Act.put, List.setIfInBounds_toArray, List.set_cons_zero, List.set_cons_succ]
    refine wpAnyH_takeD (i := 5) (some 13) (v := ?v4) rfl rfl (by kernel_rfl) (by kernel_rfl) (by kernel_rfl) (fun _ _ _ h => h) (Or.inl ⟨by kernel_rfl, ?hy4⟩) (by assumption) ?rest4
    case hy4 => (intro x hSx; (try dsimp only at hSx); have s0 := hSx.cell 0; have s1 := hSx.cell 1; have s2 := hSx.cell 2; have s3 := hSx.cell 3; go_simp; first | done | with_reducible rfl)
    try simp only [Act.put, List.setIfInBounds_toArray, List.set_cons_zero, List.set_cons_succ]
    obtain ⟨b1, d1, w1, hrA, hoA, hbA, hsA, hkA⟩ := run_app base a0 n0 c0 acc0 Wd hod (by omega) hsd [91, 46] (by decide) (by decide)
    have hn1 : acc0.length = n0 := HN0.out
    rw [hn1] at hrA hoA
    have hlen1 : (acc0 ++ [91, 46]).length ≤ 1000000000 := by simp; omega
    clear hn1
    refine wpAnyH_ready (rs := [2]) (by kernel_rfl) (by simp) ?_
    refine AllReadyH.cons rfl (fun K hK => ?_) AllReadyH.nil
    go_simp
    refine hK.out _ _ (blk_alloc hHeld _) (fun hHB => ?_)
    clear hK K hHB
    refine wpAnyH_ready (rs := [3]) (by kernel_rfl) (by simp) ?_
    refine AllReadyH.cons rfl (fun K hK => ?_) AllReadyH.nil
    rw [if_pos (by kernel_rfl)]
    refine wp_append (.tmp 8) (.tmp 10) rfl rfl rfl hrA (hK.out _ _ (hkA _ _ _ (by decide) hHeld) (fun hHA => ?_))
    clear hK K hrA
    try simp only [Act.put, List.setIfInBounds_toArray]
    have hc1 := appendHex_any pr base (by omega) _ _ w1 hoA hlen1 hsA h6 (((hd.trans hbA).cell (p := ⟨6, 15, none⟩) h6).trans ht)
    refine wpAnyH_ready (rs := [6]) (by kernel_rfl) (by simp) ?_
    refine AllReadyH.cons rfl (fun K hK => ?_) AllReadyH.nil
    go_simp
    refine hc1.mono ?_
    rintro e W1 ⟨v2, rfl, hoC, hbC, hs1, hkC⟩
    go_simp
    refine hK.out _ _ (hkC _ _ _ (by decide) hHA) (fun hB1 => ?_)
    clear hK K
    obtain ⟨acc1, hacc'⟩ : ∃ acc', acc' = acc0 ++ [91, 46] ++ pointS pr := ⟨_, rfl⟩
    have hl6 : (pointS pr).length ≤ 1000 := pointS_short pr (by omega)
    have hl1 : acc1.length ≤ 100000000 + 2000 * 1 := by rw [hacc']; simp; omega
    rw [← hacc'] at hoC
    obtain ⟨a1, c1, rfl⟩ := bown_val hoC
    have HA1 : Hid (acc1 = acc0 ++ [91, 46] ++ pointS pr) := hacc'
    obtain ⟨n1, hn2⟩ : ∃ n', acc1.length = n' := ⟨_, rfl⟩
    have HN1 : Hid (acc1.length = n1) := hn2
    rw [hn2] at hoC
    have ho1 : BOwn 5 W1 base (.slice a1 n1 c1) acc1 := hoC
    have hb1 : Below base w W1 := (hd.trans hbA).trans hbC
    have hk1 : KO w W1 := (hkd.trans hkA).trans hkC
    simp only [hn2]
    clear hacc' hn2 hHeld hd hod hsd hkd hoA hbA hsA hkA hHA hoC hbC hkC hc1 hlen1 hl6
    refine wpAnyH_takeD (i := 7) (some 0) (v := ?v5) rfl rfl (by kernel_rfl) (by kernel_rfl) (by kernel_rfl) (fun _ _ _ h => h) (Or.inl ⟨by kernel_rfl, ?hy5⟩) (by assumption) ?rest5
    case hy5 => (intro x hSx; (try dsimp only at hSx); have s0 := hSx.cell 0; have s1 := hSx.cell 1; have s2 := hSx.cell 2; have s3 := hSx.cell 3; go_simp; first | done | with_reducible rfl)
    try simp only [Act.put, List.setIfInBounds_toArray, List.set_cons_zero]
    refine wpAnyH_done (by kernel_rfl) ?_ _
    go_upto_region 5 with fail
    refine wp_region_held_drew (S := fun x => Blk x B 49 #[.bool false, .int .i64 (pr : Int), .int .i64 (se : Int), .int .i64 (te : Int)]) (by kernel_rfl) hB1 (fun hHeld => ?_)
    have hd : Below base w W1.drew := hb1.drew
    have hod : BOwn 5 W1.drew base (.slice a1 n1 c1) acc1 := ho1
    have hsd : base ≤ W1.drew.heap.size := hs1
    have hkd : KO w W1.drew := hk1
    generalize W1.drew = Wd at hHeld hd hod hsd hkd ⊢
    clear ho1 hb1 hs1 hk1 hB1
    refine wpAnyH_takeD (i := 0) (some 15) (v := ?v6) rfl rfl (by kernel_rfl) (by kernel_rfl) (by kernel_rfl) (fun _ _ _ h => h) (Or.inl ⟨by kernel_rfl, ?hy6⟩) (by assumption) ?rest6
    case hy6 => (intro x hSx; (try dsimp only at hSx); have s0 := hSx.cell 0; have s1 := hSx.cell 1; have s2 := hSx.cell 2; have s3 := hSx.cell 3; go_simp; first | done | with_reducible rfl)
    try simp only [Act.put, List.setIfInBounds_toArray, List.set_cons_zero, List.set_cons_succ]
    refine wpAnyH_takeD (i := 3) (some 18) (v := ?v7) rfl rfl (by kernel_rfl) (by kernel_rfl) (by kernel_rfl) (fun _ _ _ h => h) (Or.inl ⟨by kernel_rfl, ?hy7⟩) (by assumption) ?rest7
    case hy7 => (intro x hSx; (try dsimp only at hSx); have s0 := hSx.cell 0; have s1 := hSx.cell 1; have s2 := hSx.cell 2; have s3 := hSx.cell 3; go_simp; first | done | with_reducible rfl)
    try simp only [Act.put, List.setIfInBounds_toArray, List.set_cons_zero, List.set_cons_succ]
    refine wpAnyH_takeD (i := 4) (some 19) (v := ?v8) rfl rfl (by kernel_rfl) (by kernel_rfl) (by kernel_rfl) (fun _ _ _ h => h) (Or.inl ⟨by kernel_rfl, ?hy8⟩) (by assumption) ?rest8
    case hy8 => (intro x hSx; (try dsimp only at hSx); have s0 := hSx.cell 0; have s1 := hSx.cell 1; have s2 := hSx.cell 2; have s3 := hSx.cell 3; go_simp; first | done | with_reducible rfl)
    try simp only [Act.put, List.setIfInBounds_toArray, List.set_cons_zero, List.set_cons_succ]
    obtain ⟨b1, d1, w1, hrA, hoA, hbA, hsA, hkA⟩ := run_app base a1 n1 c1 acc1 Wd hod (by omega) hsd [46] (by decide) (by decide)
    have hn1 : acc1.length = n1 := HN1.out
    rw [hn1] at hrA hoA
    have hlen1 : (acc1 ++ [46]).length ≤ 1000000000 := by simp; omega
    clear hn1
    refine wpAnyH_ready (rs := [1]) (by kernel_rfl) (by simp) ?_
    refine AllReadyH.cons rfl (fun K hK => ?_) AllReadyH.nil
    go_simp
    refine hK.out _ _ (blk_alloc hHeld _) (fun hHB => ?_)
    clear hK K hHB
    refine wpAnyH_ready (rs := [2]) (by kernel_rfl) (by simp) ?_
    refine AllReadyH.cons rfl (fun K hK => ?_) AllReadyH.nil
    rw [if_pos (by kernel_rfl)]
    refine wp_append (.tmp 15) (.tmp 16) rfl rfl rfl hrA (hK.out _ _ (hkA _ _ _ (by decide) hHeld) (fun hHA => ?_))
    clear hK K hrA
    try simp only [Act.put, List.setIfInBounds_toArray]
    have hc1 := appendHex_any se base (by omega) _ _ w1 hoA hlen1 hsA h6 (((hd.trans hbA).cell (p := ⟨6, 15, none⟩) h6).trans ht)
    refine wpAnyH_ready (rs := [5]) (by kernel_rfl) (by simp) ?_
    refine AllReadyH.cons rfl (fun K hK => ?_) AllReadyH.nil
    go_simp
    refine hc1.mono ?_
    rintro e W2 ⟨v2, rfl, hoC, hbC, hs2, hkC⟩
    go_simp
    refine hK.out _ _ (hkC _ _ _ (by decide) hHA) (fun hB2 => ?_)
    clear hK K
    obtain ⟨acc2, hacc'⟩ : ∃ acc', acc' = acc1 ++ [46] ++ pointS se := ⟨_, rfl⟩
    have hl6 : (pointS se).length ≤ 1000 := pointS_short se (by omega)
    have hl2 : acc2.length ≤ 100000000 + 2000 * 2 := by rw [hacc']; simp; omega
    rw [← hacc'] at hoC
    obtain ⟨a2, c2, rfl⟩ := bown_val hoC
    have HA2 : Hid (acc2 = acc1 ++ [46] ++ pointS se) := hacc'
    obtain ⟨n2, hn2⟩ : ∃ n', acc2.length = n' := ⟨_, rfl⟩
    have HN2 : Hid (acc2.length = n2) := hn2
    rw [hn2] at hoC
    have ho2 : BOwn 5 W2 base (.slice a2 n2 c2) acc2 := hoC
    have hb2 : Below base w W2 := (hd.trans hbA).trans hbC
    have hk2 : KO w W2 := (hkd.trans hkA).trans hkC
    simp only [hn2]
    clear hacc' hn2 hHeld hd hod hsd hkd hoA hbA hsA hkA hHA hoC hbC hkC hc1 hlen1 hl6
    refine wpAnyH_takeD (i := 6) (some 0) (v := ?v9) rfl rfl (by kernel_rfl) (by kernel_rfl) (by kernel_rfl) (fun _ _ _ h => h) (Or.inl ⟨by kernel_rfl, ?hy9⟩) (by assumption) ?rest9
    case hy9 => (intro x hSx; (try dsimp only at hSx); have s0 := hSx.cell 0; have s1 := hSx.cell 1; have s2 := hSx.cell 2; have s3 := hSx.cell 3; go_simp; first | done | with_reducible rfl)
    try simp only [Act.put, List.setIfInBounds_toArray, List.set_cons_zero]
    refine wpAnyH_done (by kernel_rfl) ?_ _
    go_upto_region 6 with fail
    refine wp_region_held_drew (S := fun x => Blk x B 49 #[.bool false, .int .i64 (pr : Int), .int .i64 (se : Int), .int .i64 (te : Int)]) (by kernel_rfl) hB2 (fun hHeld => ?_)
    have hd : Below base w W2.drew := hb2.drew
    have hod : BOwn 5 W2.drew base (.slice a2 n2 c2) acc2 := ho2
    have hsd : base ≤ W2.drew.heap.size := hs2
    have hkd : KO w W2.drew := hk2
    generalize W2.drew = Wd at hHeld hd hod hsd hkd ⊢
    clear ho2 hb2 hs2 hk2 hB2
    refine wpAnyH_takeD (i := 0) (some 21) (v := ?v10) rfl rfl (by kernel_rfl) (by kernel_rfl) (by kernel_rfl) (fun _ _ _ h => h) (Or.inl ⟨by kernel_rfl, ?hy10⟩) (by assumption) ?rest10
    case hy10 => (intro x hSx; (try dsimp only at hSx); have s0 := hSx.cell 0; have s1 := hSx.cell 1; have s2 := hSx.cell 2; have s3 := hSx.cell 3; go_simp; first | done | with_reducible rfl)
    try simp only [Act.put, List.setIfInBounds_toArray, List.set_cons_zero, List.set_cons_succ]
    refine wpAnyH_takeD (i := 3) (some 24) (v := ?v11) rfl rfl (by kernel_rfl) (by kernel_rfl) (by kernel_rfl) (fun _ _ _ h => h) (Or.inl ⟨by kernel_rfl, ?hy11⟩) (by assumption) ?rest11
    case hy11 => (intro x hSx; (try dsimp only at hSx); have s0 := hSx.cell 0; have s1 := hSx.cell 1; have s2 := hSx.cell 2; have s3 := hSx.cell 3; go_simp; first | done | with_reducible rfl)
    try simp only [Act.put, List.setIfInBounds_toArray, List.set_cons_zero, List.set_cons_succ]
    refine wpAnyH_takeD (i := 4) (some 25) (v := ?v12) rfl rfl (by kernel_rfl) (by kernel_rfl) (by kernel_rfl) (fun _ _ _ h => h) (Or.inl ⟨by kernel_rfl, ?hy12⟩) (by assumption) ?rest12
    case hy12 => (intro x hSx; (try dsimp only at hSx); have s0 := hSx.cell 0; have s1 := hSx.cell 1; have s2 := hSx.cell 2; have s3 := hSx.cell 3; go_simp; first | done | with_reducible rfl)
    try simp only [Act.put, List.setIfInBounds_toArray, List.set_cons_zero, List.set_cons_succ]
    obtain ⟨b1, d1, w1, hrA, hoA, hbA, hsA, hkA⟩ := run_app base a2 n2 c2 acc2 Wd hod (by omega) hsd [46] (by decide) (by decide)
    have hn1 : acc2.length = n2 := HN2.out
    rw [hn1] at hrA hoA
    have hlen1 : (acc2 ++ [46]).length ≤ 1000000000 := by simp; omega
    clear hn1
    refine wpAnyH_ready (rs := [1]) (by kernel_rfl) (by simp) ?_
    refine AllReadyH.cons rfl (fun K hK => ?_) AllReadyH.nil
    go_simp
    refine hK.out _ _ (blk_alloc hHeld _) (fun hHB => ?_)
    clear hK K hHB
    refine wpAnyH_ready (rs := [2]) (by kernel_rfl) (by simp) ?_
    refine AllReadyH.cons rfl (fun K hK => ?_) AllReadyH.nil
    rw [if_pos (by kernel_rfl)]
    refine wp_append (.tmp 21) (.tmp 22) rfl rfl rfl hrA (hK.out _ _ (hkA _ _ _ (by decide) hHeld) (fun hHA => ?_))
    clear hK K hrA
    try simp only [Act.put, List.setIfInBounds_toArray]
    have hc1 := appendHex_any te base (by omega) _ _ w1 hoA hlen1 hsA h6 (((hd.trans hbA).cell (p := ⟨6, 15, none⟩) h6).trans ht)
    refine wpAnyH_ready (rs := [5]) (by kernel_rfl) (by simp) ?_
    refine AllReadyH.cons rfl (fun K hK => ?_) AllReadyH.nil
    go_simp
    refine hc1.mono ?_
    rintro e W3 ⟨v2, rfl, hoC, hbC, hs3, hkC⟩
    go_simp
    refine hK.out _ _ (hkC _ _ _ (by decide) hHA) (fun hB3 => ?_)
    clear hK K
    obtain ⟨acc3, hacc'⟩ : ∃ acc', acc' = acc2 ++ [46] ++ pointS te := ⟨_, rfl⟩
    have hl6 : (pointS te).length ≤ 1000 := pointS_short te (by omega)
    have hl3 : acc3.length ≤ 100000000 + 2000 * 3 := by rw [hacc']; simp; omega
    rw [← hacc'] at hoC
    obtain ⟨a3, c3, rfl⟩ := bown_val hoC
    have HA3 : Hid (acc3 = acc2 ++ [46] ++ pointS te) := hacc'
    obtain ⟨n3, hn2⟩ : ∃ n', acc3.length = n' := ⟨_, rfl⟩
    have HN3 : Hid (acc3.length = n3) := hn2
    rw [hn2] at hoC
    have ho3 : BOwn 5 W3 base (.slice a3 n3 c3) acc3 := hoC
    have hb3 : Below base w W3 := (hd.trans hbA).trans hbC
    have hk3 : KO w W3 := (hkd.trans hkA).trans hkC
    simp only [hn2]
    clear hacc' hn2 hHeld hd hod hsd hkd hoA hbA hsA hkA hHA hoC hbC hkC hc1 hlen1 hl6
    refine wpAnyH_takeD (i := 6) (some 0) (v := ?v13) rfl rfl (by kernel_rfl) (by kernel_rfl) (by kernel_rfl) (fun _ _ _ h => h) (Or.inl ⟨by kernel_rfl, ?hy13⟩) (by assumption) ?rest13
    case hy13 => (intro x hSx; (try dsimp only at hSx); have s0 := hSx.cell 0; have s1 := hSx.cell 1; have s2 := hSx.cell 2; have s3 := hSx.cell 3; go_simp; first | done | with_reducible rfl)
    try simp only [Act.put, List.setIfInBounds_toArray, List.set_cons_zero]
    refine wpAnyH_done (by kernel_rfl) ?_ _
    go_wp2_with (at_builtin; refine wpList_append_byteK rfl _ _ rfl base _ _ rfl ho3 93 93 rfl _ rfl (by omega) hs3 w hb3 hk3 ?_; intro v' w' ho4 hb4 hs4 hk4)
    go_ret
    refine ⟨_, rfl, ?_, hb4, hs4, hk4⟩
    rw [HA3.out, HA2.out, HA1.out, HA0.out] at ho4
    simpa [elP] using ho4
  | true =>
    go_enter Tryd.func76, Tryd.ntmps76
    go_upto_region 4 with fail
    generalize w.alloc (.cells #[.bool true, .int .i64 (pr : Int), .int .i64 (se : Int), .int .i64 (te : Int)] 49) = W0 at hB0 hb0 ho0 hk0 hs0 q0 ⊢
    generalize w.heap.size = B at hB0 q0 ⊢
    refine wp_region_held_drew (S := fun x => Blk x B 49 #[.bool true, .int .i64 (pr : Int), .int .i64 (se : Int), .int .i64 (te : Int)]) (by kernel_rfl) hB0 (fun hHeld => ?_)
    have hd : Below base w W0.drew := hb0.drew
    have hod : BOwn 5 W0.drew base (.slice a0 n0 c0) acc0 := ho0
    have hsd : base ≤ W0.drew.heap.size := hs0
    have hkd : KO w W0.drew := hk0
    generalize W0.drew = Wd at hHeld hd hod hsd hkd ⊢
    clear ho0 hb0 hs0 hk0 hB0
    refine wpAnyH_takeD (i := 0) (some 8) (v := ?v14) rfl rfl (by kernel_rfl) (by kernel_rfl) (by kernel_rfl) (fun _ _ _ h => h) (Or.inl ⟨by kernel_rfl, ?hy14⟩) (by assumption) ?rest14
    case hy14 => (intro x hSx; (try dsimp only at hSx); have s0 := hSx.cell 0; have s1 := hSx.cell 1; have s2 := hSx.cell 2; have s3 := hSx.cell 3; go_simp; first | done | with_reducible rfl)
    try simp only [Act.put, List.setIfInBounds_toArray, List.set_cons_zero, List.set_cons_succ]
    refine wpAnyH_takeD (i := 1) (some 9) (v := ?v15) rfl rfl (by kernel_rfl) (by kernel_rfl) (by kernel_rfl) (fun _ _ _ h => h) (Or.inl ⟨by kernel_rfl, ?hy15⟩) (by assumption) ?rest15
    case hy15 => (intro x hSx; (try dsimp only at hSx); have s0 := hSx.cell 0; have s1 := hSx.cell 1; have s2 := hSx.cell 2; have s3 := hSx.cell 3; go_simp; first | done | with_reducible rfl)
    try simp only [Act.put, List.setIfInBounds_toArray, List.set_cons_zero, List.set_cons_succ]
    refine wpAnyH_takeD (i := 4) (some 12) (v := ?v16) rfl rfl (by kernel_rfl) (by kernel_rfl) (by kernel_rfl) (fun _ _ _ h => h) (Or.inl ⟨by kernel_rfl, ?hy16⟩) (by assumption) ?rest16
    case hy16 => (intro x hSx; (try dsimp only at hSx); have s0 := hSx.cell 0; have s1 := hSx.cell 1; have s2 := hSx.cell 2; have s3 := hSx.cell 3; go_simp; first | done | with_reducible rfl)
    try simp only [Act.put, List.setIfInBounds_toArray, List.set_cons_zero, List.set_cons_succ]
    refine wpAnyH_takeD (i := 5) (some 13) (v := ?v17) rfl rfl (by kernel_rfl) (by kernel_rfl) (by kernel_rfl) (fun _ _ _ h => h) (Or.inl ⟨by kernel_rfl, ?hy17⟩) (by assumption) ?rest17
    case hy17 => (intro x hSx; (try dsimp only at hSx); have s0 := hSx.cell 0; have s1 := hSx.cell 1; have s2 := hSx.cell 2; have s3 := hSx.cell 3; go_simp; first | done | with_reducible rfl)
    try simp only [Act.put, List.setIfInBounds_toArray, List.set_cons_zero, List.set_cons_succ]
    obtain ⟨b1, d1, w1, hrA, hoA, hbA, hsA, hkA⟩ := run_app base a0 n0 c0 acc0 Wd hod (by omega) hsd [91, 42] (by decide) (by decide)
    have hn1 : acc0.length = n0 := HN0.out
    rw [hn1] at hrA hoA
    have hlen1 : (acc0 ++ [91, 42]).length ≤ 1000000000 := by simp; omega
    clear hn1
    refine wpAnyH_ready (rs := [2]) (by kernel_rfl) (by simp) ?_
    refine AllReadyH.cons rfl (fun K hK => ?_) AllReadyH.nil
    go_simp
    refine hK.out _ _ (blk_alloc hHeld _) (fun hHB => ?_)
    clear hK K hHB
    refine wpAnyH_ready (rs := [3]) (by kernel_rfl) (by simp) ?_
    refine AllReadyH.cons rfl (fun K hK => ?_) AllReadyH.nil
    rw [if_pos (by kernel_rfl)]
    refine wp_append (.tmp 8) (.tmp 10) rfl rfl rfl hrA (hK.out _ _ (hkA _ _ _ (by decide) hHeld) (fun hHA => ?_))
    clear hK K hrA
    try simp only [Act.put, List.setIfInBounds_toArray]
    have hc1 := appendHex_any pr base (by omega) _ _ w1 hoA hlen1 hsA h6 (((hd.trans hbA).cell (p := ⟨6, 15, none⟩) h6).trans ht)
    refine wpAnyH_ready (rs := [6]) (by kernel_rfl) (by simp) ?_
    refine AllReadyH.cons rfl (fun K hK => ?_) AllReadyH.nil
    go_simp
    refine hc1.mono ?_
    rintro e W1 ⟨v2, rfl, hoC, hbC, hs1, hkC⟩
    go_simp
    refine hK.out _ _ (hkC _ _ _ (by decide) hHA) (fun hB1 => ?_)
    clear hK K
    obtain ⟨acc1, hacc'⟩ : ∃ acc', acc' = acc0 ++ [91, 42] ++ pointS pr := ⟨_, rfl⟩
    have hl6 : (pointS pr).length ≤ 1000 := pointS_short pr (by omega)
    have hl1 : acc1.length ≤ 100000000 + 2000 * 1 := by rw [hacc']; simp; omega
    rw [← hacc'] at hoC
    obtain ⟨a1, c1, rfl⟩ := bown_val hoC
    have HA1 : Hid (acc1 = acc0 ++ [91, 42] ++ pointS pr) := hacc'
    obtain ⟨n1, hn2⟩ : ∃ n', acc1.length = n' := ⟨_, rfl⟩
    have HN1 : Hid (acc1.length = n1) := hn2
    rw [hn2] at hoC
    have ho1 : BOwn 5 W1 base (.slice a1 n1 c1) acc1 := hoC
    have hb1 : Below base w W1 := (hd.trans hbA).trans hbC
    have hk1 : KO w W1 := (hkd.trans hkA).trans hkC
    simp only [hn2]
    clear hacc' hn2 hHeld hd hod hsd hkd hoA hbA hsA hkA hHA hoC hbC hkC hc1 hlen1 hl6
    refine wpAnyH_takeD (i := 7) (some 0) (v := ?v18) rfl rfl (by kernel_rfl) (by kernel_rfl) (by kernel_rfl) (fun _ _ _ h => h) (Or.inl ⟨by kernel_rfl, ?hy18⟩) (by assumption) ?rest18
    case hy18 => (intro x hSx; (try dsimp only at hSx); have s0 := hSx.cell 0; have s1 := hSx.cell 1; have s2 := hSx.cell 2; have s3 := hSx.cell 3; go_simp; first | done | with_reducible rfl)
    try simp only [Act.put, List.setIfInBounds_toArray, List.set_cons_zero]
    refine wpAnyH_done (by kernel_rfl) ?_ _
    go_upto_region 5 with fail
    refine wp_region_held_drew (S := fun x => Blk x B 49 #[.bool true, .int .i64 (pr : Int), .int .i64 (se : Int), .int .i64 (te : Int)]) (by kernel_rfl) hB1 (fun hHeld => ?_)
    have hd : Below base w W1.drew := hb1.drew
    have hod : BOwn 5 W1.drew base (.slice a1 n1 c1) acc1 := ho1
    have hsd : base ≤ W1.drew.heap.size := hs1
    have hkd : KO w W1.drew := hk1
    generalize W1.drew = Wd at hHeld hd hod hsd hkd ⊢
    clear ho1 hb1 hs1 hk1 hB1
    refine wpAnyH_takeD (i := 0) (some 15) (v := ?v19) rfl rfl (by kernel_rfl) (by kernel_rfl) (by kernel_rfl) (fun _ _ _ h => h) (Or.inl ⟨by kernel_rfl, ?hy19⟩) (by assumption) ?rest19
    case hy19 => (intro x hSx; (try dsimp only at hSx); have s0 := hSx.cell 0; have s1 := hSx.cell 1; have s2 := hSx.cell 2; have s3 := hSx.cell 3; go_simp; first | done | with_reducible rfl)
    try simp only [Act.put, List.setIfInBounds_toArray, List.set_cons_zero, List.set_cons_succ]
    refine wpAnyH_takeD (i := 3) (some 18) (v := ?v20) rfl rfl (by kernel_rfl) (by kernel_rfl) (by kernel_rfl) (fun _ _ _ h => h) (Or.inl ⟨by kernel_rfl, ?hy20⟩) (by assumption) ?rest20
    case hy20 => (intro x hSx; (try dsimp only at hSx); have s0 := hSx.cell 0; have s1 := hSx.cell 1; have s2 := hSx.cell 2; have s3 := hSx.cell 3; go_simp; first | done | with_reducible rfl)
    try simp only [Act.put, List.setIfInBounds_toArray, List.set_cons_zero, List.set_cons_succ]
    refine wpAnyH_takeD (i := 4) (some 19) (v := ?v21) rfl rfl (by kernel_rfl) (by kernel_rfl) (by kernel_rfl) (fun _ _ _ h => h) (Or.inl ⟨by kernel_rfl, ?hy21⟩) (by assumption) ?rest21
    case hy21 => (intro x hSx; (try dsimp only at hSx); have s0 := hSx.cell 0; have s1 := hSx.cell 1; have s2 := hSx.cell 2; have s3 := hSx.cell 3; go_simp; first | done | with_reducible rfl)
    try simp only [Act.put, List.setIfInBounds_toArray, List.set_cons_zero, List.set_cons_succ]
    obtain ⟨b1, d1, w1, hrA, hoA, hbA, hsA, hkA⟩ := run_app base a1 n1 c1 acc1 Wd hod (by omega) hsd [46] (by decide) (by decide)
    have hn1 : acc1.length = n1 := HN1.out
    rw [hn1] at hrA hoA
    have hlen1 : (acc1 ++ [46]).length ≤ 1000000000 := by simp; omega
    clear hn1
    refine wpAnyH_ready (rs := [1]) (by kernel_rfl) (by simp) ?_
    refine AllReadyH.cons rfl (fun K hK => ?_) AllReadyH.nil
    go_simp
    refine hK.out _ _ (blk_alloc hHeld _) (fun hHB => ?_)
    clear hK K hHB
    refine wpAnyH_ready (rs := [2]) (by kernel_rfl) (by simp) ?_
    refine AllReadyH.cons rfl (fun K hK => ?_) AllReadyH.nil
    rw [if_pos (by kernel_rfl)]
    refine wp_append (.tmp 15) (.tmp 16) rfl rfl rfl hrA (hK.out _ _ (hkA _ _ _ (by decide) hHeld) (fun hHA => ?_))
    clear hK K hrA
    try simp only [Act.put, List.setIfInBounds_toArray]
    have hc1 := appendHex_any se base (by omega) _ _ w1 hoA hlen1 hsA h6 (((hd.trans hbA).cell (p := ⟨6, 15, none⟩) h6).trans ht)
    refine wpAnyH_ready (rs := [5]) (by kernel_rfl) (by simp) ?_
    refine AllReadyH.cons rfl (fun K hK => ?_) AllReadyH.nil
    go_simp
    refine hc1.mono ?_
    rintro e W2 ⟨v2, rfl, hoC, hbC, hs2, hkC⟩
    go_simp
    refine hK.out _ _ (hkC _ _ _ (by decide) hHA) (fun hB2 => ?_)
    clear hK K
    obtain ⟨acc2, hacc'⟩ : ∃ acc', acc' = acc1 ++ [46] ++ pointS se := ⟨_, rfl⟩
    have hl6 : (pointS se).length ≤ 1000 := pointS_short se (by omega)
    have hl2 : acc2.length ≤ 100000000 + 2000 * 2 := by rw [hacc']; simp; omega
    rw [← hacc'] at hoC
    obtain ⟨a2, c2, rfl⟩ := bown_val hoC
    have HA2 : Hid (acc2 = acc1 ++ [46] ++ pointS se) := hacc'
    obtain ⟨n2, hn2⟩ : ∃ n', acc2.length = n' := ⟨_, rfl⟩
    have HN2 : Hid (acc2.length = n2) := hn2
    rw [hn2] at hoC
    have ho2 : BOwn 5 W2 base (.slice a2 n2 c2) acc2 := hoC
    have hb2 : Below base w W2 := (hd.trans hbA).trans hbC
    have hk2 : KO w W2 := (hkd.trans hkA).trans hkC
    simp only [hn2]
    clear hacc' hn2 hHeld hd hod hsd hkd hoA hbA hsA hkA hHA hoC hbC hkC hc1 hlen1 hl6
    refine wpAnyH_takeD (i := 6) (some 0) (v := ?v22) rfl rfl (by kernel_rfl) (by kernel_rfl) (by kernel_rfl) (fun _ _ _ h => h) (Or.inl ⟨by kernel_rfl, ?hy22⟩) (by assumption) ?rest22
    case hy22 => (intro x hSx; (try dsimp only at hSx); have s0 := hSx.cell 0; have s1 := hSx.cell 1; have s2 := hSx.cell 2; have s3 := hSx.cell 3; go_simp; first | done | with_reducible rfl)
    try simp only [Act.put, List.setIfInBounds_toArray, List.set_cons_zero]
    refine wpAnyH_done (by kernel_rfl) ?_ _
    go_upto_region 6 with fail
    refine wp_region_held_drew (S := fun x => Blk x B 49 #[.bool true, .int .i64 (pr : Int), .int .i64 (se : Int), .int .i64 (te : Int)]) (by kernel_rfl) hB2 (fun hHeld => ?_)
    have hd : Below base w W2.drew := hb2.drew
    have hod : BOwn 5 W2.drew base (.slice a2 n2 c2) acc2 := ho2
    have hsd : base ≤ W2.drew.heap.size := hs2
    have hkd : KO w W2.drew := hk2
    generalize W2.drew = Wd at hHeld hd hod hsd hkd ⊢
    clear ho2 hb2 hs2 hk2 hB2
    refine wpAnyH_takeD (i := 0) (some 21) (v := ?v23) rfl rfl (by kernel_rfl) (by kernel_rfl) (by kernel_rfl) (fun _ _ _ h => h) (Or.inl ⟨by kernel_rfl, ?hy23⟩) (by assumption) ?rest23
    case hy23 => (intro x hSx; (try dsimp only at hSx); have s0 := hSx.cell 0; have s1 := hSx.cell 1; have s2 := hSx.cell 2; have s3 := hSx.cell 3; go_simp; first | done | with_reducible rfl)
    try simp only [Act.put, List.setIfInBounds_toArray, List.set_cons_zero, List.set_cons_succ]
    refine wpAnyH_takeD (i := 3) (some 24) (v := ?v24) rfl rfl (by kernel_rfl) (by kernel_rfl) (by kernel_rfl) (fun _ _ _ h => h) (Or.inl ⟨by kernel_rfl, ?hy24⟩) (by assumption) ?rest24
    case hy24 => (intro x hSx; (try dsimp only at hSx); have s0 := hSx.cell 0; have s1 := hSx.cell 1; have s2 := hSx.cell 2; have s3 := hSx.cell 3; go_simp; first | done | with_reducible rfl)
    try simp only [Act.put, List.setIfInBounds_toArray, List.set_cons_zero, List.set_cons_succ]
    refine wpAnyH_takeD (i := 4) (some 25) (v := ?v25) rfl rfl (by kernel_rfl) (by kernel_rfl) (by kernel_rfl) (fun _ _ _ h => h) (Or.inl ⟨by kernel_rfl, ?hy25⟩) (by assumption) ?rest25
    case hy25 => (intro x hSx; (try dsimp only at hSx); have s0 := hSx.cell 0; have s1 := hSx.cell 1; have s2 := hSx.cell 2; have s3 := hSx.cell 3; go_simp; first | done | with_reducible rfl)
    try simp only [Act.put, List.setIfInBounds_toArray, List.set_cons_zero, List.set_cons_succ]
    obtain ⟨b1, d1, w1, hrA, hoA, hbA, hsA, hkA⟩ := run_app base a2 n2 c2 acc2 Wd hod (by omega) hsd [46] (by decide) (by decide)
    have hn1 : acc2.length = n2 := HN2.out
    rw [hn1] at hrA hoA
    have hlen1 : (acc2 ++ [46]).length ≤ 1000000000 := by simp; omega
    clear hn1
    refine wpAnyH_ready (rs := [1]) (by kernel_rfl) (by simp) ?_
    refine AllReadyH.cons rfl (fun K hK => ?_) AllReadyH.nil
    go_simp
    refine hK.out _ _ (blk_alloc hHeld _) (fun hHB => ?_)
    clear hK K hHB
    refine wpAnyH_ready (rs := [2]) (by kernel_rfl) (by simp) ?_
    refine AllReadyH.cons rfl (fun K hK => ?_) AllReadyH.nil
    rw [if_pos (by kernel_rfl)]
    refine wp_append (.tmp 21) (.tmp 22) rfl rfl rfl hrA (hK.out _ _ (hkA _ _ _ (by decide) hHeld) (fun hHA => ?_))
    clear hK K hrA
    try simp only [Act.put, List.setIfInBounds_toArray]
    have hc1 := appendHex_any te base (by omega) _ _ w1 hoA hlen1 hsA h6 (((hd.trans hbA).cell (p := ⟨6, 15, none⟩) h6).trans ht)
    refine wpAnyH_ready (rs := [5]) (by kernel_rfl) (by simp) ?_
    refine AllReadyH.cons rfl (fun K hK => ?_) AllReadyH.nil
    go_simp
    refine hc1.mono ?_
    rintro e W3 ⟨v2, rfl, hoC, hbC, hs3, hkC⟩
    go_simp
    refine hK.out _ _ (hkC _ _ _ (by decide) hHA) (fun hB3 => ?_)
    clear hK K
    obtain ⟨acc3, hacc'⟩ : ∃ acc', acc' = acc2 ++ [46] ++ pointS te := ⟨_, rfl⟩
    have hl6 : (pointS te).length ≤ 1000 := pointS_short te (by omega)
    have hl3 : acc3.length ≤ 100000000 + 2000 * 3 := by rw [hacc']; simp; omega
    rw [← hacc'] at hoC
    obtain ⟨a3, c3, rfl⟩ := bown_val hoC
    have HA3 : Hid (acc3 = acc2 ++ [46] ++ pointS te) := hacc'
    obtain ⟨n3, hn2⟩ : ∃ n', acc3.length = n' := ⟨_, rfl⟩
    have HN3 : Hid (acc3.length = n3) := hn2
    rw [hn2] at hoC
    have ho3 : BOwn 5 W3 base (.slice a3 n3 c3) acc3 := hoC
    have hb3 : Below base w W3 := (hd.trans hbA).trans hbC
    have hk3 : KO w W3 := (hkd.trans hkA).trans hkC
    simp only [hn2]
    clear hacc' hn2 hHeld hd hod hsd hkd hoA hbA hsA hkA hHA hoC hbC hkC hc1 hlen1 hl6
    refine wpAnyH_takeD (i := 6) (some 0) (v := ?v26) rfl rfl (by kernel_rfl) (by kernel_rfl) (by kernel_rfl) (fun _ _ _ h => h) (Or.inl ⟨by kernel_rfl, ?hy26⟩) (by assumption) ?rest26
    case hy26 => (intro x hSx; (try dsimp only at hSx); have s0 := hSx.cell 0; have s1 := hSx.cell 1; have s2 := hSx.cell 2; have s3 := hSx.cell 3; go_simp; first | done | with_reducible rfl)
    try simp only [Act.put, List.setIfInBounds_toArray, List.set_cons_zero]
    refine wpAnyH_done (by kernel_rfl) ?_ _
    go_wp2_with (at_builtin; refine wpList_append_byteK rfl _ _ rfl base _ _ rfl ho3 93 93 rfl _ rfl (by omega) hs3 w hb3 hk3 ?_; intro v' w' ho4 hb4 hs4 hk4)
    go_ret
    refine ⟨_, rfl, ?_, hb4, hs4, hk4⟩
    rw [HA3.out, HA2.out, HA1.out, HA0.out] at ho4
    simpa [elP] using ho4
end Go.Proofs.YtfeppbiodbhpcaaDoor
