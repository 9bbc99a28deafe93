/- What (*Shelf).Put and Delete do (contracts; nothing is claimed here). -/
import Derived.Test.YtklnnkdcnaieoaaShl
namespace Go.Proofs.Ytklnnkdcnaieoaa
open Go.RowKit Go.Vf

/-- The shelf has other pairs now; all else stays. -/
def ChgPost (B : Nat) (b : Bool) (M : List Pr) (w : World) (e : Ending) (w' : World) : Prop := e = .returned (.bool b) ∧ ShAt w' B M ∧ Oth B w w' ∧ Below B w w'

set_option maxHeartbeats 8000000 in
set_option maxRecDepth 20000 in
theorem put_any (w : World) (B : Nat) (L : List Pr) (k v : ByteArray) (h : ShAt w B L) (hlen : L.length < 288230376151711744) : Calls Try.prog 15 #[.pointer (some ⟨B, 0, none⟩), .string k, .string v] w (ChgPost B (get k L).isSome (ins k v L) w) := by
  obtain ⟨T, hTL, hT, hB⟩ := h.tree
  have HG := get_any w B L k h
  have HS : Hid (Srt T.toL) := by rw [hTL]; exact h.srt
  have HLL : Hid (T.toL.length < 288230376151711744) := by rw [hTL]; exact hlen
  have HL : Hid (T.toL = L) := hTL
  have HSL : Hid (Srt L) := h.srt
  obtain ⟨n, Hn⟩ : ∃ n : Int, Hid (n = (L.length : Int)) := ⟨_, rfl⟩
  have hn0 : 0 ≤ n := by rw [Hn.out]; omega
  have hn1 : n < 288230376151711744 := by rw [Hn.out]; omega
  rw [← Hn.out] at hB
  clear hTL h hlen
  go_enter Try.func15, Try.ntmps15
  go_wp2_with fail
  refine HG.mono ?_
  clear HG
  rintro e w1 ⟨rfl, hb1⟩
  unfold getV
  have hB1 := hB.old hb1
  have HT1 : Hid (TAt w1 T) := hT.old hb1
  have HBB : Hid (Below B w w1) := hb1.mono (Nat.le_of_lt hB.lt)
  have HOO : Hid (Oth B w w1) := Oth.of hb1
  clear hB hT hb1
  generalize hgv : (get k L).getD ⟨#[]⟩ = gv
  clear hgv
  cases hg : (get k L).isSome with
  | true =>
    have HIL : Hid (n = ((ins k v L).length : Int)) := by rw [Hn.out, ins_length HSL.out, hg]; rfl
    have HGG : Hid ((get k L).isSome = true) := hg
    clear hg Hn
    go_upto_region 6 with fail
    obtain ⟨w3, hw3⟩ : ∃ w3, w3 = w1 := ⟨_, rfl⟩
    subst hw3
    obtain ⟨m, hm⟩ : ∃ m, m = n := ⟨_, rfl⟩
    subst hm
    have HB3 : Hid (Blk w3 B 56 #[.pointer T.ptr, .int .i64 m]) := hB1
    have HT3 := HT1
    clear hB1 HT1
    go_upto_region 6 with fail
    refine wp_region_held_drew (S := fun x => Below B w x ∧ Oth B w3 x) (by kernel_rfl) (⟨HBB.out.drew, Oth.of ((Below.refl _ _).drew)⟩) (fun hHelda => ?_)
    refine wpAnyH_takeD (i := 0) (some 26) (v := ?va0c1) rfl rfl (by kernel_rfl) (by kernel_rfl) (by kernel_rfl) (fun _ _ _ h => h) (Or.inl ⟨by kernel_rfl, ?hya0c1⟩) (by assumption) ?resta0c1
    case hya0c1 => (intro x hSx; (try dsimp only at hSx); go_simp; first | done | with_reducible rfl)
    try simp only [Act.put, List.setIfInBounds_toArray, List.set_cons_zero, List.set_cons_succ]
    refine wpAnyH_takeD (i := 1) (some 27) (v := ?va1c2) rfl rfl (by kernel_rfl) (by kernel_rfl) (by kernel_rfl) (fun _ _ _ h => h) (Or.inl ⟨by kernel_rfl, ?hya1c2⟩) (by assumption) ?resta1c2
    case hya1c2 => (intro x hSx; (try dsimp only at hSx); go_simp; first | done | with_reducible rfl)
    try simp only [Act.put, List.setIfInBounds_toArray, List.set_cons_zero, List.set_cons_succ]
    refine wpAnyH_takeD (i := 2) (some 28) (v := ?va2c3) rfl rfl (by kernel_rfl) (by kernel_rfl) (by kernel_rfl) (fun _ _ _ h => h) (Or.inl ⟨by kernel_rfl, ?hya2c3⟩) (by assumption) ?resta2c3
    case hya2c3 => (intro x hSx; (try dsimp only at hSx); go_simp; first | done | with_reducible rfl)
    try simp only [Act.put, List.setIfInBounds_toArray, List.set_cons_zero, List.set_cons_succ]
    refine wpAnyH_takeD (i := 3) (some 29) (v := ?va3c4) rfl rfl (by kernel_rfl) (by kernel_rfl) (by kernel_rfl) (fun _ _ _ h => h) (Or.inl ⟨by kernel_rfl, ?hya3c4⟩) (by assumption) ?resta3c4
    case hya3c4 => (intro x hSx; (try dsimp only at hSx); go_simp; first | done | with_reducible rfl)
    try simp only [Act.put, List.setIfInBounds_toArray, List.set_cons_zero, List.set_cons_succ]
    refine wpAnyH_takeD (i := 5) (some 31) (v := ?va5c5) rfl rfl (by kernel_rfl) (by kernel_rfl) (by kernel_rfl) (fun _ _ _ h => h) (Or.inl ⟨by kernel_rfl, ?hya5c5⟩) (by assumption) ?resta5c5
    case hya5c5 => (intro x hSx; (try dsimp only at hSx); go_simp; first | done | with_reducible rfl)
    try simp only [Act.put, List.setIfInBounds_toArray, List.set_cons_zero, List.set_cons_succ]
    refine wpAnyH_takeD (i := 7) (some 33) (v := ?va7c6) rfl rfl (by kernel_rfl) (by kernel_rfl) (by kernel_rfl) (fun _ _ _ h => h) (Or.inl ⟨by kernel_rfl, ?hya7c6⟩) (by assumption) ?resta7c6
    case hya7c6 => (intro x hSx; (try dsimp only at hSx); go_simp; first | done | with_reducible rfl)
    try simp only [Act.put, List.setIfInBounds_toArray, List.set_cons_zero, List.set_cons_succ]
    refine wpAnyH_takeD (i := 8) (some 34) (v := ?va8c7) rfl rfl (by kernel_rfl) (by kernel_rfl) (by kernel_rfl) (fun _ _ _ h => h) (Or.inl ⟨by kernel_rfl, ?hya8c7⟩) (by assumption) ?resta8c7
    case hya8c7 => (intro x hSx; (try dsimp only at hSx); go_simp; first | done | with_reducible rfl)
    try simp only [Act.put, List.setIfInBounds_toArray, List.set_cons_zero, List.set_cons_succ]
    refine wpAnyH_takeD (i := 9) (some 35) (v := ?va9c8) rfl rfl (by kernel_rfl) (by kernel_rfl) (by kernel_rfl) (fun _ _ _ h => h) (Or.inl ⟨by kernel_rfl, ?hya9c8⟩) (by assumption) ?resta9c8
    case hya9c8 => (intro x hSx; (try dsimp only at hSx); go_simp; first | done | with_reducible rfl)
    try simp only [Act.put, List.setIfInBounds_toArray, List.set_cons_zero, List.set_cons_succ]
    refine wpAnyH_ready (rs := [4, 6]) (by kernel_rfl) (by simp) ?_
    refine AllReadyH.cons rfl (fun K hK => ?_) (AllReadyH.cons rfl (fun K hK => ?_) AllReadyH.nil)
    · skip
      have cc := HB3.out.c2.1
      go_simp
      clear cc
      refine hK.out _ _ hHelda (fun hHelda4 => ?_)
      clear hK K
      try simp only [Act.put, List.setIfInBounds_toArray, List.set_cons_zero, List.set_cons_succ]
      refine wpAnyH_ready (rs := [6]) (by kernel_rfl) (by simp) ?_
      refine AllReadyH.cons rfl (fun K hK => ?_) AllReadyH.nil
      go_simp
      go_wp2_with (go_at_call 32; refine (toward_gives k _).mono ?_; rintro e y6 ⟨rfl, hk6, hq6⟩)
      have hBy : Blk y6 B 56 #[.pointer T.ptr, .int .i64 m] := Blk.old (w := w3.drew) HB3.out hq6
      have hTy : TAt y6 T := TAt.old (w := w3.drew) (HT3.out.old (Below.refl _ _).drew) hq6
      refine hK.out _ _ ⟨hHelda4.1.trans (hq6.mono (Nat.le_of_lt HB3.out.lt)), hHelda4.2.trans (Oth.of hq6)⟩ (fun hHelda6 => ?_)
      clear hK K
      try simp only [Act.put, List.setIfInBounds_toArray, List.set_cons_zero, List.set_cons_succ]
      refine wpAnyH_ready (rs := [10]) (by kernel_rfl) (by simp) ?_
      refine AllReadyH.cons rfl (fun K hK => ?_) AllReadyH.nil
      go_simp
      go_wp2_with (go_at_call 31; refine (with_any k v w3.heap.size T y6 hTy HS.out HLL.out hk6.c1 hk6.lt).mono ?_; rintro e y10 ⟨V, rfl, hv, hVL, hq10⟩)
      have hBz : Blk y10 B 56 #[.pointer T.ptr, .int .i64 m] := hBy.old hq10
      refine hK.out _ _ ⟨hHelda6.1.trans (hq10.mono (Nat.le_of_lt hBy.lt)), hHelda6.2.trans (Oth.of hq10)⟩ (fun hHelda10 => ?_)
      clear hK K
      try simp only [Act.put, List.setIfInBounds_toArray, List.set_cons_zero, List.set_cons_succ]
      refine wpAnyH_takeD (i := 11) (some 37) (v := ?va11c9) rfl rfl (by kernel_rfl) (by kernel_rfl) (by kernel_rfl) (fun _ _ _ h => h) (Or.inl ⟨by kernel_rfl, ?hya11c9⟩) (by assumption) ?resta11c9
      case hya11c9 => (intro x hSx; (try dsimp only at hSx); go_simp; first | done | with_reducible rfl)
      try simp only [Act.put, List.setIfInBounds_toArray, List.set_cons_zero, List.set_cons_succ]
      refine wpAnyH_takeD (i := 12) (some 38) (v := ?va12c10) rfl rfl (by kernel_rfl) (by kernel_rfl) (by kernel_rfl) (fun _ _ _ h => h) (Or.inl ⟨by kernel_rfl, ?hya12c10⟩) (by assumption) ?resta12c10
      case hya12c10 => (intro x hSx; (try dsimp only at hSx); go_simp; first | done | with_reducible rfl)
      try simp only [Act.put, List.setIfInBounds_toArray, List.set_cons_zero, List.set_cons_succ]
      refine wpAnyH_ready (rs := [13]) (by kernel_rfl) (by simp) ?_
      refine AllReadyH.cons rfl (fun K hK => ?_) AllReadyH.nil
      obtain ⟨p0, p1⟩ := hBz.c2
      have f0 := hBz.frozen 0
      go_simp
      refine hK.out _ _ ⟨hHelda10.1.setCell (p := ⟨B, 0, none⟩) (Nat.le_refl _) _, hHelda10.2.setCell 0 _⟩ (fun hHelda13 => ?_)
      clear p0 p1 f0
      clear hK K
      try simp only [Act.put, List.setIfInBounds_toArray, List.set_cons_zero, List.set_cons_succ]
      refine wpAnyH_done (by kernel_rfl) ?_ _
      have hBf := hBz.set 0 (.pointer V.ptr)
      have hVf : TAt (y10.setCell ⟨B, 0, none⟩ (.pointer V.ptr)) V := hv.keep (KeepN.oth ((Oth.refl _ _).setCell 0 _) hBz (by decide))
      have hO := hHelda13
      generalize y10.setCell ⟨B, 0, none⟩ (.pointer V.ptr) = wf at *
      go_wp2
      go_ret
      refine ⟨by rw [HGG.out]; rfl, ⟨HSL.out.ins k v, V, hVL.trans (by rw [HL.out]), hVf, ?_⟩, HOO.out.trans hO.2, hO.1⟩
      rw [← HIL.out]
      exact hBf
    · skip
      go_simp
      go_wp2_with (go_at_call 32; refine (toward_gives k _).mono ?_; rintro e y6 ⟨rfl, hk6, hq6⟩)
      have hBy : Blk y6 B 56 #[.pointer T.ptr, .int .i64 m] := Blk.old (w := w3.drew) HB3.out hq6
      have hTy : TAt y6 T := TAt.old (w := w3.drew) (HT3.out.old (Below.refl _ _).drew) hq6
      refine hK.out _ _ ⟨hHelda.1.trans (hq6.mono (Nat.le_of_lt HB3.out.lt)), hHelda.2.trans (Oth.of hq6)⟩ (fun hHelda6 => ?_)
      clear hK K
      try simp only [Act.put, List.setIfInBounds_toArray, List.set_cons_zero, List.set_cons_succ]
      refine wpAnyH_ready (rs := [4]) (by kernel_rfl) (by simp) ?_
      refine AllReadyH.cons rfl (fun K hK => ?_) AllReadyH.nil
      have cc := hBy.c2.1
      go_simp
      clear cc
      refine hK.out _ _ hHelda6 (fun hHelda4 => ?_)
      clear hK K
      try simp only [Act.put, List.setIfInBounds_toArray, List.set_cons_zero, List.set_cons_succ]
      refine wpAnyH_ready (rs := [10]) (by kernel_rfl) (by simp) ?_
      refine AllReadyH.cons rfl (fun K hK => ?_) AllReadyH.nil
      go_simp
      go_wp2_with (go_at_call 31; refine (with_any k v w3.heap.size T y6 hTy HS.out HLL.out hk6.c1 hk6.lt).mono ?_; rintro e y10 ⟨V, rfl, hv, hVL, hq10⟩)
      have hBz : Blk y10 B 56 #[.pointer T.ptr, .int .i64 m] := hBy.old hq10
      refine hK.out _ _ ⟨hHelda4.1.trans (hq10.mono (Nat.le_of_lt hBy.lt)), hHelda4.2.trans (Oth.of hq10)⟩ (fun hHelda10 => ?_)
      clear hK K
      try simp only [Act.put, List.setIfInBounds_toArray, List.set_cons_zero, List.set_cons_succ]
      refine wpAnyH_takeD (i := 11) (some 37) (v := ?va11c11) rfl rfl (by kernel_rfl) (by kernel_rfl) (by kernel_rfl) (fun _ _ _ h => h) (Or.inl ⟨by kernel_rfl, ?hya11c11⟩) (by assumption) ?resta11c11
      case hya11c11 => (intro x hSx; (try dsimp only at hSx); go_simp; first | done | with_reducible rfl)
      try simp only [Act.put, List.setIfInBounds_toArray, List.set_cons_zero, List.set_cons_succ]
      refine wpAnyH_takeD (i := 12) (some 38) (v := ?va12c12) rfl rfl (by kernel_rfl) (by kernel_rfl) (by kernel_rfl) (fun _ _ _ h => h) (Or.inl ⟨by kernel_rfl, ?hya12c12⟩) (by assumption) ?resta12c12
      case hya12c12 => (intro x hSx; (try dsimp only at hSx); go_simp; first | done | with_reducible rfl)
      try simp only [Act.put, List.setIfInBounds_toArray, List.set_cons_zero, List.set_cons_succ]
      refine wpAnyH_ready (rs := [13]) (by kernel_rfl) (by simp) ?_
      refine AllReadyH.cons rfl (fun K hK => ?_) AllReadyH.nil
      obtain ⟨p0, p1⟩ := hBz.c2
      have f0 := hBz.frozen 0
      go_simp
      refine hK.out _ _ ⟨hHelda10.1.setCell (p := ⟨B, 0, none⟩) (Nat.le_refl _) _, hHelda10.2.setCell 0 _⟩ (fun hHelda13 => ?_)
      clear p0 p1 f0
      clear hK K
      try simp only [Act.put, List.setIfInBounds_toArray, List.set_cons_zero, List.set_cons_succ]
      refine wpAnyH_done (by kernel_rfl) ?_ _
      have hBf := hBz.set 0 (.pointer V.ptr)
      have hVf : TAt (y10.setCell ⟨B, 0, none⟩ (.pointer V.ptr)) V := hv.keep (KeepN.oth ((Oth.refl _ _).setCell 0 _) hBz (by decide))
      have hO := hHelda13
      generalize y10.setCell ⟨B, 0, none⟩ (.pointer V.ptr) = wf at *
      go_wp2
      go_ret
      refine ⟨by rw [HGG.out]; rfl, ⟨HSL.out.ins k v, V, hVL.trans (by rw [HL.out]), hVf, ?_⟩, HOO.out.trans hO.2, hO.1⟩
      rw [← HIL.out]
      exact hBf
  | false =>
    have HIL : Hid (n + 1 = ((ins k v L).length : Int)) := by
      have e := ins_length (k := k) (v := v) HSL.out
      rw [hg, if_neg (by decide)] at e
      show n + 1 = _
      rw [Hn.out, e]
      omega
    have HGG : Hid ((get k L).isSome = false) := hg
    clear hg Hn
    have c1 := hB1.c2.2
    have f1 := hB1.frozen 1
    have hB2 : Blk (w1.setCell ⟨B, 1, none⟩ (.int .i64 (n + 1))) B 56 #[.pointer T.ptr, .int .i64 (n + 1)] := hB1.set 1 _
    have hT2 : Hid (TAt (w1.setCell ⟨B, 1, none⟩ (.int .i64 (n + 1))) T) := HT1.out.keep (KeepN.oth ((Oth.refl _ _).setCell 1 _) hB1 (by decide))
    have HBB2 : Hid (Below B w (w1.setCell ⟨B, 1, none⟩ (.int .i64 (n + 1)))) := HBB.out.setCell (p := ⟨B, 1, none⟩) (Nat.le_refl _) _
    have HOO2 : Hid (Oth B w (w1.setCell ⟨B, 1, none⟩ (.int .i64 (n + 1)))) := HOO.out.setCell 1 _
    clear HT1 HBB HOO hB1
    go_upto_region 6 with fail
    generalize w1.setCell ⟨B, 1, none⟩ (.int .i64 (n + 1)) = w3 at *
    clear c1 f1
    generalize n + 1 = m at *
    have HB3 : Hid (Blk w3 B 56 #[.pointer T.ptr, .int .i64 m]) := hB2
    have HT3 := hT2
    have HBB := HBB2
    have HOO := HOO2
    clear hB2 hT2 HBB2 HOO2
    go_upto_region 6 with fail
    refine wp_region_held_drew (S := fun x => Below B w x ∧ Oth B w3 x) (by kernel_rfl) (⟨HBB.out.drew, Oth.of ((Below.refl _ _).drew)⟩) (fun hHeldb => ?_)
    refine wpAnyH_takeD (i := 0) (some 26) (v := ?vb0c1) rfl rfl (by kernel_rfl) (by kernel_rfl) (by kernel_rfl) (fun _ _ _ h => h) (Or.inl ⟨by kernel_rfl, ?hyb0c1⟩) (by assumption) ?restb0c1
    case hyb0c1 => (intro x hSx; (try dsimp only at hSx); go_simp; first | done | with_reducible rfl)
    try simp only [Act.put, List.setIfInBounds_toArray, List.set_cons_zero, List.set_cons_succ]
    refine wpAnyH_takeD (i := 1) (some 27) (v := ?vb1c2) rfl rfl (by kernel_rfl) (by kernel_rfl) (by kernel_rfl) (fun _ _ _ h => h) (Or.inl ⟨by kernel_rfl, ?hyb1c2⟩) (by assumption) ?restb1c2
    case hyb1c2 => (intro x hSx; (try dsimp only at hSx); go_simp; first | done | with_reducible rfl)
    try simp only [Act.put, List.setIfInBounds_toArray, List.set_cons_zero, List.set_cons_succ]
    refine wpAnyH_takeD (i := 2) (some 28) (v := ?vb2c3) rfl rfl (by kernel_rfl) (by kernel_rfl) (by kernel_rfl) (fun _ _ _ h => h) (Or.inl ⟨by kernel_rfl, ?hyb2c3⟩) (by assumption) ?restb2c3
    case hyb2c3 => (intro x hSx; (try dsimp only at hSx); go_simp; first | done | with_reducible rfl)
    try simp only [Act.put, List.setIfInBounds_toArray, List.set_cons_zero, List.set_cons_succ]
    refine wpAnyH_takeD (i := 3) (some 29) (v := ?vb3c4) rfl rfl (by kernel_rfl) (by kernel_rfl) (by kernel_rfl) (fun _ _ _ h => h) (Or.inl ⟨by kernel_rfl, ?hyb3c4⟩) (by assumption) ?restb3c4
    case hyb3c4 => (intro x hSx; (try dsimp only at hSx); go_simp; first | done | with_reducible rfl)
    try simp only [Act.put, List.setIfInBounds_toArray, List.set_cons_zero, List.set_cons_succ]
    refine wpAnyH_takeD (i := 5) (some 31) (v := ?vb5c5) rfl rfl (by kernel_rfl) (by kernel_rfl) (by kernel_rfl) (fun _ _ _ h => h) (Or.inl ⟨by kernel_rfl, ?hyb5c5⟩) (by assumption) ?restb5c5
    case hyb5c5 => (intro x hSx; (try dsimp only at hSx); go_simp; first | done | with_reducible rfl)
    try simp only [Act.put, List.setIfInBounds_toArray, List.set_cons_zero, List.set_cons_succ]
    refine wpAnyH_takeD (i := 7) (some 33) (v := ?vb7c6) rfl rfl (by kernel_rfl) (by kernel_rfl) (by kernel_rfl) (fun _ _ _ h => h) (Or.inl ⟨by kernel_rfl, ?hyb7c6⟩) (by assumption) ?restb7c6
    case hyb7c6 => (intro x hSx; (try dsimp only at hSx); go_simp; first | done | with_reducible rfl)
    try simp only [Act.put, List.setIfInBounds_toArray, List.set_cons_zero, List.set_cons_succ]
    refine wpAnyH_takeD (i := 8) (some 34) (v := ?vb8c7) rfl rfl (by kernel_rfl) (by kernel_rfl) (by kernel_rfl) (fun _ _ _ h => h) (Or.inl ⟨by kernel_rfl, ?hyb8c7⟩) (by assumption) ?restb8c7
    case hyb8c7 => (intro x hSx; (try dsimp only at hSx); go_simp; first | done | with_reducible rfl)
    try simp only [Act.put, List.setIfInBounds_toArray, List.set_cons_zero, List.set_cons_succ]
    refine wpAnyH_takeD (i := 9) (some 35) (v := ?vb9c8) rfl rfl (by kernel_rfl) (by kernel_rfl) (by kernel_rfl) (fun _ _ _ h => h) (Or.inl ⟨by kernel_rfl, ?hyb9c8⟩) (by assumption) ?restb9c8
    case hyb9c8 => (intro x hSx; (try dsimp only at hSx); go_simp; first | done | with_reducible rfl)
    try simp only [Act.put, List.setIfInBounds_toArray, List.set_cons_zero, List.set_cons_succ]
    refine wpAnyH_ready (rs := [4, 6]) (by kernel_rfl) (by simp) ?_
    refine AllReadyH.cons rfl (fun K hK => ?_) (AllReadyH.cons rfl (fun K hK => ?_) AllReadyH.nil)
    · skip
      have cc := HB3.out.c2.1
      go_simp
      clear cc
      refine hK.out _ _ hHeldb (fun hHeldb4 => ?_)
      clear hK K
      try simp only [Act.put, List.setIfInBounds_toArray, List.set_cons_zero, List.set_cons_succ]
      refine wpAnyH_ready (rs := [6]) (by kernel_rfl) (by simp) ?_
      refine AllReadyH.cons rfl (fun K hK => ?_) AllReadyH.nil
      go_simp
      go_wp2_with (go_at_call 32; refine (toward_gives k _).mono ?_; rintro e y6 ⟨rfl, hk6, hq6⟩)
      have hBy : Blk y6 B 56 #[.pointer T.ptr, .int .i64 m] := Blk.old (w := w3.drew) HB3.out hq6
      have hTy : TAt y6 T := TAt.old (w := w3.drew) (HT3.out.old (Below.refl _ _).drew) hq6
      refine hK.out _ _ ⟨hHeldb4.1.trans (hq6.mono (Nat.le_of_lt HB3.out.lt)), hHeldb4.2.trans (Oth.of hq6)⟩ (fun hHeldb6 => ?_)
      clear hK K
      try simp only [Act.put, List.setIfInBounds_toArray, List.set_cons_zero, List.set_cons_succ]
      refine wpAnyH_ready (rs := [10]) (by kernel_rfl) (by simp) ?_
      refine AllReadyH.cons rfl (fun K hK => ?_) AllReadyH.nil
      go_simp
      go_wp2_with (go_at_call 31; refine (with_any k v w3.heap.size T y6 hTy HS.out HLL.out hk6.c1 hk6.lt).mono ?_; rintro e y10 ⟨V, rfl, hv, hVL, hq10⟩)
      have hBz : Blk y10 B 56 #[.pointer T.ptr, .int .i64 m] := hBy.old hq10
      refine hK.out _ _ ⟨hHeldb6.1.trans (hq10.mono (Nat.le_of_lt hBy.lt)), hHeldb6.2.trans (Oth.of hq10)⟩ (fun hHeldb10 => ?_)
      clear hK K
      try simp only [Act.put, List.setIfInBounds_toArray, List.set_cons_zero, List.set_cons_succ]
      refine wpAnyH_takeD (i := 11) (some 37) (v := ?vb11c9) rfl rfl (by kernel_rfl) (by kernel_rfl) (by kernel_rfl) (fun _ _ _ h => h) (Or.inl ⟨by kernel_rfl, ?hyb11c9⟩) (by assumption) ?restb11c9
      case hyb11c9 => (intro x hSx; (try dsimp only at hSx); go_simp; first | done | with_reducible rfl)
      try simp only [Act.put, List.setIfInBounds_toArray, List.set_cons_zero, List.set_cons_succ]
      refine wpAnyH_takeD (i := 12) (some 38) (v := ?vb12c10) rfl rfl (by kernel_rfl) (by kernel_rfl) (by kernel_rfl) (fun _ _ _ h => h) (Or.inl ⟨by kernel_rfl, ?hyb12c10⟩) (by assumption) ?restb12c10
      case hyb12c10 => (intro x hSx; (try dsimp only at hSx); go_simp; first | done | with_reducible rfl)
      try simp only [Act.put, List.setIfInBounds_toArray, List.set_cons_zero, List.set_cons_succ]
      refine wpAnyH_ready (rs := [13]) (by kernel_rfl) (by simp) ?_
      refine AllReadyH.cons rfl (fun K hK => ?_) AllReadyH.nil
      obtain ⟨p0, p1⟩ := hBz.c2
      have f0 := hBz.frozen 0
      go_simp
      refine hK.out _ _ ⟨hHeldb10.1.setCell (p := ⟨B, 0, none⟩) (Nat.le_refl _) _, hHeldb10.2.setCell 0 _⟩ (fun hHeldb13 => ?_)
      clear p0 p1 f0
      clear hK K
      try simp only [Act.put, List.setIfInBounds_toArray, List.set_cons_zero, List.set_cons_succ]
      refine wpAnyH_done (by kernel_rfl) ?_ _
      have hBf := hBz.set 0 (.pointer V.ptr)
      have hVf : TAt (y10.setCell ⟨B, 0, none⟩ (.pointer V.ptr)) V := hv.keep (KeepN.oth ((Oth.refl _ _).setCell 0 _) hBz (by decide))
      have hO := hHeldb13
      generalize y10.setCell ⟨B, 0, none⟩ (.pointer V.ptr) = wf at *
      go_wp2
      go_ret
      refine ⟨by rw [HGG.out]; rfl, ⟨HSL.out.ins k v, V, hVL.trans (by rw [HL.out]), hVf, ?_⟩, HOO.out.trans hO.2, hO.1⟩
      rw [← HIL.out]
      exact hBf
    · skip
      go_simp
      go_wp2_with (go_at_call 32; refine (toward_gives k _).mono ?_; rintro e y6 ⟨rfl, hk6, hq6⟩)
      have hBy : Blk y6 B 56 #[.pointer T.ptr, .int .i64 m] := Blk.old (w := w3.drew) HB3.out hq6
      have hTy : TAt y6 T := TAt.old (w := w3.drew) (HT3.out.old (Below.refl _ _).drew) hq6
      refine hK.out _ _ ⟨hHeldb.1.trans (hq6.mono (Nat.le_of_lt HB3.out.lt)), hHeldb.2.trans (Oth.of hq6)⟩ (fun hHeldb6 => ?_)
      clear hK K
      try simp only [Act.put, List.setIfInBounds_toArray, List.set_cons_zero, List.set_cons_succ]
      refine wpAnyH_ready (rs := [4]) (by kernel_rfl) (by simp) ?_
      refine AllReadyH.cons rfl (fun K hK => ?_) AllReadyH.nil
      have cc := hBy.c2.1
      go_simp
      clear cc
      refine hK.out _ _ hHeldb6 (fun hHeldb4 => ?_)
      clear hK K
      try simp only [Act.put, List.setIfInBounds_toArray, List.set_cons_zero, List.set_cons_succ]
      refine wpAnyH_ready (rs := [10]) (by kernel_rfl) (by simp) ?_
      refine AllReadyH.cons rfl (fun K hK => ?_) AllReadyH.nil
      go_simp
      go_wp2_with (go_at_call 31; refine (with_any k v w3.heap.size T y6 hTy HS.out HLL.out hk6.c1 hk6.lt).mono ?_; rintro e y10 ⟨V, rfl, hv, hVL, hq10⟩)
      have hBz : Blk y10 B 56 #[.pointer T.ptr, .int .i64 m] := hBy.old hq10
      refine hK.out _ _ ⟨hHeldb4.1.trans (hq10.mono (Nat.le_of_lt hBy.lt)), hHeldb4.2.trans (Oth.of hq10)⟩ (fun hHeldb10 => ?_)
      clear hK K
      try simp only [Act.put, List.setIfInBounds_toArray, List.set_cons_zero, List.set_cons_succ]
      refine wpAnyH_takeD (i := 11) (some 37) (v := ?vb11c11) rfl rfl (by kernel_rfl) (by kernel_rfl) (by kernel_rfl) (fun _ _ _ h => h) (Or.inl ⟨by kernel_rfl, ?hyb11c11⟩) (by assumption) ?restb11c11
      case hyb11c11 => (intro x hSx; (try dsimp only at hSx); go_simp; first | done | with_reducible rfl)
      try simp only [Act.put, List.setIfInBounds_toArray, List.set_cons_zero, List.set_cons_succ]
      refine wpAnyH_takeD (i := 12) (some 38) (v := ?vb12c12) rfl rfl (by kernel_rfl) (by kernel_rfl) (by kernel_rfl) (fun _ _ _ h => h) (Or.inl ⟨by kernel_rfl, ?hyb12c12⟩) (by assumption) ?restb12c12
      case hyb12c12 => (intro x hSx; (try dsimp only at hSx); go_simp; first | done | with_reducible rfl)
      try simp only [Act.put, List.setIfInBounds_toArray, List.set_cons_zero, List.set_cons_succ]
      refine wpAnyH_ready (rs := [13]) (by kernel_rfl) (by simp) ?_
      refine AllReadyH.cons rfl (fun K hK => ?_) AllReadyH.nil
      obtain ⟨p0, p1⟩ := hBz.c2
      have f0 := hBz.frozen 0
      go_simp
      refine hK.out _ _ ⟨hHeldb10.1.setCell (p := ⟨B, 0, none⟩) (Nat.le_refl _) _, hHeldb10.2.setCell 0 _⟩ (fun hHeldb13 => ?_)
      clear p0 p1 f0
      clear hK K
      try simp only [Act.put, List.setIfInBounds_toArray, List.set_cons_zero, List.set_cons_succ]
      refine wpAnyH_done (by kernel_rfl) ?_ _
      have hBf := hBz.set 0 (.pointer V.ptr)
      have hVf : TAt (y10.setCell ⟨B, 0, none⟩ (.pointer V.ptr)) V := hv.keep (KeepN.oth ((Oth.refl _ _).setCell 0 _) hBz (by decide))
      have hO := hHeldb13
      generalize y10.setCell ⟨B, 0, none⟩ (.pointer V.ptr) = wf at *
      go_wp2
      go_ret
      refine ⟨by rw [HGG.out]; rfl, ⟨HSL.out.ins k v, V, hVL.trans (by rw [HL.out]), hVf, ?_⟩, HOO.out.trans hO.2, hO.1⟩
      rw [← HIL.out]
      exact hBf
set_option maxHeartbeats 8000000 in
set_option maxRecDepth 20000 in
theorem delete_any (w : World) (B : Nat) (L : List Pr) (k : ByteArray) (h : ShAt w B L) (hlen : L.length < 288230376151711744) : Calls Try.prog 16 #[.pointer (some ⟨B, 0, none⟩), .string k] w (ChgPost B (get k L).isSome (del k L) w) := by
  obtain ⟨T, hTL, hT, hB⟩ := h.tree
  have HG := get_any w B L k h
  have HS : Hid (Srt T.toL) := by rw [hTL]; exact h.srt
  have HLL : Hid (T.toL.length < 288230376151711744) := by rw [hTL]; exact hlen
  have HL : Hid (T.toL = L) := hTL
  have HSL : Hid (Srt L) := h.srt
  obtain ⟨n, Hn⟩ : ∃ n : Int, Hid (n = (L.length : Int)) := ⟨_, rfl⟩
  have hn0 : 0 ≤ n := by rw [Hn.out]; omega
  have hn1 : n < 288230376151711744 := by rw [Hn.out]; omega
  rw [← Hn.out] at hB
  clear hTL h hlen
  go_enter Try.func16, Try.ntmps16
  go_wp2_with fail
  refine HG.mono ?_
  clear HG
  rintro e w1 ⟨rfl, hb1⟩
  unfold getV
  have hB1 := hB.old hb1
  have HT1 : Hid (TAt w1 T) := hT.old hb1
  have HBB : Hid (Below B w w1) := hb1.mono (Nat.le_of_lt hB.lt)
  have HOO : Hid (Oth B w w1) := Oth.of hb1
  clear hB hT hb1
  generalize hgv : (get k L).getD ⟨#[]⟩ = gv
  clear hgv
  cases hg : get k L with
  | none =>
    have HD : Hid (del k L = L) := del_none hg
    have HGN : Hid (∀ p ∈ L, p.1 ≠ k) := get_none.1 hg
    clear hg
    simp only [Option.isSome_none]
    go_wp2
    go_ret
    exact ⟨by rw [get_none.2 HGN.out]; rfl, ⟨by rw [HD.out]; exact HSL.out, T, by rw [HD.out]; exact HL.out, HT1.out, by rw [HD.out, ← Hn.out]; exact hB1⟩, HOO.out, HBB.out⟩
  | some dv =>
    have HIL : Hid (n - 1 = ((del k L).length : Int)) := by have := del_length HSL.out hg; show n - 1 = _; rw [Hn.out]; omega
    have HGS : Hid ((get k L).isSome = true) := by rw [hg]; exact rfl
    have hn2 : 1 ≤ n := by have := del_length HSL.out hg; rw [Hn.out]; omega
    have HGT : Hid (∃ v, get k T.toL = some v) := by rw [HL.out]; exact ⟨dv, hg⟩
    clear hg Hn
    simp only [Option.isSome_some]
    go_upto_region 3 with fail
    obtain ⟨w3, hw3⟩ : ∃ w3, w3 = w1 := ⟨_, rfl⟩
    subst hw3
    obtain ⟨m, hm⟩ : ∃ m, m = n := ⟨_, rfl⟩
    subst hm
    have HB3 : Hid (Blk w3 B 56 #[.pointer T.ptr, .int .i64 m]) := hB1
    have HT3 := HT1
    clear hB1 HT1
    go_upto_region 3 with fail
    refine wp_region_held_drew (S := fun x => Below B w x ∧ Oth B w3 x) (by kernel_rfl) (⟨HBB.out.drew, Oth.of ((Below.refl _ _).drew)⟩) (fun hHelda => ?_)
    refine wpAnyH_takeD (i := 0) (some 14) (v := ?va0c1) rfl rfl (by kernel_rfl) (by kernel_rfl) (by kernel_rfl) (fun _ _ _ h => h) (Or.inl ⟨by kernel_rfl, ?hya0c1⟩) (by assumption) ?resta0c1
    case hya0c1 => (intro x hSx; (try dsimp only at hSx); go_simp; first | done | with_reducible rfl)
    try simp only [Act.put, List.setIfInBounds_toArray, List.set_cons_zero, List.set_cons_succ]
    refine wpAnyH_takeD (i := 1) (some 15) (v := ?va1c2) rfl rfl (by kernel_rfl) (by kernel_rfl) (by kernel_rfl) (fun _ _ _ h => h) (Or.inl ⟨by kernel_rfl, ?hya1c2⟩) (by assumption) ?resta1c2
    case hya1c2 => (intro x hSx; (try dsimp only at hSx); go_simp; first | done | with_reducible rfl)
    try simp only [Act.put, List.setIfInBounds_toArray, List.set_cons_zero, List.set_cons_succ]
    refine wpAnyH_takeD (i := 2) (some 16) (v := ?va2c3) rfl rfl (by kernel_rfl) (by kernel_rfl) (by kernel_rfl) (fun _ _ _ h => h) (Or.inl ⟨by kernel_rfl, ?hya2c3⟩) (by assumption) ?resta2c3
    case hya2c3 => (intro x hSx; (try dsimp only at hSx); go_simp; first | done | with_reducible rfl)
    try simp only [Act.put, List.setIfInBounds_toArray, List.set_cons_zero, List.set_cons_succ]
    refine wpAnyH_takeD (i := 3) (some 17) (v := ?va3c4) rfl rfl (by kernel_rfl) (by kernel_rfl) (by kernel_rfl) (fun _ _ _ h => h) (Or.inl ⟨by kernel_rfl, ?hya3c4⟩) (by assumption) ?resta3c4
    case hya3c4 => (intro x hSx; (try dsimp only at hSx); go_simp; first | done | with_reducible rfl)
    try simp only [Act.put, List.setIfInBounds_toArray, List.set_cons_zero, List.set_cons_succ]
    refine wpAnyH_takeD (i := 5) (some 19) (v := ?va5c5) rfl rfl (by kernel_rfl) (by kernel_rfl) (by kernel_rfl) (fun _ _ _ h => h) (Or.inl ⟨by kernel_rfl, ?hya5c5⟩) (by assumption) ?resta5c5
    case hya5c5 => (intro x hSx; (try dsimp only at hSx); go_simp; first | done | with_reducible rfl)
    try simp only [Act.put, List.setIfInBounds_toArray, List.set_cons_zero, List.set_cons_succ]
    refine wpAnyH_ready (rs := [4, 6]) (by kernel_rfl) (by simp) ?_
    refine AllReadyH.cons rfl (fun K hK => ?_) (AllReadyH.cons rfl (fun K hK => ?_) AllReadyH.nil)
    · skip
      have cc := HB3.out.c2.1
      go_simp
      clear cc
      refine hK.out _ _ hHelda (fun hHelda4 => ?_)
      clear hK K
      try simp only [Act.put, List.setIfInBounds_toArray, List.set_cons_zero, List.set_cons_succ]
      refine wpAnyH_ready (rs := [6]) (by kernel_rfl) (by simp) ?_
      refine AllReadyH.cons rfl (fun K hK => ?_) AllReadyH.nil
      go_simp
      go_wp2_with (go_at_call 32; refine (toward_gives k _).mono ?_; rintro e y6 ⟨rfl, hk6, hq6⟩)
      have hBy : Blk y6 B 56 #[.pointer T.ptr, .int .i64 m] := Blk.old (w := w3.drew) HB3.out hq6
      have hTy : TAt y6 T := TAt.old (w := w3.drew) (HT3.out.old (Below.refl _ _).drew) hq6
      refine hK.out _ _ ⟨hHelda4.1.trans (hq6.mono (Nat.le_of_lt HB3.out.lt)), hHelda4.2.trans (Oth.of hq6)⟩ (fun hHelda6 => ?_)
      clear hK K
      try simp only [Act.put, List.setIfInBounds_toArray, List.set_cons_zero, List.set_cons_succ]
      refine wpAnyH_ready (rs := [7]) (by kernel_rfl) (by simp) ?_
      refine AllReadyH.cons rfl (fun K hK => ?_) AllReadyH.nil
      go_simp
      go_wp2_with (go_at_call 33; refine (without_any k w3.heap.size T y6 hTy HS.out HLL.out hk6.c1 hk6.lt HGT.out).mono ?_; rintro e y7 ⟨V, rfl, hv, hVL, hq7⟩)
      have hBz : Blk y7 B 56 #[.pointer T.ptr, .int .i64 m] := hBy.old hq7
      refine hK.out _ _ ⟨hHelda6.1.trans (hq7.mono (Nat.le_of_lt hBy.lt)), hHelda6.2.trans (Oth.of hq7)⟩ (fun hHelda7 => ?_)
      clear hK K
      try simp only [Act.put, List.setIfInBounds_toArray, List.set_cons_zero, List.set_cons_succ]
      refine wpAnyH_takeD (i := 8) (some 22) (v := ?va8c6) rfl rfl (by kernel_rfl) (by kernel_rfl) (by kernel_rfl) (fun _ _ _ h => h) (Or.inl ⟨by kernel_rfl, ?hya8c6⟩) (by assumption) ?resta8c6
      case hya8c6 => (intro x hSx; (try dsimp only at hSx); go_simp; first | done | with_reducible rfl)
      try simp only [Act.put, List.setIfInBounds_toArray, List.set_cons_zero, List.set_cons_succ]
      refine wpAnyH_takeD (i := 9) (some 23) (v := ?va9c7) rfl rfl (by kernel_rfl) (by kernel_rfl) (by kernel_rfl) (fun _ _ _ h => h) (Or.inl ⟨by kernel_rfl, ?hya9c7⟩) (by assumption) ?resta9c7
      case hya9c7 => (intro x hSx; (try dsimp only at hSx); go_simp; first | done | with_reducible rfl)
      try simp only [Act.put, List.setIfInBounds_toArray, List.set_cons_zero, List.set_cons_succ]
      refine wpAnyH_ready (rs := [10]) (by kernel_rfl) (by simp) ?_
      refine AllReadyH.cons rfl (fun K hK => ?_) AllReadyH.nil
      obtain ⟨p0, p1⟩ := hBz.c2
      have f0 := hBz.frozen 0
      go_simp
      refine hK.out _ _ ⟨hHelda7.1.setCell (p := ⟨B, 0, none⟩) (Nat.le_refl _) _, hHelda7.2.setCell 0 _⟩ (fun hHelda10 => ?_)
      clear p0 p1 f0
      clear hK K
      try simp only [Act.put, List.setIfInBounds_toArray, List.set_cons_zero, List.set_cons_succ]
      refine wpAnyH_done (by kernel_rfl) ?_ _
      have hBf : Blk (y7.setCell ⟨B, 0, none⟩ (.pointer V.ptr)) B 56 #[.pointer V.ptr, .int .i64 m] := hBz.set 0 (.pointer V.ptr)
      have hVf : TAt (y7.setCell ⟨B, 0, none⟩ (.pointer V.ptr)) V := hv.keep (KeepN.oth ((Oth.refl _ _).setCell 0 _) hBz (by decide))
      have HO : Hid (Below B w (y7.setCell ⟨B, 0, none⟩ (.pointer V.ptr)) ∧ Oth B w3 (y7.setCell ⟨B, 0, none⟩ (.pointer V.ptr))) := hHelda10
      generalize y7.setCell ⟨B, 0, none⟩ (.pointer V.ptr) = wf at *
      have c1 := hBf.c2.2
      have f1 := hBf.frozen 1
      go_wp2
      go_ret
      refine ⟨by rw [HGS.out]; rfl, ⟨HSL.out.del k, V, hVL.trans (by rw [HL.out]), hVf.keep (KeepN.oth ((Oth.refl _ _).setCell 1 _) hBf (by decide)), ?_⟩, HOO.out.trans (HO.out.2.setCell 1 _), HO.out.1.setCell (p := ⟨B, 1, none⟩) (Nat.le_refl _) _⟩
      rw [← HIL.out]
      exact hBf.set 1 _
    · skip
      go_simp
      go_wp2_with (go_at_call 32; refine (toward_gives k _).mono ?_; rintro e y6 ⟨rfl, hk6, hq6⟩)
      have hBy : Blk y6 B 56 #[.pointer T.ptr, .int .i64 m] := Blk.old (w := w3.drew) HB3.out hq6
      have hTy : TAt y6 T := TAt.old (w := w3.drew) (HT3.out.old (Below.refl _ _).drew) hq6
      refine hK.out _ _ ⟨hHelda.1.trans (hq6.mono (Nat.le_of_lt HB3.out.lt)), hHelda.2.trans (Oth.of hq6)⟩ (fun hHelda6 => ?_)
      clear hK K
      try simp only [Act.put, List.setIfInBounds_toArray, List.set_cons_zero, List.set_cons_succ]
      refine wpAnyH_ready (rs := [4]) (by kernel_rfl) (by simp) ?_
      refine AllReadyH.cons rfl (fun K hK => ?_) AllReadyH.nil
      have cc := hBy.c2.1
      go_simp
      clear cc
      refine hK.out _ _ hHelda6 (fun hHelda4 => ?_)
      clear hK K
      try simp only [Act.put, List.setIfInBounds_toArray, List.set_cons_zero, List.set_cons_succ]
      refine wpAnyH_ready (rs := [7]) (by kernel_rfl) (by simp) ?_
      refine AllReadyH.cons rfl (fun K hK => ?_) AllReadyH.nil
      go_simp
      go_wp2_with (go_at_call 33; refine (without_any k w3.heap.size T y6 hTy HS.out HLL.out hk6.c1 hk6.lt HGT.out).mono ?_; rintro e y7 ⟨V, rfl, hv, hVL, hq7⟩)
      have hBz : Blk y7 B 56 #[.pointer T.ptr, .int .i64 m] := hBy.old hq7
      refine hK.out _ _ ⟨hHelda4.1.trans (hq7.mono (Nat.le_of_lt hBy.lt)), hHelda4.2.trans (Oth.of hq7)⟩ (fun hHelda7 => ?_)
      clear hK K
      try simp only [Act.put, List.setIfInBounds_toArray, List.set_cons_zero, List.set_cons_succ]
      refine wpAnyH_takeD (i := 8) (some 22) (v := ?va8c8) rfl rfl (by kernel_rfl) (by kernel_rfl) (by kernel_rfl) (fun _ _ _ h => h) (Or.inl ⟨by kernel_rfl, ?hya8c8⟩) (by assumption) ?resta8c8
      case hya8c8 => (intro x hSx; (try dsimp only at hSx); go_simp; first | done | with_reducible rfl)
      try simp only [Act.put, List.setIfInBounds_toArray, List.set_cons_zero, List.set_cons_succ]
      refine wpAnyH_takeD (i := 9) (some 23) (v := ?va9c9) rfl rfl (by kernel_rfl) (by kernel_rfl) (by kernel_rfl) (fun _ _ _ h => h) (Or.inl ⟨by kernel_rfl, ?hya9c9⟩) (by assumption) ?resta9c9
      case hya9c9 => (intro x hSx; (try dsimp only at hSx); go_simp; first | done | with_reducible rfl)
      try simp only [Act.put, List.setIfInBounds_toArray, List.set_cons_zero, List.set_cons_succ]
      refine wpAnyH_ready (rs := [10]) (by kernel_rfl) (by simp) ?_
      refine AllReadyH.cons rfl (fun K hK => ?_) AllReadyH.nil
      obtain ⟨p0, p1⟩ := hBz.c2
      have f0 := hBz.frozen 0
      go_simp
      refine hK.out _ _ ⟨hHelda7.1.setCell (p := ⟨B, 0, none⟩) (Nat.le_refl _) _, hHelda7.2.setCell 0 _⟩ (fun hHelda10 => ?_)
      clear p0 p1 f0
      clear hK K
      try simp only [Act.put, List.setIfInBounds_toArray, List.set_cons_zero, List.set_cons_succ]
      refine wpAnyH_done (by kernel_rfl) ?_ _
      have hBf : Blk (y7.setCell ⟨B, 0, none⟩ (.pointer V.ptr)) B 56 #[.pointer V.ptr, .int .i64 m] := hBz.set 0 (.pointer V.ptr)
      have hVf : TAt (y7.setCell ⟨B, 0, none⟩ (.pointer V.ptr)) V := hv.keep (KeepN.oth ((Oth.refl _ _).setCell 0 _) hBz (by decide))
      have HO : Hid (Below B w (y7.setCell ⟨B, 0, none⟩ (.pointer V.ptr)) ∧ Oth B w3 (y7.setCell ⟨B, 0, none⟩ (.pointer V.ptr))) := hHelda10
      generalize y7.setCell ⟨B, 0, none⟩ (.pointer V.ptr) = wf at *
      have c1 := hBf.c2.2
      have f1 := hBf.frozen 1
      go_wp2
      go_ret
      refine ⟨by rw [HGS.out]; rfl, ⟨HSL.out.del k, V, hVL.trans (by rw [HL.out]), hVf.keep (KeepN.oth ((Oth.refl _ _).setCell 1 _) hBf (by decide)), ?_⟩, HOO.out.trans (HO.out.2.setCell 1 _), HO.out.1.setCell (p := ⟨B, 1, none⟩) (Nat.le_refl _) _⟩
      rw [← HIL.out]
      exact hBf.set 1 _
end Go.Proofs.Ytklnnkdcnaieoaa
