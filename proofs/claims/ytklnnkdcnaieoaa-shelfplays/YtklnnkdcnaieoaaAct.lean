/- What the statements' act does: one call on both (a contract; nothing is claimed here). -/
import Derived.Test.YtklnnkdcnaieoaaSca
namespace Go.Proofs.Ytklnnkdcnaieoaa
open Go.RowKit Go.Vf

theorem St.from {w W V : World} {B C base : Nat} {v vc : Value} {Ls Lr : List Pr} (h : St W B B C base v Ls Lr V vc) (hb : Below w.heap.size w W) : St w B B C base v Ls Lr V vc :=
  ⟨(KeepX.of hb).trans h.kx (fun _ _ e => e), h.sh, h.rf, fun g e => by
    rcases h.own g e with q | q
    · exact .inl q
    · exact .inr (Nat.le_trans hb.size q)⟩
set_option maxRecDepth 100000 in
set_option maxHeartbeats 8000000 in
theorem act_any (B C base : Nat) (L : List Pr) (v : Value) (x : Ca) (S : Nat) (w : World) (hs : ShAt w B L) (hr : RfAt w C base v L) (hbB : base ≤ B) (hbC : base ≤ C) (hl : L.length ≤ 2147483646) (hS : S ≤ 8589934592) (hk1 : ∀ p ∈ L, p.1.size ≤ S) (hk2 : x.key.size ≤ S) (hf : x.f.size ≤ S) (ht : x.t.size ≤ S) :
    Calls Try.prog 12 #[.pointer (some ⟨B, 0, none⟩), .pointer (some ⟨C, 0, none⟩), x.v] w (ActPost B C base L v S w) := by
  obtain ⟨kind, oth, key, val, f, t, o, back, early⟩ := x
  dsimp only [Ca.v, Ca.cells] at *
  have b0 := (Below.refl w.heap.size w).alloc (Nat.le_refl _) (.cells #[.int .i64 kind, .bool oth, .string key, .string val, .string f, .string t, .bool o, .bool back, .int .i64 early] 31)
  have B0 : Blk (w.alloc (.cells #[.int .i64 kind, .bool oth, .string key, .string val, .string f, .string t, .bool o, .bool back, .int .i64 early] 31)) w.heap.size 31 (Ca.cells ⟨kind, oth, key, val, f, t, o, back, early⟩) := Blk.new w 31 _
  have HS0 : Hid (ShAt (w.alloc (.cells #[.int .i64 kind, .bool oth, .string key, .string val, .string f, .string t, .bool o, .bool back, .int .i64 early] 31)) B L) := hs.old b0
  have HR0 : Hid (RfAt (w.alloc (.cells #[.int .i64 kind, .bool oth, .string key, .string val, .string f, .string t, .bool o, .bool back, .int .i64 early] 31)) C base v L) := hr.old b0
  have HB0 : Hid (Below w.heap.size w (w.alloc (.cells #[.int .i64 kind, .bool oth, .string key, .string val, .string f, .string t, .bool o, .bool back, .int .i64 early] 31))) := b0
  have HK1 : Hid (∀ p ∈ L, p.1.size ≤ S + 1) := fun p hp => Nat.le_trans (hk1 p hp) (Nat.le_succ _)
  have HLL : Hid (L.length ≤ L.length + 1) := Nat.le_succ _
  have HSL : Hid (Srt L) := hs.srt
  go_enter Try.func12, Try.ntmps12
  go_upto_region 1 with fail
  generalize w.alloc (.cells #[.int .i64 kind, .bool oth, .string key, .string val, .string f, .string t, .bool o, .bool back, .int .i64 early] 31) = W at *
  have HST : Hid (St W B B C base v L L W v) := St.start HS0.out HR0.out
  have HBk : Hid (Blk W w.heap.size 31 (Ca.cells ⟨kind, oth, key, val, f, t, o, back, early⟩)) := B0
  obtain ⟨x1, x2, x3, x4, x5, x6, x7, x8, x9⟩ := Blk.c9 (x := ⟨kind, oth, key, val, f, t, o, back, early⟩) B0
  dsimp only at x1 x2 x3 x4 x5 x6 x7 x8 x9
  have HF : Hid (∀ y, KeepX (EX B B C v) W y → y.cell? ⟨w.heap.size, 2, none⟩ = some (.string key) ∧ y.cell? ⟨w.heap.size, 3, none⟩ = some (.string val)) := fun y hy => by
    have h := Blk.c9 (x := ⟨kind, oth, key, val, f, t, o, back, early⟩) (hy.blk HBk.out (ex_non HS0.out HR0.out HBk.out (by decide) (by decide) (.inl (by decide))))
    exact ⟨h.2.2.1, h.2.2.2.1⟩
  clear b0 B0
  by_cases h1 : kind = 1
  · subst h1
    skip
    have HCa := put_any W.drew B L key val (HS0.out.old (Below.refl _ _).drew) (Nat.lt_of_le_of_lt hl (by decide))
    go_upto_region 3 with fail
    refine wp_region_held_drew (S := fun x => KeepX (EX B B C v) W x) (by kernel_rfl) (KeepX.of (Below.refl _ _).drew) (fun hHelda => ?_)
    refine wpAnyH_takeD (i := 0) (some 15) (v := ?va0) rfl rfl (by kernel_rfl) (by kernel_rfl) (by kernel_rfl) (fun _ _ _ h => h) (Or.inl ⟨by kernel_rfl, ?hya0⟩) (by assumption) ?resta0
    case hya0 => (intro x hSx; (try dsimp only at hSx); go_simp; first | done | with_reducible rfl)
    try simp only [Act.put, List.setIfInBounds_toArray, List.set_cons_zero, List.set_cons_succ]
    refine wpAnyH_takeD (i := 1) (some 16) (v := ?va1) rfl rfl (by kernel_rfl) (by kernel_rfl) (by kernel_rfl) (fun _ _ _ h => h) (Or.inl ⟨by kernel_rfl, ?hya1⟩) (by assumption) ?resta1
    case hya1 => (intro x hSx; (try dsimp only at hSx); go_simp; first | done | with_reducible rfl)
    try simp only [Act.put, List.setIfInBounds_toArray, List.set_cons_zero, List.set_cons_succ]
    refine wpAnyH_takeD (i := 2) (some 17) (v := ?va2) rfl rfl (by kernel_rfl) (by kernel_rfl) (by kernel_rfl) (fun _ _ _ h => h) (Or.inl ⟨by kernel_rfl, ?hya2⟩) (by assumption) ?resta2
    case hya2 => (intro x hSx; (try dsimp only at hSx); obtain ⟨z0, z1⟩ := HF.out x hSx; go_simp; first | done | with_reducible rfl)
    try simp only [Act.put, List.setIfInBounds_toArray, List.set_cons_zero, List.set_cons_succ]
    refine wpAnyH_takeD (i := 3) (some 18) (v := ?va3) rfl rfl (by kernel_rfl) (by kernel_rfl) (by kernel_rfl) (fun _ _ _ h => h) (Or.inl ⟨by kernel_rfl, ?hya3⟩) (by assumption) ?resta3
    case hya3 => (intro x hSx; (try dsimp only at hSx); go_simp; first | done | with_reducible rfl)
    try simp only [Act.put, List.setIfInBounds_toArray, List.set_cons_zero, List.set_cons_succ]
    refine wpAnyH_takeD (i := 4) (some 19) (v := ?va4) rfl rfl (by kernel_rfl) (by kernel_rfl) (by kernel_rfl) (fun _ _ _ h => h) (Or.inl ⟨by kernel_rfl, ?hya4⟩) (by assumption) ?resta4
    case hya4 => (intro x hSx; (try dsimp only at hSx); obtain ⟨z0, z1⟩ := HF.out x hSx; go_simp; first | done | with_reducible rfl)
    try simp only [Act.put, List.setIfInBounds_toArray, List.set_cons_zero, List.set_cons_succ]
    refine wpAnyH_takeD (i := 6) (some 21) (v := ?va6) rfl rfl (by kernel_rfl) (by kernel_rfl) (by kernel_rfl) (fun _ _ _ h => h) (Or.inl ⟨by kernel_rfl, ?hya6⟩) (by assumption) ?resta6
    case hya6 => (intro x hSx; (try dsimp only at hSx); go_simp; first | done | with_reducible rfl)
    try simp only [Act.put, List.setIfInBounds_toArray, List.set_cons_zero, List.set_cons_succ]
    refine wpAnyH_takeD (i := 7) (some 22) (v := ?va7) rfl rfl (by kernel_rfl) (by kernel_rfl) (by kernel_rfl) (fun _ _ _ h => h) (Or.inl ⟨by kernel_rfl, ?hya7⟩) (by assumption) ?resta7
    case hya7 => (intro x hSx; (try dsimp only at hSx); go_simp; first | done | with_reducible rfl)
    try simp only [Act.put, List.setIfInBounds_toArray, List.set_cons_zero, List.set_cons_succ]
    refine wpAnyH_takeD (i := 8) (some 23) (v := ?va8) rfl rfl (by kernel_rfl) (by kernel_rfl) (by kernel_rfl) (fun _ _ _ h => h) (Or.inl ⟨by kernel_rfl, ?hya8⟩) (by assumption) ?resta8
    case hya8 => (intro x hSx; (try dsimp only at hSx); obtain ⟨z0, z1⟩ := HF.out x hSx; go_simp; first | done | with_reducible rfl)
    try simp only [Act.put, List.setIfInBounds_toArray, List.set_cons_zero, List.set_cons_succ]
    refine wpAnyH_takeD (i := 9) (some 24) (v := ?va9) rfl rfl (by kernel_rfl) (by kernel_rfl) (by kernel_rfl) (fun _ _ _ h => h) (Or.inl ⟨by kernel_rfl, ?hya9⟩) (by assumption) ?resta9
    case hya9 => (intro x hSx; (try dsimp only at hSx); go_simp; first | done | with_reducible rfl)
    try simp only [Act.put, List.setIfInBounds_toArray, List.set_cons_zero, List.set_cons_succ]
    refine wpAnyH_takeD (i := 10) (some 25) (v := ?va10) rfl rfl (by kernel_rfl) (by kernel_rfl) (by kernel_rfl) (fun _ _ _ h => h) (Or.inl ⟨by kernel_rfl, ?hya10⟩) (by assumption) ?resta10
    case hya10 => (intro x hSx; (try dsimp only at hSx); obtain ⟨z0, z1⟩ := HF.out x hSx; go_simp; first | done | with_reducible rfl)
    try simp only [Act.put, List.setIfInBounds_toArray, List.set_cons_zero, List.set_cons_succ]
    refine wpAnyH_ready (rs := [5]) (by kernel_rfl) (by simp) ?_
    refine AllReadyH.cons rfl (fun K hK => ?_) AllReadyH.nil
    go_simp
    go_wp2_with (go_at_call 15; refine HCa.mono ?_; rintro e y1 ⟨rfl, hc1, hc2, hc3⟩)
    have HST1 : Hid (St W B B C base v (ins key val L) L y1 v) := (HST.out.old (Below.refl _ _).drew).s (b := (get key L).isSome) (e := .returned (.bool (get key L).isSome)) ⟨rfl, hc1, hc2, hc3⟩
    clear HCa hc1 hc2 hc3
    refine hK.out _ _ HST1.out.kx (fun hHelda5 => ?_)
    clear hK K
    try simp only [Act.put, List.setIfInBounds_toArray, List.set_cons_zero, List.set_cons_succ]
    refine wpAnyH_ready (rs := [11]) (by kernel_rfl) (by simp) ?_
    refine AllReadyH.cons rfl (fun K hK => ?_) AllReadyH.nil
    have HCb := rput_any y1 C base v L key val HST1.out.rf HSL.out (Nat.lt_of_le_of_lt hl (by decide)) hbC
    go_simp
    go_wp2_with (go_at_call 25; refine HCb.mono ?_; rintro e y2 ⟨rfl, v2, hc⟩)
    have HST2 : Hid (St W B B C base v (ins key val L) (ins key val L) y2 v2) := HST1.out.r hc
    clear HCb hc
    refine hK.out _ _ HST2.out.kx (fun hHelda11 => ?_)
    clear hK K
    try simp only [Act.put, List.setIfInBounds_toArray, List.set_cons_zero, List.set_cons_succ]
    refine wpAnyH_takeD (i := 12) (some 27) (v := ?va12) rfl rfl (by kernel_rfl) (by kernel_rfl) (by kernel_rfl) (fun _ _ _ h => h) (Or.inl ⟨by kernel_rfl, ?hya12⟩) (by assumption) ?resta12
    case hya12 => (intro x hSx; (try dsimp only at hSx); go_simp; first | done | with_reducible rfl)
    try simp only [Act.put, List.setIfInBounds_toArray, List.set_cons_zero, List.set_cons_succ]
    refine wpAnyH_takeD (i := 13) (some 6) (v := ?va13) rfl rfl (by kernel_rfl) (by kernel_rfl) (by kernel_rfl) (fun _ _ _ h => h) (Or.inl ⟨by kernel_rfl, ?hya13⟩) (by assumption) ?resta13
    case hya13 => (intro x hSx; (try dsimp only at hSx); go_simp; first | done | with_reducible rfl)
    try simp only [Act.put, List.setIfInBounds_toArray, List.set_cons_zero, List.set_cons_succ]
    refine wpAnyH_done (by kernel_rfl) ?_ _
    go_wp2
    go_ret
    exact ⟨rfl, _, v2, HST2.out.from HB0.out, ins_le HSL.out, fun p hp => by rcases ins_mem hp with rfl | hp; exact Nat.le_trans hk2 (Nat.le_succ _); exact HK1.out p hp⟩
  have e1 : (kind == 1) = false := by rw [beq_eq_false_iff_ne]; exact h1
  by_cases h2 : kind = 2
  · subst h2
    have HCa := get_any W B L key HS0.out
    go_wp2_with fail
    refine HCa.mono ?_
    clear HCa
    rintro e y1 ⟨rfl, hb1⟩
    have HST1 : Hid (St W B B C base v L L y1 v) := HST.out.old hb1
    have w1 := (HF.out y1 HST1.out.kx).1
    have HCb := rget_any y1 C base v L key HST1.out.rf HSL.out (Nat.le_trans hl (by decide))
    clear x1 x2 x3 x4 x5 x6 x7 x8 x9 hb1
    unfold getV at HCb ⊢
    generalize (get key L).getD ⟨#[]⟩ = gv at *
    generalize (get key L).isSome = gb at *
    go_wp2_with fail
    refine HCb.mono ?_
    clear HCb
    rintro e y2 ⟨rfl, hb2⟩
    have HST2 : Hid (St W B B C base v L L y2 v) := HST1.out.old hb2
    clear hb2
    go_wp2
    go_ret
    exact ⟨rfl, _, v, HST2.out.from HB0.out, HLL.out, HK1.out⟩
  have e2 : (kind == 2) = false := by rw [beq_eq_false_iff_ne]; exact h2
  by_cases h3 : kind = 3
  · subst h3
    have HCa := delete_any W.drew B L key (HS0.out.old (Below.refl _ _).drew) (Nat.lt_of_le_of_lt hl (by decide))
    go_upto_region 9 with fail
    refine wp_region_held_drew (S := fun x => KeepX (EX B B C v) W x) (by kernel_rfl) (KeepX.of (Below.refl _ _).drew) (fun hHeldb => ?_)
    refine wpAnyH_takeD (i := 0) (some 54) (v := ?vb0) rfl rfl (by kernel_rfl) (by kernel_rfl) (by kernel_rfl) (fun _ _ _ h => h) (Or.inl ⟨by kernel_rfl, ?hyb0⟩) (by assumption) ?restb0
    case hyb0 => (intro x hSx; (try dsimp only at hSx); go_simp; first | done | with_reducible rfl)
    try simp only [Act.put, List.setIfInBounds_toArray, List.set_cons_zero, List.set_cons_succ]
    refine wpAnyH_takeD (i := 1) (some 55) (v := ?vb1) rfl rfl (by kernel_rfl) (by kernel_rfl) (by kernel_rfl) (fun _ _ _ h => h) (Or.inl ⟨by kernel_rfl, ?hyb1⟩) (by assumption) ?restb1
    case hyb1 => (intro x hSx; (try dsimp only at hSx); go_simp; first | done | with_reducible rfl)
    try simp only [Act.put, List.setIfInBounds_toArray, List.set_cons_zero, List.set_cons_succ]
    refine wpAnyH_takeD (i := 2) (some 56) (v := ?vb2) rfl rfl (by kernel_rfl) (by kernel_rfl) (by kernel_rfl) (fun _ _ _ h => h) (Or.inl ⟨by kernel_rfl, ?hyb2⟩) (by assumption) ?restb2
    case hyb2 => (intro x hSx; (try dsimp only at hSx); obtain ⟨z0, z1⟩ := HF.out x hSx; go_simp; first | done | with_reducible rfl)
    try simp only [Act.put, List.setIfInBounds_toArray, List.set_cons_zero, List.set_cons_succ]
    refine wpAnyH_takeD (i := 4) (some 58) (v := ?vb4) rfl rfl (by kernel_rfl) (by kernel_rfl) (by kernel_rfl) (fun _ _ _ h => h) (Or.inl ⟨by kernel_rfl, ?hyb4⟩) (by assumption) ?restb4
    case hyb4 => (intro x hSx; (try dsimp only at hSx); go_simp; first | done | with_reducible rfl)
    try simp only [Act.put, List.setIfInBounds_toArray, List.set_cons_zero, List.set_cons_succ]
    refine wpAnyH_takeD (i := 5) (some 59) (v := ?vb5) rfl rfl (by kernel_rfl) (by kernel_rfl) (by kernel_rfl) (fun _ _ _ h => h) (Or.inl ⟨by kernel_rfl, ?hyb5⟩) (by assumption) ?restb5
    case hyb5 => (intro x hSx; (try dsimp only at hSx); go_simp; first | done | with_reducible rfl)
    try simp only [Act.put, List.setIfInBounds_toArray, List.set_cons_zero, List.set_cons_succ]
    refine wpAnyH_takeD (i := 6) (some 60) (v := ?vb6) rfl rfl (by kernel_rfl) (by kernel_rfl) (by kernel_rfl) (fun _ _ _ h => h) (Or.inl ⟨by kernel_rfl, ?hyb6⟩) (by assumption) ?restb6
    case hyb6 => (intro x hSx; (try dsimp only at hSx); obtain ⟨z0, z1⟩ := HF.out x hSx; go_simp; first | done | with_reducible rfl)
    try simp only [Act.put, List.setIfInBounds_toArray, List.set_cons_zero, List.set_cons_succ]
    refine wpAnyH_ready (rs := [3]) (by kernel_rfl) (by simp) ?_
    refine AllReadyH.cons rfl (fun K hK => ?_) AllReadyH.nil
    go_simp
    go_wp2_with (go_at_call 16; refine HCa.mono ?_; rintro e y1 ⟨rfl, hc1, hc2, hc3⟩)
    have HST1 : Hid (St W B B C base v (del key L) L y1 v) := (HST.out.old (Below.refl _ _).drew).s (b := (get key L).isSome) (e := .returned (.bool (get key L).isSome)) ⟨rfl, hc1, hc2, hc3⟩
    clear HCa hc1 hc2 hc3
    refine hK.out _ _ HST1.out.kx (fun hHeldb3 => ?_)
    clear hK K
    try simp only [Act.put, List.setIfInBounds_toArray, List.set_cons_zero, List.set_cons_succ]
    refine wpAnyH_ready (rs := [7]) (by kernel_rfl) (by simp) ?_
    refine AllReadyH.cons rfl (fun K hK => ?_) AllReadyH.nil
    have HCb := rdelete_any y1 C base v L key HST1.out.rf HSL.out (Nat.le_trans hl (by decide)) hbC
    go_simp
    go_wp2_with (go_at_call 27; refine HCb.mono ?_; rintro e y2 ⟨rfl, v2, hc⟩)
    have HST2 : Hid (St W B B C base v (del key L) (del key L) y2 v2) := HST1.out.r hc
    clear HCb hc
    refine hK.out _ _ HST2.out.kx (fun hHeldb7 => ?_)
    clear hK K
    try simp only [Act.put, List.setIfInBounds_toArray, List.set_cons_zero, List.set_cons_succ]
    refine wpAnyH_takeD (i := 8) (some 62) (v := ?vb8) rfl rfl (by kernel_rfl) (by kernel_rfl) (by kernel_rfl) (fun _ _ _ h => h) (Or.inl ⟨by kernel_rfl, ?hyb8⟩) (by assumption) ?restb8
    case hyb8 => (intro x hSx; (try dsimp only at hSx); go_simp; first | done | with_reducible rfl)
    try simp only [Act.put, List.setIfInBounds_toArray, List.set_cons_zero, List.set_cons_succ]
    refine wpAnyH_takeD (i := 9) (some 6) (v := ?vb9) rfl rfl (by kernel_rfl) (by kernel_rfl) (by kernel_rfl) (fun _ _ _ h => h) (Or.inl ⟨by kernel_rfl, ?hyb9⟩) (by assumption) ?restb9
    case hyb9 => (intro x hSx; (try dsimp only at hSx); go_simp; first | done | with_reducible rfl)
    try simp only [Act.put, List.setIfInBounds_toArray, List.set_cons_zero, List.set_cons_succ]
    refine wpAnyH_done (by kernel_rfl) ?_ _
    go_wp2
    go_ret
    exact ⟨rfl, _, v2, HST2.out.from HB0.out, Nat.le_trans (List.length_filter_le _ _) HLL.out, fun p hp => HK1.out p (List.mem_filter.1 hp).1⟩
  have e3 : (kind == 3) = false := by rw [beq_eq_false_iff_ne]; exact h3
  by_cases h4 : kind = 4
  · subst h4
    have HCa := len_any W B L HS0.out
    have HCb := rlen_any W C base v L HR0.out
    generalize (L.length : Int) = ln at HCa HCb
    go_wp2_with fail
    refine HCa.mono ?_
    clear HCa
    rintro e y1 ⟨rfl, rfl⟩
    go_wp2_with fail
    refine HCb.mono ?_
    clear HCb
    rintro e y2 ⟨rfl, rfl⟩
    go_wp2
    go_ret
    exact ⟨rfl, _, v, HST.out.from HB0.out, HLL.out, HK1.out⟩
  have e4 : (kind == 4) = false := by rw [beq_eq_false_iff_ne]; exact h4
  by_cases h5 : kind = 5
  · subst h5
    have HCa := callsIn_wide.1 (scan_in 12 (Nat.le_refl _) B C base L v ⟨5, oth, key, val, f, t, o, back, early⟩ S W HS0.out HR0.out hbB hbC hl hS hk1 hk2 hf ht)
    dsimp only [Ca.v, Ca.cells] at HCa
    go_wp2_with fail
    refine HCa.mono ?_
    clear HCa
    rintro e y1 ⟨rfl, M, v2, hst, hm1, hm2⟩
    have HST2 : Hid (St w B B C base v M M y1 v2) := hst.from HB0.out
    have HM1 : Hid (M.length ≤ L.length + 1) := hm1
    have HM2 : Hid (∀ p ∈ M, p.1.size ≤ S + 1) := hm2
    clear hst hm1 hm2
    go_wp2
    go_ret
    exact ⟨rfl, M, v2, HST2.out, HM1.out, HM2.out⟩
  have e5 : (kind == 5) = false := by rw [beq_eq_false_iff_ne]; exact h5
  go_wp2
  go_ret
  exact ⟨rfl, _, v, HST.out.from HB0.out, HLL.out, HK1.out⟩
end Go.Proofs.Ytklnnkdcnaieoaa
