/- What schema's tour does with a list of fields (a contract; nothing is claimed here). -/
import Derived.Test.YtgefbgpfjbbeaaaGreatDoorFGoM
namespace Go.Proofs.YtgefbgpfjbbeaaaGreatDoor
open Go.RowKit Go.Vf

def GoOk (l : List Fld) : Prop := ∀ (T : Nat) (pa : Option Addr) (pc : Nat) (P : List Int) (k : Nat) (aa : Option Addr) (ca lo n₀ : Nat) (w : World), P.length ≤ 16 → k ≤ 64 → l.length ≤ ca → (∀ x ∈ l, FitsF 17179869184 x) → l.length ≤ 17179869184 → n₀ ≤ T → TourAt w T pa pc P k → FIn w lo n₀ l aa →
    Calls Tryz.prog 86 #[.pointer (some ⟨T, 0, none⟩), .slice aa l.length ca] w (GoPost (tourL bndQ P [] k l) T P w)
theorem cell_zero (w : World) : ∀ j, j < ([0] : List Int).length → (w.alloc (.cells #[.int .i64 0] 3)).cell? ((⟨w.heap.size, 0, none⟩ : Addr).add j) = some (.int .i64 (([0] : List Int)[j]?.getD 0)) := fun j hj => by
  have hj0 : j = 0 := by simp at hj; omega
  subst hj0
  simp [Addr.add]
theorem TourAt.count1 {w : World} {T pc : Nat} {pa : Option Addr} {P : List Int} {k : Nat} (h : TourAt w T pa pc P k) : TourAt (w.setCell ⟨T, 1, none⟩ (.int .i64 ((k : Int) + 1))) T pa pc P (k + 1) := h.count (k + 1)

set_option maxHeartbeats 4000000 in
set_option maxRecDepth 20000 in
theorem go_step (l : List Fld) (ih : ∀ x ∈ l, GoOk x.fields) : GoOk l := by
  intro T pa pc P k aa ca lo n₀ w hP hk hca hfit hll hn₀ h hin
  obtain ⟨c0, c1, c2, f0, f1, hT⟩ := h.cells
  obtain ⟨G, hG⟩ : ∃ G, tourL bndQ P [] k l = G := ⟨_, rfl⟩
  rw [hG]
  have HG : Hid (G = tourL bndQ P (l.take 0) k (l.drop 0)) := hG.symm
  clear hG
  have hb1 := (Below.refl w.heap.size w).alloc (Nat.le_refl _) (.cells #[.int .i64 0] 3)
  have hs1 := alloc_size w (.cells #[.int .i64 0] 3)
  have hown1 : IOwn (w.alloc (.cells #[.int .i64 0] 3)) (T + 1) (.slice pa P.length pc) P := own_after h.own hb1
  have hB1 := h.blk.old hb1
  have HC : Hid (∀ j, j < ([0] : List Int).length → (w.alloc (.cells #[.int .i64 0] 3)).cell? ((⟨w.heap.size, 0, none⟩ : Addr).add j) = some (.int .i64 (([0] : List Int)[j]?.getD 0))) := cell_zero w
  have hlen : P.length + ([0] : List Int).length ≤ 1099511627776 := by simp; omega
  have hbase : T + 1 ≤ (w.alloc (.cells #[.int .i64 0] 3)).heap.size := by rw [hs1]; omega
  have hne : some T ≠ (Value.slice pa P.length pc).ownBlock := fun e => by
    have := (own_ge h.own e.symm).1
    omega
  have HTL : Hid (T < (w.alloc (.cells #[.int .i64 0] 3)).heap.size) := by show _ < _; rw [hs1]; omega
  clear h
  go_enter Tryz.func86, Tryz.ntmps86
  go_upto_region 1 with (first | (at_builtin; refine wpList_append_ints rfl _ _ rfl (T + 1) _ P rfl hown1 [0] ⟨w.heap.size, 0, none⟩ 1 rfl HC.out hlen hbase ?_; intro a4 c4 w4 hown4 hgr4 hnil4 hat4; have hB4 : Blk w4 T 184 #[.slice pa P.length pc, .int .i64 (k : Int), seeV T] := (hgr4.block T HTL.out hne).trans hB1; have q0 := hB4.cell 0; have q1 := hB4.frozen 0))
  have h5 : TourAt (w4.setCell ⟨T, 0, none⟩ (.slice a4 (P.length + 1) c4)) T a4 c4 (P ++ [0]) k := by
    have := TourAt.path (_w := w) hB4 (pa' := a4) (pc' := c4) (P' := P ++ [0]) (by simpa using hown4)
    simpa using this
  have hb4 : Below T w w4 := (hb1.mono (by omega)).grown hgr4 (by omega) (fun j hj => by have := (own_ge hown1 hj).1; omega)
  have hb5 : Below T w (w4.setCell ⟨T, 0, none⟩ (.slice a4 (P.length + 1) c4)) := hb4.setCell (p := ⟨T, 0, none⟩) (Nat.le_refl _) _
  try simp only [List.length_cons, List.length_nil, Nat.zero_add]
  generalize w4.setCell ⟨T, 0, none⟩ (.slice a4 (P.length + 1) c4) = w5 at h5 hb5 ⊢
  obtain ⟨g, rfl, hTg, hgl, hpc, hlast, hfr⟩ := h5.some
  obtain ⟨d0, d1, d2, e0, e1, hT5⟩ := h5.cells
  simp only [List.length_append, List.length_cons, List.length_nil, Nat.zero_add] at d0
  clear c0 c1 c2 f0 f1 q0 q1 hB4 hown4 hgr4 hnil4 hat4 hown1 hB1 HC hlen hbase hne HTL hb1 hs1
  go_upto_region 3 with fail
  go_loopw [24] (fun i wr => ∃ (j k' g pc' : Nat) (x : Int), j ≤ l.length ∧ i = .int .i64 j ∧ k' ≤ 64 ∧ TourAt wr T (some ⟨g, 0, none⟩) pc' (P ++ [x]) k' ∧ Hid (G = tourL bndQ P (l.take j) k' (l.drop j)) ∧ Below T w wr) (fun i _ => l.length - (intOf i).toNat)
  case atStart => exact ⟨0, k, g, c4, 0, by omega, rfl, hk, h5, HG, hb5⟩
  case round =>
    clear HG h5 hb5 d0 d1 d2 e0 e1 hT5 hlast hfr hTg hgl hpc
    obtain ⟨j, k', g, pc', x0, hj, rfl, hk', ht, HS, hbel⟩ := hrel
    have hsz := hbel.size
    by_cases hlt : j < l.length
    · obtain ⟨bb, off, aj, cj, ha, _, hbn, hrow, hinj, hcj⟩ := (hin.keep hbel hn₀).atC hlt
      subst ha
      have hinT : FIn wr lo n₀ (l.take j) (some ⟨bb, off, none⟩) := (hin.keep hbel hn₀).take j
      obtain ⟨r0, r1, r2, r3, r4, r5, r6, r7, r8, r9, r10, r11, r12, r13⟩ := hrow
      have hfj := hfit _ (List.getElem_mem hlt)
      have hihj := ih _ (List.getElem_mem hlt)
      have htl := takeF_len l j hj
      obtain ⟨E, hE⟩ : ∃ E, seeF bndQ (P.length + 1) (k' + 1) (l.take j) l[j] = E := ⟨_, rfl⟩
      have HE : Hid (seeF bndQ (P.length + 1) (k' + 1) (l.take j) l[j] = E) := hE
      have HX : Hid (l.drop j = l[j] :: l.drop (j + 1)) := List.drop_eq_getElem_cons hlt
      have HX2 : Hid (l.take j ++ [l[j]] = l.take (j + 1)) := (List.take_succ_eq_append_getElem hlt).symm
      generalize l[j] = x at *
      clear hE
      have hb1 := (Below.refl wr.heap.size wr).alloc (Nat.le_refl _) (.cells #[.string x.own.name, .int .u8 x.own.kind, .bool x.own.down, .int .u8 x.own.nulls, .bool x.own.bnd, .bool x.own.ln, .string x.own.lm, .bool x.own.hn, .string x.own.hm, .int .i64 x.own.most, .int .i64 x.own.str, .bool x.own.shf, .bool x.own.bck, .slice aj x.fields.length cj] 50)
      have hN1 := Blk.new wr 50 #[.string x.own.name, .int .u8 x.own.kind, .bool x.own.down, .int .u8 x.own.nulls, .bool x.own.bnd, .bool x.own.ln, .string x.own.lm, .bool x.own.hn, .string x.own.hm, .int .i64 x.own.most, .int .i64 x.own.str, .bool x.own.shf, .bool x.own.bck, .slice aj x.fields.length cj]
      have ht1 := ht.old hb1
      have hinT1 := hinT.keep (n := wr.heap.size) hb1 (by have := ht.blk.lt; omega)
      have hinj1 := hinj.keep (n := wr.heap.size) hb1 (by have := ht.blk.lt; omega)
      have hF : T < wr.heap.size := ht.blk.lt
      clear ih hin hfit ht hinT1 hinj1
      go_upto_region 5 with fail
      generalize wr.alloc (.cells #[.string x.own.name, .int .u8 x.own.kind, .bool x.own.down, .int .u8 x.own.nulls, .bool x.own.bnd, .bool x.own.ln, .string x.own.lm, .bool x.own.hn, .string x.own.hm, .int .i64 x.own.most, .int .i64 x.own.str, .bool x.own.shf, .bool x.own.bck, .slice aj x.fields.length cj] 50) = w1 at *
      obtain ⟨hT1, _⟩ := ht1.last (j : Int)
      obtain ⟨_, hge, hTg, hgl, hpc, hlast, hfr⟩ := ht1.some
      cases hge
      obtain ⟨d0, d1, d2, e0, e1, hTl⟩ := ht1.cells
      simp only [List.length_append, List.length_cons, List.length_nil, Nat.zero_add] at d0
      have hT2 := hT1.count1
      have hb1T : Below T wr w1 := hb1.mono (by omega)
      have hb3 : Below T wr ((w1.setCell ⟨g, P.length, none⟩ (.int .i64 (j : Int))).setCell ⟨T, 1, none⟩ (.int .i64 ((k' : Int) + 1))) := (hb1T.setCell (p := ⟨g, P.length, none⟩) (by show T ≤ g; omega) _).setCell (p := ⟨T, 1, none⟩) (Nat.le_refl _) _
      have hFg : wr.heap.size ≠ g := fun e => by
        have h1 := hN1
        rw [e] at h1
        rcases ht1.own.2 with ⟨hv, _⟩ | ⟨g', cap', cur, hv, _, hh, _⟩
        · cases hv
        · simp only [Value.slice.injEq, Option.some.injEq, Addr.mk.injEq, and_true] at hv
          obtain ⟨rfl, _, _⟩ := hv
          rw [show w1.heap[g]? = _ from h1] at hh
          cases hh
      have hN3 := (hN1.other (p := ⟨g, P.length, none⟩) hFg (.int .i64 (j : Int))).other (p := ⟨T, 1, none⟩) (by show wr.heap.size ≠ T; omega) (.int .i64 ((k' : Int) + 1))
      have hz3 : ((w1.setCell ⟨g, P.length, none⟩ (.int .i64 (j : Int))).setCell ⟨T, 1, none⟩ (.int .i64 ((k' : Int) + 1))).heap.size = w1.heap.size := by simp [World.setCell]
      go_upto_region 7 with fail
      generalize (w1.setCell ⟨g, P.length, none⟩ (.int .i64 (j : Int))).setCell ⟨T, 1, none⟩ (.int .i64 ((k' : Int) + 1)) = w3 at hT2 hb3 hN3 hz3 ⊢
      have hbw3 : Below T w w3 := hbel.trans hb3
      have hT3 : T < w3.heap.size := hT2.blk.lt
      have hin3 : FIn w3 lo n₀ (l.take j) (some ⟨bb, off, none⟩) := hinT.keep hb3 hn₀
      have hin3j : FIn w3 lo n₀ x.fields aj := hinj.keep hb3 hn₀
      have hpl : (P ++ [(j : Int)]).length = P.length + 1 := by simp
      have hsee : ∀ y, Below w3.heap.size w3 y → Calls Tryz.prog 84 #[.pointer (some ⟨T, 0, none⟩), .slice (some ⟨bb, off, none⟩) j ca, .agg #[.string x.own.name, .int .u8 x.own.kind, .bool x.own.down, .int .u8 x.own.nulls, .bool x.own.bnd, .bool x.own.ln, .string x.own.lm, .bool x.own.hn, .string x.own.hm, .int .i64 x.own.most, .int .i64 x.own.str, .bool x.own.shf, .bool x.own.bck, .slice aj x.fields.length cj]] y (SeePost E (P ++ [(j : Int)]) (k' + 1) y) := fun y hy => by
        have q := needRight_any T (some ⟨g, 0, none⟩) pc' (P ++ [(j : Int)]) (k' + 1) (by rw [hpl]; omega) (by omega) (l.take j) (by omega) (some ⟨bb, off, none⟩) ca lo n₀ x hfj aj cj y (by have := hy.size; omega) (hT2.old hy) (hin3.keep (n := w3.heap.size) hy (by omega))
        rw [hpl, HE.out, htl] at q
        exact q
      have hc2 : ∀ y, Below w3.heap.size w3 y → y.cell? ⟨T, 2, none⟩ = some (.func (.func 84) #[.pointer (some ⟨T, 0, none⟩)] #[]) := fun y hy => (hT2.old hy).cells.2.2.1
      have HKeep : Hid (∀ x y, Below w3.heap.size w3 x → Below x.heap.size x y → Below w3.heap.size w3 y) := fun x y h1 h2 => h1.trans (h2.mono h1.size)
      have hjc : j ≤ ca := by omega
      have hjc' : (j : Int) ≤ (ca : Int) := by omega
      have HGb : Hid (E ≠ 0 → G = .bad E (P ++ [(j : Int)]) (k' + 1)) := fun hne => by
        have q := HS.out
        rw [HX.out, tourL_bad _ _ _ _ _ _ (by rw [HE.out]; exact hne), HE.out, htl] at q
        exact q
      have HGi : Hid (E = 0 → ∀ c p m, tourL bndQ (P ++ [(j : Int)]) [] (k' + 1) x.fields = .bad c p m → G = .bad c p m) := fun h0 c p m hb => by
        have q := HS.out
        rw [HX.out, tourL_in _ _ _ _ _ _ (by rw [HE.out]; exact h0) (by rw [htl]; exact hb)] at q
        exact q
      have HGo : Hid (E = 0 → ∀ m, tourL bndQ (P ++ [(j : Int)]) [] (k' + 1) x.fields = .ok m → G = tourL bndQ P (l.take (j + 1)) m (l.drop (j + 1))) := fun h0 m hb => by
        have q := HS.out
        rw [HX.out, tourL_on _ _ _ _ _ _ (by rw [HE.out]; exact h0) (by rw [htl]; exact hb), HX2.out] at q
        exact q
      have HRm : Hid (E = 0 → k' + 1 ≤ 64 ∧ P.length + 1 ≤ 16) := fun h0 => see_room (HE.out.trans h0)
      clear HS HX HX2 hinT hinj hb1 hN1 ht1 hb1T hT1 hFg hz3 r0 r1 r2 r3 r4 r5 r6 r7 r8 r9 r10 r11 r12 r13 d0 d1 d2 e0 e1 hlast hfr hgl htl
      clear HE
      by_cases hE0 : E = 0
      · have hsee0 : ∀ y, Below w3.heap.size w3 y → Calls Tryz.prog 84 #[.pointer (some ⟨T, 0, none⟩), .slice (some ⟨bb, off, none⟩) j ca, .agg #[.string x.own.name, .int .u8 x.own.kind, .bool x.own.down, .int .u8 x.own.nulls, .bool x.own.bnd, .bool x.own.ln, .string x.own.lm, .bool x.own.hn, .string x.own.hm, .int .i64 x.own.most, .int .i64 x.own.str, .bool x.own.shf, .bool x.own.bck, .slice aj x.fields.length cj]] y (fun e y' => e = .returned (.tuple #[]) ∧ Below y.heap.size y y') := fun y hy => (hsee y hy).mono (fun e y' h => by rcases h with ⟨_, he, hb⟩ | ⟨hn, _⟩ <;> first | exact ⟨he, hb⟩ | exact absurd hE0 hn)
        clear hsee HGb
        refine wp_region_held_drew (S := fun x => Below w3.heap.size w3 x) (by kernel_rfl) ((Below.refl _ _).drew) (fun hHeld => ?_)
        refine wpAnyH_takeD (i := 0) (some 43) (v := .pointer (some ⟨T, 0, none⟩)) rfl rfl (by kernel_rfl) (by kernel_rfl) (by kernel_rfl) (fun _ _ _ h => h) (Or.inl ⟨by kernel_rfl, ?hy0⟩) (by assumption) ?rest0
        case hy0 => (intro x hSx; (try dsimp only at hSx); go_simp; first | done | with_reducible rfl)
        try simp only [Act.put, List.setIfInBounds_toArray, List.set_cons_zero, List.set_cons_succ]
        refine wpAnyH_takeD (i := 1) (some 44) (v := .pointer (some ⟨T, 0, none⟩)) rfl rfl (by kernel_rfl) (by kernel_rfl) (by kernel_rfl) (fun _ _ _ h => h) (Or.inl ⟨by kernel_rfl, ?hy1⟩) (by assumption) ?rest1
        case hy1 => (intro x hSx; (try dsimp only at hSx); go_simp; first | done | with_reducible rfl)
        try simp only [Act.put, List.setIfInBounds_toArray, List.set_cons_zero, List.set_cons_succ]
        refine wpAnyH_takeD (i := 2) (some 45) (v := .pointer (some ⟨T, 2, none⟩)) rfl rfl (by kernel_rfl) (by kernel_rfl) (by kernel_rfl) (fun _ _ _ h => h) (Or.inl ⟨by kernel_rfl, ?hy2⟩) (by assumption) ?rest2
        case hy2 => (intro x hSx; (try dsimp only at hSx); go_simp; first | done | with_reducible rfl)
        try simp only [Act.put, List.setIfInBounds_toArray, List.set_cons_zero, List.set_cons_succ]
        refine wpAnyH_takeD (i := 3) (some 46) (v := .func (.func 84) #[.pointer (some ⟨T, 0, none⟩)] #[]) rfl rfl (by kernel_rfl) (by kernel_rfl) (by kernel_rfl) (fun _ _ _ h => h) (Or.inl ⟨by kernel_rfl, ?hy3⟩) (by assumption) ?rest3
        case hy3 => (intro x hSx; have hq := hc2 _ hSx; (try dsimp only at hSx); go_simp; first | done | with_reducible rfl)
        try simp only [Act.put, List.setIfInBounds_toArray, List.set_cons_zero, List.set_cons_succ]
        refine wpAnyH_takeD (i := 4) (some 47) (v := .slice (some ⟨bb, off, none⟩) l.length ca) rfl rfl (by kernel_rfl) (by kernel_rfl) (by kernel_rfl) (fun _ _ _ h => h) (Or.inl ⟨by kernel_rfl, ?hy4⟩) (by assumption) ?rest4
        case hy4 => (intro x hSx; (try dsimp only at hSx); go_simp; first | done | with_reducible rfl)
        try simp only [Act.put, List.setIfInBounds_toArray, List.set_cons_zero, List.set_cons_succ]
        refine wpAnyH_takeD (i := 5) (some 48) (v := .int .i64 (j : Int)) rfl rfl (by kernel_rfl) (by kernel_rfl) (by kernel_rfl) (fun _ _ _ h => h) (Or.inl ⟨by kernel_rfl, ?hy5⟩) (by assumption) ?rest5
        case hy5 => (intro x hSx; (try dsimp only at hSx); go_simp; first | done | with_reducible rfl)
        try simp only [Act.put, List.setIfInBounds_toArray, List.set_cons_zero, List.set_cons_succ]
        refine wpAnyH_takeD (i := 6) (some 49) (v := .slice (some ⟨bb, off, none⟩) j ca) rfl rfl (by kernel_rfl) (by kernel_rfl) (by kernel_rfl) (fun _ _ _ h => h) (Or.inl ⟨by kernel_rfl, ?hy6⟩) (by assumption) ?rest6
        case hy6 => (intro x hSx; (try dsimp only at hSx); go_simp; first | done | with_reducible rfl)
        try simp only [Act.put, List.setIfInBounds_toArray, List.set_cons_zero, List.set_cons_succ]
        refine wpAnyH_takeD (i := 7) (some 50) (v := .agg #[.string x.own.name, .int .u8 x.own.kind, .bool x.own.down, .int .u8 x.own.nulls, .bool x.own.bnd, .bool x.own.ln, .string x.own.lm, .bool x.own.hn, .string x.own.hm, .int .i64 x.own.most, .int .i64 x.own.str, .bool x.own.shf, .bool x.own.bck, .slice aj x.fields.length cj]) rfl rfl (by kernel_rfl) (by kernel_rfl) (by kernel_rfl) (fun _ _ _ h => h) (Or.inl ⟨by kernel_rfl, ?hy7⟩) (by assumption) ?rest7
        case hy7 => (intro x hSx; obtain ⟨p0, p1, p2, p3, p4, p5, p6, p7, p8, p9, p10, p11, p12, p13⟩ := (hN3.old hSx).c14; (try dsimp only at hSx); go_simp; first | done | with_reducible rfl)
        try simp only [Act.put, List.setIfInBounds_toArray, List.set_cons_zero, List.set_cons_succ]
        refine wpAnyH_ready (rs := [8]) (by kernel_rfl) (by simp) ?_
        refine AllReadyH.cons rfl (fun K hK => ?_) AllReadyH.nil
        go_simp
        go_wp2_with (go_at_call 84; refine (hsee0 _ hHeld).mono ?_; rintro e y8 ⟨rfl, hb8⟩)
        refine hK.out _ _ (HKeep.out _ _ hHeld hb8) (fun hHeld8 => ?_)
        clear hK K
        try simp only [Act.put, List.setIfInBounds_toArray, List.set_cons_zero, List.set_cons_succ]
        refine wpAnyH_done (by kernel_rfl) ?_ _
        have hT8 := hT2.old hHeld8
        have hN8 := hN3.old hHeld8
        have hb08 : Below T w y8 := hbw3.trans (hHeld8.mono (by omega))
        obtain ⟨hr1, hr2⟩ := HRm.out hE0
        have hih := hihj T (some ⟨g, 0, none⟩) pc' (P ++ [(j : Int)]) (k' + 1) aj cj lo n₀ y8 (by rw [hpl]; exact hr2) hr1 hcj (fun z hz => hfj.mem hz) hfj.len hn₀ hT8 (hin3j.keep (n := w3.heap.size) hHeld8 (by omega))
        have p13 : y8.cell? ⟨wr.heap.size, 13, none⟩ = some (.slice aj x.fields.length cj) := hN8.cell 13
        clear hsee0 hT8 hN8 hihj hin3 hin3j hT2 hN3 hc2
        go_wp2_with fail
        refine hih.mono ?_
        clear hih
        cases h1 : tourL bndQ (P ++ [(j : Int)]) [] (k' + 1) x.fields with
        | ok m =>
          rintro e w9 ⟨hb9, rfl, pa9, pc9, ht9⟩
          obtain ⟨g9, rfl, _⟩ := ht9.some
          have hb09 := hb08.trans hb9
          have hm : m ≤ 64 := tourL_le bndQ _ x.fields (Nat.le_refl _) _ _ _ _ hr1 h1
          have HS9 : Hid (G = tourL bndQ P (l.take (j + 1)) m (l.drop (j + 1))) := HGo.out hE0 m h1
          clear h1 HGo HGi p13 hb9
          go_wp2_with fail
          go_roundw
          case rel => exact ⟨j + 1, m, g9, pc9, (j : Int), by omega, by simp, hm, ht9, HS9, hb09⟩
          case measure => simp only [intOf]; omega
        | bad c p m =>
          rintro e w9 ⟨hb9, a9, c9, he, ho⟩
          have hb09 := hb08.trans hb9
          have hGq : G = .bad c p m := HGi.out hE0 c p m h1
          unfold lostG at he
          subst he
          clear h1 HGo HGi p13 hb9
          go_wp2
          refine ⟨rfl, ?_⟩
          rw [hGq]
          exact ⟨hb09, a9, c9, rfl, ho⟩
      · have hsee1 : ∀ y, Below w3.heap.size w3 y → Calls Tryz.prog 84 #[.pointer (some ⟨T, 0, none⟩), .slice (some ⟨bb, off, none⟩) j ca, .agg #[.string x.own.name, .int .u8 x.own.kind, .bool x.own.down, .int .u8 x.own.nulls, .bool x.own.bnd, .bool x.own.ln, .string x.own.lm, .bool x.own.hn, .string x.own.hm, .int .i64 x.own.most, .int .i64 x.own.str, .bool x.own.shf, .bool x.own.bck, .slice aj x.fields.length cj]] y (fun e y' => ∃ a c, e = .panicked [{ v := lostF E a (P ++ [(j : Int)]).length c ((k' + 1 : Nat) : Int), recovered := false }] ∧ IOwn y' y.heap.size (.slice a (P ++ [(j : Int)]).length c) (P ++ [(j : Int)]) ∧ Below y.heap.size y y') := fun y hy => (hsee y hy).mono (fun e y' h => by rcases h with ⟨hz, _⟩ | ⟨_, h⟩ <;> first | exact h | exact absurd hz hE0)
        clear hsee HGi HGo
        refine wp_region_held_drew (S := fun x => Below w3.heap.size w3 x) (by kernel_rfl) ((Below.refl _ _).drew) (fun hHeldb => ?_)
        refine wpAnyH_takeD (i := 0) (some 43) (v := .pointer (some ⟨T, 0, none⟩)) rfl rfl (by kernel_rfl) (by kernel_rfl) (by kernel_rfl) (fun _ _ _ h => h) (Or.inl ⟨by kernel_rfl, ?hyb0⟩) (by assumption) ?restb0
        case hyb0 => (intro x hSx; (try dsimp only at hSx); go_simp; first | done | with_reducible rfl)
        try simp only [Act.put, List.setIfInBounds_toArray, List.set_cons_zero, List.set_cons_succ]
        refine wpAnyH_takeD (i := 1) (some 44) (v := .pointer (some ⟨T, 0, none⟩)) rfl rfl (by kernel_rfl) (by kernel_rfl) (by kernel_rfl) (fun _ _ _ h => h) (Or.inl ⟨by kernel_rfl, ?hyb1⟩) (by assumption) ?restb1
        case hyb1 => (intro x hSx; (try dsimp only at hSx); go_simp; first | done | with_reducible rfl)
        try simp only [Act.put, List.setIfInBounds_toArray, List.set_cons_zero, List.set_cons_succ]
        refine wpAnyH_takeD (i := 2) (some 45) (v := .pointer (some ⟨T, 2, none⟩)) rfl rfl (by kernel_rfl) (by kernel_rfl) (by kernel_rfl) (fun _ _ _ h => h) (Or.inl ⟨by kernel_rfl, ?hyb2⟩) (by assumption) ?restb2
        case hyb2 => (intro x hSx; (try dsimp only at hSx); go_simp; first | done | with_reducible rfl)
        try simp only [Act.put, List.setIfInBounds_toArray, List.set_cons_zero, List.set_cons_succ]
        refine wpAnyH_takeD (i := 3) (some 46) (v := .func (.func 84) #[.pointer (some ⟨T, 0, none⟩)] #[]) rfl rfl (by kernel_rfl) (by kernel_rfl) (by kernel_rfl) (fun _ _ _ h => h) (Or.inl ⟨by kernel_rfl, ?hyb3⟩) (by assumption) ?restb3
        case hyb3 => (intro x hSx; have hq := hc2 _ hSx; (try dsimp only at hSx); go_simp; first | done | with_reducible rfl)
        try simp only [Act.put, List.setIfInBounds_toArray, List.set_cons_zero, List.set_cons_succ]
        refine wpAnyH_takeD (i := 4) (some 47) (v := .slice (some ⟨bb, off, none⟩) l.length ca) rfl rfl (by kernel_rfl) (by kernel_rfl) (by kernel_rfl) (fun _ _ _ h => h) (Or.inl ⟨by kernel_rfl, ?hyb4⟩) (by assumption) ?restb4
        case hyb4 => (intro x hSx; (try dsimp only at hSx); go_simp; first | done | with_reducible rfl)
        try simp only [Act.put, List.setIfInBounds_toArray, List.set_cons_zero, List.set_cons_succ]
        refine wpAnyH_takeD (i := 5) (some 48) (v := .int .i64 (j : Int)) rfl rfl (by kernel_rfl) (by kernel_rfl) (by kernel_rfl) (fun _ _ _ h => h) (Or.inl ⟨by kernel_rfl, ?hyb5⟩) (by assumption) ?restb5
        case hyb5 => (intro x hSx; (try dsimp only at hSx); go_simp; first | done | with_reducible rfl)
        try simp only [Act.put, List.setIfInBounds_toArray, List.set_cons_zero, List.set_cons_succ]
        refine wpAnyH_takeD (i := 6) (some 49) (v := .slice (some ⟨bb, off, none⟩) j ca) rfl rfl (by kernel_rfl) (by kernel_rfl) (by kernel_rfl) (fun _ _ _ h => h) (Or.inl ⟨by kernel_rfl, ?hyb6⟩) (by assumption) ?restb6
        case hyb6 => (intro x hSx; (try dsimp only at hSx); go_simp; first | done | with_reducible rfl)
        try simp only [Act.put, List.setIfInBounds_toArray, List.set_cons_zero, List.set_cons_succ]
        refine wpAnyH_takeD (i := 7) (some 50) (v := .agg #[.string x.own.name, .int .u8 x.own.kind, .bool x.own.down, .int .u8 x.own.nulls, .bool x.own.bnd, .bool x.own.ln, .string x.own.lm, .bool x.own.hn, .string x.own.hm, .int .i64 x.own.most, .int .i64 x.own.str, .bool x.own.shf, .bool x.own.bck, .slice aj x.fields.length cj]) rfl rfl (by kernel_rfl) (by kernel_rfl) (by kernel_rfl) (fun _ _ _ h => h) (Or.inl ⟨by kernel_rfl, ?hyb7⟩) (by assumption) ?restb7
        case hyb7 => (intro x hSx; obtain ⟨p0, p1, p2, p3, p4, p5, p6, p7, p8, p9, p10, p11, p12, p13⟩ := (hN3.old hSx).c14; (try dsimp only at hSx); go_simp; first | done | with_reducible rfl)
        try simp only [Act.put, List.setIfInBounds_toArray, List.set_cons_zero, List.set_cons_succ]
        refine wpAnyH_ready (rs := [8]) (by kernel_rfl) (by simp) ?_
        refine AllReadyH.cons rfl (fun K hK => ?_) AllReadyH.nil
        go_simp
        go_wp2_with (go_at_call 84; refine (hsee1 _ hHeldb).mono ?_; rintro e y8 ⟨ap, cp, rfl, ho, hb8⟩)
        have hGq : G = .bad E (P ++ [(j : Int)]) (k' + 1) := HGb.out hE0
        have hb08 : Below T w y8 := hbw3.trans ((HKeep.out _ _ hHeldb hb8).mono (by omega))
        refine ⟨rfl, ?_⟩
        rw [hGq]
        exact ⟨hb08, ap, cp, by unfold lostG; rw [hpl]; rfl, ho.mono (by have := hHeldb.size; omega)⟩
    · have hGq : G = .ok k' := by rw [HS.out, List.drop_of_length_le (by omega), tourL_nil]
      obtain ⟨d0, d1, d2, e0, e1, hTl⟩ := ht.cells
      simp only [List.length_append, List.length_cons, List.length_nil, Nat.zero_add] at d0
      obtain ⟨_, hge, hTg, hgl, hpc, hlast, hfr⟩ := ht.some
      cases hge
      have hpc1 : P.length ≤ pc' := by omega
      have hpc2 : (P.length : Int) ≤ (pc' : Int) := by omega
      have hpl : (P ++ [x0]).length = P.length + 1 := by simp
      have hown : IOwn wr (T + 1) (.slice (some ⟨g, 0, none⟩) P.length pc') P := by
        have q := ht.own.take (m := P.length) (by rw [hpl]; omega)
        rwa [List.take_left'  rfl] at q
      have hfin := TourAt.path (_w := wr) ht.blk hown
      have hbf : Below T w (wr.setCell ⟨T, 0, none⟩ (.slice (some ⟨g, 0, none⟩) P.length pc')) := hbel.setCell (p := ⟨T, 0, none⟩) (Nat.le_refl _) _
      clear HS ih hin hfit ht hown
      go_wp2_with fail
      go_end0
      rw [hGq]
      exact ⟨hbf, rfl, _, _, hfin⟩

theorem fld_go : ∀ f : Fld, GoOk f.fields := fun f => by
  induction f using Fld.ind with
  | h o l ih => exact go_step l ih
theorem goThrough_any (l : List Fld) : GoOk l := go_step l fun x _ => fld_go x

end Go.Proofs.YtgefbgpfjbbeaaaGreatDoor
