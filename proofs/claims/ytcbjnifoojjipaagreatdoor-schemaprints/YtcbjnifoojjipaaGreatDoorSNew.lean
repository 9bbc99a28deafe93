/- What schema's newReader does (a contract; nothing is claimed here). -/
import Derived.Test.YtcbjnifoojjipaaGreatDoorSNwa
namespace Go.Proofs.YtcbjnifoojjipaaGreatDoor
open Go.RowKit Go.Vf Go.Maps Go.Shelf
attribute [local go_sem] Oper.semAt_some

set_option maxRecDepth 100000 in
set_option maxHeartbeats 2000000 in
theorem newReader_any (s : List UInt8) (hs : s.length ≤ 65536) (w : World) (hE : Env w) :
    Calls Tryz.prog 50 #[.string (bs s)] w fun e w' => ∃ R, e = .returned (.pointer (some ⟨R, 0, none⟩)) ∧ w.heap.size ≤ R ∧ Below w.heap.size w w' ∧ RdAt w'.heap.size R w' (lnF 1 (linesL s)) (1 + ((linesL s).length : Int)) (.slice none 0 0) := by
  obtain ⟨R, hRd⟩ : ∃ R, w.heap.size = R := ⟨_, rfl⟩
  have hR0 : w.heap.size ≤ R := by omega
  have b1 := Blk.new w 107 #[.slice none 0 0, .int .i64 1, .slice none 0 0]
  have l1 := (Below.refl w.heap.size w).alloc (Nat.le_refl _) (.cells #[.slice none 0 0, .int .i64 1, .slice none 0 0] 107)
  have s1 := alloc_size w (.cells #[.slice none 0 0, .int .i64 1, .slice none 0 0] 107)
  rw [hRd] at b1 s1
  refine (callsIn_wide (n := 3)).1 ?_
  refine callsIn_of_wp_marks Tryz.func50 rfl trivial ?_ rfl
  simp only [Tryz.ntmps50, List.size_toArray, List.length_cons, List.length_nil, Nat.reduceAdd, Nat.reduceSub, Array.replicate_succ, Array.replicate_zero, List.push_toArray, List.append_toArray, List.nil_append, List.cons_append]
  have HS1 : Hid ((w.alloc (.cells #[.slice none 0 0, .int .i64 1, .slice none 0 0] 107)).heap.size = R + 1) := s1
  clear s1
  gi_wp2
  refine ⟨trivial, (lines_in _ (bs s) _).mono ?_⟩
  rintro e w' ⟨rfl, rfl⟩
  gi_wp2
  have s1 := HS1.out
  generalize w.alloc (.cells #[.slice none 0 0, .int .i64 1, .slice none 0 0] 107) = w1 at *
  have b2 := Blk.new w1 102 #[.pointer (some ⟨R, 0, none⟩)]
  have l2 := (Below.refl w1.heap.size w1).alloc (Nat.le_refl _) (.cells #[.pointer (some ⟨R, 0, none⟩)] 102)
  have s2 := alloc_size w1 (.cells #[.pointer (some ⟨R, 0, none⟩)] 102)
  generalize w1.alloc (.cells #[.pointer (some ⟨R, 0, none⟩)] 102) = w2 at *
  have b3 := Blk.new w2 9 #[.string (bs s)]
  have l3 := (Below.refl w2.heap.size w2).alloc (Nat.le_refl _) (.cells #[.string (bs s)] 9)
  have s3 := alloc_size w2 (.cells #[.string (bs s)] 9)
  have b2' := b2.old l3
  have b1' := (b1.old l2).old l3
  generalize w2.alloc (.cells #[.string (bs s)] 9) = w3 at *
  rw [s1] at b2'
  rw [show w2.heap.size = R + 2 by omega] at b3
  obtain ⟨B0, hB0⟩ : ∃ B0, w3.heap.size = B0 := ⟨_, rfl⟩
  have hB0R : B0 = R + 3 := by omega
  have hN0 : NwAt B0 w w3 (R + 1) R (R + 2) 0 none 0 [] := ⟨b2', by exact b1', World.ownsRow_nil _ _ _ _, fun q hq => (by cases hq), l1.trans ((l2.mono (by omega)).trans (l3.mono (by omega))), by omega, by omega⟩
  have HE : Hid (Env w) := hE
  have hRB0 : R < B0 := by omega
  have hRbB0 : R + 1 < B0 := by omega
  have hRR : R + 1 ≠ R := by omega
  have hRBs : R ≠ R + 2 := by omega
  have hRbBs : R + 1 ≠ R + 2 := by omega
  have hsl := linesL_len s
  clear b1 b2 b1' b2' l1 l2 l3 s1 s2 s3 HS1 hE
  refine range_box (t := 10) (by decide) (gf := 96) (Bs := R + 2) rfl (by omega) (enters_of Tryz.func96 (by kernel_rfl) rfl) (lines1_in (3 - 1) (by decide) (R + 2) s hs w3 b3)
    (fun pre W => ∃ la lc qs, NwAt B0 w W (R + 1) R (R + 2) pre.length la lc qs ∧ qs.map Prod.fst = lnF 1 pre ∧ qs.length ≤ pre.length)
    ?hI ?hIp ⟨none, 0, [], hN0, rfl, Nat.le_refl _⟩
    (fun x => { tmps := #[.string (bs s), undef, .pointer none, .pointer (some ⟨R + 1, 0, none⟩), .string (bs x), undef, .agg #[.slice none 0 0, .int .i64 1, .slice none 0 0], .pointer (some ⟨R, 0, none⟩), .string (bs s), .func (.func 96) #[] #[.pointer (some ⟨R + 2, 0, none⟩)], .string (bs x), undef, undef, undef, undef, undef, undef, undef, undef, undef, undef, undef, undef, undef, undef, undef, undef, undef, undef, undef, undef, undef, undef, undef, undef, undef, undef, undef, undef], defers := [] }) ?assign ?body ?done
  case hI =>
    rintro pre A B ⟨la, lc, qs, h1, h2, h3⟩ hO
    exact ⟨la, lc, qs, h1.kp ⟨hO.os.trans h1.bel.os, hO.tape.trans h1.bel.tape, hO.output.trans h1.bel.output, Nat.le_trans h1.bel.size hO.size, fun k hk => (hO.block k (Nat.lt_of_lt_of_le hk h1.bel.size) (by omega)).trans (h1.bel.block k hk)⟩ (Nat.le_trans h1.hB0 hO.size) (fun j _ _ _ hj hn => hO.block j (Array.getElem?_eq_some_iff.1 hj).1 hn) hRbBs hRBs, h2, h3⟩
  case hIp =>
    rintro pre A k o o' ⟨la, lc, qs, h1, h2, h3⟩ hk ho hc
    have hkl := (Array.getElem?_eq_some_iff.1 ho).1
    refine ⟨la, lc, qs, h1.kp (h1.bel.trans ((Below.refl w.heap.size A).grown (grownBy_putObj' A k o') h1.bel.size (fun j e => by cases e; omega))) (by simp; exact h1.hB0) (fun j cs t f hj _ => World.putObj_heap_other (by
      rintro rfl
      rw [ho] at hj
      cases hj
      cases hc)) hRbBs hRBs, h2, h3⟩
  case assign =>
    intro l x W K hK
    gi_wp2
    exact hK
  case done =>
    rintro D W hD ⟨la, lc, qs, h1, h2, h3⟩ hK
    have b0 := h1.box.cell 0
    have bl := h1.box.lt
    simp only [List.getElem?_toArray, List.getElem?_cons_zero] at b0
    gi_wp2
    refine ⟨by simp, .inl ⟨_, _, rfl, run_takeDeferred hK, ?_⟩⟩
    have h4 := h1.kp (W' := W.putObj D (.deferred none)) (h1.bel.trans (belowK_b (w := w3) (by omega) W D _ _ hD hK rfl rfl)) (by simp; exact h1.hB0) (fun j cs t f hj _ => World.putObj_heap_other (by
      rintro rfl
      rw [hK] at hj
      cases hj)) hRbBs hRBs
    refine ⟨_, results_tmp rfl _ _ _, R, rfl, by omega, h4.bel, ?_⟩
    have := h4.rdAt hRB0
    rw [h2] at this
    exact this
  case body =>
    rintro l pre x W ⟨la, lc, qs, h1, h2, h3⟩ hpx
    have hpl : pre.length + 1 ≤ 65536 := by
      have := hpx.length_le
      simp only [List.length_append, List.length_cons, List.length_nil] at this
      omega
    have hxl : x.length ≤ 65536 := by
      have := hsl.2 x (hpx.subset (by simp))
      omega
    have hEW : Env W := HE.out.old h1.bel
    have hwd := wordsOf_any x (by omega) W hEW (trim_le hxl) (cut_le hxl)
    have HQ : Hid (qs.map Prod.fst = lnF 1 pre) := h2
    obtain ⟨WS, hWS⟩ : ∃ WS, wordsL x = WS := ⟨_, rfl⟩
    rw [hWS] at hwd
    have HWS : Hid (wordsL x = WS) := hWS
    have HN1 : Hid (NwAt B0 w W (R + 1) R (R + 2) pre.length la lc qs) := h1
    have hWl : R + 2 < W.heap.size := Nat.lt_of_lt_of_le h1.hBs h1.hB0
    clear h1 h2 hpx hWS hEW b3 hN0 hsl
    gi_wp2
    refine ⟨trivial, (CallsIn.inRound l (callsIn_wide.2 hwd)).mono ?_⟩
    rintro _ W1 ⟨A, rfl, hA, hownA, hbA⟩
    clear hwd
    have HK1 : Hid (KB B0 (R + 2) W W1) := KB.below hbA hWl
    have HN2 : Hid (NwAt B0 w W1 (R + 1) R (R + 2) pre.length la lc qs) := HN1.out.old hbA hRbBs hRBs
    by_cases hne : WS = []
    · subst hne
      have b0 := HN2.out.box.cell 0
      have b1 := HN2.out.rd.cell 1
      have f1 := HN2.out.rd.frozen 1
      have bl := HN2.out.box.lt
      have rl := HN2.out.rd.lt
      simp only [List.getElem?_toArray, List.getElem?_cons_zero, List.getElem?_cons_succ] at b0 b1
      clear hownA hA hbA
      gi_wp2
      obtain ⟨hN9, hK9⟩ := HN2.out.count hRB0 hRR hRBs hR0
      exact ⟨by rw [hB0]; exact (HK1.out.trans hK9).1, (HK1.out.trans hK9).2, _, _, _, by rw [List.length_append]; exact hN9, by rw [HQ.out, lnF_snoc, HWS.out]; simp, by simp only [List.length_append, List.length_cons, List.length_nil]; omega⟩
    · have hWA : WBlk W1 A WS := by
        rcases hownA.2 with ⟨hv, _⟩ | ⟨g', cap', cur, hv, _, hh, _, _, hc3, hc4⟩
        · cases hv
        · simp only [Value.slice.injEq, Option.some.injEq, Addr.mk.injEq, and_true] at hv
          obtain ⟨rfl, _⟩ := hv
          refine ⟨⟨_, _, hh⟩, fun j hj => ?_⟩
          have hx : (WS.map Value.string)[j]? = some (.string WS[j]) := by simp [hj]
          rw [← hc4, List.getElem?_take_of_lt (by omega)] at hx
          simp only [World.cell?, hh]
          simpa using hx
      have hA0 : B0 ≤ A := Nat.le_trans HN1.out.hB0 hA
      have hlw : 0 < WS.length := List.length_pos_iff.2 hne
      have hlw2 : (0 : Int) < (WS.length : Int) := by omega
      obtain ⟨V, hV⟩ : ∃ V, V = W1.drew := ⟨_, rfl⟩
      have hbV : Below W1.heap.size W1 V := by rw [hV]; exact (Below.refl _ _).drew
      have hNV := HN2.out.old hbV hRbBs hRBs
      have hbVa := (Below.refl V.heap.size V).alloc (Nat.le_refl _) (.cells #[.int .i64 (1 + (pre.length : Int)), .slice (some ⟨A, 0, none⟩) WS.length WS.length] 139)
      have hNa := hNV.old hbVa hRbBs hRBs
      have hWa : WBlk (V.alloc (.cells #[.int .i64 (1 + (pre.length : Int)), .slice (some ⟨A, 0, none⟩) WS.length WS.length] 139)) A WS := by
        have h1 : WBlk V A WS := hWA.same (hbV.block A hWA.lt)
        exact h1.same (hbVa.block A h1.lt)
      have HKV : Hid (KB B0 (R + 2) W (V.alloc (.cells #[.int .i64 (1 + (pre.length : Int)), .slice (some ⟨A, 0, none⟩) WS.length WS.length] 139))) := HK1.out.trans ((KB.below hbV (by have := HN2.out.hB0; omega)).trans (KB.below hbVa (by have := hNV.hB0; omega)))
      have hSV : V.cell? ⟨R + 1, 0, none⟩ = some (.pointer (some ⟨R, 0, none⟩)) ∧ V.cell? ⟨R, 1, none⟩ = some (.int .i64 (1 + (pre.length : Int))) := ⟨hNV.box.cell 0, hNV.rd.cell 1⟩
      have hSa : (V.alloc (.cells #[.int .i64 (1 + (pre.length : Int)), .slice (some ⟨A, 0, none⟩) WS.length WS.length] 139)).cell? ⟨R + 1, 0, none⟩ = some (.pointer (some ⟨R, 0, none⟩)) ∧ (V.alloc (.cells #[.int .i64 (1 + (pre.length : Int)), .slice (some ⟨A, 0, none⟩) WS.length WS.length] 139)).cell? ⟨R, 1, none⟩ = some (.int .i64 (1 + (pre.length : Int))) := ⟨hNa.box.cell 0, hNa.rd.cell 1⟩
      have v0 : V.cell? ⟨R, 0, none⟩ = some (.slice la qs.length lc) := hNV.rd.cell 0
      have v0a : (V.alloc (.cells #[.int .i64 (1 + (pre.length : Int)), .slice (some ⟨A, 0, none⟩) WS.length WS.length] 139)).cell? ⟨R, 0, none⟩ = some (.slice la qs.length lc) := hNa.rd.cell 0
      have hVR : R < V.heap.size := hNV.rd.lt
      have hql : qs.length ≤ 65536 := by omega
      obtain ⟨i0, hi0, hz0, hz1, hz2⟩ := info_parts info139
      clear hownA hA hbA hbV hbVa HN1 HN2
      have HV : Hid (V = W1.drew) := hV
      clear hV
      gi_wp2
      first
      | done
      | skip
      refine wpIn_region_any (by kernel_rfl) (anyIn_of_any (fun _ => trivial) (fun h => by obtain ⟨_, _, h⟩ := h; exact h) (calm_arr (by kernel_rfl)) _ _ _ _ ?_)
      rw [show ({ W1 with drawn := W1.drawn + 1 } : World) = V from HV.out.symm]
      refine wpAny_of_held (S := fun x => x.cell? ⟨R + 1, 0, none⟩ = some (.pointer (some ⟨R, 0, none⟩)) ∧ x.cell? ⟨R, 1, none⟩ = some (.int .i64 (1 + (pre.length : Int)))) _ _ _ _ ?_
      refine wpAnyH_takeD (i := 0) (some 16) (v := .pointer (some ⟨R, 0, none⟩)) rfl rfl (by kernel_rfl) (by kernel_rfl) (by kernel_rfl) (fun _ _ _ h => h) (Or.inl ⟨by kernel_rfl, ?hy1⟩) (by assumption) ?rest1
      case hy1 => (intro x hSx; obtain ⟨hS1, hS2⟩ := hSx; go_simp; first | done | with_reducible rfl)
      try simp only [Act.put, List.setIfInBounds_toArray, List.set_cons_zero, List.set_cons_succ]
      refine wpAnyH_takeD (i := 1) (some 17) (v := .pointer (some ⟨R, 0, none⟩)) rfl rfl (by kernel_rfl) (by kernel_rfl) (by kernel_rfl) (fun _ _ _ h => h) (Or.inl ⟨by kernel_rfl, ?hy2⟩) (by assumption) ?rest2
      case hy2 => (intro x hSx; obtain ⟨hS1, hS2⟩ := hSx; go_simp; first | done | with_reducible rfl)
      try simp only [Act.put, List.setIfInBounds_toArray, List.set_cons_zero, List.set_cons_succ]
      refine wpAnyH_takeD (i := 2) (some 18) (v := .pointer (some ⟨R, 0, none⟩)) rfl rfl (by kernel_rfl) (by kernel_rfl) (by kernel_rfl) (fun _ _ _ h => h) (Or.inl ⟨by kernel_rfl, ?hy3⟩) (by assumption) ?rest3
      case hy3 => (intro x hSx; obtain ⟨hS1, hS2⟩ := hSx; go_simp; first | done | with_reducible rfl)
      try simp only [Act.put, List.setIfInBounds_toArray, List.set_cons_zero, List.set_cons_succ]
      refine wpAnyH_takeD (i := 3) (some 19) (v := .pointer (some ⟨R, 0, none⟩)) rfl rfl (by kernel_rfl) (by kernel_rfl) (by kernel_rfl) (fun _ _ _ h => h) (Or.inl ⟨by kernel_rfl, ?hy4⟩) (by assumption) ?rest4
      case hy4 => (intro x hSx; obtain ⟨hS1, hS2⟩ := hSx; go_simp; first | done | with_reducible rfl)
      try simp only [Act.put, List.setIfInBounds_toArray, List.set_cons_zero, List.set_cons_succ]
      refine wpAnyH_takeD (i := 5) (some 21) (v := .pointer (some ⟨R, 0, none⟩)) rfl rfl (by kernel_rfl) (by kernel_rfl) (by kernel_rfl) (fun _ _ _ h => h) (Or.inl ⟨by kernel_rfl, ?hy5⟩) (by assumption) ?rest5
      case hy5 => (intro x hSx; obtain ⟨hS1, hS2⟩ := hSx; go_simp; first | done | with_reducible rfl)
      try simp only [Act.put, List.setIfInBounds_toArray, List.set_cons_zero, List.set_cons_succ]
      refine wpAnyH_takeD (i := 6) (some 22) (v := .pointer (some ⟨R, 0, none⟩)) rfl rfl (by kernel_rfl) (by kernel_rfl) (by kernel_rfl) (fun _ _ _ h => h) (Or.inl ⟨by kernel_rfl, ?hy6⟩) (by assumption) ?rest6
      case hy6 => (intro x hSx; obtain ⟨hS1, hS2⟩ := hSx; go_simp; first | done | with_reducible rfl)
      try simp only [Act.put, List.setIfInBounds_toArray, List.set_cons_zero, List.set_cons_succ]
      refine wpAnyH_takeD (i := 7) (some 23) (v := .pointer (some ⟨R, 1, none⟩)) rfl rfl (by kernel_rfl) (by kernel_rfl) (by kernel_rfl) (fun _ _ _ h => h) (Or.inl ⟨by kernel_rfl, ?hy7⟩) (by assumption) ?rest7
      case hy7 => (intro x hSx; obtain ⟨hS1, hS2⟩ := hSx; go_simp; first | done | with_reducible rfl)
      try simp only [Act.put, List.setIfInBounds_toArray, List.set_cons_zero, List.set_cons_succ]
      refine wpAnyH_takeD (i := 8) (some 24) (v := .int .i64 (1 + (pre.length : Int))) rfl rfl (by kernel_rfl) (by kernel_rfl) (by kernel_rfl) (fun _ _ _ h => h) (Or.inl ⟨by kernel_rfl, ?hy8⟩) (by assumption) ?rest8
      case hy8 => (intro x hSx; obtain ⟨hS1, hS2⟩ := hSx; go_simp; first | done | with_reducible rfl)
      try simp only [Act.put, List.setIfInBounds_toArray, List.set_cons_zero, List.set_cons_succ]
      refine wpAnyH_takeD (i := 9) (some 25) (v := .slice (some ⟨A, 0, none⟩) WS.length WS.length) rfl rfl (by kernel_rfl) (by kernel_rfl) (by kernel_rfl) (fun _ _ _ h => h) (Or.inl ⟨by kernel_rfl, ?hy9⟩) (by assumption) ?rest9
      case hy9 => (intro x hSx; obtain ⟨hS1, hS2⟩ := hSx; go_simp; first | done | with_reducible rfl)
      try simp only [Act.put, List.setIfInBounds_toArray, List.set_cons_zero, List.set_cons_succ]
      refine wpAnyH_takeD (i := 10) (some 26) (v := .agg #[.int .i64 (1 + (pre.length : Int)), .slice (some ⟨A, 0, none⟩) WS.length WS.length]) rfl rfl (by kernel_rfl) (by kernel_rfl) (by kernel_rfl) (fun _ _ _ h => h) (Or.inl ⟨by kernel_rfl, ?hy10⟩) (by assumption) ?rest10
      case hy10 => (intro x hSx; obtain ⟨hS1, hS2⟩ := hSx; go_simp; first | done | with_reducible rfl)
      try simp only [Act.put, List.setIfInBounds_toArray, List.set_cons_zero, List.set_cons_succ]
      refine wpAnyH_ready (rs := [4, 11]) (by kernel_rfl) (by simp) ?_
      refine AllReadyH.cons rfl (fun K2 hK2 => ?_) (AllReadyH.cons rfl (fun K2 hK2 => ?_) AllReadyH.nil)
      · go_simp
        refine hK2.out _ _ hSV (fun _ => ?_)
        clear hK2 K2
        try simp only [Act.put, List.setIfInBounds_toArray, List.set_cons_zero, List.set_cons_succ]
        refine wpAnyH_ready (rs := [11]) (by kernel_rfl) (by simp) ?_
        refine AllReadyH.cons rfl (fun K2 hK2 => ?_) AllReadyH.nil
        go_simp
        refine hK2.out _ _ hSa (fun _ => ?_)
        clear hK2 K2
        try simp only [Act.put, List.setIfInBounds_toArray, List.set_cons_zero, List.set_cons_succ]
        refine wpAnyH_ready (rs := [12]) (by kernel_rfl) (by simp) ?_
        refine AllReadyH.cons rfl (fun K2 hK2 => ?_) AllReadyH.nil
        refine step_append_lies _ (by rfl) _ _ _ (by rfl) B0 139 i0 _ 2 32 Tryz.underlying105 hi0 hz0 hz1 hz2 rfl (by omega) (.slice la qs.length lc) qs.length (qs.flatMap cellL) (by rfl) hNa.own ⟨V.heap.size, 0, none⟩ 1 1 (cellL ((1 + (pre.length : Int), WS), A)) (by rfl) (by rfl) (World.news_of_block (cs := #[.int .i64 (1 + (pre.length : Int)), .slice (some ⟨A, 0, none⟩) WS.length WS.length]) (t := 139) (fr := (0, 0)) (heap_alloc_new V _)) (by simp [cellL, Value.oneCell']) (by omega) (by unfold maxLen; omega) (by omega) hNa.hB0 (V.heap.size + 1) (by simp) ?_
        intro gg cap w7 hown7 hgrow7 hat7 hlt7
        obtain ⟨⟨⟨z0, z1⟩, hS7⟩, hS8, hN8, hK8⟩ := hNa.put hRB0 hRbB0 hRR hRBs hR0 hA0 hWa hown7 hgrow7
        refine hK2.out _ _ hS7 (fun hH7 => ?_)
        clear hK2 K2
        try simp only [Act.put, List.setIfInBounds_toArray]
        refine wpAnyH_takeD (i := 13) (some 29) (v := .pointer (some ⟨R, 0, none⟩)) rfl rfl (by kernel_rfl) (by kernel_rfl) (by kernel_rfl) (fun _ _ _ h => h) (Or.inl ⟨by kernel_rfl, ?hy11⟩) (by assumption) ?rest11
        case hy11 => (intro x hSx; obtain ⟨hS1, hS2⟩ := hSx; go_simp; first | done | with_reducible rfl)
        try simp only [Act.put]
        refine wpAnyH_takeD (i := 14) (some 30) (v := .pointer (some ⟨R, 0, none⟩)) rfl rfl (by kernel_rfl) (by kernel_rfl) (by kernel_rfl) (fun _ _ _ h => h) (Or.inl ⟨by kernel_rfl, ?hy12⟩) (by assumption) ?rest12
        case hy12 => (intro x hSx; obtain ⟨hS1, hS2⟩ := hSx; go_simp; first | done | with_reducible rfl)
        try simp only [Act.put]
        refine wpAnyH_ready (rs := [15]) (by kernel_rfl) (by simp) ?_
        refine AllReadyH.cons rfl (fun K2 hK2 => ?_) AllReadyH.nil
        go_simp
        refine hK2.out _ _ hS8 (fun _ => ?_)
        clear hK2 K2
        try simp only [Act.put, List.setIfInBounds_toArray, List.set_cons_zero, List.set_cons_succ]
        refine wpAnyH_done (by kernel_rfl) ?_ _
        have b0 := hN8.box.cell 0
        have b1 := hN8.rd.cell 1
        have f1 := hN8.rd.frozen 1
        have bl := hN8.box.lt
        have rl := hN8.rd.lt
        simp only [List.getElem?_toArray, List.getElem?_cons_zero, List.getElem?_cons_succ] at b0 b1
        have HN8 : Hid (NwAt B0 w (w7.setCell ⟨R, 0, none⟩ (.slice (some ⟨gg, 0, none⟩) (qs.length + 1) cap)) (R + 1) R (R + 2) pre.length (some ⟨gg, 0, none⟩) cap (qs ++ [((1 + (pre.length : Int), WS), A)])) := hN8
        have HK8 : Hid (KB B0 (R + 2) (V.alloc (.cells #[.int .i64 (1 + (pre.length : Int)), .slice (some ⟨A, 0, none⟩) WS.length WS.length] 139)) (w7.setCell ⟨R, 0, none⟩ (.slice (some ⟨gg, 0, none⟩) (qs.length + 1) cap))) := hK8
        generalize w7.setCell ⟨R, 0, none⟩ (.slice (some ⟨gg, 0, none⟩) (qs.length + 1) cap) = W8 at *
        clear hown7 hgrow7 hat7 hlt7 z0 z1 hS7 hS8 hN8 hK8 hH7
        gi_wp2
        obtain ⟨hN9, hK9⟩ := HN8.out.count hRB0 hRR hRBs hR0
        exact ⟨by rw [hB0]; exact (HKV.out.trans (HK8.out.trans hK9)).1, (HKV.out.trans (HK8.out.trans hK9)).2, _, _, _, by rw [List.length_append]; exact hN9, by rw [List.map_append, HQ.out, lnF_snoc, HWS.out]; simp [hne], by simp only [List.length_append, List.length_cons, List.length_nil]; omega⟩
      · go_simp
        refine hK2.out _ _ hSa (fun _ => ?_)
        clear hK2 K2
        try simp only [Act.put, List.setIfInBounds_toArray, List.set_cons_zero, List.set_cons_succ]
        refine wpAnyH_ready (rs := [4]) (by kernel_rfl) (by simp) ?_
        refine AllReadyH.cons rfl (fun K2 hK2 => ?_) AllReadyH.nil
        go_simp
        refine hK2.out _ _ hSa (fun _ => ?_)
        clear hK2 K2
        try simp only [Act.put, List.setIfInBounds_toArray, List.set_cons_zero, List.set_cons_succ]
        refine wpAnyH_ready (rs := [12]) (by kernel_rfl) (by simp) ?_
        refine AllReadyH.cons rfl (fun K2 hK2 => ?_) AllReadyH.nil
        refine step_append_lies _ (by rfl) _ _ _ (by rfl) B0 139 i0 _ 2 32 Tryz.underlying105 hi0 hz0 hz1 hz2 rfl (by omega) (.slice la qs.length lc) qs.length (qs.flatMap cellL) (by rfl) hNa.own ⟨V.heap.size, 0, none⟩ 1 1 (cellL ((1 + (pre.length : Int), WS), A)) (by rfl) (by rfl) (World.news_of_block (cs := #[.int .i64 (1 + (pre.length : Int)), .slice (some ⟨A, 0, none⟩) WS.length WS.length]) (t := 139) (fr := (0, 0)) (heap_alloc_new V _)) (by simp [cellL, Value.oneCell']) (by omega) (by unfold maxLen; omega) (by omega) hNa.hB0 (V.heap.size + 1) (by simp) ?_
        intro gg cap w7 hown7 hgrow7 hat7 hlt7
        obtain ⟨⟨⟨z0, z1⟩, hS7⟩, hS8, hN8, hK8⟩ := hNa.put hRB0 hRbB0 hRR hRBs hR0 hA0 hWa hown7 hgrow7
        refine hK2.out _ _ hS7 (fun hH7 => ?_)
        clear hK2 K2
        try simp only [Act.put, List.setIfInBounds_toArray]
        refine wpAnyH_takeD (i := 13) (some 29) (v := .pointer (some ⟨R, 0, none⟩)) rfl rfl (by kernel_rfl) (by kernel_rfl) (by kernel_rfl) (fun _ _ _ h => h) (Or.inl ⟨by kernel_rfl, ?hy13⟩) (by assumption) ?rest13
        case hy13 => (intro x hSx; obtain ⟨hS1, hS2⟩ := hSx; go_simp; first | done | with_reducible rfl)
        try simp only [Act.put]
        refine wpAnyH_takeD (i := 14) (some 30) (v := .pointer (some ⟨R, 0, none⟩)) rfl rfl (by kernel_rfl) (by kernel_rfl) (by kernel_rfl) (fun _ _ _ h => h) (Or.inl ⟨by kernel_rfl, ?hy14⟩) (by assumption) ?rest14
        case hy14 => (intro x hSx; obtain ⟨hS1, hS2⟩ := hSx; go_simp; first | done | with_reducible rfl)
        try simp only [Act.put]
        refine wpAnyH_ready (rs := [15]) (by kernel_rfl) (by simp) ?_
        refine AllReadyH.cons rfl (fun K2 hK2 => ?_) AllReadyH.nil
        go_simp
        refine hK2.out _ _ hS8 (fun _ => ?_)
        clear hK2 K2
        try simp only [Act.put, List.setIfInBounds_toArray, List.set_cons_zero, List.set_cons_succ]
        refine wpAnyH_done (by kernel_rfl) ?_ _
        have b0 := hN8.box.cell 0
        have b1 := hN8.rd.cell 1
        have f1 := hN8.rd.frozen 1
        have bl := hN8.box.lt
        have rl := hN8.rd.lt
        simp only [List.getElem?_toArray, List.getElem?_cons_zero, List.getElem?_cons_succ] at b0 b1
        have HN8 : Hid (NwAt B0 w (w7.setCell ⟨R, 0, none⟩ (.slice (some ⟨gg, 0, none⟩) (qs.length + 1) cap)) (R + 1) R (R + 2) pre.length (some ⟨gg, 0, none⟩) cap (qs ++ [((1 + (pre.length : Int), WS), A)])) := hN8
        have HK8 : Hid (KB B0 (R + 2) (V.alloc (.cells #[.int .i64 (1 + (pre.length : Int)), .slice (some ⟨A, 0, none⟩) WS.length WS.length] 139)) (w7.setCell ⟨R, 0, none⟩ (.slice (some ⟨gg, 0, none⟩) (qs.length + 1) cap))) := hK8
        generalize w7.setCell ⟨R, 0, none⟩ (.slice (some ⟨gg, 0, none⟩) (qs.length + 1) cap) = W8 at *
        clear hown7 hgrow7 hat7 hlt7 z0 z1 hS7 hS8 hN8 hK8 hH7
        gi_wp2
        obtain ⟨hN9, hK9⟩ := HN8.out.count hRB0 hRR hRBs hR0
        exact ⟨by rw [hB0]; exact (HKV.out.trans (HK8.out.trans hK9)).1, (HKV.out.trans (HK8.out.trans hK9)).2, _, _, _, by rw [List.length_append]; exact hN9, by rw [List.map_append, HQ.out, lnF_snoc, HWS.out]; simp [hne], by simp only [List.length_append, List.length_cons, List.length_nil]; omega⟩
end Go.Proofs.YtcbjnifoojjipaaGreatDoor
