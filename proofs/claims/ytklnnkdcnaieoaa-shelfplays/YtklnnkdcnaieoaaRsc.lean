/- What the document's Scan does (contracts; nothing is claimed here). -/
import Derived.Test.YtklnnkdcnaieoaaRcl
namespace Go.Proofs.Ytklnnkdcnaieoaa
open Go.RowKit Go.Vf

/-- A list, or the other way round. -/
def turnP (back : Bool) (L : List Pr) : List Pr := if back then L.reverse else L
theorem turnP_len (back : Bool) (L : List Pr) : (turnP back L).length = L.length := by cases back <;> simp [turnP]
theorem tellP_turn (f t : ByteArray) (o back : Bool) (L : List Pr) : (turnP back L).filter (fun x => inSp f t o x.1) = tellP f t o back L := by
  cases back
  · rfl
  · simp [turnP, tellP, List.filter_reverse]
theorem turnP_at (back : Bool) (L : List Pr) (k : Nat) (hk : k < L.length) : (turnP back L)[k]? = some (L[if back then L.length - 1 - k else k]'(by split <;> omega)) := by
  cases back
  · simp [turnP, hk]
  · simp [turnP, hk]
/-- One more has been looked at. -/
theorem filter_more (p : Pr → Bool) (D : List Pr) (k : Nat) (x : Pr) (h : D[k]? = some x) : (D.take (k + 1)).filter p = (D.take k).filter p ++ (if p x = true then [x] else []) := by
  obtain ⟨hk, e⟩ := List.getElem?_eq_some_iff.1 h
  rw [List.take_succ_eq_append_getElem hk, List.filter_append, e]
  cases hp : p x <;> simp [hp]
set_option maxHeartbeats 8000000 in
set_option maxRecDepth 20000 in
theorem rscan_any (w : World) (C base : Nat) (v : Value) (L : List Pr) (f t : ByteArray) (o back : Bool) (h : RfAt w C base v L) (hl : L.length ≤ 4294967295) (s1 : f.size ≤ 17179869184) (s2 : t.size ≤ 17179869184) (s3 : ∀ p ∈ L, p.1.size ≤ 17179869184) :
    Calls Try.prog 30 #[.pointer (some ⟨C, 0, none⟩), .agg #[.string f, .string t, .bool o], .bool back] w fun e w' => ∃ v', e = .returned v' ∧ PRow w' w.heap.size v' (tellP f t o back L) ∧ Below w.heap.size w w' := by
  have hb1 := (Below.refl w.heap.size w).alloc (Nat.le_refl _) (.cells #[.string f, .string t, .bool o] 29)
  have HN : Hid (Blk (w.alloc (.cells #[.string f, .string t, .bool o] 29)) w.heap.size 29 #[.string f, .string t, .bool o]) := Blk.new w 29 _
  have HH : Hid (RfAt w C base v L) := h
  have HB1 : Hid (Below w.heap.size w (w.alloc (.cells #[.string f, .string t, .bool o] 29))) := hb1
  obtain ⟨av, cv, ev⟩ := h.row.shape
  obtain ⟨n, hn⟩ : ∃ n, n = L.length := ⟨_, rfl⟩
  rw [← hn] at ev
  subst ev
  have Hn : Hid (n = L.length) := hn
  have hnb : n ≤ 4294967295 := by rw [hn]; exact hl
  have HS3 : Hid (∀ p ∈ L, p.1.size ≤ 17179869184) := s3
  have HS1 : Hid (f.size ≤ 17179869184) := s1
  have HS2 : Hid (t.size ≤ 17179869184) := s2
  obtain ⟨PF, HPF⟩ : ∃ PF : Pr → Bool, Hid (PF = fun x => inSp f t o x.1) := ⟨_, rfl⟩
  obtain ⟨D, HD⟩ : ∃ D : List Pr, Hid (D = turnP back L) := ⟨_, rfl⟩
  have HF : Hid (∀ x, Below w.heap.size w x → x.cell? ⟨C, 0, none⟩ = some (.slice av n cv)) := fun x hx => (HH.out.old hx).box.c1
  clear hn hb1 h hl s1 s2 s3
  go_enter Try.func30, Try.ntmps30
  go_upto_region 1 with fail
  generalize w.alloc (.cells #[.string f, .string t, .bool o] 29) = W at *
  go_wp2
  go_loopw [7, 8] (fun out i wr => ∃ (k m : Nat) (a : Option Addr) (c : Nat), k ≤ n ∧ m ≤ k ∧ i = .int .i64 (k : Int) ∧ out = .slice a m c ∧ Hid (PRow wr w.heap.size (.slice a m c) ((D.take k).filter PF)) ∧ Hid (Below w.heap.size w wr) ∧ Hid (Blk wr w.heap.size 29 #[.string f, .string t, .bool o])) (fun _ i _ => n - (intOf i).toNat)
  case atStart => exact ⟨0, 0, none, 0, Nat.zero_le _, Nat.zero_le _, rfl, rfl, by simp only [List.take_zero, List.filter_nil]; exact World.ownsRow_nil _ _ _ _, HB1, HN⟩
  case round =>
    obtain ⟨k, m, a, c, hk, hm, rfl, rfl, HR, HBr, HNr⟩ := hrel
    have c0 := HF.out _ HBr.out
    by_cases hkn : k < n
    · have hki : (k : Int) < (n : Int) := by omega
      have hk1 : k < L.length := by rw [← Hn.out]; exact hkn
      have HDK : Hid (D[k]? = some (L[if back then L.length - 1 - k else k]'(by split <;> omega))) := by rw [HD.out]; exact turnP_at back L k hk1
      cases back with
      | false =>
        have hqn : k < n := by omega
        have hqi : (k : Int) < (n : Int) := by omega
        have hq1 : k < L.length := by rw [← Hn.out]; exact hqn
        have HDQ : Hid (D[k]? = some L[k]) := by
          show _ = _
          rw [HDK.out]
          simp only [Bool.false_eq_true, if_false]
        obtain ⟨ga, cc, _, hga, q1, pat⟩ := PRow.at (HH.out.row.old HBr.out) (by omega)
        injection q1 with q1 q2 q3
        subst q1
        have zz := pat k hq1
        have z0 := zz.1
        have z1 := zz.2
        obtain ⟨pk, hpk⟩ : ∃ pk, pk = L[k].1 := ⟨_, rfl⟩
        obtain ⟨pv, hpv⟩ : ∃ pv, pv = L[k].2 := ⟨_, rfl⟩
        have HDP : Hid (D[k]? = some (pk, pv)) := by rw [hpk, hpv]; exact HDQ.out
        rw [← hpk] at z0
        rw [← hpv] at z1
        have hks : pk.size ≤ 17179869184 := by rw [hpk]; exact HS3.out _ (List.getElem_mem hq1)
        have HC : Hid (∀ x, Below wr.heap.size wr x → Calls Try.prog 40 #[.agg #[.string f, .string t, .bool o], .string pk] x fun e w' => e = .returned (.bool (PF (pk, pv))) ∧ Below x.heap.size x w') := fun x _ => by
          rw [HPF.out]
          exact has_any f t pk o x HS1.out HS2.out hks
        obtain ⟨x0, x1, x2⟩ := HNr.out.c3
        have HG : Hid (∀ x, Below wr.heap.size wr x → x.cell? ⟨C, 0, none⟩ = some (.slice (some ⟨ga, 0, none⟩) n cv) ∧ x.cell? ⟨ga, k * 2, none⟩ = some (.string pk) ∧ x.cell? ⟨ga, k * 2 + 1, none⟩ = some (.string pv) ∧ x.cell? ⟨w.heap.size, 0, none⟩ = some (.string f) ∧ x.cell? ⟨w.heap.size, 1, none⟩ = some (.string t) ∧ x.cell? ⟨w.heap.size, 2, none⟩ = some (.bool o)) := fun x hx =>
          have hr := HNr.out.lt
          ⟨HF.out x (HBr.out.trans (hx.mono HBr.out.size)), (hx.cell (p := ⟨ga, _, none⟩) hga).trans z0, (hx.cell (p := ⟨ga, _, none⟩) hga).trans z1, (hx.cell (p := ⟨w.heap.size, 0, none⟩) hr).trans x0, (hx.cell (p := ⟨w.heap.size, 1, none⟩) hr).trans x1, (hx.cell (p := ⟨w.heap.size, 2, none⟩) hr).trans x2⟩
        obtain ⟨bb, HBB⟩ : ∃ bb, Hid (bb = PF (pk, pv)) := ⟨_, rfl⟩
        rw [← HBB.out] at HC
        clear zz pat q2 q3 hpk hpv HDQ HDK x0 x1 x2 z0 z1 
        go_upto_region 8 with fail
        clear c0
        go_upto_region 8 with fail
        refine wp_region_held_drew (S := fun x => Below wr.heap.size wr x) (by kernel_rfl) ((Below.refl _ _).drew) (fun hHelda => ?_)
        refine wpAnyH_takeD (i := 0) (some 30) (v := ?va0) rfl rfl (by kernel_rfl) (by kernel_rfl) (by kernel_rfl) (fun _ _ _ h => h) (Or.inl ⟨by kernel_rfl, ?hya0⟩) (by assumption) ?resta0
        case hya0 => (intro x hSx; (try dsimp only at hSx); obtain ⟨u0, u1, u2, u3, u4, u5⟩ := HG.out x hSx; go_simp; first | done | with_reducible rfl)
        try simp only [Act.put, List.setIfInBounds_toArray, List.set_cons_zero, List.set_cons_succ]
        refine wpAnyH_takeD (i := 1) (some 31) (v := ?va1) rfl rfl (by kernel_rfl) (by kernel_rfl) (by kernel_rfl) (fun _ _ _ h => h) (Or.inl ⟨by kernel_rfl, ?hya1⟩) (by assumption) ?resta1
        case hya1 => (intro x hSx; (try dsimp only at hSx); go_simp; first | done | with_reducible rfl)
        try simp only [Act.put, List.setIfInBounds_toArray, List.set_cons_zero, List.set_cons_succ]
        refine wpAnyH_takeD (i := 2) (some 32) (v := ?va2) rfl rfl (by kernel_rfl) (by kernel_rfl) (by kernel_rfl) (fun _ _ _ h => h) (Or.inl ⟨by kernel_rfl, ?hya2⟩) (by assumption) ?resta2
        case hya2 => (intro x hSx; (try dsimp only at hSx); go_simp; first | done | with_reducible rfl)
        try simp only [Act.put, List.setIfInBounds_toArray, List.set_cons_zero, List.set_cons_succ]
        refine wpAnyH_takeD (i := 3) (some 33) (v := ?va3) rfl rfl (by kernel_rfl) (by kernel_rfl) (by kernel_rfl) (fun _ _ _ h => h) (Or.inl ⟨by kernel_rfl, ?hya3⟩) (by assumption) ?resta3
        case hya3 => (intro x hSx; (try dsimp only at hSx); go_simp; first | done | with_reducible rfl)
        try simp only [Act.put, List.setIfInBounds_toArray, List.set_cons_zero, List.set_cons_succ]
        refine wpAnyH_takeD (i := 4) (some 34) (v := ?va4) rfl rfl (by kernel_rfl) (by kernel_rfl) (by kernel_rfl) (fun _ _ _ h => h) (Or.inl ⟨by kernel_rfl, ?hya4⟩) (by assumption) ?resta4
        case hya4 => (intro x hSx; (try dsimp only at hSx); obtain ⟨u0, u1, u2, u3, u4, u5⟩ := HG.out x hSx; go_simp; first | done | with_reducible rfl)
        try simp only [Act.put, List.setIfInBounds_toArray, List.set_cons_zero, List.set_cons_succ]
        refine wpAnyH_takeD (i := 5) (some 35) (v := ?va5) rfl rfl (by kernel_rfl) (by kernel_rfl) (by kernel_rfl) (fun _ _ _ h => h) (Or.inl ⟨by kernel_rfl, ?hya5⟩) (by assumption) ?resta5
        case hya5 => (intro x hSx; (try dsimp only at hSx); go_simp; first | done | with_reducible rfl)
        try simp only [Act.put, List.setIfInBounds_toArray, List.set_cons_zero, List.set_cons_succ]
        refine wpAnyH_takeD (i := 6) (some 36) (v := ?va6) rfl rfl (by kernel_rfl) (by kernel_rfl) (by kernel_rfl) (fun _ _ _ h => h) (Or.inl ⟨by kernel_rfl, ?hya6⟩) (by assumption) ?resta6
        case hya6 => (intro x hSx; (try dsimp only at hSx); go_simp; first | done | with_reducible rfl)
        try simp only [Act.put, List.setIfInBounds_toArray, List.set_cons_zero, List.set_cons_succ]
        refine wpAnyH_takeD (i := 7) (some 37) (v := ?va7) rfl rfl (by kernel_rfl) (by kernel_rfl) (by kernel_rfl) (fun _ _ _ h => h) (Or.inl ⟨by kernel_rfl, ?hya7⟩) (by assumption) ?resta7
        case hya7 => (intro x hSx; (try dsimp only at hSx); go_simp; first | done | with_reducible rfl)
        try simp only [Act.put, List.setIfInBounds_toArray, List.set_cons_zero, List.set_cons_succ]
        refine wpAnyH_takeD (i := 8) (some 38) (v := ?va8) rfl rfl (by kernel_rfl) (by kernel_rfl) (by kernel_rfl) (fun _ _ _ h => h) (Or.inl ⟨by kernel_rfl, ?hya8⟩) (by assumption) ?resta8
        case hya8 => (intro x hSx; (try dsimp only at hSx); obtain ⟨u0, u1, u2, u3, u4, u5⟩ := HG.out x hSx; go_simp; first | done | with_reducible rfl)
        try simp only [Act.put, List.setIfInBounds_toArray, List.set_cons_zero, List.set_cons_succ]
        refine wpAnyH_ready (rs := [9]) (by kernel_rfl) (by simp) ?_
        refine AllReadyH.cons rfl (fun K hK => ?_) AllReadyH.nil
        go_simp
        go_wp2_with (go_at_call 40; refine (HC.out _ hHelda).mono ?_; rintro e ya9 ⟨rfl, hq9⟩)
        refine hK.out _ _ (hHelda.trans (hq9.mono hHelda.size)) (fun hHelda9 => ?_)
        clear hK K
        try simp only [Act.put, List.setIfInBounds_toArray, List.set_cons_zero, List.set_cons_succ]
        refine wpAnyH_takeD (i := 10) (some 10) (v := ?va10) rfl rfl (by kernel_rfl) (by kernel_rfl) (by kernel_rfl) (fun _ _ _ h => h) (Or.inl ⟨by kernel_rfl, ?hya10⟩) (by assumption) ?resta10
        case hya10 => (intro x hSx; (try dsimp only at hSx); go_simp; first | done | with_reducible rfl)
        try simp only [Act.put, List.setIfInBounds_toArray, List.set_cons_zero, List.set_cons_succ]
        refine wpAnyH_done (by kernel_rfl) ?_ _
        have HY : Hid (Below wr.heap.size wr ya9) := hHelda9
        have HBy : Hid (Below w.heap.size w ya9) := HBr.out.trans (hHelda9.mono HBr.out.size)
        obtain ⟨u0, u1, u2, u3, u4, u5⟩ := HG.out ya9 hHelda9
        clear hHelda hHelda9 hq9 HG HC
        have HRy : Hid (PRow ya9 w.heap.size (.slice a m c) ((D.take k).filter PF)) := HR.out.old HY.out
        have HNy : Hid (Blk ya9 w.heap.size 29 #[.string f, .string t, .bool o]) := HNr.out.old HY.out
        have HM := filter_more PF D k (pk, pv) HDP.out
        rw [← HBB.out] at HM
        have HML : Hid (((D.take k).filter PF).length = m) := by
          obtain ⟨a1, c1, e1⟩ := HRy.out.shape
          injection e1 with _ e1 _
          exact e1.symm
        cases bb with
        | false =>
          have HM2 : Hid ((D.take (k + 1)).filter PF = (D.take k).filter PF) := by rw [HM]; simp [Hid]
          clear HM
          go_wp2
          go_roundw
          case rel => exact ⟨k + 1, m, a, c, by omega, by omega, by go_num, rfl, by rw [HM2.out]; exact HRy, HBy, HNy⟩
          case measure => simp [intOf]; omega
        | true =>
          have HM2 : Hid ((D.take (k + 1)).filter PF = (D.take k).filter PF ++ [(pk, pv)]) := by rw [HM]; simp [Hid]
          clear HM
          have ba := (Below.refl ya9.heap.size ya9).alloc (Nat.le_refl _) (.cells #[.string pk, .string pv] 45)
          obtain ⟨vb, wb, r2, p2, g2⟩ := append_cut (HRy.out.old ba) cut_one (by rw [HML.out]; simp only [List.length_cons, List.length_nil]; omega) (Nat.le_trans HBy.out.size ba.size)
          have HR2 : Hid ((Builtin.append_ #[39, 39] 39 #[.slice a m c, .slice (some ⟨ya9.heap.size, 0, none⟩) 1 1]).run Try.prog (ya9.alloc (.cells #[.string pk, .string pv] 45)) = .ok vb wb) := r2
          have HBb : Hid (Below w.heap.size w wb) := (HBy.out.trans (ba.mono HBy.out.size)).trans (below_grown g2 (fun g e => ((HRy.out.old ba).own e).1) (Nat.le_trans HBy.out.size ba.size))
          have HNb : Hid (Blk wb w.heap.size 29 #[.string f, .string t, .bool o]) := (g2.block _ (HNy.out.old ba).lt (fun e => (HRy.out.old ba).notbox (HNy.out.old ba) (by decide) e.symm)).trans (HNy.out.old ba)
          rw [← HM2.out] at p2
          have HPb : Hid (PRow wb w.heap.size vb ((D.take (k + 1)).filter PF)) := p2
          obtain ⟨ab, cb, eb⟩ := p2.shape
          have hlb : ((D.take (k + 1)).filter PF).length = m + 1 := by rw [HM2.out, List.length_append, HML.out]; rfl
          rw [hlb] at eb
          subst eb
          clear r2 p2 g2 ba hlb
          go_wp2_with (at_builtin; refine wpList_append_want _ _ rfl rfl (by rfl) rfl rfl HR2.out ?_)
          go_roundw
          case rel => exact ⟨k + 1, m + 1, ab, cb, by omega, by omega, by go_num, rfl, HPb, HBb, HNb⟩
          case measure => simp [intOf]; omega
      | true =>
        obtain ⟨q, hq⟩ : ∃ q : Nat, q = n - 1 - k := ⟨_, rfl⟩
        have hqn : q < n := by omega
        have hqi : (q : Int) < (n : Int) := by omega
        have hqe : (n : Int) - 1 - (k : Int) = (q : Int) := by omega
        have hq1 : q < L.length := by rw [← Hn.out]; exact hqn
        have HDQ : Hid (D[k]? = some L[q]) := by
          show _ = _
          rw [HDK.out]
          simp only [if_true, hq, Hn.out]
        obtain ⟨ga, cc, _, hga, q1, pat⟩ := PRow.at (HH.out.row.old HBr.out) (by omega)
        injection q1 with q1 q2 q3
        subst q1
        have zz := pat q hq1
        have z0 := zz.1
        have z1 := zz.2
        obtain ⟨pk, hpk⟩ : ∃ pk, pk = L[q].1 := ⟨_, rfl⟩
        obtain ⟨pv, hpv⟩ : ∃ pv, pv = L[q].2 := ⟨_, rfl⟩
        have HDP : Hid (D[k]? = some (pk, pv)) := by rw [hpk, hpv]; exact HDQ.out
        rw [← hpk] at z0
        rw [← hpv] at z1
        have hks : pk.size ≤ 17179869184 := by rw [hpk]; exact HS3.out _ (List.getElem_mem hq1)
        have HC : Hid (∀ x, Below wr.heap.size wr x → Calls Try.prog 40 #[.agg #[.string f, .string t, .bool o], .string pk] x fun e w' => e = .returned (.bool (PF (pk, pv))) ∧ Below x.heap.size x w') := fun x _ => by
          rw [HPF.out]
          exact has_any f t pk o x HS1.out HS2.out hks
        obtain ⟨x0, x1, x2⟩ := HNr.out.c3
        have HG : Hid (∀ x, Below wr.heap.size wr x → x.cell? ⟨C, 0, none⟩ = some (.slice (some ⟨ga, 0, none⟩) n cv) ∧ x.cell? ⟨ga, q * 2, none⟩ = some (.string pk) ∧ x.cell? ⟨ga, q * 2 + 1, none⟩ = some (.string pv) ∧ x.cell? ⟨w.heap.size, 0, none⟩ = some (.string f) ∧ x.cell? ⟨w.heap.size, 1, none⟩ = some (.string t) ∧ x.cell? ⟨w.heap.size, 2, none⟩ = some (.bool o)) := fun x hx =>
          have hr := HNr.out.lt
          ⟨HF.out x (HBr.out.trans (hx.mono HBr.out.size)), (hx.cell (p := ⟨ga, _, none⟩) hga).trans z0, (hx.cell (p := ⟨ga, _, none⟩) hga).trans z1, (hx.cell (p := ⟨w.heap.size, 0, none⟩) hr).trans x0, (hx.cell (p := ⟨w.heap.size, 1, none⟩) hr).trans x1, (hx.cell (p := ⟨w.heap.size, 2, none⟩) hr).trans x2⟩
        obtain ⟨bb, HBB⟩ : ∃ bb, Hid (bb = PF (pk, pv)) := ⟨_, rfl⟩
        rw [← HBB.out] at HC
        clear zz pat q2 q3 hpk hpv HDQ HDK x0 x1 x2 z0 z1 hq 
        go_upto_region 8 with fail
        clear c0
        go_upto_region 8 with fail
        refine wp_region_held_drew (S := fun x => Below wr.heap.size wr x) (by kernel_rfl) ((Below.refl _ _).drew) (fun hHeldb => ?_)
        refine wpAnyH_takeD (i := 0) (some 30) (v := ?vb0) rfl rfl (by kernel_rfl) (by kernel_rfl) (by kernel_rfl) (fun _ _ _ h => h) (Or.inl ⟨by kernel_rfl, ?hyb0⟩) (by assumption) ?restb0
        case hyb0 => (intro x hSx; (try dsimp only at hSx); obtain ⟨u0, u1, u2, u3, u4, u5⟩ := HG.out x hSx; go_simp; first | done | with_reducible rfl)
        try simp only [Act.put, List.setIfInBounds_toArray, List.set_cons_zero, List.set_cons_succ]
        refine wpAnyH_takeD (i := 1) (some 31) (v := ?vb1) rfl rfl (by kernel_rfl) (by kernel_rfl) (by kernel_rfl) (fun _ _ _ h => h) (Or.inl ⟨by kernel_rfl, ?hyb1⟩) (by assumption) ?restb1
        case hyb1 => (intro x hSx; (try dsimp only at hSx); go_simp; first | done | with_reducible rfl)
        try simp only [Act.put, List.setIfInBounds_toArray, List.set_cons_zero, List.set_cons_succ]
        refine wpAnyH_takeD (i := 2) (some 32) (v := ?vb2) rfl rfl (by kernel_rfl) (by kernel_rfl) (by kernel_rfl) (fun _ _ _ h => h) (Or.inl ⟨by kernel_rfl, ?hyb2⟩) (by assumption) ?restb2
        case hyb2 => (intro x hSx; (try dsimp only at hSx); go_simp; first | done | with_reducible rfl)
        try simp only [Act.put, List.setIfInBounds_toArray, List.set_cons_zero, List.set_cons_succ]
        refine wpAnyH_takeD (i := 3) (some 33) (v := ?vb3) rfl rfl (by kernel_rfl) (by kernel_rfl) (by kernel_rfl) (fun _ _ _ h => h) (Or.inl ⟨by kernel_rfl, ?hyb3⟩) (by assumption) ?restb3
        case hyb3 => (intro x hSx; (try dsimp only at hSx); go_simp; first | done | with_reducible rfl)
        try simp only [Act.put, List.setIfInBounds_toArray, List.set_cons_zero, List.set_cons_succ]
        refine wpAnyH_takeD (i := 4) (some 34) (v := ?vb4) rfl rfl (by kernel_rfl) (by kernel_rfl) (by kernel_rfl) (fun _ _ _ h => h) (Or.inl ⟨by kernel_rfl, ?hyb4⟩) (by assumption) ?restb4
        case hyb4 => (intro x hSx; (try dsimp only at hSx); obtain ⟨u0, u1, u2, u3, u4, u5⟩ := HG.out x hSx; go_simp; first | done | with_reducible rfl)
        try simp only [Act.put, List.setIfInBounds_toArray, List.set_cons_zero, List.set_cons_succ]
        refine wpAnyH_takeD (i := 5) (some 35) (v := ?vb5) rfl rfl (by kernel_rfl) (by kernel_rfl) (by kernel_rfl) (fun _ _ _ h => h) (Or.inl ⟨by kernel_rfl, ?hyb5⟩) (by assumption) ?restb5
        case hyb5 => (intro x hSx; (try dsimp only at hSx); go_simp; first | done | with_reducible rfl)
        try simp only [Act.put, List.setIfInBounds_toArray, List.set_cons_zero, List.set_cons_succ]
        refine wpAnyH_takeD (i := 6) (some 36) (v := ?vb6) rfl rfl (by kernel_rfl) (by kernel_rfl) (by kernel_rfl) (fun _ _ _ h => h) (Or.inl ⟨by kernel_rfl, ?hyb6⟩) (by assumption) ?restb6
        case hyb6 => (intro x hSx; (try dsimp only at hSx); go_simp; first | done | with_reducible rfl)
        try simp only [Act.put, List.setIfInBounds_toArray, List.set_cons_zero, List.set_cons_succ]
        refine wpAnyH_takeD (i := 7) (some 37) (v := ?vb7) rfl rfl (by kernel_rfl) (by kernel_rfl) (by kernel_rfl) (fun _ _ _ h => h) (Or.inl ⟨by kernel_rfl, ?hyb7⟩) (by assumption) ?restb7
        case hyb7 => (intro x hSx; (try dsimp only at hSx); go_simp; first | done | with_reducible rfl)
        try simp only [Act.put, List.setIfInBounds_toArray, List.set_cons_zero, List.set_cons_succ]
        refine wpAnyH_takeD (i := 8) (some 38) (v := ?vb8) rfl rfl (by kernel_rfl) (by kernel_rfl) (by kernel_rfl) (fun _ _ _ h => h) (Or.inl ⟨by kernel_rfl, ?hyb8⟩) (by assumption) ?restb8
        case hyb8 => (intro x hSx; (try dsimp only at hSx); obtain ⟨u0, u1, u2, u3, u4, u5⟩ := HG.out x hSx; go_simp; first | done | with_reducible rfl)
        try simp only [Act.put, List.setIfInBounds_toArray, List.set_cons_zero, List.set_cons_succ]
        refine wpAnyH_ready (rs := [9]) (by kernel_rfl) (by simp) ?_
        refine AllReadyH.cons rfl (fun K hK => ?_) AllReadyH.nil
        go_simp
        go_wp2_with (go_at_call 40; refine (HC.out _ hHeldb).mono ?_; rintro e yb9 ⟨rfl, hq9⟩)
        refine hK.out _ _ (hHeldb.trans (hq9.mono hHeldb.size)) (fun hHeldb9 => ?_)
        clear hK K
        try simp only [Act.put, List.setIfInBounds_toArray, List.set_cons_zero, List.set_cons_succ]
        refine wpAnyH_takeD (i := 10) (some 10) (v := ?vb10) rfl rfl (by kernel_rfl) (by kernel_rfl) (by kernel_rfl) (fun _ _ _ h => h) (Or.inl ⟨by kernel_rfl, ?hyb10⟩) (by assumption) ?restb10
        case hyb10 => (intro x hSx; (try dsimp only at hSx); go_simp; first | done | with_reducible rfl)
        try simp only [Act.put, List.setIfInBounds_toArray, List.set_cons_zero, List.set_cons_succ]
        refine wpAnyH_done (by kernel_rfl) ?_ _
        have HY : Hid (Below wr.heap.size wr yb9) := hHeldb9
        have HBy : Hid (Below w.heap.size w yb9) := HBr.out.trans (hHeldb9.mono HBr.out.size)
        obtain ⟨u0, u1, u2, u3, u4, u5⟩ := HG.out yb9 hHeldb9
        clear hHeldb hHeldb9 hq9 HG HC
        have HRy : Hid (PRow yb9 w.heap.size (.slice a m c) ((D.take k).filter PF)) := HR.out.old HY.out
        have HNy : Hid (Blk yb9 w.heap.size 29 #[.string f, .string t, .bool o]) := HNr.out.old HY.out
        have HM := filter_more PF D k (pk, pv) HDP.out
        rw [← HBB.out] at HM
        have HML : Hid (((D.take k).filter PF).length = m) := by
          obtain ⟨a1, c1, e1⟩ := HRy.out.shape
          injection e1 with _ e1 _
          exact e1.symm
        cases bb with
        | false =>
          have HM2 : Hid ((D.take (k + 1)).filter PF = (D.take k).filter PF) := by rw [HM]; simp [Hid]
          clear HM
          go_wp2
          go_roundw
          case rel => exact ⟨k + 1, m, a, c, by omega, by omega, by go_num, rfl, by rw [HM2.out]; exact HRy, HBy, HNy⟩
          case measure => simp [intOf]; omega
        | true =>
          have HM2 : Hid ((D.take (k + 1)).filter PF = (D.take k).filter PF ++ [(pk, pv)]) := by rw [HM]; simp [Hid]
          clear HM
          have ba := (Below.refl yb9.heap.size yb9).alloc (Nat.le_refl _) (.cells #[.string pk, .string pv] 45)
          obtain ⟨vb, wb, r2, p2, g2⟩ := append_cut (HRy.out.old ba) cut_one (by rw [HML.out]; simp only [List.length_cons, List.length_nil]; omega) (Nat.le_trans HBy.out.size ba.size)
          have HR2 : Hid ((Builtin.append_ #[39, 39] 39 #[.slice a m c, .slice (some ⟨yb9.heap.size, 0, none⟩) 1 1]).run Try.prog (yb9.alloc (.cells #[.string pk, .string pv] 45)) = .ok vb wb) := r2
          have HBb : Hid (Below w.heap.size w wb) := (HBy.out.trans (ba.mono HBy.out.size)).trans (below_grown g2 (fun g e => ((HRy.out.old ba).own e).1) (Nat.le_trans HBy.out.size ba.size))
          have HNb : Hid (Blk wb w.heap.size 29 #[.string f, .string t, .bool o]) := (g2.block _ (HNy.out.old ba).lt (fun e => (HRy.out.old ba).notbox (HNy.out.old ba) (by decide) e.symm)).trans (HNy.out.old ba)
          rw [← HM2.out] at p2
          have HPb : Hid (PRow wb w.heap.size vb ((D.take (k + 1)).filter PF)) := p2
          obtain ⟨ab, cb, eb⟩ := p2.shape
          have hlb : ((D.take (k + 1)).filter PF).length = m + 1 := by rw [HM2.out, List.length_append, HML.out]; rfl
          rw [hlb] at eb
          subst eb
          clear r2 p2 g2 ba hlb
          go_wp2_with (at_builtin; refine wpList_append_want _ _ rfl rfl (by rfl) rfl rfl HR2.out ?_)
          go_roundw
          case rel => exact ⟨k + 1, m + 1, ab, cb, by omega, by omega, by go_num, rfl, HPb, HBb, HNb⟩
          case measure => simp [intOf]; omega
    · obtain rfl : k = n := by omega
      have HT : Hid ((D.take k).filter PF = tellP f t o back L) := by
        show _ = _
        rw [Hn.out, ← turnP_len back L, ← HD.out, List.take_length, HD.out, HPF.out, tellP_turn]
      go_wp2
      go_ret
      exact ⟨_, rfl, by rw [← HT.out]; exact HR.out, HBr.out⟩
end Go.Proofs.Ytklnnkdcnaieoaa
