/- What the statements' kept of sources does (contracts; nothing is claimed here). -/
import Derived.Test.YtnjfkijekohdkaaDoorKSle
import Derived.Test.YtnjfkijekohdkaaDoorKept
namespace Go.Proofs.YtnjfkijekohdkaaDoor
open Go.RowKit Go.Vf

set_option maxHeartbeats 8000000 in
set_option maxRecDepth 20000 in
theorem skept_any (l : List (Int × Prt)) (hl : l.length ≤ 4000) (hw : ∀ s ∈ l, wt s.2 ≤ 536870912) (a : Option Addr) (c n₀ h0 : Nat) (A : Nat → Option Addr) (C P : Nat → Nat) (w : World) (hn₀ : n₀ ≤ w.heap.size) (hin : SrIn w 0 n₀ a l) (hS : SofS w h0 l.length l (l.length + 2) A C P) (hM : ∀ j, l.length ≤ j → j < l.length + 2 → w.cell? ⟨h0, j * 7, none⟩ = some (.int .i64 (-99))) :
    Calls Tryd.prog 14 #[.slice (some ⟨h0, 0, none⟩) l.length (l.length + 2), .slice a l.length c] w fun e w' => e = .returned (.bool true) ∧ Below w.heap.size w w' := by
  obtain ⟨n, hn⟩ : ∃ n, l.length = n := ⟨_, rfl⟩
  have HN : Hid (l.length = n) := hn
  rw [hn] at hl hS hM ⊢
  have HIN : Hid (SrIn w 0 n₀ a l) := hin
  have HW : Hid (∀ s ∈ l, wt s.2 ≤ 536870912) := hw
  have HS : Hid (SofS w h0 n l (n + 2) A C P) := hS
  have HM : Hid (∀ j, n ≤ j → j < n + 2 → w.cell? ⟨h0, j * 7, none⟩ = some (.int .i64 (-99))) := hM
  have hh0 : h0 < w.heap.size := hS.len.lt
  have HH0 : Hid (h0 < w.heap.size) := hh0
  clear hn hin hw hS hM hh0
  go_enter Tryd.func14, Tryd.ntmps14
  go_wp2
  go_loopw [5] (fun iv wr => ∃ (j : Nat), j ≤ n ∧ iv = .int .i64 (j : Int) ∧ Hid (Below w.heap.size w wr)) (fun iv _ => n - (intOf iv).toNat)
  case atStart => exact ⟨0, Nat.zero_le _, rfl, Below.refl _ _⟩
  case round =>
    obtain ⟨j, hj, rfl, HB⟩ := hrel
    by_cases hjn : j < n
    · have hjl : j < l.length := by rw [HN.out]; exact hjn
      obtain ⟨b, off, aj, cj, ha, hbn, f0, s0, s1, s2, s3, s4, s5, hpj⟩ := HIN.out j hjl
      have hwj := HW.out _ (List.getElem_mem hjl)
      have hrow := HS.out.row j hjl hjn
      have hlin := HS.out.lin j hjl hjn
      have hPt : P (j + 1) ≤ w.heap.size := Nat.le_trans (HS.out.mono (j + 1) n hjn (Nat.le_refl _)) HS.out.top
      obtain ⟨aX, haX⟩ : ∃ aX, aX = A j := ⟨_, rfl⟩
      obtain ⟨cX, hcX⟩ : ∃ cX, cX = C j := ⟨_, rfl⟩
      rw [← haX, ← hcX] at hrow hlin
      clear haX hcX
      obtain ⟨s, hs⟩ : ∃ s, s = l[j] := ⟨_, rfl⟩
      rw [← hs] at f0 s0 s1 s2 s3 s4 s5 hpj hwj hrow hlin
      clear hs
      obtain ⟨f, q⟩ := s
      obtain ⟨r0, r1, r2, r3, r4, r5, r6⟩ := hrow
      dsimp only at f0 s0 s1 s2 s3 s4 s5 hpj hwj r0 r1 r2 r3 r4 r5 r6 hlin
      subst ha
      have hji : (j : Int) < (n : Int) := by omega
      have tl : decide ((j : Int) < (n : Int)) = true := decide_eq_true hji
      have HF : Hid (∀ x, Below w.heap.size w x → (x.cell? ⟨b, off + j * 7, none⟩ = some (.int .i64 f) ∧ x.cell? ⟨b, off + j * 7 + 1, none⟩ = some (.int .u8 q.kind) ∧ x.cell? ⟨b, off + j * 7 + 2, none⟩ = some (.bool q.yes) ∧ x.cell? ⟨b, off + j * 7 + 3, none⟩ = some (.bool q.neg) ∧ x.cell? ⟨b, off + j * 7 + 4, none⟩ = some (.string q.mag) ∧ x.cell? ⟨b, off + j * 7 + 5, none⟩ = some (.string q.raw) ∧ x.cell? ⟨b, off + j * 7 + 6, none⟩ = some (.slice aj q.items.length cj)) ∧ (x.cell? ⟨h0, j * 7, none⟩ = some (.int .i64 f) ∧ x.cell? ⟨h0, j * 7 + 1, none⟩ = some (.int .u8 q.kind) ∧ x.cell? ⟨h0, j * 7 + 2, none⟩ = some (.bool q.yes) ∧ x.cell? ⟨h0, j * 7 + 3, none⟩ = some (.bool q.neg) ∧ x.cell? ⟨h0, j * 7 + 4, none⟩ = some (.string q.mag) ∧ x.cell? ⟨h0, j * 7 + 5, none⟩ = some (.string q.raw) ∧ x.cell? ⟨h0, j * 7 + 6, none⟩ = some (.slice aX q.items.length cX))) := fun x hx =>
        have e : ∀ k, x.cell? ⟨b, k, none⟩ = w.cell? ⟨b, k, none⟩ := fun k => hx.cell (p := ⟨b, k, none⟩) (show b < w.heap.size by omega)
        have e2 : ∀ k, x.cell? ⟨h0, k, none⟩ = w.cell? ⟨h0, k, none⟩ := fun k => hx.cell (p := ⟨h0, k, none⟩) HH0.out
        ⟨⟨(e _).trans f0, (e _).trans s0, (e _).trans s1, (e _).trans s2, (e _).trans s3, (e _).trans s4, (e _).trans s5⟩, ⟨(e2 _).trans r0, (e2 _).trans r1, (e2 _).trans r2, (e2 _).trans r3, (e2 _).trans r4, (e2 _).trans r5, (e2 _).trans r6⟩⟩
      have HC : Hid (∀ x, Below w.heap.size w x → Calls Tryd.prog 35 #[.agg #[.int .u8 q.kind, .bool q.yes, .bool q.neg, .string q.mag, .string q.raw, .slice aX q.items.length cX], .agg #[.int .u8 q.kind, .bool q.yes, .bool q.neg, .string q.mag, .string q.raw, .slice aj q.items.length cj]] x fun e w' => e = .returned (.bool true) ∧ Below x.heap.size x w') := fun x hx =>
        kept_any q hwj aX aj cX cj (P j) (P (j + 1)) n₀ x (Nat.le_trans hPt hx.size) (Nat.le_trans hn₀ hx.size) (hlin.keep fun b' _ q2 => hx.block b' (by omega)) (hpj.keep hx hn₀)
      clear f0 s0 s1 s2 s3 s4 s5 hpj hbn hwj r0 r1 r2 r3 r4 r5 r6 hlin hPt
      go_upto_region 4 with fail
      refine wp_region_held_drew (S := fun x => Below w.heap.size w x) (by kernel_rfl) (HB.out.drew) (fun hHelda => ?_)
      refine wpAnyH_takeD (i := 0) (some 15) (v := ?va0) rfl rfl (by kernel_rfl) (by kernel_rfl) (by kernel_rfl) (fun _ _ _ h => h) (Or.inl ⟨by kernel_rfl, ?hya0⟩) (by assumption) ?resta0
      case hya0 => (intro x hSx; (try dsimp only at hSx); go_simp; first | done | with_reducible rfl)
      try simp only [Act.put, List.setIfInBounds_toArray, List.set_cons_zero, List.set_cons_succ]
      refine wpAnyH_takeD (i := 1) (some 16) (v := ?va1) rfl rfl (by kernel_rfl) (by kernel_rfl) (by kernel_rfl) (fun _ _ _ h => h) (Or.inl ⟨by kernel_rfl, ?hya1⟩) (by assumption) ?resta1
      case hya1 => (intro x hSx; (try dsimp only at hSx); go_simp; first | done | with_reducible rfl)
      try simp only [Act.put, List.setIfInBounds_toArray, List.set_cons_zero, List.set_cons_succ]
      refine wpAnyH_takeD (i := 2) (some 17) (v := ?va2) rfl rfl (by kernel_rfl) (by kernel_rfl) (by kernel_rfl) (fun _ _ _ h => h) (Or.inl ⟨by kernel_rfl, ?hya2⟩) (by assumption) ?resta2
      case hya2 => (intro x hSx; (try dsimp only at hSx); go_simp; first | done | with_reducible rfl)
      try simp only [Act.put, List.setIfInBounds_toArray, List.set_cons_zero, List.set_cons_succ]
      refine wpAnyH_takeD (i := 3) (some 18) (v := ?va3) rfl rfl (by kernel_rfl) (by kernel_rfl) (by kernel_rfl) (fun _ _ _ h => h) (Or.inl ⟨by kernel_rfl, ?hya3⟩) (by assumption) ?resta3
      case hya3 => (intro x hSx; (try dsimp only at hSx); go_simp; first | done | with_reducible rfl)
      try simp only [Act.put, List.setIfInBounds_toArray, List.set_cons_zero, List.set_cons_succ]
      refine wpAnyH_takeD (i := 4) (some 19) (v := ?va4) rfl rfl (by kernel_rfl) (by kernel_rfl) (by kernel_rfl) (fun _ _ _ h => h) (Or.inl ⟨by kernel_rfl, ?hya4⟩) (by assumption) ?resta4
      case hya4 => (intro x hSx; (try dsimp only at hSx); obtain ⟨⟨z0, z1, z2, z3, z4, z5, z6⟩, z7, z8, z9, z10, z11, z12, z13⟩ := HF.out x hSx; go_simp; first | done | with_reducible rfl)
      try simp only [Act.put, List.setIfInBounds_toArray, List.set_cons_zero, List.set_cons_succ]
      refine wpAnyH_takeD (i := 5) (some 20) (v := ?va5) rfl rfl (by kernel_rfl) (by kernel_rfl) (by kernel_rfl) (fun _ _ _ h => h) (Or.inl ⟨by kernel_rfl, ?hya5⟩) (by assumption) ?resta5
      case hya5 => (intro x hSx; (try dsimp only at hSx); go_simp; first | done | with_reducible rfl)
      try simp only [Act.put, List.setIfInBounds_toArray, List.set_cons_zero, List.set_cons_succ]
      refine wpAnyH_takeD (i := 6) (some 21) (v := ?va6) rfl rfl (by kernel_rfl) (by kernel_rfl) (by kernel_rfl) (fun _ _ _ h => h) (Or.inl ⟨by kernel_rfl, ?hya6⟩) (by assumption) ?resta6
      case hya6 => (intro x hSx; (try dsimp only at hSx); go_simp; first | done | with_reducible rfl)
      try simp only [Act.put, List.setIfInBounds_toArray, List.set_cons_zero, List.set_cons_succ]
      refine wpAnyH_takeD (i := 7) (some 22) (v := ?va7) rfl rfl (by kernel_rfl) (by kernel_rfl) (by kernel_rfl) (fun _ _ _ h => h) (Or.inl ⟨by kernel_rfl, ?hya7⟩) (by assumption) ?resta7
      case hya7 => (intro x hSx; (try dsimp only at hSx); go_simp; first | done | with_reducible rfl)
      try simp only [Act.put, List.setIfInBounds_toArray, List.set_cons_zero, List.set_cons_succ]
      refine wpAnyH_takeD (i := 8) (some 23) (v := ?va8) rfl rfl (by kernel_rfl) (by kernel_rfl) (by kernel_rfl) (fun _ _ _ h => h) (Or.inl ⟨by kernel_rfl, ?hya8⟩) (by assumption) ?resta8
      case hya8 => (intro x hSx; (try dsimp only at hSx); go_simp; first | done | with_reducible rfl)
      try simp only [Act.put, List.setIfInBounds_toArray, List.set_cons_zero, List.set_cons_succ]
      refine wpAnyH_takeD (i := 9) (some 24) (v := ?va9) rfl rfl (by kernel_rfl) (by kernel_rfl) (by kernel_rfl) (fun _ _ _ h => h) (Or.inl ⟨by kernel_rfl, ?hya9⟩) (by assumption) ?resta9
      case hya9 => (intro x hSx; (try dsimp only at hSx); obtain ⟨⟨z0, z1, z2, z3, z4, z5, z6⟩, z7, z8, z9, z10, z11, z12, z13⟩ := HF.out x hSx; go_simp; first | done | with_reducible rfl)
      try simp only [Act.put, List.setIfInBounds_toArray, List.set_cons_zero, List.set_cons_succ]
      refine wpAnyH_ready (rs := [10]) (by kernel_rfl) (by simp) ?_
      refine AllReadyH.cons rfl (fun K hK => ?_) AllReadyH.nil
      go_simp
      go_wp2_with (go_at_call 35; refine (HC.out _ hHelda).mono ?_; rintro e ya10 ⟨rfl, hq10⟩)
      refine hK.out _ _ (hHelda.trans (hq10.mono hHelda.size)) (fun hHelda10 => ?_)
      clear hK K
      try simp only [Act.put, List.setIfInBounds_toArray, List.set_cons_zero, List.set_cons_succ]
      refine wpAnyH_takeD (i := 11) (some 6) (v := ?va11) rfl rfl (by kernel_rfl) (by kernel_rfl) (by kernel_rfl) (fun _ _ _ h => h) (Or.inl ⟨by kernel_rfl, ?hya11⟩) (by assumption) ?resta11
      case hya11 => (intro x hSx; (try dsimp only at hSx); go_simp; first | done | with_reducible rfl)
      try simp only [Act.put, List.setIfInBounds_toArray, List.set_cons_zero, List.set_cons_succ]
      refine wpAnyH_done (by kernel_rfl) ?_ _
      have HBy : Hid (Below w.heap.size w ya10) := hHelda10
      clear hHelda hHelda10 hq10
      go_upto_region 5 with fail
      refine wp_region_held_drew (S := fun x => Below w.heap.size w x) (by kernel_rfl) (HBy.out.drew) (fun hHeldb => ?_)
      refine wpAnyH_takeD (i := 0) (some 26) (v := ?vb0) rfl rfl (by kernel_rfl) (by kernel_rfl) (by kernel_rfl) (fun _ _ _ h => h) (Or.inl ⟨by kernel_rfl, ?hyb0⟩) (by assumption) ?restb0
      case hyb0 => (intro x hSx; (try dsimp only at hSx); go_simp; first | done | with_reducible rfl)
      try simp only [Act.put, List.setIfInBounds_toArray, List.set_cons_zero, List.set_cons_succ]
      refine wpAnyH_takeD (i := 1) (some 27) (v := .bool false) rfl rfl (by kernel_rfl) (by kernel_rfl) (by kernel_rfl) (fun _ _ _ h => h) (Or.inl ⟨by kernel_rfl, ?hyb1⟩) (by assumption) ?restb1
      case hyb1 => (intro x hSx; (try dsimp only at hSx); go_simp; first | done | with_reducible rfl)
      try simp only [Act.put, List.setIfInBounds_toArray, List.set_cons_zero, List.set_cons_succ]
      refine wpAnyH_takeD (i := 2) (some 28) (v := .bool false) rfl rfl (by kernel_rfl) (by kernel_rfl) (by kernel_rfl) (fun _ _ _ h => h) (Or.inl ⟨by kernel_rfl, ?hyb2⟩) (by assumption) ?restb2
      case hyb2 => (intro x hSx; (try dsimp only at hSx); go_simp; first | done | with_reducible rfl)
      try simp only [Act.put, List.setIfInBounds_toArray, List.set_cons_zero, List.set_cons_succ]
      refine wpAnyH_takeD (i := 3) (some 29) (v := ?vb3) rfl rfl (by kernel_rfl) (by kernel_rfl) (by kernel_rfl) (fun _ _ _ h => h) (Or.inl ⟨by kernel_rfl, ?hyb3⟩) (by assumption) ?restb3
      case hyb3 => (intro x hSx; (try dsimp only at hSx); go_simp; first | done | with_reducible rfl)
      try simp only [Act.put, List.setIfInBounds_toArray, List.set_cons_zero, List.set_cons_succ]
      refine wpAnyH_takeD (i := 4) (some 30) (v := ?vb4) rfl rfl (by kernel_rfl) (by kernel_rfl) (by kernel_rfl) (fun _ _ _ h => h) (Or.inl ⟨by kernel_rfl, ?hyb4⟩) (by assumption) ?restb4
      case hyb4 => (intro x hSx; (try dsimp only at hSx); go_simp; first | done | with_reducible rfl)
      try simp only [Act.put, List.setIfInBounds_toArray, List.set_cons_zero, List.set_cons_succ]
      refine wpAnyH_takeD (i := 5) (some 31) (v := ?vb5) rfl rfl (by kernel_rfl) (by kernel_rfl) (by kernel_rfl) (fun _ _ _ h => h) (Or.inl ⟨by kernel_rfl, ?hyb5⟩) (by assumption) ?restb5
      case hyb5 => (intro x hSx; (try dsimp only at hSx); go_simp; first | done | with_reducible rfl)
      try simp only [Act.put, List.setIfInBounds_toArray, List.set_cons_zero, List.set_cons_succ]
      refine wpAnyH_takeD (i := 6) (some 32) (v := ?vb6) rfl rfl (by kernel_rfl) (by kernel_rfl) (by kernel_rfl) (fun _ _ _ h => h) (Or.inl ⟨by kernel_rfl, ?hyb6⟩) (by assumption) ?restb6
      case hyb6 => (intro x hSx; (try dsimp only at hSx); go_simp; first | done | with_reducible rfl)
      try simp only [Act.put, List.setIfInBounds_toArray, List.set_cons_zero, List.set_cons_succ]
      refine wpAnyH_takeD (i := 7) (some 33) (v := ?vb7) rfl rfl (by kernel_rfl) (by kernel_rfl) (by kernel_rfl) (fun _ _ _ h => h) (Or.inl ⟨by kernel_rfl, ?hyb7⟩) (by assumption) ?restb7
      case hyb7 => (intro x hSx; (try dsimp only at hSx); obtain ⟨⟨z0, z1, z2, z3, z4, z5, z6⟩, z7, z8, z9, z10, z11, z12, z13⟩ := HF.out x hSx; go_simp; first | done | with_reducible rfl)
      try simp only [Act.put, List.setIfInBounds_toArray, List.set_cons_zero, List.set_cons_succ]
      refine wpAnyH_takeD (i := 8) (some 34) (v := ?vb8) rfl rfl (by kernel_rfl) (by kernel_rfl) (by kernel_rfl) (fun _ _ _ h => h) (Or.inl ⟨by kernel_rfl, ?hyb8⟩) (by assumption) ?restb8
      case hyb8 => (intro x hSx; (try dsimp only at hSx); go_simp; first | done | with_reducible rfl)
      try simp only [Act.put, List.setIfInBounds_toArray, List.set_cons_zero, List.set_cons_succ]
      refine wpAnyH_takeD (i := 9) (some 35) (v := ?vb9) rfl rfl (by kernel_rfl) (by kernel_rfl) (by kernel_rfl) (fun _ _ _ h => h) (Or.inl ⟨by kernel_rfl, ?hyb9⟩) (by assumption) ?restb9
      case hyb9 => (intro x hSx; (try dsimp only at hSx); go_simp; first | done | with_reducible rfl)
      try simp only [Act.put, List.setIfInBounds_toArray, List.set_cons_zero, List.set_cons_succ]
      refine wpAnyH_takeD (i := 10) (some 36) (v := ?vb10) rfl rfl (by kernel_rfl) (by kernel_rfl) (by kernel_rfl) (fun _ _ _ h => h) (Or.inl ⟨by kernel_rfl, ?hyb10⟩) (by assumption) ?restb10
      case hyb10 => (intro x hSx; (try dsimp only at hSx); go_simp; first | done | with_reducible rfl)
      try simp only [Act.put, List.setIfInBounds_toArray, List.set_cons_zero, List.set_cons_succ]
      refine wpAnyH_takeD (i := 11) (some 37) (v := ?vb11) rfl rfl (by kernel_rfl) (by kernel_rfl) (by kernel_rfl) (fun _ _ _ h => h) (Or.inl ⟨by kernel_rfl, ?hyb11⟩) (by assumption) ?restb11
      case hyb11 => (intro x hSx; (try dsimp only at hSx); go_simp; first | done | with_reducible rfl)
      try simp only [Act.put, List.setIfInBounds_toArray, List.set_cons_zero, List.set_cons_succ]
      refine wpAnyH_takeD (i := 12) (some 38) (v := ?vb12) rfl rfl (by kernel_rfl) (by kernel_rfl) (by kernel_rfl) (fun _ _ _ h => h) (Or.inl ⟨by kernel_rfl, ?hyb12⟩) (by assumption) ?restb12
      case hyb12 => (intro x hSx; (try dsimp only at hSx); obtain ⟨⟨z0, z1, z2, z3, z4, z5, z6⟩, z7, z8, z9, z10, z11, z12, z13⟩ := HF.out x hSx; go_simp; first | done | with_reducible rfl)
      try simp only [Act.put, List.setIfInBounds_toArray, List.set_cons_zero, List.set_cons_succ]
      refine wpAnyH_takeD (i := 13) (some 39) (v := .bool false) rfl rfl (by kernel_rfl) (by kernel_rfl) (by kernel_rfl) (fun _ _ _ h => h) (Or.inl ⟨by kernel_rfl, ?hyb13⟩) (by assumption) ?restb13
      case hyb13 => (intro x hSx; (try dsimp only at hSx); go_simp; first | done | with_reducible rfl)
      try simp only [Act.put, List.setIfInBounds_toArray, List.set_cons_zero, List.set_cons_succ]
      refine wpAnyH_takeD (i := 14) (some 40) (v := .bool false) rfl rfl (by kernel_rfl) (by kernel_rfl) (by kernel_rfl) (fun _ _ _ h => h) (Or.inl ⟨by kernel_rfl, ?hyb14⟩) (by assumption) ?restb14
      case hyb14 => (intro x hSx; (try dsimp only at hSx); go_simp; first | done | with_reducible rfl)
      try simp only [Act.put, List.setIfInBounds_toArray, List.set_cons_zero, List.set_cons_succ]
      refine wpAnyH_done (by kernel_rfl) ?_ _
      have HBz : Hid (Below w.heap.size w ya10.drew) := hHeldb
      clear hHeldb HF HC
      go_wp2
      go_roundw
      case rel => exact ⟨j + 1, by omega, by go_num, HBz⟩
      case measure => simp [intOf]; omega
    · obtain rfl : j = n := by omega
      have tl : decide ((j : Int) < (j : Int)) = false := decide_eq_false (by omega)
      go_wp2
      go_loopw [8] (fun iv wz => ∃ (i : Nat), j ≤ i ∧ i ≤ j + 2 ∧ iv = .int .i64 (i : Int) ∧ wr = wz) (fun iv _ => j + 2 - (intOf iv).toNat)
      case atStart => exact ⟨j, Nat.le_refl _, by omega, rfl, rfl⟩
      case round =>
        obtain ⟨i, hi1, hi2, rfl, rfl⟩ := hrel
        by_cases hin2 : i < j + 2
        · have tl2 : (i : Int) < ((j + 2 : Nat) : Int) := by omega
          have tl3 : (i : Int) < (j : Int) + 2 := by omega
          have u0 : wr.cell? ⟨h0, i * 7, none⟩ = some (.int .i64 (-99)) := (HB.out.cell (p := ⟨h0, _, none⟩) HH0.out).trans (HM.out i hi1 hin2)
          go_wp2
          go_roundw
          case rel => exact ⟨i + 1, by omega, by omega, by go_num, trivial⟩
          case measure => simp [intOf]; omega
        · obtain rfl : i = j + 2 := by omega
          go_wp2
          go_ret
          exact ⟨rfl, HB.out⟩
end Go.Proofs.YtnjfkijekohdkaaDoor
