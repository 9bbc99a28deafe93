/- What the statements' lent of sources does (contracts; nothing is claimed here). -/
import Derived.Test.YtnjfkijekohdkaaDoorKSlt
import Derived.Test.YtnjfkijekohdkaaDoorKSrA
import Derived.Test.YtnjfkijekohdkaaDoorJ1
namespace Go.Proofs.YtnjfkijekohdkaaDoor
open Go.RowKit Go.Vf

theorem run_make23c (n c : Nat) (hc : n ≤ c) (hn : c ≤ 1099511627776) (w : World) : (Instr.makeSlice 23 (.int .i64 (n : Int)) (.int .i64 (c : Int))).run Tryd.prog w = .ok (.slice (some ⟨w.heap.size, 0, none⟩) n c) (w.alloc (.cells (madeCells #[.int .i64 0, .int .u8 0, .bool false, .bool false, .string ⟨#[]⟩, .string ⟨#[]⟩, .slice none 0 0] (c * 7)) 52)) := by
  obtain ⟨i, hi, hzz⟩ := Option.map_eq_some_iff.1 info52
  simp only [Prod.mk.injEq] at hzz
  obtain ⟨hz, hs, hb⟩ := hzz
  have := run_make (P := Tryd.prog) w 23 52 i _ Tryd.underlying23 hi hz .i64 .i64 (n : Int) (c : Int) (by omega) (by omega) (by rw [hb]; omega) (by omega)
  rw [hs] at this
  simpa [Value.cells] using this
/-- What lent answers. -/
def SltPost (l : List (Int × Prt)) (w : World) (e : Ending) (w' : World) : Prop := ∃ A C P, e = .returned (.slice (some ⟨w.heap.size, 0, none⟩) l.length (l.length + 2)) ∧ SofS w' w.heap.size l.length l (l.length + 2) A C P ∧ (∀ j, l.length ≤ j → j < l.length + 2 → w'.cell? ⟨w.heap.size, j * 7, none⟩ = some (.int .i64 (-99))) ∧ Below w.heap.size w w'
set_option maxHeartbeats 8000000 in
set_option maxRecDepth 20000 in
theorem slent_any (l : List (Int × Prt)) (hl : l.length ≤ 4000) (hw : ∀ s ∈ l, wt s.2 ≤ 536870912) (a : Option Addr) (c n₀ : Nat) (w : World) (hn₀ : n₀ ≤ w.heap.size) (hin : SrIn w 0 n₀ a l) : Calls Tryd.prog 10 #[.slice a l.length c] w (SltPost l w) := by
  obtain ⟨n, hn⟩ : ∃ n, l.length = n := ⟨_, rfl⟩
  have HN : Hid (l.length = n) := hn
  have HPost : Hid (∀ e w', (∃ A C P, e = .returned (.slice (some ⟨w.heap.size, 0, none⟩) n (n + 2)) ∧ SofS w' w.heap.size n l (n + 2) A C P ∧ (∀ j, n ≤ j → j < n + 2 → w'.cell? ⟨w.heap.size, j * 7, none⟩ = some (.int .i64 (-99))) ∧ Below w.heap.size w w') → SltPost l w e w') := fun e w' h => by unfold SltPost; rw [hn]; exact h
  refine Calls.mono ?_ HPost.out
  rw [hn] at hl ⊢
  have HIN : Hid (∀ x, Below w.heap.size w x → SrIn x 0 n₀ a l) := fun x hx => hin.keep hx hn₀
  have HW : Hid (∀ s ∈ l, wt s.2 ≤ 536870912) := hw
  have hmk : (Instr.makeSlice 23 (.int .i64 (n : Int)) (.int .i64 ((n : Int) + 2))).run Tryd.prog w = .ok (.slice (some ⟨w.heap.size, 0, none⟩) n (n + 2)) (w.alloc (.cells (madeCells #[.int .i64 0, .int .u8 0, .bool false, .bool false, .string ⟨#[]⟩, .string ⟨#[]⟩, .slice none 0 0] ((n + 2) * 7)) 52)) := run_make23c n (n + 2) (by omega) (by omega) w
  have b1 := (Below.refl w.heap.size w).alloc (Nat.le_refl _) (.cells (madeCells #[.int .i64 0, .int .u8 0, .bool false, .bool false, .string ⟨#[]⟩, .string ⟨#[]⟩, .slice none 0 0] ((n + 2) * 7)) 52)
  have B1 := Blk.new w 52 (madeCells #[.int .i64 0, .int .u8 0, .bool false, .bool false, .string ⟨#[]⟩, .string ⟨#[]⟩, .slice none 0 0] ((n + 2) * 7))
  have HS0 : Hid (SofS (w.alloc (.cells (madeCells #[.int .i64 0, .int .u8 0, .bool false, .bool false, .string ⟨#[]⟩, .string ⟨#[]⟩, .slice none 0 0] ((n + 2) * 7)) 52)) w.heap.size 0 l (n + 2) (fun _ => none) (fun _ => 0) (fun _ => w.heap.size + 1)) :=
    ⟨⟨_, B1, made_size _ _⟩, Nat.lt_succ_self _, fun _ _ _ _ => Nat.le_refl _, by rw [alloc_size]; exact Nat.le_refl _, fun i hi h => absurd h (by omega), fun i hi h => absurd h (by omega)⟩
  have HB0 : Hid (Below w.heap.size w (w.alloc (.cells (madeCells #[.int .i64 0, .int .u8 0, .bool false, .bool false, .string ⟨#[]⟩, .string ⟨#[]⟩, .slice none 0 0] ((n + 2) * 7)) 52))) := b1
  clear hn hin hw B1 b1
  go_enter Tryd.func10, Tryd.ntmps10
  go_upto_region 2 with fail
  generalize w.alloc (.cells (madeCells #[.int .i64 0, .int .u8 0, .bool false, .bool false, .string ⟨#[]⟩, .string ⟨#[]⟩, .slice none 0 0] ((n + 2) * 7)) 52) = W at *
  clear hmk
  go_wp2
  go_loopw [4] (fun iv wr => ∃ (j : Nat) (A : Nat → Option Addr) (C P : Nat → Nat), j ≤ n ∧ iv = .int .i64 (j : Int) ∧ Hid (SofS wr w.heap.size j l (n + 2) A C P) ∧ Hid (Below w.heap.size w wr)) (fun iv _ => n - (intOf iv).toNat)
  case atStart => exact ⟨0, _, _, _, Nat.zero_le _, rfl, HS0, HB0⟩
  case round =>
    clear HS0 HB0
    obtain ⟨j, A, C, P, hj, rfl, HS, HB⟩ := hrel
    by_cases hjn : j < n
    · have hjl : j < l.length := by rw [HN.out]; exact hjn
      obtain ⟨b, off, aj, cj, ha, hbn, f0, s0, s1, s2, s3, s4, s5, hpj⟩ := HIN.out wr HB.out j hjl
      have hwj := HW.out _ (List.getElem_mem hjl)
      obtain ⟨s, hs⟩ : ∃ s, s = l[j] := ⟨_, rfl⟩
      have HSJ : Hid (∀ h : j < l.length, l[j] = s) := fun _ => hs.symm
      rw [← hs] at f0 s0 s1 s2 s3 s4 s5 hpj hwj
      clear hs
      obtain ⟨f, q⟩ := s
      dsimp only at f0 s0 s1 s2 s3 s4 s5 hpj hwj
      subst ha
      have hji : (j : Int) < (n : Int) := by omega
      have hji2 : (j : Int) < (n : Int) + 2 := by omega
      have tl : decide ((j : Int) < (n : Int)) = true := decide_eq_true hji
      have HF : Hid (∀ x, Below w.heap.size w x → x.cell? ⟨b, off + j * 7, none⟩ = some (.int .i64 f) ∧ x.cell? ⟨b, off + j * 7 + 1, none⟩ = some (.int .u8 q.kind) ∧ x.cell? ⟨b, off + j * 7 + 2, none⟩ = some (.bool q.yes) ∧ x.cell? ⟨b, off + j * 7 + 3, none⟩ = some (.bool q.neg) ∧ x.cell? ⟨b, off + j * 7 + 4, none⟩ = some (.string q.mag) ∧ x.cell? ⟨b, off + j * 7 + 5, none⟩ = some (.string q.raw) ∧ x.cell? ⟨b, off + j * 7 + 6, none⟩ = some (.slice aj q.items.length cj)) := fun x hx =>
        have e : ∀ k, x.cell? ⟨b, k, none⟩ = wr.cell? ⟨b, k, none⟩ := fun k => (hx.cell (p := ⟨b, k, none⟩) (show b < w.heap.size by omega)).trans (HB.out.cell (p := ⟨b, k, none⟩) (show b < w.heap.size by omega)).symm
        ⟨(e _).trans f0, (e _).trans s0, (e _).trans s1, (e _).trans s2, (e _).trans s3, (e _).trans s4, (e _).trans s5⟩
      have hdr : Below wr.heap.size wr wr.drew := (Below.refl _ _).drew
      have HCl := lent_any q hwj aj cj n₀ wr.drew (Nat.le_trans hn₀ HB.out.size) (hpj.keep hdr (Nat.le_trans hn₀ HB.out.size))
      unfold pV at HCl
      clear f0 s0 s1 s2 s3 s4 s5 hpj hdr hbn hwj
      go_upto_region 5 with fail
      refine wp_region_held_drew (S := fun x => Below w.heap.size w x) (by kernel_rfl) (HB.out.drew) (fun hHelda => ?_)
      refine wpAnyH_takeD (i := 0) (some 19) (v := ?va0) rfl rfl (by kernel_rfl) (by kernel_rfl) (by kernel_rfl) (fun _ _ _ h => h) (Or.inl ⟨by kernel_rfl, ?hya0⟩) (by assumption) ?resta0
      case hya0 => (intro x hSx; (try dsimp only at hSx); go_simp; first | done | with_reducible rfl)
      try simp only [Act.put, List.setIfInBounds_toArray, List.set_cons_zero, List.set_cons_succ]
      refine wpAnyH_takeD (i := 1) (some 20) (v := ?va1) rfl rfl (by kernel_rfl) (by kernel_rfl) (by kernel_rfl) (fun _ _ _ h => h) (Or.inl ⟨by kernel_rfl, ?hya1⟩) (by assumption) ?resta1
      case hya1 => (intro x hSx; (try dsimp only at hSx); go_simp; first | done | with_reducible rfl)
      try simp only [Act.put, List.setIfInBounds_toArray, List.set_cons_zero, List.set_cons_succ]
      refine wpAnyH_takeD (i := 2) (some 21) (v := ?va2) rfl rfl (by kernel_rfl) (by kernel_rfl) (by kernel_rfl) (fun _ _ _ h => h) (Or.inl ⟨by kernel_rfl, ?hya2⟩) (by assumption) ?resta2
      case hya2 => (intro x hSx; (try dsimp only at hSx); go_simp; first | done | with_reducible rfl)
      try simp only [Act.put, List.setIfInBounds_toArray, List.set_cons_zero, List.set_cons_succ]
      refine wpAnyH_takeD (i := 3) (some 22) (v := ?va3) rfl rfl (by kernel_rfl) (by kernel_rfl) (by kernel_rfl) (fun _ _ _ h => h) (Or.inl ⟨by kernel_rfl, ?hya3⟩) (by assumption) ?resta3
      case hya3 => (intro x hSx; (try dsimp only at hSx); go_simp; first | done | with_reducible rfl)
      try simp only [Act.put, List.setIfInBounds_toArray, List.set_cons_zero, List.set_cons_succ]
      refine wpAnyH_takeD (i := 4) (some 23) (v := ?va4) rfl rfl (by kernel_rfl) (by kernel_rfl) (by kernel_rfl) (fun _ _ _ h => h) (Or.inl ⟨by kernel_rfl, ?hya4⟩) (by assumption) ?resta4
      case hya4 => (intro x hSx; (try dsimp only at hSx); go_simp; first | done | with_reducible rfl)
      try simp only [Act.put, List.setIfInBounds_toArray, List.set_cons_zero, List.set_cons_succ]
      refine wpAnyH_takeD (i := 5) (some 24) (v := ?va5) rfl rfl (by kernel_rfl) (by kernel_rfl) (by kernel_rfl) (fun _ _ _ h => h) (Or.inl ⟨by kernel_rfl, ?hya5⟩) (by assumption) ?resta5
      case hya5 => (intro x hSx; (try dsimp only at hSx); go_simp; first | done | with_reducible rfl)
      try simp only [Act.put, List.setIfInBounds_toArray, List.set_cons_zero, List.set_cons_succ]
      refine wpAnyH_takeD (i := 6) (some 25) (v := ?va6) rfl rfl (by kernel_rfl) (by kernel_rfl) (by kernel_rfl) (fun _ _ _ h => h) (Or.inl ⟨by kernel_rfl, ?hya6⟩) (by assumption) ?resta6
      case hya6 => (intro x hSx; (try dsimp only at hSx); obtain ⟨z0, z1, z2, z3, z4, z5, z6⟩ := HF.out x hSx; go_simp; first | done | with_reducible rfl)
      try simp only [Act.put, List.setIfInBounds_toArray, List.set_cons_zero, List.set_cons_succ]
      refine wpAnyH_takeD (i := 7) (some 26) (v := ?va7) rfl rfl (by kernel_rfl) (by kernel_rfl) (by kernel_rfl) (fun _ _ _ h => h) (Or.inl ⟨by kernel_rfl, ?hya7⟩) (by assumption) ?resta7
      case hya7 => (intro x hSx; (try dsimp only at hSx); go_simp; first | done | with_reducible rfl)
      try simp only [Act.put, List.setIfInBounds_toArray, List.set_cons_zero, List.set_cons_succ]
      refine wpAnyH_takeD (i := 8) (some 27) (v := ?va8) rfl rfl (by kernel_rfl) (by kernel_rfl) (by kernel_rfl) (fun _ _ _ h => h) (Or.inl ⟨by kernel_rfl, ?hya8⟩) (by assumption) ?resta8
      case hya8 => (intro x hSx; (try dsimp only at hSx); go_simp; first | done | with_reducible rfl)
      try simp only [Act.put, List.setIfInBounds_toArray, List.set_cons_zero, List.set_cons_succ]
      refine wpAnyH_takeD (i := 9) (some 28) (v := ?va9) rfl rfl (by kernel_rfl) (by kernel_rfl) (by kernel_rfl) (fun _ _ _ h => h) (Or.inl ⟨by kernel_rfl, ?hya9⟩) (by assumption) ?resta9
      case hya9 => (intro x hSx; (try dsimp only at hSx); go_simp; first | done | with_reducible rfl)
      try simp only [Act.put, List.setIfInBounds_toArray, List.set_cons_zero, List.set_cons_succ]
      refine wpAnyH_takeD (i := 10) (some 29) (v := ?va10) rfl rfl (by kernel_rfl) (by kernel_rfl) (by kernel_rfl) (fun _ _ _ h => h) (Or.inl ⟨by kernel_rfl, ?hya10⟩) (by assumption) ?resta10
      case hya10 => (intro x hSx; (try dsimp only at hSx); go_simp; first | done | with_reducible rfl)
      try simp only [Act.put, List.setIfInBounds_toArray, List.set_cons_zero, List.set_cons_succ]
      refine wpAnyH_takeD (i := 11) (some 30) (v := ?va11) rfl rfl (by kernel_rfl) (by kernel_rfl) (by kernel_rfl) (fun _ _ _ h => h) (Or.inl ⟨by kernel_rfl, ?hya11⟩) (by assumption) ?resta11
      case hya11 => (intro x hSx; (try dsimp only at hSx); obtain ⟨z0, z1, z2, z3, z4, z5, z6⟩ := HF.out x hSx; go_simp; first | done | with_reducible rfl)
      try simp only [Act.put, List.setIfInBounds_toArray, List.set_cons_zero, List.set_cons_succ]
      refine wpAnyH_ready (rs := [12]) (by kernel_rfl) (by simp) ?_
      refine AllReadyH.cons rfl (fun K hK => ?_) AllReadyH.nil
      go_simp
      go_wp2_with (go_at_call 27; refine HCl.mono ?_; rintro e y3 ⟨ax, cx, rfl, hlin, hq3⟩)
      have HB3 : Hid (Below w.heap.size w y3) := HB.out.drew.trans (hq3.mono HB.out.size)
      have hq3w : Below wr.heap.size wr y3 := (Below.refl _ _).drew.trans hq3
      have HS3 : Hid (SofS (set7 y3 w.heap.size (j * 7) (.int .i64 f) (.int .u8 q.kind) (.bool q.yes) (.bool q.neg) (.string q.mag) (.string q.raw) (.slice ax q.items.length cx)) w.heap.size (j + 1) l (n + 2) (fun i => if i = j then ax else A i) (fun i => if i = j then cx else C i) (fun i => if i = j + 1 then y3.heap.size else P i)) := HS.out.step (s := (f, q)) (by omega) HSJ.out hq3w hlin
      have HE3 : Hid (Below w.heap.size w (set7 y3 w.heap.size (j * 7) (.int .i64 f) (.int .u8 q.kind) (.bool q.yes) (.bool q.neg) (.string q.mag) (.string q.raw) (.slice ax q.items.length cx))) := set7_below HB3.out (Nat.le_refl _) _ _ _ _ _ _ _ _
      obtain ⟨cs, hcs, hsz⟩ := HS.out.len.old hq3w
      obtain ⟨cv0, u0⟩ : ∃ cv, y3.cell? ⟨w.heap.size, j * 7, none⟩ = some cv := ⟨_, (hcs.cell _).trans (Array.getElem?_eq_getElem (by omega))⟩
      have uf0 := hcs.frozen (j * 7)
      obtain ⟨cv1, u1⟩ : ∃ cv, y3.cell? ⟨w.heap.size, j * 7 + 1, none⟩ = some cv := ⟨_, (hcs.cell _).trans (Array.getElem?_eq_getElem (by omega))⟩
      have uf1 := hcs.frozen (j * 7 + 1)
      obtain ⟨cv2, u2⟩ : ∃ cv, y3.cell? ⟨w.heap.size, j * 7 + 2, none⟩ = some cv := ⟨_, (hcs.cell _).trans (Array.getElem?_eq_getElem (by omega))⟩
      have uf2 := hcs.frozen (j * 7 + 2)
      obtain ⟨cv3, u3⟩ : ∃ cv, y3.cell? ⟨w.heap.size, j * 7 + 3, none⟩ = some cv := ⟨_, (hcs.cell _).trans (Array.getElem?_eq_getElem (by omega))⟩
      have uf3 := hcs.frozen (j * 7 + 3)
      obtain ⟨cv4, u4⟩ : ∃ cv, y3.cell? ⟨w.heap.size, j * 7 + 4, none⟩ = some cv := ⟨_, (hcs.cell _).trans (Array.getElem?_eq_getElem (by omega))⟩
      have uf4 := hcs.frozen (j * 7 + 4)
      obtain ⟨cv5, u5⟩ : ∃ cv, y3.cell? ⟨w.heap.size, j * 7 + 5, none⟩ = some cv := ⟨_, (hcs.cell _).trans (Array.getElem?_eq_getElem (by omega))⟩
      have uf5 := hcs.frozen (j * 7 + 5)
      obtain ⟨cv6, u6⟩ : ∃ cv, y3.cell? ⟨w.heap.size, j * 7 + 6, none⟩ = some cv := ⟨_, (hcs.cell _).trans (Array.getElem?_eq_getElem (by omega))⟩
      have uf6 := hcs.frozen (j * 7 + 6)
      clear HCl hlin hq3 hq3w hcs hsz
      refine hK.out _ _ HB3.out (fun hHelda12 => ?_)
      clear hK K
      try simp only [Act.put, List.setIfInBounds_toArray, List.set_cons_zero, List.set_cons_succ]
      refine wpAnyH_takeD (i := 13) (some 32) (v := ?va13) rfl rfl (by kernel_rfl) (by kernel_rfl) (by kernel_rfl) (fun _ _ _ h => h) (Or.inl ⟨by kernel_rfl, ?hya13⟩) (by assumption) ?resta13
      case hya13 => (intro x hSx; (try dsimp only at hSx); go_simp; first | done | with_reducible rfl)
      try simp only [Act.put, List.setIfInBounds_toArray, List.set_cons_zero, List.set_cons_succ]
      refine wpAnyH_takeD (i := 14) (some 33) (v := ?va14) rfl rfl (by kernel_rfl) (by kernel_rfl) (by kernel_rfl) (fun _ _ _ h => h) (Or.inl ⟨by kernel_rfl, ?hya14⟩) (by assumption) ?resta14
      case hya14 => (intro x hSx; (try dsimp only at hSx); go_simp; first | done | with_reducible rfl)
      try simp only [Act.put, List.setIfInBounds_toArray, List.set_cons_zero, List.set_cons_succ]
      refine wpAnyH_ready (rs := [15]) (by kernel_rfl) (by simp) ?_
      refine AllReadyH.cons rfl (fun K hK => ?_) AllReadyH.nil
      go_simp
      refine hK.out _ _ HE3.out (fun hHelda15 => ?_)
      clear hK K
      try simp only [Act.put, List.setIfInBounds_toArray, List.set_cons_zero, List.set_cons_succ]
      refine wpAnyH_done (by kernel_rfl) ?_ _
      have HS4 : Hid (∃ A C P, SofS ((((((((y3.setCell ⟨w.heap.size, j * 7, none⟩ (.int .i64 f)).setCell ⟨w.heap.size, j * 7 + 1, none⟩ (.int .u8 q.kind)).setCell ⟨w.heap.size, j * 7 + 2, none⟩ (.bool q.yes)).setCell ⟨w.heap.size, j * 7 + 3, none⟩ (.bool q.neg)).setCell ⟨w.heap.size, j * 7 + 4, none⟩ (.string q.mag)).setCell ⟨w.heap.size, j * 7 + 5, none⟩ (.string q.raw)).setCell ⟨w.heap.size, j * 7 + 6, none⟩ (.slice ax q.items.length cx))) w.heap.size (j + 1) l (n + 2) A C P) := ⟨_, _, _, HS3.out⟩
      obtain ⟨A4, C4, P4, hS4⟩ := HS4.out
      have HS5 : Hid _ := hS4
      clear HS4 hS4 HS3
      go_wp2
      go_roundw
      case rel => exact ⟨j + 1, A4, C4, P4, by omega, by go_num, HS5, HE3⟩
      case measure => simp [intOf]; omega
    · obtain rfl : j = n := by omega
      have tl : decide ((j : Int) < (j : Int)) = false := decide_eq_false (by omega)
      go_wp2
      go_loopw [6] (fun iv wz => ∃ (i : Nat), j ≤ i ∧ i ≤ j + 2 ∧ iv = .int .i64 (i : Int) ∧ Hid (SofS wz w.heap.size j l (j + 2) A C P) ∧ Hid (∀ k, j ≤ k → k < i → wz.cell? ⟨w.heap.size, k * 7, none⟩ = some (.int .i64 (-99))) ∧ Hid (Below w.heap.size w wz)) (fun iv _ => j + 2 - (intOf iv).toNat)
      case atStart => exact ⟨j, Nat.le_refl _, by omega, rfl, HS, fun k h1 h2 => absurd h1 (by omega), HB⟩
      case round =>
        clear HS HB
        obtain ⟨i, hi1, hi2, rfl, HS, HM, HB⟩ := hrel
        by_cases hin2 : i < j + 2
        · have tl2 : (i : Int) < ((j + 2 : Nat) : Int) := by omega
          have tl3 : (i : Int) < (j : Int) + 2 := by omega
          obtain ⟨cs, hcs, hsz⟩ := HS.out.len
          have u0 : wr.cell? ⟨w.heap.size, i * 7, none⟩ = some (cs[i * 7]'(by omega)) := by rw [hcs.cell]; exact Array.getElem?_eq_getElem _
          have uf := hcs.frozen (i * 7)
          generalize (cs[i * 7]'(by omega)) = cv at u0
          have HS2 : Hid (SofS (wr.setCell ⟨w.heap.size, i * 7, none⟩ (.int .i64 (-99))) w.heap.size j l (j + 2) A C P) := HS.out.mark hi1 _
          have HM2 : Hid (∀ k, j ≤ k → k < i + 1 → (wr.setCell ⟨w.heap.size, i * 7, none⟩ (.int .i64 (-99))).cell? ⟨w.heap.size, k * 7, none⟩ = some (.int .i64 (-99))) := fun k h1 h2 => by
            by_cases e : k = i
            · subst e
              exact HS.out.len.at _ _ (by omega)
            · rw [HS.out.len.ne _ _ _ (by omega)]
              exact HM.out k h1 (by omega)
          have HB2 : Hid (Below w.heap.size w (wr.setCell ⟨w.heap.size, i * 7, none⟩ (.int .i64 (-99)))) := HB.out.setCell (p := ⟨w.heap.size, i * 7, none⟩) (Nat.le_refl _) _
          clear hcs hsz
          go_wp2
          go_roundw
          case rel => exact ⟨i + 1, by omega, by omega, by go_num, HS2, HM2, HB2⟩
          case measure => simp [intOf]; omega
        · obtain rfl : i = j + 2 := by omega
          go_wp2
          go_ret
          exact ⟨A, C, P, rfl, HS.out, fun k h1 h2 => HM.out k h1 h2, HB.out⟩
end Go.Proofs.YtnjfkijekohdkaaDoor
