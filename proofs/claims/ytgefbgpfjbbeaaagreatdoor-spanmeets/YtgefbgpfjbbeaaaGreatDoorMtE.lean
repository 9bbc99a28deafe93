/- What the statement SpanMeets does: how much there is (contracts; nothing is claimed here). -/
import Derived.Test.YtgefbgpfjbbeaaaGreatDoorMtD
namespace Go.Proofs.YtgefbgpfjbbeaaaGreatDoor
open Go.RowKit Go.Vf

/-- A list of texts that came in. -/
def Strs (n : Nat) (W : World) (ka : Option Addr) (ks : List ByteArray) : Prop := ks = [] ∨ ∃ b off, ka = some ⟨b, off, none⟩ ∧ b < n ∧ ∀ j (hj : j < ks.length), W.cell? ⟨b, off + j, none⟩ = some (.string ks[j])
def addN (n k : Nat) : Nat := if 16777216 < n ∨ 16777216 < k then 16777217 else n + k
theorem addN_any (n k : Nat) (hn : n ≤ 281474976710656) (hk : k ≤ 281474976710656) (w : World) : Calls Tryz.prog 6 #[.int .i64 (n : Int), .int .i64 (k : Int)] w fun e w' => e = .returned (.int .i64 (addN n k : Int)) ∧ Below w.heap.size w w' := by
  refine (add_any n k hn hk w).mono ?_
  rintro e w' ⟨rfl, rfl⟩
  exact ⟨rfl, Below.refl _ _⟩
theorem addN_le (n k : Nat) : addN n k ≤ 33554432 := by unfold addN; split <;> omega
theorem addN_fit {n k m : Nat} (h : addN n k ≤ m) (hm : m ≤ 16777216) : n ≤ m ∧ k ≤ m := by
  unfold addN at h
  split at h <;> omega
set_option maxHeartbeats 8000000 in
set_option maxRecDepth 20000 in
theorem spanMeets_any (a b : Sp) (ka : Option Addr) (kc : Nat) (ks : List ByteArray) (w : World) (hS : Strs w.heap.size w ka ks) (hl : ks.length ≤ 17592186044416) (haf : a.f.size ≤ 140737488355328) (hat : a.t.size ≤ 140737488355328) (hbf : b.f.size ≤ 140737488355328) (hbt : b.t.size ≤ 140737488355328) (hks : ∀ j (hj : j < ks.length), ks[j].size ≤ 140737488355328) :
    Calls Tryz.prog 4 #[.agg #[.string a.f, .string a.t, .bool a.o], .agg #[.string b.f, .string b.t, .bool b.o], .slice ka ks.length kc] w fun e w' => e = .returned (.bool true) ∧ Below w.heap.size w w' := by
  have hs1 := alloc_size w (.cells #[.string a.f, .string a.t, .bool a.o] 24)
  have hA1 := Blk.new w 24 #[.string a.f, .string a.t, .bool a.o]
  have hB2 := Blk.new (w.alloc (.cells #[.string a.f, .string a.t, .bool a.o] 24)) 24 #[.string b.f, .string b.t, .bool b.o]
  have hb1 := (Below.refl w.heap.size w).alloc (Nat.le_refl _) (.cells #[.string a.f, .string a.t, .bool a.o] 24)
  have hb12 := (Below.refl _ (w.alloc (.cells #[.string a.f, .string a.t, .bool a.o] 24))).alloc (Nat.le_refl _) (.cells #[.string b.f, .string b.t, .bool b.o] 24)
  rw [hs1] at hB2
  have hA2 := hA1.old hb12
  have hb02 := hb1.trans (hb12.mono hb1.size)
  clear hs1 hA1 hb1 hb12
  go_enter Tryz.func4, Tryz.ntmps4
  go_upto_region 1 with fail
  generalize (w.alloc (.cells #[.string a.f, .string a.t, .bool a.o] 24)).alloc (.cells #[.string b.f, .string b.t, .bool b.o] 24) = w2 at hA2 hB2 hb02 ⊢
  refine wp_region_held_drew (S := fun x => Below w2.heap.size w2 x) (by kernel_rfl) ((Below.refl _ _).drew) (fun hHeldp => ?_)
  refine wpAnyH_takeD (i := 0) (some 16) (v := .pointer (some ⟨w.heap.size, 0, none⟩)) rfl rfl (by kernel_rfl) (by kernel_rfl) (by kernel_rfl) (fun _ _ _ h => h) (Or.inl ⟨by kernel_rfl, ?hyp1⟩) (by assumption) ?restp1
  case hyp1 => (intro x hSx; (try dsimp only at hSx); go_simp; first | done | with_reducible rfl | assumption | rfl)
  try simp only [Act.put, List.setIfInBounds_toArray, List.set_cons_zero, List.set_cons_succ]
  refine wpAnyH_takeD (i := 1) (some 17) (v := .string a.f) rfl rfl (by kernel_rfl) (by kernel_rfl) (by kernel_rfl) (fun _ _ _ h => h) (Or.inl ⟨by kernel_rfl, ?hyp2⟩) (by assumption) ?restp2
  case hyp2 => (intro x hSx; have p0 := (hA2.old hSx).cell 0; have p1 := (hA2.old hSx).cell 1; have q0 := (hB2.old hSx).cell 0; have q1 := (hB2.old hSx).cell 1; (try dsimp only at hSx); go_simp; first | done | with_reducible rfl | assumption | rfl)
  try simp only [Act.put, List.setIfInBounds_toArray, List.set_cons_zero, List.set_cons_succ]
  refine wpAnyH_takeD (i := 2) (some 18) (v := .int .i64 (a.f.size : Int)) rfl rfl (by kernel_rfl) (by kernel_rfl) (by kernel_rfl) (fun _ _ _ h => h) (Or.inl ⟨by kernel_rfl, ?hyp3⟩) (by assumption) ?restp3
  case hyp3 => (intro x hSx; (try dsimp only at hSx); go_simp; first | done | with_reducible rfl | assumption | rfl)
  try simp only [Act.put, List.setIfInBounds_toArray, List.set_cons_zero, List.set_cons_succ]
  refine wpAnyH_takeD (i := 3) (some 19) (v := .pointer (some ⟨w.heap.size, 1, none⟩)) rfl rfl (by kernel_rfl) (by kernel_rfl) (by kernel_rfl) (fun _ _ _ h => h) (Or.inl ⟨by kernel_rfl, ?hyp4⟩) (by assumption) ?restp4
  case hyp4 => (intro x hSx; (try dsimp only at hSx); go_simp; first | done | with_reducible rfl | assumption | rfl)
  try simp only [Act.put, List.setIfInBounds_toArray, List.set_cons_zero, List.set_cons_succ]
  refine wpAnyH_takeD (i := 4) (some 20) (v := .string a.t) rfl rfl (by kernel_rfl) (by kernel_rfl) (by kernel_rfl) (fun _ _ _ h => h) (Or.inl ⟨by kernel_rfl, ?hyp5⟩) (by assumption) ?restp5
  case hyp5 => (intro x hSx; have p0 := (hA2.old hSx).cell 0; have p1 := (hA2.old hSx).cell 1; have q0 := (hB2.old hSx).cell 0; have q1 := (hB2.old hSx).cell 1; (try dsimp only at hSx); go_simp; first | done | with_reducible rfl | assumption | rfl)
  try simp only [Act.put, List.setIfInBounds_toArray, List.set_cons_zero, List.set_cons_succ]
  refine wpAnyH_takeD (i := 5) (some 21) (v := .int .i64 (a.t.size : Int)) rfl rfl (by kernel_rfl) (by kernel_rfl) (by kernel_rfl) (fun _ _ _ h => h) (Or.inl ⟨by kernel_rfl, ?hyp6⟩) (by assumption) ?restp6
  case hyp6 => (intro x hSx; (try dsimp only at hSx); go_simp; first | done | with_reducible rfl | assumption | rfl)
  try simp only [Act.put, List.setIfInBounds_toArray, List.set_cons_zero, List.set_cons_succ]
  refine wpAnyH_takeD (i := 7) (some 23) (v := .pointer (some ⟨w.heap.size + 1, 0, none⟩)) rfl rfl (by kernel_rfl) (by kernel_rfl) (by kernel_rfl) (fun _ _ _ h => h) (Or.inl ⟨by kernel_rfl, ?hyp7⟩) (by assumption) ?restp7
  case hyp7 => (intro x hSx; (try dsimp only at hSx); go_simp; first | done | with_reducible rfl | assumption | rfl)
  try simp only [Act.put, List.setIfInBounds_toArray, List.set_cons_zero, List.set_cons_succ]
  refine wpAnyH_takeD (i := 8) (some 24) (v := .string b.f) rfl rfl (by kernel_rfl) (by kernel_rfl) (by kernel_rfl) (fun _ _ _ h => h) (Or.inl ⟨by kernel_rfl, ?hyp8⟩) (by assumption) ?restp8
  case hyp8 => (intro x hSx; have p0 := (hA2.old hSx).cell 0; have p1 := (hA2.old hSx).cell 1; have q0 := (hB2.old hSx).cell 0; have q1 := (hB2.old hSx).cell 1; (try dsimp only at hSx); go_simp; first | done | with_reducible rfl | assumption | rfl)
  try simp only [Act.put, List.setIfInBounds_toArray, List.set_cons_zero, List.set_cons_succ]
  refine wpAnyH_takeD (i := 9) (some 25) (v := .int .i64 (b.f.size : Int)) rfl rfl (by kernel_rfl) (by kernel_rfl) (by kernel_rfl) (fun _ _ _ h => h) (Or.inl ⟨by kernel_rfl, ?hyp9⟩) (by assumption) ?restp9
  case hyp9 => (intro x hSx; (try dsimp only at hSx); go_simp; first | done | with_reducible rfl | assumption | rfl)
  try simp only [Act.put, List.setIfInBounds_toArray, List.set_cons_zero, List.set_cons_succ]
  refine wpAnyH_takeD (i := 10) (some 26) (v := .pointer (some ⟨w.heap.size + 1, 1, none⟩)) rfl rfl (by kernel_rfl) (by kernel_rfl) (by kernel_rfl) (fun _ _ _ h => h) (Or.inl ⟨by kernel_rfl, ?hyp10⟩) (by assumption) ?restp10
  case hyp10 => (intro x hSx; (try dsimp only at hSx); go_simp; first | done | with_reducible rfl | assumption | rfl)
  try simp only [Act.put, List.setIfInBounds_toArray, List.set_cons_zero, List.set_cons_succ]
  refine wpAnyH_takeD (i := 11) (some 27) (v := .string b.t) rfl rfl (by kernel_rfl) (by kernel_rfl) (by kernel_rfl) (fun _ _ _ h => h) (Or.inl ⟨by kernel_rfl, ?hyp11⟩) (by assumption) ?restp11
  case hyp11 => (intro x hSx; have p0 := (hA2.old hSx).cell 0; have p1 := (hA2.old hSx).cell 1; have q0 := (hB2.old hSx).cell 0; have q1 := (hB2.old hSx).cell 1; (try dsimp only at hSx); go_simp; first | done | with_reducible rfl | assumption | rfl)
  try simp only [Act.put, List.setIfInBounds_toArray, List.set_cons_zero, List.set_cons_succ]
  refine wpAnyH_takeD (i := 12) (some 28) (v := .int .i64 (b.t.size : Int)) rfl rfl (by kernel_rfl) (by kernel_rfl) (by kernel_rfl) (fun _ _ _ h => h) (Or.inl ⟨by kernel_rfl, ?hyp12⟩) (by assumption) ?restp12
  case hyp12 => (intro x hSx; (try dsimp only at hSx); go_simp; first | done | with_reducible rfl | assumption | rfl)
  try simp only [Act.put, List.setIfInBounds_toArray, List.set_cons_zero, List.set_cons_succ]
  refine wpAnyH_ready (rs := [6]) (by kernel_rfl) (by simp) ?_
  refine AllReadyH.cons rfl (fun K hK => ?_) AllReadyH.nil
  go_simp
  go_wp2_with (go_at_call 6; refine (addN_any a.f.size a.t.size (by omega) (by omega) _).mono ?_; rintro e yp13 ⟨rfl, hbp13⟩)
  refine hK.out _ _ (hHeldp.trans (hbp13.mono hHeldp.size)) (fun hHp13 => ?_)
  clear hK K
  try simp only [Act.put, List.setIfInBounds_toArray, List.set_cons_zero, List.set_cons_succ]
  refine wpAnyH_ready (rs := [13]) (by kernel_rfl) (by simp) ?_
  refine AllReadyH.cons rfl (fun K hK => ?_) AllReadyH.nil
  go_simp
  go_wp2_with (go_at_call 6; refine (addN_any b.f.size b.t.size (by omega) (by omega) _).mono ?_; rintro e yp14 ⟨rfl, hbp14⟩)
  refine hK.out _ _ (hHp13.trans (hbp14.mono hHp13.size)) (fun hHp14 => ?_)
  clear hK K
  try simp only [Act.put, List.setIfInBounds_toArray, List.set_cons_zero, List.set_cons_succ]
  refine wpAnyH_ready (rs := [14]) (by kernel_rfl) (by simp) ?_
  refine AllReadyH.cons rfl (fun K hK => ?_) AllReadyH.nil
  go_simp
  go_wp2_with (go_at_call 6; refine (addN_any (addN a.f.size a.t.size) (addN b.f.size b.t.size) (by have := addN_le a.f.size a.t.size; omega) (by have := addN_le b.f.size b.t.size; omega) _).mono ?_; rintro e yp15 ⟨rfl, hbp15⟩)
  refine hK.out _ _ (hHp14.trans (hbp15.mono hHp14.size)) (fun hHp15 => ?_)
  clear hK K
  try simp only [Act.put, List.setIfInBounds_toArray, List.set_cons_zero, List.set_cons_succ]
  refine wpAnyH_takeD (i := 15) (some 7) (v := .int .i64 (addN (addN a.f.size a.t.size) (addN b.f.size b.t.size) : Int)) rfl rfl (by kernel_rfl) (by kernel_rfl) (by kernel_rfl) (fun _ _ _ h => h) (Or.inl ⟨by kernel_rfl, ?hyp16⟩) (by assumption) ?restp16
  case hyp16 => (intro x hSx; (try dsimp only at hSx); go_simp; first | done | with_reducible rfl | assumption | rfl)
  try simp only [Act.put, List.setIfInBounds_toArray, List.set_cons_zero, List.set_cons_succ]
  refine wpAnyH_done (by kernel_rfl) ?_ _
  have hb2y := hHp15
  obtain ⟨N0, hN0⟩ : ∃ N0, addN (addN a.f.size a.t.size) (addN b.f.size b.t.size) = N0 := ⟨_, rfl⟩
  have hN0l : N0 ≤ 33554432 := by rw [← hN0]; exact addN_le _ _
  have HN0 : Hid (N0 ≤ 16777216 → a.f.size ≤ N0 ∧ a.t.size ≤ N0 ∧ b.f.size ≤ N0 ∧ b.t.size ≤ N0) := fun h => by
    obtain ⟨h1, h2⟩ := addN_fit (Nat.le_of_eq hN0) h
    obtain ⟨h3, h4⟩ := addN_fit h1 h
    obtain ⟨h5, h6⟩ := addN_fit h2 h
    exact ⟨h3, h4, h5, h6⟩
  rw [hN0]
  clear hN0
  obtain ⟨ln, hln⟩ : ∃ ln, ks.length = ln := ⟨_, rfl⟩
  have HL : Hid (ks.length = ln) := hln
  rw [hln] at hl
  simp only [hln]
  clear hln haf hat hbf hbt
  go_wp2_with fail
  go_loopw [7, 8] (fun nv iv wr => ∃ (n j : Nat), j ≤ ln ∧ nv = .int .i64 (n : Int) ∧ iv = .int .i64 (j : Int) ∧ n ≤ 33554432 ∧ Hid (n ≤ 16777216 → (a.f.size ≤ n ∧ a.t.size ≤ n ∧ b.f.size ≤ n ∧ b.t.size ≤ n) ∧ ∀ i (h : i < ks.length), i < j → ks[i].size ≤ n) ∧ Below w2.heap.size w2 wr) (fun _ iv _ => ln - (intOf iv).toNat)
  case atStart => exact ⟨N0, 0, Nat.zero_le _, rfl, rfl, hN0l, (fun h => ⟨HN0.out h, fun i _ hi => absurd hi (Nat.not_lt_zero _)⟩), hb2y⟩
  case round =>
    clear HN0 hN0l hb2y
    obtain ⟨n, j, hj, rfl, rfl, hnl, HI, hbel⟩ := hrel
    by_cases hlt : j < ln
    · have hlt1 : j < ks.length := by rw [HL.out]; exact hlt
      by_cases hn : n ≤ 16777216
      · have t1 : decide ((n : Int) ≤ 16777216) = true := by simp; omega
        obtain ⟨bb, off, hka, hbb, hcell⟩ : ∃ bb off, ka = some ⟨bb, off, none⟩ ∧ bb < w.heap.size ∧ wr.cell? ⟨bb, off + j, none⟩ = some (.string ks[j]) := by
          rcases hS with h | ⟨bb, off, h1, h2, h3⟩
          · rw [h] at hlt1; exact absurd hlt1 (Nat.not_lt_zero _)
          · exact ⟨bb, off, h1, h2, ((hb02.trans (hbel.mono hb02.size)).cell (p := ⟨bb, off + j, none⟩) h2).trans (h3 j hlt1)⟩
        subst hka
        have hkj := hks j hlt1
        have HI2 : Hid (addN n (1 + ks[j].size) ≤ 16777216 → (a.f.size ≤ addN n (1 + ks[j].size) ∧ a.t.size ≤ addN n (1 + ks[j].size) ∧ b.f.size ≤ addN n (1 + ks[j].size) ∧ b.t.size ≤ addN n (1 + ks[j].size)) ∧ ∀ i (h : i < ks.length), i < j + 1 → ks[i].size ≤ addN n (1 + ks[j].size)) := fun h => by
          obtain ⟨h1, h2⟩ := addN_fit (Nat.le_refl _) h
          obtain ⟨⟨h3, h4, h5, h6⟩, h7⟩ := HI.out hn
          refine ⟨⟨by omega, by omega, by omega, by omega⟩, fun i hi hij => ?_⟩
          by_cases hij2 : i < j
          · have := h7 i hi hij2; omega
          · have : i = j := by omega
            subst this; omega
        generalize ks[j] = x at hcell hkj HI2
        have had := addN_any n (1 + x.size) (by omega) (by omega) wr
        rw [show ((1 + x.size : Nat) : Int) = 1 + (x.size : Int) by omega] at had
        have hal := addN_le n (1 + x.size)
        generalize addN n (1 + x.size) = n2 at had HI2 hal
        go_wp2_with fail
        refine had.mono ?_
        rintro _ w5 ⟨rfl, hb5⟩
        have hbel5 := hbel.trans (hb5.mono hbel.size)
        clear had hb5 hcell HI
        go_wp2_with fail
        go_roundw
        case rel => exact ⟨n2, j + 1, by omega, rfl, by go_num, hal, HI2, hbel5⟩
        case measure => simp [intOf]; omega
      · have t1 : decide ((n : Int) ≤ 16777216) = false := by simp; omega
        have t2 : decide ((4194304 : Int) < (n : Int)) = true := by simp; omega
        clear HI
        go_wp2_with fail
        go_ret
        exact ⟨rfl, hb02.trans (hbel.mono hb02.size)⟩
    · have hjl : j = ln := by omega
      subst hjl
      by_cases hn : 4194304 < n
      · have t2 : decide ((4194304 : Int) < (n : Int)) = true := by simp; omega
        clear HI
        go_wp2_with fail
        go_ret
        exact ⟨rfl, hb02.trans (hbel.mono hb02.size)⟩
      · have t2 : decide ((4194304 : Int) < (n : Int)) = false := by simp; omega
        by_cases hk : 4194304 < j
        · have t3 : decide ((4194304 : Int) < (j : Int)) = true := by simp; omega
          clear HI
          go_wp2_with fail
          go_ret
          exact ⟨rfl, hb02.trans (hbel.mono hb02.size)⟩
        · have t3 : decide ((4194304 : Int) < (j : Int)) = false := by simp; omega
          obtain ⟨⟨f1, f2, f3, f4⟩, f5⟩ := HI.out (by omega)
          have hkk : ∀ i (h : i < ks.length), ks[i].size ≤ 4194304 := fun i h => Nat.le_trans (f5 i h (by rw [HL.out] at h; exact h)) (by omega)
          have e1 : a.f.size ≤ 4194304 := by omega
          have e2 : a.t.size ≤ 4194304 := by omega
          have e3 : b.f.size ≤ 4194304 := by omega
          have e4 : b.t.size ≤ 4194304 := by omega
          clear HI f1 f2 f3 f4 f5 hks
          have hA3 := hA2.old hbel
          have hB3 := hB2.old hbel
          have hb03 := hb02.trans (hbel.mono hb02.size)
          clear hA2 hB2 hb02 hbel
          have hme : ∀ W, Calls Tryz.prog 7 #[spV a, spV b] W fun e w' => e = .returned (spV (meetS a b)) ∧ Below W.heap.size W w' := fun W => meet_any a b W
          have hme2 : ∀ W, Calls Tryz.prog 7 #[spV b, spV a] W fun e w' => e = .returned (spV (meetS a b)) ∧ Below W.heap.size W w' := fun W => by rw [meet_comm a b]; exact meet_any b a W
          have hme3 : ∀ W, Calls Tryz.prog 7 #[spV a, spV a] W fun e w' => e = .returned (spV (meetS a a)) ∧ Below W.heap.size W w' := fun W => meet_any a a W
          have hes : ∀ W, Calls Tryz.prog 9 #[spV (meetS a a)] W fun e w' => e = .returned (.bool (emptyS a)) ∧ Below W.heap.size W w' := fun W => by rw [← empty_self a]; exact empty_any _ W
          have hrm : ∀ W, Calls Tryz.prog 8 #[spV a, spV b] W fun e w' => e = .returned (spV (meetS a b)) ∧ Below W.heap.size W w' := fun W => rmeet_any a b (by omega) (by omega) (by omega) (by omega) W
          have hea : ∀ W, Calls Tryz.prog 9 #[spV a] W fun e w' => e = .returned (.bool (emptyS a)) ∧ Below W.heap.size W w' := fun W => empty_any a W
          have hra : ∀ W, Calls Tryz.prog 10 #[spV a] W fun e w' => e = .returned (.bool (emptyS a)) ∧ Below W.heap.size W w' := fun W => rempty_any a (by omega) (by omega) W
          have heb : ∀ W, Calls Tryz.prog 9 #[spV b] W fun e w' => e = .returned (.bool (emptyS b)) ∧ Below W.heap.size W w' := fun W => empty_any b W
          have hrb : ∀ W, Calls Tryz.prog 10 #[spV b] W fun e w' => e = .returned (.bool (emptyS b)) ∧ Below W.heap.size W w' := fun W => rempty_any b (by omega) (by omega) W
          have hem : ∀ W, Calls Tryz.prog 9 #[spV (meetS a b)] W fun e w' => e = .returned (.bool (emptyS (meetS a b))) ∧ Below W.heap.size W w' := fun W => empty_any _ W
          have HM : Hid (∀ k, hasS (meetS a b) k = (hasS a k && hasS b k)) := fun k => has_meet a b k
          have HF : Hid (∀ k, hasS a k = true → emptyS a = false) := fun k h => has_full h
          have HG : Hid (emptyS a = false → hasS a a.f = true) := fun h => has_from h
          generalize meetS a b = m at hme hme2 hrm hem HM
          generalize meetS a a = aa at hme3 hes
          generalize emptyS a = ea at hes hea hra HF HG
          generalize emptyS b = eb at heb hrb
          generalize emptyS m = em at hem
          unfold spV at hme hme2 hme3 hes hrm hea hra heb hrb hem
          have a0 := hA3.cell 0
          have a1 := hA3.cell 1
          have a2 := hA3.cell 2
          have b0 := hB3.cell 0
          have b1 := hB3.cell 1
          have b2 := hB3.cell 2
          go_wp2_with fail
          refine (hme _).mono ?_
          rintro _ w4 ⟨rfl, hb4⟩
          have hb45 := (Below.refl w4.heap.size w4).alloc (Nat.le_refl _) (.cells #[.string m.f, .string m.t, .bool m.o] 24)
          have hM5 := Blk.new w4 24 #[.string m.f, .string m.t, .bool m.o]
          have hb35 := hb4.trans (hb45.mono hb4.size)
          have hA5 := hA3.old hb35
          have hB5 := hB3.old hb35
          have hb05 := hb03.trans (hb35.mono hb03.size)
          clear hme hb4 hb45 hb35 hA3 hB3 hb03 a0 a1 a2 b0 b1 b2
          obtain ⟨r, hr⟩ : ∃ r, w4.heap.size = r := ⟨_, rfl⟩
          rw [hr] at hM5
          go_upto_region 9 with fail
          try simp only [hr]
          generalize w4.alloc (.cells #[.string m.f, .string m.t, .bool m.o] 24) = w5 at hM5 hA5 hB5 hb05 ⊢
          clear hr
          have a0 := hA5.cell 0
          have a1 := hA5.cell 1
          have a2 := hA5.cell 2
          have b0 := hB5.cell 0
          have b1 := hB5.cell 1
          have b2 := hB5.cell 2
          go_wp2_with fail
          refine (hme2 _).mono ?_
          rintro _ w6 ⟨rfl, hb6⟩
          have hb67 := (Below.refl w6.heap.size w6).alloc (Nat.le_refl _) (.cells #[.string m.f, .string m.t, .bool m.o] 24)
          have hN7 := Blk.new w6 24 #[.string m.f, .string m.t, .bool m.o]
          have hb57 := hb6.trans (hb67.mono hb6.size)
          have hA7 := hA5.old hb57
          have hB7 := hB5.old hb57
          have hM7 := hM5.old hb57
          have hb07 := hb05.trans (hb57.mono hb05.size)
          clear hme2 hb6 hb67 hb57 hA5 hB5 hM5 hb05 a0 a1 a2 b0 b1 b2
          obtain ⟨s, hs⟩ : ∃ s, w6.heap.size = s := ⟨_, rfl⟩
          rw [hs] at hN7
          go_upto_region 10 with fail
          try simp only [hs]
          generalize w6.alloc (.cells #[.string m.f, .string m.t, .bool m.o] 24) = w7 at hN7 hM7 hA7 hB7 hb07 ⊢
          clear hs
          refine wp_region_held_drew (S := fun x => Below w7.heap.size w7 x) (by kernel_rfl) ((Below.refl _ _).drew) (fun hHeldq => ?_)
          refine wpAnyH_takeD (i := 0) (some 62) (v := .agg #[.string m.f, .string m.t, .bool m.o]) rfl rfl (by kernel_rfl) (by kernel_rfl) (by kernel_rfl) (fun _ _ _ h => h) (Or.inl ⟨by kernel_rfl, ?hyq1⟩) (by assumption) ?restq1
          case hyq1 => (intro x hSx; have p0 := (hM7.old hSx).cell 0; have p1 := (hM7.old hSx).cell 1; have p2 := (hM7.old hSx).cell 2; (try dsimp only at hSx); go_simp; first | done | with_reducible rfl | assumption | rfl)
          try simp only [Act.put, List.setIfInBounds_toArray, List.set_cons_zero, List.set_cons_succ]
          refine wpAnyH_takeD (i := 1) (some 63) (v := .agg #[.string a.f, .string a.t, .bool a.o]) rfl rfl (by kernel_rfl) (by kernel_rfl) (by kernel_rfl) (fun _ _ _ h => h) (Or.inl ⟨by kernel_rfl, ?hyq2⟩) (by assumption) ?restq2
          case hyq2 => (intro x hSx; have p0 := (hA7.old hSx).cell 0; have p1 := (hA7.old hSx).cell 1; have p2 := (hA7.old hSx).cell 2; (try dsimp only at hSx); go_simp; first | done | with_reducible rfl | assumption | rfl)
          try simp only [Act.put, List.setIfInBounds_toArray, List.set_cons_zero, List.set_cons_succ]
          refine wpAnyH_takeD (i := 2) (some 64) (v := .agg #[.string b.f, .string b.t, .bool b.o]) rfl rfl (by kernel_rfl) (by kernel_rfl) (by kernel_rfl) (fun _ _ _ h => h) (Or.inl ⟨by kernel_rfl, ?hyq3⟩) (by assumption) ?restq3
          case hyq3 => (intro x hSx; have p0 := (hB7.old hSx).cell 0; have p1 := (hB7.old hSx).cell 1; have p2 := (hB7.old hSx).cell 2; (try dsimp only at hSx); go_simp; first | done | with_reducible rfl | assumption | rfl)
          try simp only [Act.put, List.setIfInBounds_toArray, List.set_cons_zero, List.set_cons_succ]
          refine wpAnyH_ready (rs := [3]) (by kernel_rfl) (by simp) ?_
          refine AllReadyH.cons rfl (fun K hK => ?_) AllReadyH.nil
          go_simp
          go_wp2_with (go_at_call 8; refine (hrm _).mono ?_; rintro e yq4 ⟨rfl, hbq4⟩)
          refine hK.out _ _ (hHeldq.trans (hbq4.mono hHeldq.size)) (fun hHq4 => ?_)
          clear hK K
          try simp only [Act.put, List.setIfInBounds_toArray, List.set_cons_zero, List.set_cons_succ]
          refine wpAnyH_takeD (i := 4) (some 66) (v := .bool false) rfl rfl (by kernel_rfl) (by kernel_rfl) (by kernel_rfl) (fun _ _ _ h => h) (Or.inl ⟨by kernel_rfl, ?hyq5⟩) (by assumption) ?restq5
          case hyq5 => (intro x hSx; (try dsimp only at hSx); go_simp; first | done | with_reducible rfl | assumption | rfl)
          try simp only [Act.put, List.setIfInBounds_toArray, List.set_cons_zero, List.set_cons_succ]
          refine wpAnyH_takeD (i := 5) (some 67) (v := .bool false) rfl rfl (by kernel_rfl) (by kernel_rfl) (by kernel_rfl) (fun _ _ _ h => h) (Or.inl ⟨by kernel_rfl, ?hyq6⟩) (by assumption) ?restq6
          case hyq6 => (intro x hSx; (try dsimp only at hSx); go_simp; first | done | with_reducible rfl | assumption | rfl)
          try simp only [Act.put, List.setIfInBounds_toArray, List.set_cons_zero, List.set_cons_succ]
          refine wpAnyH_takeD (i := 6) (some 68) (v := .agg #[.string a.f, .string a.t, .bool a.o]) rfl rfl (by kernel_rfl) (by kernel_rfl) (by kernel_rfl) (fun _ _ _ h => h) (Or.inl ⟨by kernel_rfl, ?hyq7⟩) (by assumption) ?restq7
          case hyq7 => (intro x hSx; have p0 := (hA7.old hSx).cell 0; have p1 := (hA7.old hSx).cell 1; have p2 := (hA7.old hSx).cell 2; (try dsimp only at hSx); go_simp; first | done | with_reducible rfl | assumption | rfl)
          try simp only [Act.put, List.setIfInBounds_toArray, List.set_cons_zero, List.set_cons_succ]
          refine wpAnyH_takeD (i := 8) (some 70) (v := .agg #[.string a.f, .string a.t, .bool a.o]) rfl rfl (by kernel_rfl) (by kernel_rfl) (by kernel_rfl) (fun _ _ _ h => h) (Or.inl ⟨by kernel_rfl, ?hyq8⟩) (by assumption) ?restq8
          case hyq8 => (intro x hSx; have p0 := (hA7.old hSx).cell 0; have p1 := (hA7.old hSx).cell 1; have p2 := (hA7.old hSx).cell 2; (try dsimp only at hSx); go_simp; first | done | with_reducible rfl | assumption | rfl)
          try simp only [Act.put, List.setIfInBounds_toArray, List.set_cons_zero, List.set_cons_succ]
          refine wpAnyH_ready (rs := [7]) (by kernel_rfl) (by simp) ?_
          refine AllReadyH.cons rfl (fun K hK => ?_) AllReadyH.nil
          go_simp
          go_wp2_with (go_at_call 9; refine (hea _).mono ?_; rintro e yq9 ⟨rfl, hbq9⟩)
          refine hK.out _ _ (hHq4.trans (hbq9.mono hHq4.size)) (fun hHq9 => ?_)
          clear hK K
          try simp only [Act.put, List.setIfInBounds_toArray, List.set_cons_zero, List.set_cons_succ]
          refine wpAnyH_ready (rs := [9]) (by kernel_rfl) (by simp) ?_
          refine AllReadyH.cons rfl (fun K hK => ?_) AllReadyH.nil
          go_simp
          go_wp2_with (go_at_call 10; refine (hra _).mono ?_; rintro e yq10 ⟨rfl, hbq10⟩)
          refine hK.out _ _ (hHq9.trans (hbq10.mono hHq9.size)) (fun hHq10 => ?_)
          clear hK K
          try simp only [Act.put, List.setIfInBounds_toArray, List.set_cons_zero, List.set_cons_succ]
          refine wpAnyH_takeD (i := 10) (some 72) (v := .bool false) rfl rfl (by kernel_rfl) (by kernel_rfl) (by kernel_rfl) (fun _ _ _ h => h) (Or.inl ⟨by kernel_rfl, ?hyq11⟩) (by assumption) ?restq11
          case hyq11 => (intro x hSx; (try dsimp only at hSx); go_simp; first | done | with_reducible rfl | assumption | rfl)
          try simp only [Act.put, List.setIfInBounds_toArray, List.set_cons_zero, List.set_cons_succ]
          refine wpAnyH_takeD (i := 11) (some 73) (v := .bool false) rfl rfl (by kernel_rfl) (by kernel_rfl) (by kernel_rfl) (fun _ _ _ h => h) (Or.inl ⟨by kernel_rfl, ?hyq12⟩) (by assumption) ?restq12
          case hyq12 => (intro x hSx; (try dsimp only at hSx); go_simp; first | done | with_reducible rfl | assumption | rfl)
          try simp only [Act.put, List.setIfInBounds_toArray, List.set_cons_zero, List.set_cons_succ]
          refine wpAnyH_takeD (i := 12) (some 74) (v := .bool false) rfl rfl (by kernel_rfl) (by kernel_rfl) (by kernel_rfl) (fun _ _ _ h => h) (Or.inl ⟨by kernel_rfl, ?hyq13⟩) (by assumption) ?restq13
          case hyq13 => (intro x hSx; (try dsimp only at hSx); go_simp; first | done | with_reducible rfl | assumption | rfl)
          try simp only [Act.put, List.setIfInBounds_toArray, List.set_cons_zero, List.set_cons_succ]
          refine wpAnyH_takeD (i := 13) (some 75) (v := .agg #[.string b.f, .string b.t, .bool b.o]) rfl rfl (by kernel_rfl) (by kernel_rfl) (by kernel_rfl) (fun _ _ _ h => h) (Or.inl ⟨by kernel_rfl, ?hyq14⟩) (by assumption) ?restq14
          case hyq14 => (intro x hSx; have p0 := (hB7.old hSx).cell 0; have p1 := (hB7.old hSx).cell 1; have p2 := (hB7.old hSx).cell 2; (try dsimp only at hSx); go_simp; first | done | with_reducible rfl | assumption | rfl)
          try simp only [Act.put, List.setIfInBounds_toArray, List.set_cons_zero, List.set_cons_succ]
          refine wpAnyH_takeD (i := 15) (some 77) (v := .agg #[.string b.f, .string b.t, .bool b.o]) rfl rfl (by kernel_rfl) (by kernel_rfl) (by kernel_rfl) (fun _ _ _ h => h) (Or.inl ⟨by kernel_rfl, ?hyq15⟩) (by assumption) ?restq15
          case hyq15 => (intro x hSx; have p0 := (hB7.old hSx).cell 0; have p1 := (hB7.old hSx).cell 1; have p2 := (hB7.old hSx).cell 2; (try dsimp only at hSx); go_simp; first | done | with_reducible rfl | assumption | rfl)
          try simp only [Act.put, List.setIfInBounds_toArray, List.set_cons_zero, List.set_cons_succ]
          refine wpAnyH_ready (rs := [14]) (by kernel_rfl) (by simp) ?_
          refine AllReadyH.cons rfl (fun K hK => ?_) AllReadyH.nil
          go_simp
          go_wp2_with (go_at_call 9; refine (heb _).mono ?_; rintro e yq16 ⟨rfl, hbq16⟩)
          refine hK.out _ _ (hHq10.trans (hbq16.mono hHq10.size)) (fun hHq16 => ?_)
          clear hK K
          try simp only [Act.put, List.setIfInBounds_toArray, List.set_cons_zero, List.set_cons_succ]
          refine wpAnyH_ready (rs := [16]) (by kernel_rfl) (by simp) ?_
          refine AllReadyH.cons rfl (fun K hK => ?_) AllReadyH.nil
          go_simp
          go_wp2_with (go_at_call 10; refine (hrb _).mono ?_; rintro e yq17 ⟨rfl, hbq17⟩)
          refine hK.out _ _ (hHq16.trans (hbq17.mono hHq16.size)) (fun hHq17 => ?_)
          clear hK K
          try simp only [Act.put, List.setIfInBounds_toArray, List.set_cons_zero, List.set_cons_succ]
          refine wpAnyH_takeD (i := 17) (some 79) (v := .bool false) rfl rfl (by kernel_rfl) (by kernel_rfl) (by kernel_rfl) (fun _ _ _ h => h) (Or.inl ⟨by kernel_rfl, ?hyq18⟩) (by assumption) ?restq18
          case hyq18 => (intro x hSx; (try dsimp only at hSx); go_simp; first | done | with_reducible rfl | assumption | rfl)
          try simp only [Act.put, List.setIfInBounds_toArray, List.set_cons_zero, List.set_cons_succ]
          refine wpAnyH_takeD (i := 18) (some 80) (v := .bool false) rfl rfl (by kernel_rfl) (by kernel_rfl) (by kernel_rfl) (fun _ _ _ h => h) (Or.inl ⟨by kernel_rfl, ?hyq19⟩) (by assumption) ?restq19
          case hyq19 => (intro x hSx; (try dsimp only at hSx); go_simp; first | done | with_reducible rfl | assumption | rfl)
          try simp only [Act.put, List.setIfInBounds_toArray, List.set_cons_zero, List.set_cons_succ]
          refine wpAnyH_takeD (i := 19) (some 81) (v := .bool false) rfl rfl (by kernel_rfl) (by kernel_rfl) (by kernel_rfl) (fun _ _ _ h => h) (Or.inl ⟨by kernel_rfl, ?hyq20⟩) (by assumption) ?restq20
          case hyq20 => (intro x hSx; (try dsimp only at hSx); go_simp; first | done | with_reducible rfl | assumption | rfl)
          try simp only [Act.put, List.setIfInBounds_toArray, List.set_cons_zero, List.set_cons_succ]
          refine wpAnyH_takeD (i := 20) (some 82) (v := .agg #[.string m.f, .string m.t, .bool m.o]) rfl rfl (by kernel_rfl) (by kernel_rfl) (by kernel_rfl) (fun _ _ _ h => h) (Or.inl ⟨by kernel_rfl, ?hyq21⟩) (by assumption) ?restq21
          case hyq21 => (intro x hSx; have p0 := (hM7.old hSx).cell 0; have p1 := (hM7.old hSx).cell 1; have p2 := (hM7.old hSx).cell 2; (try dsimp only at hSx); go_simp; first | done | with_reducible rfl | assumption | rfl)
          try simp only [Act.put, List.setIfInBounds_toArray, List.set_cons_zero, List.set_cons_succ]
          refine wpAnyH_takeD (i := 22) (some 84) (v := .agg #[.string m.f, .string m.t, .bool m.o]) rfl rfl (by kernel_rfl) (by kernel_rfl) (by kernel_rfl) (fun _ _ _ h => h) (Or.inl ⟨by kernel_rfl, ?hyq22⟩) (by assumption) ?restq22
          case hyq22 => (intro x hSx; have p0 := (hN7.old hSx).cell 0; have p1 := (hN7.old hSx).cell 1; have p2 := (hN7.old hSx).cell 2; (try dsimp only at hSx); go_simp; first | done | with_reducible rfl | assumption | rfl)
          try simp only [Act.put, List.setIfInBounds_toArray, List.set_cons_zero, List.set_cons_succ]
          refine wpAnyH_ready (rs := [21]) (by kernel_rfl) (by simp) ?_
          refine AllReadyH.cons rfl (fun K hK => ?_) AllReadyH.nil
          go_simp
          go_wp2_with (go_at_call 9; refine (hem _).mono ?_; rintro e yq23 ⟨rfl, hbq23⟩)
          refine hK.out _ _ (hHq17.trans (hbq23.mono hHq17.size)) (fun hHq23 => ?_)
          clear hK K
          try simp only [Act.put, List.setIfInBounds_toArray, List.set_cons_zero, List.set_cons_succ]
          refine wpAnyH_ready (rs := [23]) (by kernel_rfl) (by simp) ?_
          refine AllReadyH.cons rfl (fun K hK => ?_) AllReadyH.nil
          go_simp
          go_wp2_with (go_at_call 9; refine (hem _).mono ?_; rintro e yq24 ⟨rfl, hbq24⟩)
          refine hK.out _ _ (hHq23.trans (hbq24.mono hHq23.size)) (fun hHq24 => ?_)
          clear hK K
          try simp only [Act.put, List.setIfInBounds_toArray, List.set_cons_zero, List.set_cons_succ]
          refine wpAnyH_takeD (i := 24) (some 86) (v := .bool false) rfl rfl (by kernel_rfl) (by kernel_rfl) (by kernel_rfl) (fun _ _ _ h => h) (Or.inl ⟨by kernel_rfl, ?hyq25⟩) (by assumption) ?restq25
          case hyq25 => (intro x hSx; (try dsimp only at hSx); go_simp; first | done | with_reducible rfl | assumption | rfl)
          try simp only [Act.put, List.setIfInBounds_toArray, List.set_cons_zero, List.set_cons_succ]
          refine wpAnyH_takeD (i := 25) (some 87) (v := .bool false) rfl rfl (by kernel_rfl) (by kernel_rfl) (by kernel_rfl) (fun _ _ _ h => h) (Or.inl ⟨by kernel_rfl, ?hyq26⟩) (by assumption) ?restq26
          case hyq26 => (intro x hSx; (try dsimp only at hSx); go_simp; first | done | with_reducible rfl | assumption | rfl)
          try simp only [Act.put, List.setIfInBounds_toArray, List.set_cons_zero, List.set_cons_succ]
          refine wpAnyH_takeD (i := 26) (some 88) (v := .bool false) rfl rfl (by kernel_rfl) (by kernel_rfl) (by kernel_rfl) (fun _ _ _ h => h) (Or.inl ⟨by kernel_rfl, ?hyq27⟩) (by assumption) ?restq27
          case hyq27 => (intro x hSx; (try dsimp only at hSx); go_simp; first | done | with_reducible rfl | assumption | rfl)
          try simp only [Act.put, List.setIfInBounds_toArray, List.set_cons_zero, List.set_cons_succ]
          refine wpAnyH_takeD (i := 27) (some 89) (v := .agg #[.string a.f, .string a.t, .bool a.o]) rfl rfl (by kernel_rfl) (by kernel_rfl) (by kernel_rfl) (fun _ _ _ h => h) (Or.inl ⟨by kernel_rfl, ?hyq28⟩) (by assumption) ?restq28
          case hyq28 => (intro x hSx; have p0 := (hA7.old hSx).cell 0; have p1 := (hA7.old hSx).cell 1; have p2 := (hA7.old hSx).cell 2; (try dsimp only at hSx); go_simp; first | done | with_reducible rfl | assumption | rfl)
          try simp only [Act.put, List.setIfInBounds_toArray, List.set_cons_zero, List.set_cons_succ]
          refine wpAnyH_takeD (i := 28) (some 90) (v := .agg #[.string a.f, .string a.t, .bool a.o]) rfl rfl (by kernel_rfl) (by kernel_rfl) (by kernel_rfl) (fun _ _ _ h => h) (Or.inl ⟨by kernel_rfl, ?hyq29⟩) (by assumption) ?restq29
          case hyq29 => (intro x hSx; have p0 := (hA7.old hSx).cell 0; have p1 := (hA7.old hSx).cell 1; have p2 := (hA7.old hSx).cell 2; (try dsimp only at hSx); go_simp; first | done | with_reducible rfl | assumption | rfl)
          try simp only [Act.put, List.setIfInBounds_toArray, List.set_cons_zero, List.set_cons_succ]
          refine wpAnyH_takeD (i := 31) (some 93) (v := .agg #[.string a.f, .string a.t, .bool a.o]) rfl rfl (by kernel_rfl) (by kernel_rfl) (by kernel_rfl) (fun _ _ _ h => h) (Or.inl ⟨by kernel_rfl, ?hyq30⟩) (by assumption) ?restq30
          case hyq30 => (intro x hSx; have p0 := (hA7.old hSx).cell 0; have p1 := (hA7.old hSx).cell 1; have p2 := (hA7.old hSx).cell 2; (try dsimp only at hSx); go_simp; first | done | with_reducible rfl | assumption | rfl)
          try simp only [Act.put, List.setIfInBounds_toArray, List.set_cons_zero, List.set_cons_succ]
          refine wpAnyH_ready (rs := [29]) (by kernel_rfl) (by simp) ?_
          refine AllReadyH.cons rfl (fun K hK => ?_) AllReadyH.nil
          go_simp
          go_wp2_with (go_at_call 7; refine (hme3 _).mono ?_; rintro e yq31 ⟨rfl, hbq31⟩)
          refine hK.out _ _ (hHq24.trans (hbq31.mono hHq24.size)) (fun hHq31 => ?_)
          clear hK K
          try simp only [Act.put, List.setIfInBounds_toArray, List.set_cons_zero, List.set_cons_succ]
          refine wpAnyH_ready (rs := [30]) (by kernel_rfl) (by simp) ?_
          refine AllReadyH.cons rfl (fun K hK => ?_) AllReadyH.nil
          go_simp
          go_wp2_with (go_at_call 9; refine (hes _).mono ?_; rintro e yq32 ⟨rfl, hbq32⟩)
          refine hK.out _ _ (hHq31.trans (hbq32.mono hHq31.size)) (fun hHq32 => ?_)
          clear hK K
          try simp only [Act.put, List.setIfInBounds_toArray, List.set_cons_zero, List.set_cons_succ]
          refine wpAnyH_ready (rs := [32]) (by kernel_rfl) (by simp) ?_
          refine AllReadyH.cons rfl (fun K hK => ?_) AllReadyH.nil
          go_simp
          go_wp2_with (go_at_call 9; refine (hea _).mono ?_; rintro e yq33 ⟨rfl, hbq33⟩)
          refine hK.out _ _ (hHq32.trans (hbq33.mono hHq32.size)) (fun hHq33 => ?_)
          clear hK K
          try simp only [Act.put, List.setIfInBounds_toArray, List.set_cons_zero, List.set_cons_succ]
          refine wpAnyH_takeD (i := 33) (some 95) (v := .bool false) rfl rfl (by kernel_rfl) (by kernel_rfl) (by kernel_rfl) (fun _ _ _ h => h) (Or.inl ⟨by kernel_rfl, ?hyq34⟩) (by assumption) ?restq34
          case hyq34 => (intro x hSx; (try dsimp only at hSx); go_simp; first | done | with_reducible rfl | assumption | rfl)
          try simp only [Act.put, List.setIfInBounds_toArray, List.set_cons_zero, List.set_cons_succ]
          refine wpAnyH_takeD (i := 34) (some 96) (v := .bool false) rfl rfl (by kernel_rfl) (by kernel_rfl) (by kernel_rfl) (fun _ _ _ h => h) (Or.inl ⟨by kernel_rfl, ?hyq35⟩) (by assumption) ?restq35
          case hyq35 => (intro x hSx; (try dsimp only at hSx); go_simp; first | done | with_reducible rfl | assumption | rfl)
          try simp only [Act.put, List.setIfInBounds_toArray, List.set_cons_zero, List.set_cons_succ]
          refine wpAnyH_done (by kernel_rfl) ?_ _
          have hA8 := hA7.old hHq33
          have hB8 := hB7.old hHq33
          have hM8 := hM7.old hHq33
          have hN8 := hN7.old hHq33
          have hb08 := hb07.trans (hHq33.mono hb07.size)
          clear hrm hra heb hrb hem hme3 hes hA7 hB7 hM7 hN7 hb07
          have hz1 : a.f.size + 1 ≤ 9223372036854775807 := by omega
          have hz2 : b.t.size + 1 ≤ 9223372036854775807 := by omega
          have a0 := hA8.cell 0
          have a1 := hA8.cell 1
          have a2 := hA8.cell 2
          have b0 := hB8.cell 0
          have b1 := hB8.cell 1
          have b2 := hB8.cell 2
          have hb89 := (Below.refl yq33.heap.size yq33).alloc (Nat.le_refl _) (.cells #[.string ⟨#[]⟩, .string a.f, .string a.t, .string b.f, .string b.t, .string (a.f ++ ⟨#[0]⟩), .string (b.t ++ ⟨#[0]⟩)] 9)
          have hQ9 := Blk.new yq33 9 #[.string ⟨#[]⟩, .string a.f, .string a.t, .string b.f, .string b.t, .string (a.f ++ ⟨#[0]⟩), .string (b.t ++ ⟨#[0]⟩)]
          have hA9 := hA8.old hb89
          have hB9 := hB8.old hb89
          have hM9 := hM8.old hb89
          have hN9 := hN8.old hb89
          have hb09 := hb08.trans (hb89.mono hb08.size)
          obtain ⟨q, hq⟩ : ∃ q, yq33.heap.size = q := ⟨_, rfl⟩
          rw [hq] at hQ9
          clear hb89
          go_upto_region 13 with fail
          try simp only [hq]
          generalize yq33.alloc (.cells #[.string ⟨#[]⟩, .string a.f, .string a.t, .string b.f, .string b.t, .string (a.f ++ ⟨#[0]⟩), .string (b.t ++ ⟨#[0]⟩)] 9) = w9 at hQ9 hA9 hB9 hM9 hN9 hb09 ⊢
          clear hq hA8 hB8 hM8 hN8 hb08 a0 a1 a2 b0 b1 b2
          go_wp2_with fail
          go_loopw [12] (fun iv wr => ∃ (i : Nat), i ≤ j + 7 ∧ iv = .int .i64 (i : Int) ∧ Below w9.heap.size w9 wr) (fun iv _ => j + 7 - (intOf iv).toNat)
          case atStart => exact ⟨0, Nat.zero_le _, rfl, Below.refl _ _⟩
          case round =>
            obtain ⟨i, hi, rfl, hbx⟩ := hrel
            by_cases hlt2 : i < j + 7
            · by_cases hlt3 : i < j
              · have hlt4 : i < ks.length := by rw [HL.out]; exact hlt3
                obtain ⟨bb, off, hka, hcell⟩ : ∃ bb off, ka = some ⟨bb, off, none⟩ ∧ wr.cell? ⟨bb, off + i, none⟩ = some (.string ks[i]) := by
                  rcases hS with h | ⟨bb, off, h1, h2, h3⟩
                  · rw [h] at hlt4; exact absurd hlt4 (Nat.not_lt_zero _)
                  · exact ⟨bb, off, h1, ((hb09.trans (hbx.mono hb09.size)).cell (p := ⟨bb, off + i, none⟩) h2).trans (h3 i hlt4)⟩
                subst hka
                have hkey := hkk i hlt4
                generalize ks[i] = key at hcell hkey
                have t5 : decide ((i : Int) < (j : Int) + 7) = true := by simp; omega
                have t6 : decide ((i : Int) < (j : Int)) = true := by simp; omega
                have t7 : (i : Int) < (j : Int) + 7 := by omega
                have hA10 := hA9.old hbx
                have hB10 := hB9.old hbx
                have hM10 := hM9.old hbx
                have hN10 := hN9.old hbx
                have hha : ∀ W, Calls Tryz.prog 11 #[spV a, .string key] W fun e w' => e = .returned (.bool (hasS a key)) ∧ Below W.heap.size W w' := fun W => has_any a key W
                have hhb : ∀ W, Calls Tryz.prog 11 #[spV b, .string key] W fun e w' => e = .returned (.bool (hasS b key)) ∧ Below W.heap.size W w' := fun W => has_any b key W
                have hqa : ∀ W, Calls Tryz.prog 12 #[spV a, .string key] W fun e w' => e = .returned (.bool (hasS a key)) ∧ Below W.heap.size W w' := fun W => rhas_any a key (by omega) (by omega) (by omega) W
                have hqb : ∀ W, Calls Tryz.prog 12 #[spV b, .string key] W fun e w' => e = .returned (.bool (hasS b key)) ∧ Below W.heap.size W w' := fun W => rhas_any b key (by omega) (by omega) (by omega) W
                have hhm : ∀ W, Calls Tryz.prog 11 #[spV m, .string key] W fun e w' => e = .returned (.bool (hasS a key && hasS b key)) ∧ Below W.heap.size W w' := fun W => by rw [← HM.out key]; exact has_any m key W
                have hfx := HF.out key
                generalize hasS a key = x at hha hqa hhm hfx
                generalize hasS b key = y at hhb hqb hhm
                unfold spV at hha hhb hqa hqb hhm
                clear HM HF HG hS hkk hQ9
                have a0 := hA10.cell 0
                have a1 := hA10.cell 1
                have a2 := hA10.cell 2
                have b0 := hB10.cell 0
                have b1 := hB10.cell 1
                have b2 := hB10.cell 2
                have m0 := hM10.cell 0
                have m1 := hM10.cell 1
                have m2 := hM10.cell 2
                have n0 := hN10.cell 0
                have n1 := hN10.cell 1
                have n2 := hN10.cell 2
                cases x with
                | true =>
                  simp only [Bool.true_and] at hhm
                  have hea0 : ea = false := hfx rfl
                  subst hea0
                  clear hfx
                  go_wp2_with fail
                  refine (hha _).mono ?_
                  rintro _ w21 ⟨rfl, hb21⟩
                  have hA21 := hA10.old hb21
                  have hB21 := hB10.old hb21
                  have hM21 := hM10.old hb21
                  have hN21 := hN10.old hb21
                  have hx21 := hbx.trans (hb21.mono hbx.size)
                  clear a0 a1 a2 b0 b1 b2 m0 m1 m2 n0 n1 n2 hb21 hA10 hB10 hM10 hN10
                  have a0 := hA21.cell 0
                  have a1 := hA21.cell 1
                  have a2 := hA21.cell 2
                  have b0 := hB21.cell 0
                  have b1 := hB21.cell 1
                  have b2 := hB21.cell 2
                  have m0 := hM21.cell 0
                  have m1 := hM21.cell 1
                  have m2 := hM21.cell 2
                  have n0 := hN21.cell 0
                  have n1 := hN21.cell 1
                  have n2 := hN21.cell 2
                  go_wp2_with fail
                  refine (hhb _).mono ?_
                  rintro _ w22 ⟨rfl, hb22⟩
                  have hA22 := hA21.old hb22
                  have hB22 := hB21.old hb22
                  have hM22 := hM21.old hb22
                  have hN22 := hN21.old hb22
                  have hx22 := hx21.trans (hb22.mono hx21.size)
                  clear a0 a1 a2 b0 b1 b2 m0 m1 m2 n0 n1 n2 hb22 hA21 hB21 hM21 hN21
                  have a0 := hA22.cell 0
                  have a1 := hA22.cell 1
                  have a2 := hA22.cell 2
                  have b0 := hB22.cell 0
                  have b1 := hB22.cell 1
                  have b2 := hB22.cell 2
                  have m0 := hM22.cell 0
                  have m1 := hM22.cell 1
                  have m2 := hM22.cell 2
                  have n0 := hN22.cell 0
                  have n1 := hN22.cell 1
                  have n2 := hN22.cell 2
                  go_wp2_with fail
                  refine (hqa _).mono ?_
                  rintro _ w23 ⟨rfl, hb23⟩
                  have hA23 := hA22.old hb23
                  have hB23 := hB22.old hb23
                  have hM23 := hM22.old hb23
                  have hN23 := hN22.old hb23
                  have hx23 := hx22.trans (hb23.mono hx22.size)
                  clear a0 a1 a2 b0 b1 b2 m0 m1 m2 n0 n1 n2 hb23 hA22 hB22 hM22 hN22
                  have a0 := hA23.cell 0
                  have a1 := hA23.cell 1
                  have a2 := hA23.cell 2
                  have b0 := hB23.cell 0
                  have b1 := hB23.cell 1
                  have b2 := hB23.cell 2
                  have m0 := hM23.cell 0
                  have m1 := hM23.cell 1
                  have m2 := hM23.cell 2
                  have n0 := hN23.cell 0
                  have n1 := hN23.cell 1
                  have n2 := hN23.cell 2
                  go_wp2_with fail
                  refine (hqb _).mono ?_
                  rintro _ w24 ⟨rfl, hb24⟩
                  have hA24 := hA23.old hb24
                  have hB24 := hB23.old hb24
                  have hM24 := hM23.old hb24
                  have hN24 := hN23.old hb24
                  have hx24 := hx23.trans (hb24.mono hx23.size)
                  clear a0 a1 a2 b0 b1 b2 m0 m1 m2 n0 n1 n2 hb24 hA23 hB23 hM23 hN23
                  have a0 := hA24.cell 0
                  have a1 := hA24.cell 1
                  have a2 := hA24.cell 2
                  have b0 := hB24.cell 0
                  have b1 := hB24.cell 1
                  have b2 := hB24.cell 2
                  have m0 := hM24.cell 0
                  have m1 := hM24.cell 1
                  have m2 := hM24.cell 2
                  have n0 := hN24.cell 0
                  have n1 := hN24.cell 1
                  have n2 := hN24.cell 2
                  go_wp2_with fail
                  refine (hhm _).mono ?_
                  rintro _ w25 ⟨rfl, hb25⟩
                  have hA25 := hA24.old hb25
                  have hB25 := hB24.old hb25
                  have hM25 := hM24.old hb25
                  have hN25 := hN24.old hb25
                  have hx25 := hx24.trans (hb25.mono hx24.size)
                  clear a0 a1 a2 b0 b1 b2 m0 m1 m2 n0 n1 n2 hb25 hA24 hB24 hM24 hN24
                  have a0 := hA25.cell 0
                  have a1 := hA25.cell 1
                  have a2 := hA25.cell 2
                  have b0 := hB25.cell 0
                  have b1 := hB25.cell 1
                  have b2 := hB25.cell 2
                  have m0 := hM25.cell 0
                  have m1 := hM25.cell 1
                  have m2 := hM25.cell 2
                  have n0 := hN25.cell 0
                  have n1 := hN25.cell 1
                  have n2 := hN25.cell 2
                  go_wp2_with fail
                  refine (hhm _).mono ?_
                  rintro _ w26 ⟨rfl, hb26⟩
                  have hA26 := hA25.old hb26
                  have hB26 := hB25.old hb26
                  have hM26 := hM25.old hb26
                  have hN26 := hN25.old hb26
                  have hx26 := hx25.trans (hb26.mono hx25.size)
                  clear a0 a1 a2 b0 b1 b2 m0 m1 m2 n0 n1 n2 hb26 hA25 hB25 hM25 hN25
                  have a0 := hA26.cell 0
                  have a1 := hA26.cell 1
                  have a2 := hA26.cell 2
                  have b0 := hB26.cell 0
                  have b1 := hB26.cell 1
                  have b2 := hB26.cell 2
                  have m0 := hM26.cell 0
                  have m1 := hM26.cell 1
                  have m2 := hM26.cell 2
                  have n0 := hN26.cell 0
                  have n1 := hN26.cell 1
                  have n2 := hN26.cell 2
                  go_wp2_with fail
                  refine (hea _).mono ?_
                  rintro _ w27 ⟨rfl, hb27⟩
                  have hA27 := hA26.old hb27
                  have hB27 := hB26.old hb27
                  have hM27 := hM26.old hb27
                  have hN27 := hN26.old hb27
                  have hx27 := hx26.trans (hb27.mono hx26.size)
                  clear a0 a1 a2 b0 b1 b2 m0 m1 m2 n0 n1 n2 hb27 hA26 hB26 hM26 hN26
                  have a0 := hA27.cell 0
                  have a1 := hA27.cell 1
                  have a2 := hA27.cell 2
                  have b0 := hB27.cell 0
                  have b1 := hB27.cell 1
                  have b2 := hB27.cell 2
                  have m0 := hM27.cell 0
                  have m1 := hM27.cell 1
                  have m2 := hM27.cell 2
                  have n0 := hN27.cell 0
                  have n1 := hN27.cell 1
                  have n2 := hN27.cell 2
                  clear hha hhb hqa hqb hhm hea a0 a1 a2 b0 b1 b2 m0 m1 m2 n0 n1 n2 hA27 hB27 hM27 hN27
                  go_wp2_with fail
                  go_roundw
                  case rel => exact ⟨i + 1, by omega, by go_num, hx27⟩
                  case measure => simp [intOf]; omega
                | false =>
                  simp only [Bool.false_and] at hhm
                  clear hfx
                  go_wp2_with fail
                  refine (hha _).mono ?_
                  rintro _ w28 ⟨rfl, hb28⟩
                  have hA28 := hA10.old hb28
                  have hB28 := hB10.old hb28
                  have hM28 := hM10.old hb28
                  have hN28 := hN10.old hb28
                  have hx28 := hbx.trans (hb28.mono hbx.size)
                  clear a0 a1 a2 b0 b1 b2 m0 m1 m2 n0 n1 n2 hb28 hA10 hB10 hM10 hN10
                  have a0 := hA28.cell 0
                  have a1 := hA28.cell 1
                  have a2 := hA28.cell 2
                  have b0 := hB28.cell 0
                  have b1 := hB28.cell 1
                  have b2 := hB28.cell 2
                  have m0 := hM28.cell 0
                  have m1 := hM28.cell 1
                  have m2 := hM28.cell 2
                  have n0 := hN28.cell 0
                  have n1 := hN28.cell 1
                  have n2 := hN28.cell 2
                  go_wp2_with fail
                  refine (hhb _).mono ?_
                  rintro _ w29 ⟨rfl, hb29⟩
                  have hA29 := hA28.old hb29
                  have hB29 := hB28.old hb29
                  have hM29 := hM28.old hb29
                  have hN29 := hN28.old hb29
                  have hx29 := hx28.trans (hb29.mono hx28.size)
                  clear a0 a1 a2 b0 b1 b2 m0 m1 m2 n0 n1 n2 hb29 hA28 hB28 hM28 hN28
                  have a0 := hA29.cell 0
                  have a1 := hA29.cell 1
                  have a2 := hA29.cell 2
                  have b0 := hB29.cell 0
                  have b1 := hB29.cell 1
                  have b2 := hB29.cell 2
                  have m0 := hM29.cell 0
                  have m1 := hM29.cell 1
                  have m2 := hM29.cell 2
                  have n0 := hN29.cell 0
                  have n1 := hN29.cell 1
                  have n2 := hN29.cell 2
                  go_wp2_with fail
                  refine (hqa _).mono ?_
                  rintro _ w30 ⟨rfl, hb30⟩
                  have hA30 := hA29.old hb30
                  have hB30 := hB29.old hb30
                  have hM30 := hM29.old hb30
                  have hN30 := hN29.old hb30
                  have hx30 := hx29.trans (hb30.mono hx29.size)
                  clear a0 a1 a2 b0 b1 b2 m0 m1 m2 n0 n1 n2 hb30 hA29 hB29 hM29 hN29
                  have a0 := hA30.cell 0
                  have a1 := hA30.cell 1
                  have a2 := hA30.cell 2
                  have b0 := hB30.cell 0
                  have b1 := hB30.cell 1
                  have b2 := hB30.cell 2
                  have m0 := hM30.cell 0
                  have m1 := hM30.cell 1
                  have m2 := hM30.cell 2
                  have n0 := hN30.cell 0
                  have n1 := hN30.cell 1
                  have n2 := hN30.cell 2
                  go_wp2_with fail
                  refine (hqb _).mono ?_
                  rintro _ w31 ⟨rfl, hb31⟩
                  have hA31 := hA30.old hb31
                  have hB31 := hB30.old hb31
                  have hM31 := hM30.old hb31
                  have hN31 := hN30.old hb31
                  have hx31 := hx30.trans (hb31.mono hx30.size)
                  clear a0 a1 a2 b0 b1 b2 m0 m1 m2 n0 n1 n2 hb31 hA30 hB30 hM30 hN30
                  have a0 := hA31.cell 0
                  have a1 := hA31.cell 1
                  have a2 := hA31.cell 2
                  have b0 := hB31.cell 0
                  have b1 := hB31.cell 1
                  have b2 := hB31.cell 2
                  have m0 := hM31.cell 0
                  have m1 := hM31.cell 1
                  have m2 := hM31.cell 2
                  have n0 := hN31.cell 0
                  have n1 := hN31.cell 1
                  have n2 := hN31.cell 2
                  go_wp2_with fail
                  refine (hhm _).mono ?_
                  rintro _ w32 ⟨rfl, hb32⟩
                  have hA32 := hA31.old hb32
                  have hB32 := hB31.old hb32
                  have hM32 := hM31.old hb32
                  have hN32 := hN31.old hb32
                  have hx32 := hx31.trans (hb32.mono hx31.size)
                  clear a0 a1 a2 b0 b1 b2 m0 m1 m2 n0 n1 n2 hb32 hA31 hB31 hM31 hN31
                  have a0 := hA32.cell 0
                  have a1 := hA32.cell 1
                  have a2 := hA32.cell 2
                  have b0 := hB32.cell 0
                  have b1 := hB32.cell 1
                  have b2 := hB32.cell 2
                  have m0 := hM32.cell 0
                  have m1 := hM32.cell 1
                  have m2 := hM32.cell 2
                  have n0 := hN32.cell 0
                  have n1 := hN32.cell 1
                  have n2 := hN32.cell 2
                  go_wp2_with fail
                  refine (hhm _).mono ?_
                  rintro _ w33 ⟨rfl, hb33⟩
                  have hA33 := hA32.old hb33
                  have hB33 := hB32.old hb33
                  have hM33 := hM32.old hb33
                  have hN33 := hN32.old hb33
                  have hx33 := hx32.trans (hb33.mono hx32.size)
                  clear a0 a1 a2 b0 b1 b2 m0 m1 m2 n0 n1 n2 hb33 hA32 hB32 hM32 hN32
                  have a0 := hA33.cell 0
                  have a1 := hA33.cell 1
                  have a2 := hA33.cell 2
                  have b0 := hB33.cell 0
                  have b1 := hB33.cell 1
                  have b2 := hB33.cell 2
                  have m0 := hM33.cell 0
                  have m1 := hM33.cell 1
                  have m2 := hM33.cell 2
                  have n0 := hN33.cell 0
                  have n1 := hN33.cell 1
                  have n2 := hN33.cell 2
                  clear hha hhb hqa hqb hhm hea a0 a1 a2 b0 b1 b2 m0 m1 m2 n0 n1 n2 hA33 hB33 hM33 hN33
                  go_wp2_with fail
                  go_roundw
                  case rel => exact ⟨i + 1, by omega, by go_num, hx33⟩
                  case measure => simp [intOf]; omega
              · obtain ⟨d, hd, hd7⟩ : ∃ d, Hid (i = j + d) ∧ d < 7 := ⟨i - j, (by show _ = _; omega), by omega⟩
                have hcq := (hQ9.old hbx).cell d
                obtain ⟨key, hkey, hcell⟩ : ∃ key : ByteArray, key.size ≤ 8388608 ∧ wr.cell? ⟨q, d, none⟩ = some (.string key) := by
                  rcases d with _ | _ | _ | _ | _ | _ | _ | d
                  · exact ⟨⟨#[]⟩, by decide, hcq⟩
                  · exact ⟨a.f, by omega, hcq⟩
                  · exact ⟨a.t, by omega, hcq⟩
                  · exact ⟨b.f, by omega, hcq⟩
                  · exact ⟨b.t, by omega, hcq⟩
                  · exact ⟨a.f ++ (⟨#[0]⟩ : ByteArray), by rw [ByteArray.size_append]; have : (⟨#[0]⟩ : ByteArray).size = 1 := rfl; omega, hcq⟩
                  · exact ⟨b.t ++ (⟨#[0]⟩ : ByteArray), by rw [ByteArray.size_append]; have : (⟨#[0]⟩ : ByteArray).size = 1 := rfl; omega, hcq⟩
                  · omega
                clear hcq
                have hsub : (i : Int) - (j : Int) = (d : Int) := by have := hd.out; omega
                have t5 : decide ((i : Int) < (j : Int) + 7) = true := by simp; omega
                have t6 : decide ((i : Int) < (j : Int)) = false := by simp; omega
                have t7 : (i : Int) < (j : Int) + 7 := by omega
                have t8 : decide ((d : Int) < 0) = false := by simp
                have t9 : decide ((7 : Int) ≤ (d : Int)) = false := by simp; omega
                have t10 : decide (7 ≤ d) = false := by simp; omega
                have hA10 := hA9.old hbx
                have hB10 := hB9.old hbx
                have hM10 := hM9.old hbx
                have hN10 := hN9.old hbx
                have hha : ∀ W, Calls Tryz.prog 11 #[spV a, .string key] W fun e w' => e = .returned (.bool (hasS a key)) ∧ Below W.heap.size W w' := fun W => has_any a key W
                have hhb : ∀ W, Calls Tryz.prog 11 #[spV b, .string key] W fun e w' => e = .returned (.bool (hasS b key)) ∧ Below W.heap.size W w' := fun W => has_any b key W
                have hqa : ∀ W, Calls Tryz.prog 12 #[spV a, .string key] W fun e w' => e = .returned (.bool (hasS a key)) ∧ Below W.heap.size W w' := fun W => rhas_any a key (by omega) (by omega) (by omega) W
                have hqb : ∀ W, Calls Tryz.prog 12 #[spV b, .string key] W fun e w' => e = .returned (.bool (hasS b key)) ∧ Below W.heap.size W w' := fun W => rhas_any b key (by omega) (by omega) (by omega) W
                have hhm : ∀ W, Calls Tryz.prog 11 #[spV m, .string key] W fun e w' => e = .returned (.bool (hasS a key && hasS b key)) ∧ Below W.heap.size W w' := fun W => by rw [← HM.out key]; exact has_any m key W
                have hfx := HF.out key
                generalize hasS a key = x at hha hqa hhm hfx
                generalize hasS b key = y at hhb hqb hhm
                unfold spV at hha hhb hqa hqb hhm
                clear HM HF HG hS hkk hQ9
                have a0 := hA10.cell 0
                have a1 := hA10.cell 1
                have a2 := hA10.cell 2
                have b0 := hB10.cell 0
                have b1 := hB10.cell 1
                have b2 := hB10.cell 2
                have m0 := hM10.cell 0
                have m1 := hM10.cell 1
                have m2 := hM10.cell 2
                have n0 := hN10.cell 0
                have n1 := hN10.cell 1
                have n2 := hN10.cell 2
                cases x with
                | true =>
                  simp only [Bool.true_and] at hhm
                  have hea0 : ea = false := hfx rfl
                  subst hea0
                  clear hfx
                  go_wp2_with fail
                  refine (hha _).mono ?_
                  rintro _ w34 ⟨rfl, hb34⟩
                  have hA34 := hA10.old hb34
                  have hB34 := hB10.old hb34
                  have hM34 := hM10.old hb34
                  have hN34 := hN10.old hb34
                  have hx34 := hbx.trans (hb34.mono hbx.size)
                  clear a0 a1 a2 b0 b1 b2 m0 m1 m2 n0 n1 n2 hb34 hA10 hB10 hM10 hN10
                  have a0 := hA34.cell 0
                  have a1 := hA34.cell 1
                  have a2 := hA34.cell 2
                  have b0 := hB34.cell 0
                  have b1 := hB34.cell 1
                  have b2 := hB34.cell 2
                  have m0 := hM34.cell 0
                  have m1 := hM34.cell 1
                  have m2 := hM34.cell 2
                  have n0 := hN34.cell 0
                  have n1 := hN34.cell 1
                  have n2 := hN34.cell 2
                  go_wp2_with fail
                  refine (hhb _).mono ?_
                  rintro _ w35 ⟨rfl, hb35⟩
                  have hA35 := hA34.old hb35
                  have hB35 := hB34.old hb35
                  have hM35 := hM34.old hb35
                  have hN35 := hN34.old hb35
                  have hx35 := hx34.trans (hb35.mono hx34.size)
                  clear a0 a1 a2 b0 b1 b2 m0 m1 m2 n0 n1 n2 hb35 hA34 hB34 hM34 hN34
                  have a0 := hA35.cell 0
                  have a1 := hA35.cell 1
                  have a2 := hA35.cell 2
                  have b0 := hB35.cell 0
                  have b1 := hB35.cell 1
                  have b2 := hB35.cell 2
                  have m0 := hM35.cell 0
                  have m1 := hM35.cell 1
                  have m2 := hM35.cell 2
                  have n0 := hN35.cell 0
                  have n1 := hN35.cell 1
                  have n2 := hN35.cell 2
                  go_wp2_with fail
                  refine (hqa _).mono ?_
                  rintro _ w36 ⟨rfl, hb36⟩
                  have hA36 := hA35.old hb36
                  have hB36 := hB35.old hb36
                  have hM36 := hM35.old hb36
                  have hN36 := hN35.old hb36
                  have hx36 := hx35.trans (hb36.mono hx35.size)
                  clear a0 a1 a2 b0 b1 b2 m0 m1 m2 n0 n1 n2 hb36 hA35 hB35 hM35 hN35
                  have a0 := hA36.cell 0
                  have a1 := hA36.cell 1
                  have a2 := hA36.cell 2
                  have b0 := hB36.cell 0
                  have b1 := hB36.cell 1
                  have b2 := hB36.cell 2
                  have m0 := hM36.cell 0
                  have m1 := hM36.cell 1
                  have m2 := hM36.cell 2
                  have n0 := hN36.cell 0
                  have n1 := hN36.cell 1
                  have n2 := hN36.cell 2
                  go_wp2_with fail
                  refine (hqb _).mono ?_
                  rintro _ w37 ⟨rfl, hb37⟩
                  have hA37 := hA36.old hb37
                  have hB37 := hB36.old hb37
                  have hM37 := hM36.old hb37
                  have hN37 := hN36.old hb37
                  have hx37 := hx36.trans (hb37.mono hx36.size)
                  clear a0 a1 a2 b0 b1 b2 m0 m1 m2 n0 n1 n2 hb37 hA36 hB36 hM36 hN36
                  have a0 := hA37.cell 0
                  have a1 := hA37.cell 1
                  have a2 := hA37.cell 2
                  have b0 := hB37.cell 0
                  have b1 := hB37.cell 1
                  have b2 := hB37.cell 2
                  have m0 := hM37.cell 0
                  have m1 := hM37.cell 1
                  have m2 := hM37.cell 2
                  have n0 := hN37.cell 0
                  have n1 := hN37.cell 1
                  have n2 := hN37.cell 2
                  go_wp2_with fail
                  refine (hhm _).mono ?_
                  rintro _ w38 ⟨rfl, hb38⟩
                  have hA38 := hA37.old hb38
                  have hB38 := hB37.old hb38
                  have hM38 := hM37.old hb38
                  have hN38 := hN37.old hb38
                  have hx38 := hx37.trans (hb38.mono hx37.size)
                  clear a0 a1 a2 b0 b1 b2 m0 m1 m2 n0 n1 n2 hb38 hA37 hB37 hM37 hN37
                  have a0 := hA38.cell 0
                  have a1 := hA38.cell 1
                  have a2 := hA38.cell 2
                  have b0 := hB38.cell 0
                  have b1 := hB38.cell 1
                  have b2 := hB38.cell 2
                  have m0 := hM38.cell 0
                  have m1 := hM38.cell 1
                  have m2 := hM38.cell 2
                  have n0 := hN38.cell 0
                  have n1 := hN38.cell 1
                  have n2 := hN38.cell 2
                  go_wp2_with fail
                  refine (hhm _).mono ?_
                  rintro _ w39 ⟨rfl, hb39⟩
                  have hA39 := hA38.old hb39
                  have hB39 := hB38.old hb39
                  have hM39 := hM38.old hb39
                  have hN39 := hN38.old hb39
                  have hx39 := hx38.trans (hb39.mono hx38.size)
                  clear a0 a1 a2 b0 b1 b2 m0 m1 m2 n0 n1 n2 hb39 hA38 hB38 hM38 hN38
                  have a0 := hA39.cell 0
                  have a1 := hA39.cell 1
                  have a2 := hA39.cell 2
                  have b0 := hB39.cell 0
                  have b1 := hB39.cell 1
                  have b2 := hB39.cell 2
                  have m0 := hM39.cell 0
                  have m1 := hM39.cell 1
                  have m2 := hM39.cell 2
                  have n0 := hN39.cell 0
                  have n1 := hN39.cell 1
                  have n2 := hN39.cell 2
                  go_wp2_with fail
                  refine (hea _).mono ?_
                  rintro _ w40 ⟨rfl, hb40⟩
                  have hA40 := hA39.old hb40
                  have hB40 := hB39.old hb40
                  have hM40 := hM39.old hb40
                  have hN40 := hN39.old hb40
                  have hx40 := hx39.trans (hb40.mono hx39.size)
                  clear a0 a1 a2 b0 b1 b2 m0 m1 m2 n0 n1 n2 hb40 hA39 hB39 hM39 hN39
                  have a0 := hA40.cell 0
                  have a1 := hA40.cell 1
                  have a2 := hA40.cell 2
                  have b0 := hB40.cell 0
                  have b1 := hB40.cell 1
                  have b2 := hB40.cell 2
                  have m0 := hM40.cell 0
                  have m1 := hM40.cell 1
                  have m2 := hM40.cell 2
                  have n0 := hN40.cell 0
                  have n1 := hN40.cell 1
                  have n2 := hN40.cell 2
                  clear hha hhb hqa hqb hhm hea a0 a1 a2 b0 b1 b2 m0 m1 m2 n0 n1 n2 hA40 hB40 hM40 hN40
                  go_wp2_with fail
                  go_roundw
                  case rel => exact ⟨i + 1, by omega, by go_num, hx40⟩
                  case measure => simp [intOf]; omega
                | false =>
                  simp only [Bool.false_and] at hhm
                  clear hfx
                  go_wp2_with fail
                  refine (hha _).mono ?_
                  rintro _ w41 ⟨rfl, hb41⟩
                  have hA41 := hA10.old hb41
                  have hB41 := hB10.old hb41
                  have hM41 := hM10.old hb41
                  have hN41 := hN10.old hb41
                  have hx41 := hbx.trans (hb41.mono hbx.size)
                  clear a0 a1 a2 b0 b1 b2 m0 m1 m2 n0 n1 n2 hb41 hA10 hB10 hM10 hN10
                  have a0 := hA41.cell 0
                  have a1 := hA41.cell 1
                  have a2 := hA41.cell 2
                  have b0 := hB41.cell 0
                  have b1 := hB41.cell 1
                  have b2 := hB41.cell 2
                  have m0 := hM41.cell 0
                  have m1 := hM41.cell 1
                  have m2 := hM41.cell 2
                  have n0 := hN41.cell 0
                  have n1 := hN41.cell 1
                  have n2 := hN41.cell 2
                  go_wp2_with fail
                  refine (hhb _).mono ?_
                  rintro _ w42 ⟨rfl, hb42⟩
                  have hA42 := hA41.old hb42
                  have hB42 := hB41.old hb42
                  have hM42 := hM41.old hb42
                  have hN42 := hN41.old hb42
                  have hx42 := hx41.trans (hb42.mono hx41.size)
                  clear a0 a1 a2 b0 b1 b2 m0 m1 m2 n0 n1 n2 hb42 hA41 hB41 hM41 hN41
                  have a0 := hA42.cell 0
                  have a1 := hA42.cell 1
                  have a2 := hA42.cell 2
                  have b0 := hB42.cell 0
                  have b1 := hB42.cell 1
                  have b2 := hB42.cell 2
                  have m0 := hM42.cell 0
                  have m1 := hM42.cell 1
                  have m2 := hM42.cell 2
                  have n0 := hN42.cell 0
                  have n1 := hN42.cell 1
                  have n2 := hN42.cell 2
                  go_wp2_with fail
                  refine (hqa _).mono ?_
                  rintro _ w43 ⟨rfl, hb43⟩
                  have hA43 := hA42.old hb43
                  have hB43 := hB42.old hb43
                  have hM43 := hM42.old hb43
                  have hN43 := hN42.old hb43
                  have hx43 := hx42.trans (hb43.mono hx42.size)
                  clear a0 a1 a2 b0 b1 b2 m0 m1 m2 n0 n1 n2 hb43 hA42 hB42 hM42 hN42
                  have a0 := hA43.cell 0
                  have a1 := hA43.cell 1
                  have a2 := hA43.cell 2
                  have b0 := hB43.cell 0
                  have b1 := hB43.cell 1
                  have b2 := hB43.cell 2
                  have m0 := hM43.cell 0
                  have m1 := hM43.cell 1
                  have m2 := hM43.cell 2
                  have n0 := hN43.cell 0
                  have n1 := hN43.cell 1
                  have n2 := hN43.cell 2
                  go_wp2_with fail
                  refine (hqb _).mono ?_
                  rintro _ w44 ⟨rfl, hb44⟩
                  have hA44 := hA43.old hb44
                  have hB44 := hB43.old hb44
                  have hM44 := hM43.old hb44
                  have hN44 := hN43.old hb44
                  have hx44 := hx43.trans (hb44.mono hx43.size)
                  clear a0 a1 a2 b0 b1 b2 m0 m1 m2 n0 n1 n2 hb44 hA43 hB43 hM43 hN43
                  have a0 := hA44.cell 0
                  have a1 := hA44.cell 1
                  have a2 := hA44.cell 2
                  have b0 := hB44.cell 0
                  have b1 := hB44.cell 1
                  have b2 := hB44.cell 2
                  have m0 := hM44.cell 0
                  have m1 := hM44.cell 1
                  have m2 := hM44.cell 2
                  have n0 := hN44.cell 0
                  have n1 := hN44.cell 1
                  have n2 := hN44.cell 2
                  go_wp2_with fail
                  refine (hhm _).mono ?_
                  rintro _ w45 ⟨rfl, hb45⟩
                  have hA45 := hA44.old hb45
                  have hB45 := hB44.old hb45
                  have hM45 := hM44.old hb45
                  have hN45 := hN44.old hb45
                  have hx45 := hx44.trans (hb45.mono hx44.size)
                  clear a0 a1 a2 b0 b1 b2 m0 m1 m2 n0 n1 n2 hb45 hA44 hB44 hM44 hN44
                  have a0 := hA45.cell 0
                  have a1 := hA45.cell 1
                  have a2 := hA45.cell 2
                  have b0 := hB45.cell 0
                  have b1 := hB45.cell 1
                  have b2 := hB45.cell 2
                  have m0 := hM45.cell 0
                  have m1 := hM45.cell 1
                  have m2 := hM45.cell 2
                  have n0 := hN45.cell 0
                  have n1 := hN45.cell 1
                  have n2 := hN45.cell 2
                  go_wp2_with fail
                  refine (hhm _).mono ?_
                  rintro _ w46 ⟨rfl, hb46⟩
                  have hA46 := hA45.old hb46
                  have hB46 := hB45.old hb46
                  have hM46 := hM45.old hb46
                  have hN46 := hN45.old hb46
                  have hx46 := hx45.trans (hb46.mono hx45.size)
                  clear a0 a1 a2 b0 b1 b2 m0 m1 m2 n0 n1 n2 hb46 hA45 hB45 hM45 hN45
                  have a0 := hA46.cell 0
                  have a1 := hA46.cell 1
                  have a2 := hA46.cell 2
                  have b0 := hB46.cell 0
                  have b1 := hB46.cell 1
                  have b2 := hB46.cell 2
                  have m0 := hM46.cell 0
                  have m1 := hM46.cell 1
                  have m2 := hM46.cell 2
                  have n0 := hN46.cell 0
                  have n1 := hN46.cell 1
                  have n2 := hN46.cell 2
                  clear hha hhb hqa hqb hhm hea a0 a1 a2 b0 b1 b2 m0 m1 m2 n0 n1 n2 hA46 hB46 hM46 hN46
                  go_wp2_with fail
                  go_roundw
                  case rel => exact ⟨i + 1, by omega, by go_num, hx46⟩
                  case measure => simp [intOf]; omega
            · have t5 : decide ((i : Int) < (j : Int) + 7) = false := by simp; omega
              have t7 : ¬ (i : Int) < (j : Int) + 7 := by omega
              have hA10 := hA9.old hbx
              have hB10 := hB9.old hbx
              have hM10 := hM9.old hbx
              have hN10 := hN9.old hbx
              have hha : ∀ W, Calls Tryz.prog 11 #[spV a, .string a.f] W fun e w' => e = .returned (.bool (hasS a a.f)) ∧ Below W.heap.size W w' := fun W => has_any a a.f W
              have hgx := HG.out
              have haw := fun W => awake16_any W
              have hbE := hb09.trans (hbx.mono hb09.size)
              generalize hasS a a.f = x at hha hgx
              unfold spV at hha
              clear HM HF HG hS hkk hQ9 hbx hb09 hA9 hB9 hM9 hN9
              have a0 := hA10.cell 0
              have a1 := hA10.cell 1
              have a2 := hA10.cell 2
              have b0 := hB10.cell 0
              have b1 := hB10.cell 1
              have b2 := hB10.cell 2
              have m0 := hM10.cell 0
              have m1 := hM10.cell 1
              have m2 := hM10.cell 2
              have n0 := hN10.cell 0
              have n1 := hN10.cell 1
              have n2 := hN10.cell 2
              cases ea with
              | true =>
                clear hgx hha
                go_wp2_with fail
                refine (hea _).mono ?_
                rintro _ w47 ⟨rfl, hb47⟩
                have hA47 := hA10.old hb47
                have hB47 := hB10.old hb47
                have hM47 := hM10.old hb47
                have hN47 := hN10.old hb47
                have hx47 := hbE.trans (hb47.mono hbE.size)
                clear a0 a1 a2 b0 b1 b2 m0 m1 m2 n0 n1 n2 hb47 hA10 hB10 hM10 hN10
                have a0 := hA47.cell 0
                have a1 := hA47.cell 1
                have a2 := hA47.cell 2
                have b0 := hB47.cell 0
                have b1 := hB47.cell 1
                have b2 := hB47.cell 2
                have m0 := hM47.cell 0
                have m1 := hM47.cell 1
                have m2 := hM47.cell 2
                have n0 := hN47.cell 0
                have n1 := hN47.cell 1
                have n2 := hN47.cell 2
                go_wp2_with fail
                refine (haw _).mono ?_
                rintro _ w48 ⟨rfl, hb48⟩
                have hA48 := hA47.old hb48
                have hB48 := hB47.old hb48
                have hM48 := hM47.old hb48
                have hN48 := hN47.old hb48
                have hx48 := hx47.trans (hb48.mono hx47.size)
                clear a0 a1 a2 b0 b1 b2 m0 m1 m2 n0 n1 n2 hb48 hA47 hB47 hM47 hN47
                have a0 := hA48.cell 0
                have a1 := hA48.cell 1
                have a2 := hA48.cell 2
                have b0 := hB48.cell 0
                have b1 := hB48.cell 1
                have b2 := hB48.cell 2
                have m0 := hM48.cell 0
                have m1 := hM48.cell 1
                have m2 := hM48.cell 2
                have n0 := hN48.cell 0
                have n1 := hN48.cell 1
                have n2 := hN48.cell 2
                go_wp2_with fail
                go_ret
                exact ⟨rfl, hx48⟩
              | false =>
                have hx0 : x = true := hgx rfl
                subst hx0
                clear hgx
                go_wp2_with fail
                refine (hea _).mono ?_
                rintro _ w49 ⟨rfl, hb49⟩
                have hA49 := hA10.old hb49
                have hB49 := hB10.old hb49
                have hM49 := hM10.old hb49
                have hN49 := hN10.old hb49
                have hx49 := hbE.trans (hb49.mono hbE.size)
                clear a0 a1 a2 b0 b1 b2 m0 m1 m2 n0 n1 n2 hb49 hA10 hB10 hM10 hN10
                have a0 := hA49.cell 0
                have a1 := hA49.cell 1
                have a2 := hA49.cell 2
                have b0 := hB49.cell 0
                have b1 := hB49.cell 1
                have b2 := hB49.cell 2
                have m0 := hM49.cell 0
                have m1 := hM49.cell 1
                have m2 := hM49.cell 2
                have n0 := hN49.cell 0
                have n1 := hN49.cell 1
                have n2 := hN49.cell 2
                go_wp2_with fail
                refine (hha _).mono ?_
                rintro _ w50 ⟨rfl, hb50⟩
                have hA50 := hA49.old hb50
                have hB50 := hB49.old hb50
                have hM50 := hM49.old hb50
                have hN50 := hN49.old hb50
                have hx50 := hx49.trans (hb50.mono hx49.size)
                clear a0 a1 a2 b0 b1 b2 m0 m1 m2 n0 n1 n2 hb50 hA49 hB49 hM49 hN49
                have a0 := hA50.cell 0
                have a1 := hA50.cell 1
                have a2 := hA50.cell 2
                have b0 := hB50.cell 0
                have b1 := hB50.cell 1
                have b2 := hB50.cell 2
                have m0 := hM50.cell 0
                have m1 := hM50.cell 1
                have m2 := hM50.cell 2
                have n0 := hN50.cell 0
                have n1 := hN50.cell 1
                have n2 := hN50.cell 2
                go_wp2_with fail
                refine (haw _).mono ?_
                rintro _ w51 ⟨rfl, hb51⟩
                have hA51 := hA50.old hb51
                have hB51 := hB50.old hb51
                have hM51 := hM50.old hb51
                have hN51 := hN50.old hb51
                have hx51 := hx50.trans (hb51.mono hx50.size)
                clear a0 a1 a2 b0 b1 b2 m0 m1 m2 n0 n1 n2 hb51 hA50 hB50 hM50 hN50
                have a0 := hA51.cell 0
                have a1 := hA51.cell 1
                have a2 := hA51.cell 2
                have b0 := hB51.cell 0
                have b1 := hB51.cell 1
                have b2 := hB51.cell 2
                have m0 := hM51.cell 0
                have m1 := hM51.cell 1
                have m2 := hM51.cell 2
                have n0 := hN51.cell 0
                have n1 := hN51.cell 1
                have n2 := hN51.cell 2
                go_wp2_with fail
                go_ret
                exact ⟨rfl, hx51⟩

end Go.Proofs.YtgefbgpfjbbeaaaGreatDoor
