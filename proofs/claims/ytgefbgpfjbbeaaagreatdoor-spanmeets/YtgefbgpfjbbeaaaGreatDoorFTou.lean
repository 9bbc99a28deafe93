/- What schema's tour does with one field (contracts; nothing is claimed here). -/
import Derived.Test.YtgefbgpfjbbeaaaGreatDoorJ6
namespace Go.Proofs.YtgefbgpfjbbeaaaGreatDoor
open Go.RowKit Go.Vf

theorem bytes_eq (a b : ByteArray) : (a.toList == b.toList) = decide (a = b) := by
  rw [ByteArray.toList_eq, ByteArray.toList_eq]
  rw [Bool.eq_iff_iff]
  simp only [beq_iff_eq, decide_eq_true_eq]
  constructor
  · intro h
    cases a; cases b
    simp only at h
    congr
    exact Array.toList_inj.1 h
  · rintro rfl; rfl
theorem sameName_any (o : Own) (a : Option Addr) (n c B : Nat) (nm : ByteArray) (w : World) (h : w.cell? ⟨B, 0, none⟩ = some (.string nm)) (hB : B < w.heap.size) :
    Calls Tryz.prog 116 #[fV o a n c, .pointer (some ⟨B, 0, none⟩)] w fun e w' => e = .returned (.bool (decide (o.name = nm))) ∧ Below w.heap.size w w' := by
  have hb0 := (Below.refl w.heap.size w).alloc (Nat.le_refl _) (.cells (cellsF o a n c) 50)
  have hbe := bytes_eq o.name nm
  simp only [cellsF] at hb0
  unfold fV
  go_enter Tryz.func116, Tryz.ntmps116
  go_wp2_with fail
  go_ret
  exact ⟨by first | rfl | rw [hbe], hb0⟩
theorem any_dropF {α : Type} (p : α → Bool) (l : List α) (j : Nat) (h : j < l.length) : (l.drop j).any p = (p l[j] || (l.drop (j + 1)).any p) := by
  rw [List.drop_eq_getElem_cons h]; rfl
set_option maxHeartbeats 1000000 in
set_option maxRecDepth 20000 in
theorem indexFunc_any (l : List Fld) (hl : l.length ≤ 281474976710656) (a : Option Addr) (c B lo n₀ : Nat) (nm : ByteArray) (w : World) (hn : n₀ ≤ w.heap.size) (hin : FIn w lo n₀ l a) (h : w.cell? ⟨B, 0, none⟩ = some (.string nm)) (hB : B < w.heap.size) :
    Calls Tryz.prog 149 #[.slice a l.length c, .func (.func 116) #[] #[.pointer (some ⟨B, 0, none⟩)]] w fun e w' => ∃ r : Int, e = .returned (.int .i64 r) ∧ decide (0 ≤ r) = l.any (fun g => decide (g.own.name = nm)) ∧ Below w.heap.size w w' := by
  generalize hR : l.any (fun g => decide (g.own.name = nm)) = R
  have HR : Hid (R = (l.drop 0).any (fun g => decide (g.own.name = nm))) := hR.symm
  clear hR
  go_enter Tryz.func149, Tryz.ntmps149
  go_wp2_with fail
  go_loopw [8] (fun i wr => ∃ (j : Nat), j ≤ l.length ∧ i = .int .i64 j ∧ Hid (R = (l.drop j).any (fun g => decide (g.own.name = nm))) ∧ Below w.heap.size w wr) (fun i _ => l.length - (intOf i).toNat)
  case atStart => exact ⟨0, by omega, rfl, HR, Below.refl _ _⟩
  case round =>
    clear HR
    obtain ⟨j, hj, rfl, HS, hbel⟩ := hrel
    have hsz := hbel.size
    by_cases hlt : j < l.length
    · have HD : Hid (R = (decide (l[j].own.name = nm) || (l.drop (j + 1)).any (fun g => decide (g.own.name = nm)))) := by
        show _ = _
        rw [HS.out, any_dropF _ _ _ hlt]
      obtain ⟨bb, off, aj, cj, ha, _, _, hrow, hinj⟩ := (hin.keep hbel (by omega)).at hlt
      subst ha
      obtain ⟨r0, r1, r2, r3, r4, r5, r6, r7, r8, r9, r10, r11, r12, r13⟩ := hrow
      have hB2 : B < wr.heap.size := by omega
      have hcall := sameName_any l[j].own aj l[j].fields.length cj B nm wr ((hbel.cell (p := ⟨B, 0, none⟩) hB).trans h) hB2
      unfold fV at hcall
      clear HS hin hinj
      generalize l[j] = x at *
      go_wp2_with fail
      refine hcall.mono ?_
      rintro _ w2 ⟨rfl, hb3⟩
      have hb4 : Below w.heap.size w w2 := hbel.trans (hb3.mono hbel.size)
      cases hq : decide (x.own.name = nm) with
      | true =>
        have hRn : R = true := by rw [HD.out, hq]; rfl
        clear HD hq
        subst hRn
        go_wp2_with fail
        go_ret
        exact ⟨(j : Int), rfl, by simp, hb4⟩
      | false =>
        have HD2 : Hid (R = (l.drop (j + 1)).any (fun g => decide (g.own.name = nm))) := by
          show _ = _
          rw [HD.out, hq]; rfl
        clear HD hq
        go_wp2_with fail
        go_roundw
        case rel => exact ⟨j + 1, by omega, by simp, HD2, hb4⟩
        case measure => simp only [intOf]; omega
    · have hRn : R = false := by rw [HS.out, List.drop_of_length_le (by omega)]; rfl
      clear HS
      subst hRn
      go_wp2_with fail
      go_ret
      exact ⟨-1, rfl, by decide, hbel⟩
theorem containsFunc_any (l : List Fld) (hl : l.length ≤ 281474976710656) (a : Option Addr) (c B lo n₀ : Nat) (nm : ByteArray) (w : World) (hn : n₀ ≤ w.heap.size) (hin : FIn w lo n₀ l a) (h : w.cell? ⟨B, 0, none⟩ = some (.string nm)) (hB : B < w.heap.size) :
    Calls Tryz.prog 115 #[.slice a l.length c, .func (.func 116) #[] #[.pointer (some ⟨B, 0, none⟩)]] w fun e w' => e = .returned (.bool (l.any (fun g => decide (g.own.name = nm)))) ∧ Below w.heap.size w w' := by
  have hcall := indexFunc_any l hl a c B lo n₀ nm w hn hin h hB
  generalize l.any (fun g => decide (g.own.name = nm)) = R at hcall ⊢
  clear hin
  go_enter Tryz.func115, Tryz.ntmps115
  go_wp2_with fail
  refine hcall.mono ?_
  rintro _ w2 ⟨r, rfl, hr, hb2⟩
  go_wp2_with fail
  go_ret
  exact ⟨by first | rfl | rw [hr], hb2⟩

/-- The tour in memory. -/
def seeV (T : Nat) : Value := .func (.func 84) #[.pointer (some ⟨T, 0, none⟩)] #[]
structure TourAt (w : World) (T : Nat) (pa : Option Addr) (pc : Nat) (P : List Int) (k : Nat) : Prop where
  blk : Blk w T 184 #[.slice pa P.length pc, .int .i64 (k : Int), seeV T]
  own : IOwn w (T + 1) (.slice pa P.length pc) P
theorem TourAt.old {w w' : World} {T : Nat} {pa : Option Addr} {pc : Nat} {P : List Int} {k : Nat} (h : TourAt w T pa pc P k) (hb : Below w.heap.size w w') : TourAt w' T pa pc P k := ⟨h.blk.old hb, own_after h.own hb⟩
theorem here_any (T : Nat) (pa : Option Addr) (pc : Nat) (P : List Int) (k : Nat) (hP : P.length ≤ 1000) (w : World) (h : TourAt w T pa pc P k) :
    Calls Tryz.prog 118 #[.pointer (some ⟨T, 0, none⟩)] w fun e w' => ∃ a c, e = .returned (.slice a P.length c) ∧ IOwn w' w.heap.size (.slice a P.length c) P ∧ Below w.heap.size w w' := by
  have c0 := h.blk.cell 0
  have hcl := cloneI_any _ P (T + 1) w (by omega) h.own
  clear h
  go_enter Tryz.func118, Tryz.ntmps118
  go_wp2_with fail
  refine hcl.mono ?_
  rintro _ w2 ⟨a, c, rfl, ho, hb⟩
  go_wp2_with fail
  go_ret
  exact ⟨a, c, rfl, ho, hb⟩
def lostF (why : Int) (a : Option Addr) (n c : Nat) (count : Int) : Value := .iface 151 (.agg #[.int .i64 why, .int .i64 0, .slice a n c, .int .i64 count])
def lostG (why : Int) (a : Option Addr) (n c : Nat) (count : Int) : Ending := .panicked [{ v := lostF why a n c count, recovered := false }]
theorem tneed_ok (p : Value) (h : Bool) (why : Int) (w : World) (hh : h = true) :
    Calls Tryz.prog 85 #[p, .bool h, .int .i64 why] w fun e w' => e = .returned (.tuple #[]) ∧ w = w' := by
  subst hh
  go_enter Tryz.func85, Tryz.ntmps85
  go_wp2
  go_end0
  exact ⟨rfl, rfl⟩
set_option maxHeartbeats 1000000 in
theorem tneed_no (T : Nat) (pa : Option Addr) (pc : Nat) (P : List Int) (k : Nat) (hP : P.length ≤ 1000) (hb : Bool) (why : Int) (w : World) (hh : hb = false) (h : TourAt w T pa pc P k) :
    Calls Tryz.prog 85 #[.pointer (some ⟨T, 0, none⟩), .bool hb, .int .i64 why] w fun e w' => ∃ a c, e = lostG why a P.length c (k : Int) ∧ IOwn w' w.heap.size (.slice a P.length c) P ∧ Below w.heap.size w w' := by
  subst hh
  have hhr := fun w h => here_any T pa pc P k hP w h
  have c1 := h.blk.cell 1
  have hT := h.blk.lt
  go_enter Tryz.func85, Tryz.ntmps85
  go_upto_region 1 with fail
  have hc1 : ∀ x, Below w.heap.size w x → x.cell? ⟨T, 1, none⟩ = some (.int .i64 (k : Int)) := fun x hx => (hx.cell (p := ⟨T, 1, none⟩) hT).trans c1
  have HH : Hid (∀ x, Below w.heap.size w x → TourAt x T pa pc P k) := fun x hx => h.old hx
  have HKeep : Hid (∀ x y, Below w.heap.size w x → Below x.heap.size x y → Below w.heap.size w y) := fun x y h1 h2 => h1.trans (h2.mono h1.size)
  clear c1
  refine wp_region_held_drew (S := fun x => Below w.heap.size w x) (by kernel_rfl) ((Below.refl _ _).drew) (fun hHeld => ?_)
  refine wpAnyH_takeD (i := 0) (some 8) (v := .int .i64 why) rfl rfl (by kernel_rfl) (by kernel_rfl) (by kernel_rfl) (fun _ _ _ h => h) (Or.inl ⟨by kernel_rfl, ?hy0⟩) (by assumption) ?rest0
  case hy0 => (intro x hSx; (try dsimp only at hSx); go_simp; first | done | with_reducible rfl)
  try simp only [Act.put, List.setIfInBounds_toArray, List.set_cons_zero, List.set_cons_succ]
  refine wpAnyH_takeD (i := 1) (some 9) (v := .pointer (some ⟨T, 0, none⟩)) rfl rfl (by kernel_rfl) (by kernel_rfl) (by kernel_rfl) (fun _ _ _ h => h) (Or.inl ⟨by kernel_rfl, ?hy1⟩) (by assumption) ?rest1
  case hy1 => (intro x hSx; (try dsimp only at hSx); go_simp; first | done | with_reducible rfl)
  try simp only [Act.put, List.setIfInBounds_toArray, List.set_cons_zero, List.set_cons_succ]
  refine wpAnyH_takeD (i := 3) (some 11) (v := .pointer (some ⟨T, 0, none⟩)) rfl rfl (by kernel_rfl) (by kernel_rfl) (by kernel_rfl) (fun _ _ _ h => h) (Or.inl ⟨by kernel_rfl, ?hy3⟩) (by assumption) ?rest3
  case hy3 => (intro x hSx; (try dsimp only at hSx); go_simp; first | done | with_reducible rfl)
  try simp only [Act.put, List.setIfInBounds_toArray, List.set_cons_zero, List.set_cons_succ]
  refine wpAnyH_takeD (i := 4) (some 12) (v := .pointer (some ⟨T, 0, none⟩)) rfl rfl (by kernel_rfl) (by kernel_rfl) (by kernel_rfl) (fun _ _ _ h => h) (Or.inl ⟨by kernel_rfl, ?hy4⟩) (by assumption) ?rest4
  case hy4 => (intro x hSx; (try dsimp only at hSx); go_simp; first | done | with_reducible rfl)
  try simp only [Act.put, List.setIfInBounds_toArray, List.set_cons_zero, List.set_cons_succ]
  refine wpAnyH_takeD (i := 5) (some 13) (v := .pointer (some ⟨T, 1, none⟩)) rfl rfl (by kernel_rfl) (by kernel_rfl) (by kernel_rfl) (fun _ _ _ h => h) (Or.inl ⟨by kernel_rfl, ?hy5⟩) (by assumption) ?rest5
  case hy5 => (intro x hSx; (try dsimp only at hSx); go_simp; first | done | with_reducible rfl)
  try simp only [Act.put, List.setIfInBounds_toArray, List.set_cons_zero, List.set_cons_succ]
  refine wpAnyH_takeD (i := 6) (some 14) (v := .int .i64 (k : Int)) rfl rfl (by kernel_rfl) (by kernel_rfl) (by kernel_rfl) (fun _ _ _ h => h) (Or.inl ⟨by kernel_rfl, ?hy6⟩) (by assumption) ?rest6
  case hy6 => (intro x hSx; have hq := hc1 _ hSx; (try dsimp only at hSx); go_simp; first | done | with_reducible rfl)
  try simp only [Act.put, List.setIfInBounds_toArray, List.set_cons_zero, List.set_cons_succ]
  refine wpAnyH_ready (rs := [2]) (by kernel_rfl) (by simp) ?_
  refine AllReadyH.cons rfl (fun K hK => ?_) AllReadyH.nil
  go_simp
  go_wp2_with (go_at_call 118; refine (hhr _ (HH.out _ hHeld)).mono ?_; rintro e y2 ⟨a, c, rfl, ho, hb2⟩)
  refine hK.out _ _ (HKeep.out _ _ hHeld hb2) (fun hHeld2 => ?_)
  clear hK K
  try simp only [Act.put, List.setIfInBounds_toArray, List.set_cons_zero, List.set_cons_succ]
  refine wpAnyH_takeD (i := 7) (some 15) (v := .agg #[.int .i64 why, .int .i64 0, .slice a P.length c, .int .i64 (k : Int)]) rfl rfl (by kernel_rfl) (by kernel_rfl) (by kernel_rfl) (fun _ _ _ h => h) (Or.inl ⟨by kernel_rfl, ?hy7⟩) (by assumption) ?rest7
  case hy7 => (intro x hSx; (try dsimp only at hSx); go_simp; first | done | with_reducible rfl)
  try simp only [Act.put, List.setIfInBounds_toArray, List.set_cons_zero, List.set_cons_succ]
  refine wpAnyH_takeD (i := 8) (some 16) (v := .iface 151 (.agg #[.int .i64 why, .int .i64 0, .slice a P.length c, .int .i64 (k : Int)])) rfl rfl (by kernel_rfl) (by kernel_rfl) (by kernel_rfl) (fun _ _ _ h => h) (Or.inl ⟨by kernel_rfl, ?hy8⟩) (by assumption) ?rest8
  case hy8 => (intro x hSx; (try dsimp only at hSx); go_simp; first | done | with_reducible rfl)
  try simp only [Act.put, List.setIfInBounds_toArray, List.set_cons_zero, List.set_cons_succ]
  refine wpAnyH_ready (rs := [9]) (by kernel_rfl) (by simp) ?_
  refine AllReadyH.cons rfl (fun K hK => ?_) AllReadyH.nil
  go_simp
  exact ⟨rfl, a, c, rfl, ho, hHeld2⟩

/-- What a look at a field comes to. -/
def SeePost (code : Int) (P : List Int) (k : Nat) (w : World) (e : Ending) (w' : World) : Prop :=
  (code = 0 ∧ e = .returned (.tuple #[]) ∧ Below w.heap.size w w') ∨ (code ≠ 0 ∧ ∃ a c, e = lostG code a P.length c (k : Int) ∧ IOwn w' w.heap.size (.slice a P.length c) P ∧ Below w.heap.size w w')
theorem SeePost.after {code : Int} {P : List Int} {k : Nat} {w w1 : World} {e : Ending} {w' : World} (hb : Below w.heap.size w w1) (h : SeePost code P k w1 e w') : SeePost code P k w e w' := by
  rcases h with ⟨h0, he, h1⟩ | ⟨h0, a, c, he, ho, h1⟩
  · exact .inl ⟨h0, he, hb.trans (h1.mono hb.size)⟩
  · exact .inr ⟨h0, a, c, he, ho.mono hb.size, hb.trans (h1.mono hb.size)⟩
theorem SeePost.no {code : Int} {P : List Int} {k : Nat} {w w1 w' : World} {e : Ending} (hc : code ≠ 0) (hb : Below w.heap.size w w1) (h : ∃ a c, e = lostG code a P.length c (k : Int) ∧ IOwn w' w1.heap.size (.slice a P.length c) P ∧ Below w1.heap.size w1 w') : SeePost code P k w e w' :=
  SeePost.after hb (.inr ⟨hc, h⟩)
set_option maxHeartbeats 1000000 in
theorem needRoom_any (T : Nat) (pa : Option Addr) (pc : Nat) (P : List Int) (k : Nat) (hP : P.length ≤ 1000) (hk : k ≤ 1000000) (w : World) (h : TourAt w T pa pc P k) :
    Calls Tryz.prog 113 #[.pointer (some ⟨T, 0, none⟩)] w (SeePost (if 64 < k then 116 else if 16 < P.length then 114 else 0) P k w) := by
  have c0 := h.blk.cell 0
  have c1 := h.blk.cell 1
  by_cases h1 : 64 < k
  · rw [if_pos h1]
    have t1 : decide ((k : Int) ≤ 64) = false := by simp; omega
    have hno := tneed_no T pa pc P k hP false 116 w rfl h
    clear h h1
    go_enter Tryz.func113, Tryz.ntmps113
    go_wp2_with fail
    refine hno.mono ?_
    rintro e w1 ⟨a, c, he, ho, hb⟩; unfold lostG at he; subst he
    go_wp2
    exact ⟨rfl, .inr ⟨by decide, a, c, rfl, ho, hb⟩⟩
  · rw [if_neg h1]
    have t1 : decide ((k : Int) ≤ 64) = true := by simp; omega
    have hok := tneed_ok (.pointer (some ⟨T, 0, none⟩)) true 116 w rfl
    by_cases h2 : 16 < P.length
    · rw [if_pos h2]
      have t2 : decide ((P.length : Int) ≤ 16) = false := by simp; omega
      have hno := tneed_no T pa pc P k hP false 114 w rfl h
      clear h h1 h2
      go_enter Tryz.func113, Tryz.ntmps113
      go_wp2_with fail
      refine hok.mono ?_
      rintro _ _ ⟨rfl, rfl⟩
      go_wp2_with fail
      refine hno.mono ?_
      rintro e w1 ⟨a, c, he, ho, hb⟩; unfold lostG at he; subst he
      go_wp2
      exact ⟨rfl, .inr ⟨by decide, a, c, rfl, ho, hb⟩⟩
    · rw [if_neg h2]
      have t2 : decide ((P.length : Int) ≤ 16) = true := by simp; omega
      have hok2 := tneed_ok (.pointer (some ⟨T, 0, none⟩)) true 114 w rfl
      clear h h1 h2
      go_enter Tryz.func113, Tryz.ntmps113
      go_wp2_with fail
      refine hok.mono ?_
      rintro _ _ ⟨rfl, rfl⟩
      go_wp2_with fail
      refine hok2.mono ?_
      rintro _ _ ⟨rfl, rfl⟩
      go_wp2
      go_end0
      exact .inl ⟨rfl, rfl, Below.refl _ _⟩

end Go.Proofs.YtgefbgpfjbbeaaaGreatDoor
