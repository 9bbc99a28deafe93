/- What the document's answer for Take does (a contract; nothing is claimed here). -/
import Derived.Test.YtdmdnhlmfailaaaRefG
namespace Go.Proofs.Ytdmdnhlmfailaaa
open Go.RowKit Go.Vf

theorem rt_results {tmps : Array Value} {w : World} {h : Nat} {b : Bool} {m : ByteArray} {n e : Int} (t4 : tmps[4]?.getD undef = .pointer (some ⟨h, 0, none⟩)) (t5 : tmps[5]?.getD undef = .int .i64 n) (t6 : tmps[6]?.getD undef = .int .i64 e) (c0 : w.cell? ⟨h, 0, none⟩ = some (.bool b)) (c1 : w.cell? ⟨h, 1, none⟩ = some (.string m)) :
    (results Try.f28 tmps).run Try.prog w = .ok (.tuple #[numV b m, .int .i64 n, .int .i64 e]) w := by
  simp [results, Try.results28, go_sem, t4, t5, t6, c0, c1]

set_option maxHeartbeats 8000000 in
set_option maxRecDepth 20000 in
theorem rtake_up (s : ByteArray) (a K : Nat) (hs : s.size ≤ 17179869184) (h1 : a < s.size) (hF : 128 ≤ s[a].toNat) (hF2 : s[a].toNat < 255) (hKe : (s[a].toNat : Int) - 128 = (K : Int)) (_hK : K ≤ 255) (R : Value)
    (HR1 : Hid (s.size - (a + 1) < K → (∀ h : a + 1 < s.size, s[a + 1].toNat ≠ 0) → R = .tuple #[numV false ⟨#[]⟩, .int .i64 (s.size : Int), .int .i64 20]))
    (HR2 : Hid (∀ h : a + 1 < s.size, 0 < K → s[a + 1].toNat = 0 → R = .tuple #[numV false ⟨#[]⟩, .int .i64 ((a : Int) + 1), .int .i64 20]))
    (HR3 : Hid (K ≤ s.size - (a + 1) → (0 < K → ∀ h : a + 1 < s.size, s[a + 1].toNat ≠ 0) → R = .tuple #[numV false (bs ((turnB false (s.data.toList.drop (a + 1))).take K)), .int .i64 (((a : Int) + 1) + (K : Int)), .int .i64 0])) (w : World) :
    Calls Try.prog 28 #[.string s, .int .i64 (a : Int)] w fun e w' => e = .returned R ∧ Below w.heap.size w w' := by
  have hl : s.data.toList.length = s.size := (Lib.size_eq s).symm
  have hbW := (Below.refl w.heap.size w).alloc (Nat.le_refl _) (.cells #[.bool false, .string ⟨#[]⟩] 26)
  obtain ⟨W, hW⟩ : ∃ W, w.alloc (.cells #[.bool false, .string ⟨#[]⟩] 26) = W := ⟨_, rfl⟩
  have k0 : W.cell? ⟨w.heap.size, 0, none⟩ = some (.bool false) := by rw [← hW]; simp
  have k1 : W.cell? ⟨w.heap.size, 1, none⟩ = some (.string ⟨#[]⟩) := by rw [← hW]; simp
  have z0 : W.frozen? ⟨w.heap.size, 0, none⟩ = false := by rw [← hW]; simp
  have z1 : W.frozen? ⟨w.heap.size, 1, none⟩ = false := by rw [← hW]; simp
  have hWs : W.heap.size = w.heap.size + 1 := by rw [← hW]; simp
  rw [hW] at hbW
  have hae : ((a : Int) == (s.size : Int)) = false := by simp; omega
  have hb0 := s[a].toNat_lt
  have g6 : decide (s.size < a) = false := by simp; omega
  have g7 : decide ((a : Int) < 0) = false := by simp
  have g0 : ((s[a].toNat : Int) == 0) = false := by simp; omega
  have g1 : ((s[a].toNat : Int) == 255) = false := by simp; omega
  have g2 : ((s[a].toNat : Int) == 1) = false := by simp; omega
  have g3 : decide ((s[a].toNat : Int) < 128) = false := by simp; omega
  go_enter Try.func28, Try.ntmps28
  go_wp2
  try rw [hW]
  go_loopw [10, 11] (fun v i wr => ∃ i' : Nat, i' ≤ K ∧ i' ≤ s.size - (a + 1) ∧ i = .int .i64 i' ∧ BOwn 5 wr (w.heap.size + 1) v ((turnB false (s.data.toList.drop (a + 1))).take i') ∧ Hid (0 < i' → ∀ h : a + 1 < s.size, s[a + 1].toNat ≠ 0) ∧ Below (w.heap.size + 1) W wr ∧ w.heap.size + 1 ≤ wr.heap.size) (fun _ i _ => K - (intOf i).toNat)
  case atStart => exact ⟨0, Nat.zero_le _, Nat.zero_le _, rfl, by simpa using BOwn.nil _ _ _, fun h => absurd h (by decide), Below.refl _ _, by omega⟩
  case round =>
    obtain ⟨i, hiK, hiD, rfl, hown, HOK, hbel, hsz⟩ := hrel
    by_cases hlt : i < K
    · by_cases hend : a + 1 + i = s.size
      · have hee : (((a : Int) + 1) + (i : Int) == (s.size : Int)) = true := by simp; omega
        have HRS : Hid (R = .tuple #[numV false ⟨#[]⟩, .int .i64 (s.size : Int), .int .i64 20]) := HR1.out (by omega) (fun h => HOK.out (by omega) h)
        have c0 := (hbel.cell (p := ⟨w.heap.size, 0, none⟩) (Nat.lt_succ_self _)).trans k0
        have c1 := (hbel.cell (p := ⟨w.heap.size, 1, none⟩) (Nat.lt_succ_self _)).trans k1
        have f0 := (hbel.frozen (p := ⟨w.heap.size, 0, none⟩) (Nat.lt_succ_self _)).trans z0
        have f1 := (hbel.frozen (p := ⟨w.heap.size, 1, none⟩) (Nat.lt_succ_self _)).trans z1
        clear hend
        go_wp2
        refine ⟨rfl, _, rt_results (h := w.heap.size) (b := false) (m := ⟨#[]⟩) (n := (s.size : Int)) (e := 20) rfl rfl rfl ?_ ?_, by rw [HRS.out], ((hbW.trans (hbel.mono (Nat.le_succ _))).setCell (p := ⟨w.heap.size, 0, none⟩) (Nat.le_refl _) _).setCell (p := ⟨w.heap.size, 1, none⟩) (Nat.le_refl _) _⟩
        · rw [World.cell?_setCell_other _ _ _ _ (by simp), World.cell?_setCell_same _ _ _ (by rw [c0])]
        · rw [World.cell?_setCell_same _ _ _ (by rw [World.cell?_setCell_other _ _ _ _ (by simp), c1])]
      · have hin : a + 1 + i < s.size := by omega
        have hee : (((a : Int) + 1) + (i : Int) == (s.size : Int)) = false := by simp; omega
        have hb := s[a + 1 + i].toNat_lt
        by_cases hz : i = 0 ∧ s[a + 1 + i].toNat = 0
        · obtain ⟨hi0, hz⟩ := hz
          have HRS : Hid (R = .tuple #[numV false ⟨#[]⟩, .int .i64 ((a : Int) + 1), .int .i64 20]) := HR2.out (by omega) (by omega) (by subst hi0; exact hz)
          have hi0' : ((i : Int) == 0) = true := by simp; omega
          clear hi0 hend
          have c0 := (hbel.cell (p := ⟨w.heap.size, 0, none⟩) (Nat.lt_succ_self _)).trans k0
          have c1 := (hbel.cell (p := ⟨w.heap.size, 1, none⟩) (Nat.lt_succ_self _)).trans k1
          have f0 := (hbel.frozen (p := ⟨w.heap.size, 0, none⟩) (Nat.lt_succ_self _)).trans z0
          have f1 := (hbel.frozen (p := ⟨w.heap.size, 1, none⟩) (Nat.lt_succ_self _)).trans z1
          go_wp2
          refine ⟨rfl, _, rt_results (h := w.heap.size) (b := false) (m := ⟨#[]⟩) (n := (a : Int) + 1) (e := 20) rfl rfl rfl ?_ ?_, by rw [HRS.out], ((hbW.trans (hbel.mono (Nat.le_succ _))).setCell (p := ⟨w.heap.size, 0, none⟩) (Nat.le_refl _) _).setCell (p := ⟨w.heap.size, 1, none⟩) (Nat.le_refl _) _⟩
          · rw [World.cell?_setCell_other _ _ _ _ (by simp), World.cell?_setCell_same _ _ _ (by rw [c0])]
          · rw [World.cell?_setCell_same _ _ _ (by rw [World.cell?_setCell_other _ _ _ _ (by simp), c1])]
        · have HOK2 : Hid (0 < i + 1 → ∀ h : a + 1 < s.size, s[a + 1].toNat ≠ 0) := by
            intro _ h
            by_cases hi0 : i = 0
            · intro h1
              exact hz ⟨hi0, by subst hi0; exact h1⟩
            · exact HOK.out (by omega) h
          have HT : Hid ((turnB false (s.data.toList.drop (a + 1))).take (i + 1) = (turnB false (s.data.toList.drop (a + 1))).take i ++ [s[a + 1 + i]]) := by
            show _ = _
            rw [List.take_succ_eq_append_getElem (by rw [turn_length, List.length_drop, hl]; omega)]
            congr 2
            simp [turnB]
            rfl
          have hln : ((turnB false (s.data.toList.drop (a + 1))).take i).length ≤ 1099511627776 := by rw [List.length_take]; omega
          skip
          have hguard : ((i : Int) == 0 && (s[a + 1 + i].toNat : Int) == 0) = false := by
            rw [Bool.eq_false_iff]
            intro h
            simp only [Bool.and_eq_true, beq_iff_eq] at h
            exact hz ⟨by omega, by omega⟩
          clear HOK hz
          by_cases hi0 : 0 < i
          · have hi1 : ((i : Int) == 0) = false := by simp; omega
            clear hguard
            go_wp2_with (at_builtin; refine wpList_append_byte rfl (.tmp 101) (.tmp 103) 60 rfl 5 Try.underlying60 info5 (w.heap.size + 1) _ _ rfl hown s[a + 1 + i] _ rfl 1 rfl hln hsz (w.heap.size + 1) W hbel (Nat.le_refl _) ?_; intro v' w3 hown3 hbel3 hsz3)
            go_roundw
            case rel => exact ⟨i + 1, by omega, by omega, by go_num, by rw [HT.out]; exact hown3, HOK2, hbel3, hsz3⟩
            case measure => simp [intOf]; omega
          · have hi1 : ((i : Int) == 0) = true := by simp; omega
            have hnz : ((s[a + 1 + i].toNat : Int) == 0) = false := by rw [hi1, Bool.true_and] at hguard; exact hguard
            clear hguard
            go_wp2_with (at_builtin; refine wpList_append_byte rfl (.tmp 101) (.tmp 103) 60 rfl 5 Try.underlying60 info5 (w.heap.size + 1) _ _ rfl hown s[a + 1 + i] _ rfl 1 rfl hln hsz (w.heap.size + 1) W hbel (Nat.le_refl _) ?_; intro v' w3 hown3 hbel3 hsz3)
            go_roundw
            case rel => exact ⟨i + 1, by omega, by omega, by go_num, by rw [HT.out]; exact hown3, HOK2, hbel3, hsz3⟩
            case measure => simp [intOf]; omega
    · have hiK2 : i = K := by omega
      have hcv := run_string_own (P := Try.prog) wr 60 9 5 Try.underlying60 Try.underlying5 Try.underlying9 _ _ _ hown
      have HRS : Hid (R = .tuple #[numV false (bs ((turnB false (s.data.toList.drop (a + 1))).take i)), .int .i64 (((a : Int) + 1) + (K : Int)), .int .i64 0]) := by
        show _ = _
        rw [hiK2]
        exact HR3.out (by omega) (fun h0 h => HOK.out (by omega) h)
      clear hiK2
      have c0 := (hbel.cell (p := ⟨w.heap.size, 0, none⟩) (Nat.lt_succ_self _)).trans k0
      have c1 := (hbel.cell (p := ⟨w.heap.size, 1, none⟩) (Nat.lt_succ_self _)).trans k1
      have f0 := (hbel.frozen (p := ⟨w.heap.size, 0, none⟩) (Nat.lt_succ_self _)).trans z0
      have f1 := (hbel.frozen (p := ⟨w.heap.size, 1, none⟩) (Nat.lt_succ_self _)).trans z1
      go_wp2
      refine ⟨rfl, _, rt_results (h := w.heap.size) (b := false) (m := bs ((turnB false (s.data.toList.drop (a + 1))).take i)) (n := ((a : Int) + 1) + (K : Int)) (e := 0) rfl rfl rfl ?_ ?_, by rw [HRS.out], ((hbW.trans (hbel.mono (Nat.le_succ _))).setCell (p := ⟨w.heap.size, 0, none⟩) (Nat.le_refl _) _).setCell (p := ⟨w.heap.size, 1, none⟩) (Nat.le_refl _) _⟩
      · rw [World.cell?_setCell_other _ _ _ _ (by simp), World.cell?_setCell_same _ _ _ (by rw [c0])]
      · rw [World.cell?_setCell_same _ _ _ (by rw [World.cell?_setCell_other _ _ _ _ (by simp), c1])]

set_option maxHeartbeats 8000000 in
set_option maxRecDepth 20000 in
theorem rtake_down (s : ByteArray) (a K : Nat) (hs : s.size ≤ 17179869184) (h1 : a < s.size) (hF : 2 ≤ s[a].toNat) (hF2 : s[a].toNat < 128) (hKe : -((s[a].toNat : Int) - 128) = (K : Int)) (_hK : K ≤ 255) (R : Value)
    (HR1 : Hid (s.size - (a + 1) < K → (∀ h : a + 1 < s.size, s[a + 1].toNat ≠ 255) → R = .tuple #[numV false ⟨#[]⟩, .int .i64 (s.size : Int), .int .i64 20]))
    (HR2 : Hid (∀ h : a + 1 < s.size, 0 < K → s[a + 1].toNat = 255 → R = .tuple #[numV false ⟨#[]⟩, .int .i64 ((a : Int) + 1), .int .i64 20]))
    (HR3 : Hid (K ≤ s.size - (a + 1) → (0 < K → ∀ h : a + 1 < s.size, s[a + 1].toNat ≠ 255) → R = .tuple #[numV true (bs ((turnB true (s.data.toList.drop (a + 1))).take K)), .int .i64 (((a : Int) + 1) + (K : Int)), .int .i64 0])) (w : World) :
    Calls Try.prog 28 #[.string s, .int .i64 (a : Int)] w fun e w' => e = .returned R ∧ Below w.heap.size w w' := by
  have hl : s.data.toList.length = s.size := (Lib.size_eq s).symm
  have hbW := (Below.refl w.heap.size w).alloc (Nat.le_refl _) (.cells #[.bool false, .string ⟨#[]⟩] 26)
  obtain ⟨W, hW⟩ : ∃ W, w.alloc (.cells #[.bool false, .string ⟨#[]⟩] 26) = W := ⟨_, rfl⟩
  have k0 : W.cell? ⟨w.heap.size, 0, none⟩ = some (.bool false) := by rw [← hW]; simp
  have k1 : W.cell? ⟨w.heap.size, 1, none⟩ = some (.string ⟨#[]⟩) := by rw [← hW]; simp
  have z0 : W.frozen? ⟨w.heap.size, 0, none⟩ = false := by rw [← hW]; simp
  have z1 : W.frozen? ⟨w.heap.size, 1, none⟩ = false := by rw [← hW]; simp
  have hWs : W.heap.size = w.heap.size + 1 := by rw [← hW]; simp
  rw [hW] at hbW
  have hae : ((a : Int) == (s.size : Int)) = false := by simp; omega
  have hb0 := s[a].toNat_lt
  have g6 : decide (s.size < a) = false := by simp; omega
  have g7 : decide ((a : Int) < 0) = false := by simp
  have g0 : ((s[a].toNat : Int) == 0) = false := by simp; omega
  have g1 : ((s[a].toNat : Int) == 255) = false := by simp; omega
  have g2 : ((s[a].toNat : Int) == 1) = false := by simp; omega
  have g3 : decide ((s[a].toNat : Int) < 128) = true := by simp; omega
  have g8 : decide ((s[a].toNat : Int) - 128 < 0) = true := by simp; omega
  go_enter Try.func28, Try.ntmps28
  go_wp2
  try rw [hW]
  go_loopw [10, 11] (fun v i wr => ∃ i' : Nat, i' ≤ K ∧ i' ≤ s.size - (a + 1) ∧ i = .int .i64 i' ∧ BOwn 5 wr (w.heap.size + 1) v ((turnB true (s.data.toList.drop (a + 1))).take i') ∧ Hid (0 < i' → ∀ h : a + 1 < s.size, s[a + 1].toNat ≠ 255) ∧ Below (w.heap.size + 1) W wr ∧ w.heap.size + 1 ≤ wr.heap.size) (fun _ i _ => K - (intOf i).toNat)
  case atStart => exact ⟨0, Nat.zero_le _, Nat.zero_le _, rfl, by simpa using BOwn.nil _ _ _, fun h => absurd h (by decide), Below.refl _ _, by omega⟩
  case round =>
    obtain ⟨i, hiK, hiD, rfl, hown, HOK, hbel, hsz⟩ := hrel
    by_cases hlt : i < K
    · by_cases hend : a + 1 + i = s.size
      · have hee : (((a : Int) + 1) + (i : Int) == (s.size : Int)) = true := by simp; omega
        have HRS : Hid (R = .tuple #[numV false ⟨#[]⟩, .int .i64 (s.size : Int), .int .i64 20]) := HR1.out (by omega) (fun h => HOK.out (by omega) h)
        have c0 := (hbel.cell (p := ⟨w.heap.size, 0, none⟩) (Nat.lt_succ_self _)).trans k0
        have c1 := (hbel.cell (p := ⟨w.heap.size, 1, none⟩) (Nat.lt_succ_self _)).trans k1
        have f0 := (hbel.frozen (p := ⟨w.heap.size, 0, none⟩) (Nat.lt_succ_self _)).trans z0
        have f1 := (hbel.frozen (p := ⟨w.heap.size, 1, none⟩) (Nat.lt_succ_self _)).trans z1
        clear hend
        go_wp2
        refine ⟨rfl, _, rt_results (h := w.heap.size) (b := false) (m := ⟨#[]⟩) (n := (s.size : Int)) (e := 20) rfl rfl rfl ?_ ?_, by rw [HRS.out], ((hbW.trans (hbel.mono (Nat.le_succ _))).setCell (p := ⟨w.heap.size, 0, none⟩) (Nat.le_refl _) _).setCell (p := ⟨w.heap.size, 1, none⟩) (Nat.le_refl _) _⟩
        · rw [World.cell?_setCell_other _ _ _ _ (by simp), World.cell?_setCell_same _ _ _ (by rw [c0])]
        · rw [World.cell?_setCell_same _ _ _ (by rw [World.cell?_setCell_other _ _ _ _ (by simp), c1])]
      · have hin : a + 1 + i < s.size := by omega
        have hee : (((a : Int) + 1) + (i : Int) == (s.size : Int)) = false := by simp; omega
        have hb := s[a + 1 + i].toNat_lt
        by_cases hz : i = 0 ∧ s[a + 1 + i].toNat = 255
        · obtain ⟨hi0, hz⟩ := hz
          have HRS : Hid (R = .tuple #[numV false ⟨#[]⟩, .int .i64 ((a : Int) + 1), .int .i64 20]) := HR2.out (by omega) (by omega) (by subst hi0; exact hz)
          have hi0' : ((i : Int) == 0) = true := by simp; omega
          clear hi0 hend
          have c0 := (hbel.cell (p := ⟨w.heap.size, 0, none⟩) (Nat.lt_succ_self _)).trans k0
          have c1 := (hbel.cell (p := ⟨w.heap.size, 1, none⟩) (Nat.lt_succ_self _)).trans k1
          have f0 := (hbel.frozen (p := ⟨w.heap.size, 0, none⟩) (Nat.lt_succ_self _)).trans z0
          have f1 := (hbel.frozen (p := ⟨w.heap.size, 1, none⟩) (Nat.lt_succ_self _)).trans z1
          go_wp2
          refine ⟨rfl, _, rt_results (h := w.heap.size) (b := false) (m := ⟨#[]⟩) (n := (a : Int) + 1) (e := 20) rfl rfl rfl ?_ ?_, by rw [HRS.out], ((hbW.trans (hbel.mono (Nat.le_succ _))).setCell (p := ⟨w.heap.size, 0, none⟩) (Nat.le_refl _) _).setCell (p := ⟨w.heap.size, 1, none⟩) (Nat.le_refl _) _⟩
          · rw [World.cell?_setCell_other _ _ _ _ (by simp), World.cell?_setCell_same _ _ _ (by rw [c0])]
          · rw [World.cell?_setCell_same _ _ _ (by rw [World.cell?_setCell_other _ _ _ _ (by simp), c1])]
        · have HOK2 : Hid (0 < i + 1 → ∀ h : a + 1 < s.size, s[a + 1].toNat ≠ 255) := by
            intro _ h
            by_cases hi0 : i = 0
            · intro h1
              exact hz ⟨hi0, by subst hi0; exact h1⟩
            · exact HOK.out (by omega) h
          have HT : Hid ((turnB true (s.data.toList.drop (a + 1))).take (i + 1) = (turnB true (s.data.toList.drop (a + 1))).take i ++ [255 - s[a + 1 + i]]) := by
            show _ = _
            rw [List.take_succ_eq_append_getElem (by rw [turn_length, List.length_drop, hl]; omega)]
            congr 2
            simp [turnB, flipL]
            rfl
          have hln : ((turnB true (s.data.toList.drop (a + 1))).take i).length ≤ 1099511627776 := by rw [List.length_take]; omega
          have HX : Hid ((255 - (s[a + 1 + i].toNat : Int)) = ((255 - s[a + 1 + i]).toNat : Int)) := (flip_toNat _).symm
          have hguard : ((i : Int) == 0 && (255 - (s[a + 1 + i].toNat : Int)) == 0) = false := by
            rw [Bool.eq_false_iff]
            intro h
            simp only [Bool.and_eq_true, beq_iff_eq] at h
            exact hz ⟨by omega, by omega⟩
          clear HOK hz
          by_cases hi0 : 0 < i
          · have hi1 : ((i : Int) == 0) = false := by simp; omega
            clear hguard
            go_wp2_with (at_builtin; refine wpList_append_byte rfl (.tmp 101) (.tmp 103) 60 rfl 5 Try.underlying60 info5 (w.heap.size + 1) _ _ rfl hown (255 - s[a + 1 + i]) _ HX.out 1 rfl hln hsz (w.heap.size + 1) W hbel (Nat.le_refl _) ?_; intro v' w3 hown3 hbel3 hsz3)
            go_roundw
            case rel => exact ⟨i + 1, by omega, by omega, by go_num, by rw [HT.out]; exact hown3, HOK2, hbel3, hsz3⟩
            case measure => simp [intOf]; omega
          · have hi1 : ((i : Int) == 0) = true := by simp; omega
            have hnz : ((255 - (s[a + 1 + i].toNat : Int)) == 0) = false := by rw [hi1, Bool.true_and] at hguard; exact hguard
            clear hguard
            go_wp2_with (at_builtin; refine wpList_append_byte rfl (.tmp 101) (.tmp 103) 60 rfl 5 Try.underlying60 info5 (w.heap.size + 1) _ _ rfl hown (255 - s[a + 1 + i]) _ HX.out 1 rfl hln hsz (w.heap.size + 1) W hbel (Nat.le_refl _) ?_; intro v' w3 hown3 hbel3 hsz3)
            go_roundw
            case rel => exact ⟨i + 1, by omega, by omega, by go_num, by rw [HT.out]; exact hown3, HOK2, hbel3, hsz3⟩
            case measure => simp [intOf]; omega
    · have hiK2 : i = K := by omega
      have hcv := run_string_own (P := Try.prog) wr 60 9 5 Try.underlying60 Try.underlying5 Try.underlying9 _ _ _ hown
      have HRS : Hid (R = .tuple #[numV true (bs ((turnB true (s.data.toList.drop (a + 1))).take i)), .int .i64 (((a : Int) + 1) + (K : Int)), .int .i64 0]) := by
        show _ = _
        rw [hiK2]
        exact HR3.out (by omega) (fun h0 h => HOK.out (by omega) h)
      clear hiK2
      have c0 := (hbel.cell (p := ⟨w.heap.size, 0, none⟩) (Nat.lt_succ_self _)).trans k0
      have c1 := (hbel.cell (p := ⟨w.heap.size, 1, none⟩) (Nat.lt_succ_self _)).trans k1
      have f0 := (hbel.frozen (p := ⟨w.heap.size, 0, none⟩) (Nat.lt_succ_self _)).trans z0
      have f1 := (hbel.frozen (p := ⟨w.heap.size, 1, none⟩) (Nat.lt_succ_self _)).trans z1
      go_wp2
      refine ⟨rfl, _, rt_results (h := w.heap.size) (b := true) (m := bs ((turnB true (s.data.toList.drop (a + 1))).take i)) (n := ((a : Int) + 1) + (K : Int)) (e := 0) rfl rfl rfl ?_ ?_, by rw [HRS.out], ((hbW.trans (hbel.mono (Nat.le_succ _))).setCell (p := ⟨w.heap.size, 0, none⟩) (Nat.le_refl _) _).setCell (p := ⟨w.heap.size, 1, none⟩) (Nat.le_refl _) _⟩
      · rw [World.cell?_setCell_other _ _ _ _ (by simp), World.cell?_setCell_same _ _ _ (by rw [c0])]
      · rw [World.cell?_setCell_same _ _ _ (by rw [World.cell?_setCell_other _ _ _ _ (by simp), c1])]

set_option maxHeartbeats 8000000 in
set_option maxRecDepth 20000 in
theorem rtake_upfar (s : ByteArray) (a K : Nat) (hs : s.size ≤ 17179869184) (h1 : a < s.size) (h2 : a + 1 < s.size) (hF : s[a].toNat = 255) (hKe : (s[a + 1].toNat : Int) = (K : Int)) (hK2 : 127 ≤ K) (hK : K ≤ 255) (R : Value)
    (HR1 : Hid (s.size - (a + 1 + 1) < K → (∀ h : a + 1 + 1 < s.size, s[a + 1 + 1].toNat ≠ 0) → R = .tuple #[numV false ⟨#[]⟩, .int .i64 (s.size : Int), .int .i64 20]))
    (HR2 : Hid (∀ h : a + 1 + 1 < s.size, 0 < K → s[a + 1 + 1].toNat = 0 → R = .tuple #[numV false ⟨#[]⟩, .int .i64 ((a : Int) + 1 + 1), .int .i64 20]))
    (HR3 : Hid (K ≤ s.size - (a + 1 + 1) → (0 < K → ∀ h : a + 1 + 1 < s.size, s[a + 1 + 1].toNat ≠ 0) → R = .tuple #[numV false (bs ((turnB false (s.data.toList.drop (a + 1 + 1))).take K)), .int .i64 (((a : Int) + 1 + 1) + (K : Int)), .int .i64 0])) (w : World) :
    Calls Try.prog 28 #[.string s, .int .i64 (a : Int)] w fun e w' => e = .returned R ∧ Below w.heap.size w w' := by
  have hl : s.data.toList.length = s.size := (Lib.size_eq s).symm
  have hbW := (Below.refl w.heap.size w).alloc (Nat.le_refl _) (.cells #[.bool false, .string ⟨#[]⟩] 26)
  obtain ⟨W, hW⟩ : ∃ W, w.alloc (.cells #[.bool false, .string ⟨#[]⟩] 26) = W := ⟨_, rfl⟩
  have k0 : W.cell? ⟨w.heap.size, 0, none⟩ = some (.bool false) := by rw [← hW]; simp
  have k1 : W.cell? ⟨w.heap.size, 1, none⟩ = some (.string ⟨#[]⟩) := by rw [← hW]; simp
  have z0 : W.frozen? ⟨w.heap.size, 0, none⟩ = false := by rw [← hW]; simp
  have z1 : W.frozen? ⟨w.heap.size, 1, none⟩ = false := by rw [← hW]; simp
  have hWs : W.heap.size = w.heap.size + 1 := by rw [← hW]; simp
  rw [hW] at hbW
  have hae : ((a : Int) == (s.size : Int)) = false := by simp; omega
  have hb0 := s[a].toNat_lt
  have g6 : decide (s.size < a) = false := by simp; omega
  have g7 : decide ((a : Int) < 0) = false := by simp
  have g4 : (((a : Int) + 1) == (s.size : Int)) = false := by simp; omega
  go_enter Try.func28, Try.ntmps28
  go_wp2
  try rw [hW]
  go_loopw [10, 11] (fun v i wr => ∃ i' : Nat, i' ≤ K ∧ i' ≤ s.size - (a + 1 + 1) ∧ i = .int .i64 i' ∧ BOwn 5 wr (w.heap.size + 1) v ((turnB false (s.data.toList.drop (a + 1 + 1))).take i') ∧ Hid (0 < i' → ∀ h : a + 1 + 1 < s.size, s[a + 1 + 1].toNat ≠ 0) ∧ Below (w.heap.size + 1) W wr ∧ w.heap.size + 1 ≤ wr.heap.size) (fun _ i _ => K - (intOf i).toNat)
  case atStart => exact ⟨0, Nat.zero_le _, Nat.zero_le _, rfl, by simpa using BOwn.nil _ _ _, fun h => absurd h (by decide), Below.refl _ _, by omega⟩
  case round =>
    obtain ⟨i, hiK, hiD, rfl, hown, HOK, hbel, hsz⟩ := hrel
    by_cases hlt : i < K
    · by_cases hend : a + 1 + 1 + i = s.size
      · have hee : (((a : Int) + 1 + 1) + (i : Int) == (s.size : Int)) = true := by simp; omega
        have HRS : Hid (R = .tuple #[numV false ⟨#[]⟩, .int .i64 (s.size : Int), .int .i64 20]) := HR1.out (by omega) (fun h => HOK.out (by omega) h)
        have c0 := (hbel.cell (p := ⟨w.heap.size, 0, none⟩) (Nat.lt_succ_self _)).trans k0
        have c1 := (hbel.cell (p := ⟨w.heap.size, 1, none⟩) (Nat.lt_succ_self _)).trans k1
        have f0 := (hbel.frozen (p := ⟨w.heap.size, 0, none⟩) (Nat.lt_succ_self _)).trans z0
        have f1 := (hbel.frozen (p := ⟨w.heap.size, 1, none⟩) (Nat.lt_succ_self _)).trans z1
        clear hend
        go_wp2
        refine ⟨rfl, _, rt_results (h := w.heap.size) (b := false) (m := ⟨#[]⟩) (n := (s.size : Int)) (e := 20) rfl rfl rfl ?_ ?_, by rw [HRS.out], ((hbW.trans (hbel.mono (Nat.le_succ _))).setCell (p := ⟨w.heap.size, 0, none⟩) (Nat.le_refl _) _).setCell (p := ⟨w.heap.size, 1, none⟩) (Nat.le_refl _) _⟩
        · rw [World.cell?_setCell_other _ _ _ _ (by simp), World.cell?_setCell_same _ _ _ (by rw [c0])]
        · rw [World.cell?_setCell_same _ _ _ (by rw [World.cell?_setCell_other _ _ _ _ (by simp), c1])]
      · have hin : a + 1 + 1 + i < s.size := by omega
        have hee : (((a : Int) + 1 + 1) + (i : Int) == (s.size : Int)) = false := by simp; omega
        have hb := s[a + 1 + 1 + i].toNat_lt
        by_cases hz : i = 0 ∧ s[a + 1 + 1 + i].toNat = 0
        · obtain ⟨hi0, hz⟩ := hz
          have HRS : Hid (R = .tuple #[numV false ⟨#[]⟩, .int .i64 ((a : Int) + 1 + 1), .int .i64 20]) := HR2.out (by omega) (by omega) (by subst hi0; exact hz)
          have hi0' : ((i : Int) == 0) = true := by simp; omega
          clear hi0 hend
          have c0 := (hbel.cell (p := ⟨w.heap.size, 0, none⟩) (Nat.lt_succ_self _)).trans k0
          have c1 := (hbel.cell (p := ⟨w.heap.size, 1, none⟩) (Nat.lt_succ_self _)).trans k1
          have f0 := (hbel.frozen (p := ⟨w.heap.size, 0, none⟩) (Nat.lt_succ_self _)).trans z0
          have f1 := (hbel.frozen (p := ⟨w.heap.size, 1, none⟩) (Nat.lt_succ_self _)).trans z1
          go_wp2
          refine ⟨rfl, _, rt_results (h := w.heap.size) (b := false) (m := ⟨#[]⟩) (n := (a : Int) + 1 + 1) (e := 20) rfl rfl rfl ?_ ?_, by rw [HRS.out], ((hbW.trans (hbel.mono (Nat.le_succ _))).setCell (p := ⟨w.heap.size, 0, none⟩) (Nat.le_refl _) _).setCell (p := ⟨w.heap.size, 1, none⟩) (Nat.le_refl _) _⟩
          · rw [World.cell?_setCell_other _ _ _ _ (by simp), World.cell?_setCell_same _ _ _ (by rw [c0])]
          · rw [World.cell?_setCell_same _ _ _ (by rw [World.cell?_setCell_other _ _ _ _ (by simp), c1])]
        · have HOK2 : Hid (0 < i + 1 → ∀ h : a + 1 + 1 < s.size, s[a + 1 + 1].toNat ≠ 0) := by
            intro _ h
            by_cases hi0 : i = 0
            · intro h1
              exact hz ⟨hi0, by subst hi0; exact h1⟩
            · exact HOK.out (by omega) h
          have HT : Hid ((turnB false (s.data.toList.drop (a + 1 + 1))).take (i + 1) = (turnB false (s.data.toList.drop (a + 1 + 1))).take i ++ [s[a + 1 + 1 + i]]) := by
            show _ = _
            rw [List.take_succ_eq_append_getElem (by rw [turn_length, List.length_drop, hl]; omega)]
            congr 2
            simp [turnB]
            rfl
          have hln : ((turnB false (s.data.toList.drop (a + 1 + 1))).take i).length ≤ 1099511627776 := by rw [List.length_take]; omega
          skip
          have hguard : ((i : Int) == 0 && (s[a + 1 + 1 + i].toNat : Int) == 0) = false := by
            rw [Bool.eq_false_iff]
            intro h
            simp only [Bool.and_eq_true, beq_iff_eq] at h
            exact hz ⟨by omega, by omega⟩
          clear HOK hz
          by_cases hi0 : 0 < i
          · have hi1 : ((i : Int) == 0) = false := by simp; omega
            clear hguard
            go_wp2_with (at_builtin; refine wpList_append_byte rfl (.tmp 101) (.tmp 103) 60 rfl 5 Try.underlying60 info5 (w.heap.size + 1) _ _ rfl hown s[a + 1 + 1 + i] _ rfl 1 rfl hln hsz (w.heap.size + 1) W hbel (Nat.le_refl _) ?_; intro v' w3 hown3 hbel3 hsz3)
            go_roundw
            case rel => exact ⟨i + 1, by omega, by omega, by go_num, by rw [HT.out]; exact hown3, HOK2, hbel3, hsz3⟩
            case measure => simp [intOf]; omega
          · have hi1 : ((i : Int) == 0) = true := by simp; omega
            have hnz : ((s[a + 1 + 1 + i].toNat : Int) == 0) = false := by rw [hi1, Bool.true_and] at hguard; exact hguard
            clear hguard
            go_wp2_with (at_builtin; refine wpList_append_byte rfl (.tmp 101) (.tmp 103) 60 rfl 5 Try.underlying60 info5 (w.heap.size + 1) _ _ rfl hown s[a + 1 + 1 + i] _ rfl 1 rfl hln hsz (w.heap.size + 1) W hbel (Nat.le_refl _) ?_; intro v' w3 hown3 hbel3 hsz3)
            go_roundw
            case rel => exact ⟨i + 1, by omega, by omega, by go_num, by rw [HT.out]; exact hown3, HOK2, hbel3, hsz3⟩
            case measure => simp [intOf]; omega
    · have hiK2 : i = K := by omega
      have hcv := run_string_own (P := Try.prog) wr 60 9 5 Try.underlying60 Try.underlying5 Try.underlying9 _ _ _ hown
      have HRS : Hid (R = .tuple #[numV false (bs ((turnB false (s.data.toList.drop (a + 1 + 1))).take i)), .int .i64 (((a : Int) + 1 + 1) + (K : Int)), .int .i64 0]) := by
        show _ = _
        rw [hiK2]
        exact HR3.out (by omega) (fun h0 h => HOK.out (by omega) h)
      clear hiK2
      have c0 := (hbel.cell (p := ⟨w.heap.size, 0, none⟩) (Nat.lt_succ_self _)).trans k0
      have c1 := (hbel.cell (p := ⟨w.heap.size, 1, none⟩) (Nat.lt_succ_self _)).trans k1
      have f0 := (hbel.frozen (p := ⟨w.heap.size, 0, none⟩) (Nat.lt_succ_self _)).trans z0
      have f1 := (hbel.frozen (p := ⟨w.heap.size, 1, none⟩) (Nat.lt_succ_self _)).trans z1
      go_wp2
      refine ⟨rfl, _, rt_results (h := w.heap.size) (b := false) (m := bs ((turnB false (s.data.toList.drop (a + 1 + 1))).take i)) (n := ((a : Int) + 1 + 1) + (K : Int)) (e := 0) rfl rfl rfl ?_ ?_, by rw [HRS.out], ((hbW.trans (hbel.mono (Nat.le_succ _))).setCell (p := ⟨w.heap.size, 0, none⟩) (Nat.le_refl _) _).setCell (p := ⟨w.heap.size, 1, none⟩) (Nat.le_refl _) _⟩
      · rw [World.cell?_setCell_other _ _ _ _ (by simp), World.cell?_setCell_same _ _ _ (by rw [c0])]
      · rw [World.cell?_setCell_same _ _ _ (by rw [World.cell?_setCell_other _ _ _ _ (by simp), c1])]

set_option maxHeartbeats 8000000 in
set_option maxRecDepth 20000 in
theorem rtake_downfar (s : ByteArray) (a K : Nat) (hs : s.size ≤ 17179869184) (h1 : a < s.size) (h2 : a + 1 < s.size) (hF : s[a].toNat = 1) (hKe : 255 - (s[a + 1].toNat : Int) = (K : Int)) (hK2 : 127 ≤ K) (_hK : K ≤ 255) (R : Value)
    (HR1 : Hid (s.size - (a + 1 + 1) < K → (∀ h : a + 1 + 1 < s.size, s[a + 1 + 1].toNat ≠ 255) → R = .tuple #[numV false ⟨#[]⟩, .int .i64 (s.size : Int), .int .i64 20]))
    (HR2 : Hid (∀ h : a + 1 + 1 < s.size, 0 < K → s[a + 1 + 1].toNat = 255 → R = .tuple #[numV false ⟨#[]⟩, .int .i64 ((a : Int) + 1 + 1), .int .i64 20]))
    (HR3 : Hid (K ≤ s.size - (a + 1 + 1) → (0 < K → ∀ h : a + 1 + 1 < s.size, s[a + 1 + 1].toNat ≠ 255) → R = .tuple #[numV true (bs ((turnB true (s.data.toList.drop (a + 1 + 1))).take K)), .int .i64 (((a : Int) + 1 + 1) + (K : Int)), .int .i64 0])) (w : World) :
    Calls Try.prog 28 #[.string s, .int .i64 (a : Int)] w fun e w' => e = .returned R ∧ Below w.heap.size w w' := by
  have hl : s.data.toList.length = s.size := (Lib.size_eq s).symm
  have hbW := (Below.refl w.heap.size w).alloc (Nat.le_refl _) (.cells #[.bool false, .string ⟨#[]⟩] 26)
  obtain ⟨W, hW⟩ : ∃ W, w.alloc (.cells #[.bool false, .string ⟨#[]⟩] 26) = W := ⟨_, rfl⟩
  have k0 : W.cell? ⟨w.heap.size, 0, none⟩ = some (.bool false) := by rw [← hW]; simp
  have k1 : W.cell? ⟨w.heap.size, 1, none⟩ = some (.string ⟨#[]⟩) := by rw [← hW]; simp
  have z0 : W.frozen? ⟨w.heap.size, 0, none⟩ = false := by rw [← hW]; simp
  have z1 : W.frozen? ⟨w.heap.size, 1, none⟩ = false := by rw [← hW]; simp
  have hWs : W.heap.size = w.heap.size + 1 := by rw [← hW]; simp
  rw [hW] at hbW
  have hae : ((a : Int) == (s.size : Int)) = false := by simp; omega
  have hb0 := s[a].toNat_lt
  have g6 : decide (s.size < a) = false := by simp; omega
  have g7 : decide ((a : Int) < 0) = false := by simp
  have g4 : (((a : Int) + 1) == (s.size : Int)) = false := by simp; omega
  have g5 := s[a + 1].toNat_lt
  go_enter Try.func28, Try.ntmps28
  go_wp2
  try rw [hW]
  go_loopw [10, 11] (fun v i wr => ∃ i' : Nat, i' ≤ K ∧ i' ≤ s.size - (a + 1 + 1) ∧ i = .int .i64 i' ∧ BOwn 5 wr (w.heap.size + 1) v ((turnB true (s.data.toList.drop (a + 1 + 1))).take i') ∧ Hid (0 < i' → ∀ h : a + 1 + 1 < s.size, s[a + 1 + 1].toNat ≠ 255) ∧ Below (w.heap.size + 1) W wr ∧ w.heap.size + 1 ≤ wr.heap.size) (fun _ i _ => K - (intOf i).toNat)
  case atStart => exact ⟨0, Nat.zero_le _, Nat.zero_le _, rfl, by simpa using BOwn.nil _ _ _, fun h => absurd h (by decide), Below.refl _ _, by omega⟩
  case round =>
    obtain ⟨i, hiK, hiD, rfl, hown, HOK, hbel, hsz⟩ := hrel
    by_cases hlt : i < K
    · by_cases hend : a + 1 + 1 + i = s.size
      · have hee : (((a : Int) + 1 + 1) + (i : Int) == (s.size : Int)) = true := by simp; omega
        have HRS : Hid (R = .tuple #[numV false ⟨#[]⟩, .int .i64 (s.size : Int), .int .i64 20]) := HR1.out (by omega) (fun h => HOK.out (by omega) h)
        have c0 := (hbel.cell (p := ⟨w.heap.size, 0, none⟩) (Nat.lt_succ_self _)).trans k0
        have c1 := (hbel.cell (p := ⟨w.heap.size, 1, none⟩) (Nat.lt_succ_self _)).trans k1
        have f0 := (hbel.frozen (p := ⟨w.heap.size, 0, none⟩) (Nat.lt_succ_self _)).trans z0
        have f1 := (hbel.frozen (p := ⟨w.heap.size, 1, none⟩) (Nat.lt_succ_self _)).trans z1
        clear hend
        go_wp2
        refine ⟨rfl, _, rt_results (h := w.heap.size) (b := false) (m := ⟨#[]⟩) (n := (s.size : Int)) (e := 20) rfl rfl rfl ?_ ?_, by rw [HRS.out], ((hbW.trans (hbel.mono (Nat.le_succ _))).setCell (p := ⟨w.heap.size, 0, none⟩) (Nat.le_refl _) _).setCell (p := ⟨w.heap.size, 1, none⟩) (Nat.le_refl _) _⟩
        · rw [World.cell?_setCell_other _ _ _ _ (by simp), World.cell?_setCell_same _ _ _ (by rw [c0])]
        · rw [World.cell?_setCell_same _ _ _ (by rw [World.cell?_setCell_other _ _ _ _ (by simp), c1])]
      · have hin : a + 1 + 1 + i < s.size := by omega
        have hee : (((a : Int) + 1 + 1) + (i : Int) == (s.size : Int)) = false := by simp; omega
        have hb := s[a + 1 + 1 + i].toNat_lt
        by_cases hz : i = 0 ∧ s[a + 1 + 1 + i].toNat = 255
        · obtain ⟨hi0, hz⟩ := hz
          have HRS : Hid (R = .tuple #[numV false ⟨#[]⟩, .int .i64 ((a : Int) + 1 + 1), .int .i64 20]) := HR2.out (by omega) (by omega) (by subst hi0; exact hz)
          have hi0' : ((i : Int) == 0) = true := by simp; omega
          clear hi0 hend
          have c0 := (hbel.cell (p := ⟨w.heap.size, 0, none⟩) (Nat.lt_succ_self _)).trans k0
          have c1 := (hbel.cell (p := ⟨w.heap.size, 1, none⟩) (Nat.lt_succ_self _)).trans k1
          have f0 := (hbel.frozen (p := ⟨w.heap.size, 0, none⟩) (Nat.lt_succ_self _)).trans z0
          have f1 := (hbel.frozen (p := ⟨w.heap.size, 1, none⟩) (Nat.lt_succ_self _)).trans z1
          go_wp2
          refine ⟨rfl, _, rt_results (h := w.heap.size) (b := false) (m := ⟨#[]⟩) (n := (a : Int) + 1 + 1) (e := 20) rfl rfl rfl ?_ ?_, by rw [HRS.out], ((hbW.trans (hbel.mono (Nat.le_succ _))).setCell (p := ⟨w.heap.size, 0, none⟩) (Nat.le_refl _) _).setCell (p := ⟨w.heap.size, 1, none⟩) (Nat.le_refl _) _⟩
          · rw [World.cell?_setCell_other _ _ _ _ (by simp), World.cell?_setCell_same _ _ _ (by rw [c0])]
          · rw [World.cell?_setCell_same _ _ _ (by rw [World.cell?_setCell_other _ _ _ _ (by simp), c1])]
        · have HOK2 : Hid (0 < i + 1 → ∀ h : a + 1 + 1 < s.size, s[a + 1 + 1].toNat ≠ 255) := by
            intro _ h
            by_cases hi0 : i = 0
            · intro h1
              exact hz ⟨hi0, by subst hi0; exact h1⟩
            · exact HOK.out (by omega) h
          have HT : Hid ((turnB true (s.data.toList.drop (a + 1 + 1))).take (i + 1) = (turnB true (s.data.toList.drop (a + 1 + 1))).take i ++ [255 - s[a + 1 + 1 + i]]) := by
            show _ = _
            rw [List.take_succ_eq_append_getElem (by rw [turn_length, List.length_drop, hl]; omega)]
            congr 2
            simp [turnB, flipL]
            rfl
          have hln : ((turnB true (s.data.toList.drop (a + 1 + 1))).take i).length ≤ 1099511627776 := by rw [List.length_take]; omega
          have HX : Hid ((255 - (s[a + 1 + 1 + i].toNat : Int)) = ((255 - s[a + 1 + 1 + i]).toNat : Int)) := (flip_toNat _).symm
          have hguard : ((i : Int) == 0 && (255 - (s[a + 1 + 1 + i].toNat : Int)) == 0) = false := by
            rw [Bool.eq_false_iff]
            intro h
            simp only [Bool.and_eq_true, beq_iff_eq] at h
            exact hz ⟨by omega, by omega⟩
          clear HOK hz
          by_cases hi0 : 0 < i
          · have hi1 : ((i : Int) == 0) = false := by simp; omega
            clear hguard
            go_wp2_with (at_builtin; refine wpList_append_byte rfl (.tmp 101) (.tmp 103) 60 rfl 5 Try.underlying60 info5 (w.heap.size + 1) _ _ rfl hown (255 - s[a + 1 + 1 + i]) _ HX.out 1 rfl hln hsz (w.heap.size + 1) W hbel (Nat.le_refl _) ?_; intro v' w3 hown3 hbel3 hsz3)
            go_roundw
            case rel => exact ⟨i + 1, by omega, by omega, by go_num, by rw [HT.out]; exact hown3, HOK2, hbel3, hsz3⟩
            case measure => simp [intOf]; omega
          · have hi1 : ((i : Int) == 0) = true := by simp; omega
            have hnz : ((255 - (s[a + 1 + 1 + i].toNat : Int)) == 0) = false := by rw [hi1, Bool.true_and] at hguard; exact hguard
            clear hguard
            go_wp2_with (at_builtin; refine wpList_append_byte rfl (.tmp 101) (.tmp 103) 60 rfl 5 Try.underlying60 info5 (w.heap.size + 1) _ _ rfl hown (255 - s[a + 1 + 1 + i]) _ HX.out 1 rfl hln hsz (w.heap.size + 1) W hbel (Nat.le_refl _) ?_; intro v' w3 hown3 hbel3 hsz3)
            go_roundw
            case rel => exact ⟨i + 1, by omega, by omega, by go_num, by rw [HT.out]; exact hown3, HOK2, hbel3, hsz3⟩
            case measure => simp [intOf]; omega
    · have hiK2 : i = K := by omega
      have hcv := run_string_own (P := Try.prog) wr 60 9 5 Try.underlying60 Try.underlying5 Try.underlying9 _ _ _ hown
      have HRS : Hid (R = .tuple #[numV true (bs ((turnB true (s.data.toList.drop (a + 1 + 1))).take i)), .int .i64 (((a : Int) + 1 + 1) + (K : Int)), .int .i64 0]) := by
        show _ = _
        rw [hiK2]
        exact HR3.out (by omega) (fun h0 h => HOK.out (by omega) h)
      clear hiK2
      have c0 := (hbel.cell (p := ⟨w.heap.size, 0, none⟩) (Nat.lt_succ_self _)).trans k0
      have c1 := (hbel.cell (p := ⟨w.heap.size, 1, none⟩) (Nat.lt_succ_self _)).trans k1
      have f0 := (hbel.frozen (p := ⟨w.heap.size, 0, none⟩) (Nat.lt_succ_self _)).trans z0
      have f1 := (hbel.frozen (p := ⟨w.heap.size, 1, none⟩) (Nat.lt_succ_self _)).trans z1
      go_wp2
      refine ⟨rfl, _, rt_results (h := w.heap.size) (b := true) (m := bs ((turnB true (s.data.toList.drop (a + 1 + 1))).take i)) (n := ((a : Int) + 1 + 1) + (K : Int)) (e := 0) rfl rfl rfl ?_ ?_, by rw [HRS.out], ((hbW.trans (hbel.mono (Nat.le_succ _))).setCell (p := ⟨w.heap.size, 0, none⟩) (Nat.le_refl _) _).setCell (p := ⟨w.heap.size, 1, none⟩) (Nat.le_refl _) _⟩
      · rw [World.cell?_setCell_other _ _ _ _ (by simp), World.cell?_setCell_same _ _ _ (by rw [c0])]
      · rw [World.cell?_setCell_same _ _ _ (by rw [World.cell?_setCell_other _ _ _ _ (by simp), c1])]

set_option maxHeartbeats 2000000 in
set_option maxRecDepth 100000 in
theorem rtake_arg (s : ByteArray) (i : Int) (hi : i < 0 ∨ (s.size : Int) < i) (w : World) :
    Calls Try.prog 28 #[.string s, .int .i64 i] w fun e w' => e = .returned (.tuple #[numV false ⟨#[]⟩, .int .i64 0, .int .i64 1]) ∧ Below w.heap.size w w' := by
  have hbW := (Below.refl w.heap.size w).alloc (Nat.le_refl _) (.cells #[.bool false, .string ⟨#[]⟩] 26)
  have k0 : (w.alloc (.cells #[.bool false, .string ⟨#[]⟩] 26)).cell? ⟨w.heap.size, 0, none⟩ = some (.bool false) := by simp
  have k1 : (w.alloc (.cells #[.bool false, .string ⟨#[]⟩] 26)).cell? ⟨w.heap.size, 1, none⟩ = some (.string ⟨#[]⟩) := by simp
  by_cases h0 : i < 0
  · go_enter Try.func28, Try.ntmps28
    go_wp2
    exact ⟨rfl, _, rt_results (h := w.heap.size) (b := false) (m := ⟨#[]⟩) (n := 0) (e := 1) rfl rfl rfl k0 k1, rfl, hbW⟩
  · have h1 : (s.size : Int) < i := by omega
    go_enter Try.func28, Try.ntmps28
    go_wp2
    exact ⟨rfl, _, rt_results (h := w.heap.size) (b := false) (m := ⟨#[]⟩) (n := 0) (e := 1) rfl rfl rfl k0 k1, rfl, hbW⟩

set_option maxHeartbeats 2000000 in
set_option maxRecDepth 100000 in
theorem rtake_end (s : ByteArray) (a : Nat) (ha : a = s.size) (_hs : s.size ≤ 17179869184) (w : World) :
    Calls Try.prog 28 #[.string s, .int .i64 (a : Int)] w fun e w' => e = .returned (.tuple #[numV false ⟨#[]⟩, .int .i64 (s.size : Int), .int .i64 20]) ∧ Below w.heap.size w w' := by
  have hbW := (Below.refl w.heap.size w).alloc (Nat.le_refl _) (.cells #[.bool false, .string ⟨#[]⟩] 26)
  have k0 : (w.alloc (.cells #[.bool false, .string ⟨#[]⟩] 26)).cell? ⟨w.heap.size, 0, none⟩ = some (.bool false) := by simp
  have k1 : (w.alloc (.cells #[.bool false, .string ⟨#[]⟩] 26)).cell? ⟨w.heap.size, 1, none⟩ = some (.string ⟨#[]⟩) := by simp
  go_enter Try.func28, Try.ntmps28
  go_wp2
  exact ⟨rfl, _, rt_results (h := w.heap.size) (b := false) (m := ⟨#[]⟩) (n := (s.size : Int)) (e := 20) rfl rfl rfl k0 k1, rfl, hbW⟩

set_option maxHeartbeats 2000000 in
set_option maxRecDepth 100000 in
theorem rtake_nought (s : ByteArray) (a : Nat) (_hs : s.size ≤ 17179869184) (h1 : a < s.size) (h0 : s[a].toNat = 0) (w : World) :
    Calls Try.prog 28 #[.string s, .int .i64 (a : Int)] w fun e w' => e = .returned (.tuple #[numV false ⟨#[]⟩, .int .i64 (a : Int), .int .i64 20]) ∧ Below w.heap.size w w' := by
  have hbW := (Below.refl w.heap.size w).alloc (Nat.le_refl _) (.cells #[.bool false, .string ⟨#[]⟩] 26)
  have k0 : (w.alloc (.cells #[.bool false, .string ⟨#[]⟩] 26)).cell? ⟨w.heap.size, 0, none⟩ = some (.bool false) := by simp
  have k1 : (w.alloc (.cells #[.bool false, .string ⟨#[]⟩] 26)).cell? ⟨w.heap.size, 1, none⟩ = some (.string ⟨#[]⟩) := by simp
  go_enter Try.func28, Try.ntmps28
  go_wp2
  exact ⟨rfl, _, rt_results (h := w.heap.size) (b := false) (m := ⟨#[]⟩) (n := (a : Int)) (e := 20) rfl rfl rfl k0 k1, rfl, hbW⟩

set_option maxHeartbeats 2000000 in
set_option maxRecDepth 100000 in
theorem rtake_cut (s : ByteArray) (a : Nat) (hs : s.size ≤ 17179869184) (h1 : a < s.size) (h2 : a + 1 = s.size) (h0 : s[a].toNat = 255 ∨ s[a].toNat = 1) (w : World) :
    Calls Try.prog 28 #[.string s, .int .i64 (a : Int)] w fun e w' => e = .returned (.tuple #[numV false ⟨#[]⟩, .int .i64 ((a : Int) + 1), .int .i64 20]) ∧ Below w.heap.size w w' := by
  have hbW := (Below.refl w.heap.size w).alloc (Nat.le_refl _) (.cells #[.bool false, .string ⟨#[]⟩] 26)
  have k0 : (w.alloc (.cells #[.bool false, .string ⟨#[]⟩] 26)).cell? ⟨w.heap.size, 0, none⟩ = some (.bool false) := by simp
  have k1 : (w.alloc (.cells #[.bool false, .string ⟨#[]⟩] 26)).cell? ⟨w.heap.size, 1, none⟩ = some (.string ⟨#[]⟩) := by simp
  by_cases h3 : s[a].toNat = 255
  · go_enter Try.func28, Try.ntmps28
    go_wp2
    exact ⟨rfl, _, rt_results (h := w.heap.size) (b := false) (m := ⟨#[]⟩) (n := ((a : Int) + 1)) (e := 20) rfl rfl rfl k0 k1, rfl, hbW⟩
  · have h4 : s[a].toNat = 1 := by omega
    go_enter Try.func28, Try.ntmps28
    go_wp2
    exact ⟨rfl, _, rt_results (h := w.heap.size) (b := false) (m := ⟨#[]⟩) (n := ((a : Int) + 1)) (e := 20) rfl rfl rfl k0 k1, rfl, hbW⟩

set_option maxHeartbeats 2000000 in
set_option maxRecDepth 100000 in
theorem rtake_low (s : ByteArray) (a : Nat) (hs : s.size ≤ 17179869184) (h1 : a + 1 < s.size) (h3 : s[a].toNat = 255) (h5 : s[a + 1].toNat < 127) (w : World) :
    Calls Try.prog 28 #[.string s, .int .i64 (a : Int)] w fun e w' => e = .returned (.tuple #[numV false ⟨#[]⟩, .int .i64 ((a : Int) + 1), .int .i64 20]) ∧ Below w.heap.size w w' := by
  have hbW := (Below.refl w.heap.size w).alloc (Nat.le_refl _) (.cells #[.bool false, .string ⟨#[]⟩] 26)
  have k0 : (w.alloc (.cells #[.bool false, .string ⟨#[]⟩] 26)).cell? ⟨w.heap.size, 0, none⟩ = some (.bool false) := by simp
  have k1 : (w.alloc (.cells #[.bool false, .string ⟨#[]⟩] 26)).cell? ⟨w.heap.size, 1, none⟩ = some (.string ⟨#[]⟩) := by simp
  obtain ⟨K, hKe⟩ : ∃ K : Nat, (s[a + 1].toNat : Int) = (K : Int) := ⟨_, rfl⟩
  have hK : K < 127 := by omega
  clear h5
  go_enter Try.func28, Try.ntmps28
  go_wp2
  exact ⟨rfl, _, rt_results (h := w.heap.size) (b := false) (m := ⟨#[]⟩) (n := ((a : Int) + 1)) (e := 20) rfl rfl rfl k0 k1, rfl, hbW⟩

set_option maxHeartbeats 2000000 in
set_option maxRecDepth 100000 in
theorem rtake_high (s : ByteArray) (a : Nat) (hs : s.size ≤ 17179869184) (h1 : a + 1 < s.size) (h3 : s[a].toNat = 1) (h5 : 128 < s[a + 1].toNat) (w : World) :
    Calls Try.prog 28 #[.string s, .int .i64 (a : Int)] w fun e w' => e = .returned (.tuple #[numV false ⟨#[]⟩, .int .i64 ((a : Int) + 1), .int .i64 20]) ∧ Below w.heap.size w w' := by
  have hbW := (Below.refl w.heap.size w).alloc (Nat.le_refl _) (.cells #[.bool false, .string ⟨#[]⟩] 26)
  have k0 : (w.alloc (.cells #[.bool false, .string ⟨#[]⟩] 26)).cell? ⟨w.heap.size, 0, none⟩ = some (.bool false) := by simp
  have k1 : (w.alloc (.cells #[.bool false, .string ⟨#[]⟩] 26)).cell? ⟨w.heap.size, 1, none⟩ = some (.string ⟨#[]⟩) := by simp
  have hb := s[a + 1].toNat_lt
  have g9 : decide (255 - (s[a + 1].toNat : Int) < 127) = true := by simp; omega
  go_enter Try.func28, Try.ntmps28
  go_wp2
  exact ⟨rfl, _, rt_results (h := w.heap.size) (b := false) (m := ⟨#[]⟩) (n := ((a : Int) + 1)) (e := 20) rfl rfl rfl k0 k1, rfl, hbW⟩

theorem turn_take (b : Bool) (l : List UInt8) (k : Nat) : turnB b (l.take k) = (turnB b l).take k := by unfold turnB; cases b <;> simp [flipL]
theorem tk_short {l D : List UInt8} {b : Bool} {K H : Nat} (hh : tkHead l = .ok (b, K, H)) (hD : l.drop H = D) (hlen : D.length < K) (hok : ∀ x r, D = x :: r → x.toNat ≠ (if b then 255 else 0)) : tk l = (H + D.length, none) := by
  unfold tk
  rw [hh]
  simp only
  rw [if_neg (by omega), hD]
  cases D with
  | nil => rfl
  | cons x r =>
    have h1 := hok x r rfl
    have h2 : ¬ K ≤ (x :: r).length := by omega
    simp only [tkMag, h1, if_false, h2]
theorem tk_none {l D : List UInt8} {b : Bool} {K H : Nat} (hh : tkHead l = .ok (b, K, H)) (hD : l.drop H = D) (hK : 0 < K) (x : UInt8) (r : List UInt8) (hx : D = x :: r) (h1 : x.toNat = (if b then 255 else 0)) : tk l = (H, none) := by
  unfold tk
  rw [hh]
  simp only
  rw [if_neg (by omega), hD, hx]
  simp only [tkMag, h1, if_true, Nat.add_zero]
theorem tk_full {l D : List UInt8} {b : Bool} {K H : Nat} (hh : tkHead l = .ok (b, K, H)) (hD : l.drop H = D) (hlen : K ≤ D.length) (hok : 0 < K → ∀ x r, D = x :: r → x.toNat ≠ (if b then 255 else 0)) (hb : K = 0 → b = false) : tk l = (H + K, some (b, (turnB b D).take K)) := by
  unfold tk
  rw [hh]
  simp only
  by_cases h0 : K = 0
  · rw [if_pos h0, h0, hb h0]
    rfl
  · rw [if_neg h0, hD]
    cases D with
    | nil => simp at hlen; omega
    | cons x r =>
      have h1 := hok (by omega) x r rfl
      simp only [tkMag, h1, if_false, hlen, if_true, turn_take]

set_option maxRecDepth 100000 in
theorem rtake_any (s : ByteArray) (a : Nat) (ha : a ≤ s.size) (hs : s.size ≤ 17179869184) (w : World) :
    Calls Try.prog 28 #[.string s, .int .i64 (a : Int)] w fun e w' => e = takeE a (tk (s.data.toList.drop a)) ∧ Below w.heap.size w w' := by
  have hl : s.data.toList.length = s.size := (Lib.size_eq s).symm
  by_cases h1 : a < s.size
  · have hb := s[a].toNat_lt
    have hda := drop_at s a h1
    have hdd : ∀ H, (s.data.toList.drop a).drop H = s.data.toList.drop (a + H) := fun H => by rw [List.drop_drop]
    have hlen : ∀ H, (s.data.toList.drop (a + H)).length = s.size - (a + H) := fun H => by rw [List.length_drop, hl]
    have hfst : ∀ H (x : UInt8) (r : List UInt8), s.data.toList.drop (a + H) = x :: r → ∃ h : a + H < s.size, x = s[a + H] := by
      intro H x r hx
      have h : a + H < s.size := by
        have := congrArg List.length hx
        rw [hlen] at this
        simp at this
        omega
      rw [drop_at s (a + H) h] at hx
      exact ⟨h, (List.cons.inj hx).1.symm⟩
    -- the three ways that a magnitude goes
    have three : ∀ (b : Bool) (K H : Nat) (fr : Int) (hfr : fr = ((a + H : Nat) : Int)) (hh : tkHead (s.data.toList.drop a) = .ok (b, K, H)) (hK0 : K = 0 → b = false) (R : Value) (hR : takeE a (tk (s.data.toList.drop a)) = .returned R),
        (s.size - (a + H) < K → a + H ≤ s.size → (∀ h : a + H < s.size, s[a + H].toNat ≠ (if b then 255 else 0)) → R = .tuple #[numV false ⟨#[]⟩, .int .i64 (s.size : Int), .int .i64 20]) ∧
        (∀ h : a + H < s.size, 0 < K → s[a + H].toNat = (if b then 255 else 0) → R = .tuple #[numV false ⟨#[]⟩, .int .i64 fr, .int .i64 20]) ∧
        (K ≤ s.size - (a + H) → (0 < K → ∀ h : a + H < s.size, s[a + H].toNat ≠ (if b then 255 else 0)) → R = .tuple #[numV b (bs ((turnB b (s.data.toList.drop (a + H))).take K)), .int .i64 (fr + (K : Int)), .int .i64 0]) := by
      intro b K H fr hfr hh hK0 R hR
      refine ⟨fun hlt hle hok => ?_, fun h hK hz => ?_, fun hle hok => ?_⟩
      · have e := tk_short hh (hdd H) (by rw [hlen]; exact hlt) (fun x r hx => by obtain ⟨h, rfl⟩ := hfst H x r hx; exact hok h)
        rw [e, hlen] at hR
        have := (Ending.returned.inj hR).symm
        rw [this, show a + (H + (s.size - (a + H))) = s.size by omega]
        rfl
      · have e := tk_none hh (hdd H) hK s[a + H] _ (drop_at s (a + H) h) hz
        rw [e] at hR
        have := (Ending.returned.inj hR).symm
        rw [this, hfr]
        rfl
      · have e := tk_full hh (hdd H) (by rw [hlen]; exact hle) (fun h0 x r hx => by obtain ⟨h, rfl⟩ := hfst H x r hx; exact hok h0 h) hK0
        rw [e] at hR
        have := (Ending.returned.inj hR).symm
        rw [this, hfr, show a + (H + K) = (a + H) + K by omega]
        simp
    obtain ⟨R, hR⟩ : ∃ R, takeE a (tk (s.data.toList.drop a)) = .returned R := by
      obtain ⟨⟨n, o⟩, h⟩ : ∃ z, tk (s.data.toList.drop a) = z := ⟨_, rfl⟩
      rw [h]
      cases o with
      | none => exact ⟨_, rfl⟩
      | some z => obtain ⟨b, m⟩ := z; exact ⟨_, rfl⟩
    by_cases hz : s[a].toNat = 0
    · have e : takeE a (tk (s.data.toList.drop a)) = .returned (.tuple #[numV false ⟨#[]⟩, .int .i64 (a : Int), .int .i64 20]) := by
        have : tkHead (s.data.toList.drop a) = .error 0 := by rw [hda]; simp [tkHead, hz]
        unfold tk
        rw [this]
        rfl
      rw [e]
      exact rtake_nought s a hs h1 hz w
    by_cases hF : s[a].toNat = 255
    · by_cases h2 : a + 1 < s.size
      · have hd1 := drop_at s (a + 1) h2
        by_cases h3 : 126 < s[a + 1].toNat
        · have hh : tkHead (s.data.toList.drop a) = .ok (false, s[a + 1].toNat, 1 + 1) := by rw [hda, hd1]; simp [tkHead, hF, h3]
          obtain ⟨r1, r2, r3⟩ := three false s[a + 1].toNat (1 + 1) ((a : Int) + 1 + 1) (by omega) hh (by omega) R hR
          rw [hR]
          have := s[a + 1].toNat_lt
          exact rtake_upfar s a s[a + 1].toNat hs h1 h2 hF rfl (by omega) (by omega) R (fun x y => r1 x (by omega) y) r2 r3 w
        · have e : takeE a (tk (s.data.toList.drop a)) = .returned (.tuple #[numV false ⟨#[]⟩, .int .i64 ((a : Int) + 1), .int .i64 20]) := by
            have : tkHead (s.data.toList.drop a) = .error 1 := by rw [hda, hd1]; simp [tkHead, hF, h3]
            unfold tk
            rw [this]
            rfl
          rw [e]
          exact rtake_low s a hs h2 hF (by omega) w
      · have e : takeE a (tk (s.data.toList.drop a)) = .returned (.tuple #[numV false ⟨#[]⟩, .int .i64 ((a : Int) + 1), .int .i64 20]) := by
          have : tkHead (s.data.toList.drop a) = .error 1 := by rw [hda, drop_end s (a + 1) (by omega)]; simp [tkHead, hF]
          unfold tk
          rw [this]
          rfl
        rw [e]
        exact rtake_cut s a hs h1 (by omega) (.inl hF) w
    by_cases hO : s[a].toNat = 1
    · by_cases h2 : a + 1 < s.size
      · have hd1 := drop_at s (a + 1) h2
        have hb1 := s[a + 1].toNat_lt
        by_cases h3 : s[a + 1].toNat < 129
        · have hh : tkHead (s.data.toList.drop a) = .ok (true, 255 - s[a + 1].toNat, 1 + 1) := by rw [hda, hd1]; simp [tkHead, hO, h3]
          obtain ⟨r1, r2, r3⟩ := three true (255 - s[a + 1].toNat) (1 + 1) ((a : Int) + 1 + 1) (by omega) hh (by omega) R hR
          rw [hR]
          exact rtake_downfar s a (255 - s[a + 1].toNat) hs h1 h2 hO (by omega) (by omega) (by omega) R (fun x y => r1 x (by omega) y) r2 r3 w
        · have e : takeE a (tk (s.data.toList.drop a)) = .returned (.tuple #[numV false ⟨#[]⟩, .int .i64 ((a : Int) + 1), .int .i64 20]) := by
            have : tkHead (s.data.toList.drop a) = .error 1 := by rw [hda, hd1]; simp [tkHead, hO, h3]
            unfold tk
            rw [this]
            rfl
          rw [e]
          exact rtake_high s a hs h2 hO (by omega) w
      · have e : takeE a (tk (s.data.toList.drop a)) = .returned (.tuple #[numV false ⟨#[]⟩, .int .i64 ((a : Int) + 1), .int .i64 20]) := by
          have : tkHead (s.data.toList.drop a) = .error 1 := by rw [hda, drop_end s (a + 1) (by omega)]; simp [tkHead, hO]
          unfold tk
          rw [this]
          rfl
        rw [e]
        exact rtake_cut s a hs h1 (by omega) (.inr hO) w
    by_cases h128 : s[a].toNat < 128
    · have hh : tkHead (s.data.toList.drop a) = .ok (true, 128 - s[a].toNat, 1) := by rw [hda]; simp [tkHead, hF, hO, h128]; omega
      have q1 : 2 ≤ s[a].toNat := by omega
      have q2 : -((s[a].toNat : Int) - 128) = ((128 - s[a].toNat : Nat) : Int) := by omega
      have q3 : 128 - s[a].toNat ≤ 255 := by omega
      obtain ⟨r1, r2, r3⟩ := three true (128 - s[a].toNat) 1 ((a : Int) + 1) (by omega) hh (by omega) R hR
      rw [hR]
      exact rtake_down s a (128 - s[a].toNat) hs h1 q1 h128 q2 q3 R (fun x y => r1 x h1 y) r2 r3 w
    · have hh : tkHead (s.data.toList.drop a) = .ok (false, s[a].toNat - 128, 1) := by rw [hda]; simp [tkHead, hF, hO, h128]; omega
      have q1 : 128 ≤ s[a].toNat := by omega
      have q2 : s[a].toNat < 255 := by omega
      have q3 : (s[a].toNat : Int) - 128 = ((s[a].toNat - 128 : Nat) : Int) := by omega
      have q4 : s[a].toNat - 128 ≤ 255 := by omega
      obtain ⟨r1, r2, r3⟩ := three false (s[a].toNat - 128) 1 ((a : Int) + 1) (by omega) hh (fun _ => rfl) R hR
      rw [hR]
      exact rtake_up s a (s[a].toNat - 128) hs h1 q1 q2 q3 q4 R (fun x y => r1 x h1 y) r2 r3 w
  · have hae : a = s.size := by omega
    have e : takeE a (tk (s.data.toList.drop a)) = .returned (.tuple #[numV false ⟨#[]⟩, .int .i64 (s.size : Int), .int .i64 20]) := by
      rw [drop_end s a (by omega), hae]
      rfl
    rw [e]
    exact rtake_end s a hae hs w
end Go.Proofs.Ytdmdnhlmfailaaa
