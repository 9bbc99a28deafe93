/- What the document's answer for Of does (a contract; nothing is claimed here). -/
import Derived.Test.YtdmdnhlmfailaaaOf
import Derived.Test.YtdmdnhlmfailaaaWrite
namespace Go.Proofs.Ytdmdnhlmfailaaa
open Go.RowKit Go.Vf

theorem rof_results {tmps : Array Value} {w : World} {h : Nat} {B : Bool} {m : ByteArray} (t2 : tmps[2]?.getD undef = .pointer (some ⟨h, 0, none⟩)) (c0 : w.cell? ⟨h, 0, none⟩ = some (.bool B)) (c1 : w.cell? ⟨h, 1, none⟩ = some (.string m)) :
    (results Try.f22 tmps).run Try.prog w = .ok (numV B m) w := by
  simp [results, Try.results22, go_sem, t2, c0, c1]

theorem rev_take (l : List UInt8) (j k : Nat) (h : j + k + 1 = l.length) : l.reverse.take (k + 1) = l.reverse.take k ++ [l[j]'(by omega)] := by
  rw [List.take_succ_eq_append_getElem (by rw [List.length_reverse]; omega), List.getElem_reverse]
  congr 3
  omega

set_option maxHeartbeats 2000000 in
theorem rof_any (i : Int) (hi : -9223372036854775808 ≤ i) (hi2 : i ≤ 9223372036854775807) (w : World) :
    Calls Try.prog 22 #[.int .i64 i] w fun e w' => e = ofE i ∧ Below w.heap.size w w' := by
  obtain ⟨M, hM⟩ : ∃ M, i.natAbs = M := ⟨_, rfl⟩
  have hlD : (lowD M).length ≤ 8 := lowD_length_le.2 (by rw [show (256 : Nat) ^ 8 = 18446744073709551616 by decide]; omega)
  have hbW := (Below.refl w.heap.size w).alloc (Nat.le_refl _) (.cells #[.bool false, .string ⟨#[]⟩] 26)
  obtain ⟨W, hW⟩ : ∃ W, w.alloc (.cells #[.bool false, .string ⟨#[]⟩] 26) = W := ⟨_, rfl⟩
  have k0 : W.cell? ⟨w.heap.size, 0, none⟩ = some (.bool false) := by rw [← hW]; simp
  have k1 : W.cell? ⟨w.heap.size, 1, none⟩ = some (.string ⟨#[]⟩) := by rw [← hW]; simp
  have z0 : W.frozen? ⟨w.heap.size, 0, none⟩ = false := by rw [← hW]; simp
  have z1 : W.frozen? ⟨w.heap.size, 1, none⟩ = false := by rw [← hW]; simp
  have hWs : W.heap.size = w.heap.size + 1 := by rw [← hW]; simp
  rw [hW] at hbW
  have hR : ofE i = .returned (numV (decide (i < 0)) (bs (lowD M).reverse)) := by rw [ofE, hM]
  rw [hR]
  clear hR
  by_cases hn : i < 0
  · have hu : IntKind.u64.wrap (-IntKind.u64.wrap i) = (M : Int) := by simp only [u64_wrap]; omega
    go_enter Try.func22, Try.ntmps22
    go_wp2
    try rw [hu]
    try rw [hW]
    generalize IntKind.u64.wrap i = q
    go_loopw [4, 5] (fun x v wr => ∃ (u : Nat) (acc : List UInt8), u ≤ M ∧ x = .int .u64 u ∧ BOwn 5 wr (w.heap.size + 1) v acc ∧ Hid (acc ++ lowD u = lowD M) ∧ Below (w.heap.size + 1) W wr ∧ w.heap.size + 1 ≤ wr.heap.size) (fun x _ _ => (intOf x).toNat)
    case atStart => exact ⟨M, [], Nat.le_refl _, rfl, BOwn.nil _ _ _, rfl, Below.refl _ _, by omega⟩
    case round =>
      obtain ⟨u, acc, hu, rfl, hown, hacc, hbel, hsz⟩ := hrel
      by_cases h0 : ¬ 0 < u
      · obtain rfl : acc = lowD M := by have := hacc.out; rwa [show u = 0 by omega, lowD_zero, List.append_nil] at this
        rcases hown.form with ⟨rfl, h0'⟩ | ⟨gb, capb, rfl, hgb1, hcb1, hcb2, hrb⟩
        · have hnil : lowD M = [] := h0'
          have hcv := run_convert_bytes_nil (P := Try.prog) wr 60 5 Try.underlying60 Try.underlying5 0 0 9 Try.underlying9
          go_wp2
          go_loopw [6, 7] (fun v i wr' => v = .slice none 0 0 ∧ i = .int .i64 (-1) ∧ wr = wr') (fun _ _ _ => 0)
          case atStart => exact ⟨rfl, by go_num, rfl⟩
          case round =>
            obtain ⟨rfl, rfl, rfl⟩ := hrel
            have hb3 := hbel
            have c0 := (hb3.cell (p := ⟨w.heap.size, 0, none⟩) (Nat.lt_succ_self _)).trans k0
            have c1 := (hb3.cell (p := ⟨w.heap.size, 1, none⟩) (Nat.lt_succ_self _)).trans k1
            have f0 := (hb3.frozen (p := ⟨w.heap.size, 0, none⟩) (Nat.lt_succ_self _)).trans z0
            have f1 := (hb3.frozen (p := ⟨w.heap.size, 1, none⟩) (Nat.lt_succ_self _)).trans z1
            go_wp2
            refine ⟨rfl, _, rof_results (h := w.heap.size) rfl (B := true) (m := bs (lowD M).reverse) ?_ ?_, by simp [hn], ((hbW.trans (hb3.mono (Nat.le_succ _))).setCell (p := ⟨w.heap.size, 0, none⟩) (Nat.le_refl _) _).setCell (p := ⟨w.heap.size, 1, none⟩) (Nat.le_refl _) _⟩
            · rw [World.cell?_setCell_other _ _ _ _ (by simp), World.cell?_setCell_same _ _ _ (by rw [c0])]
            · rw [World.cell?_setCell_same _ _ _ (by rw [World.cell?_setCell_other _ _ _ _ (by simp), c1])]; rw [hnil]; rfl
        · have hgb : gb < wr.heap.size := (World.ownsRow.lt hown gb rfl).2
          obtain ⟨V, rfl⟩ : ∃ V, V = wr := ⟨_, rfl⟩
          go_wp2
          go_loopw [6, 7] (fun v i wr' => ∃ k : Nat, k ≤ (lowD M).length ∧ i = .int .i64 (((lowD M).length : Int) - 1 - (k : Int)) ∧ BOwn 5 wr' V.heap.size v ((lowD M).reverse.take k) ∧ Below V.heap.size V wr' ∧ V.heap.size ≤ wr'.heap.size) (fun _ i _ => (intOf i + 1).toNat)
          case atStart => exact ⟨0, Nat.zero_le _, by go_num, BOwn.nil _ _ _, Below.refl _ _, Nat.le_refl _⟩
          case round =>
            obtain ⟨k, hk, rfl, hown2, hbel2, hsz2⟩ := hrel
            by_cases hlt : k < (lowD M).length
            · obtain ⟨j, hj⟩ : ∃ j, j + k + 1 = (lowD M).length := ⟨(lowD M).length - 1 - k, by omega⟩
              have ej : (((lowD M).length : Int) - 1 - (k : Int)) = (j : Int) := by omega
              obtain ⟨y, hy⟩ : ∃ y, (lowD M)[j]'(by omega) = y := ⟨_, rfl⟩
              have hcell := (brow_below hrb hbel2 hgb).cell j (by omega)
              rw [hy] at hcell
              have HR2 : Hid ((lowD M).reverse.take (k + 1) = ((lowD M).reverse.take k) ++ [y]) := by
                show _ = _
                rw [rev_take (lowD M) j k hj, hy]
              have hlen2 : ((lowD M).reverse.take k).length ≤ 1099511627776 := by
                rw [List.length_take, List.length_reverse]; omega
              have hjl : j < (lowD M).length := by omega
              rw [ej]
              clear ej
              go_wp2_with (at_builtin; refine wpList_append_byte rfl (.tmp 32) (.tmp 37) 60 rfl 5 Try.underlying60 info5 V.heap.size _ _ rfl hown2 y _ rfl 1 rfl hlen2 hsz2 V.heap.size V hbel2 (Nat.le_refl _) ?_; intro v' w3 hown3 hbel3 hsz3)
              go_roundw
              case rel => exact ⟨k + 1, by omega, by go_num, by rw [HR2.out]; exact hown3, hbel3, hsz3⟩
              case measure => simp only [intOf]; omega
            · obtain rfl : k = (lowD M).length := by omega
              rw [List.take_of_length_le (by rw [List.length_reverse]; exact Nat.le_refl _)] at hown2
              have ei : (((lowD M).length : Int) - 1 - ((lowD M).length : Int)) = -1 := by omega
              rw [ei]
              have hcv := run_string_own (P := Try.prog) wr 60 9 5 Try.underlying60 Try.underlying5 Try.underlying9 _ _ _ hown2
              have hb3 := hbel.trans (hbel2.mono hsz)
              have c0 := (hb3.cell (p := ⟨w.heap.size, 0, none⟩) (Nat.lt_succ_self _)).trans k0
              have c1 := (hb3.cell (p := ⟨w.heap.size, 1, none⟩) (Nat.lt_succ_self _)).trans k1
              have f0 := (hb3.frozen (p := ⟨w.heap.size, 0, none⟩) (Nat.lt_succ_self _)).trans z0
              have f1 := (hb3.frozen (p := ⟨w.heap.size, 1, none⟩) (Nat.lt_succ_self _)).trans z1
              go_wp2
              refine ⟨rfl, _, rof_results (h := w.heap.size) rfl (B := true) (m := bs (lowD M).reverse) ?_ ?_, by simp [hn], ((hbW.trans (hb3.mono (Nat.le_succ _))).setCell (p := ⟨w.heap.size, 0, none⟩) (Nat.le_refl _) _).setCell (p := ⟨w.heap.size, 1, none⟩) (Nat.le_refl _) _⟩
              · rw [World.cell?_setCell_other _ _ _ _ (by simp), World.cell?_setCell_same _ _ _ (by rw [c0])]
              · rw [World.cell?_setCell_same _ _ _ (by rw [World.cell?_setCell_other _ _ _ _ (by simp), c1])]
      · have hstep : Hid ((acc ++ [UInt8.ofNat (u % 256)]) ++ lowD (u / 256) = lowD M) := by
          show _ = _
          rw [← hacc.out, lowD_pos (show u ≠ 0 by omega)]
          simp
        have hlen : acc.length ≤ 1099511627776 := by
          have := congrArg List.length hacc.out
          rw [List.length_append] at this
          omega
        have hx : ((u % 256 : Nat) : Int) = ((UInt8.ofNat (u % 256)).toNat : Int) := by rw [ofNat_mod]
        go_wp2_with (at_builtin; refine wpList_append_byte rfl (.tmp 17) (.tmp 21) 60 rfl 5 Try.underlying60 info5 (w.heap.size + 1) _ _ rfl hown (UInt8.ofNat (u % 256)) _ hx 1 rfl hlen hsz (w.heap.size + 1) W hbel (Nat.le_refl _) ?_; intro v' w1 hown1 hbel1 hsz1)
        go_roundw
        case rel => exact ⟨u / 256, _, by omega, by go_num, hown1, hstep, hbel1, hsz1⟩
        case measure => simp [intOf]; omega
  · have hu : IntKind.u64.wrap i = (M : Int) := by simp only [u64_wrap]; omega
    go_enter Try.func22, Try.ntmps22
    go_wp2
    try rw [hu]
    try rw [hW]
    go_loopw [4, 5] (fun x v wr => ∃ (u : Nat) (acc : List UInt8), u ≤ M ∧ x = .int .u64 u ∧ BOwn 5 wr (w.heap.size + 1) v acc ∧ Hid (acc ++ lowD u = lowD M) ∧ Below (w.heap.size + 1) W wr ∧ w.heap.size + 1 ≤ wr.heap.size) (fun x _ _ => (intOf x).toNat)
    case atStart => exact ⟨M, [], Nat.le_refl _, rfl, BOwn.nil _ _ _, rfl, Below.refl _ _, by omega⟩
    case round =>
      obtain ⟨u, acc, hu, rfl, hown, hacc, hbel, hsz⟩ := hrel
      by_cases h0 : ¬ 0 < u
      · obtain rfl : acc = lowD M := by have := hacc.out; rwa [show u = 0 by omega, lowD_zero, List.append_nil] at this
        rcases hown.form with ⟨rfl, h0'⟩ | ⟨gb, capb, rfl, hgb1, hcb1, hcb2, hrb⟩
        · have hnil : lowD M = [] := h0'
          have hcv := run_convert_bytes_nil (P := Try.prog) wr 60 5 Try.underlying60 Try.underlying5 0 0 9 Try.underlying9
          go_wp2
          go_loopw [6, 7] (fun v i wr' => v = .slice none 0 0 ∧ i = .int .i64 (-1) ∧ wr = wr') (fun _ _ _ => 0)
          case atStart => exact ⟨rfl, by go_num, rfl⟩
          case round =>
            obtain ⟨rfl, rfl, rfl⟩ := hrel
            have hb3 := hbel
            have c0 := (hb3.cell (p := ⟨w.heap.size, 0, none⟩) (Nat.lt_succ_self _)).trans k0
            have c1 := (hb3.cell (p := ⟨w.heap.size, 1, none⟩) (Nat.lt_succ_self _)).trans k1
            have f0 := (hb3.frozen (p := ⟨w.heap.size, 0, none⟩) (Nat.lt_succ_self _)).trans z0
            have f1 := (hb3.frozen (p := ⟨w.heap.size, 1, none⟩) (Nat.lt_succ_self _)).trans z1
            go_wp2
            refine ⟨rfl, _, rof_results (h := w.heap.size) rfl (B := false) (m := bs (lowD M).reverse) ?_ ?_, by simp [hn], ((hbW.trans (hb3.mono (Nat.le_succ _))).setCell (p := ⟨w.heap.size, 0, none⟩) (Nat.le_refl _) _).setCell (p := ⟨w.heap.size, 1, none⟩) (Nat.le_refl _) _⟩
            · rw [World.cell?_setCell_other _ _ _ _ (by simp), World.cell?_setCell_same _ _ _ (by rw [c0])]
            · rw [World.cell?_setCell_same _ _ _ (by rw [World.cell?_setCell_other _ _ _ _ (by simp), c1])]; rw [hnil]; rfl
        · have hgb : gb < wr.heap.size := (World.ownsRow.lt hown gb rfl).2
          obtain ⟨V, rfl⟩ : ∃ V, V = wr := ⟨_, rfl⟩
          go_wp2
          go_loopw [6, 7] (fun v i wr' => ∃ k : Nat, k ≤ (lowD M).length ∧ i = .int .i64 (((lowD M).length : Int) - 1 - (k : Int)) ∧ BOwn 5 wr' V.heap.size v ((lowD M).reverse.take k) ∧ Below V.heap.size V wr' ∧ V.heap.size ≤ wr'.heap.size) (fun _ i _ => (intOf i + 1).toNat)
          case atStart => exact ⟨0, Nat.zero_le _, by go_num, BOwn.nil _ _ _, Below.refl _ _, Nat.le_refl _⟩
          case round =>
            obtain ⟨k, hk, rfl, hown2, hbel2, hsz2⟩ := hrel
            by_cases hlt : k < (lowD M).length
            · obtain ⟨j, hj⟩ : ∃ j, j + k + 1 = (lowD M).length := ⟨(lowD M).length - 1 - k, by omega⟩
              have ej : (((lowD M).length : Int) - 1 - (k : Int)) = (j : Int) := by omega
              obtain ⟨y, hy⟩ : ∃ y, (lowD M)[j]'(by omega) = y := ⟨_, rfl⟩
              have hcell := (brow_below hrb hbel2 hgb).cell j (by omega)
              rw [hy] at hcell
              have HR2 : Hid ((lowD M).reverse.take (k + 1) = ((lowD M).reverse.take k) ++ [y]) := by
                show _ = _
                rw [rev_take (lowD M) j k hj, hy]
              have hlen2 : ((lowD M).reverse.take k).length ≤ 1099511627776 := by
                rw [List.length_take, List.length_reverse]; omega
              have hjl : j < (lowD M).length := by omega
              rw [ej]
              clear ej
              go_wp2_with (at_builtin; refine wpList_append_byte rfl (.tmp 32) (.tmp 37) 60 rfl 5 Try.underlying60 info5 V.heap.size _ _ rfl hown2 y _ rfl 1 rfl hlen2 hsz2 V.heap.size V hbel2 (Nat.le_refl _) ?_; intro v' w3 hown3 hbel3 hsz3)
              go_roundw
              case rel => exact ⟨k + 1, by omega, by go_num, by rw [HR2.out]; exact hown3, hbel3, hsz3⟩
              case measure => simp only [intOf]; omega
            · obtain rfl : k = (lowD M).length := by omega
              rw [List.take_of_length_le (by rw [List.length_reverse]; exact Nat.le_refl _)] at hown2
              have ei : (((lowD M).length : Int) - 1 - ((lowD M).length : Int)) = -1 := by omega
              rw [ei]
              have hcv := run_string_own (P := Try.prog) wr 60 9 5 Try.underlying60 Try.underlying5 Try.underlying9 _ _ _ hown2
              have hb3 := hbel.trans (hbel2.mono hsz)
              have c0 := (hb3.cell (p := ⟨w.heap.size, 0, none⟩) (Nat.lt_succ_self _)).trans k0
              have c1 := (hb3.cell (p := ⟨w.heap.size, 1, none⟩) (Nat.lt_succ_self _)).trans k1
              have f0 := (hb3.frozen (p := ⟨w.heap.size, 0, none⟩) (Nat.lt_succ_self _)).trans z0
              have f1 := (hb3.frozen (p := ⟨w.heap.size, 1, none⟩) (Nat.lt_succ_self _)).trans z1
              go_wp2
              refine ⟨rfl, _, rof_results (h := w.heap.size) rfl (B := false) (m := bs (lowD M).reverse) ?_ ?_, by simp [hn], ((hbW.trans (hb3.mono (Nat.le_succ _))).setCell (p := ⟨w.heap.size, 0, none⟩) (Nat.le_refl _) _).setCell (p := ⟨w.heap.size, 1, none⟩) (Nat.le_refl _) _⟩
              · rw [World.cell?_setCell_other _ _ _ _ (by simp), World.cell?_setCell_same _ _ _ (by rw [c0])]
              · rw [World.cell?_setCell_same _ _ _ (by rw [World.cell?_setCell_other _ _ _ _ (by simp), c1])]
      · have hstep : Hid ((acc ++ [UInt8.ofNat (u % 256)]) ++ lowD (u / 256) = lowD M) := by
          show _ = _
          rw [← hacc.out, lowD_pos (show u ≠ 0 by omega)]
          simp
        have hlen : acc.length ≤ 1099511627776 := by
          have := congrArg List.length hacc.out
          rw [List.length_append] at this
          omega
        have hx : ((u % 256 : Nat) : Int) = ((UInt8.ofNat (u % 256)).toNat : Int) := by rw [ofNat_mod]
        go_wp2_with (at_builtin; refine wpList_append_byte rfl (.tmp 17) (.tmp 21) 60 rfl 5 Try.underlying60 info5 (w.heap.size + 1) _ _ rfl hown (UInt8.ofNat (u % 256)) _ hx 1 rfl hlen hsz (w.heap.size + 1) W hbel (Nat.le_refl _) ?_; intro v' w1 hown1 hbel1 hsz1)
        go_roundw
        case rel => exact ⟨u / 256, _, by omega, by go_num, hown1, hstep, hbel1, hsz1⟩
        case measure => simp [intOf]; omega
end Go.Proofs.Ytdmdnhlmfailaaa
