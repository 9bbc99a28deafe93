/- What nat.Of does (a contract; nothing is claimed here). -/
import Derived.Test.YtdmdnhlmfailaaaRev
namespace Go.Proofs.Ytdmdnhlmfailaaa
open Go.RowKit Go.Vf

theorem u64_wrap (x : Int) : IntKind.u64.wrap x = x % 18446744073709551616 := by simp [IntKind.wrap, IntKind.signed, IntKind.bits]

theorem of_results {tmps : Array Value} {w : World} {h : Nat} {B : Bool} {m : ByteArray} (t2 : tmps[2]?.getD undef = .pointer (some ⟨h, 0, none⟩)) (c0 : w.cell? ⟨h, 0, none⟩ = some (.bool B)) (c1 : w.cell? ⟨h, 1, none⟩ = some (.string m)) :
    (results Try.f19 tmps).run Try.prog w = .ok (numV B m) w := by
  simp [results, Try.results19, go_sem, t2, c0, c1]

def ofE (i : Int) : Ending := .returned (numV (decide (i < 0)) (bs (lowD i.natAbs).reverse))

set_option maxHeartbeats 1000000 in
theorem of_any (i : Int) (hi : -9223372036854775808 ≤ i) (hi2 : i ≤ 9223372036854775807) (w : World) :
    Calls Try.prog 19 #[.int .i64 i] w fun e w' => e = ofE i ∧ Below w.heap.size w w' := by
  obtain ⟨M, hM⟩ : ∃ M, i.natAbs = M := ⟨_, rfl⟩
  have hlD : (lowD M).length ≤ 8 := lowD_length_le.2 (by rw [show (256 : Nat) ^ 8 = 18446744073709551616 by decide]; omega)
  have hbW := (Below.refl w.heap.size w).alloc (Nat.le_refl _) (.cells #[.bool false, .string ⟨#[]⟩] 26)
  obtain ⟨W, hW⟩ : ∃ W, w.alloc (.cells #[.bool false, .string ⟨#[]⟩] 26) = W := ⟨_, rfl⟩
  have k0 : W.cell? ⟨w.heap.size, 0, none⟩ = some (.bool false) := by rw [← hW]; simp
  have k1 : W.cell? ⟨w.heap.size, 1, none⟩ = some (.string ⟨#[]⟩) := by rw [← hW]; simp
  have z0 : W.frozen? ⟨w.heap.size, 0, none⟩ = false := by rw [← hW]; simp
  have z1 : W.frozen? ⟨w.heap.size, 1, none⟩ = false := by rw [← hW]; simp
  have hWs : W.heap.size = w.heap.size + 1 := by rw [← hW]; simp
  rw [hW] at hbW
  have hR : ofE i = .returned (numV (decide (i < 0)) (bs (lowD M).reverse)) := by rw [ofE, hM]
  rw [hR]
  clear hR
  by_cases hn : i < 0
  · have hu : IntKind.u64.wrap (-IntKind.u64.wrap i) = (M : Int) := by simp only [u64_wrap]; omega
    go_enter Try.func19, Try.ntmps19
    go_wp2
    try rw [hu]
    try rw [hW]
    generalize IntKind.u64.wrap i = q
    go_loopw [3, 4] (fun x v wr => ∃ (u : Nat) (acc : List UInt8), u ≤ M ∧ x = .int .u64 u ∧ BOwn 5 wr (w.heap.size + 1) v acc ∧ Hid (acc ++ lowD u = lowD M) ∧ Below (w.heap.size + 1) W wr ∧ w.heap.size + 1 ≤ wr.heap.size) (fun x _ _ => (intOf x).toNat)
    case atStart => exact ⟨M, [], Nat.le_refl _, rfl, BOwn.nil _ _ _, rfl, Below.refl _ _, by omega⟩
    case round =>
      obtain ⟨u, acc, hu, rfl, hown, hacc, hbel, hsz⟩ := hrel
      by_cases h0 : u = 0
      · subst h0
        obtain rfl : acc = lowD M := by have := hacc.out; rwa [lowD_zero, List.append_nil] at this
        go_wp2_with fail
        refine (turnedRound_own _ _ _ (by omega) _ hown).mono ?_
        rintro e w2 ⟨rfl, hb2⟩
        have hb3 := hbel.trans hb2
        have c0 := (hb3.cell (p := ⟨w.heap.size, 0, none⟩) (Nat.lt_succ_self _)).trans k0
        have c1 := (hb3.cell (p := ⟨w.heap.size, 1, none⟩) (Nat.lt_succ_self _)).trans k1
        have f0 := (hb3.frozen (p := ⟨w.heap.size, 0, none⟩) (Nat.lt_succ_self _)).trans z0
        have f1 := (hb3.frozen (p := ⟨w.heap.size, 1, none⟩) (Nat.lt_succ_self _)).trans z1
        go_wp2
        refine ⟨rfl, _, of_results (h := w.heap.size) rfl (B := true) (m := bs (lowD M).reverse) ?_ ?_, by simp [hn], ((hbW.trans (hb3.mono (Nat.le_succ _))).setCell (p := ⟨w.heap.size, 0, none⟩) (Nat.le_refl _) _).setCell (p := ⟨w.heap.size, 1, none⟩) (Nat.le_refl _) _⟩
        · rw [World.cell?_setCell_other _ _ _ _ (by simp), World.cell?_setCell_same _ _ _ (by rw [c0])]
        · rw [World.cell?_setCell_same _ _ _ (by rw [World.cell?_setCell_other _ _ _ _ (by simp), c1])]
      · have hstep : Hid ((acc ++ [UInt8.ofNat (u % 256)]) ++ lowD (u / 256) = lowD M) := by
          show _ = _
          rw [← hacc.out, lowD_pos h0]
          simp
        have hlen : acc.length ≤ 1099511627776 := by
          have := congrArg List.length hacc.out
          rw [List.length_append] at this
          omega
        have hx : ((u % 256 : Nat) : Int) = ((UInt8.ofNat (u % 256)).toNat : Int) := by rw [ofNat_mod]
        go_wp2_with (at_builtin; refine wpList_append_byte rfl (.tmp 15) (.tmp 18) 60 rfl 5 Try.underlying60 info5 (w.heap.size + 1) _ _ rfl hown (UInt8.ofNat (u % 256)) _ hx 1 rfl hlen hsz (w.heap.size + 1) W hbel (Nat.le_refl _) ?_; intro v' w1 hown1 hbel1 hsz1)
        go_roundw
        case rel => exact ⟨u / 256, _, by omega, by go_num, hown1, hstep, hbel1, hsz1⟩
        case measure => simp [intOf]; omega
  · have hu : IntKind.u64.wrap i = (M : Int) := by simp only [u64_wrap]; omega
    go_enter Try.func19, Try.ntmps19
    go_wp2
    try rw [hu]
    try rw [hW]
    go_loopw [3, 4] (fun x v wr => ∃ (u : Nat) (acc : List UInt8), u ≤ M ∧ x = .int .u64 u ∧ BOwn 5 wr (w.heap.size + 1) v acc ∧ Hid (acc ++ lowD u = lowD M) ∧ Below (w.heap.size + 1) W wr ∧ w.heap.size + 1 ≤ wr.heap.size) (fun x _ _ => (intOf x).toNat)
    case atStart => exact ⟨M, [], Nat.le_refl _, rfl, BOwn.nil _ _ _, rfl, Below.refl _ _, by omega⟩
    case round =>
      obtain ⟨u, acc, hu, rfl, hown, hacc, hbel, hsz⟩ := hrel
      by_cases h0 : u = 0
      · subst h0
        obtain rfl : acc = lowD M := by have := hacc.out; rwa [lowD_zero, List.append_nil] at this
        go_wp2_with fail
        refine (turnedRound_own _ _ _ (by omega) _ hown).mono ?_
        rintro e w2 ⟨rfl, hb2⟩
        have hb3 := hbel.trans hb2
        have c0 := (hb3.cell (p := ⟨w.heap.size, 0, none⟩) (Nat.lt_succ_self _)).trans k0
        have c1 := (hb3.cell (p := ⟨w.heap.size, 1, none⟩) (Nat.lt_succ_self _)).trans k1
        have f0 := (hb3.frozen (p := ⟨w.heap.size, 0, none⟩) (Nat.lt_succ_self _)).trans z0
        have f1 := (hb3.frozen (p := ⟨w.heap.size, 1, none⟩) (Nat.lt_succ_self _)).trans z1
        go_wp2
        refine ⟨rfl, _, of_results (h := w.heap.size) rfl (B := false) (m := bs (lowD M).reverse) ?_ ?_, by simp [hn], ((hbW.trans (hb3.mono (Nat.le_succ _))).setCell (p := ⟨w.heap.size, 0, none⟩) (Nat.le_refl _) _).setCell (p := ⟨w.heap.size, 1, none⟩) (Nat.le_refl _) _⟩
        · rw [World.cell?_setCell_other _ _ _ _ (by simp), World.cell?_setCell_same _ _ _ (by rw [c0])]; simp [hn]
        · rw [World.cell?_setCell_same _ _ _ (by rw [World.cell?_setCell_other _ _ _ _ (by simp), c1])]
      · have hstep : Hid ((acc ++ [UInt8.ofNat (u % 256)]) ++ lowD (u / 256) = lowD M) := by
          show _ = _
          rw [← hacc.out, lowD_pos h0]
          simp
        have hlen : acc.length ≤ 1099511627776 := by
          have := congrArg List.length hacc.out
          rw [List.length_append] at this
          omega
        have hx : ((u % 256 : Nat) : Int) = ((UInt8.ofNat (u % 256)).toNat : Int) := by rw [ofNat_mod]
        go_wp2_with (at_builtin; refine wpList_append_byte rfl (.tmp 15) (.tmp 18) 60 rfl 5 Try.underlying60 info5 (w.heap.size + 1) _ _ rfl hown (UInt8.ofNat (u % 256)) _ hx 1 rfl hlen hsz (w.heap.size + 1) W hbel (Nat.le_refl _) ?_; intro v' w1 hown1 hbel1 hsz1)
        go_roundw
        case rel => exact ⟨u / 256, _, by omega, by go_num, hown1, hstep, hbel1, hsz1⟩
        case measure => simp [intOf]; omega
end Go.Proofs.Ytdmdnhlmfailaaa
