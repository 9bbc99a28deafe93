/- What dovetailref06.text does (a contract; nothing is claimed here). -/
import Derived.Test.YtfeppbiodbhpcaaDoorRefE
namespace Go.Proofs.YtfeppbiodbhpcaaDoor
open Go.RowKit Go.Vf Go.Maps

/-! ### an entry's text -/
set_option maxHeartbeats 4000000 in
set_option maxRecDepth 20000 in
theorem refText_any (p : List Int) (l : List El) (hok : EntOk (p, l)) (n₀ : Nat) (pa : Option Addr) (pc : Nat) (ea : Option Addr) (ec : Nat) (w : World) (hn₀ : n₀ ≤ w.heap.size) (hp : Ints n₀ w (.slice pa p.length pc) p) (hl : Els n₀ w (.slice ea l.length ec) l) :
    Calls Tryd.prog 42 #[.agg #[.slice pa p.length pc, .slice ea l.length ec]] w fun e w' => e = .returned (.string (bsz (entP (p, l)))) ∧ Below w.heap.size w w' := by
  obtain ⟨us, hus, hne, hu8, hum⟩ := rowB_nat hok.row
  replace hus : p = us.map (fun q : Nat => (q : Int)) := hus
  have hpu : p.length = us.length := by rw [hus]; simp
  have hrowP : rowP p = joinS us := by
    unfold rowP
    rw [hus, List.map_map]
    congr 1
    rw [show (Int.toNat ∘ fun q : Nat => (q : Int)) = id from by funext q; simp]
    simp
  have hl16 : l.length ≤ 16 := hok.n1
  have hall : l.all rightB = true := hok.ok
  have HE : Hid (entP (p, l) = joinS us ++ [59] ++ elsP l) := by
    show _ = _
    simp [entP, hrowP]
  rcases hp with ⟨a', cap', e, rfl⟩ | ⟨bp, op, cap', e, hlp, hcp⟩
  · exfalso
    rw [List.length_nil] at hpu
    exact hne (List.eq_nil_of_length_eq_zero hpu.symm)
  cases e
  rcases hl with ⟨a', cap', e, rfl⟩ | ⟨be, oe, cap', e, hle, hce⟩
  · exfalso
    have := hok.n0
    simp at this
  cases e
  rw [hpu]
  have hcp' : ∀ j (hj : j < us.length), w.cell? ⟨bp, op + j, none⟩ = some (.int .i64 (us[j] : Int)) := fun j hj => by
    rw [hcp j (by omega), hus]
    simp [hj]
  have hB0 := Blk.new w 37 #[.slice (some ⟨bp, op, none⟩) us.length pc, .slice (some ⟨be, oe, none⟩) l.length ec]
  have hb0 := (Below.refl w.heap.size w).alloc (Nat.le_refl _) (.cells #[.slice (some ⟨bp, op, none⟩) us.length pc, .slice (some ⟨be, oe, none⟩) l.length ec] 37)
  have q0 := hB0.cell 0
  have q1 := hB0.cell 1
  have HU : Hid (p.length = us.length) := hpu
  clear hpu hus hrowP hok hcp
  go_enter Tryd.func42, Tryd.ntmps42
  go_wp2_with fail
  generalize w.alloc (.cells #[.slice (some ⟨bp, op, none⟩) us.length pc, .slice (some ⟨be, oe, none⟩) l.length ec] 37) = W at hB0 hb0 q0 q1 ⊢
  generalize hBe : w.heap.size = B at hB0 q0 q1 ⊢
  rw [hBe] at hb0 hn₀
  have HBE : Hid (w.heap.size = B) := hBe
  clear hBe
  have HCE : Hid (∀ j (hj : j < l.length), w.cell? ⟨be, oe + j * 4, none⟩ = some (.bool l[j].va) ∧ w.cell? ⟨be, oe + j * 4 + 1, none⟩ = some (.int .i64 l[j].pr) ∧ w.cell? ⟨be, oe + j * 4 + 2, none⟩ = some (.int .i64 l[j].se) ∧ w.cell? ⟨be, oe + j * 4 + 3, none⟩ = some (.int .i64 l[j].te)) := hce
  have hcw : Hid (∀ j (hj : j < us.length), W.cell? ⟨bp, op + j, none⟩ = some (.int .i64 (us[j] : Int))) := fun j hj => (hb0.cell (p := ⟨bp, op + j, none⟩) (show bp < B by omega)).trans (hcp' j hj)
  clear hce hcp'
  go_loopw [3, 4] (fun t i wr => ∃ (k : Nat) (tb : ByteArray), k ≤ us.length ∧ i = .int .i64 k ∧ t = .string tb ∧ tb.size ≤ 1000 * k ∧ Hid (tb = bsz (joinS (us.take k))) ∧ wr = W) (fun _ i _ => us.length - (intOf i).toNat)
  case atStart => exact ⟨0, ⟨#[]⟩, by omega, rfl, rfl, by simp [ByteArray.size], by show _ = _; simp [joinS], rfl⟩
  case round =>
    obtain ⟨k, tb, hk, rfl, rfl, htb, HT, rfl⟩ := hrel
    by_cases hlt : k < us.length
    · have hc := hcw.out k hlt
      have hst := joinS_step us k hlt
      have hum' := hum _ (List.getElem_mem hlt)
      generalize us[k] = x at hc hst hum'
      have hdg := digits_any x (by omega) wr
      have hsx : (bsz (pointS x)).size ≤ 6 := by rw [bsz_size]; exact pointS_six x (by omega)
      generalize hX : bsz (pointS x) = X at hdg hsx
      have HX : Hid (bsz (pointS x) = X) := hX
      clear hX
      by_cases hk0 : 0 < k
      · rw [if_pos hk0] at hst
        have HS : Hid (tb ++ ⟨#[32]⟩ ++ X = bsz (joinS (us.take (k + 1)))) := by
          show _ = _
          rw [hst, ← HX.out, HT.out]
          apply ByteArray.ext
          simp
        have hs1 : (tb ++ ⟨#[32]⟩).size ≤ 1000 * k + 1 := by rw [ByteArray.size_append, one_size]; omega
        have hs2 : (tb ++ ⟨#[32]⟩ ++ X).size ≤ 1000 * (k + 1) := by rw [ByteArray.size_append, ByteArray.size_append, one_size]; omega
        have g0 : decide ((0 : Int) < (k : Int)) = true := by simp; omega
        clear hst HX HT
        go_wp2_with fail
        refine hdg.mono ?_
        rintro e w1 ⟨rfl, rfl⟩
        go_wp2_with fail
        go_roundw
        case rel => exact ⟨k + 1, _, by omega, by simp, rfl, hs2, HS, trivial⟩
        case measure => simp only [intOf]; omega
      · rw [if_neg hk0] at hst
        have HS : Hid (tb ++ X = bsz (joinS (us.take (k + 1)))) := by
          show _ = _
          rw [hst, ← HX.out, HT.out]
          apply ByteArray.ext
          simp
        have hs2 : (tb ++ X).size ≤ 1000 * (k + 1) := by rw [ByteArray.size_append]; omega
        have g0 : decide ((0 : Int) < (k : Int)) = false := by simp; omega
        clear hst HX HT
        go_wp2_with fail
        refine hdg.mono ?_
        rintro e w1 ⟨rfl, rfl⟩
        go_wp2_with fail
        go_roundw
        case rel => exact ⟨k + 1, _, by omega, by simp, rfl, hs2, HS, trivial⟩
        case measure => simp only [intOf]; omega
    · have HA : Hid (tb ++ ⟨#[59]⟩ = bsz (joinS us ++ [59])) := by
        show _ = _
        rw [HT.out, List.take_of_length_le (by omega)]
        apply ByteArray.ext
        simp
      have hs1 : (tb ++ ⟨#[59]⟩).size ≤ 10000 := by rw [ByteArray.size_append, one_size]; omega
      clear HT hcw
      go_wp2_with fail
      generalize tb ++ ⟨#[59]⟩ = A at HA hs1 ⊢
      obtain ⟨wo, hwo⟩ : ∃ wo, wo = wr := ⟨_, rfl⟩
      subst hwo
      go_loopw [3, 5] (fun t i wx => ∃ (k2 : Nat) (tb2 : ByteArray), k2 ≤ l.length ∧ i = .int .i64 k2 ∧ t = .string tb2 ∧ tb2.size ≤ 10000 + 100 * k2 ∧ Hid (tb2 = bsz (joinS us ++ [59] ++ elsP (l.take k2))) ∧ Below wo.heap.size wo wx) (fun _ i _ => l.length - (intOf i).toNat)
      case atStart => exact ⟨0, A, by omega, rfl, rfl, by omega, by show _ = _; rw [HA.out]; simp [elsP], Below.refl _ _⟩
      case round =>
        obtain ⟨k2, tb2, hk2, rfl, rfl, htb2, HT2, hbk⟩ := hrel
        have q1b : wr.cell? ⟨B, 1, none⟩ = some (.slice (some ⟨be, oe, none⟩) l.length ec) := (hbk.cell (p := ⟨B, 1, none⟩) hB0.lt).trans q1
        by_cases hlt2 : k2 < l.length
        · have hbw : be < wo.heap.size := by have := hB0.lt; omega
          obtain ⟨e0, e1, e2, e3⟩ := HCE.out k2 hlt2
          have up : ∀ j, wr.cell? ⟨be, j, none⟩ = w.cell? ⟨be, j, none⟩ := fun j => (hbk.cell (p := ⟨be, j, none⟩) hbw).trans (hb0.cell (p := ⟨be, j, none⟩) (show be < B by omega))
          have f0 := (up _).trans e0
          have f1 := (up _).trans e1
          have f2 := (up _).trans e2
          have f3 := (up _).trans e3
          have hrt : rightB l[k2] = true := List.all_eq_true.1 hall _ (List.getElem_mem hlt2)
          have hlen17 : (elP l[k2]).length ≤ 100 := by
            have := elsP_len [l[k2]] (by intro e he; rw [List.mem_singleton.1 he]; exact right_wt hrt)
            simp [elsP] at this
            omega
          have htk := elsP_take l k2 hlt2
          obtain ⟨h1, h2, h3⟩ := right_wt hrt
          obtain ⟨x, hx⟩ : ∃ x, x = l[k2] := ⟨_, rfl⟩
          rw [← hx] at f0 f1 f2 f3 hlen17 htk h1 h2 h3
          clear hx hrt e0 e1 e2 e3 up
          obtain ⟨va, pr, se, te⟩ := x
          obtain ⟨u1, g1, g2⟩ := wtB_nat h1
          obtain ⟨u2, g3, g4⟩ := wtB_nat h2
          obtain ⟨u3, g5, g6⟩ := wtB_nat h3
          dsimp only at f0 f1 f2 f3 g1 g3 g5
          subst g1 g3 g5
          have hel := refElement_any va u1 u2 u3 (by omega) (by omega) (by omega) wr
          obtain ⟨X, hX⟩ : ∃ X, X = bsz (elP ⟨va, (u1 : Int), u2, u3⟩) := ⟨_, rfl⟩
          have hsx : X.size ≤ 100 := by rw [hX, bsz_size]; exact hlen17
          rw [← hX] at hel
          have HS2 : Hid (tb2 ++ X = bsz (joinS us ++ [59] ++ elsP (l.take (k2 + 1)))) := by
            show _ = _
            rw [htk, HT2.out, hX, bsz_append]
            simp [List.append_assoc]
          have hs3 : (tb2 ++ X).size ≤ 10000 + 100 * (k2 + 1) := by rw [ByteArray.size_append]; omega
          clear hX htk hlen17 h1 h2 h3 HT2 g2 g4 g6
          go_wp2_with fail
          refine hel.mono ?_
          rintro e w2 ⟨rfl, hb2⟩
          have hbn : Below wo.heap.size wo w2 := hbk.trans (hb2.mono hbk.size)
          clear hel f0 f1 f2 f3 hb2
          go_wp2_with fail
          go_roundw
          case rel => exact ⟨k2 + 1, _, by omega, by simp, rfl, hs3, HS2, hbn⟩
          case measure => simp only [intOf]; omega
        · have hR : tb2 = bsz (entP (p, l)) := by
            rw [HT2.out, HE.out, List.take_of_length_le (by omega)]
          clear HT2
          go_wp2_with fail
          go_ret
          subst hR
          exact ⟨rfl, by rw [HBE.out]; exact hb0.trans (hbk.mono (Nat.le_of_lt hB0.lt))⟩
end Go.Proofs.YtfeppbiodbhpcaaDoor
