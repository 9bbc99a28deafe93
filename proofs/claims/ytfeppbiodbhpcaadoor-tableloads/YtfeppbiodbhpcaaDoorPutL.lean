/- What table.appendEntry, writeLines do (contracts; nothing is claimed here). -/
import Derived.Test.YtfeppbiodbhpcaaDoorPutE
namespace Go.Proofs.YtfeppbiodbhpcaaDoor
open Go.RowKit Go.Vf Go.Maps

theorem right_wt {e : El} (h : rightB e = true) : wtE e := by
  unfold rightB at h
  simp only [Bool.and_eq_true] at h
  unfold wtE
  simp_all
theorem elsP_take (l : List El) (k : Nat) (hk : k < l.length) : elsP (l.take (k + 1)) = elsP (l.take k) ++ elP l[k] := by
  unfold elsP
  rw [List.take_succ_eq_append_getElem hk, List.flatMap_append]
  simp
theorem joinS_short : ∀ us : List Nat, (∀ q ∈ us, q ≤ 1114111) → (joinS us).length ≤ us.length * 1001 := by
  intro us
  induction us with
  | nil => intro _; simp [joinS]
  | cons a r ih =>
    intro h
    have h1 := pointS_short a (h a (by simp))
    have h2 := ih (fun q hq => h q (by simp [hq]))
    cases r with
    | nil => simp [joinS]; omega
    | cons b t => simp only [joinS, List.length_append, List.length_cons] at h2 ⊢; omega
theorem elsP_short {l : List El} (h : l.all rightB = true) (k : Nat) : (elsP (l.take k)).length ≤ l.length * 17 := by
  rw [elsP_len _ (fun e he => right_wt (List.all_eq_true.1 h e (List.mem_of_mem_take he))), List.length_take]
  omega

set_option maxHeartbeats 4000000 in
set_option maxRecDepth 20000 in
theorem appendEntry_any (p : List Int) (l : List El) (hok : EntOk (p, l)) (base n₀ : Nat) (hn₀ : n₀ ≤ base) (pa : Option Addr) (pc : Nat) (ea : Option Addr) (ec : Nat) (v : Value) (acc : List UInt8) (w : World) (hown : BOwn 5 w base v acc) (hacc : acc.length ≤ 1000000) (hbase : base ≤ w.heap.size) (h6 : 6 < base) (ht : w.cell? ⟨6, 15, none⟩ = some (.int .u8 4))
    (hp : Ints n₀ w (.slice pa p.length pc) p) (hl : Els n₀ w (.slice ea l.length ec) l) :
    Calls Tryd.prog 60 #[v, .agg #[.slice pa p.length pc, .slice ea l.length ec]] w fun e w' => ∃ v', e = .returned v' ∧ BOwn 5 w' base v' (acc ++ entP (p, l)) ∧ Below base w w' ∧ base ≤ w'.heap.size ∧ KO w w' := by
  obtain ⟨us, hus, hne, hu8, hum⟩ := rowB_nat hok.row
  replace hus : p = us.map (fun q : Nat => (q : Int)) := hus
  have hpu : p.length = us.length := by rw [hus]; simp
  have hrowP : rowP p = joinS us := by
    unfold rowP
    rw [hus, List.map_map]
    congr 1
    rw [show (Int.toNat ∘ fun q : Nat => (q : Int)) = id from by funext q; simp]
    simp
  have hl16 : l.length ≤ 16 := hok.n1
  have hall : l.all rightB = true := hok.ok
  have HE : Hid (acc ++ entP (p, l) = acc ++ joinS us ++ [59] ++ elsP l) := by
    show _ = _
    simp [entP, hrowP]
  rcases hp with ⟨a', cap', e, rfl⟩ | ⟨bp, op, cap', e, hlp, hcp⟩
  · exfalso
    rw [List.length_nil] at hpu
    exact hne (List.eq_nil_of_length_eq_zero hpu.symm)
  cases e
  rcases hl with ⟨a', cap', e, rfl⟩ | ⟨be, oe, cap', e, hle, hce⟩
  · exfalso
    have := hok.n0
    simp at this
  cases e
  rw [hpu]
  have hcp' : ∀ j (hj : j < us.length), w.cell? ⟨bp, op + j, none⟩ = some (.int .i64 (us[j] : Int)) := fun j hj => by
    rw [hcp j (by omega), hus]
    simp [hj]
  have hB0 := Blk.new w 37 #[.slice (some ⟨bp, op, none⟩) us.length pc, .slice (some ⟨be, oe, none⟩) l.length ec]
  have hb0 := (Below.refl base w).alloc hbase (.cells #[.slice (some ⟨bp, op, none⟩) us.length pc, .slice (some ⟨be, oe, none⟩) l.length ec] 37)
  have ho0 := BOwn.alloc hown (.cells #[.slice (some ⟨bp, op, none⟩) us.length pc, .slice (some ⟨be, oe, none⟩) l.length ec] 37)
  have hk0 := (KO.refl w).alloc (.cells #[.slice (some ⟨bp, op, none⟩) us.length pc, .slice (some ⟨be, oe, none⟩) l.length ec] 37)
  have hs0 : base ≤ (w.alloc (.cells #[.slice (some ⟨bp, op, none⟩) us.length pc, .slice (some ⟨be, oe, none⟩) l.length ec] 37)).heap.size := by simp; omega
  have q0 := hB0.cell 0
  have q1 := hB0.cell 1
  have HU : Hid (p.length = us.length) := hpu
  clear hpu hus hrowP hok hcp hown
  go_enter Tryd.func60, Tryd.ntmps60
  go_wp2_with fail
  generalize w.alloc (.cells #[.slice (some ⟨bp, op, none⟩) us.length pc, .slice (some ⟨be, oe, none⟩) l.length ec] 37) = W at hB0 hb0 ho0 hk0 hs0 q0 q1 ⊢
  generalize w.heap.size = B at hB0 q0 q1 ⊢
  go_loopw [0, 12] (fun t i wr => ∃ (k : Nat), k ≤ us.length ∧ i = .int .i64 k ∧ BOwn 5 wr base t (acc ++ joinS (us.take k)) ∧ Below base w wr ∧ base ≤ wr.heap.size ∧ KO w wr ∧ Blk wr B 37 #[.slice (some ⟨bp, op, none⟩) us.length pc, .slice (some ⟨be, oe, none⟩) l.length ec]) (fun _ i _ => us.length - (intOf i).toNat)
  case atStart => exact ⟨0, by omega, rfl, by simpa [joinS] using ho0, hb0, hs0, hk0, hB0⟩
  case round =>
    obtain ⟨k, hk, rfl, hok, hbk, hsk, hkk, hBk⟩ := hrel
    by_cases hlt : k < us.length
    · have hc := (hbk.cell (p := ⟨bp, op + k, none⟩) (show bp < base by omega)).trans (hcp' k hlt)
      have hst := joinS_step us k hlt
      have hum' := hum _ (List.getElem_mem hlt)
      have hlen : (acc ++ joinS (us.take k)).length ≤ 2000000 := by
        have := joinS_short (us.take k) (fun q hq => hum q (List.mem_of_mem_take hq))
        rw [List.length_take] at this
        simp
        omega
      generalize us[k] = x at hc hst hum'
      obtain ⟨A, hA⟩ : ∃ A, A = acc ++ joinS (us.take k) := ⟨_, rfl⟩
      rw [← hA] at hok hlen
      have HA : Hid (A = acc ++ joinS (us.take k)) := hA
      clear hA
      obtain ⟨ta, tc, htv⟩ := bown_val hok
      subst htv
      by_cases hk0 : 0 < k
      · rw [if_pos hk0] at hst
        have HS : Hid (acc ++ joinS (us.take (k + 1)) = A ++ [32] ++ pointS x) := by show _ = _; rw [hst, HA.out]; simp
        have g0 : decide ((0 : Int) < (k : Int)) = true := by simp; omega
        clear hst
        go_wp2_with (at_builtin; refine wpList_append_byteK rfl _ _ rfl base _ _ rfl hok 32 32 rfl _ rfl (by omega) hsk wr (Below.refl _ _) (KO.refl _) ?_; intro v1 w1 ho1 hb1 hs1 hk1)
        have hc1 := appendHex_any x base hum' _ _ w1 ho1 (by simp; omega) hs1 h6 (((hbk.trans hb1).cell (p := ⟨6, 15, none⟩) h6).trans ht)
        refine hc1.mono ?_
        rintro e w2 ⟨v2, rfl, ho2, hb2, hs2, hk2⟩
        go_wp2_with fail
        go_roundw
        case rel => exact ⟨k + 1, by omega, by simp, by rw [HS.out]; exact ho2, hbk.trans (hb1.trans hb2), hs2, hkk.trans (hk1.trans hk2), hk2 _ _ _ (by decide) (hk1 _ _ _ (by decide) hBk)⟩
        case measure => simp only [intOf]; omega
      · rw [if_neg hk0] at hst
        have HS : Hid (acc ++ joinS (us.take (k + 1)) = A ++ pointS x) := by show _ = _; rw [hst, HA.out]; simp
        have g0 : decide ((0 : Int) < (k : Int)) = false := by simp; omega
        clear hst
        go_wp2_with fail
        have hc1 := appendHex_any x base hum' _ _ wr hok (by omega) hsk h6 ((hbk.cell (p := ⟨6, 15, none⟩) h6).trans ht)
        refine hc1.mono ?_
        rintro e w2 ⟨v2, rfl, ho2, hb2, hs2, hk2⟩
        go_wp2_with fail
        go_roundw
        case rel => exact ⟨k + 1, by omega, by simp, by rw [HS.out]; exact ho2, hbk.trans hb2, hs2, hkk.trans hk2, hk2 _ _ _ (by decide) hBk⟩
        case measure => simp only [intOf]; omega
    · have hfin : acc ++ joinS (us.take k) = acc ++ joinS us := by rw [List.take_of_length_le (by omega)]
      rw [hfin] at hok
      have hlen : (acc ++ joinS us).length ≤ 1500000 := by
        have := joinS_short us hum
        simp
        omega
      obtain ⟨A, hA⟩ : ∃ A, A = acc ++ joinS us := ⟨_, rfl⟩
      rw [← hA] at hok hlen
      have HA : Hid (A = acc ++ joinS us) := hA
      clear hA hfin
      obtain ⟨ta, tc, htv⟩ := bown_val hok
      subst htv
      have r1 := hBk.cell 1
      go_wp2_with (at_builtin; refine wpList_append_byteK rfl _ _ rfl base _ _ rfl hok 59 59 rfl _ rfl (by omega) hsk wr (Below.refl _ _) (KO.refl _) ?_; intro v1 w1 ho1 hb1 hs1 hk1; have hB1 := hk1 _ _ _ (by decide) hBk; have r2 := Blk.cell hB1 1)
      have hbx := hbk.trans hb1
      have hkx := hkk.trans hk1
      clear hb1 hk1 hbk hkk hBk r1 hok
      go_loopw [0, 32] (fun t i wr2 => ∃ (k : Nat), k ≤ l.length ∧ i = .int .i64 k ∧ BOwn 5 wr2 base t (A ++ [59] ++ elsP (l.take k)) ∧ Below base w wr2 ∧ base ≤ wr2.heap.size ∧ KO w wr2) (fun _ i _ => l.length - (intOf i).toNat)
      case atStart => exact ⟨0, by omega, rfl, by simpa [elsP] using ho1, hbx, hs1, hkx⟩
      case round =>
        obtain ⟨k2, hk2, rfl, hok2, hbk2, hsk2, hkk2⟩ := hrel
        by_cases hlt2 : k2 < l.length
        · obtain ⟨e0, e1, e2, e3⟩ := hce k2 hlt2
          have z : ∀ j, wr.cell? ⟨be, j, none⟩ = w.cell? ⟨be, j, none⟩ := fun j => hbk2.cell (p := ⟨be, j, none⟩) (show be < base by omega)
          rw [← z] at e0 e1 e2 e3
          have hr := right_wt (List.all_eq_true.1 hall _ (List.getElem_mem hlt2))
          have hst := elsP_take l k2 hlt2
          have hsh := elsP_short hall k2
          generalize l[k2] = el at e0 e1 e2 e3 hr hst
          obtain ⟨va, pr, se, te⟩ := el
          obtain ⟨h1, h2, h3⟩ := hr
          obtain ⟨pr, rfl, hpr⟩ := wtB_nat h1
          obtain ⟨se, rfl, hse⟩ := wtB_nat h2
          obtain ⟨te, rfl, hte⟩ := wtB_nat h3
          obtain ⟨A2, hA2⟩ : ∃ A2, A2 = A ++ [59] ++ elsP (l.take k2) := ⟨_, rfl⟩
          have hlen2 : A2.length ≤ 100000000 := by rw [hA2]; simp; omega
          rw [← hA2] at hok2
          have HS2 : Hid (A ++ [59] ++ elsP (l.take (k2 + 1)) = A2 ++ elP ⟨va, pr, se, te⟩) := by show _ = _; rw [hst, hA2]; simp
          clear hA2 hst z hsh h1 h2 h3
          obtain ⟨t2, c2, htv⟩ := bown_val hok2
          subst htv
          have hel := appendElement_any va pr se te base (by omega) (by omega) (by omega) _ A2 _ (BOwn.alloc hok2 (.cells #[.bool va, .int .i64 (pr : Int), .int .i64 (se : Int), .int .i64 (te : Int)] 49)) hlen2 (by simp; omega) h6 ((((hbk2.alloc hsk2 _)).cell (p := ⟨6, 15, none⟩) h6).trans ht)
          have hb4 := hbk2.alloc hsk2 (.cells #[.bool va, .int .i64 (pr : Int), .int .i64 (se : Int), .int .i64 (te : Int)] 49)
          have hk4 := hkk2.alloc (.cells #[.bool va, .int .i64 (pr : Int), .int .i64 (se : Int), .int .i64 (te : Int)] 49)
          go_wp2_with fail
          refine hel.mono ?_
          rintro e w5 ⟨v5, rfl, ho5, hb5, hs5, hk5⟩
          go_wp2_with fail
          go_roundw
          case rel => exact ⟨k2 + 1, by omega, by simp, by rw [HS2.out]; exact ho5, hb4.trans hb5, hs5, hk4.trans hk5⟩
          case measure => simp only [intOf]; omega
        · have hfin : A ++ [59] ++ elsP (l.take k2) = acc ++ entP (p, l) := by rw [List.take_of_length_le (by omega), HE.out, HA.out]
          rw [hfin] at hok2
          go_wp2_with fail
          go_ret
          exact ⟨_, rfl, hok2, hbk2, hsk2, hkk2⟩
end Go.Proofs.YtfeppbiodbhpcaaDoor
