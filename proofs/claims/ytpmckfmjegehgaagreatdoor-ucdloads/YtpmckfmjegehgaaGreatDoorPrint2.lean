/- What writeLines and Print do (contracts; nothing is claimed here). -/
import Derived.Test.YtpmckfmjegehgaaGreatDoorPrint
namespace Go.Proofs.YtpmckfmjegehgaaGreatDoor
open Go.RowKit Go.Vf Go.Maps

def writeE : Option (List UInt8) → Ending
  | none => .returned (.tuple #[.string ⟨#[]⟩, .int .i64 2])
  | some t => .returned (.tuple #[.string (bsz t), .int .i64 0])

theorem results39_run {tmps : Array Value} {w : World} {a b : Value} (t2 : tmps[2]?.getD undef = a) (t3 : tmps[3]?.getD undef = b) : (results Tryz.f39 tmps).run Tryz.prog w = .ok (.tuple #[a, b]) w := by
  simp [results, Tryz.results39, go_sem, t2, t3]
theorem results16_run {tmps : Array Value} {w : World} {a b : Value} (t2 : tmps[2]?.getD undef = a) (t3 : tmps[3]?.getD undef = b) : (results Tryz.f16 tmps).run Tryz.prog w = .ok (.tuple #[a, b]) w := by
  simp [results, Tryz.results16, go_sem, t2, t3]

theorem may_nat {x : Int} (h : mayB x = true) : ∃ u : Nat, x = (u : Int) ∧ u ≤ 1114111 := by
  simp [mayB] at h
  exact ⟨x.toNat, by omega, by omega⟩
theorem mayPM_nat {m : PM} (h : mayPM m = true) : ∃ (u c : Nat) (us : List Nat), m = ⟨(u : Int), (c : Int), us.map fun q : Nat => (q : Int)⟩ ∧ u ≤ 1114111 ∧ c ≤ 254 ∧ (∀ q ∈ us, q ≤ 1114111) ∧ markP m = markS u c us := by
  simp only [mayPM, Bool.and_eq_true, decide_eq_true_eq, List.all_eq_true] at h
  obtain ⟨h1, h2, h3, h4⟩ := h
  obtain ⟨u, hu, hul⟩ := may_nat h2
  obtain ⟨pt, cl, ps⟩ := m
  simp only at hu h1 h2 h3 h4
  subst hu
  have hps : ps = (ps.map Int.toNat).map (fun q : Nat => (q : Int)) := by
    rw [List.map_map]
    conv => lhs; rw [← List.map_id ps]
    refine List.map_congr_left fun x hx => ?_
    obtain ⟨q, rfl, _⟩ := may_nat (h1 x hx)
    simp
  refine ⟨u, cl.toNat, ps.map Int.toNat, ?_, hul, by omega, ?_, ?_⟩
  · rw [← hps, show ((cl.toNat : Nat) : Int) = cl by omega]
  · intro q hq
    obtain ⟨x, hx, rfl⟩ := List.mem_map.1 hq
    obtain ⟨q', rfl, hq'⟩ := may_nat (h1 x hx)
    simpa using hq'
  · simp [markP]

theorem writeR_cons (m : PM) (r : List PM) (f : Bool) (acc : List UInt8) : writeR (m :: r) f acc = if 65536 < m.parts.length then none
    else if 65536 < ((if f then acc else acc ++ [10]) ++ markP m).length then none
    else writeR r false ((if f then acc else acc ++ [10]) ++ markP m) := rfl

set_option maxHeartbeats 4000000 in
set_option maxRecDepth 20000 in
theorem writeLines_any (l : List PM) (hl : l.length ≤ 4096) (hmay : ∀ m ∈ l, mayPM m = true) (v : Value) (n₀ : Nat) (w : World) (hn₀ : n₀ ≤ w.heap.size) (hin : MIn n₀ w v l) (htb : Tb w w.heap.size) :
    Calls Tryz.prog 39 #[v] w fun e w' => e = writeE (writeR l true []) ∧ Below w.heap.size w w' := by
  obtain ⟨a, cap, rfl⟩ := hin.val
  generalize hR : writeR l true [] = R
  have HR : Hid (writeR l true [] = R) := hR
  clear hR
  go_enter Tryz.func39, Tryz.ntmps39
  go_wp2_with fail
  go_loopw [4, 9] (fun v i wr => ∃ (k : Nat) (acc : List UInt8), k ≤ l.length ∧ i = .int .i64 k ∧ BOwn 5 wr w.heap.size v acc ∧ acc.length ≤ 65536 ∧ Hid (writeR (l.drop k) (decide (k = 0)) acc = R) ∧ Below w.heap.size w wr ∧ w.heap.size ≤ wr.heap.size) (fun _ i _ => l.length - (intOf i).toNat)
  case atStart => exact ⟨0, [], by omega, rfl, BOwn.nil _ _ _, by simp, by simpa using HR, Below.refl _ _, Nat.le_refl _⟩
  case round =>
    clear HR
    obtain ⟨k, acc, hk, rfl, hown, hal, HK, hbel, hsz⟩ := hrel
    by_cases hlt : k < l.length
    · have hd : l.drop k = l[k] :: l.drop (k + 1) := List.drop_eq_getElem_cons hlt
      obtain ⟨b, off, rfl, pa, pk, pc, c0, c1, c2, hpi⟩ := (hin.below hbel hn₀).at hlt
      have hm := hmay _ (List.getElem_mem hlt)
      have hKK := HK.out
      rw [hd, writeR_cons] at hKK
      generalize l[k] = mm at c0 c1 c2 hpi hm hKK
      obtain ⟨u, c, us, rfl, hu, hc, hus, hmp⟩ := mayPM_nat hm
      simp only [List.length_map] at c0 c1 hpi hKK
      rw [hmp] at hKK
      obtain ⟨a', c', he⟩ := hpi.val
      simp only [Value.slice.injEq, List.length_map] at he
      have HPK : Hid (pk = us.length) := he.2.1
      have hb1 := hbel.alloc hsz (.cells #[.int .i64 (u : Int), .int .i64 (c : Int), .slice pa pk pc] 36)
      have hbn := Blk.new wr 36 #[.int .i64 (u : Int), .int .i64 (c : Int), .slice pa pk pc]
      have hown1 : BOwn 5 (wr.alloc (.cells #[.int .i64 (u : Int), .int .i64 (c : Int), .slice pa pk pc] 36)) w.heap.size _ acc := BOwn.alloc hown _
      have hsz1 : w.heap.size ≤ (wr.alloc (.cells #[.int .i64 (u : Int), .int .i64 (c : Int), .slice pa pk pc] 36)).heap.size := by simp; omega
      have hpi1 : Ints n₀ (wr.alloc (.cells #[.int .i64 (u : Int), .int .i64 (c : Int), .slice pa pk pc] 36)) (.slice pa pk pc) (us.map fun q : Nat => (q : Int)) := hpi.below ((Below.refl w.heap.size wr).alloc hsz _) hn₀
      have HKK : Hid ((if 65536 < us.length then none
        else if 65536 < ((if decide (k = 0) = true then acc else acc ++ [10]) ++ markS u c us).length then none
        else writeR (l.drop (k + 1)) false ((if decide (k = 0) = true then acc else acc ++ [10]) ++ markS u c us)) = R) := hKK
      clear he hKK HK hd hm hmp
      go_upto_region 5 with fail
      generalize wr.alloc (.cells #[.int .i64 (u : Int), .int .i64 (c : Int), .slice pa pk pc] 36) = W at hb1 hbn hown1 hsz1 hpi1 ⊢
      have e0 : W.cell? ⟨wr.heap.size, 0, none⟩ = some (.int .i64 (u : Int)) := hbn.cell 0
      have e1 : W.cell? ⟨wr.heap.size, 1, none⟩ = some (.int .i64 (c : Int)) := hbn.cell 1
      have e2 : W.cell? ⟨wr.heap.size, 2, none⟩ = some (.slice pa pk pc) := hbn.cell 2
      by_cases hlong : 65536 < pk
      · have hRn : R = none := by rw [← HKK.out, if_pos (by rw [← HPK.out]; exact hlong)]
        go_wp2_with fail
        refine bodyPost_ret (results39_run rfl rfl) rfl ?_
        exact ⟨by rw [hRn]; rfl, hb1⟩
      · have hul : us.length ≤ 65536 := by rw [← HPK.out]; omega
        have HK2 : Hid ((if 65536 < ((if decide (k = 0) = true then acc else acc ++ [10]) ++ markS u c us).length then none
          else writeR (l.drop (k + 1)) false ((if decide (k = 0) = true then acc else acc ++ [10]) ++ markS u c us)) = R) := by
          have h := HKK.out
          rw [if_neg (show ¬ 65536 < us.length by omega)] at h
          exact h
        clear HKK
        by_cases hk0 : 0 < k
        · have hl9 : acc.length ≤ 1099511627776 := by omega
          have hdk : decide (k = 0) = false := by simp; omega
          rw [hdk] at HK2
          simp only [Bool.false_eq_true, if_false] at HK2
          go_wp2_with (first | (at_builtin; refine wpList_append_byteK rfl _ _ rfl w.heap.size _ acc rfl hown1 10 _ rfl _ rfl hl9 hsz1 W (Below.refl _ _) (KO.refl _) ?_; intro v2 w2 hown2 hb2 hsz2 hko2; have hbn2 := hko2 _ _ _ (by decide) hbn; have g0 : w2.cell? ⟨wr.heap.size, 0, none⟩ = some (.int .i64 (u : Int)) := hbn2.cell 0; have g1 : w2.cell? ⟨wr.heap.size, 1, none⟩ = some (.int .i64 (c : Int)) := hbn2.cell 1; have g2 : w2.cell? ⟨wr.heap.size, 2, none⟩ = some (.slice pa pk pc) := hbn2.cell 2))
          refine (appendMark_any w.heap.size n₀ u c us hu hc hus hul v2 _ pa pk pc w2 hown2 (by simp; omega) hsz2 ((htb.below hb1).below hb2) hn₀ (hpi1.below hb2 hn₀)).mono ?_
          rintro e w3 ⟨v3, rfl, hown3, hb3, hsz3, hko3⟩
          generalize (acc ++ [10]) ++ markS u c us = acc3 at hown3 HK2
          obtain ⟨a3, c3, rfl⟩ := bown_val hown3
          have hbel3 := (hb1.trans hb2).trans hb3
          by_cases hL : 65536 < acc3.length
          · have hRn : R = none := by rw [← HK2.out, if_pos hL]
            go_wp2_with fail
            refine bodyPost_ret (results39_run rfl rfl) rfl ?_
            exact ⟨by rw [hRn]; rfl, hbel3⟩
          · have HK3 : Hid (writeR (l.drop (k + 1)) false acc3 = R) := by
              have h := HK2.out
              rw [if_neg hL] at h
              exact h
            go_wp2_with fail
            go_roundw
            case rel => exact ⟨k + 1, acc3, by omega, by simp, hown3, by omega, by simpa using HK3, hbel3, hsz3⟩
            case measure => simp only [intOf]; omega
        · have hdk : decide (k = 0) = true := by simp; omega
          rw [hdk] at HK2
          simp only [if_true] at HK2
          have hk00 : decide ((0 : Int) < (k : Int)) = false := by simp; omega
          go_wp2_with fail
          refine (appendMark_any w.heap.size n₀ u c us hu hc hus hul _ _ pa pk pc W hown1 (by omega) hsz1 (htb.below hb1) hn₀ hpi1).mono ?_
          rintro e w3 ⟨v3, rfl, hown3, hb3, hsz3, hko3⟩
          generalize acc ++ markS u c us = acc3 at hown3 HK2
          obtain ⟨a3, c3, rfl⟩ := bown_val hown3
          have hbel3 := hb1.trans hb3
          by_cases hL : 65536 < acc3.length
          · have hRn : R = none := by rw [← HK2.out, if_pos hL]
            go_wp2_with fail
            refine bodyPost_ret (results39_run rfl rfl) rfl ?_
            exact ⟨by rw [hRn]; rfl, hbel3⟩
          · have HK3 : Hid (writeR (l.drop (k + 1)) false acc3 = R) := by
              have h := HK2.out
              rw [if_neg hL] at h
              exact h
            go_wp2_with fail
            go_roundw
            case rel => exact ⟨k + 1, acc3, by omega, by simp, hown3, by omega, by simpa using HK3, hbel3, hsz3⟩
            case measure => simp only [intOf]; omega
    · have hRs : R = some acc := by rw [← HK.out, List.drop_of_length_le (by omega)]; rfl
      have hcv := run_string_own (P := Tryz.prog) wr 70 9 5 Tryz.underlying70 Tryz.underlying5 Tryz.underlying9 w.heap.size _ acc hown
      obtain ⟨a3, c3, rfl⟩ := bown_val hown
      clear HK
      go_wp2_with fail
      refine bodyPost_ret (results39_run rfl rfl) rfl ?_
      exact ⟨by rw [hRs]; rfl, hbel⟩

def printE : Except Int (List UInt8) → Ending
  | .error why => .returned (.tuple #[.string ⟨#[]⟩, .int .i64 why])
  | .ok t => .returned (.tuple #[.string (bsz t), .int .i64 0])

theorem checkR_may : ∀ (l : List PM) (ab : Int), checkR l ab = true → ∀ m ∈ l, mayPM m = true := by
  intro l
  induction l with
  | nil => intro ab _ m hm; simp at hm
  | cons a r ih =>
    intro ab h m hm
    rw [checkR] at h
    split at h
    · cases h
    · split at h
      · rename_i hmay
        rcases List.mem_cons.1 hm with rfl | hm
        · exact hmay
        · exact ih _ h m hm
      · cases h

set_option maxHeartbeats 4000000 in
set_option maxRecDepth 20000 in
theorem print_any (l : List PM) (hll : l.length ≤ 4611686018427387904) (hpl : ∀ m ∈ l, m.parts.length ≤ 4611686018427387904) (v : Value) (n₀ : Nat) (w : World) (hn₀ : n₀ ≤ w.heap.size) (hin : MIn n₀ w v l) (htb : Tb w w.heap.size) :
    Calls Tryz.prog 16 #[v] w fun e w' => e = printE (printR l) ∧ Below w.heap.size w w' := by
  by_cases hlong : 4096 < l.length
  · obtain ⟨a, cap, rfl⟩ := hin.val
    have hR : printR l = .error 2 := by unfold printR; rw [if_pos hlong]
    rw [hR]
    go_enter Tryz.func16, Tryz.ntmps16
    go_wp2_with fail
    refine bodyPost_ret (results16_run rfl rfl) rfl ?_
    exact ⟨rfl, Below.refl _ _⟩
  · have hl : l.length ≤ 4096 := by omega
    have hR : printR l = if checkR l (-1) then (match writeR l true [] with
      | none => .error 2
      | some t => .ok t) else .error 1 := by unfold printR; rw [if_neg hlong]; rfl
    generalize printR l = PR at hR
    generalize hC : checkR l (-1) = C at hR
    have HC : Hid (checkR l (-1) = C) := hC
    have HR : Hid (PR = if C = true then (match writeR l true [] with
      | none => .error 2
      | some t => .ok t) else .error 1) := hR
    clear hR hC
    obtain ⟨a, cap, rfl⟩ := hin.val
    go_enter Tryz.func16, Tryz.ntmps16
    go_wp2_with fail
    go_loopw [4, 12] (fun x i wr => ∃ (k : Nat) (ab : Int), k ≤ l.length ∧ i = .int .i64 k ∧ x = .int .i64 ab ∧ Hid (checkR (l.drop k) ab = C) ∧ Below w.heap.size w wr ∧ w.heap.size ≤ wr.heap.size) (fun _ i _ => l.length - (intOf i).toNat)
    case atStart => exact ⟨0, -1, by omega, rfl, rfl, by simpa using HC, Below.refl _ _, Nat.le_refl _⟩
    case round =>
      obtain ⟨k, ab, hk, rfl, rfl, HK, hbel, hsz⟩ := hrel
      by_cases hlt : k < l.length
      · have hd : l.drop k = l[k] :: l.drop (k + 1) := List.drop_eq_getElem_cons hlt
        obtain ⟨b, off, rfl, pa, pk, pc, c0, c1, c2, hpi⟩ := (hin.below hbel hn₀).at hlt
        have hml := hpl _ (List.getElem_mem hlt)
        have hKK := HK.out
        rw [hd, checkR] at hKK
        generalize l[k] = mm at c0 c1 c2 hpi hml hKK
        have hb1 := hbel.alloc hsz (.cells #[.int .i64 mm.point, .int .i64 mm.cls, .slice pa pk pc] 36)
        have hbn := Blk.new wr 36 #[.int .i64 mm.point, .int .i64 mm.cls, .slice pa pk pc]
        have hsz1 : w.heap.size ≤ (wr.alloc (.cells #[.int .i64 mm.point, .int .i64 mm.cls, .slice pa pk pc] 36)).heap.size := by simp; omega
        have hpi1 : Ints n₀ (wr.alloc (.cells #[.int .i64 mm.point, .int .i64 mm.cls, .slice pa pk pc] 36)) (.slice pa pk pc) mm.parts := hpi.below ((Below.refl w.heap.size wr).alloc hsz _) hn₀
        have HKK : Hid ((if mm.point ≤ ab then false else if mayPM mm = true then checkR (l.drop (k + 1)) mm.point else false) = C) := hKK
        clear hKK HK hd HC
        go_upto_region 7 with fail
        generalize wr.alloc (.cells #[.int .i64 mm.point, .int .i64 mm.cls, .slice pa pk pc] 36) = W at hb1 hbn hsz1 hpi1 ⊢
        have e0 : W.cell? ⟨wr.heap.size, 0, none⟩ = some (.int .i64 mm.point) := hbn.cell 0
        have e1 : W.cell? ⟨wr.heap.size, 1, none⟩ = some (.int .i64 mm.cls) := hbn.cell 1
        have e2 : W.cell? ⟨wr.heap.size, 2, none⟩ = some (.slice pa pk pc) := hbn.cell 2
        by_cases hle : mm.point ≤ ab
        · have hCf : C = false := by rw [← HKK.out, if_pos hle]
          have hPR : PR = .error 1 := by rw [HR.out, hCf]; rfl
          go_wp2_with fail
          refine bodyPost_ret (results16_run rfl rfl) rfl ?_
          exact ⟨by rw [hPR]; rfl, hb1⟩
        · have HK1 : Hid ((if mayPM mm = true then checkR (l.drop (k + 1)) mm.point else false) = C) := by
            have h := HKK.out
            rw [if_neg hle] at h
            exact h
          clear HKK
          go_wp2_with fail
          refine (mayBe_any n₀ mm pa pk pc W (by omega) hpi1 hml).mono ?_
          rintro e w2 ⟨rfl, hb2⟩
          have hbn2 := hbn.below hb2 hbn.lt
          have g0 : w2.cell? ⟨wr.heap.size, 0, none⟩ = some (.int .i64 mm.point) := hbn2.cell 0
          have hbel2 := hb1.trans (hb2.mono hsz1)
          cases hm : mayPM mm with
          | false =>
            rw [hm] at HK1
            have hCf : C = false := by rw [← HK1.out]; rfl
            have hPR : PR = .error 1 := by rw [HR.out, hCf]; rfl
            go_wp2_with fail
            refine bodyPost_ret (results16_run rfl rfl) rfl ?_
            exact ⟨by rw [hPR]; rfl, hbel2⟩
          | true =>
            rw [hm] at HK1
            have HK2 : Hid (checkR (l.drop (k + 1)) mm.point = C) := HK1
            go_wp2_with fail
            go_roundw
            case rel => exact ⟨k + 1, mm.point, by omega, by simp, rfl, HK2, hbel2, Nat.le_trans hsz1 hb2.size⟩
            case measure => simp only [intOf]; omega
      · have hCt : C = true := by rw [← HK.out, List.drop_of_length_le (by omega)]; rfl
        have hmay := checkR_may l (-1) (by rw [HC.out]; exact hCt)
        have HPR : Hid (PR = match writeR l true [] with
          | none => .error 2
          | some t => .ok t) := by show _ = _; rw [HR.out, hCt]; rfl
        clear HK HC HR
        have htbr := (htb.below hbel).up hbel.size
        go_wp2_with fail
        refine (writeLines_any l hl hmay _ n₀ wr (Nat.le_trans hn₀ hsz) (hin.below hbel hn₀) htbr).mono ?_
        cases hw : writeR l true [] with
        | none =>
          rintro e w2 ⟨rfl, hb2⟩
          have hPR : PR = .error 2 := by rw [HPR.out, hw]
          simp only [writeE]
          go_wp2_with fail
          refine bodyPost_ret (results16_run rfl rfl) rfl ?_
          exact ⟨by rw [hPR]; rfl, hbel.trans (hb2.mono hsz)⟩
        | some t =>
          rintro e w2 ⟨rfl, hb2⟩
          have hPR : PR = .ok t := by rw [HPR.out, hw]
          simp only [writeE]
          go_wp2_with fail
          refine bodyPost_ret (results16_run rfl rfl) rfl ?_
          exact ⟨by rw [hPR]; rfl, hbel.trans (hb2.mono hsz)⟩

end Go.Proofs.YtpmckfmjegehgaaGreatDoor
