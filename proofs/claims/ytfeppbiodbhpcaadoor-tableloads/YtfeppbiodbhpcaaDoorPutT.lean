/- What writeLines and Print do (contracts; nothing is claimed here). -/
import Derived.Test.YtfeppbiodbhpcaaDoorPutL
namespace Go.Proofs.YtfeppbiodbhpcaaDoor
open Go.RowKit Go.Vf Go.Maps

def writeT : List Ent → Bool → List UInt8 → Option (List UInt8)
  | [], _, acc => some acc
  | x :: r, f, acc => if 65536 < ((if f then acc else acc ++ [10]) ++ entP x).length then none else writeT r false ((if f then acc else acc ++ [10]) ++ entP x)
theorem writeT_cons (x : Ent) (r : List Ent) (f : Bool) (acc : List UInt8) : writeT (x :: r) f acc = if 65536 < ((if f then acc else acc ++ [10]) ++ entP x).length then none else writeT r false ((if f then acc else acc ++ [10]) ++ entP x) := rfl
def checkT : List Ent → List Int → Bool
  | [], _ => true
  | x :: r, ab => if rowB x.1 = true then if allB x.2 = true then if 0 ≤ aheadL ab x.1 then false else checkT r x.1 else false else false
def printT (l : List Ent) : Except Int (List UInt8) := if 4096 < l.length then .error 2 else if checkT l [] = true then (match writeT l true [] with
  | none => .error 2
  | some t => .ok t) else .error 1
def writeE : Option (List UInt8) → Ending
  | none => .returned (.tuple #[.string ⟨#[]⟩, .int .i64 2])
  | some t => .returned (.tuple #[.string (bsz t), .int .i64 0])
def printE : Except Int (List UInt8) → Ending
  | .error why => .returned (.tuple #[.string ⟨#[]⟩, .int .i64 why])
  | .ok t => .returned (.tuple #[.string (bsz t), .int .i64 0])
theorem checkT_ok : ∀ (l : List Ent) (ab : List Int), checkT l ab = true → ∀ x ∈ l, EntOk x := by
  intro l
  induction l with
  | nil => intro _ _ x hx; cases hx
  | cons a r ih =>
    intro ab h x hx
    unfold checkT at h
    split at h
    · rename_i h1
      split at h
      · rename_i h2
        split at h
        · cases h
        · rcases List.mem_cons.1 hx with rfl | hx
          · unfold allB at h2
            simp only [Bool.and_eq_true, decide_eq_true_eq] at h2
            exact ⟨h1, h2.1.1, h2.1.2, h2.2⟩
          · exact ih _ h x hx
      · cases h
    · cases h
theorem results39_run {tmps : Array Value} {w : World} {a b : Value} (t2 : tmps[2]?.getD undef = a) (t3 : tmps[3]?.getD undef = b) : (results Tryd.f39 tmps).run Tryd.prog w = .ok (.tuple #[a, b]) w := by
  simp [results, Tryd.results39, go_sem, t2, t3]
theorem results16_run {tmps : Array Value} {w : World} {a b : Value} (t2 : tmps[2]?.getD undef = a) (t3 : tmps[3]?.getD undef = b) : (results Tryd.f16 tmps).run Tryd.prog w = .ok (.tuple #[a, b]) w := by
  simp [results, Tryd.results16, go_sem, t2, t3]

set_option maxHeartbeats 4000000 in
set_option maxRecDepth 20000 in
theorem writeLines_any (l : List Ent) (hl : l.length ≤ 4096) (hmay : ∀ x ∈ l, EntOk x) (v : Value) (n₀ : Nat) (w : World) (hn₀ : n₀ ≤ w.heap.size) (hin : EIn n₀ w v l) (h6 : 6 < w.heap.size) (ht : w.cell? ⟨6, 15, none⟩ = some (.int .u8 4)) :
    Calls Tryd.prog 39 #[v] w fun e w' => e = writeE (writeT l true []) ∧ Below w.heap.size w w' := by
  obtain ⟨a, cap, rfl⟩ := hin.val
  generalize hR : writeT l true [] = R
  have HR : Hid (writeT l true [] = R) := hR
  clear hR
  go_enter Tryd.func39, Tryd.ntmps39
  go_wp2_with fail
  go_loopw [4, 9] (fun v i wr => ∃ (k : Nat) (acc : List UInt8), k ≤ l.length ∧ i = .int .i64 k ∧ BOwn 5 wr w.heap.size v acc ∧ acc.length ≤ 65536 ∧ Hid (writeT (l.drop k) (decide (k = 0)) acc = R) ∧ Below w.heap.size w wr ∧ w.heap.size ≤ wr.heap.size) (fun _ i _ => l.length - (intOf i).toNat)
  case atStart => exact ⟨0, [], by omega, rfl, BOwn.nil _ _ _, by simp, by simpa using HR, Below.refl _ _, Nat.le_refl _⟩
  case round =>
    clear HR
    obtain ⟨k, acc, hk, rfl, hown, hal, HK, hbel, hsz⟩ := hrel
    by_cases hlt : k < l.length
    · have hd : l.drop k = l[k] :: l.drop (k + 1) := List.drop_eq_getElem_cons hlt
      obtain ⟨b, off, rfl, pa, pc, ea, ec, c0, c1, hpi, hei⟩ := (hin.below hbel hn₀).at hlt
      have hm := hmay _ (List.getElem_mem hlt)
      have hKK := HK.out
      rw [hd, writeT_cons] at hKK
      generalize l[k] = mm at c0 c1 hpi hei hm hKK
      obtain ⟨p, es⟩ := mm
      simp only at c0 c1 hpi hei
      have hb1 := hbel.alloc hsz (.cells #[.slice pa p.length pc, .slice ea es.length ec] 37)
      have hbn := Blk.new wr 37 #[.slice pa p.length pc, .slice ea es.length ec]
      have hown1 := BOwn.alloc hown (.cells #[.slice pa p.length pc, .slice ea es.length ec] 37)
      have hsz1 : w.heap.size ≤ (wr.alloc (.cells #[.slice pa p.length pc, .slice ea es.length ec] 37)).heap.size := by simp; omega
      have hpi1 := Ints.below ((Below.refl w.heap.size wr).alloc hsz (.cells #[.slice pa p.length pc, .slice ea es.length ec] 37)) hn₀ hpi
      have hei1 := hei.below ((Below.refl w.heap.size wr).alloc hsz (.cells #[.slice pa p.length pc, .slice ea es.length ec] 37)) hn₀
      clear HK hd
      have HKK : Hid ((if 65536 < ((if decide (k = 0) = true then acc else acc ++ [10]) ++ entP (p, es)).length then none else writeT (l.drop (k + 1)) false ((if decide (k = 0) = true then acc else acc ++ [10]) ++ entP (p, es))) = R) := hKK
      clear hKK
      go_upto_region 5 with fail
      generalize wr.alloc (.cells #[.slice pa p.length pc, .slice ea es.length ec] 37) = W at hb1 hbn hown1 hsz1 hpi1 hei1 ⊢
      have e0 := hbn.cell 0
      have e1 := hbn.cell 1
      by_cases hk0 : 0 < k
      · have hdk : decide (k = 0) = false := by simp; omega
        rw [hdk] at HKK
        simp only [Bool.false_eq_true, if_false] at HKK
        go_wp2_with (at_builtin; refine wpList_append_byteK rfl _ _ rfl w.heap.size _ acc rfl hown1 10 10 rfl _ rfl (by omega) hsz1 W (Below.refl _ _) (KO.refl _) ?_; intro v2 w2 hown2 hb2 hsz2 hko2; have hbn2 := hko2 _ _ _ (by decide) hbn; have g0 := Blk.cell hbn2 0; have g1 := Blk.cell hbn2 1)
        refine (appendEntry_any p es hm w.heap.size n₀ hn₀ pa pc ea ec v2 _ w2 hown2 (by simp; omega) hsz2 h6 (((hb1.trans hb2).cell (p := ⟨6, 15, none⟩) h6).trans ht) (Ints.below hb2 hn₀ hpi1) (hei1.below hb2 hn₀)).mono ?_
        rintro e w3 ⟨v3, rfl, hown3, hb3, hsz3, hko3⟩
        generalize (acc ++ [10]) ++ entP (p, es) = acc3 at hown3 HKK
        obtain ⟨a3, c3, rfl⟩ := bown_val hown3
        have hbel3 := (hb1.trans hb2).trans hb3
        by_cases hL : 65536 < acc3.length
        · have hRn : R = none := by rw [← HKK.out, if_pos hL]
          go_wp2_with fail
          refine bodyPost_ret (results39_run rfl rfl) rfl ?_
          exact ⟨by rw [hRn]; rfl, hbel3⟩
        · have HK3 : Hid (writeT (l.drop (k + 1)) false acc3 = R) := by
            have h := HKK.out
            rw [if_neg hL] at h
            exact h
          go_wp2_with fail
          go_roundw
          case rel => exact ⟨k + 1, acc3, by omega, by simp, hown3, by omega, by simpa using HK3, hbel3, hsz3⟩
          case measure => simp only [intOf]; omega
      · have hdk : decide (k = 0) = true := by simp; omega
        rw [hdk] at HKK
        simp only [if_true] at HKK
        have hk00 : decide ((0 : Int) < (k : Int)) = false := by simp; omega
        go_wp2_with fail
        refine (appendEntry_any p es hm w.heap.size n₀ hn₀ pa pc ea ec _ _ W hown1 (by omega) hsz1 h6 ((hb1.cell (p := ⟨6, 15, none⟩) h6).trans ht) hpi1 hei1).mono ?_
        rintro e w3 ⟨v3, rfl, hown3, hb3, hsz3, hko3⟩
        generalize acc ++ entP (p, es) = acc3 at hown3 HKK
        obtain ⟨a3, c3, rfl⟩ := bown_val hown3
        have hbel3 := hb1.trans hb3
        by_cases hL : 65536 < acc3.length
        · have hRn : R = none := by rw [← HKK.out, if_pos hL]
          go_wp2_with fail
          refine bodyPost_ret (results39_run rfl rfl) rfl ?_
          exact ⟨by rw [hRn]; rfl, hbel3⟩
        · have HK3 : Hid (writeT (l.drop (k + 1)) false acc3 = R) := by
            have h := HKK.out
            rw [if_neg hL] at h
            exact h
          go_wp2_with fail
          go_roundw
          case rel => exact ⟨k + 1, acc3, by omega, by simp, hown3, by omega, by simpa using HK3, hbel3, hsz3⟩
          case measure => simp only [intOf]; omega
    · have hRs : R = some acc := by rw [← HK.out, List.drop_of_length_le (by omega)]; rfl
      have hcv := run_string_own (P := Tryd.prog) wr 79 9 5 Tryd.underlying79 Tryd.underlying5 Tryd.underlying9 w.heap.size _ acc hown
      obtain ⟨a3, c3, rfl⟩ := bown_val hown
      clear HK
      go_wp2_with fail
      refine bodyPost_ret (results39_run rfl rfl) rfl ?_
      exact ⟨by rw [hRs]; rfl, hbel⟩

set_option maxHeartbeats 4000000 in
set_option maxRecDepth 20000 in
theorem print_any (l : List Ent) (hll : l.length ≤ 4611686018427387904) (hpl : ∀ x ∈ l, x.1.length ≤ 4611686018427387904 ∧ x.2.length ≤ 4611686018427387904) (v : Value) (n₀ : Nat) (w : World) (hn₀ : n₀ ≤ w.heap.size) (hin : EIn n₀ w v l) (h6 : 6 < w.heap.size) (ht : w.cell? ⟨6, 15, none⟩ = some (.int .u8 4)) :
    Calls Tryd.prog 16 #[v] w fun e w' => e = printE (printT l) ∧ Below w.heap.size w w' := by
  by_cases hlong : 4096 < l.length
  · obtain ⟨a, cap, rfl⟩ := hin.val
    have hR : printT l = .error 2 := by unfold printT; rw [if_pos hlong]
    rw [hR]
    go_enter Tryd.func16, Tryd.ntmps16
    go_wp2_with fail
    refine bodyPost_ret (results16_run rfl rfl) rfl ?_
    exact ⟨rfl, Below.refl _ _⟩
  · have hl : l.length ≤ 4096 := by omega
    have hR : printT l = if checkT l [] = true then (match writeT l true [] with
      | none => .error 2
      | some t => .ok t) else .error 1 := by unfold printT; rw [if_neg hlong]
    generalize printT l = PR at hR
    generalize hC : checkT l [] = C at hR
    have HC : Hid (checkT l [] = C) := hC
    have HR : Hid (PR = if C = true then (match writeT l true [] with
      | none => .error 2
      | some t => .ok t) else .error 1) := hR
    clear hR hC
    obtain ⟨a, cap, rfl⟩ := hin.val
    go_enter Tryd.func16, Tryd.ntmps16
    go_wp2_with fail
    go_loopw [4, 14] (fun x i wr => ∃ (k : Nat) (ab : List Int), k ≤ l.length ∧ i = .int .i64 k ∧ Ints n₀ w x ab ∧ ab.length ≤ 4611686018427387904 ∧ Hid (checkT (l.drop k) ab = C) ∧ Below w.heap.size w wr ∧ w.heap.size ≤ wr.heap.size) (fun _ i _ => l.length - (intOf i).toNat)
    case atStart => exact ⟨0, [], by omega, rfl, .inl ⟨_, _, rfl, rfl⟩, by simp, by simpa using HC, Below.refl _ _, Nat.le_refl _⟩
    case round =>
      obtain ⟨k, ab, hk, rfl, hab, habl, HK, hbel, hsz⟩ := hrel
      obtain ⟨xa, xc, hxv⟩ := ints_val hab
      subst hxv
      by_cases hlt : k < l.length
      · have hd : l.drop k = l[k] :: l.drop (k + 1) := List.drop_eq_getElem_cons hlt
        obtain ⟨b, off, rfl, pa, pc, ea, ec, d0, d1, hpi0, hei0⟩ := hin.at hlt
        have c0 := (hbel.cell (p := ⟨b, off + k * 2, none⟩) (World.block_lt_of_cell? w _ d0)).trans d0
        have c1 := (hbel.cell (p := ⟨b, off + k * 2 + 1, none⟩) (World.block_lt_of_cell? w _ d1)).trans d1
        have hml := hpl _ (List.getElem_mem hlt)
        have hKK := HK.out
        rw [hd, checkT] at hKK
        generalize l[k] = mm at c0 c1 d0 d1 hpi0 hei0 hml hKK
        obtain ⟨p, es⟩ := mm
        simp only at c0 c1 hpi0 hei0 hml hKK
        have HKK : Hid ((if rowB p = true then if allB es = true then if 0 ≤ aheadL ab p then false else checkT (l.drop (k + 1)) p else false else false) = C) := hKK
        have hb1 := hbel.alloc hsz (.cells #[.slice pa p.length pc, .slice ea es.length ec] 37)
        have hbn := Blk.new wr 37 #[.slice pa p.length pc, .slice ea es.length ec]
        have hsz1 : w.heap.size ≤ (wr.alloc (.cells #[.slice pa p.length pc, .slice ea es.length ec] 37)).heap.size := by simp; omega
        clear hKK HK hd HC d0 d1
        go_upto_region 7 with fail
        generalize wr.alloc (.cells #[.slice pa p.length pc, .slice ea es.length ec] 37) = W at hb1 hbn hsz1 ⊢
        have e0 := hbn.cell 0
        have e1 := hbn.cell 1
        go_wp2_with fail
        refine (rowOf_any n₀ _ p W (by omega) (Ints.below hb1 hn₀ hpi0) hml.1).mono ?_
        cases hrw : rowB p with
        | false =>
          rw [hrw] at HKK
          have hCf : C = false := by rw [← HKK.out]; rfl
          have hPR : PR = .error 1 := by rw [HR.out, hCf]; rfl
          rintro e w2 ⟨rfl, hb2⟩
          rw [show gotR p = .tuple #[.agg #[.int .i64 0, .int .i64 0, .int .i64 0, .int .i64 0, .int .i64 0, .int .i64 0, .int .i64 0, .int .i64 0], .bool false] from by unfold gotR; rw [hrw]; rfl]
          have hbel2 := (hb1.trans (hb2.mono hsz1)).alloc (Nat.le_trans hsz1 hb2.size) (.cells #[.int .i64 0, .int .i64 0, .int .i64 0, .int .i64 0, .int .i64 0, .int .i64 0, .int .i64 0, .int .i64 0] 73)
          go_wp2_with fail
          refine bodyPost_ret (results16_run rfl rfl) rfl ?_
          exact ⟨by rw [hPR]; rfl, hbel2⟩
        | true =>
          rw [hrw] at HKK
          have HK1 : Hid ((if allB es = true then if 0 ≤ aheadL ab p then false else checkT (l.drop (k + 1)) p else false) = C) := HKK
          rintro e w2 ⟨rfl, hb2⟩
          obtain ⟨a0, a1, a2, a3, a4, a5, a6, a7, hpad⟩ := eight (padL_len (rowB_len hrw).2)
          rw [show gotR p = .tuple #[.agg #[.int .i64 a0, .int .i64 a1, .int .i64 a2, .int .i64 a3, .int .i64 a4, .int .i64 a5, .int .i64 a6, .int .i64 a7], .bool true] from by unfold gotR; rw [hrw, hpad]; rfl]
          have hbel2 := (hb1.trans (hb2.mono hsz1)).alloc (Nat.le_trans hsz1 hb2.size) (.cells #[.int .i64 a0, .int .i64 a1, .int .i64 a2, .int .i64 a3, .int .i64 a4, .int .i64 a5, .int .i64 a6, .int .i64 a7] 73)
          have hbn2 := blk_alloc (hbn.below hb2 hbn.lt) (.cells #[.int .i64 a0, .int .i64 a1, .int .i64 a2, .int .i64 a3, .int .i64 a4, .int .i64 a5, .int .i64 a6, .int .i64 a7] 73)
          have hsz2 : w.heap.size ≤ (w2.alloc (.cells #[.int .i64 a0, .int .i64 a1, .int .i64 a2, .int .i64 a3, .int .i64 a4, .int .i64 a5, .int .i64 a6, .int .i64 a7] 73)).heap.size := by have := hb2.size; simp; omega
          clear HKK
          go_upto_region 8 with fail
          generalize w2.alloc (.cells #[.int .i64 a0, .int .i64 a1, .int .i64 a2, .int .i64 a3, .int .i64 a4, .int .i64 a5, .int .i64 a6, .int .i64 a7] 73) = W3 at hbel2 hbn2 hsz2 ⊢
          have f0 := hbn2.cell 0
          have f1 := hbn2.cell 1
          go_wp2_with fail
          refine (allRight_any n₀ _ es W3 (by omega) (hei0.below hbel2 hn₀) hml.2).mono ?_
          rintro e w4 ⟨rfl, hb4⟩
          have hbel4 := hbel2.trans (hb4.mono hsz2)
          have hbn4 := hbn2.below hb4 hbn2.lt
          have hsz4 := Nat.le_trans hsz2 hb4.size
          have h0 := hbn4.cell 0
          cases har : allB es with
          | false =>
            rw [har] at HK1
            have hCf : C = false := by rw [← HK1.out]; rfl
            have hPR : PR = .error 1 := by rw [HR.out, hCf]; rfl
            go_wp2_with fail
            refine bodyPost_ret (results16_run rfl rfl) rfl ?_
            exact ⟨by rw [hPR]; rfl, hbel4⟩
          | true =>
            rw [har] at HK1
            have HK2 : Hid ((if 0 ≤ aheadL ab p then false else checkT (l.drop (k + 1)) p) = C) := HK1
            go_wp2_with fail
            refine (compare_any n₀ n₀ _ _ ab p w4 (Ints.below hbel4 hn₀ hab) (Ints.below hbel4 hn₀ hpi0) habl hml.1).mono ?_
            rintro e w5 ⟨rfl, rfl⟩
            generalize aheadL ab p = z at HK2
            by_cases hz : 0 ≤ z
            · have hCf : C = false := by rw [← HK2.out, if_pos hz]
              have hPR : PR = .error 1 := by rw [HR.out, hCf]; rfl
              go_wp2_with fail
              refine bodyPost_ret (results16_run rfl rfl) rfl ?_
              exact ⟨by rw [hPR]; rfl, hbel4⟩
            · have HK3 : Hid (checkT (l.drop (k + 1)) p = C) := by
                have h := HK2.out
                rw [if_neg hz] at h
                exact h
              go_wp2_with fail
              go_roundw
              case rel => exact ⟨k + 1, p, by omega, by simp, hpi0, hml.1, HK3, hbel4, hsz4⟩
              case measure => simp only [intOf]; omega
      · have hCt : C = true := by rw [← HK.out, List.drop_of_length_le (by omega)]; rfl
        have hmay := checkT_ok l [] (by rw [HC.out]; exact hCt)
        have HPR : Hid (PR = match writeT l true [] with
          | none => .error 2
          | some t => .ok t) := by show _ = _; rw [HR.out, hCt]; rfl
        clear HK HC HR
        go_wp2_with fail
        refine (writeLines_any l hl hmay _ n₀ wr (Nat.le_trans hn₀ hsz) (hin.below hbel hn₀) (by omega) ((hbel.cell (p := ⟨6, 15, none⟩) h6).trans ht)).mono ?_
        cases hw : writeT l true [] with
        | none =>
          rintro e w2 ⟨rfl, hb2⟩
          have hPR : PR = .error 2 := by rw [HPR.out, hw]
          simp only [writeE]
          go_wp2_with fail
          refine bodyPost_ret (results16_run rfl rfl) rfl ?_
          exact ⟨by rw [hPR]; rfl, hbel.trans (hb2.mono hsz)⟩
        | some t =>
          rintro e w2 ⟨rfl, hb2⟩
          have hPR : PR = .ok t := by rw [HPR.out, hw]
          simp only [writeE]
          go_wp2_with fail
          refine bodyPost_ret (results16_run rfl rfl) rfl ?_
          exact ⟨by rw [hPR]; rfl, hbel.trans (hb2.mono hsz)⟩
end Go.Proofs.YtfeppbiodbhpcaaDoor
