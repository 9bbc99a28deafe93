/- Contracts and lemmas (nothing is claimed here). -/
import Derived.Test.YtkcnjnccdafbfaaGreatDoorJ21
import Derived.OwnWalk
import Derived.WalkMore
import Derived.Test.YtkcnjnccdafbfaaGreatDoorJ6
import Derived.Test.YtkcnjnccdafbfaaGreatDoorJ13
import Derived.Test.YtkcnjnccdafbfaaGreatDoorJ2
import Derived.Test.YtkcnjnccdafbfaaGreatDoorJ3
namespace Go.Proofs.YtkcnjnccdafbfaaGreatDoor
open Go.RowKit Go.Vf Go.Maps
def lenAt (B : Nat) (W : World) : Nat := match W.cell? ⟨B, 2, none⟩ with
  | some (.slice _ n _) => n
  | _ => 0
theorem lenAt_of {B n c : Nat} {W : World} {a : Option Addr} (h : W.cell? ⟨B, 2, none⟩ = some (.slice a n c)) : lenAt B W = n := by unfold lenAt; rw [h]
set_option maxHeartbeats 2000000 in
theorem more_any {w₁ : World} {bd T B g off cap : Nat} {ps : List (List Int)} {W : World} (hk : MWk w₁ bd T B g off cap ps W) (hl : ps.length ≤ 4611686018427387904) :
    Calls Tryz.prog 37 #[.pointer (some ⟨B, 0, none⟩)] W fun e W' => ∃ b off' cap' ps', e = .returned (.bool b) ∧ MWk w₁ bd T B g off' cap' ps' W' ∧ Mv B g W W' ∧ (∃ n, ps = List.replicate n [] ++ ps') ∧ ((b = true ∧ ∃ x t r, ps' = (x :: t) :: r) ∨ (b = false ∧ ps' = [])) := by
  go_enter Tryz.func37, Tryz.ntmps37
  go_wp2_with fail
  go_loopw [] (fun wr => ∃ off' cap' ps', MWk w₁ bd T B g off' cap' ps' wr ∧ Mv B g W wr ∧ ∃ n, ps = List.replicate n [] ++ ps') (fun wr => lenAt B wr)
  case atStart => exact ⟨off, cap, ps, hk, Mv.refl _ _ _, 0, by simp⟩
  case round =>
    clear hk
    obtain ⟨off', cap', ps', hk, hmv, n, hn⟩ := hrel
    have hl' : ps'.length ≤ 4611686018427387904 := by have := congrArg List.length hn; simp at this; omega
    obtain ⟨c0, c1, c2⟩ := hk.cells
    have hfr := hk.frozenB 2
    have hcap := hk.cap
    cases ps' with
    | nil =>
      simp only [List.length_nil] at c2
      go_wp2
      go_ret
      exact ⟨false, off', cap', [], rfl, hk, hmv, ⟨n, hn⟩, .inr ⟨rfl, rfl⟩⟩
    | cons p r =>
      obtain ⟨pb, po, c, d0, d1, d2⟩ := hk.piece (j := 0) (by simp)
      simp only [List.getElem_cons_zero, Nat.add_zero] at d0 d1 d2
      simp only [List.length_cons] at c2 hl' hcap
      cases p with
      | nil =>
        have hms := lenAt_of c2
        simp only [List.length_nil] at d0
        by_cases hc1 : cap' = 1
        · obtain ⟨ht, hm2⟩ := hk.tail (o2 := off') (fun h => absurd (List.eq_nil_of_length_eq_zero (by omega)) h)
          have hms2 := lenAt_of ht.cells.2.2
          have e0 : cap' - 1 = 0 := by omega
          rw [e0] at ht hm2 hms2
          clear e0
          go_wp2
          go_roundw
          case rel => exact ⟨_, _, _, ht, hmv.trans hm2, n + 1, by rw [hn]; simp [List.replicate_succ']⟩
          case measure => rw [hms2, hms]; omega
        · obtain ⟨ht, hm2⟩ := hk.tail (o2 := off' + 1) (fun _ => rfl)
          have hms2 := lenAt_of ht.cells.2.2
          go_wp2
          go_roundw
          case rel => exact ⟨_, _, _, ht, hmv.trans hm2, n + 1, by rw [hn]; simp [List.replicate_succ']⟩
          case measure => rw [hms2, hms]; omega
      | cons x t =>
        simp only [List.length_cons] at d0
        go_wp2
        go_ret
        exact ⟨true, off', cap', (x :: t) :: r, rfl, hk, hmv, ⟨n, hn⟩, .inl ⟨rfl, x, t, r, rfl⟩⟩
set_option maxHeartbeats 4000000 in
theorem drop_any {w₁ : World} {bd T B g off cap : Nat} {ps : List (List Int)} {W : World} (hk : MWk w₁ bd T B g off cap ps W) (hl : ps.length ≤ 4611686018427387904) (hpl : ∀ p ∈ ps, p.length ≤ 4611686018427387904) (n : Nat) (hn : n ≤ ps.flatten.length) (hn8 : n ≤ 8) :
    Calls Tryz.prog 80 #[.pointer (some ⟨B, 0, none⟩), .int .i64 n] W fun e W' => e = .returned (.tuple #[]) ∧ MWk w₁ bd T B g off cap (dropPs n ps) W' ∧ Mv B g W W' := by
  go_enter Tryz.func80, Tryz.ntmps80
  go_wp2_with fail
  go_loopw [1, 4] (fun nv iv wr => ∃ (k i : Nat) (cur : List (List Int)), nv = .int .i64 k ∧ iv = .int .i64 i ∧ i ≤ cur.length ∧ k ≤ 8 ∧ k ≤ (cur.drop i).flatten.length ∧ Hid (cur.take i ++ dropPs k (cur.drop i) = dropPs n ps) ∧ Hid (cur.length = ps.length ∧ ∀ p ∈ cur, p.length ≤ 4611686018427387904) ∧ MWk w₁ bd T B g off cap cur wr ∧ Mv B g W wr) (fun _ iv _ => ps.length - (intOf iv).toNat)
  case atStart => exact ⟨n, 0, ps, rfl, rfl, by omega, hn8, by simpa using hn, by show _ = _; simp, ⟨rfl, hpl⟩, hk, Mv.refl _ _ _⟩
  case round =>
    clear hk
    obtain ⟨k, i, cur, rfl, rfl, hi, hk8, hkf, HE, HC, hk, hmv⟩ := hrel
    by_cases hk0 : 0 < k
    · have hlt : i < cur.length := by
        rcases Nat.lt_or_ge i cur.length with h | h
        · exact h
        · rw [List.drop_of_length_le h] at hkf; simp at hkf; omega
      obtain ⟨c0, c1, c2⟩ := hk.cells
      obtain ⟨pb, po, c, d0, d1, d2⟩ := hk.piece hlt
      have hfg := hk.frozeng (off + i)
      have hcl : cur.length ≤ 4611686018427387904 := by have := HC.out.1; omega
      have hms : i < ps.length := by have := HC.out.1; omega
      have hdr : cur.drop i = cur[i] :: cur.drop (i + 1) := List.drop_eq_getElem_cons hlt
      have hp := HC.out.2 _ (List.getElem_mem hlt)
      have HN : Hid (∀ m, m = min k cur[i].length → k - m ≤ ((cur.set i (cur[i].drop m)).drop (i + 1)).flatten.length ∧ (cur.set i (cur[i].drop m)).take (i + 1) ++ dropPs (k - m) ((cur.set i (cur[i].drop m)).drop (i + 1)) = dropPs n ps ∧ (cur.set i (cur[i].drop m)).length = ps.length ∧ ∀ p ∈ cur.set i (cur[i].drop m), p.length ≤ 4611686018427387904) := fun m hm => by
        have e1 : (cur.set i (cur[i].drop m)).drop (i + 1) = cur.drop (i + 1) := List.drop_set_of_lt (Nat.lt_succ_self i)
        have e2 : (cur.set i (cur[i].drop m)).take (i + 1) = cur.take i ++ [cur[i].drop m] := by
          rw [List.take_succ_eq_append_getElem (by simpa using hlt), List.take_set_of_le (Nat.le_refl i)]
          simp
        refine ⟨?_, ?_, by rw [List.length_set]; exact HC.out.1, fun p hp => ?_⟩
        · rw [e1]
          rw [hdr, List.flatten_cons, List.length_append] at hkf
          omega
        · rw [e1, e2, ← HE.out, hdr, dropPs, hm]
          simp
        · rcases List.mem_or_eq_of_mem_set hp with h | rfl
          · exact HC.out.2 p h
          · have := HC.out.2 _ (List.getElem_mem hlt)
            rw [List.length_drop]
            omega
      have HW : Hid (∀ (m o2 : Nat), m ≤ cur[i].length → (m < cur[i].length → o2 = po + m) → ∃ cur', cur' = cur.set i (cur[i].drop m) ∧ MWk w₁ bd T B g off cap cur' (wr.setCell ⟨g, off + i, none⟩ (.slice (some ⟨pb, o2, none⟩) (cur[i].length - m) (c - m))).drew ∧ Mv B g W (wr.setCell ⟨g, off + i, none⟩ (.slice (some ⟨pb, o2, none⟩) (cur[i].length - m) (c - m))).drew) := fun m o2 hm ho => by
        obtain ⟨y1, y2⟩ := hk.set (q := cur[i].drop m) (b := pb) (o := o2) (c := c - m) hlt (d2.drop ho) (by rw [List.length_drop]; omega)
        rw [List.length_drop] at y1 y2
        exact ⟨_, rfl, y1.go (Below.refl _ _).drew, (hmv.trans y2).trans (Mv.below (Below.refl _ _).drew)⟩
      clear hdr d2 HE hkf
      generalize cur[i].length = L at d0 d1 hp HN HW
      have hstep : ∀ m : Nat, m = min k L → min (k : Int) (L : Int) = (m : Int) := fun m hm => by omega
      have hgo : ∀ m : Nat, m = min k L → ∃ o2, (if c = m then some (⟨pb, po, none⟩ : Addr) else some ⟨pb, po + m, none⟩) = some ⟨pb, o2, none⟩ ∧ (m < L → o2 = po + m) := fun m hm => by
        by_cases h : c = m
        · exact ⟨po, by rw [if_pos h], fun h2 => by omega⟩
        · exact ⟨po + m, by rw [if_neg h], fun _ => rfl⟩
      obtain ⟨m, hm⟩ : ∃ m, m = min k L := ⟨_, rfl⟩
      have hm1 := hstep m hm
      obtain ⟨o2, hif, ho2⟩ := hgo m hm
      obtain ⟨x1, x2, x3, x4⟩ := HN.out m hm
      obtain ⟨cur', hcur, y1, y2⟩ := HW.out m o2 (by omega) ho2
      rw [← hcur] at x1 x2 x3 x4
      have X2 : Hid _ := x2
      have X34 : Hid (cur'.length = ps.length ∧ ∀ p ∈ cur', p.length ≤ 4611686018427387904) := ⟨x3, x4⟩
      have hmk : m ≤ k ∧ m ≤ L := by omega
      clear HN HW hstep hgo x2 x3 x4 hcur hm ho2
      go_upto_region 4 with fail
      go_region
      go_wp2_with fail
      go_roundw
      case rel => exact ⟨k - m, i + 1, cur', by simp; omega, by simp, by have := X34.out.1; omega, by omega, x1, X2, X34, y1, y2⟩
      case measure => simp only [intOf]; omega
    · obtain rfl : k = 0 := by omega
      have hE := HE.out
      rw [dropPs_zero, List.take_append_drop] at hE
      subst hE
      go_wp2_with fail
      go_end0
      exact ⟨rfl, hk, hmv⟩
theorem IOwn.form1 {w : World} {base : Nat} {a : Option Addr} {k c : Nat} {zs : List Int} (h : IOwn w base (.slice a k c) zs) : k = zs.length := by
  obtain ⟨a', c', e⟩ := h.val
  exact (Value.slice.inj e).2.1
set_option maxHeartbeats 4000000 in
theorem front_any {w₁ : World} {bd T B g off cap : Nat} {ps : List (List Int)} {W : World} (hk : MWk w₁ bd T B g off cap ps W) (hl : ps.length ≤ 4611686018427387904) (hpl : ∀ p ∈ ps, p.length ≤ 4611686018427387904) (most : Nat) (hm : most ≤ 8) :
    Calls Tryz.prog 100 #[.pointer (some ⟨B, 0, none⟩), .int .i64 most] W fun e W' => ∃ gr k c, e = .returned (.slice (some ⟨gr, 0, none⟩) k c) ∧ IOwn W' W.heap.size (.slice (some ⟨gr, 0, none⟩) k c) (ps.flatten.take most) ∧ Below W.heap.size W W' := by
  have HM : Hid (most ≤ 8) := hm
  clear hm
  generalize hR : ps.flatten.take most = R
  have HR : Hid (([] ++ (ps.drop 0).flatten).take most = R) := by show _ = _; simpa using hR
  clear hR
  obtain ⟨c0, c1, c2⟩ := hk.cells
  obtain ⟨i0, hi0, hz0, hsz0, hby0⟩ := info_parts info3
  have HI0 : Hid (i0.bytes = 8) := hby0
  clear hby0
  go_enter Tryz.func100, Tryz.ntmps100
  go_wp2
  go_step3
  go_wp2_with (first | (at_make; refine wpList_make_own _ rfl _ _ 24 rfl W.heap.size 3 i0 (.int .i64 0) 1 Tryz.underlying24 hi0 hz0 hsz0 .i64 .i64 _ most rfl rfl rfl (by have := HM.out; rw [HI0.out]; omega) (by have := HM.out; unfold maxLen; omega) (Nat.le_refl _) ?_; intro w0 hown0 hgrow0))
  have hb0 : Below W.heap.size W w0 := (Below.refl _ W).grown hgrow0 (Nat.le_refl _) (fun j hj => by cases hj)
  have HOWN0 : Aside (IOwn w0 W.heap.size (.slice (some ⟨W.heap.size, 0, none⟩) 0 most) []) := hown0
  have c2' := (hb0.cell (p := ⟨B, 2, none⟩) hk.blk.lt).trans c2
  clear hown0 hgrow0 hi0 hz0 hsz0 HI0
  go_step3
  go_wp2_with fail
  go_loopw [5, 17] (fun v i wr => ∃ (k : Nat) (acc : List Int) (gg kk cc : Nat), k ≤ ps.length ∧ i = .int .i64 k ∧ v = .slice (some ⟨gg, 0, none⟩) kk cc ∧ Aside (IOwn wr W.heap.size (.slice (some ⟨gg, 0, none⟩) kk cc) acc) ∧ Hid ((acc ++ (ps.drop k).flatten).take most = R) ∧ acc.length ≤ most ∧ Below W.heap.size W wr) (fun _ i _ => ps.length - (intOf i).toNat)
  case atStart => exact ⟨0, [], W.heap.size, 0, most, by omega, rfl, rfl, HOWN0, HR, by simp, hb0⟩
  case round =>
    clear HOWN0 hb0 HR c2'
    obtain ⟨k, acc, gg, kk, cc, hkk, rfl, rfl, HOWN, HK, hacc, hbel⟩ := hrel
    by_cases hlt : k < ps.length
    · obtain ⟨b3, o3, c, e0, d1, d2⟩ := hk.piece hlt
      obtain ⟨csg, hcg⟩ := hk.row
      have d0 := (hbel.cell (p := ⟨g, off + k, none⟩) hcg.lt).trans e0
      have hpk := hpl _ (List.getElem_mem hlt)
      have hdr : ps.drop k = ps[k] :: ps.drop (k + 1) := List.drop_eq_getElem_cons hlt
      have HK2 : Hid ((acc ++ (ps[k].drop 0) ++ (ps.drop (k + 1)).flatten).take most = R) := by
        show _ = _
        rw [← HK.out, hdr]
        simp only [List.drop_zero, List.flatten_cons, List.append_assoc]
      generalize ps[k] = p at e0 d0 d1 d2 HK2 hpk
      clear HK hdr e0
      have c2' := (hbel.cell (p := ⟨B, 2, none⟩) hk.blk.lt).trans c2
      go_wp2_with fail
      go_loopw [5, 23] (fun v j wr2 => ∃ (n : Nat) (ac : List Int) (gg kk cc : Nat), n ≤ p.length ∧ j = .int .i64 n ∧ v = .slice (some ⟨gg, 0, none⟩) kk cc ∧ Aside (IOwn wr2 W.heap.size (.slice (some ⟨gg, 0, none⟩) kk cc) ac) ∧ Hid ((ac ++ (p.drop n) ++ (ps.drop (k + 1)).flatten).take most = R) ∧ ac.length ≤ most ∧ Below W.heap.size W wr2) (fun _ j _ => p.length - (intOf j).toNat)
      case atStart => exact ⟨0, acc, gg, kk, cc, by omega, rfl, rfl, HOWN, HK2, hacc, hbel⟩
      case round =>
        clear HK2 HOWN hacc d0
        obtain ⟨n, ac, gg2, kk2, cc2, hn, rfl, rfl, HOWN, HK, hac, hbel2⟩ := hrel
        have hkk2 := HOWN.out.form1
        subst hkk2
        by_cases hln : n < p.length
        · have hcj := (hbel2.cell (p := ⟨b3, o3 + n, none⟩) (Nat.lt_of_lt_of_le d2.1 hk.below.size)).trans (d2.2 n hln)
          rw [show p[n]?.getD 0 = p[n] by simp [List.getElem?_eq_getElem hln]] at hcj
          have hdr : p.drop n = p[n] :: p.drop (n + 1) := List.drop_eq_getElem_cons hln
          by_cases hfull : ac.length = most
          · have hRR : R = ac := by rw [← HK.out, List.append_assoc, List.take_append_of_le_length (by omega), List.take_of_length_le (by omega)]
            clear HK hdr
            have hf2 : ((ac.length : Int) == (most : Int)) = true := by simp [hfull]
            clear hfull
            go_wp2_with fail
            try rw [Exit.noGoto_ret]
            go_ret
            rw [hRR]
            exact ⟨_, _, _, rfl, HOWN.out, hbel2⟩
          · have hf2 : ((ac.length : Int) == (most : Int)) = false := by simp; omega
            have HK2 : Hid (((ac ++ [p[n]]) ++ (p.drop (n + 1)) ++ (ps.drop (k + 1)).flatten).take most = R) := by
              show _ = _
              rw [← HK.out, hdr]
              simp only [List.append_assoc, List.cons_append, List.nil_append]
            have hlq : ac.length + 1 ≤ most := by omega
            have HM8 := HM.out
            generalize p[n] = q at hcj HK2
            clear HK hdr hfull
            have hsz2 : W.heap.size ≤ wr.heap.size := hbel2.size
            have hbA := (Below.refl wr.heap.size wr).alloc (Nat.le_refl _) (.cells #[.int .i64 q] 3)
            have hnb := Blk.new wr 3 #[.int .i64 q]
            have HOWN2 : Aside (IOwn (wr.alloc (.cells #[.int .i64 q] 3)) W.heap.size (.slice (some ⟨gg2, 0, none⟩) ac.length cc2) ac) := own_after HOWN.out hbA
            have hszA : W.heap.size ≤ (wr.alloc (.cells #[.int .i64 q] 3)).heap.size := Nat.le_trans hsz2 hbA.size
            go_wp2_with (first | (at_builtin; refine wpList_append_keep rfl _ _ rfl W.heap.size _ ac rfl HOWN2.out q ⟨wr.heap.size, 0, none⟩ _ rfl (hnb.cell 0) (by omega) hszA ?_; intro v4 w4 hown4 hold4 hgr4; obtain ⟨a4, c4, rfl⟩ := hown4.val; obtain ⟨g4, rfl, hg4, hcap4⟩ := hown4.some_of (by simp)))
            have hb4 : Below W.heap.size W w4 := (hbel2.alloc hsz2 _).grown hgr4 hszA (fun j hj => (own_ge HOWN2.out hj).1)
            have HOWN4 : Aside (IOwn w4 W.heap.size (.slice (some ⟨g4, 0, none⟩) (ac ++ [q]).length c4) (ac ++ [q])) := hown4
            clear hown4 hold4 hgr4 hcap4
            go_roundw
            case rel => exact ⟨n + 1, ac ++ [q], g4, (ac ++ [q]).length, c4, by omega, by simp, by simp, HOWN4, HK2, by simp; omega, hb4⟩
            case measure => simp only [intOf]; omega
        · have HK3 : Hid ((ac ++ (ps.drop (k + 1)).flatten).take most = R) := by
            show _ = _
            rw [← HK.out, List.drop_of_length_le (show p.length ≤ n by omega), List.append_nil]
          clear HK
          go_wp2_with fail
          go_roundw
          case rel => exact ⟨k + 1, ac, gg2, ac.length, cc2, by omega, by simp, by simp, HOWN, HK3, hac, hbel2⟩
          case measure => simp only [intOf]; omega
    · have hRR : R = acc := by rw [← HK.out, List.drop_of_length_le (by omega), List.flatten_nil, List.append_nil, List.take_of_length_le hacc]
      clear HK
      go_wp2_with fail
      try rw [Exit.noGoto_ret]
      go_ret
      rw [hRR]
      exact ⟨_, _, _, rfl, HOWN.out, hbel⟩
end Go.Proofs.YtkcnjnccdafbfaaGreatDoor
namespace Go.Proofs.YtkcnjnccdafbfaaGreatDoor
open Go.RowKit Go.Vf
theorem isPoint_any (n : Int) (w : World) : Calls Tryz.prog 82 #[.int .i64 n] w fun e w' => e = .returned (.bool (isPtB n)) ∧ w = w' := by
  by_cases h1 : 0 ≤ n
  · by_cases h2 : n ≤ 1114111
    · by_cases h3 : n < 55296
      · go_enter Tryz.func82, Tryz.ntmps82
        go_wp2
        go_ret
        exact ⟨by simp [isPtB, h1, h2, h3], rfl⟩
      · by_cases h4 : 57343 < n
        · go_enter Tryz.func82, Tryz.ntmps82
          go_wp2
          go_ret
          exact ⟨by simp [isPtB, h1, h2, h4], rfl⟩
        · go_enter Tryz.func82, Tryz.ntmps82
          go_wp2
          go_ret
          exact ⟨by simp [isPtB]; omega, rfl⟩
    · go_enter Tryz.func82, Tryz.ntmps82
      go_wp2
      go_ret
      exact ⟨by simp [isPtB]; omega, rfl⟩
  · go_enter Tryz.func82, Tryz.ntmps82
    go_wp2
    go_ret
    exact ⟨by simp [isPtB]; omega, rfl⟩
theorem isWeight_any (n : Int) (w : World) : Calls Tryz.prog 141 #[.int .i64 n] w fun e w' => e = .returned (.bool (wtB n)) ∧ w = w' := by
  by_cases h1 : 0 ≤ n
  · by_cases h2 : n ≤ 65535
    · go_enter Tryz.func141, Tryz.ntmps141
      go_wp2
      go_ret
      exact ⟨by simp [wtB, h1, h2], rfl⟩
    · go_enter Tryz.func141, Tryz.ntmps141
      go_wp2
      go_ret
      exact ⟨by simp [wtB]; omega, rfl⟩
  · go_enter Tryz.func141, Tryz.ntmps141
    go_wp2
    go_ret
    exact ⟨by simp [wtB]; omega, rfl⟩
def baseR (n : Int) : Int := if (19968 ≤ n ∧ n ≤ 40959) ∨ (63744 ≤ n ∧ n ≤ 64255) then 64320 else if (13312 ≤ n ∧ n ≤ 19903) ∨ (131072 ≤ n ∧ n ≤ 262143) then 64384 else 64448
set_option maxHeartbeats 1000000 in
theorem base_any (n : Int) (w : World) : Calls Tryz.prog 83 #[.int .i64 n] w fun e w' => e = .returned (.int .i64 (baseR n)) ∧ w = w' := by
  by_cases c1 : 19968 ≤ n ∧ n ≤ 40959
  · obtain ⟨h1, h2⟩ := c1
    go_enter Tryz.func83, Tryz.ntmps83
    go_wp2
    go_ret
    exact ⟨by simp [baseR, h1, h2], rfl⟩
  · by_cases c2 : 63744 ≤ n ∧ n ≤ 64255
    · obtain ⟨h1, h2⟩ := c2
      have h3 : ¬ n ≤ 40959 := by omega
      have h4 : 19968 ≤ n := by omega
      go_enter Tryz.func83, Tryz.ntmps83
      go_wp2
      go_ret
      exact ⟨by simp [baseR, h1, h2], rfl⟩
    · by_cases c3 : 13312 ≤ n ∧ n ≤ 19903
      · obtain ⟨h1, h2⟩ := c3
        have h3 : ¬ 19968 ≤ n := by omega
        have h4 : ¬ 63744 ≤ n := by omega
        go_enter Tryz.func83, Tryz.ntmps83
        go_wp2
        go_ret
        exact ⟨by simp [baseR, h1, h2]; omega, rfl⟩
      · by_cases c4 : 131072 ≤ n ∧ n ≤ 262143
        · obtain ⟨h1, h2⟩ := c4
          have h3 : 19968 ≤ n := by omega
          have h4 : 63744 ≤ n := by omega
          have h5 : ¬ n ≤ 40959 := by omega
          have h6 : ¬ n ≤ 64255 := by omega
          have h7 : 13312 ≤ n := by omega
          have h8 : ¬ n ≤ 19903 := by omega
          go_enter Tryz.func83, Tryz.ntmps83
          go_wp2
          go_ret
          exact ⟨by simp [baseR, h1, h2, h5, h6], rfl⟩
        · have e : baseR n = 64448 := by unfold baseR; rw [if_neg (by omega), if_neg (by omega)]
          have E : Hid (baseR n = 64448) := e
          clear e
          by_cases h1 : 19968 ≤ n <;> by_cases h2 : 63744 ≤ n <;> by_cases h3 : 13312 ≤ n <;> by_cases h4 : 131072 ≤ n <;> try (exfalso; omega)
          all_goals
            first
            | have h5 : ¬ n ≤ 40959 := by omega
            | skip
            first
            | have h6 : ¬ n ≤ 64255 := by omega
            | skip
            first
            | have h7 : ¬ n ≤ 19903 := by omega
            | skip
            first
            | have h8 : ¬ n ≤ 262143 := by omega
            | skip
            clear c1 c2 c3 c4
            go_enter Tryz.func83, Tryz.ntmps83
            go_wp2
            go_ret
            exact ⟨by rw [E.out]; rfl, rfl⟩
def digV (c : UInt8) : Int := match hexV c with
  | some d => (d : Int)
  | none => -1
theorem index_all : ((List.range 256).all fun n => Lib.indexByte [48, 49, 50, 51, 52, 53, 54, 55, 56, 57, 65, 66, 67, 68, 69, 70] (UInt8.ofNat n) == digV (UInt8.ofNat n)) = true := by kernel_rfl
theorem index_dig (c : UInt8) : Lib.indexByte [48, 49, 50, 51, 52, 53, 54, 55, 56, 57, 65, 66, 67, 68, 69, 70] c = digV c := by
  have := List.all_eq_true.1 index_all c.toNat (List.mem_range.2 c.toNat_lt)
  rw [show UInt8.ofNat c.toNat = c by simp] at this
  exact beq_iff_eq.1 this
theorem dig_call (c : UInt8) (w : World) : Calls Tryz.prog 158 #[.string ⟨#[48, 49, 50, 51, 52, 53, 54, 55, 56, 57, 65, 66, 67, 68, 69, 70]⟩, .int .u8 (c.toNat : Int)] w fun e w' => e = .returned (.int .i64 (digV c)) ∧ w = w' := by
  refine (Tryz.strings_IndexByte ⟨#[48, 49, 50, 51, 52, 53, 54, 55, 56, 57, 65, 66, 67, 68, 69, 70]⟩ (c.toNat : Int) w).mono ?_
  rintro e w' ⟨rfl, rfl⟩
  refine ⟨?_, rfl⟩
  rw [show ((c.toNat : Int).toNat.toUInt8) = c by simp, show (⟨#[48, 49, 50, 51, 52, 53, 54, 55, 56, 57, 65, 66, 67, 68, 69, 70]⟩ : ByteArray).data.toList = [48, 49, 50, 51, 52, 53, 54, 55, 56, 57, 65, 66, 67, 68, 69, 70] from rfl, index_dig]
def gotH : Option Nat → Value
  | some n => .tuple #[.int .i64 (n : Int), .bool true]
  | none => .tuple #[.int .i64 0, .bool false]
set_option maxHeartbeats 1000000 in
theorem readHex_any6 (s : ByteArray) (w : World) (hs : s.size ≤ 14) :
    Calls Tryz.prog 154 #[.string s] w fun e w' => e = .returned (gotH (hexN s.data.toList)) ∧ w = w' := by
  have hsl : s.data.toList.length = s.size := (Lib.size_eq s).symm
  generalize hR : hexN s.data.toList = R
  have HR : Hid (hexN s.data.toList = R) := hR
  clear hR
  go_enter Tryz.func154, Tryz.ntmps154
  go_wp2
  go_loopw [9, 4] (fun i n wr => ∃ (k m : Nat), i = .int .i64 (k : Int) ∧ n = .int .i64 (m : Int) ∧ k ≤ s.size ∧ m < 16 ^ k ∧ Hid (numB hexV 16 (s.data.toList.drop k) m = R) ∧ wr = w) (fun i _ _ => s.size - (intOf i).toNat)
  case atStart => exact ⟨0, 0, rfl, rfl, by omega, by simp, HR, rfl⟩
  case round =>
    obtain ⟨k, m, rfl, rfl, hk, hm, HX, rfl⟩ := hrel
    have hp : 16 ^ k ≤ 16 ^ 14 := Nat.pow_le_pow_right (by omega) (by omega)
    have hm14 : m < 16 ^ 14 := by omega
    by_cases hlt : k < s.size
    · have hd := drop_at s k hlt
      have hc := dig_call s[k] wr
      cases hv : hexV s[k] with
      | none =>
        have hdv : digV s[k] = -1 := by unfold digV; rw [hv]
        rw [hdv] at hc
        have hRn : Hid (R = none) := by
          show _ = _
          rw [← HX.out, hd, numB, hv]
        clear hd hdv HX
        go_wp2_with fail
        refine hc.mono ?_
        rintro e w1 ⟨rfl, rfl⟩
        go_wp2
        go_ret2
        exact ⟨by rw [hRn.out]; rfl, rfl⟩
      | some d =>
        have hd16 := hexV_lt hv
        have hdv : digV s[k] = (d : Int) := by unfold digV; rw [hv]
        rw [hdv] at hc
        have HX2 : Hid (numB hexV 16 (s.data.toList.drop (k + 1)) (m * 16 + d) = R) := by
          show _ = _
          rw [← HX.out, hd, numB, hv]
        clear hd hdv HX
        go_wp2_with fail
        refine hc.mono ?_
        rintro e w1 ⟨rfl, rfl⟩
        go_wp2
        go_roundw
        case rel => exact ⟨k + 1, m * 16 + d, by simp, by simp, by omega, by rw [Nat.pow_succ]; omega, HX2, trivial⟩
        case measure => simp only [intOf]; omega
    · have hRn : Hid (R = some m) := by
        show _ = _
        rw [← HX.out, drop_end s k (by omega)]; rfl
      clear HX
      go_wp2
      go_ret2
      exact ⟨by rw [hRn.out]; rfl, rfl⟩
def gotP : Option Int → Value
  | some n => .tuple #[.int .i64 n, .bool true]
  | none => .tuple #[.int .i64 0, .bool false]
theorem gotH_P (o : Option Nat) : gotH o = gotP (o.map fun n => (n : Int)) := by cases o <;> rfl
theorem byte_eq {a b : UInt8} (h : a = b) : ((a.toNat : Int) == (b.toNat : Int)) = true := by subst h; simp
theorem byte_ne {a b : UInt8} (h : a ≠ b) : ((a.toNat : Int) == (b.toNat : Int)) = false := by
  rw [beq_eq_false_iff_ne]
  intro e
  exact h (UInt8.toNat_inj.1 (by omega))
set_option maxHeartbeats 1000000 in
theorem readPoint_any6 (s : ByteArray) (w : World) (hs : s.size ≤ 17179869184) :
    Calls Tryz.prog 139 #[.string s] w fun e w' => e = .returned (gotP (ptR s.data.toList)) ∧ w = w' := by
  have hsl : s.data.toList.length = s.size := (Lib.size_eq s).symm
  by_cases hlen : s.size = 4 ∨ (4 < s.size ∧ s.size ≤ 6 ∧ s.data.toList.head? ≠ some 48)
  · have e1 : gotP (ptR s.data.toList) = gotH (hexN s.data.toList) := by
      rw [gotH_P]; unfold ptR; rw [hsl, if_pos hlen]
    rw [e1]
    clear e1
    have hr := readHex_any6 s w (by omega)
    generalize hexN s.data.toList = R at hr ⊢
    rcases hlen with h4 | ⟨h5, h6, h7⟩
    · have a1 : ¬ s.size < 4 := by omega
      have a2 : ¬ 6 < s.size := by omega
      have a3 : ¬ 4 < s.size := by omega
      clear h4
      go_enter Tryz.func139, Tryz.ntmps139
      go_wp2_with fail
      refine hr.mono ?_
      rintro e w1 ⟨rfl, rfl⟩
      cases R with
      | none => simp only [gotH]; go_wp2; go_ret2; exact ⟨rfl, rfl⟩
      | some n => simp only [gotH]; go_wp2; go_ret2; exact ⟨rfl, rfl⟩
    · have a1 : ¬ s.size < 4 := by omega
      have a2 : ¬ 6 < s.size := by omega
      have hz : s[0]'(by omega) ≠ 48 := fun e => h7 (by rw [head_at s (by omega), e])
      have hb : (((s[0]'(by omega)).toNat : Int) == 48) = false := byte_ne (b := 48) hz
      clear h7 hz
      go_enter Tryz.func139, Tryz.ntmps139
      go_wp2_with fail
      refine hr.mono ?_
      rintro e w1 ⟨rfl, rfl⟩
      cases R with
      | none => simp only [gotH]; go_wp2; go_ret2; exact ⟨rfl, rfl⟩
      | some n => simp only [gotH]; go_wp2; go_ret2; exact ⟨rfl, rfl⟩
  · have e1 : ptR s.data.toList = none := by unfold ptR; rw [hsl, if_neg hlen]
    rw [e1]
    clear e1
    by_cases a1 : s.size < 4
    · clear hlen
      go_enter Tryz.func139, Tryz.ntmps139
      go_wp2
      go_ret2
      exact ⟨rfl, rfl⟩
    · by_cases a2 : 6 < s.size
      · clear hlen
        go_enter Tryz.func139, Tryz.ntmps139
        go_wp2
        go_ret2
        exact ⟨rfl, rfl⟩
      · have a3 : 4 < s.size := by omega
        have hz : s[0]'(by omega) = 48 := by
          have h0 := head_at s (by omega)
          rcases Decidable.em (s[0]'(by omega) = 48) with h | h
          · exact h
          · exact absurd (.inr ⟨a3, by omega, fun e => h (Option.some.inj (h0.symm.trans e))⟩) hlen
        have hb : (((s[0]'(by omega)).toNat : Int) == 48) = true := byte_eq (b := 48) hz
        clear hz hlen
        go_enter Tryz.func139, Tryz.ntmps139
        go_wp2
        go_ret2
        exact ⟨rfl, rfl⟩
end Go.Proofs.YtkcnjnccdafbfaaGreatDoor
