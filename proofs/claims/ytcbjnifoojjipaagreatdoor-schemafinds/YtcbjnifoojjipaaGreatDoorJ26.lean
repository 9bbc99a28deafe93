/- Contracts and lemmas (nothing is claimed here). -/
import Derived.Test.YtcbjnifoojjipaaGreatDoorJ2
import Derived.Test.YtcbjnifoojjipaaGreatDoorJ25
import Derived.Deep.QuietTactic
import Derived.BigQuiet
import Derived.BigRegion
namespace Go.Proofs.YtcbjnifoojjipaaGreatDoor
open Go.RowKit Go.Vf
theorem cell_one (q : Int) (w : World) : ∀ j, j < [q].length → (w.alloc (.cells #[.int .i64 q] 3)).cell? ((⟨w.heap.size, 0, none⟩ : Addr).add j) = some (.int .i64 ([q][j]?.getD 0)) := fun j hj => by
  have hj0 : j = 0 := by simp at hj; omega
  subst hj0
  simp [Addr.add]
theorem IOwn.cellAt {w : World} {base : Nat} {a : Option Addr} {n c : Nat} {zs : List Int} (h : IOwn w base (.slice a n c) zs) {i : Nat} (hi : i < zs.length) : ∃ g, a = some ⟨g, 0, none⟩ ∧ g < w.heap.size ∧ w.cell? ⟨g, i, none⟩ = some (.int .i64 zs[i]) := by
  rcases h.form with ⟨_, e⟩ | ⟨g, cap, e, _, hlt, _, hc, _⟩
  · rw [e] at hi; simp at hi
  · simp only [Value.slice.injEq] at e
    obtain ⟨rfl, _, _⟩ := e
    refine ⟨g, rfl, hlt, ?_⟩
    have := hc i hi
    simpa [List.getElem?_eq_getElem hi] using this
set_option maxHeartbeats 1000000 in
set_option maxRecDepth 20000 in
theorem rInts_any {a : Option Addr} {c : Nat} {zs : List Int} {base : Nat} {w : World} (hin : IOwn w base (.slice a zs.length c) zs) (hl : zs.length ≤ 1000000000000) :
    Calls Tryz.prog 53 #[.slice a zs.length c] w fun e w' => ∃ a' c', e = .returned (.slice a' zs.length c') ∧ IOwn w' w.heap.size (.slice a' zs.length c') zs ∧ Below w.heap.size w w' := by
  generalize hk : zs.length = k at hl ⊢
  have HK : Hid (zs.length = k) := hk
  have HIN : Aside (IOwn w base (.slice a k c) zs) := by rw [hk] at hin; exact hin
  clear hin hk
  go_enter Tryz.func53, Tryz.ntmps53
  go_wp2_with fail
  go_loopw [3, 4] (fun ov iv wr => ∃ (i : Nat) (acc : List Int) (oa : Option Addr) (oc : Nat), i ≤ k ∧ iv = .int .i64 i ∧ ov = .slice oa acc.length oc ∧ Aside (IOwn wr w.heap.size (.slice oa acc.length oc) acc) ∧ Hid (acc ++ zs.drop i = zs ∧ acc.length = i) ∧ Below w.heap.size w wr) (fun _ iv _ => k - (intOf iv).toNat)
  case atStart => exact ⟨0, [], none, 0, by omega, rfl, rfl, IOwn.nil _ _, ⟨by simp, rfl⟩, Below.refl _ _⟩
  case round =>
    obtain ⟨i, acc, oa, oc, hi, rfl, rfl, HO, HA, hbr⟩ := hrel
    by_cases hlt : i < k
    · have hltp : i < zs.length := by rw [HK.out]; exact hlt
      obtain ⟨g, hao, hglt, hcell⟩ := IOwn.cellAt HIN.out hltp
      have hcj := (hbr.cell (p := ⟨g, i, none⟩) hglt).trans hcell
      have HA2 : Hid ((acc ++ [zs[i]]) ++ zs.drop (i + 1) = zs ∧ (acc ++ [zs[i]]).length = i + 1) := ⟨by
        rw [List.append_assoc, List.singleton_append, ← List.drop_eq_getElem_cons hltp]
        exact HA.out.1, by rw [List.length_append, HA.out.2]; rfl⟩
      generalize zs[i] = q at hcj HA2
      subst hao
      have hbA := (Below.refl wr.heap.size wr).alloc (Nat.le_refl _) (.cells #[.int .i64 q] 3)
      have HO2 : Aside (IOwn (wr.alloc (.cells #[.int .i64 q] 3)) w.heap.size (.slice oa acc.length oc) acc) := own_after HO.out hbA
      have hszA : w.heap.size ≤ (wr.alloc (.cells #[.int .i64 q] 3)).heap.size := Nat.le_trans hbr.size hbA.size
      have hl2 : acc.length + [q].length ≤ 1099511627776 := by have := HA.out.2; simp; omega
      have HC : Hid (∀ j, j < [q].length → (wr.alloc (.cells #[.int .i64 q] 3)).cell? ((⟨wr.heap.size, 0, none⟩ : Addr).add j) = some (.int .i64 ([q][j]?.getD 0))) := cell_one q wr
      clear hcell hltp HO HA hbA
      go_wp2_with (first | (at_builtin; refine wpList_append_ints rfl _ _ rfl w.heap.size _ acc rfl HO2.out [q] ⟨wr.heap.size, 0, none⟩ _ rfl HC.out hl2 hszA ?_; intro a4 c4 w4 hown4 hgr4 hnil4 hat4))
      have hb4 : Below w.heap.size w w4 := (hbr.alloc hbr.size _).grown hgr4 hszA (fun j hj => (own_ge HO2.out hj).1)
      have HO4 : Aside (IOwn w4 w.heap.size (.slice a4 (acc ++ [q]).length c4) (acc ++ [q])) := by
        rw [List.length_append]; exact hown4
      clear hown4 hgr4 hnil4 hat4
      go_roundw
      case rel => exact ⟨i + 1, acc ++ [q], a4, c4, by omega, by simp, by simp, HO4, HA2, hb4⟩
      case measure => simp only [intOf]; omega
    · have hfin : acc = zs := by have := HA.out.1; rwa [List.drop_of_length_le (by rw [HK.out]; omega), List.append_nil] at this
      have hk2 : acc.length = k := by rw [hfin, HK.out]
      have HO4 := HO.out
      rw [hk2] at HO4
      rw [hk2]
      clear HA hk2 HO
      go_wp2_with fail
      go_ret
      exact ⟨_, _, rfl, hfin ▸ HO4, hbr⟩
theorem Ints.val {n : Nat} {w : World} {v : Value} {zs : List Int} (h : Ints n w v zs) : ∃ x c, v = .slice x zs.length c := by
  rcases h with ⟨a, c, rfl, rfl⟩ | ⟨b, off, c, rfl, _⟩
  · exact ⟨a, c, rfl⟩
  · exact ⟨_, c, rfl⟩
theorem drop_getD (l : List Int) (k : Nat) (h : k < l.length) : l.drop k = (l[k]?.getD 0) :: l.drop (k + 1) := by
  rw [List.drop_eq_getElem_cons h, List.getElem?_eq_getElem h]; rfl
theorem drew_more {w wr : World} (h : ∃ n, wr = w.drewN n) : ∃ n, wr.drew = w.drewN n := by
  obtain ⟨n, e⟩ := h
  exact ⟨n + 1, by rw [e]; rfl⟩
set_option maxHeartbeats 4000000 in
set_option maxRecDepth 20000 in
theorem sameInts_q (va vb : Value) (za zb : List Int) (n₁ n₂ : Nat) (w : World) (ha : Ints n₁ w va za) (hb : Ints n₂ w vb zb) (hla : za.length ≤ 4611686018427387904) (_hlb : zb.length ≤ 4611686018427387904) :
    Calls Tryz.prog 23 #[va, vb] w fun e w' => e = .returned (.bool (decide (za = zb))) ∧ ∃ n, w' = w.drewN n := by
  obtain ⟨R, HR⟩ : ∃ R, Hid (R = decide (za = zb)) := ⟨_, rfl⟩
  rw [← HR.out]
  by_cases hl : za.length = zb.length
  · rcases Nat.eq_zero_or_pos za.length with h0 | h0
    · obtain ⟨x, c, rfl⟩ := ha.val
      obtain ⟨y, d, rfl⟩ := hb.val
      have hb0 : zb.length = 0 := by omega
      have hR : R = true := by rw [HR.out, List.eq_nil_of_length_eq_zero h0, List.eq_nil_of_length_eq_zero hb0]; rfl
      rw [h0, hb0]
      clear ha hb h0 hb0 hl hla
      go_enter Tryz.func23, Tryz.ntmps23
      go_wp2
      go_loopw [5] (fun i wr => i = .int .i64 0 ∧ wr = w) (fun _ _ => 0)
      case atStart => exact ⟨rfl, rfl⟩
      case round =>
        obtain ⟨rfl, rfl⟩ := hrel
        go_wp2
        go_ret
        exact ⟨by rw [hR]; rfl, ⟨0, rfl⟩⟩
    · rcases ha with ⟨_, _, _, h⟩ | ⟨b1, o1, c1, rfl, hb1, hc1⟩
      · rw [h] at h0; simp at h0
      rcases hb with ⟨_, _, _, h⟩ | ⟨b2, o2, c2, rfl, hb2, hc2⟩
      · rw [hl, h] at h0; simp at h0
      rw [← hl]
      rw [← hl] at hc2
      obtain ⟨L, hL⟩ : ∃ L, L = za.length := ⟨_, rfl⟩
      have HL : Hid (L = za.length ∧ L = zb.length) := ⟨hL, by rw [hL]; exact hl⟩
      rw [← hL] at hc1 hc2 hla h0 ⊢
      clear hl hL
      go_enter Tryz.func23, Tryz.ntmps23
      go_wp2
      go_loopw [5] (fun i wr => ∃ k : Nat, k ≤ L ∧ i = .int .i64 k ∧ Hid (R = decide (za.drop k = zb.drop k)) ∧ (∃ n, wr = w.drewN n) ∧ (∀ a, wr.cell? a = w.cell? a)) (fun i _ => L - (intOf i).toNat)
      case atStart => exact ⟨0, Nat.zero_le _, rfl, HR, ⟨0, rfl⟩, fun _ => rfl⟩
      case round =>
        obtain ⟨k, hk, rfl, HK, hbel, hsame⟩ := hrel
        by_cases hlt : k < L
        · have x1 := (hsame _).trans (hc1 k hlt)
          have x2 := (hsame _).trans (hc2 k hlt)
          have hK := HK.out
          rw [drop_getD za k (by rw [← HL.out.1]; exact hlt), drop_getD zb k (by rw [← HL.out.2]; exact hlt)] at hK
          obtain ⟨p, hp⟩ : ∃ p, p = za[k]?.getD 0 := ⟨_, rfl⟩
          obtain ⟨q, hq⟩ : ∃ q, q = zb[k]?.getD 0 := ⟨_, rfl⟩
          rw [← hp] at x1 hK
          rw [← hq] at x2 hK
          have HS : Hid (∀ a, wr.cell? a = w.cell? a) := hsame
          clear hp hq HK hc1 hc2 hsame
          by_cases hpq : p = q
          · have HK2 : Hid (R = decide (za.drop (k + 1) = zb.drop (k + 1))) := by show _ = _; rw [hK, hpq]; simp
            have t1 : (p == q) = true := by simpa using hpq
            have t2 : (p != q) = false := by simpa using hpq
            clear hK hpq
            go_wp2
            go_region
            go_wp2
            go_roundw
            case rel => exact ⟨k + 1, by omega, by go_num, HK2, drew_more hbel, HS.out⟩
            case measure => simp [intOf]; omega
          · have hR : R = false := by rw [hK]; simp [hpq]
            have t1 : (p == q) = false := by simpa using hpq
            have t2 : (p != q) = true := by simpa using hpq
            clear hK hpq
            go_wp2
            go_region
            go_wp2
            go_ret
            exact ⟨by first | (rw [hR]; rfl) | rfl, drew_more hbel⟩
        · obtain rfl : k = L := by omega
          have hR : R = true := by
            rw [HK.out, List.drop_eq_nil_of_le (by rw [← HL.out.1]; exact Nat.le_refl _), List.drop_eq_nil_of_le (by rw [← HL.out.2]; exact Nat.le_refl _)]; rfl
          clear HK
          go_wp2
          go_ret
          exact ⟨by first | (rw [hR]; rfl) | rfl, hbel⟩
  · obtain ⟨x, c, rfl⟩ := ha.val
    obtain ⟨y, d, rfl⟩ := hb.val
    have hR : R = false := by rw [HR.out]; simp; intro h; exact hl (by rw [h])
    clear ha hb
    go_enter Tryz.func23, Tryz.ntmps23
    go_wp2
    go_ret
    exact ⟨by rw [hR]; rfl, ⟨0, rfl⟩⟩
end Go.Proofs.YtcbjnifoojjipaaGreatDoor
namespace Go.Proofs.YtcbjnifoojjipaaGreatDoor
open Go.RowKit Go.Extern.Stop Go.Stop Go.Extern Go.Vf
theorem cell_keep {w w' : World} (h : Below w.heap.size w w') {a : Addr} {v : Value} (hc : w.cell? a = some v) : w'.cell? a = some v := by
  have hl : a.block < w.heap.size := by
    rcases Nat.lt_or_ge a.block w.heap.size with h | h
    · exact h
    · simp [World.cell?, Array.getElem?_eq_none h] at hc
  exact (h.cell hl).trans hc
theorem as_fault_b (e t : Addr) (old : Value) (w : World) (hg : w.cell? ⟨0, 0, none⟩ = some (.iface 148 (.agg #[hnd 34]))) (ht0 : w.cell? t = some old) (hf0 : w.frozen? t = false) :
    Calls Tryz.prog 32 #[.iface 71 (.pointer (some e)), .iface 77 (.pointer (some t))] w fun ev w' => ev = .returned (.bool true) ∧ w'.cell? t = some (.pointer (some e)) ∧ Below t.block w w' := by
  have htl : t.block < w.heap.size := by
    rcases Nat.lt_or_ge t.block w.heap.size with h | h
    · exact h
    · simp [World.cell?, Array.getElem?_eq_none h] at ht0
  refine (as_fault e t old w hg ht0 hf0).mono ?_
  rintro _ _ ⟨rfl, rfl⟩
  have hB : Below w.heap.size w (asW w t e) := by
    have b1 := (Below.refl w.heap.size w).alloc (Nat.le_refl _) (.cells #[.pointer (some t)] 77)
    have b2 := b1.alloc b1.size (.cells #[hnd 77, .pointer (some ⟨w.heap.size, 0, none⟩), .int .u64 150] 115)
    have b3 := b2.alloc b2.size (.cells #[hnd 77, .pointer (some ⟨w.heap.size, 0, none⟩), .int .u64 150] 115)
    exact b3.alloc b3.size _
  refine ⟨rfl, World.cell?_setCell_same' _ _ _ (by rw [cell_keep hB ht0]; rfl), ?_⟩
  exact (hB.mono (Nat.le_of_lt htl)).setCell (Nat.le_refl _) _
set_option maxRecDepth 20000 in
set_option maxHeartbeats 4000000 in
theorem keepIs_path (b : Nat) (c at' : Int) (v1 v2 : Value) (zs : List Int) (hz : zs.length ≤ 4611686018427387904) (w : World) (hne : c ≠ 0) (hg : w.cell? ⟨0, 0, none⟩ = some (.iface 148 (.agg #[hnd 34]))) (h0 : w.cell? ⟨b, 0, none⟩ = some (.int .i64 c)) (h1 : w.cell? ⟨b, 1, none⟩ = some (.int .i64 at')) (h2 : w.cell? ⟨b, 2, none⟩ = some v1)
    (hz1 : Ints w.heap.size w v1 zs) (hz2 : Ints w.heap.size w v2 zs) :
    Calls Tryz.prog 14 #[.iface 71 (.pointer (some ⟨b, 0, none⟩)), .agg #[.int .i64 c, .int .i64 at', v2]] w fun ev w' => ev = .returned (.bool true) ∧ Below w.heap.size w w' := by
  obtain ⟨xa, xc, rfl⟩ := hz1.val
  obtain ⟨ya, yc, rfl⟩ := hz2.val
  have d0 : decide (c = 0) = false := by simpa using hne
  have d1 : (c == 0) = false := by simpa using hne
  have bB1 := (Below.refl w.heap.size w).alloc (Nat.le_refl _) (.cells #[.int .i64 c, .int .i64 at', .slice ya zs.length yc] 31)
  have bB2 := bB1.alloc bB1.size (.cells #[.pointer none] 71)
  have s1 := alloc_size w (.cells #[.int .i64 c, .int .i64 at', .slice ya zs.length yc] 31)
  have k1 := Blk.new w 31 #[.int .i64 c, .int .i64 at', .slice ya zs.length yc]
  have bB3 := (Below.refl _ (w.alloc (.cells #[.int .i64 c, .int .i64 at', .slice ya zs.length yc] 31))).alloc (Nat.le_refl _) (.cells #[.pointer none] 71)
  have k2 := k1.old bB3
  have k3 := Blk.new (w.alloc (.cells #[.int .i64 c, .int .i64 at', .slice ya zs.length yc] 31)) 71 #[.pointer none]
  rw [s1] at k3
  have hsame : ∀ W, Below w.heap.size w W → Calls Tryz.prog 23 #[.slice xa zs.length xc, .slice ya zs.length yc] W fun e w' => e = .returned (.bool true) ∧ ∃ n, w' = W.drewN n := fun W hW => by
    have := sameInts_q _ _ zs zs w.heap.size w.heap.size W (hz1.below hW (Nat.le_refl _)) (hz2.below hW (Nat.le_refl _)) hz hz
    simpa using this
  clear bB3 k1 hz1 hz2
  generalize zs.length = zn at *
  go_enter Tryz.func14, Tryz.ntmps14
  go_wp2_with fail
  generalize (w.alloc (.cells #[.int .i64 c, .int .i64 at', .slice ya zn yc] 31)).alloc (.cells #[.pointer none] 71) = w2 at *
  have g2 := cell_keep bB2 hg
  have e0 := cell_keep bB2 h0
  have e1 := cell_keep bB2 h1
  have e2 := cell_keep bB2 h2
  refine (as_fault_b ⟨b, 0, none⟩ ⟨w.heap.size + 1, 0, none⟩ (.pointer none) w2 g2 ?_ ?_).mono ?_
  · exact k3.cell 0
  · exact k3.frozen 0
  rintro _ w3 ⟨rfl, ht, hB3⟩
  have hbl : b < w.heap.size := by
    rcases Nat.lt_or_ge b w.heap.size with h | h
    · exact h
    · simp [World.cell?, Array.getElem?_eq_none h] at h0
  have k4 := k2.below hB3 (Nat.lt_succ_self _)
  have a0 : w3.cell? ⟨b, 0, none⟩ = some (.int .i64 c) := (hB3.cell (by show b < w.heap.size + 1; omega)).trans e0
  have a1 : w3.cell? ⟨b, 1, none⟩ = some (.int .i64 at') := (hB3.cell (by show b < w.heap.size + 1; omega)).trans e1
  have a2 : w3.cell? ⟨b, 2, none⟩ = some (.slice xa zn xc) := (hB3.cell (by show b < w.heap.size + 1; omega)).trans e2
  have x0 : w3.cell? ⟨w.heap.size, 0, none⟩ = some (.int .i64 c) := k4.cell 0
  have x1 : w3.cell? ⟨w.heap.size, 1, none⟩ = some (.int .i64 at') := k4.cell 1
  have x2 : w3.cell? ⟨w.heap.size, 2, none⟩ = some (.slice ya zn yc) := k4.cell 2
  have bB4 : Below w.heap.size w w3 := bB2.trans (hB3.mono (Nat.le_succ _))
  have HS : Hid (∀ n, Calls Tryz.prog 23 #[.slice xa zn xc, .slice ya zn yc] (w3.drewN n) fun e w' => e = .returned (.bool true) ∧ ∃ m, w' = (w3.drewN n).drewN m) := fun n => hsame _ ⟨bB4.os, bB4.tape, bB4.output, bB4.size, bB4.block⟩
  clear k2 k3 k4 g2 e0 e1 e2 h0 h1 h2 hg s1 bB1 bB2 hB3 hsame
  go_wp2_with fail
  go_quiet (first | (go_at_call 23; refine Calls.quiet_of (HS.out _)) | (go_at_call 33; exact Calls.quiet_of_same (is_fault _ c _ (by simpa using a0))))
  go_wp2
  go_ret
  exact ⟨rfl, ⟨bB4.os, bB4.tape, bB4.output, bB4.size, bB4.block⟩⟩
end Go.Proofs.YtcbjnifoojjipaaGreatDoor
namespace Go.Proofs.YtcbjnifoojjipaaGreatDoor
open Go.RowKit Go.Vf
def wgB : Nat := 67108864
def wgL (d : Nat) (n : Nat) : List Fld → Nat
  | [] => n
  | .mk o fl :: r => if n ≤ wgB then wgL d (n + 100 + o.name.size + o.lm.size + o.hm.size + (if 1000 < d + 1 then wgB + 1 else wgL (d + 1) 0 fl)) r else n
termination_by l => SizeOf.sizeOf l
def wg (d : Nat) (l : List Fld) : Nat := if 1000 < d then wgB + 1 else wgL d 0 l
theorem wgL_nil (d n : Nat) : wgL d n [] = n := by rw [wgL]
theorem wgL_above {d n : Nat} {l : List Fld} (h : ¬ n ≤ wgB) : wgL d n l = n := by
  cases l with
  | nil => rw [wgL]
  | cons f r => obtain ⟨o, fl⟩ := f; rw [wgL, if_neg h]
theorem wgL_cons {d n : Nat} {f : Fld} {r : List Fld} (h : n ≤ wgB) : wgL d n (f :: r) = wgL d (n + 100 + f.own.name.size + f.own.lm.size + f.own.hm.size + wg (d + 1) f.fields) r := by
  obtain ⟨o, fl⟩ := f; rw [wgL, if_pos h]; rfl
theorem wgL_le : ∀ (N : Nat) (l : List Fld), SizeOf.sizeOf l ≤ N → (∀ x ∈ l, FitsF 281474976710656 x) → ∀ (d n : Nat), d ≤ 1000 → n ≤ (1002 - d) * 1125899906842624 → wgL d n l ≤ (1002 - d) * 1125899906842624 := by
  intro N
  induction N with
  | zero => intro l h; cases l <;> simp at h
  | succ N ih =>
    intro l hl hf d n hd hn
    cases l with
    | nil => rw [wgL_nil]; exact hn
    | cons f r =>
      by_cases h : n ≤ wgB
      · have hff := hf f (by simp)
        have hs1 : SizeOf.sizeOf f.fields ≤ N := by obtain ⟨o, fl⟩ := f; simp [Fld.fields] at hl ⊢; omega
        have hs2 : SizeOf.sizeOf r ≤ N := by simp at hl; omega
        have hW : wgB = 67108864 := rfl
        have h1 := hff.own.nm
        have h2 := hff.own.lm
        have h3 := hff.own.hm
        rw [wgL_cons h]
        refine ih r hs2 (fun x hx => hf x (by simp [hx])) d _ hd ?_
        unfold wg
        split
        · omega
        · have := ih f.fields hs1 (fun x hx => hff.mem hx) (d + 1) 0 (by omega) (by omega)
          omega
      · rw [wgL_above h]; exact hn
theorem wg_le {l : List Fld} (hf : ∀ x ∈ l, FitsF 281474976710656 x) {d : Nat} (hd : d ≤ 1001) : wg d l ≤ 1128151706656309248 := by
  unfold wg
  split
  · show 67108864 + 1 ≤ _; omega
  · have := wgL_le _ l (Nat.le_refl _) hf d 0 (by omega) (by omega)
    omega
def WgOk (l : List Fld) : Prop := ∀ (a : Option Addr) (c lo n₀ d : Nat) (w : World), d ≤ 1001 → l.length ≤ 281474976710656 → (∀ x ∈ l, FitsF 281474976710656 x) → n₀ ≤ w.heap.size → FIn w lo n₀ l a →
    Calls Tryz.prog 29 #[.slice a l.length c, .int .i64 (d : Int)] w fun e w' => e = .returned (.int .i64 (wg d l : Nat)) ∧ ∃ n, w' = w.drewN n
set_option maxHeartbeats 4000000 in
set_option maxRecDepth 20000 in
theorem wg_step (l : List Fld) (ih : ∀ x ∈ l, WgOk x.fields) : WgOk l := by
  intro a c lo n₀ d w hd hl hf hn₀ hin
  by_cases h3 : 1000 < d
  · have hR : wg d l = 67108865 := by rw [wg, if_pos h3]; rfl
    rw [hR]
    have t1 : decide ((1000 : Int) < (d : Int)) = true := by simp; omega
    clear ih hin hf hR
    go_enter Tryz.func29, Tryz.ntmps29
    go_wp2_with fail
    go_ret
    exact ⟨rfl, 0, rfl⟩
  have t1 : decide ((1000 : Int) < (d : Int)) = false := by simp; omega
  obtain ⟨R, hR⟩ : ∃ R, wg d l = R := ⟨_, rfl⟩
  rw [hR]
  have HR : Hid (R = wgL d 0 (l.drop 0)) := by show _ = _; rw [← hR, wg, if_neg h3]; rfl
  have HW : Hid (wgB = 67108864) := rfl
  clear hR
  go_enter Tryz.func29, Tryz.ntmps29
  go_wp2_with fail
  go_loopw [5, 6] (fun nv iv wr => ∃ (j s q : Nat), j ≤ l.length ∧ iv = .int .i64 (j : Int) ∧ nv = .int .i64 (s : Int) ∧ Hid (R = wgL d s (l.drop j)) ∧ wr = w.drewN q) (fun _ iv _ => l.length - (intOf iv).toNat)
  case atStart => exact ⟨0, 0, 0, by omega, rfl, rfl, HR, rfl⟩
  case round =>
    clear HR
    obtain ⟨j, s, q, hj, rfl, rfl, HS, rfl⟩ := hrel
    by_cases hlt : j < l.length
    · by_cases hms : s ≤ wgB
      · have hms' : s ≤ 67108864 := hms
        have t2 : decide ((s : Int) ≤ 67108864) = true := by simp; omega
        have t3 : decide (s ≤ 67108864) = true := by simp; omega
        obtain ⟨bb, off, aj, cj, ha, _, _, hrow, hinj⟩ := hin.at hlt
        subst ha
        have hff := hf _ (List.getElem_mem hlt)
        have hih := ih _ (List.getElem_mem hlt)
        have HD : Hid (R = wgL d (s + 100 + l[j].own.name.size + l[j].own.lm.size + l[j].own.hm.size + wg (d + 1) l[j].fields) (l.drop (j + 1))) := by
          show _ = _
          rw [HS.out, List.drop_eq_getElem_cons hlt, wgL_cons hms]
        generalize l[j] = x at *
        have HROW : Hid (RowF w bb (off + j * 14) x.own aj x.fields.length cj) := hrow
        have k1 := hff.own.nm
        have k2 := hff.own.lm
        have k3 := hff.own.hm
        have hle : wg (d + 1) x.fields ≤ 1128151706656309248 := wg_le (fun z hz => hff.mem hz) (by omega)
        have HC : Hid (∀ n, Calls Tryz.prog 29 #[.slice aj x.fields.length cj, .int .i64 ((d : Int) + 1)] ((w.drewN q).drewN n) fun e w' => e = .returned (.int .i64 (wg (d + 1) x.fields : Nat)) ∧ ∃ m, w' = ((w.drewN q).drewN n).drewN m) := fun n => by
          have := hih aj cj lo n₀ (d + 1) ((w.drewN q).drewN n) (by omega) hff.len (fun z hz => hff.mem hz) (by exact hn₀) (hinj.keep' fun _ _ _ => rfl)
          rw [show ((d + 1 : Nat) : Int) = (d : Int) + 1 from rfl] at this
          exact this
        generalize wg (d + 1) x.fields = Q at HD hle HC
        clear HS ih hf hin hih hinj hrow
        obtain ⟨V, hV⟩ : ∃ V, V = w.drewN q := ⟨_, rfl⟩
        have HV : Hid (V = w.drewN q) := hV
        rw [← hV] at HC ⊢
        have hrV : RowF V bb (off + j * 14) x.own aj x.fields.length cj := HROW.out.of fun k => by rw [hV]; rfl
        clear hV
        obtain ⟨r0, r1, r2, r3, r4, r5, r6, r7, r8, r9, r10, r11, r12, r13⟩ := hrV
        have e1 : IntKind.i64.wrap ((s : Int) + 100) = (s : Int) + 100 := by rw [IntKind.wrap_i64] <;> omega
        have e2 : IntKind.i64.wrap ((s : Int) + 100 + (x.own.name.size : Int)) = (s : Int) + 100 + (x.own.name.size : Int) := by rw [IntKind.wrap_i64] <;> omega
        have e3 : IntKind.i64.wrap ((s : Int) + 100 + (x.own.name.size : Int) + (x.own.lm.size : Int)) = (s : Int) + 100 + (x.own.name.size : Int) + (x.own.lm.size : Int) := by rw [IntKind.wrap_i64] <;> omega
        have e4 : IntKind.i64.wrap ((s : Int) + 100 + (x.own.name.size : Int) + (x.own.lm.size : Int) + (x.own.hm.size : Int)) = (s : Int) + 100 + (x.own.name.size : Int) + (x.own.lm.size : Int) + (x.own.hm.size : Int) := by rw [IntKind.wrap_i64] <;> omega
        have e5 : IntKind.i64.wrap ((s : Int) + 100 + (x.own.name.size : Int) + (x.own.lm.size : Int) + (x.own.hm.size : Int) + (Q : Int)) = (s : Int) + 100 + (x.own.name.size : Int) + (x.own.lm.size : Int) + (x.own.hm.size : Int) + (Q : Int) := by rw [IntKind.wrap_i64] <;> omega
        have e6 : IntKind.i64.wrap ((d : Int) + 1) = (d : Int) + 1 := by rw [IntKind.wrap_i64] <;> omega
        have hltI : (j : Int) < (l.length : Int) := by omega
        go_upto_region 7 with fail
        go_quiet (first | (go_at_call 29; refine Calls.quiet_of (HC.out _)))
        clear HC
        go_wp2_with fail
        exact ⟨⟨j + 1, s + 100 + x.own.name.size + x.own.lm.size + x.own.hm.size + Q, q + nq, by omega, by simp, by rw [show ((s + 100 + x.own.name.size + x.own.lm.size + x.own.hm.size + Q : Nat) : Int) = (s : Int) + 100 + (x.own.name.size : Int) + (x.own.lm.size : Int) + (x.own.hm.size : Int) + (Q : Int) by omega], HD, by rw [HV.out, World.drewN_drewN]⟩, by simp only [intOf]; omega⟩
      · have t2 : decide ((s : Int) ≤ 67108864) = false := by have := HW.out; simp; omega
        have t3 : decide (s ≤ 67108864) = false := by have := HW.out; simp; omega
        have hRn : R = s := by rw [HS.out, wgL_above hms]
        subst hRn
        clear HS ih hf hin
        go_wp2_with fail
        go_ret
        exact ⟨rfl, q, rfl⟩
    · have hRn : R = s := by rw [HS.out, List.drop_of_length_le (by omega), wgL_nil]
      subst hRn
      clear HS ih hf hin
      go_wp2_with fail
      go_ret
      exact ⟨rfl, q, rfl⟩
theorem fld_wg : ∀ f : Fld, WgOk f.fields := fun f => by
  induction f using Fld.ind with
  | h o l ih => exact wg_step l ih
theorem wg_any (l : List Fld) : WgOk l := wg_step l fun x _ => fld_wg x
theorem vast_any (l : List Fld) (a : Option Addr) (c lo n₀ : Nat) (w : World) (hl : l.length ≤ 281474976710656) (hf : ∀ x ∈ l, FitsF 281474976710656 x) (hn₀ : n₀ ≤ w.heap.size) (hin : FIn w lo n₀ l a) :
    Calls Tryz.prog 10 #[.slice a l.length c] w fun e w' => e = .returned (.bool (decide (67108864 < wg 0 l))) ∧ ∃ n, w' = w.drewN n := by
  have h := wg_any l a c lo n₀ 0 w (by omega) hl hf hn₀ hin
  generalize wg 0 l = R at h ⊢
  go_enter Tryz.func10, Tryz.ntmps10
  go_wp2_with fail
  refine h.mono ?_
  rintro _ w2 ⟨rfl, n, rfl⟩
  clear h
  go_wp2_with fail
  go_ret
  exact ⟨by simp; omega, n, rfl⟩
theorem wgL_fits : ∀ (N : Nat) (l : List Fld), SizeOf.sizeOf l ≤ N → (∀ x ∈ l, FitsF 281474976710656 x) → ∀ (d n : Nat), wgL d n l ≤ wgB → n + 100 * l.length ≤ wgL d n l ∧ ∀ x ∈ l, FitsF 67108864 x := by
  intro N
  induction N with
  | zero => intro l h; cases l <;> simp at h
  | succ N ih =>
    intro l hl hf d n hle
    have hW : wgB = 67108864 := rfl
    cases l with
    | nil => rw [wgL_nil]; exact ⟨by simp, fun x hx => by simp at hx⟩
    | cons f r =>
      by_cases h : n ≤ wgB
      · have hff := hf f (by simp)
        have hs1 : SizeOf.sizeOf f.fields ≤ N := by obtain ⟨o, fl⟩ := f; simp [Fld.fields] at hl ⊢; omega
        have hs2 : SizeOf.sizeOf r ≤ N := by simp at hl; omega
        rw [wgL_cons h] at hle ⊢
        obtain ⟨g1, g2⟩ := ih r hs2 (fun x hx => hf x (by simp [hx])) d _ hle
        have hq : wg (d + 1) f.fields ≤ wgB := by omega
        have h3 : ¬ 1000 < d + 1 := fun h3 => by rw [wg, if_pos h3] at hq; omega
        rw [wg, if_neg h3] at hq
        obtain ⟨g3, g4⟩ := ih f.fields hs1 (fun x hx => hff.mem hx) _ _ hq
        refine ⟨by rw [List.length_cons]; omega, fun x hx => ?_⟩
        rcases List.mem_cons.1 hx with rfl | hx
        · have o := hff.own
          exact .mk ⟨o.k0, o.k1, o.n0, o.n1, by omega, by omega, by omega, o.m0, o.m1, o.s0, o.s1⟩ (by omega) g4
        · exact g2 x hx
      · rw [wgL_above h] at hle; exact absurd hle h
theorem FitsF.up {B B' : Nat} (hB : B ≤ B') : ∀ {f : Fld}, FitsF B f → FitsF B' f := by
  intro f h
  induction h with
  | mk o h1 _ ih => exact .mk ⟨o.k0, o.k1, o.n0, o.n1, Nat.le_trans o.nm hB, Nat.le_trans o.lm hB, Nat.le_trans o.hm hB, o.m0, o.m1, o.s0, o.s1⟩ (Nat.le_trans h1 hB) ih
theorem wg_fits {l : List Fld} (hf : ∀ x ∈ l, FitsF 281474976710656 x) (h : ¬ 67108864 < wg 0 l) : l.length ≤ 671088 ∧ (∀ x ∈ l, FitsF 67108864 x) ∧ ∀ x ∈ l, FitsF 17179869184 x := by
  have hW : wgB = 67108864 := rfl
  rw [wg, if_neg (by omega)] at h
  obtain ⟨h1, h2⟩ := wgL_fits _ l (Nat.le_refl _) hf 0 0 (by omega)
  exact ⟨by omega, h2, fun x hx => (h2 x hx).up (by omega)⟩
end Go.Proofs.YtcbjnifoojjipaaGreatDoor
