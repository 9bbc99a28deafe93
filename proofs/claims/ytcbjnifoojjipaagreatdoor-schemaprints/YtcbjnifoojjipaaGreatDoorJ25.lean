/- Contracts and lemmas (nothing is claimed here). -/
import Derived.Test.YtcbjnifoojjipaaGreatDoorJ2
import Derived.Test.YtcbjnifoojjipaaGreatDoorJ24
import Derived.Deep.QuietTactic
import Derived.BigQuiet
import Derived.Test.YtcbjnifoojjipaaGreatDoorJ15
namespace Go.Proofs.YtcbjnifoojjipaaGreatDoor
open Go.RowKit Go.Vf

theorem cell_one (q : Int) (w : World) : ∀ j, j < [q].length → (w.alloc (.cells #[.int .i64 q] 3)).cell? ((⟨w.heap.size, 0, none⟩ : Addr).add j) = some (.int .i64 ([q][j]?.getD 0)) := fun j hj => by
  have hj0 : j = 0 := by simp at hj; omega
  subst hj0
  simp [Addr.add]
theorem IOwn.cellAt {w : World} {base : Nat} {a : Option Addr} {n c : Nat} {zs : List Int} (h : IOwn w base (.slice a n c) zs) {i : Nat} (hi : i < zs.length) : ∃ g, a = some ⟨g, 0, none⟩ ∧ g < w.heap.size ∧ w.cell? ⟨g, i, none⟩ = some (.int .i64 zs[i]) := by
  rcases h.form with ⟨_, e⟩ | ⟨g, cap, e, _, hlt, _, hc, _⟩
  · rw [e] at hi; simp at hi
  · simp only [Value.slice.injEq] at e
    obtain ⟨rfl, _, _⟩ := e
    refine ⟨g, rfl, hlt, ?_⟩
    have := hc i hi
    simpa [List.getElem?_eq_getElem hi] using this
set_option maxHeartbeats 1000000 in
set_option maxRecDepth 20000 in
theorem rInts_any {a : Option Addr} {c : Nat} {zs : List Int} {base : Nat} {w : World} (hin : IOwn w base (.slice a zs.length c) zs) (hl : zs.length ≤ 1000000000000) :
    Calls Tryz.prog 53 #[.slice a zs.length c] w fun e w' => ∃ a' c', e = .returned (.slice a' zs.length c') ∧ IOwn w' w.heap.size (.slice a' zs.length c') zs ∧ Below w.heap.size w w' := by
  generalize hk : zs.length = k at hl ⊢
  have HK : Hid (zs.length = k) := hk
  have HIN : Aside (IOwn w base (.slice a k c) zs) := by rw [hk] at hin; exact hin
  clear hin hk
  go_enter Tryz.func53, Tryz.ntmps53
  go_wp2_with fail
  go_loopw [3, 4] (fun ov iv wr => ∃ (i : Nat) (acc : List Int) (oa : Option Addr) (oc : Nat), i ≤ k ∧ iv = .int .i64 i ∧ ov = .slice oa acc.length oc ∧ Aside (IOwn wr w.heap.size (.slice oa acc.length oc) acc) ∧ Hid (acc ++ zs.drop i = zs ∧ acc.length = i) ∧ Below w.heap.size w wr) (fun _ iv _ => k - (intOf iv).toNat)
  case atStart => exact ⟨0, [], none, 0, by omega, rfl, rfl, IOwn.nil _ _, ⟨by simp, rfl⟩, Below.refl _ _⟩
  case round =>
    obtain ⟨i, acc, oa, oc, hi, rfl, rfl, HO, HA, hbr⟩ := hrel
    by_cases hlt : i < k
    · have hltp : i < zs.length := by rw [HK.out]; exact hlt
      obtain ⟨g, hao, hglt, hcell⟩ := IOwn.cellAt HIN.out hltp
      have hcj := (hbr.cell (p := ⟨g, i, none⟩) hglt).trans hcell
      have HA2 : Hid ((acc ++ [zs[i]]) ++ zs.drop (i + 1) = zs ∧ (acc ++ [zs[i]]).length = i + 1) := ⟨by
        rw [List.append_assoc, List.singleton_append, ← List.drop_eq_getElem_cons hltp]
        exact HA.out.1, by rw [List.length_append, HA.out.2]; rfl⟩
      generalize zs[i] = q at hcj HA2
      subst hao
      have hbA := (Below.refl wr.heap.size wr).alloc (Nat.le_refl _) (.cells #[.int .i64 q] 3)
      have HO2 : Aside (IOwn (wr.alloc (.cells #[.int .i64 q] 3)) w.heap.size (.slice oa acc.length oc) acc) := own_after HO.out hbA
      have hszA : w.heap.size ≤ (wr.alloc (.cells #[.int .i64 q] 3)).heap.size := Nat.le_trans hbr.size hbA.size
      have hl2 : acc.length + [q].length ≤ 1099511627776 := by have := HA.out.2; simp; omega
      have HC : Hid (∀ j, j < [q].length → (wr.alloc (.cells #[.int .i64 q] 3)).cell? ((⟨wr.heap.size, 0, none⟩ : Addr).add j) = some (.int .i64 ([q][j]?.getD 0))) := cell_one q wr
      clear hcell hltp HO HA hbA
      go_wp2_with (first | (at_builtin; refine wpList_append_ints rfl _ _ rfl w.heap.size _ acc rfl HO2.out [q] ⟨wr.heap.size, 0, none⟩ _ rfl HC.out hl2 hszA ?_; intro a4 c4 w4 hown4 hgr4 hnil4 hat4))
      have hb4 : Below w.heap.size w w4 := (hbr.alloc hbr.size _).grown hgr4 hszA (fun j hj => (own_ge HO2.out hj).1)
      have HO4 : Aside (IOwn w4 w.heap.size (.slice a4 (acc ++ [q]).length c4) (acc ++ [q])) := by
        rw [List.length_append]; exact hown4
      clear hown4 hgr4 hnil4 hat4
      go_roundw
      case rel => exact ⟨i + 1, acc ++ [q], a4, c4, by omega, by simp, by simp, HO4, HA2, hb4⟩
      case measure => simp only [intOf]; omega
    · have hfin : acc = zs := by have := HA.out.1; rwa [List.drop_of_length_le (by rw [HK.out]; omega), List.append_nil] at this
      have hk2 : acc.length = k := by rw [hfin, HK.out]
      have HO4 := HO.out
      rw [hk2] at HO4
      rw [hk2]
      clear HA hk2 HO
      go_wp2_with fail
      go_ret
      exact ⟨_, _, rfl, hfin ▸ HO4, hbr⟩

end Go.Proofs.YtcbjnifoojjipaaGreatDoor

namespace Go.Proofs.YtcbjnifoojjipaaGreatDoor
open Go.RowKit Go.Vf

theorem Ints.val {n : Nat} {w : World} {v : Value} {zs : List Int} (h : Ints n w v zs) : ∃ x c, v = .slice x zs.length c := by
  rcases h with ⟨a, c, rfl, rfl⟩ | ⟨b, off, c, rfl, _⟩
  · exact ⟨a, c, rfl⟩
  · exact ⟨_, c, rfl⟩
theorem drop_getD (l : List Int) (k : Nat) (h : k < l.length) : l.drop k = (l[k]?.getD 0) :: l.drop (k + 1) := by
  rw [List.drop_eq_getElem_cons h, List.getElem?_eq_getElem h]; rfl
theorem drew_more {w wr : World} (h : ∃ n, wr = w.drewN n) : ∃ n, wr.drew = w.drewN n := by
  obtain ⟨n, e⟩ := h
  exact ⟨n + 1, by rw [e]; rfl⟩
set_option maxHeartbeats 4000000 in
set_option maxRecDepth 20000 in
theorem sameInts_q (va vb : Value) (za zb : List Int) (n₁ n₂ : Nat) (w : World) (ha : Ints n₁ w va za) (hb : Ints n₂ w vb zb) (hla : za.length ≤ 4611686018427387904) (_hlb : zb.length ≤ 4611686018427387904) :
    Calls Tryz.prog 23 #[va, vb] w fun e w' => e = .returned (.bool (decide (za = zb))) ∧ ∃ n, w' = w.drewN n := by
  obtain ⟨R, HR⟩ : ∃ R, Hid (R = decide (za = zb)) := ⟨_, rfl⟩
  rw [← HR.out]
  by_cases hl : za.length = zb.length
  · rcases Nat.eq_zero_or_pos za.length with h0 | h0
    · obtain ⟨x, c, rfl⟩ := ha.val
      obtain ⟨y, d, rfl⟩ := hb.val
      have hb0 : zb.length = 0 := by omega
      have hR : R = true := by rw [HR.out, List.eq_nil_of_length_eq_zero h0, List.eq_nil_of_length_eq_zero hb0]; rfl
      rw [h0, hb0]
      clear ha hb h0 hb0 hl hla
      go_enter Tryz.func23, Tryz.ntmps23
      go_wp2
      go_loopw [5] (fun i wr => i = .int .i64 0 ∧ wr = w) (fun _ _ => 0)
      case atStart => exact ⟨rfl, rfl⟩
      case round =>
        obtain ⟨rfl, rfl⟩ := hrel
        go_wp2
        go_ret
        exact ⟨by rw [hR]; rfl, ⟨0, rfl⟩⟩
    · rcases ha with ⟨_, _, _, h⟩ | ⟨b1, o1, c1, rfl, hb1, hc1⟩
      · rw [h] at h0; simp at h0
      rcases hb with ⟨_, _, _, h⟩ | ⟨b2, o2, c2, rfl, hb2, hc2⟩
      · rw [hl, h] at h0; simp at h0
      rw [← hl]
      rw [← hl] at hc2
      obtain ⟨L, hL⟩ : ∃ L, L = za.length := ⟨_, rfl⟩
      have HL : Hid (L = za.length ∧ L = zb.length) := ⟨hL, by rw [hL]; exact hl⟩
      rw [← hL] at hc1 hc2 hla h0 ⊢
      clear hl hL
      go_enter Tryz.func23, Tryz.ntmps23
      go_wp2
      go_loopw [5] (fun i wr => ∃ k : Nat, k ≤ L ∧ i = .int .i64 k ∧ Hid (R = decide (za.drop k = zb.drop k)) ∧ (∃ n, wr = w.drewN n) ∧ (∀ a, wr.cell? a = w.cell? a)) (fun i _ => L - (intOf i).toNat)
      case atStart => exact ⟨0, Nat.zero_le _, rfl, HR, ⟨0, rfl⟩, fun _ => rfl⟩
      case round =>
        obtain ⟨k, hk, rfl, HK, hbel, hsame⟩ := hrel
        by_cases hlt : k < L
        · have x1 := (hsame _).trans (hc1 k hlt)
          have x2 := (hsame _).trans (hc2 k hlt)
          have hK := HK.out
          rw [drop_getD za k (by rw [← HL.out.1]; exact hlt), drop_getD zb k (by rw [← HL.out.2]; exact hlt)] at hK
          obtain ⟨p, hp⟩ : ∃ p, p = za[k]?.getD 0 := ⟨_, rfl⟩
          obtain ⟨q, hq⟩ : ∃ q, q = zb[k]?.getD 0 := ⟨_, rfl⟩
          rw [← hp] at x1 hK
          rw [← hq] at x2 hK
          have HS : Hid (∀ a, wr.cell? a = w.cell? a) := hsame
          clear hp hq HK hc1 hc2 hsame
          by_cases hpq : p = q
          · have HK2 : Hid (R = decide (za.drop (k + 1) = zb.drop (k + 1))) := by show _ = _; rw [hK, hpq]; simp
            have t1 : (p == q) = true := by simpa using hpq
            have t2 : (p != q) = false := by simpa using hpq
            clear hK hpq
            go_wp2
            go_region
            go_wp2
            go_roundw
            case rel => exact ⟨k + 1, by omega, by go_num, HK2, drew_more hbel, HS.out⟩
            case measure => simp [intOf]; omega
          · have hR : R = false := by rw [hK]; simp [hpq]
            have t1 : (p == q) = false := by simpa using hpq
            have t2 : (p != q) = true := by simpa using hpq
            clear hK hpq
            go_wp2
            go_region
            go_wp2
            go_ret
            exact ⟨by first | (rw [hR]; rfl) | rfl, drew_more hbel⟩
        · obtain rfl : k = L := by omega
          have hR : R = true := by
            rw [HK.out, List.drop_eq_nil_of_le (by rw [← HL.out.1]; exact Nat.le_refl _), List.drop_eq_nil_of_le (by rw [← HL.out.2]; exact Nat.le_refl _)]; rfl
          clear HK
          go_wp2
          go_ret
          exact ⟨by first | (rw [hR]; rfl) | rfl, hbel⟩
  · obtain ⟨x, c, rfl⟩ := ha.val
    obtain ⟨y, d, rfl⟩ := hb.val
    have hR : R = false := by rw [HR.out]; simp; intro h; exact hl (by rw [h])
    clear ha hb
    go_enter Tryz.func23, Tryz.ntmps23
    go_wp2
    go_ret
    exact ⟨by rw [hR]; rfl, ⟨0, rfl⟩⟩

end Go.Proofs.YtcbjnifoojjipaaGreatDoor

namespace Go.Proofs.YtcbjnifoojjipaaGreatDoor
open Go.RowKit Go.Extern.Stop Go.Stop Go.Extern Go.Vf

theorem cell_keep {w w' : World} (h : Below w.heap.size w w') {a : Addr} {v : Value} (hc : w.cell? a = some v) : w'.cell? a = some v := by
  have hl : a.block < w.heap.size := by
    rcases Nat.lt_or_ge a.block w.heap.size with h | h
    · exact h
    · simp [World.cell?, Array.getElem?_eq_none h] at hc
  exact (h.cell hl).trans hc

theorem as_fault_b (e t : Addr) (old : Value) (w : World) (hg : w.cell? ⟨0, 0, none⟩ = some (.iface 148 (.agg #[hnd 34]))) (ht0 : w.cell? t = some old) (hf0 : w.frozen? t = false) :
    Calls Tryz.prog 32 #[.iface 71 (.pointer (some e)), .iface 77 (.pointer (some t))] w fun ev w' => ev = .returned (.bool true) ∧ w'.cell? t = some (.pointer (some e)) ∧ Below t.block w w' := by
  have htl : t.block < w.heap.size := by
    rcases Nat.lt_or_ge t.block w.heap.size with h | h
    · exact h
    · simp [World.cell?, Array.getElem?_eq_none h] at ht0
  refine (as_fault e t old w hg ht0 hf0).mono ?_
  rintro _ _ ⟨rfl, rfl⟩
  have hB : Below w.heap.size w (asW w t e) := by
    have b1 := (Below.refl w.heap.size w).alloc (Nat.le_refl _) (.cells #[.pointer (some t)] 77)
    have b2 := b1.alloc b1.size (.cells #[hnd 77, .pointer (some ⟨w.heap.size, 0, none⟩), .int .u64 150] 115)
    have b3 := b2.alloc b2.size (.cells #[hnd 77, .pointer (some ⟨w.heap.size, 0, none⟩), .int .u64 150] 115)
    exact b3.alloc b3.size _
  refine ⟨rfl, World.cell?_setCell_same' _ _ _ (by rw [cell_keep hB ht0]; rfl), ?_⟩
  exact (hB.mono (Nat.le_of_lt htl)).setCell (Nat.le_refl _) _

set_option maxRecDepth 20000 in
set_option maxHeartbeats 4000000 in
/-- A Fault that says what is asked, with its path. -/
theorem keepIs_path (b : Nat) (c at' : Int) (v1 v2 : Value) (zs : List Int) (hz : zs.length ≤ 4611686018427387904) (w : World) (hne : c ≠ 0) (hg : w.cell? ⟨0, 0, none⟩ = some (.iface 148 (.agg #[hnd 34]))) (h0 : w.cell? ⟨b, 0, none⟩ = some (.int .i64 c)) (h1 : w.cell? ⟨b, 1, none⟩ = some (.int .i64 at')) (h2 : w.cell? ⟨b, 2, none⟩ = some v1)
    (hz1 : Ints w.heap.size w v1 zs) (hz2 : Ints w.heap.size w v2 zs) :
    Calls Tryz.prog 14 #[.iface 71 (.pointer (some ⟨b, 0, none⟩)), .agg #[.int .i64 c, .int .i64 at', v2]] w fun ev w' => ev = .returned (.bool true) ∧ Below w.heap.size w w' := by
  obtain ⟨xa, xc, rfl⟩ := hz1.val
  obtain ⟨ya, yc, rfl⟩ := hz2.val
  have d0 : decide (c = 0) = false := by simpa using hne
  have d1 : (c == 0) = false := by simpa using hne
  have bB1 := (Below.refl w.heap.size w).alloc (Nat.le_refl _) (.cells #[.int .i64 c, .int .i64 at', .slice ya zs.length yc] 31)
  have bB2 := bB1.alloc bB1.size (.cells #[.pointer none] 71)
  have s1 := alloc_size w (.cells #[.int .i64 c, .int .i64 at', .slice ya zs.length yc] 31)
  have k1 := Blk.new w 31 #[.int .i64 c, .int .i64 at', .slice ya zs.length yc]
  have bB3 := (Below.refl _ (w.alloc (.cells #[.int .i64 c, .int .i64 at', .slice ya zs.length yc] 31))).alloc (Nat.le_refl _) (.cells #[.pointer none] 71)
  have k2 := k1.old bB3
  have k3 := Blk.new (w.alloc (.cells #[.int .i64 c, .int .i64 at', .slice ya zs.length yc] 31)) 71 #[.pointer none]
  rw [s1] at k3
  have hsame : ∀ W, Below w.heap.size w W → Calls Tryz.prog 23 #[.slice xa zs.length xc, .slice ya zs.length yc] W fun e w' => e = .returned (.bool true) ∧ ∃ n, w' = W.drewN n := fun W hW => by
    have := sameInts_q _ _ zs zs w.heap.size w.heap.size W (hz1.below hW (Nat.le_refl _)) (hz2.below hW (Nat.le_refl _)) hz hz
    simpa using this
  clear bB3 k1 hz1 hz2
  generalize zs.length = zn at *
  go_enter Tryz.func14, Tryz.ntmps14
  go_wp2_with fail
  generalize (w.alloc (.cells #[.int .i64 c, .int .i64 at', .slice ya zn yc] 31)).alloc (.cells #[.pointer none] 71) = w2 at *
  have g2 := cell_keep bB2 hg
  have e0 := cell_keep bB2 h0
  have e1 := cell_keep bB2 h1
  have e2 := cell_keep bB2 h2
  refine (as_fault_b ⟨b, 0, none⟩ ⟨w.heap.size + 1, 0, none⟩ (.pointer none) w2 g2 ?_ ?_).mono ?_
  · exact k3.cell 0
  · exact k3.frozen 0
  rintro _ w3 ⟨rfl, ht, hB3⟩
  have hbl : b < w.heap.size := by
    rcases Nat.lt_or_ge b w.heap.size with h | h
    · exact h
    · simp [World.cell?, Array.getElem?_eq_none h] at h0
  have k4 := k2.below hB3 (Nat.lt_succ_self _)
  have a0 : w3.cell? ⟨b, 0, none⟩ = some (.int .i64 c) := (hB3.cell (by show b < w.heap.size + 1; omega)).trans e0
  have a1 : w3.cell? ⟨b, 1, none⟩ = some (.int .i64 at') := (hB3.cell (by show b < w.heap.size + 1; omega)).trans e1
  have a2 : w3.cell? ⟨b, 2, none⟩ = some (.slice xa zn xc) := (hB3.cell (by show b < w.heap.size + 1; omega)).trans e2
  have x0 : w3.cell? ⟨w.heap.size, 0, none⟩ = some (.int .i64 c) := k4.cell 0
  have x1 : w3.cell? ⟨w.heap.size, 1, none⟩ = some (.int .i64 at') := k4.cell 1
  have x2 : w3.cell? ⟨w.heap.size, 2, none⟩ = some (.slice ya zn yc) := k4.cell 2
  have bB4 : Below w.heap.size w w3 := bB2.trans (hB3.mono (Nat.le_succ _))
  have HS : Hid (∀ n, Calls Tryz.prog 23 #[.slice xa zn xc, .slice ya zn yc] (w3.drewN n) fun e w' => e = .returned (.bool true) ∧ ∃ m, w' = (w3.drewN n).drewN m) := fun n => hsame _ ⟨bB4.os, bB4.tape, bB4.output, bB4.size, bB4.block⟩
  clear k2 k3 k4 g2 e0 e1 e2 h0 h1 h2 hg s1 bB1 bB2 hB3 hsame
  go_wp2_with fail
  go_quiet (first | (go_at_call 23; refine Calls.quiet_of (HS.out _)) | (go_at_call 33; exact Calls.quiet_of_same (is_fault _ c _ (by simpa using a0))))
  go_wp2
  go_ret
  exact ⟨rfl, ⟨bB4.os, bB4.tape, bB4.output, bB4.size, bB4.block⟩⟩
end Go.Proofs.YtcbjnifoojjipaaGreatDoor

namespace Go.Proofs.YtcbjnifoojjipaaGreatDoor
open Go.RowKit Go.Vf
theorem cellsF_front {o : Go.Vf.Own} {a a' : Option Addr} {n n' c c' : Nat} {e : Nat} (he : e < 13) : (cellsF o a n c).toList[e]? = (cellsF o a' n' c').toList[e]? := by
  have : e = 0 ∨ e = 1 ∨ e = 2 ∨ e = 3 ∨ e = 4 ∨ e = 5 ∨ e = 6 ∨ e = 7 ∨ e = 8 ∨ e = 9 ∨ e = 10 ∨ e = 11 ∨ e = 12 := by omega
  rcases this with rfl | rfl | rfl | rfl | rfl | rfl | rfl | rfl | rfl | rfl | rfl | rfl | rfl <;> rfl
/-- A row's fields are lent. -/
theorem SofF.step {w : World} {b j cap g : Nat} {cs : Array Value} {l : List Fld} {G : Nat → Nat} {a : Option Addr} {n c : Nat} (hS : SofF w b j cs l cap G) (hj : j < l.length) (hc : j < cap) (hx : ∀ i, i < 14 → cs[j * 14 + i]? = (cellsF l[j].own a n c).toList[i]?) (hg : LIf w (b + 1) w.heap.size l[j].fields g) :
    ∃ cs', SofF (w.setCell ⟨b, j * 14 + 13, none⟩ (.slice (some ⟨g, 0, none⟩) l[j].fields.length (l[j].fields.length + 2))) b (j + 1) cs' l cap (fun i => if i = j then g else G i) := by
  have hB := hS.blk.set (j * 14 + 13) (.slice (some ⟨g, 0, none⟩) l[j].fields.length (l[j].fields.length + 2))
  have hsz := hS.size
  have hz : (w.setCell ⟨b, j * 14 + 13, none⟩ (.slice (some ⟨g, 0, none⟩) l[j].fields.length (l[j].fields.length + 2))).heap.size = w.heap.size := by simp [World.setCell]
  refine ⟨_, hB, by simpa using hsz, fun i hi hij => ?_, fun i hi hij => ?_⟩
  · by_cases e : i = j
    · subst e
      simp only [if_pos]
      refine row_of hB fun e he => ?_
      rw [Array.getElem?_setIfInBounds]
      by_cases h13 : e = 13
      · subst h13
        rw [if_pos rfl, if_pos (by omega)]
        rfl
      · rw [if_neg (by omega), hx e he]
        exact cellsF_front (by omega)
    · simp only [if_neg e]
      refine row_same (hS.row i hi (by omega)) fun e he => ?_
      rw [hB.cell, hS.blk.cell, Array.getElem?_setIfInBounds, if_neg (by omega)]
  · rw [hz]
    by_cases e : i = j
    · subst e
      simp only [if_pos]
      exact hg.keep fun x hx _ => Below.heap_setCell w ⟨b, i * 14 + 13, none⟩ _ x (by show x ≠ b; omega)
    · simp only [if_neg e]
      exact (hS.win i hi (by omega)).keep fun x hx _ => Below.heap_setCell w ⟨b, j * 14 + 13, none⟩ _ x (by show x ≠ b; omega)
/-- What is lent of a list of fields. -/
def LentOkF (l : List Fld) : Prop := ∀ (a : Option Addr) (c n₀ : Nat) (w : World), n₀ ≤ w.heap.size → FIn w 0 n₀ l a → Calls Tryz.prog 11 #[.slice a l.length c] w fun e w' => ∃ b, e = .returned (.slice (some ⟨b, 0, none⟩) l.length (l.length + 2)) ∧ LIf w' w.heap.size w'.heap.size l b ∧ Below w.heap.size w w'
theorem res14_run {tmps : Array Value} {w : World} {v : Value} (t2 : tmps[2]?.getD undef = v) : (results Tryz.f11 tmps).run Tryz.prog w = .ok v w := by
  simp [results, Tryz.results11, go_sem, t2]
set_option maxHeartbeats 16000000 in
set_option maxRecDepth 20000 in
theorem lentF_step (l : List Fld) (hl : l.length ≤ 67108864) (ih : ∀ x ∈ l, LentOkF x.fields) : LentOkF l := by
  intro a c n₀ w hn₀ hin
  obtain ⟨ln, hln⟩ : ∃ ln, l.length = ln := ⟨_, rfl⟩
  have HLN : Hid (l.length = ln) := hln
  rw [hln] at hl ⊢
  clear hln
  have HIN : Hid (∀ w1, Below w.heap.size w w1 → FIn w1 0 n₀ l a) := fun w1 h => hin.keep h hn₀
  have hmk : (Instr.makeSlice 23 (.int .i64 (ln : Int)) (.int .i64 ((ln : Int) + 2))).run Tryz.prog w = .ok (.slice (some ⟨w.heap.size, 0, none⟩) ln (ln + 2)) (w.alloc (.cells (madeCells #[.string ⟨#[]⟩, .int .u8 0, .bool false, .int .u8 0, .bool false, .bool false, .string ⟨#[]⟩, .bool false, .string ⟨#[]⟩, .int .i64 0, .int .i64 0, .bool false, .bool false, .slice none 0 0] ((ln + 2) * 14)) 48)) := run_make57 ln (ln + 2) (by omega) (by omega) w
  have hB0 := Blk.new w 48 (madeCells #[.string ⟨#[]⟩, .int .u8 0, .bool false, .int .u8 0, .bool false, .bool false, .string ⟨#[]⟩, .bool false, .string ⟨#[]⟩, .int .i64 0, .int .i64 0, .bool false, .bool false, .slice none 0 0] ((ln + 2) * 14))
  have hb0 := (Below.refl w.heap.size w).alloc (Nat.le_refl _) (.cells (madeCells #[.string ⟨#[]⟩, .int .u8 0, .bool false, .int .u8 0, .bool false, .bool false, .string ⟨#[]⟩, .bool false, .string ⟨#[]⟩, .int .i64 0, .int .i64 0, .bool false, .bool false, .slice none 0 0] ((ln + 2) * 14)) 48)
  have hs0 := alloc_size w (.cells (madeCells #[.string ⟨#[]⟩, .int .u8 0, .bool false, .int .u8 0, .bool false, .bool false, .string ⟨#[]⟩, .bool false, .string ⟨#[]⟩, .int .i64 0, .int .i64 0, .bool false, .bool false, .slice none 0 0] ((ln + 2) * 14)) 48)
  clear hin
  go_enter Tryz.func11, Tryz.ntmps11
  go_wp2_with fail
  have hS0 : SofF (w.alloc (.cells (madeCells #[.string ⟨#[]⟩, .int .u8 0, .bool false, .int .u8 0, .bool false, .bool false, .string ⟨#[]⟩, .bool false, .string ⟨#[]⟩, .int .i64 0, .int .i64 0, .bool false, .bool false, .slice none 0 0] ((ln + 2) * 14)) 48)) w.heap.size 0 (madeCells #[.string ⟨#[]⟩, .int .u8 0, .bool false, .int .u8 0, .bool false, .bool false, .string ⟨#[]⟩, .bool false, .string ⟨#[]⟩, .int .i64 0, .int .i64 0, .bool false, .bool false, .slice none 0 0] ((ln + 2) * 14)) l (ln + 2) (fun _ => 0) := ⟨hB0, made_size _ _, fun i _ h => by omega, fun i _ h => by omega⟩
  clear hB0 hs0
  go_loopw [4] (fun iv wr => ∃ (j : Nat) (cs : Array Value) (G : Nat → Nat), j ≤ ln ∧ iv = .int .i64 (j : Int) ∧ SofF wr w.heap.size j cs l (ln + 2) G ∧ Below w.heap.size w wr) (fun iv _ => ln - (intOf iv).toNat)
  case atStart => exact ⟨0, _, _, Nat.zero_le _, rfl, hS0, hb0⟩
  case round =>
    clear hS0 hb0 hmk
    obtain ⟨j, cs, G, hj, rfl, hS, hb⟩ := hrel
    have hsz := hb.size
    have hlt3 := hS.blk.lt
    by_cases hlt : j < ln
    · have tl : decide ((j : Int) < (ln : Int)) = true := decide_eq_true (by omega)
      have tl2 : decide (j < ln) = true := decide_eq_true hlt
      have hji : (j : Int) < (ln : Int) := by omega
      have hjl : j < l.length := by rw [HLN.out]; exact hlt
      obtain ⟨bb, off, aj, cj, ha, _, hbb, hrow, hinj⟩ := (HIN.out wr hb).at hjl
      subst ha
      obtain ⟨x, hx⟩ : ∃ x, l[j] = x := ⟨_, rfl⟩
      have HX : Hid (l[j] = x) := hx
      rw [hx] at hrow hinj
      have HI : Hid (FIn wr 0 n₀ x.fields aj) := hinj
      have HR : Hid (RowF wr bb (off + j * 14) x.own aj x.fields.length cj) := hrow
      obtain ⟨r0, r1, r2, r3, r4, r5, r6, r7, r8, r9, r10, r11, r12, r13⟩ := hrow
      have hcs := hS.size
      have hB := hS.blk
      obtain ⟨v0, u0⟩ : ∃ v, wr.cell? ⟨w.heap.size, j * 14, none⟩ = some v := ⟨_, (hB.cell _).trans (Array.getElem?_eq_getElem (by omega))⟩
      have f0 : wr.frozen? ⟨w.heap.size, j * 14, none⟩ = false := hB.frozen (j * 14)
      obtain ⟨v1, u1⟩ : ∃ v, wr.cell? ⟨w.heap.size, j * 14 + 1, none⟩ = some v := ⟨_, (hB.cell _).trans (Array.getElem?_eq_getElem (by omega))⟩
      have f1 : wr.frozen? ⟨w.heap.size, j * 14 + 1, none⟩ = false := hB.frozen (j * 14 + 1)
      obtain ⟨v2, u2⟩ : ∃ v, wr.cell? ⟨w.heap.size, j * 14 + 2, none⟩ = some v := ⟨_, (hB.cell _).trans (Array.getElem?_eq_getElem (by omega))⟩
      have f2 : wr.frozen? ⟨w.heap.size, j * 14 + 2, none⟩ = false := hB.frozen (j * 14 + 2)
      obtain ⟨v3, u3⟩ : ∃ v, wr.cell? ⟨w.heap.size, j * 14 + 3, none⟩ = some v := ⟨_, (hB.cell _).trans (Array.getElem?_eq_getElem (by omega))⟩
      have f3 : wr.frozen? ⟨w.heap.size, j * 14 + 3, none⟩ = false := hB.frozen (j * 14 + 3)
      obtain ⟨v4, u4⟩ : ∃ v, wr.cell? ⟨w.heap.size, j * 14 + 4, none⟩ = some v := ⟨_, (hB.cell _).trans (Array.getElem?_eq_getElem (by omega))⟩
      have f4 : wr.frozen? ⟨w.heap.size, j * 14 + 4, none⟩ = false := hB.frozen (j * 14 + 4)
      obtain ⟨v5, u5⟩ : ∃ v, wr.cell? ⟨w.heap.size, j * 14 + 5, none⟩ = some v := ⟨_, (hB.cell _).trans (Array.getElem?_eq_getElem (by omega))⟩
      have f5 : wr.frozen? ⟨w.heap.size, j * 14 + 5, none⟩ = false := hB.frozen (j * 14 + 5)
      obtain ⟨v6, u6⟩ : ∃ v, wr.cell? ⟨w.heap.size, j * 14 + 6, none⟩ = some v := ⟨_, (hB.cell _).trans (Array.getElem?_eq_getElem (by omega))⟩
      have f6 : wr.frozen? ⟨w.heap.size, j * 14 + 6, none⟩ = false := hB.frozen (j * 14 + 6)
      obtain ⟨v7, u7⟩ : ∃ v, wr.cell? ⟨w.heap.size, j * 14 + 7, none⟩ = some v := ⟨_, (hB.cell _).trans (Array.getElem?_eq_getElem (by omega))⟩
      have f7 : wr.frozen? ⟨w.heap.size, j * 14 + 7, none⟩ = false := hB.frozen (j * 14 + 7)
      obtain ⟨v8, u8⟩ : ∃ v, wr.cell? ⟨w.heap.size, j * 14 + 8, none⟩ = some v := ⟨_, (hB.cell _).trans (Array.getElem?_eq_getElem (by omega))⟩
      have f8 : wr.frozen? ⟨w.heap.size, j * 14 + 8, none⟩ = false := hB.frozen (j * 14 + 8)
      obtain ⟨v9, u9⟩ : ∃ v, wr.cell? ⟨w.heap.size, j * 14 + 9, none⟩ = some v := ⟨_, (hB.cell _).trans (Array.getElem?_eq_getElem (by omega))⟩
      have f9 : wr.frozen? ⟨w.heap.size, j * 14 + 9, none⟩ = false := hB.frozen (j * 14 + 9)
      obtain ⟨v10, u10⟩ : ∃ v, wr.cell? ⟨w.heap.size, j * 14 + 10, none⟩ = some v := ⟨_, (hB.cell _).trans (Array.getElem?_eq_getElem (by omega))⟩
      have f10 : wr.frozen? ⟨w.heap.size, j * 14 + 10, none⟩ = false := hB.frozen (j * 14 + 10)
      obtain ⟨v11, u11⟩ : ∃ v, wr.cell? ⟨w.heap.size, j * 14 + 11, none⟩ = some v := ⟨_, (hB.cell _).trans (Array.getElem?_eq_getElem (by omega))⟩
      have f11 : wr.frozen? ⟨w.heap.size, j * 14 + 11, none⟩ = false := hB.frozen (j * 14 + 11)
      obtain ⟨v12, u12⟩ : ∃ v, wr.cell? ⟨w.heap.size, j * 14 + 12, none⟩ = some v := ⟨_, (hB.cell _).trans (Array.getElem?_eq_getElem (by omega))⟩
      have f12 : wr.frozen? ⟨w.heap.size, j * 14 + 12, none⟩ = false := hB.frozen (j * 14 + 12)
      obtain ⟨v13, u13⟩ : ∃ v, wr.cell? ⟨w.heap.size, j * 14 + 13, none⟩ = some v := ⟨_, (hB.cell _).trans (Array.getElem?_eq_getElem (by omega))⟩
      have f13 : wr.frozen? ⟨w.heap.size, j * 14 + 13, none⟩ = false := hB.frozen (j * 14 + 13)
      have HS : Hid (SofF wr w.heap.size j cs l (ln + 2) G) := hS
      have HA : Hid (LentOkF x.fields) := by have := ih l[j] (List.getElem_mem hjl); rw [hx] at this; exact this
      have hlt2 : j < ln + 2 := by omega
      clear hx hS ih hcs hB hinj
      go_upto_region 6 with fail
      obtain ⟨cs1, hS1, hx1, _⟩ := HS.out.put (Nat.le_refl _) hlt2 [.string x.own.name, .int .u8 x.own.kind, .bool x.own.down, .int .u8 x.own.nulls, .bool x.own.bnd, .bool x.own.ln, .string x.own.lm, .bool x.own.hn, .string x.own.hm, .int .i64 x.own.most, .int .i64 x.own.str, .bool x.own.shf, .bool x.own.bck, .slice aj x.fields.length cj] rfl
      have hq1 : Below w.heap.size wr (setL wr w.heap.size (j * 14) [.string x.own.name, .int .u8 x.own.kind, .bool x.own.down, .int .u8 x.own.nulls, .bool x.own.bnd, .bool x.own.ln, .string x.own.lm, .bool x.own.hn, .string x.own.hm, .int .i64 x.own.most, .int .i64 x.own.str, .bool x.own.shf, .bool x.own.bck, .slice aj x.fields.length cj]) := setL_below (Nat.le_refl _) _ _ _ (Below.refl _ _)
      have hI1 := HI.out.keep hq1 hn₀
      have r13' := (HR.out.below hq1 (by omega)).c13
      have hbw1 := hb.trans hq1
      clear u0 f0 u1 f1 u2 f2 u3 f3 u4 f4 u5 f5 u6 f6 u7 f7 u8 f8 u9 f9 u10 f10 u11 f11 u12 f12 u13 f13 r0 r1 r2 r3 r4 r5 r6 r7 r8 r9 r10 r11 r12 r13 HS HR HI
      change Code.wp _ _ _ _ (setL wr w.heap.size (j * 14) [.string x.own.name, .int .u8 x.own.kind, .bool x.own.down, .int .u8 x.own.nulls, .bool x.own.bnd, .bool x.own.ln, .string x.own.lm, .bool x.own.hn, .string x.own.hm, .int .i64 x.own.most, .int .i64 x.own.str, .bool x.own.shf, .bool x.own.bck, .slice aj x.fields.length cj])
      generalize setL wr w.heap.size (j * 14) [.string x.own.name, .int .u8 x.own.kind, .bool x.own.down, .int .u8 x.own.nulls, .bool x.own.bnd, .bool x.own.ln, .string x.own.lm, .bool x.own.hn, .string x.own.hm, .int .i64 x.own.most, .int .i64 x.own.str, .bool x.own.shf, .bool x.own.bck, .slice aj x.fields.length cj] = W1 at *
      have hs1 := hS1.blk.lt
      have hcall := HA.out aj cj n₀ W1 (by omega) hI1
      have HF : Hid (∀ w4, Below W1.heap.size W1 w4 → (∃ y, w4.cell? ⟨w.heap.size, j * 14 + 13, none⟩ = some y) ∧ w4.frozen? ⟨w.heap.size, j * 14 + 13, none⟩ = false) := by
        intro w4 hb4
        have hB4 := hS1.blk.old hb4
        have := hS1.size
        exact ⟨⟨_, (hB4.cell _).trans (Array.getElem?_eq_getElem (by omega))⟩, hB4.frozen _⟩
      have HS1 : Hid (SofF W1 w.heap.size j cs1 l (ln + 2) G) := hS1
      have HX1 : Hid (∀ i, i < 14 → cs1[j * 14 + i]? = (cellsF x.own aj x.fields.length cj).toList[i]?) := hx1
      clear hS1 hx1 hI1 HA
      go_wp2_with (go_at_call 11; refine hcall.mono ?_; rintro _ w4 ⟨g, rfl, hlif, hb4⟩; obtain ⟨⟨y13, p13⟩, f13⟩ := HF.out w4 hb4)
      have hx := HX.out
      obtain ⟨cs2, hst⟩ := (HS1.out.old hb4).step (g := g) hjl hlt2 (by rw [hx]; exact HX1.out) (by rw [hx]; exact hlif.mono (Nat.le_refl _) (by omega))
      rw [hx] at hst
      exact ⟨⟨j + 1, cs2, _, hlt, by simp, hst, (hbw1.trans (hb4.mono (by omega))).setCell (p := ⟨w.heap.size, j * 14 + 13, none⟩) (Nat.le_refl _) _⟩, by simp only [intOf]; omega⟩
    · have tl : decide ((j : Int) < (ln : Int)) = false := decide_eq_false (by omega)
      have tl2 : decide (j < ln) = false := decide_eq_false hlt
      have hjn : j = ln := by omega
      subst hjn
      have HS : Hid (SofF wr w.heap.size j cs l (j + 2) G) := hS
      clear hS ih HIN hlt
      go_wp2_with fail
      go_loopw [6] (fun iv wr => ∃ (i : Nat) (cs : Array Value), j ≤ i ∧ i ≤ j + 2 ∧ iv = .int .i64 (i : Int) ∧ Hid (SofF wr w.heap.size j cs l (j + 2) G) ∧ Hid (∀ t, j ≤ t → t < i → wr.cell? ⟨w.heap.size, t * 14, none⟩ = some (.string markB) ∧ wr.cell? ⟨w.heap.size, t * 14 + 1, none⟩ = some (.int .u8 99)) ∧ Below w.heap.size w wr) (fun iv _ => j + 2 - (intOf iv).toNat)
      case atStart => exact ⟨j, cs, Nat.le_refl _, by omega, rfl, HS, fun t h1 h2 => by omega, hb⟩
      case round =>
        clear HS hb hsz hlt3
        obtain ⟨i, cs2, hi1, hi2, rfl, HS, HMK, hb⟩ := hrel
        by_cases hlt : i < j + 2
        · have tl3 : decide ((i : Int) < (j : Int) + 2) = true := decide_eq_true (by omega)
          have tl4 : decide ((i : Int) < ((j + 2 : Nat) : Int)) = true := decide_eq_true (by omega)
          have tl5 : decide (i < j + 2) = true := decide_eq_true hlt
          have hji : (i : Int) < (j : Int) + 2 := by omega
          have hcs := HS.out.size
          have hB := HS.out.blk
          obtain ⟨v0, u0⟩ : ∃ v, wr.cell? ⟨w.heap.size, i * 14, none⟩ = some v := ⟨_, (hB.cell _).trans (Array.getElem?_eq_getElem (by omega))⟩
          have f0 : wr.frozen? ⟨w.heap.size, i * 14, none⟩ = false := hB.frozen (i * 14)
          obtain ⟨v1, u1⟩ : ∃ v, wr.cell? ⟨w.heap.size, i * 14 + 1, none⟩ = some v := ⟨_, (hB.cell _).trans (Array.getElem?_eq_getElem (by omega))⟩
          have f1 : wr.frozen? ⟨w.heap.size, i * 14 + 1, none⟩ = false := hB.frozen (i * 14 + 1)
          obtain ⟨v2, u2⟩ : ∃ v, wr.cell? ⟨w.heap.size, i * 14 + 2, none⟩ = some v := ⟨_, (hB.cell _).trans (Array.getElem?_eq_getElem (by omega))⟩
          have f2 : wr.frozen? ⟨w.heap.size, i * 14 + 2, none⟩ = false := hB.frozen (i * 14 + 2)
          obtain ⟨v3, u3⟩ : ∃ v, wr.cell? ⟨w.heap.size, i * 14 + 3, none⟩ = some v := ⟨_, (hB.cell _).trans (Array.getElem?_eq_getElem (by omega))⟩
          have f3 : wr.frozen? ⟨w.heap.size, i * 14 + 3, none⟩ = false := hB.frozen (i * 14 + 3)
          obtain ⟨v4, u4⟩ : ∃ v, wr.cell? ⟨w.heap.size, i * 14 + 4, none⟩ = some v := ⟨_, (hB.cell _).trans (Array.getElem?_eq_getElem (by omega))⟩
          have f4 : wr.frozen? ⟨w.heap.size, i * 14 + 4, none⟩ = false := hB.frozen (i * 14 + 4)
          obtain ⟨v5, u5⟩ : ∃ v, wr.cell? ⟨w.heap.size, i * 14 + 5, none⟩ = some v := ⟨_, (hB.cell _).trans (Array.getElem?_eq_getElem (by omega))⟩
          have f5 : wr.frozen? ⟨w.heap.size, i * 14 + 5, none⟩ = false := hB.frozen (i * 14 + 5)
          obtain ⟨v6, u6⟩ : ∃ v, wr.cell? ⟨w.heap.size, i * 14 + 6, none⟩ = some v := ⟨_, (hB.cell _).trans (Array.getElem?_eq_getElem (by omega))⟩
          have f6 : wr.frozen? ⟨w.heap.size, i * 14 + 6, none⟩ = false := hB.frozen (i * 14 + 6)
          obtain ⟨v7, u7⟩ : ∃ v, wr.cell? ⟨w.heap.size, i * 14 + 7, none⟩ = some v := ⟨_, (hB.cell _).trans (Array.getElem?_eq_getElem (by omega))⟩
          have f7 : wr.frozen? ⟨w.heap.size, i * 14 + 7, none⟩ = false := hB.frozen (i * 14 + 7)
          obtain ⟨v8, u8⟩ : ∃ v, wr.cell? ⟨w.heap.size, i * 14 + 8, none⟩ = some v := ⟨_, (hB.cell _).trans (Array.getElem?_eq_getElem (by omega))⟩
          have f8 : wr.frozen? ⟨w.heap.size, i * 14 + 8, none⟩ = false := hB.frozen (i * 14 + 8)
          obtain ⟨v9, u9⟩ : ∃ v, wr.cell? ⟨w.heap.size, i * 14 + 9, none⟩ = some v := ⟨_, (hB.cell _).trans (Array.getElem?_eq_getElem (by omega))⟩
          have f9 : wr.frozen? ⟨w.heap.size, i * 14 + 9, none⟩ = false := hB.frozen (i * 14 + 9)
          obtain ⟨v10, u10⟩ : ∃ v, wr.cell? ⟨w.heap.size, i * 14 + 10, none⟩ = some v := ⟨_, (hB.cell _).trans (Array.getElem?_eq_getElem (by omega))⟩
          have f10 : wr.frozen? ⟨w.heap.size, i * 14 + 10, none⟩ = false := hB.frozen (i * 14 + 10)
          obtain ⟨v11, u11⟩ : ∃ v, wr.cell? ⟨w.heap.size, i * 14 + 11, none⟩ = some v := ⟨_, (hB.cell _).trans (Array.getElem?_eq_getElem (by omega))⟩
          have f11 : wr.frozen? ⟨w.heap.size, i * 14 + 11, none⟩ = false := hB.frozen (i * 14 + 11)
          obtain ⟨v12, u12⟩ : ∃ v, wr.cell? ⟨w.heap.size, i * 14 + 12, none⟩ = some v := ⟨_, (hB.cell _).trans (Array.getElem?_eq_getElem (by omega))⟩
          have f12 : wr.frozen? ⟨w.heap.size, i * 14 + 12, none⟩ = false := hB.frozen (i * 14 + 12)
          obtain ⟨v13, u13⟩ : ∃ v, wr.cell? ⟨w.heap.size, i * 14 + 13, none⟩ = some v := ⟨_, (hB.cell _).trans (Array.getElem?_eq_getElem (by omega))⟩
          have f13 : wr.frozen? ⟨w.heap.size, i * 14 + 13, none⟩ = false := hB.frozen (i * 14 + 13)
          clear hB hcs
          go_wp2_with fail
          obtain ⟨cs3, h1, h2, h3⟩ := HS.out.put hi1 hlt [.string markB, .int .u8 99, .bool false, .int .u8 0, .bool false, .bool false, .string ⟨#[]⟩, .bool false, .string ⟨#[]⟩, .int .i64 0, .int .i64 0, .bool false, .bool false, .slice none 0 0] rfl
          refine ⟨⟨i + 1, cs3, by omega, by omega, by simp, h1, ?_, setL_below (Nat.le_refl _) [.string markB, .int .u8 99, .bool false, .int .u8 0, .bool false, .bool false, .string ⟨#[]⟩, .bool false, .string ⟨#[]⟩, .int .i64 0, .int .i64 0, .bool false, .bool false, .slice none 0 0] wr (i * 14) hb⟩, by simp only [intOf]; omega⟩
          intro t q1 q2
          by_cases e : t = i
          · subst e
            exact ⟨(h1.blk.cell _).trans (h2 0 (by omega)), (h1.blk.cell _).trans (h2 1 (by omega))⟩
          · have hm := HMK.out t q1 (by omega)
            exact ⟨(h1.blk.cell _).trans ((h3 _ (by omega)).trans ((HS.out.blk.cell _).symm.trans hm.1)), (h1.blk.cell _).trans ((h3 _ (by omega)).trans ((HS.out.blk.cell _).symm.trans hm.2))⟩
        · have tl3 : decide ((i : Int) < (j : Int) + 2) = false := decide_eq_false (by omega)
          have tl4 : decide ((i : Int) < ((j + 2 : Nat) : Int)) = false := decide_eq_false (by omega)
          have tl5 : decide (i < j + 2) = false := decide_eq_false hlt
          have hin2 : i = j + 2 := by omega
          have HI2 : Hid (i = j + 2) := hin2
          clear hin2
          go_wp2_with fail
          have hl2 := HLN.out
          have hi2 := HI2.out
          refine bodyPost_ret (v := .slice (some ⟨w.heap.size, 0, none⟩) j (j + 2)) (res14_run rfl) rfl ?_
          exact ⟨w.heap.size, rfl, .row G (Nat.le_refl _) HS.out.blk.lt ⟨_, HS.out.blk, by rw [HS.out.size]; omega⟩ (fun t q1 q2 => HMK.out t (by omega) (by omega)) (fun t ht => HS.out.row t ht (by omega)) (fun t ht => (HS.out.win t ht (by omega)).mono (Nat.le_refl _) (by omega)), hb⟩
/-- What LentFields does with every list of fields that a machine bears. -/
theorem lentF_any : ∀ (f : Fld), FitsF 67108864 f → LentOkF f.fields := by
  intro f
  induction f using Fld.ind with
  | h o l ih => exact fun h => lentF_step l h.len fun x hx => ih x hx (h.mem hx)
theorem lentF_list {l : List Fld} (hl : l.length ≤ 67108864) (h : ∀ x ∈ l, FitsF 67108864 x) : LentOkF l := lentF_step l hl fun x hx => lentF_any x (h x hx)
end Go.Proofs.YtcbjnifoojjipaaGreatDoor
