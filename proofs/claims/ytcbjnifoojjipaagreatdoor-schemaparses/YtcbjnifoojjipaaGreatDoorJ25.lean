/- Contracts and lemmas (nothing is claimed here). -/
import Derived.Test.YtcbjnifoojjipaaGreatDoorJ2
import Derived.Test.YtcbjnifoojjipaaGreatDoorJ24
import Derived.Deep.QuietTactic
import Derived.BigQuiet
import Derived.Test.YtcbjnifoojjipaaGreatDoorJ20
namespace Go.Proofs.YtcbjnifoojjipaaGreatDoor
open Go.RowKit Go.Vf
theorem cell_one (q : Int) (w : World) : ∀ j, j < [q].length → (w.alloc (.cells #[.int .i64 q] 3)).cell? ((⟨w.heap.size, 0, none⟩ : Addr).add j) = some (.int .i64 ([q][j]?.getD 0)) := fun j hj => by
  have hj0 : j = 0 := by simp at hj; omega
  subst hj0
  simp [Addr.add]
theorem IOwn.cellAt {w : World} {base : Nat} {a : Option Addr} {n c : Nat} {zs : List Int} (h : IOwn w base (.slice a n c) zs) {i : Nat} (hi : i < zs.length) : ∃ g, a = some ⟨g, 0, none⟩ ∧ g < w.heap.size ∧ w.cell? ⟨g, i, none⟩ = some (.int .i64 zs[i]) := by
  rcases h.form with ⟨_, e⟩ | ⟨g, cap, e, _, hlt, _, hc, _⟩
  · rw [e] at hi; simp at hi
  · simp only [Value.slice.injEq] at e
    obtain ⟨rfl, _, _⟩ := e
    refine ⟨g, rfl, hlt, ?_⟩
    have := hc i hi
    simpa [List.getElem?_eq_getElem hi] using this
set_option maxHeartbeats 1000000 in
set_option maxRecDepth 20000 in
theorem rInts_any {a : Option Addr} {c : Nat} {zs : List Int} {base : Nat} {w : World} (hin : IOwn w base (.slice a zs.length c) zs) (hl : zs.length ≤ 1000000000000) :
    Calls Tryz.prog 53 #[.slice a zs.length c] w fun e w' => ∃ a' c', e = .returned (.slice a' zs.length c') ∧ IOwn w' w.heap.size (.slice a' zs.length c') zs ∧ Below w.heap.size w w' := by
  generalize hk : zs.length = k at hl ⊢
  have HK : Hid (zs.length = k) := hk
  have HIN : Aside (IOwn w base (.slice a k c) zs) := by rw [hk] at hin; exact hin
  clear hin hk
  go_enter Tryz.func53, Tryz.ntmps53
  go_wp2_with fail
  go_loopw [3, 4] (fun ov iv wr => ∃ (i : Nat) (acc : List Int) (oa : Option Addr) (oc : Nat), i ≤ k ∧ iv = .int .i64 i ∧ ov = .slice oa acc.length oc ∧ Aside (IOwn wr w.heap.size (.slice oa acc.length oc) acc) ∧ Hid (acc ++ zs.drop i = zs ∧ acc.length = i) ∧ Below w.heap.size w wr) (fun _ iv _ => k - (intOf iv).toNat)
  case atStart => exact ⟨0, [], none, 0, by omega, rfl, rfl, IOwn.nil _ _, ⟨by simp, rfl⟩, Below.refl _ _⟩
  case round =>
    obtain ⟨i, acc, oa, oc, hi, rfl, rfl, HO, HA, hbr⟩ := hrel
    by_cases hlt : i < k
    · have hltp : i < zs.length := by rw [HK.out]; exact hlt
      obtain ⟨g, hao, hglt, hcell⟩ := IOwn.cellAt HIN.out hltp
      have hcj := (hbr.cell (p := ⟨g, i, none⟩) hglt).trans hcell
      have HA2 : Hid ((acc ++ [zs[i]]) ++ zs.drop (i + 1) = zs ∧ (acc ++ [zs[i]]).length = i + 1) := ⟨by
        rw [List.append_assoc, List.singleton_append, ← List.drop_eq_getElem_cons hltp]
        exact HA.out.1, by rw [List.length_append, HA.out.2]; rfl⟩
      generalize zs[i] = q at hcj HA2
      subst hao
      have hbA := (Below.refl wr.heap.size wr).alloc (Nat.le_refl _) (.cells #[.int .i64 q] 3)
      have HO2 : Aside (IOwn (wr.alloc (.cells #[.int .i64 q] 3)) w.heap.size (.slice oa acc.length oc) acc) := own_after HO.out hbA
      have hszA : w.heap.size ≤ (wr.alloc (.cells #[.int .i64 q] 3)).heap.size := Nat.le_trans hbr.size hbA.size
      have hl2 : acc.length + [q].length ≤ 1099511627776 := by have := HA.out.2; simp; omega
      have HC : Hid (∀ j, j < [q].length → (wr.alloc (.cells #[.int .i64 q] 3)).cell? ((⟨wr.heap.size, 0, none⟩ : Addr).add j) = some (.int .i64 ([q][j]?.getD 0))) := cell_one q wr
      clear hcell hltp HO HA hbA
      go_wp2_with (first | (at_builtin; refine wpList_append_ints rfl _ _ rfl w.heap.size _ acc rfl HO2.out [q] ⟨wr.heap.size, 0, none⟩ _ rfl HC.out hl2 hszA ?_; intro a4 c4 w4 hown4 hgr4 hnil4 hat4))
      have hb4 : Below w.heap.size w w4 := (hbr.alloc hbr.size _).grown hgr4 hszA (fun j hj => (own_ge HO2.out hj).1)
      have HO4 : Aside (IOwn w4 w.heap.size (.slice a4 (acc ++ [q]).length c4) (acc ++ [q])) := by
        rw [List.length_append]; exact hown4
      clear hown4 hgr4 hnil4 hat4
      go_roundw
      case rel => exact ⟨i + 1, acc ++ [q], a4, c4, by omega, by simp, by simp, HO4, HA2, hb4⟩
      case measure => simp only [intOf]; omega
    · have hfin : acc = zs := by have := HA.out.1; rwa [List.drop_of_length_le (by rw [HK.out]; omega), List.append_nil] at this
      have hk2 : acc.length = k := by rw [hfin, HK.out]
      have HO4 := HO.out
      rw [hk2] at HO4
      rw [hk2]
      clear HA hk2 HO
      go_wp2_with fail
      go_ret
      exact ⟨_, _, rfl, hfin ▸ HO4, hbr⟩
theorem Ints.val {n : Nat} {w : World} {v : Value} {zs : List Int} (h : Ints n w v zs) : ∃ x c, v = .slice x zs.length c := by
  rcases h with ⟨a, c, rfl, rfl⟩ | ⟨b, off, c, rfl, _⟩
  · exact ⟨a, c, rfl⟩
  · exact ⟨_, c, rfl⟩
theorem drop_getD (l : List Int) (k : Nat) (h : k < l.length) : l.drop k = (l[k]?.getD 0) :: l.drop (k + 1) := by
  rw [List.drop_eq_getElem_cons h, List.getElem?_eq_getElem h]; rfl
theorem drew_more {w wr : World} (h : ∃ n, wr = w.drewN n) : ∃ n, wr.drew = w.drewN n := by
  obtain ⟨n, e⟩ := h
  exact ⟨n + 1, by rw [e]; rfl⟩
set_option maxHeartbeats 4000000 in
set_option maxRecDepth 20000 in
theorem sameInts_q (va vb : Value) (za zb : List Int) (n₁ n₂ : Nat) (w : World) (ha : Ints n₁ w va za) (hb : Ints n₂ w vb zb) (hla : za.length ≤ 4611686018427387904) (_hlb : zb.length ≤ 4611686018427387904) :
    Calls Tryz.prog 23 #[va, vb] w fun e w' => e = .returned (.bool (decide (za = zb))) ∧ ∃ n, w' = w.drewN n := by
  obtain ⟨R, HR⟩ : ∃ R, Hid (R = decide (za = zb)) := ⟨_, rfl⟩
  rw [← HR.out]
  by_cases hl : za.length = zb.length
  · rcases Nat.eq_zero_or_pos za.length with h0 | h0
    · obtain ⟨x, c, rfl⟩ := ha.val
      obtain ⟨y, d, rfl⟩ := hb.val
      have hb0 : zb.length = 0 := by omega
      have hR : R = true := by rw [HR.out, List.eq_nil_of_length_eq_zero h0, List.eq_nil_of_length_eq_zero hb0]; rfl
      rw [h0, hb0]
      clear ha hb h0 hb0 hl hla
      go_enter Tryz.func23, Tryz.ntmps23
      go_wp2
      go_loopw [5] (fun i wr => i = .int .i64 0 ∧ wr = w) (fun _ _ => 0)
      case atStart => exact ⟨rfl, rfl⟩
      case round =>
        obtain ⟨rfl, rfl⟩ := hrel
        go_wp2
        go_ret
        exact ⟨by rw [hR]; rfl, ⟨0, rfl⟩⟩
    · rcases ha with ⟨_, _, _, h⟩ | ⟨b1, o1, c1, rfl, hb1, hc1⟩
      · rw [h] at h0; simp at h0
      rcases hb with ⟨_, _, _, h⟩ | ⟨b2, o2, c2, rfl, hb2, hc2⟩
      · rw [hl, h] at h0; simp at h0
      rw [← hl]
      rw [← hl] at hc2
      obtain ⟨L, hL⟩ : ∃ L, L = za.length := ⟨_, rfl⟩
      have HL : Hid (L = za.length ∧ L = zb.length) := ⟨hL, by rw [hL]; exact hl⟩
      rw [← hL] at hc1 hc2 hla h0 ⊢
      clear hl hL
      go_enter Tryz.func23, Tryz.ntmps23
      go_wp2
      go_loopw [5] (fun i wr => ∃ k : Nat, k ≤ L ∧ i = .int .i64 k ∧ Hid (R = decide (za.drop k = zb.drop k)) ∧ (∃ n, wr = w.drewN n) ∧ (∀ a, wr.cell? a = w.cell? a)) (fun i _ => L - (intOf i).toNat)
      case atStart => exact ⟨0, Nat.zero_le _, rfl, HR, ⟨0, rfl⟩, fun _ => rfl⟩
      case round =>
        obtain ⟨k, hk, rfl, HK, hbel, hsame⟩ := hrel
        by_cases hlt : k < L
        · have x1 := (hsame _).trans (hc1 k hlt)
          have x2 := (hsame _).trans (hc2 k hlt)
          have hK := HK.out
          rw [drop_getD za k (by rw [← HL.out.1]; exact hlt), drop_getD zb k (by rw [← HL.out.2]; exact hlt)] at hK
          obtain ⟨p, hp⟩ : ∃ p, p = za[k]?.getD 0 := ⟨_, rfl⟩
          obtain ⟨q, hq⟩ : ∃ q, q = zb[k]?.getD 0 := ⟨_, rfl⟩
          rw [← hp] at x1 hK
          rw [← hq] at x2 hK
          have HS : Hid (∀ a, wr.cell? a = w.cell? a) := hsame
          clear hp hq HK hc1 hc2 hsame
          by_cases hpq : p = q
          · have HK2 : Hid (R = decide (za.drop (k + 1) = zb.drop (k + 1))) := by show _ = _; rw [hK, hpq]; simp
            have t1 : (p == q) = true := by simpa using hpq
            have t2 : (p != q) = false := by simpa using hpq
            clear hK hpq
            go_wp2
            go_region
            go_wp2
            go_roundw
            case rel => exact ⟨k + 1, by omega, by go_num, HK2, drew_more hbel, HS.out⟩
            case measure => simp [intOf]; omega
          · have hR : R = false := by rw [hK]; simp [hpq]
            have t1 : (p == q) = false := by simpa using hpq
            have t2 : (p != q) = true := by simpa using hpq
            clear hK hpq
            go_wp2
            go_region
            go_wp2
            go_ret
            exact ⟨by first | (rw [hR]; rfl) | rfl, drew_more hbel⟩
        · obtain rfl : k = L := by omega
          have hR : R = true := by
            rw [HK.out, List.drop_eq_nil_of_le (by rw [← HL.out.1]; exact Nat.le_refl _), List.drop_eq_nil_of_le (by rw [← HL.out.2]; exact Nat.le_refl _)]; rfl
          clear HK
          go_wp2
          go_ret
          exact ⟨by first | (rw [hR]; rfl) | rfl, hbel⟩
  · obtain ⟨x, c, rfl⟩ := ha.val
    obtain ⟨y, d, rfl⟩ := hb.val
    have hR : R = false := by rw [HR.out]; simp; intro h; exact hl (by rw [h])
    clear ha hb
    go_enter Tryz.func23, Tryz.ntmps23
    go_wp2
    go_ret
    exact ⟨by rw [hR]; rfl, ⟨0, rfl⟩⟩
end Go.Proofs.YtcbjnifoojjipaaGreatDoor
namespace Go.Proofs.YtcbjnifoojjipaaGreatDoor
open Go.RowKit Go.Extern.Stop Go.Stop Go.Extern Go.Vf
theorem cell_keep {w w' : World} (h : Below w.heap.size w w') {a : Addr} {v : Value} (hc : w.cell? a = some v) : w'.cell? a = some v := by
  have hl : a.block < w.heap.size := by
    rcases Nat.lt_or_ge a.block w.heap.size with h | h
    · exact h
    · simp [World.cell?, Array.getElem?_eq_none h] at hc
  exact (h.cell hl).trans hc
theorem as_fault_b (e t : Addr) (old : Value) (w : World) (hg : w.cell? ⟨0, 0, none⟩ = some (.iface 148 (.agg #[hnd 34]))) (ht0 : w.cell? t = some old) (hf0 : w.frozen? t = false) :
    Calls Tryz.prog 32 #[.iface 71 (.pointer (some e)), .iface 77 (.pointer (some t))] w fun ev w' => ev = .returned (.bool true) ∧ w'.cell? t = some (.pointer (some e)) ∧ Below t.block w w' := by
  have htl : t.block < w.heap.size := by
    rcases Nat.lt_or_ge t.block w.heap.size with h | h
    · exact h
    · simp [World.cell?, Array.getElem?_eq_none h] at ht0
  refine (as_fault e t old w hg ht0 hf0).mono ?_
  rintro _ _ ⟨rfl, rfl⟩
  have hB : Below w.heap.size w (asW w t e) := by
    have b1 := (Below.refl w.heap.size w).alloc (Nat.le_refl _) (.cells #[.pointer (some t)] 77)
    have b2 := b1.alloc b1.size (.cells #[hnd 77, .pointer (some ⟨w.heap.size, 0, none⟩), .int .u64 150] 115)
    have b3 := b2.alloc b2.size (.cells #[hnd 77, .pointer (some ⟨w.heap.size, 0, none⟩), .int .u64 150] 115)
    exact b3.alloc b3.size _
  refine ⟨rfl, World.cell?_setCell_same' _ _ _ (by rw [cell_keep hB ht0]; rfl), ?_⟩
  exact (hB.mono (Nat.le_of_lt htl)).setCell (Nat.le_refl _) _
set_option maxRecDepth 20000 in
set_option maxHeartbeats 4000000 in
theorem keepIs_path (b : Nat) (c at' : Int) (v1 v2 : Value) (zs : List Int) (hz : zs.length ≤ 4611686018427387904) (w : World) (hne : c ≠ 0) (hg : w.cell? ⟨0, 0, none⟩ = some (.iface 148 (.agg #[hnd 34]))) (h0 : w.cell? ⟨b, 0, none⟩ = some (.int .i64 c)) (h1 : w.cell? ⟨b, 1, none⟩ = some (.int .i64 at')) (h2 : w.cell? ⟨b, 2, none⟩ = some v1)
    (hz1 : Ints w.heap.size w v1 zs) (hz2 : Ints w.heap.size w v2 zs) :
    Calls Tryz.prog 14 #[.iface 71 (.pointer (some ⟨b, 0, none⟩)), .agg #[.int .i64 c, .int .i64 at', v2]] w fun ev w' => ev = .returned (.bool true) ∧ Below w.heap.size w w' := by
  obtain ⟨xa, xc, rfl⟩ := hz1.val
  obtain ⟨ya, yc, rfl⟩ := hz2.val
  have d0 : decide (c = 0) = false := by simpa using hne
  have d1 : (c == 0) = false := by simpa using hne
  have bB1 := (Below.refl w.heap.size w).alloc (Nat.le_refl _) (.cells #[.int .i64 c, .int .i64 at', .slice ya zs.length yc] 31)
  have bB2 := bB1.alloc bB1.size (.cells #[.pointer none] 71)
  have s1 := alloc_size w (.cells #[.int .i64 c, .int .i64 at', .slice ya zs.length yc] 31)
  have k1 := Blk.new w 31 #[.int .i64 c, .int .i64 at', .slice ya zs.length yc]
  have bB3 := (Below.refl _ (w.alloc (.cells #[.int .i64 c, .int .i64 at', .slice ya zs.length yc] 31))).alloc (Nat.le_refl _) (.cells #[.pointer none] 71)
  have k2 := k1.old bB3
  have k3 := Blk.new (w.alloc (.cells #[.int .i64 c, .int .i64 at', .slice ya zs.length yc] 31)) 71 #[.pointer none]
  rw [s1] at k3
  have hsame : ∀ W, Below w.heap.size w W → Calls Tryz.prog 23 #[.slice xa zs.length xc, .slice ya zs.length yc] W fun e w' => e = .returned (.bool true) ∧ ∃ n, w' = W.drewN n := fun W hW => by
    have := sameInts_q _ _ zs zs w.heap.size w.heap.size W (hz1.below hW (Nat.le_refl _)) (hz2.below hW (Nat.le_refl _)) hz hz
    simpa using this
  clear bB3 k1 hz1 hz2
  generalize zs.length = zn at *
  go_enter Tryz.func14, Tryz.ntmps14
  go_wp2_with fail
  generalize (w.alloc (.cells #[.int .i64 c, .int .i64 at', .slice ya zn yc] 31)).alloc (.cells #[.pointer none] 71) = w2 at *
  have g2 := cell_keep bB2 hg
  have e0 := cell_keep bB2 h0
  have e1 := cell_keep bB2 h1
  have e2 := cell_keep bB2 h2
  refine (as_fault_b ⟨b, 0, none⟩ ⟨w.heap.size + 1, 0, none⟩ (.pointer none) w2 g2 ?_ ?_).mono ?_
  · exact k3.cell 0
  · exact k3.frozen 0
  rintro _ w3 ⟨rfl, ht, hB3⟩
  have hbl : b < w.heap.size := by
    rcases Nat.lt_or_ge b w.heap.size with h | h
    · exact h
    · simp [World.cell?, Array.getElem?_eq_none h] at h0
  have k4 := k2.below hB3 (Nat.lt_succ_self _)
  have a0 : w3.cell? ⟨b, 0, none⟩ = some (.int .i64 c) := (hB3.cell (by show b < w.heap.size + 1; omega)).trans e0
  have a1 : w3.cell? ⟨b, 1, none⟩ = some (.int .i64 at') := (hB3.cell (by show b < w.heap.size + 1; omega)).trans e1
  have a2 : w3.cell? ⟨b, 2, none⟩ = some (.slice xa zn xc) := (hB3.cell (by show b < w.heap.size + 1; omega)).trans e2
  have x0 : w3.cell? ⟨w.heap.size, 0, none⟩ = some (.int .i64 c) := k4.cell 0
  have x1 : w3.cell? ⟨w.heap.size, 1, none⟩ = some (.int .i64 at') := k4.cell 1
  have x2 : w3.cell? ⟨w.heap.size, 2, none⟩ = some (.slice ya zn yc) := k4.cell 2
  have bB4 : Below w.heap.size w w3 := bB2.trans (hB3.mono (Nat.le_succ _))
  have HS : Hid (∀ n, Calls Tryz.prog 23 #[.slice xa zn xc, .slice ya zn yc] (w3.drewN n) fun e w' => e = .returned (.bool true) ∧ ∃ m, w' = (w3.drewN n).drewN m) := fun n => hsame _ ⟨bB4.os, bB4.tape, bB4.output, bB4.size, bB4.block⟩
  clear k2 k3 k4 g2 e0 e1 e2 h0 h1 h2 hg s1 bB1 bB2 hB3 hsame
  go_wp2_with fail
  go_quiet (first | (go_at_call 23; refine Calls.quiet_of (HS.out _)) | (go_at_call 33; exact Calls.quiet_of_same (is_fault _ c _ (by simpa using a0))))
  go_wp2
  go_ret
  exact ⟨rfl, ⟨bB4.os, bB4.tape, bB4.output, bB4.size, bB4.block⟩⟩
end Go.Proofs.YtcbjnifoojjipaaGreatDoor
namespace Go.Proofs.YtcbjnifoojjipaaGreatDoor
open Go.RowKit Go.Vf
def ErrT (w : World) : Prop := w.cell? ⟨0, 0, none⟩ = some (.iface 148 (.agg #[hnd 34]))
theorem tourL_len (Q : Go.Vf.Own → Bool) : ∀ (N : Nat) (l : List Fld), SizeOf.sizeOf l ≤ N → ∀ (P : List Int) (ah : List Fld) (n : Nat) (c : Int) (p : List Int) (m : Nat), P.length ≤ 16 → tourL Q P ah n l = .bad c p m → p.length ≤ 17 := by
  intro N
  induction N with
  | zero => intro l h; cases l <;> simp at h
  | succ N ih =>
    intro l hl P ah n c p m hP h
    cases l with
    | nil => rw [tourL_nil] at h; cases h
    | cons f r =>
      obtain ⟨o, fl⟩ := f
      have hs1 : SizeOf.sizeOf fl ≤ N := by simp at hl; omega
      have hs2 : SizeOf.sizeOf r ≤ N := by simp at hl; omega
      by_cases h0 : seeF Q (P.length + 1) (n + 1) ah (.mk o fl) = 0
      · cases h1 : tourL Q (P ++ [(ah.length : Int)]) [] (n + 1) fl with
        | bad c' p' q =>
          rw [tourL_in Q P ah n (.mk o fl) r h0 h1] at h
          cases h
          exact ih fl hs1 _ _ _ _ _ _ (by rw [List.length_append]; exact (see_room h0).2) h1
        | ok q =>
          rw [tourL_on Q P ah n (.mk o fl) r h0 h1] at h
          exact ih r hs2 _ _ _ _ _ _ hP h
      · rw [tourL_bad Q P ah n (.mk o fl) r h0] at h
        cases h
        rw [List.length_append]; simp; omega
theorem chkS_len (Q : Go.Vf.Own → Bool) (limit : Int) (l : List Fld) : (chkS Q limit l).2.length ≤ 17 := by
  unfold chkS
  split
  · simp
  · split
    · simp
    · cases h : tourL Q [] [] 0 l with
      | ok m => simp
      | bad c p m => exact tourL_len Q _ l (Nat.le_refl _) _ _ _ _ _ _ (by simp) h
set_option maxHeartbeats 1000000 in
theorem keepIs_none (v2 : Value) (w : World) (a : Option Addr) (n c : Nat) (hv : v2 = .slice a n c) : Calls Tryz.prog 14 #[.nilIface, .agg #[.int .i64 0, .int .i64 0, v2]] w fun e w' => e = .returned (.bool true) ∧ Below w.heap.size w w' := by
  subst hv
  have hb1 := (Below.refl w.heap.size w).alloc (Nat.le_refl _) (.cells #[.int .i64 0, .int .i64 0, .slice a n c] 31)
  go_enter Tryz.func14, Tryz.ntmps14
  go_wp2_with fail
  go_ret
  exact ⟨rfl, hb1⟩
end Go.Proofs.YtcbjnifoojjipaaGreatDoor
