/- The walk of UtfExact (a contract; nothing is claimed here). -/
import Derived.Test.YtjlgmoakdaeinaaDoorToldA
import Derived.Test.YtjlgmoakdaeinaaDoorOwnedB
import Derived.Test.YtjlgmoakdaeinaaDoorRefC
import Derived.Test.YtjlgmoakdaeinaaDoorLent
import Derived.Test.YtjlgmoakdaeinaaDoorAwake
import Derived.Test.YtjlgmoakdaeinaaDoorSpl
import Derived.BigQuiet
import Derived.Deep.QuietTactic
namespace Go.Proofs.YtjlgmoakdaeinaaDoor
open Go.RowKit Go.Vf

def addI (n k : Int) : Int := if 2147483647 < n ∨ 2147483647 < k then 2147483648 else n + k

set_option maxHeartbeats 400000 in
theorem add_same (n k : Int) (h0 : 0 ≤ n) (h1 : 0 ≤ k) (w : World) : Calls Tryd.prog 9 #[.int .i64 n, .int .i64 k] w fun e w' => e = .returned (.int .i64 (addI n k)) ∧ w' = w := by
  unfold addI
  by_cases h2 : (2147483647 : Int) < n
  · rw [if_pos (.inl h2)]
    go_enter Tryd.func9, Tryd.ntmps9
    go_wp2
    go_ret
    exact ⟨rfl, rfl⟩
  · by_cases h3 : (2147483647 : Int) < k
    · rw [if_pos (.inr h3)]
      go_enter Tryd.func9, Tryd.ntmps9
      go_wp2
      go_ret
      exact ⟨rfl, rfl⟩
    · rw [if_neg (by omega)]
      go_enter Tryd.func9, Tryd.ntmps9
      go_wp2
      go_ret
      exact ⟨rfl, rfl⟩

def ptsZ (ps : List Nat) (rest : List UInt8) : List Int := if rest = [] then ps.map fun p : Nat => (p : Int) else []
def ptsE (rest : List UInt8) : Int := if rest = [] then 0 else 30
def ptsN (ps : List Nat) (rest : List UInt8) : Int := if rest = [] then 0 else ((encs ps).length : Int)

theorem pts_form {ps : List Nat} {rest : List UInt8} {w w' : World} {e : Ending} (h : PtsPost ps rest w e w') : ∃ a c, e = .returned (.tuple #[.slice a (ptsZ ps rest).length c, .int .i64 (ptsE rest), .int .i64 (ptsN ps rest)]) ∧ IOwn w' w.heap.size (.slice a (ptsZ ps rest).length c) (ptsZ ps rest) := by
  rcases h with ⟨hr, v, rfl, hv⟩ | ⟨hr, rfl⟩
  · unfold ptsZ ptsE ptsN
    rw [if_pos hr, if_pos hr, if_pos hr]
    obtain ⟨a, c, rfl⟩ := hv.ints.val
    exact ⟨a, c, rfl, hv⟩
  · unfold ptsZ ptsE ptsN
    rw [if_neg hr, if_neg hr, if_neg hr]
    exact ⟨none, 0, rfl, IOwn.nil _ _⟩

def txtS (ps : List Nat) (tl : List Int) : ByteArray := if tl = [] then bs (encs ps) else ⟨#[]⟩
def txtE (tl : List Int) : Int := if tl = [] then 0 else 30
def txtN (ps : List Nat) (tl : List Int) : Int := if tl = [] then 0 else (ps.length : Int)

theorem txt_form {ps : List Nat} {tl : List Int} {e : Ending} (h : TxtPost ps tl e) : e = .returned (.tuple #[.string (txtS ps tl), .int .i64 (txtE tl), .int .i64 (txtN ps tl)]) := by
  rcases h with ⟨hr, rfl⟩ | ⟨hr, rfl⟩
  · unfold txtS txtE txtN; rw [if_pos hr, if_pos hr, if_pos hr]
  · unfold txtS txtE txtN; rw [if_neg hr, if_neg hr, if_neg hr]

/-- A script that came in. -/
def Ops (w : World) (p : Option Addr) (len : Nat) (K : Nat → Int) (S : Nat → ByteArray) (Va : Nat → Option Addr) (Vc : Nat → Nat) (Z : Nat → List Int) : Prop :=
  0 < len → ∃ b off, p = some ⟨b, off, none⟩ ∧ b < w.heap.size ∧ ∀ i, i < len →
    w.cell? ⟨b, off + i * 3, none⟩ = some (.int .i64 (K i)) ∧ w.cell? ⟨b, off + i * 3 + 1, none⟩ = some (.string (S i)) ∧ w.cell? ⟨b, off + i * 3 + 2, none⟩ = some (.slice (Va i) (Z i).length (Vc i)) ∧
    Ints w.heap.size w (.slice (Va i) (Z i).length (Vc i)) (Z i) ∧ (S i).size ≤ maxLen ∧ (Z i).length ≤ maxLen

theorem below_drewN' {B : Nat} {a w : World} (h : Below B a w) : ∀ n, Below B a (w.drewN n) := fun _ => ⟨h.os, h.tape, h.output, h.size, h.block⟩

set_option maxHeartbeats 2000000 in
set_option maxRecDepth 20000 in
theorem exact_walk (p : Option Addr) (len cap : Nat) (K : Nat → Int) (S : Nat → ByteArray) (Va : Nat → Option Addr) (Vc : Nat → Nat) (Z : Nat → List Int) (w : World) (ht : Tabs w) (hlen : len ≤ maxLen) (hops : Ops w p len K S Va Vc Z) :
    Calls Tryd.prog 4 #[.slice p len cap] w fun e w' => e = .returned (.bool true) ∧ Below w.heap.size w w' := by
  unfold maxLen at hlen
  have HO : Hid (Ops w p len K S Va Vc Z) := hops
  clear hops
  go_enter Tryd.func4, Tryd.ntmps4
  go_wp2
  go_loopw [3, 4] (fun n i wr => ∃ (k : Nat) (m : Int), k ≤ len ∧ i = .int .i64 k ∧ n = .int .i64 m ∧ 0 ≤ m ∧ m ≤ 9223372036854775807 ∧ Below w.heap.size w wr ∧ Hid (m ≤ 2147483647 → len ≤ 2147483647 ∧ ∀ j, j < k → (S j).size ≤ 4294967296 ∧ (Z j).length ≤ 4294967296)) (fun _ i _ => len - (intOf i).toNat)
  case atStart => exact ⟨0, len, Nat.zero_le _, rfl, rfl, by omega, by omega, Below.refl _ _, fun h => ⟨by omega, fun j hj => absurd hj (Nat.not_lt_zero _)⟩⟩
  case round =>
    obtain ⟨k, m, hk, rfl, rfl, hm0, hm1, hbel, HS⟩ := hrel
    by_cases hlt : k < len
    · by_cases hm : m ≤ 2147483647
      · obtain ⟨b, off, rfl, hb, hcs⟩ := HO.out (by omega)
        obtain ⟨c0, c1, c2, _, sA, sB⟩ := hcs k hlt
        unfold maxLen at sA sB
        have c1' : wr.cell? ⟨b, off + k * 3 + 1, none⟩ = some (.string (S k)) := (hbel.cell (p := ⟨b, off + k * 3 + 1, none⟩) hb).trans c1
        have c2' : wr.cell? ⟨b, off + k * 3 + 2, none⟩ = some (.slice (Va k) (Z k).length (Vc k)) := (hbel.cell (p := ⟨b, off + k * 3 + 2, none⟩) hb).trans c2
        clear hcs c0 c1 c2
        have hkl : (k : Int) < (len : Int) := by omega
        obtain ⟨q, hq⟩ : ∃ q, addI (S k).size (Z k).length = q := ⟨_, rfl⟩
        have hq0 : 0 ≤ addI (S k).size (Z k).length := by unfold addI; split <;> omega
        obtain ⟨r0, r1, HR⟩ : 0 ≤ addI m (addI (S k).size (Z k).length) ∧ addI m (addI (S k).size (Z k).length) ≤ 9223372036854775807 ∧ Hid (addI m (addI (S k).size (Z k).length) ≤ 2147483647 → (S k).size ≤ 4294967296 ∧ (Z k).length ≤ 4294967296) := by
          rw [hq] at hq0 ⊢
          refine ⟨by unfold addI; split <;> omega, by unfold addI; split <;> omega, fun h => ?_⟩
          have h1 : q ≤ 2147483647 := by unfold addI at h; split at h <;> omega
          rw [← hq] at h1
          unfold addI at h1
          split at h1 <;> omega
        clear hq
        go_wp2
        go_quiet ((go_at_call 9; exact Calls.quiet_of_same (add_same _ _ (by omega) (by omega) _)))
        go_wp2
        go_roundw
        case rel => exact ⟨k + 1, _, by omega, by go_num, rfl, r0, r1, below_drewN' hbel _, fun h => ⟨(HS.out (by assumption)).1, fun j hj => by
          by_cases e : j = k
          · subst e; exact HR h
          · exact (HS.out (by assumption)).2 j (by omega)⟩⟩
        case measure => simp [intOf]; omega
      · have hm' : (2147483647 : Int) < m := by omega
        clear HS
        go_wp2
        go_ret
        exact ⟨rfl, hbel⟩
    · have hk' : k = len := by omega
      subst hk'
      by_cases hm : (2147483647 : Int) < m
      · clear HS
        go_wp2
        go_ret
        exact ⟨rfl, hbel⟩
      · have HZ : Hid (∀ j, j < k → (S j).size ≤ 4294967296 ∧ (Z j).length ≤ 4294967296) := (HS.out (by omega)).2
        have hk31 : k ≤ 2147483647 := (HS.out (by omega)).1
        clear HS
        obtain ⟨base, hbase⟩ : ∃ base, base = w.heap.size := ⟨_, rfl⟩
        rw [← hbase] at hbel ⊢
        have HB : Hid (base = w.heap.size) := hbase
        have h2b : 2 ≤ base := by rw [hbase]; exact ht.size
        clear hbase
        go_wp2
        obtain ⟨wo, hwo⟩ : ∃ wo : World, wo = wr := ⟨_, rfl⟩
        go_loopw [5, 6, 7] (fun T U s7 wr => ∃ (j : Nat) (vs us : List Value) (C : Nat → List Int), j ≤ k ∧ s7 = .int .i64 j ∧ Told wr base T U vs us C ∧ vs.length ≤ j ∧ (∀ q, (C q).length ≤ 4294967296) ∧ Below base w wr) (fun _ _ s7 _ => k - (intOf s7).toNat)
        case atStart => exact ⟨0, [], [], fun _ => [], Nat.zero_le _, rfl, Told.nil _ _ _, Nat.zero_le _, fun _ => by simp, hbel⟩
        case round =>
          clear hbel hwo
          obtain ⟨j, vs, us, C, hj, rfl, hTo, hvl, hCl, hbel⟩ := hrel
          have htr : Tabs wr := ht.below h2b hbel
          by_cases hlt2 : j < k
          · obtain ⟨b, off, rfl, hb, hcs⟩ := HO.out (by omega)
            obtain ⟨c0, c1, c2, hI0, _, _⟩ := hcs j hlt2
            obtain ⟨zA, zB⟩ := HZ.out j hlt2
            rw [← HB.out] at hb hI0
            have c0' := (hbel.cell (p := ⟨b, off + j * 3, none⟩) hb).trans c0
            have c1' := (hbel.cell (p := ⟨b, off + j * 3 + 1, none⟩) hb).trans c1
            have c2' := (hbel.cell (p := ⟨b, off + j * 3 + 2, none⟩) hb).trans c2
            have hI1 : Ints base wr _ (Z j) := hI0.below hbel (Nat.le_refl _)
            clear hcs c0 c1 c2 hI0
            have hjl : (j : Int) < (k : Int) := by omega
            generalize K j = kk at c0' ⊢
            generalize S j = s at c1' zA ⊢
            generalize Va j = va at c2' hI1 ⊢
            generalize Vc j = vc at c2' hI1 ⊢
            generalize Z j = zs at c2' hI1 zB ⊢
            obtain ⟨L, hL⟩ : ∃ L, L = zs.length := ⟨_, rfl⟩
            have HL : Hid (L = zs.length) := hL
            rw [← hL] at c2' hI1 zB
            obtain ⟨ps, rest, hs, hps, hrest⟩ := split_bytes s.data.toList
            obtain ⟨qs, tl, hz, hqs, htl⟩ := split_ints zs
            have HSS : Hid (s.data.toList = encs ps ++ rest) := hs
            have HZZ : Hid (zs = (qs.map fun p : Nat => (p : Int)) ++ tl) := hz
            clear hs hz hL
            have hbl1 : Blk (wr.alloc (.cells #[.int .i64 kk, .string s, .slice va L vc] 27)) wr.heap.size 27 #[.int .i64 kk, .string s, .slice va L vc] := Blk.new wr 27 _
            have hb1 := (Below.refl wr.heap.size wr).alloc (Nat.le_refl _) (.cells #[.int .i64 kk, .string s, .slice va L vc] 27)
            have hszb : base ≤ wr.heap.size := by have := hbel.size; rw [← HB.out] at this; exact this
            rcases (show kk = 1 ∨ kk = 2 ∨ kk = 3 ∨ (kk ≠ 1 ∧ kk ≠ 2 ∧ kk ≠ 3) by omega) with hk1 | hk2 | hk3 | ⟨hn1, hn2, hn3⟩
            · subst hk1
              go_wp2_with fail
              generalize wr.alloc (.cells #[.int .i64 1, .string s, .slice va L vc] 27) = W1 at hbl1 hb1 ⊢
              have hT1 := hTo.after hb1
              have hbW1 : Below base w W1 := hbel.trans (hb1.mono hszb)
              have htW1 : Tabs W1 := ht.below h2b hbW1
              have hszb1 : base ≤ W1.heap.size := Nat.le_trans hszb hb1.size
              have s0 : W1.drew.cell? ⟨wr.heap.size, 1, none⟩ = some (.string s) ∧ Below W1.heap.size W1 W1.drew := ⟨hbl1.cell 1, (Below.refl _ _).drew⟩
              have kS : ∀ w1 w2 : World, (w1.cell? ⟨wr.heap.size, 1, none⟩ = some (.string s) ∧ Below W1.heap.size W1 w1) → Below w1.heap.size w1 w2 → (w2.cell? ⟨wr.heap.size, 1, none⟩ = some (.string s) ∧ Below W1.heap.size W1 w2) := fun w1 w2 h1 h2 =>
                ⟨(h2.cell (p := ⟨wr.heap.size, 1, none⟩) (Nat.lt_of_lt_of_le hbl1.lt h1.2.size)).trans h1.1, below_two h1.2 h2⟩
              have tS : ∀ w1 : World, (w1.cell? ⟨wr.heap.size, 1, none⟩ = some (.string s) ∧ Below W1.heap.size W1 w1) → Tabs w1 := fun w1 h => htW1.own h.2
              have fin1 : ∀ w1 : World, (w1.cell? ⟨wr.heap.size, 1, none⟩ = some (.string s) ∧ Below W1.heap.size W1 w1) → Told w1 base u5 u6 vs us C ∧ Below base w w1 := fun w1 h => ⟨hT1.after h.2, hbW1.trans (h.2.mono hszb1)⟩
              have HK : Hid (∀ w1 w2 : World, (w1.cell? ⟨wr.heap.size, 1, none⟩ = some (.string s) ∧ Below W1.heap.size W1 w1) → Below w1.heap.size w1 w2 → (w2.cell? ⟨wr.heap.size, 1, none⟩ = some (.string s) ∧ Below W1.heap.size W1 w2)) := kS
              have HTS : Hid (∀ w1 : World, (w1.cell? ⟨wr.heap.size, 1, none⟩ = some (.string s) ∧ Below W1.heap.size W1 w1) → Tabs w1) := tS
              have HF : Hid (∀ w1 : World, (w1.cell? ⟨wr.heap.size, 1, none⟩ = some (.string s) ∧ Below W1.heap.size W1 w1) → Told w1 base u5 u6 vs us C ∧ Below base w w1) := fin1
              have d0 := hbl1.cell 1
              simp only [List.getElem?_toArray, List.getElem?_cons_zero, List.getElem?_cons_succ] at d0
              clear kS tS fin1 hT1 hTo c0' c1' c2'
              go_region_held (fun w1 => w1.cell? ⟨wr.heap.size, 1, none⟩ = some (.string s) ∧ Below W1.heap.size W1 w1) (first | exact s0 | assumption | exact HK.out _ _ (by assumption) (by assumption)) (first | (go_at_call 10; refine (check_any s zA ps rest HSS.out hps hrest _ (HTS.out _ (by assumption))).mono ?_; rintro e w2 ⟨rfl, hb2⟩) | (go_at_call 11; refine (refCheck_any s zA ps rest HSS.out hps hrest _).mono ?_; rintro e w3 ⟨rfl, rfl⟩))
              all_goals go_wp2_with fail
              all_goals go_roundw
              case rel => exact ⟨j + 1, vs, us, C, by omega, by go_num, (HF.out _ (by assumption)).1, by omega, hCl, (HF.out _ (by assumption)).2⟩
              case measure => simp [intOf]; omega
            · subst hk2
              go_wp2_with fail
              generalize wr.alloc (.cells #[.int .i64 2, .string s, .slice va L vc] 27) = W1 at hbl1 hb1 ⊢
              have hT1 := hTo.after hb1
              have hbW1 : Below base w W1 := hbel.trans (hb1.mono hszb)
              have htW1 : Tabs W1 := ht.below h2b hbW1
              have hszb1 : base ≤ W1.heap.size := Nat.le_trans hszb hb1.size
              have hcnt : (ptsZ ps rest).length ≤ 4294967296 := by
                unfold ptsZ
                split
                · have h1 := encs_length_ge ps
                  have h2 := Lib.size_eq s
                  rw [HSS.out, List.length_append] at h2
                  rw [List.length_map]
                  omega
                · simp
              have hap : ∀ q (h : q < vs.length) b, vs[q].ownBlock = some b → b < W1.heap.size := fun q h b hb => own_lt (hT1.many.each q h) hb
              clear c0' c1' c2' hTo
              refine (points_any s zA ps rest HSS.out hps hrest W1 htW1).mono ?_
              rintro e w2 ⟨hp2, hb2⟩
              obtain ⟨a2, k2, rfl, hv2⟩ := pts_form hp2
              have e2 : w2.cell? ⟨wr.heap.size, 1, none⟩ = some (.string s) := (hb2.cell (p := ⟨wr.heap.size, 1, none⟩) hbl1.lt).trans (hbl1.cell 1)
              obtain ⟨zz, hzz⟩ : ∃ zz, zz = ptsZ ps rest := ⟨_, rfl⟩
              obtain ⟨ee, hee⟩ : ∃ ee, ee = ptsE rest := ⟨_, rfl⟩
              obtain ⟨nn, hnn⟩ : ∃ nn, nn = ptsN ps rest := ⟨_, rfl⟩
              have HZQ : Hid (zz = ptsZ ps rest) := hzz
              have HEQ : Hid (ee = ptsE rest) := hee
              have HNQ : Hid (nn = ptsN ps rest) := hnn
              rw [← hzz] at hv2 hcnt ⊢
              rw [← hee, ← hnn]
              clear hp2 hzz hee hnn
              go_wp2_with fail
              refine (refPoints_any s zA ps rest HSS.out hps hrest w2).mono ?_
              rintro e w3 ⟨hp3, hb3⟩
              obtain ⟨a3, k3, rfl, hv3⟩ := pts_form hp3
              rw [← HZQ.out] at hv3 ⊢
              rw [← HEQ.out, ← HNQ.out]
              have hv2' := own_after hv2 hb3
              clear hp3 e2
              go_wp2_with fail
              refine (sameInts_any _ _ zz zz _ _ w3 (IOwn.ints hv2') hv3.ints (by omega) (by omega)).mono ?_
              rintro e w4 ⟨rfl, hb4⟩
              rw [decide_eq_true (rfl : zz = zz)]
              have hT4 := ((hT1.after hb2).after hb3).after hb4
              have hb14 : Below W1.heap.size W1 w4 := below_two (below_two hb2 hb3) hb4
              have hbW4 : Below base w w4 := hbW1.trans (hb14.mono hszb1)
              have hv24 : IOwn w4 base (.slice a2 zz.length k2) zz := ownsRow_mono (own_after hv2' hb4) hszb1
              have hu34 : IOwn w4 base (.slice a3 zz.length k3) zz := ownsRow_mono (own_after hv3 hb4) (Nat.le_trans hszb1 hb2.size)
              have hap2 : ∀ q (h : q < vs.length) b, vs[q].ownBlock = some b → (Value.slice a2 zz.length k2).ownBlock ≠ some b := fun q h b hb hb' => by
                have h1 := hap q h b hb
                have h2 := (own_ge hv2 hb').1
                omega
              have hsz4 : base ≤ w4.heap.size := Nat.le_trans hszb1 hb14.size
              have hvs40 : vs.length ≤ 1099511627776 := by omega
              have hus40 : us.length ≤ 1099511627776 := by rw [hT4.len]; omega
              have hrT := hT4.many.row
              clear hv2 hv3 hv2' hT1 hap
              have haU : ∀ b, (Value.slice a3 zz.length k3).ownBlock = some b → Value.ownBlock u5 ≠ some b := fun b hb => own_ne hu34 hrT (by decide) hb
              go_wp2_with (first | (at_builtin; refine wpList_append_list rfl _ _ rfl base _ vs rfl hrT _ _ _ 1 rfl hvs40 hsz4 ?_; intro T' W5 g1 g2 g3; have hMid := hT4.pushT hv24 hap2 g1 g2 g3; have hu5 := own_grown hu34 g2 haU; have hrU := hMid.rowU; have hsz5 := Nat.le_trans hsz4 g2.size; have hbW5 := hbW4.grown g2 hsz4 (fun b hb => (own_ge hrT hb).1); clear hrT) | (at_builtin; refine wpList_append_list rfl _ _ rfl base _ us rfl hrU _ _ _ 1 rfl hus40 hsz5 ?_; intro U' W6 g4 g5 g6))
              have hC2 : IOwn W5 base (.slice a3 zz.length k3) (putC C vs.length zz us.length) := by rw [hT4.len, putC_same]; exact hu5
              have hTo6 := hMid.pushU hC2 g4 g5 g6
              have hbW6 : Below base w W6 := hbW5.grown g5 hsz5 (fun b hb => (own_ge hrU hb).1)
              go_roundw
              case rel => exact ⟨j + 1, _, _, _, by omega, by go_num, hTo6, by simp; omega, fun q => by
                by_cases e : q = vs.length
                · rw [e, putC_same]; exact hcnt
                · rw [putC_other _ _ _ _ e]; exact hCl q, hbW6⟩
              case measure => simp [intOf]; omega
            · subst hk3
              go_wp2_with fail
              generalize wr.alloc (.cells #[.int .i64 3, .string s, .slice va L vc] 27) = W1 at hbl1 hb1 ⊢
              have hT1 := hTo.after hb1
              have hbW1 : Below base w W1 := hbel.trans (hb1.mono hszb)
              have htW1 : Tabs W1 := ht.below h2b hbW1
              have hszb1 : base ≤ W1.heap.size := Nat.le_trans hszb hb1.size
              have hI2 : Ints base W1 (.slice va L vc) zs := hI1.below hb1 hszb
              have hzl : zs.length ≤ 4294967296 := by rw [← HL.out]; exact zB
              clear c0' c1' c2' hTo hI1
              refine (lent_any (.slice va L vc) zs hzl W1 (hI2.mono hszb1)).mono ?_
              rintro e w2 ⟨g, hg, rfl, hgb, hb2⟩
              have hx2 : Ints w2.heap.size w2 (.slice (some ⟨g, 0, none⟩) zs.length (zs.length + 2)) zs := .inr ⟨g, 0, _, rfl, hgb.lt, fun q hq => by
                rw [hgb.cell, Nat.zero_add]
                simp [List.getElem?_append_left, hq]⟩
              have hbW2 : Below base w w2 := hbW1.trans (hb2.mono hszb1)
              have htW2 : Tabs w2 := ht.below h2b hbW2
              have e2 : w2.cell? ⟨wr.heap.size, 2, none⟩ = some (.slice va L vc) := (hb2.cell (p := ⟨wr.heap.size, 2, none⟩) hbl1.lt).trans (hbl1.cell 2)
              rw [← HL.out] at hx2 ⊢
              go_wp2_with fail
              refine (text_any (.slice (some ⟨g, 0, none⟩) L (L + 2)) zs hzl qs tl HZZ.out hqs htl w2 htW2 hx2).mono ?_
              rintro e w3 ⟨hp3, hb3⟩
              obtain rfl := txt_form hp3
              have e3 : w3.cell? ⟨wr.heap.size, 2, none⟩ = some (.slice va L vc) := (hb3.cell (p := ⟨wr.heap.size, 2, none⟩) (Nat.lt_of_lt_of_le hbl1.lt hb2.size)).trans e2
              have hb13 := below_two hb2 hb3
              have hI3 : Ints w3.heap.size w3 (.slice va L vc) zs := (hI2.below hb13 hszb1).mono (Nat.le_trans hszb1 hb13.size)
              clear e2 hp3
              go_wp2_with fail
              refine (refText_any (.slice va L vc) zs hzl qs tl HZZ.out hqs htl w3 hI3).mono ?_
              rintro e w4 ⟨hp4, hb4⟩
              obtain rfl := txt_form hp4
              have e4 : w4.cell? ⟨wr.heap.size, 2, none⟩ = some (.slice va L vc) := (hb4.cell (p := ⟨wr.heap.size, 2, none⟩) (Nat.lt_of_lt_of_le hbl1.lt hb13.size)).trans e3
              have hb14 := below_two hb13 hb4
              have hg4 := (hgb.below hb3 hgb.lt).below hb4 (Nat.lt_of_lt_of_le hgb.lt hb3.size)
              have hI4 : Ints w4.heap.size w4 (.slice va L vc) zs := (hI2.below hb14 hszb1).mono (Nat.le_trans hszb1 hb14.size)
              have hbk := back_any g zs hzl (.slice va L vc) _ w4 hg4 hI4
              rw [← HL.out] at hbk
              obtain ⟨tS, htS⟩ : ∃ tS, tS = txtS qs tl := ⟨_, rfl⟩
              obtain ⟨tE, htE⟩ : ∃ tE, tE = txtE tl := ⟨_, rfl⟩
              obtain ⟨tN, htN⟩ : ∃ tN, tN = txtN qs tl := ⟨_, rfl⟩
              rw [← htS, ← htE, ← htN]
              clear e3 hp4 htS htE htN hI2 hI3 hI4 hx2
              go_wp2_with fail
              refine hbk.mono ?_
              rintro e w5 ⟨rfl, hb5⟩
              have hb15 : Below W1.heap.size W1 w5 := hb14.trans (hb5.mono (Nat.le_trans (by omega) hg))
              have hT5 := hT1.after hb15
              have hbW5 : Below base w w5 := hbW1.trans (hb15.mono hszb1)
              go_wp2_with fail
              refine ⟨⟨j + 1, vs, us, C, by omega, by go_num, hT5, by omega, hCl, hbW5⟩, ?_⟩
              simp [intOf]; omega
            · have q1 : (kk == 1) = false := by simpa using hn1
              have q2 : (kk == 2) = false := by simpa using hn2
              have q3 : (kk == 3) = false := by simpa using hn3
              go_wp2_with fail
              have hTo2 := hTo.after hb1
              have hb2 : Below base w _ := hbel.trans (hb1.mono hszb)
              go_roundw
              case rel => exact ⟨j + 1, vs, us, C, by omega, by go_num, hTo2, by omega, hCl, hb2⟩
              case measure => simp [intOf]; omega
          · have hjl : ¬ (j : Int) < (k : Int) := by omega
            have hbw0 : base ≤ wr.heap.size := by have := hbel.size; rw [← HB.out] at this; exact this
            have hvn : vs.length ≤ 2147483648 := by omega
            by_cases hv0 : vs.length = 0
            · obtain ⟨ta, tc, hT0⟩ : ∃ ta tc, u5 = .slice ta 0 tc := by
                rcases hTo.many.row.form with ⟨h, _⟩ | ⟨gT, capT, h, _⟩
                · exact ⟨_, _, h⟩
                · rw [hv0] at h; exact ⟨_, _, h⟩
              subst hT0
              have how := owned_any _ vs C base wr hTo.many hvn hCl hbw0
              clear hTo hv0
              go_wp2_with fail
              go_loopw [22] (fun s22 wr1 => s22 = .int .i64 0 ∧ wr1 = wr) (fun _ _ => 0)
              case atStart => exact ⟨rfl, rfl⟩
              case round =>
                obtain ⟨rfl, rfl⟩ := hrel
                go_wp2_with fail
                refine how.mono ?_
                rintro e w2 ⟨rfl, hb2⟩
                have hbW2 := hbel.trans hb2
                go_wp2_with fail
                refine (awake_any w2 (ht.below h2b hbW2)).mono ?_
                rintro e w3 ⟨rfl, hb3⟩
                go_wp2_with fail
                go_ret
                refine ⟨rfl, ?_⟩
                rw [← HB.out]
                exact hbW2.trans (hb3.mono (Nat.le_trans hbw0 hb2.size))
            · rcases hTo.many.row.form with ⟨_, hvs⟩ | ⟨gT, capT, rfl, _, _, _⟩
              · rw [hvs] at hv0; exact absurd rfl hv0
              rcases hTo.rowU.form with ⟨_, hus⟩ | ⟨gU, capU, rfl, _, _, _⟩
              · have := hTo.len; rw [hus] at this; exact absurd this.symm hv0
              have hul := hTo.len
              rw [hul] at hTo ⊢
              obtain ⟨n, hn⟩ : ∃ n, n = vs.length := ⟨_, rfl⟩
              have HN : Hid (n = vs.length ∧ n = us.length) := ⟨hn, by rw [hn, hul]⟩
              rw [← hn] at hTo hvn hv0 ⊢
              clear hn hul hv0
              go_wp2_with fail
              go_loopw [22] (fun s22 wr1 => ∃ q : Nat, q ≤ n ∧ s22 = .int .i64 q ∧ Told wr1 base (.slice (some ⟨gT, 0, none⟩) n capT) (.slice (some ⟨gU, 0, none⟩) n capU) vs us C ∧ Below base w wr1 ∧ base ≤ wr1.heap.size) (fun s22 _ => n - (intOf s22).toNat)
              case atStart => exact ⟨0, Nat.zero_le _, rfl, hTo, hbel, hbw0⟩
              case round =>
                clear hTo hbel hbw0 htr
                obtain ⟨q, hq, rfl, hTo, hbel, hbw0⟩ := hrel
                by_cases hqn : q < n
                · have hqv : q < vs.length := by rw [← HN.out.1]; exact hqn
                  have hqu : q < us.length := by rw [← HN.out.2]; exact hqn
                  have cT : wr.cell? ⟨gT, q, none⟩ = some vs[q] := by
                    rcases hTo.many.row.form with ⟨h, _⟩ | ⟨g, c, h, _, _, hc⟩
                    · cases h
                    · simp only [Value.slice.injEq, Option.some.injEq, Addr.mk.injEq] at h
                      obtain ⟨⟨rfl, _⟩, _⟩ := h
                      exact hc q hqv
                  have cU : wr.cell? ⟨gU, q, none⟩ = some us[q] := by
                    rcases hTo.rowU.form with ⟨h, _⟩ | ⟨g, c, h, _, _, hc⟩
                    · cases h
                    · simp only [Value.slice.injEq, Option.some.injEq, Addr.mk.injEq] at h
                      obtain ⟨⟨rfl, _⟩, _⟩ := h
                      exact hc q hqu
                  have hIv := (hTo.many.each q hqv).ints
                  have hIu := (hTo.eachU q hqu).ints
                  obtain ⟨xa, xc, hxv⟩ := hIv.val
                  obtain ⟨ya, yc, hyv⟩ := hIu.val
                  rw [hxv] at cT hIv
                  rw [hyv] at cU hIu
                  have hcl := hCl q
                  obtain ⟨cq, hcq⟩ : ∃ cq, cq = C q := ⟨_, rfl⟩
                  rw [← hcq] at cT cU hIv hIu hcl
                  have bT : gT < wr.heap.size := World.block_lt_of_cell? wr _ cT
                  have bU : gU < wr.heap.size := World.block_lt_of_cell? wr _ cU
                  clear hxv hyv hcq
                  have s0 : (wr.drew.cell? ⟨gT, q, none⟩ = some (.slice xa cq.length xc) ∧ wr.drew.cell? ⟨gU, q, none⟩ = some (.slice ya cq.length yc)) ∧ Below wr.heap.size wr wr.drew := ⟨⟨cT, cU⟩, (Below.refl _ _).drew⟩
                  have HK : Hid (∀ w1 w2 : World, ((w1.cell? ⟨gT, q, none⟩ = some (.slice xa cq.length xc) ∧ w1.cell? ⟨gU, q, none⟩ = some (.slice ya cq.length yc)) ∧ Below wr.heap.size wr w1) → Below w1.heap.size w1 w2 → ((w2.cell? ⟨gT, q, none⟩ = some (.slice xa cq.length xc) ∧ w2.cell? ⟨gU, q, none⟩ = some (.slice ya cq.length yc)) ∧ Below wr.heap.size wr w2)) := fun w1 w2 h1 h2 =>
                    ⟨⟨(h2.cell (p := ⟨gT, q, none⟩) (Nat.lt_of_lt_of_le bT h1.2.size)).trans h1.1.1, (h2.cell (p := ⟨gU, q, none⟩) (Nat.lt_of_lt_of_le bU h1.2.size)).trans h1.1.2⟩, below_two h1.2 h2⟩
                  have HV : Hid (∀ w1 : World, ((w1.cell? ⟨gT, q, none⟩ = some (.slice xa cq.length xc) ∧ w1.cell? ⟨gU, q, none⟩ = some (.slice ya cq.length yc)) ∧ Below wr.heap.size wr w1) → Ints wr.heap.size w1 (.slice xa cq.length xc) cq ∧ Ints wr.heap.size w1 (.slice ya cq.length yc) cq) := fun w1 h => ⟨hIv.below h.2 (Nat.le_refl _), hIu.below h.2 (Nat.le_refl _)⟩
                  have HF : Hid (∀ w1 : World, ((w1.cell? ⟨gT, q, none⟩ = some (.slice xa cq.length xc) ∧ w1.cell? ⟨gU, q, none⟩ = some (.slice ya cq.length yc)) ∧ Below wr.heap.size wr w1) → Told w1 base (.slice (some ⟨gT, 0, none⟩) n capT) (.slice (some ⟨gU, 0, none⟩) n capU) vs us C ∧ Below base w w1 ∧ base ≤ w1.heap.size) := fun w1 h => ⟨hTo.after h.2, hbel.trans (h.2.mono hbw0), Nat.le_trans hbw0 h.2.size⟩
                  have hqI : (q : Int) < (n : Int) := by omega
                  clear hTo hIv hIu
                  go_wp2_with fail
                  go_region_held (fun w1 => (w1.cell? ⟨gT, q, none⟩ = some (.slice xa cq.length xc) ∧ w1.cell? ⟨gU, q, none⟩ = some (.slice ya cq.length yc)) ∧ Below wr.heap.size wr w1) (first | exact s0 | assumption | exact HK.out _ _ (by assumption) (by assumption)) (first | (go_at_call 14; refine (sameInts_any _ _ cq cq _ _ _ (HV.out _ (by assumption)).1 (HV.out _ (by assumption)).2 (by omega) (by omega)).mono ?_; rw [decide_eq_true (rfl : cq = cq)]; rintro e w2 ⟨rfl, hb2⟩))
                  all_goals go_wp2_with fail
                  all_goals go_roundw
                  case rel => exact ⟨q + 1, by omega, by go_num, (HF.out _ (by assumption)).1, (HF.out _ (by assumption)).2.1, (HF.out _ (by assumption)).2.2⟩
                  case measure => simp [intOf]; omega
                · have hqI : ¬ (q : Int) < (n : Int) := by omega
                  have how := owned_any _ vs C base wr hTo.many (by rw [← HN.out.1]; exact hvn) hCl hbw0
                  clear hTo
                  go_wp2_with fail
                  refine how.mono ?_
                  rintro e w2 ⟨rfl, hb2⟩
                  have hbW2 := hbel.trans hb2
                  go_wp2_with fail
                  refine (awake_any w2 (ht.below h2b hbW2)).mono ?_
                  rintro e w3 ⟨rfl, hb3⟩
                  go_wp2_with fail
                  go_ret
                  refine ⟨rfl, ?_⟩
                  rw [← HB.out]
                  exact hbW2.trans (hb3.mono (Nat.le_trans hbw0 hb2.size))

end Go.Proofs.YtjlgmoakdaeinaaDoor
