/- Contracts and lemmas (nothing is claimed here). -/
import Derived.Test.YtkjoomdglealmaaGreatDoorJ12
import Derived.Test.YtkjoomdglealmaaGreatDoorProg
import Derived.Deep.RegionHeld
import Derived.Test.YtkjoomdglealmaaGreatDoorJ6
import Derived.RangeFuncNested
import Derived.RangeFuncBound
import Derived.RangeFuncCalls
import Derived.RangeFuncLeaves
import Derived.Shelf.Abstract
import Derived.Shelf.RegionOpen
import Derived.WalkKit
import Derived.OwnWalkIn
import Derived.TacticsInMore
import Derived.LoopNIn
import Derived.LoopIn
namespace Go.Proofs.YtkjoomdglealmaaGreatDoor
open Go.RowKit Go.Vf

structure Tabs (w : World) : Prop where
  size : 3 ≤ w.heap.size
  r0 : ∀ k, k < 9 → w.cell? ⟨1, k * 7, none⟩ = some (.int .u8 ((utab k).first : Int))
  r1 : ∀ k, k < 9 → w.cell? ⟨1, k * 7 + 1, none⟩ = some (.int .u8 ((utab k).last : Int))
  r2 : ∀ k, k < 9 → w.cell? ⟨1, k * 7 + 2, none⟩ = some (.int .u8 ((utab k).low : Int))
  r3 : ∀ k, k < 9 → w.cell? ⟨1, k * 7 + 3, none⟩ = some (.int .u8 ((utab k).high : Int))
  r4 : ∀ k, k < 9 → w.cell? ⟨1, k * 7 + 4, none⟩ = some (.int .i64 ((utab k).size : Int))
  r5 : ∀ k, k < 9 → w.cell? ⟨1, k * 7 + 5, none⟩ = some (.int .i64 ((utab k).least : Int))
  r6 : ∀ k, k < 9 → w.cell? ⟨1, k * 7 + 6, none⟩ = some (.int .i64 ((utab k).most : Int))
  heads : ∀ k, k < 5 → w.cell? ⟨2, k, none⟩ = some (.int .u8 (headOf k : Int))

theorem Tabs.below {w w' : World} {B : Nat} (h : Tabs w) (hB : 3 ≤ B) (hb : Below B w w') : Tabs w' := by
  refine ⟨Nat.le_trans h.size hb.size, ?_, ?_, ?_, ?_, ?_, ?_, ?_, ?_⟩
  · exact fun k hk => (hb.cell (p := ⟨1, _, none⟩) (by show 1 < B; omega)).trans (h.r0 k hk)
  · exact fun k hk => (hb.cell (p := ⟨1, _, none⟩) (by show 1 < B; omega)).trans (h.r1 k hk)
  · exact fun k hk => (hb.cell (p := ⟨1, _, none⟩) (by show 1 < B; omega)).trans (h.r2 k hk)
  · exact fun k hk => (hb.cell (p := ⟨1, _, none⟩) (by show 1 < B; omega)).trans (h.r3 k hk)
  · exact fun k hk => (hb.cell (p := ⟨1, _, none⟩) (by show 1 < B; omega)).trans (h.r4 k hk)
  · exact fun k hk => (hb.cell (p := ⟨1, _, none⟩) (by show 1 < B; omega)).trans (h.r5 k hk)
  · exact fun k hk => (hb.cell (p := ⟨1, _, none⟩) (by show 1 < B; omega)).trans (h.r6 k hk)
  · exact fun k hk => (hb.cell (p := ⟨2, _, none⟩) (by show 2 < B; omega)).trans (h.heads k hk)

theorem Tabs.own {w w' : World} (h : Tabs w) (hb : Below w.heap.size w w') : Tabs w' := h.below h.size hb

def rowV (k : Nat) : Value := .agg #[.int .u8 ((utab k).first : Int), .int .u8 ((utab k).last : Int), .int .u8 ((utab k).low : Int), .int .u8 ((utab k).high : Int), .int .i64 ((utab k).size : Int), .int .i64 ((utab k).least : Int), .int .i64 ((utab k).most : Int)]
def noRowV : Value := .agg #[.int .u8 0, .int .u8 0, .int .u8 0, .int .u8 0, .int .i64 0, .int .i64 0, .int .i64 0]

structure Box7 (w : World) (h : Nat) (a b c d e f g : Value) : Prop where
  c0 : w.cell? ⟨h, 0, none⟩ = some a
  c1 : w.cell? ⟨h, 1, none⟩ = some b
  c2 : w.cell? ⟨h, 2, none⟩ = some c
  c3 : w.cell? ⟨h, 3, none⟩ = some d
  c4 : w.cell? ⟨h, 4, none⟩ = some e
  c5 : w.cell? ⟨h, 5, none⟩ = some f
  c6 : w.cell? ⟨h, 6, none⟩ = some g
  f0 : w.frozen? ⟨h, 0, none⟩ = false
  f1 : w.frozen? ⟨h, 1, none⟩ = false
  f2 : w.frozen? ⟨h, 2, none⟩ = false
  f3 : w.frozen? ⟨h, 3, none⟩ = false
  f4 : w.frozen? ⟨h, 4, none⟩ = false
  f5 : w.frozen? ⟨h, 5, none⟩ = false
  f6 : w.frozen? ⟨h, 6, none⟩ = false
  lt : h < w.heap.size

theorem Box7.new (w : World) (t : TypeId) (a b c d e f g : Value) : Box7 (w.alloc (.cells #[a, b, c, d, e, f, g] t)) w.heap.size a b c d e f g := by
  constructor <;> simp

def put7 (w : World) (h : Nat) (a b c d e f g : Value) : World :=
  ((((((w.setCell ⟨h, 0, none⟩ a).setCell ⟨h, 1, none⟩ b).setCell ⟨h, 2, none⟩ c).setCell ⟨h, 3, none⟩ d).setCell ⟨h, 4, none⟩ e).setCell ⟨h, 5, none⟩ f).setCell ⟨h, 6, none⟩ g

theorem Box7.put {w : World} {h : Nat} {a b c d e f g : Value} (x : Box7 w h a b c d e f g) (a' b' c' d' e' f' g' : Value) : Box7 (put7 w h a' b' c' d' e' f' g') h a' b' c' d' e' f' g' := by
  obtain ⟨c0, c1, c2, c3, c4, c5, c6, f0, f1, f2, f3, f4, f5, f6, hlt⟩ := x
  unfold put7
  constructor <;> first | (simp only [World.frozen?_setCell, f0, f1, f2, f3, f4, f5, f6]) | (simp [World.cell?_setCell_other, World.cell?_setCell_same, c0, c1, c2, c3, c4, c5, c6, hlt])

theorem below_put7 {B : Nat} {a w : World} {h : Nat} (hb : Below B a w) (hB : B ≤ h) (a' b' c' d' e' f' g' : Value) : Below B a (put7 w h a' b' c' d' e' f' g') := by
  unfold put7
  exact ((((((hb.setCell (p := ⟨h, 0, none⟩) hB _).setCell (p := ⟨h, 1, none⟩) hB _).setCell (p := ⟨h, 2, none⟩) hB _).setCell (p := ⟨h, 3, none⟩) hB _).setCell (p := ⟨h, 4, none⟩) hB _).setCell (p := ⟨h, 5, none⟩) hB _).setCell (p := ⟨h, 6, none⟩) hB _

theorem results27_run {tmps : Array Value} {w : World} {h : Nat} {a b c d e f g : Value} {x : Bool} (hx : Box7 w h a b c d e f g) (t2 : tmps[2]?.getD undef = .pointer (some ⟨h, 0, none⟩)) (t3 : tmps[3]?.getD undef = .bool x) :
    (results Tryz.f182 tmps).run Tryz.prog w = .ok (.tuple #[.agg #[a, b, c, d, e, f, g], .bool x]) w := by
  obtain ⟨c0, c1, c2, c3, c4, c5, c6, f0, f1, f2, f3, f4, f5, f6, hlt⟩ := hx
  simp [results, Tryz.results182, go_sem, t2, t3, c0, c1, c2, c3, c4, c5, c6]

set_option maxHeartbeats 1000000 in
set_option maxRecDepth 20000 in
theorem rowOfByte_any (c : UInt8) (w : World) (ht : Tabs w) :
    Calls Tryz.prog 182 #[.int .u8 (c.toNat : Int)] w fun e w' => (∃ R : Value, e = .returned (.tuple #[R, .bool (rowBU c.toNat).isSome]) ∧ (∀ k, rowBU c.toNat = some k → R = rowV k) ∧ (rowBU c.toNat = none → R = noRowV)) ∧ Below w.heap.size w w' := by
  have hx := Box7.new w 307 (.int .u8 0) (.int .u8 0) (.int .u8 0) (.int .u8 0) (.int .i64 0) (.int .i64 0) (.int .i64 0)
  have hb0 := (Below.refl w.heap.size w).alloc (Nat.le_refl _) (.cells #[.int .u8 0, .int .u8 0, .int .u8 0, .int .u8 0, .int .i64 0, .int .i64 0, .int .i64 0] 307)
  go_enter Tryz.func182, Tryz.ntmps182
  go_wp2
  go_loopw [5] (fun i wr => ∃ k : Nat, k ≤ 9 ∧ i = .int .i64 k ∧ (∀ j, j < k → ¬ ((utab j).first ≤ c.toNat ∧ c.toNat ≤ (utab j).last)) ∧ wr = w.alloc (.cells #[.int .u8 0, .int .u8 0, .int .u8 0, .int .u8 0, .int .i64 0, .int .i64 0, .int .i64 0] 307)) (fun i _ => 9 - (intOf i).toNat)
  case atStart => exact ⟨0, by omega, rfl, fun j hj => absurd hj (by omega), rfl⟩
  case round =>
    obtain ⟨k, hk, rfl, hno, rfl⟩ := hrel
    generalize w.alloc (.cells #[.int .u8 0, .int .u8 0, .int .u8 0, .int .u8 0, .int .i64 0, .int .i64 0, .int .i64 0] 307) = W at hx hb0 ⊢
    have hx2 := hx
    obtain ⟨c0, c1, c2, c3, c4, c5, c6, f0, f1, f2, f3, f4, f5, f6, hl⟩ := hx2
    by_cases hlt : k < 9
    · have ht2 := ht.own hb0
      have t0 := ht2.r0 k hlt
      have t1 := ht2.r1 k hlt
      have t2 := ht2.r2 k hlt
      have t3 := ht2.r3 k hlt
      have t4 := ht2.r4 k hlt
      have t5 := ht2.r5 k hlt
      have t6 := ht2.r6 k hlt
      clear ht ht2
      go_wp2
      · have hf : (utab k).first ≤ c.toNat := by assumption
        have hg : c.toNat ≤ (utab k).last := by assumption
        have hr : rowBU c.toNat = some k := rowB_hit hlt hf hg
        refine bodyPost_ret (results27_run (hx.put _ _ _ _ _ _ _) rfl rfl) rfl ⟨⟨rowV k, by rw [hr]; rfl, fun k' h' => by rw [hr] at h'; cases h'; rfl, fun h' => by rw [hr] at h'; cases h'⟩, ?_⟩
        exact below_put7 hb0 (Nat.le_refl _) _ _ _ _ _ _ _
      · have hg : ¬ (c.toNat ≤ (utab k).last) := by omega
        go_roundw
        case rel => exact ⟨k + 1, by omega, by go_num, fun j hj => (Nat.lt_succ_iff_lt_or_eq.1 hj).elim (hno j) (fun h => by subst h; exact fun h => hg h.2), trivial⟩
        case measure => simp [intOf]; omega
      · have hg : ¬ ((utab k).first ≤ c.toNat) := by omega
        go_roundw
        case rel => exact ⟨k + 1, by omega, by go_num, fun j hj => (Nat.lt_succ_iff_lt_or_eq.1 hj).elim (hno j) (fun h => by subst h; exact fun h => hg h.1), trivial⟩
        case measure => simp [intOf]; omega
    · go_wp2
      have hr : rowBU c.toNat = none := rowB_miss (fun j hj => hno j (by omega))
      refine bodyPost_ret (results27_run (hx.put _ _ _ _ _ _ _) rfl rfl) rfl ⟨⟨noRowV, by rw [hr]; rfl, fun k' h' => (by rw [hr] at h'; cases h'), fun _ => rfl⟩, ?_⟩
      exact below_put7 hb0 (Nat.le_refl _) _ _ _ _ _ _ _

end Go.Proofs.YtkjoomdglealmaaGreatDoor

namespace Go.Proofs.YtkjoomdglealmaaGreatDoor
open Go.RowKit Go.Vf

theorem list_get (s : ByteArray) (k : Nat) (h : k < s.size) : s.data.toList[k]? = some s[k] := by
  have : k < s.data.toList.length := by rw [← Lib.size_eq]; exact h
  rw [List.getElem?_eq_getElem this]; rfl

theorem drop_take_cons (l : List UInt8) (n k : Nat) (h : k < n) (hl : k < l.length) : (l.take n).drop k = l[k] :: (l.take n).drop (k + 1) := by
  have h2 : k < (l.take n).length := by simp; omega
  rw [List.drop_eq_getElem_cons h2]; simp

theorem index_one (s : ByteArray) (h : 1 < s.size) (W : World) : (Instr.index 9 (.string s) (.int .i64 1)).run Tryz.prog W = .ok (.int .u8 (s[1].toNat : Int)) W := by
  simp [go_sem, Instr.index, h]

set_option maxHeartbeats 2000000 in
set_option maxRecDepth 20000 in
theorem whole_any (s : ByteArray) (k : Nat) (hk : k < 9) (w : World) (hs : s.size ≤ 4294967296) :
    Calls Tryz.prog 183 #[.string s, rowV k] w fun e w' => e = .returned (.bool (wholeL k s.data.toList)) ∧ Below w.heap.size w w' := by
  obtain ⟨R, HR⟩ : ∃ R, Hid (R = wholeL k s.data.toList) := ⟨_, rfl⟩
  rw [← HR.out]
  have hlen : s.data.toList.length = s.size := (Lib.size_eq s).symm
  have hx := Box7.new w 307 (.int .u8 ((utab k).first : Int)) (.int .u8 ((utab k).last : Int)) (.int .u8 ((utab k).low : Int)) (.int .u8 ((utab k).high : Int)) (.int .i64 ((utab k).size : Int)) (.int .i64 ((utab k).least : Int)) (.int .i64 ((utab k).most : Int))
  have hb0 := (Below.refl w.heap.size w).alloc (Nat.le_refl _) (.cells #[.int .u8 ((utab k).first : Int), .int .u8 ((utab k).last : Int), .int .u8 ((utab k).low : Int), .int .u8 ((utab k).high : Int), .int .i64 ((utab k).size : Int), .int .i64 ((utab k).least : Int), .int .i64 ((utab k).most : Int)] 307)
  obtain ⟨z, hz⟩ : ∃ z, z = (utab k).size := ⟨_, rfl⟩
  have hz1 : 1 ≤ z ∧ z ≤ 4 := by rw [hz]; rcases cases_nine hk with rfl | rfl | rfl | rfl | rfl | rfl | rfl | rfl | rfl <;> simp [utab]
  rw [← hz] at hx hb0
  unfold rowV
  rw [← hz]
  have HZ : Hid (z = (utab k).size) := hz
  clear hz
  go_enter Tryz.func183, Tryz.ntmps183
  by_cases h1 : s.size < z
  · go_wp2
    have hR : R = false := by rw [HR.out]; unfold wholeL; rw [← HZ.out, hlen]; simp; omega
    go_ret
    exact ⟨by rw [hR]; rfl, hb0⟩
  · go_wp2
    generalize w.alloc (.cells #[.int .u8 ((utab k).first : Int), .int .u8 ((utab k).last : Int), .int .u8 ((utab k).low : Int), .int .u8 ((utab k).high : Int), .int .i64 (z : Int), .int .i64 ((utab k).least : Int), .int .i64 ((utab k).most : Int)] 307) = W at hx hb0 ⊢
    obtain ⟨c0, c1, c2, c3, c4, c5, c6, f0, f1, f2, f3, f4, f5, f6, hl⟩ := hx
    by_cases h2 : z ≤ 1
    · have t1 : decide ((1 : Int) < (z : Int)) = false := by simp; omega
      have hR : R = true := by
        rw [HR.out]; unfold wholeL; rw [← HZ.out, hlen]
        have : (List.drop 2 (List.take z s.data.toList)) = [] := List.drop_eq_nil_of_le (by simp; omega)
        rw [this]; simp; omega
      go_region
      go_wp2
      go_loopw [5] (fun i wr => i = .int .i64 2 ∧ wr = W.drew) (fun _ _ => 0)
      case atStart => exact ⟨rfl, rfl⟩
      case round =>
        obtain ⟨rfl, rfl⟩ := hrel
        go_wp2
        go_ret
        exact ⟨by first | (rw [hR]; rfl) | rfl, hb0.drew⟩
    · have h3 : 1 < s.size := by omega
      have hi1 := index_one s h3
      have t1 : decide ((1 : Int) < (z : Int)) = true := by simp; omega
      have hg1 : (s.data.toList[1]?.getD 0) = s[1] := by rw [list_get s 1 h3]; rfl
      by_cases h4 : s[1].toNat < (utab k).low
      · have t2 : decide ((s[1].toNat : Int) < ((utab k).low : Int)) = true := by simp; omega
        have hR : R = false := by
          rw [HR.out]; unfold wholeL secB; rw [← HZ.out, hlen, hg1]
          have e1 : decide (z ≤ 1) = false := by simp; omega
          have e2 : decide ((utab k).low ≤ s[1].toNat) = false := by simp; omega
          rw [e1, e2]; simp
        go_region
        go_wp2
        go_ret
        exact ⟨by first | (rw [hR]; rfl) | rfl, hb0.drew⟩
      · have t2 : decide ((s[1].toNat : Int) < ((utab k).low : Int)) = false := by simp; omega
        by_cases h5 : (utab k).high < s[1].toNat
        · have t3 : decide (((utab k).high : Int) < (s[1].toNat : Int)) = true := by simp; omega
          have hR : R = false := by
            rw [HR.out]; unfold wholeL secB; rw [← HZ.out, hlen, hg1]
            have e1 : decide (z ≤ 1) = false := by simp; omega
            have e2 : decide (s[1].toNat ≤ (utab k).high) = false := by simp; omega
            rw [e1, e2]; simp
          go_region
          go_wp2
          go_ret
          exact ⟨by first | (rw [hR]; rfl) | rfl, hb0.drew⟩
        · have t3 : decide (((utab k).high : Int) < (s[1].toNat : Int)) = false := by simp; omega
          have HR2 : Hid (((s.data.toList.take z).drop 2).all tailB = R) := by
            show _ = _
            rw [HR.out]; unfold wholeL secB; rw [← HZ.out, hlen, hg1]
            have e1 : decide (z ≤ s.size) = true := by simp; omega
            have e2 : decide (s[1].toNat ≤ (utab k).high) = true := by simp; omega
            have e3 : decide ((utab k).low ≤ s[1].toNat) = true := by simp; omega
            rw [e1, e2, e3]; simp
          go_region
          go_wp2
          go_loopw [5] (fun i wr => ∃ j : Nat, 2 ≤ j ∧ j ≤ 4 ∧ i = .int .i64 j ∧ Hid (((s.data.toList.take z).drop j).all tailB = R) ∧ wr = W.drew) (fun i _ => 4 - (intOf i).toNat)
          case atStart => exact ⟨2, by omega, by omega, rfl, HR2, rfl⟩
          case round =>
            obtain ⟨j, hj1, hj2, rfl, HJ, rfl⟩ := hrel
            by_cases hlt : j < z
            · have hjs : j < s.size := by omega
              have hJ := HJ.out
              rw [drop_take_cons _ z j hlt (by omega), List.all_cons] at hJ
              have hsj : s.data.toList[j]'(by omega) = s[j] := rfl
              rw [hsj] at hJ
              by_cases h6 : s[j].toNat < 128
              · have hR : R = false := by rw [← hJ]; unfold tailB; simp; omega
                clear hJ HJ HR2
                go_wp2
                go_ret
                exact ⟨by first | (rw [hR]; rfl) | rfl, hb0.drew⟩
              · by_cases h7 : 191 < s[j].toNat
                · have hR : R = false := by rw [← hJ]; unfold tailB; simp; omega
                  clear hJ HJ HR2
                  go_wp2
                  go_ret
                  exact ⟨by first | (rw [hR]; rfl) | rfl, hb0.drew⟩
                · have HK : Hid (((s.data.toList.take z).drop (j + 1)).all tailB = R) := by
                    show _ = _
                    rw [← hJ]
                    have e1 : tailB s[j] = true := by unfold tailB; simp; omega
                    rw [e1]; simp
                  clear hJ HJ HR2
                  go_wp2
                  go_roundw
                  case rel => exact ⟨j + 1, by omega, by omega, by go_num, HK, trivial⟩
                  case measure => simp [intOf]; omega
            · have hR : R = true := by
                rw [← HJ.out, List.drop_eq_nil_of_le (by simp; omega)]; rfl
              clear HJ HR2
              go_wp2
              go_ret
              exact ⟨by first | (rw [hR]; rfl) | rfl, hb0.drew⟩

end Go.Proofs.YtkjoomdglealmaaGreatDoor

namespace Go.Vf

theorem enc_bytes {p : Nat} (hp : IsPt p) : headOf (enc p).length ≤ ((enc p)[0]?.getD 0).toNat ∧ ∀ i, 1 ≤ i → i < (enc p).length → 128 ≤ ((enc p)[i]?.getD 0).toNat ∧ ((enc p)[i]?.getD 0).toNat ≤ 191 := by
  unfold IsPt at hp
  by_cases h1 : p < 0x80
  · have e : enc p = [UInt8.ofNat p] := by unfold enc; rw [if_pos (by omega)]
    rw [e]
    exact ⟨Nat.zero_le _, fun i h1 h2 => by simp at h2; omega⟩
  · by_cases h2 : p < 0x800
    · have e : enc p = [UInt8.ofNat (0xc0 + p / 64), UInt8.ofNat (0x80 + p % 64)] := by unfold enc; rw [if_neg (by omega), if_pos (by omega)]
      have e1 : (UInt8.ofNat (0xc0 + p / 64)).toNat = 0xc0 + p / 64 := ofNat_toNat (by omega)
      have e2 : (UInt8.ofNat (0x80 + p % 64)).toNat = 0x80 + p % 64 := ofNat_toNat (by omega)
      rw [e]
      refine ⟨?_, fun i h1 h2 => ?_⟩
      · show 0xc0 ≤ (UInt8.ofNat (0xc0 + p / 64)).toNat
        omega
      · simp only [List.length_cons, List.length_nil] at h2
        obtain rfl : i = 1 := by omega
        show 128 ≤ (UInt8.ofNat (0x80 + p % 64)).toNat ∧ (UInt8.ofNat (0x80 + p % 64)).toNat ≤ 191
        omega
    · by_cases h3 : p < 0x10000
      · have e : enc p = [UInt8.ofNat (0xe0 + p / 4096), UInt8.ofNat (0x80 + p / 64 % 64), UInt8.ofNat (0x80 + p % 64)] := by unfold enc; rw [if_neg (by omega), if_neg (by omega), if_pos (by omega)]
        have e1 : (UInt8.ofNat (0xe0 + p / 4096)).toNat = 0xe0 + p / 4096 := ofNat_toNat (by omega)
        have e2 : (UInt8.ofNat (0x80 + p / 64 % 64)).toNat = 0x80 + p / 64 % 64 := ofNat_toNat (by omega)
        have e3 : (UInt8.ofNat (0x80 + p % 64)).toNat = 0x80 + p % 64 := ofNat_toNat (by omega)
        rw [e]
        refine ⟨?_, fun i h1 h2 => ?_⟩
        · show 0xe0 ≤ (UInt8.ofNat (0xe0 + p / 4096)).toNat
          omega
        · simp only [List.length_cons, List.length_nil] at h2
          rcases (show i = 1 ∨ i = 2 by omega) with rfl | rfl
          · show 128 ≤ (UInt8.ofNat (0x80 + p / 64 % 64)).toNat ∧ (UInt8.ofNat (0x80 + p / 64 % 64)).toNat ≤ 191
            omega
          · show 128 ≤ (UInt8.ofNat (0x80 + p % 64)).toNat ∧ (UInt8.ofNat (0x80 + p % 64)).toNat ≤ 191
            omega
      · have e : enc p = [UInt8.ofNat (0xf0 + p / 262144), UInt8.ofNat (0x80 + p / 4096 % 64), UInt8.ofNat (0x80 + p / 64 % 64), UInt8.ofNat (0x80 + p % 64)] := by unfold enc; rw [if_neg (by omega), if_neg (by omega), if_neg (by omega)]
        have e1 : (UInt8.ofNat (0xf0 + p / 262144)).toNat = 0xf0 + p / 262144 := ofNat_toNat (by omega)
        have e2 : (UInt8.ofNat (0x80 + p / 4096 % 64)).toNat = 0x80 + p / 4096 % 64 := ofNat_toNat (by omega)
        have e3 : (UInt8.ofNat (0x80 + p / 64 % 64)).toNat = 0x80 + p / 64 % 64 := ofNat_toNat (by omega)
        have e4 : (UInt8.ofNat (0x80 + p % 64)).toNat = 0x80 + p % 64 := ofNat_toNat (by omega)
        rw [e]
        refine ⟨?_, fun i h1 h2 => ?_⟩
        · show 0xf0 ≤ (UInt8.ofNat (0xf0 + p / 262144)).toNat
          omega
        · simp only [List.length_cons, List.length_nil] at h2
          rcases (show i = 1 ∨ i = 2 ∨ i = 3 by omega) with rfl | rfl | rfl
          · show 128 ≤ (UInt8.ofNat (0x80 + p / 4096 % 64)).toNat ∧ (UInt8.ofNat (0x80 + p / 4096 % 64)).toNat ≤ 191
            omega
          · show 128 ≤ (UInt8.ofNat (0x80 + p / 64 % 64)).toNat ∧ (UInt8.ofNat (0x80 + p / 64 % 64)).toNat ≤ 191
            omega
          · show 128 ≤ (UInt8.ofNat (0x80 + p % 64)).toNat ∧ (UInt8.ofNat (0x80 + p % 64)).toNat ≤ 191
            omega

end Go.Vf
namespace Go.Proofs.YtkjoomdglealmaaGreatDoor
open Go.RowKit Go.Vf

theorem index_zero (s : ByteArray) (h : 0 < s.size) (W : World) : (Instr.index 9 (.string s) (.int .i64 0)).run Tryz.prog W = .ok (.int .u8 (s[0].toNat : Int)) W := by
  simp [go_sem, Instr.index, h]

set_option maxHeartbeats 2000000 in
set_option maxRecDepth 20000 in
theorem pointOf_any (s : ByteArray) (p : Nat) (hp : IsPt p) (hs : s.data.toList = enc p) (w : World) (ht : Tabs w) :
    Calls Tryz.prog 184 #[.string s] w fun e w' => e = .returned (.int .i64 (p : Int)) ∧ Below w.heap.size w w' := by
  have hlen : s.size = (enc p).length := by rw [Lib.size_eq, hs]
  have h4 := enc_le p
  have h0 := enc_pos p
  obtain ⟨hb0, hbt⟩ := enc_bytes hp
  obtain ⟨_, _, _, _, _, _, hacc⟩ := enc_row hp []
  obtain ⟨z, hz⟩ : ∃ z, z = s.size := ⟨_, rfl⟩
  have hget : ∀ i (h : i < s.size), ((enc p)[i]?.getD 0) = s[i] := fun i h => by rw [← hs, list_get s i h]; rfl
  have hp0 : 0 < s.size := by omega
  rw [hget 0 hp0, ← hlen] at hb0
  have HA : Hid (accL (enc p) s.size = p) := by show _ = _; rw [hlen]; exact hacc
  have hA1 : accL (enc p) 1 = s[0].toNat - headOf s.size := by show _ - headOf (enc p).length = _; rw [hget 0 hp0, ← hlen]
  have HAs : ∀ i (h : i + 1 < s.size), Hid (accL (enc p) (i + 2) = accL (enc p) (i + 1) * 64 + (s[i + 1].toNat - 128) ∧ 128 ≤ s[i + 1].toNat ∧ s[i + 1].toNat ≤ 191) := fun i h => by
    show _ ∧ _
    have := hbt (i + 1) (by omega) (by omega)
    rw [hget (i + 1) h] at this
    exact ⟨by show _ * 64 + (((enc p)[i + 1]?.getD 0).toNat - 128) = _; rw [hget (i + 1) h], this⟩
  have hi0 := index_zero s hp0
  have hh := ht.heads s.size (by omega)
  have hu8 : s[0].toNat < 256 := s[0].toNat_lt
  have hw1 : IntKind.u8.wrap ((s[0].toNat : Int) - (headOf s.size : Int)) = ((accL (enc p) 1 : Nat) : Int) := by
    rw [hA1, IntWalk.u8_in _ ⟨by omega, by omega⟩]; omega
  have hb1 : accL (enc p) 1 ≤ 255 := by rw [hA1]; omega
  have hsz : s.size ≤ 4 := by omega
  clear hz hA1 hbt hget hacc h4 h0 hlen hs hb0 hu8
  go_enter Tryz.func184, Tryz.ntmps184
  go_wp2
  go_region
  go_wp2
  go_loopw [3, 4] (fun n i wr => ∃ j : Nat, 1 ≤ j ∧ j ≤ s.size ∧ i = .int .i64 j ∧ n = .int .i64 ((accL (enc p) j : Nat) : Int) ∧ (accL (enc p) j ≤ 67375167 ∧ (j ≤ 3 → accL (enc p) j ≤ 1052735) ∧ (j ≤ 2 → accL (enc p) j ≤ 16447) ∧ (j ≤ 1 → accL (enc p) j ≤ 255)) ∧ wr = w.drew) (fun _ i _ => s.size - (intOf i).toNat)
  case atStart => exact ⟨1, by omega, by omega, rfl, rfl, ⟨by omega, fun _ => by omega, fun _ => by omega, fun _ => by omega⟩, rfl⟩
  case round =>
    obtain ⟨j, hj1, hj2, rfl, rfl, ⟨b4, b3, b2, b1⟩, rfl⟩ := hrel
    by_cases hlt : j < s.size
    · obtain ⟨i, rfl⟩ : ∃ i, j = i + 1 := ⟨j - 1, by omega⟩
      obtain ⟨e1, e2, e3⟩ := (HAs i hlt).out
      have hw2 : IntKind.u8.wrap ((s[i + 1].toNat : Int) - 128) = ((s[i + 1].toNat - 128 : Nat) : Int) := by rw [IntWalk.u8_in _ ⟨by omega, by omega⟩]; omega
      go_wp2
      refine ⟨⟨i + 2, by omega, by omega, by go_num, by rw [e1]; go_num, ⟨by omega, fun _ => by omega, fun _ => by omega, fun _ => by omega⟩, trivial⟩, ?_⟩
      simp [intOf]; omega
    · obtain rfl : j = s.size := by omega
      go_wp2
      go_ret
      exact ⟨by rw [show Ending.returned (Value.int .i64 (p : Int)) = .returned (.int .i64 ((accL (enc p) s.size : Nat) : Int)) by rw [HA.out]]; rfl, (Below.refl _ _).drew⟩

end Go.Proofs.YtkjoomdglealmaaGreatDoor

namespace Go.Vf

def pl : Nat → List Nat → List (Nat × Int)
  | _, [] => []
  | at_, p :: ps => (at_, (p : Int)) :: pl (at_ + (enc p).length) ps

theorem pl_append (at_ : Nat) (a b : List Nat) : pl at_ (a ++ b) = pl at_ a ++ pl (at_ + (encs a).length) b := by
  induction a generalizing at_ with
  | nil => simp [pl, encs]
  | cons p ps ih => simp [pl, encs, ih, Nat.add_assoc]

theorem pl_snd (at_ : Nat) (ps : List Nat) : (pl at_ ps).map (·.2) = ps.map (fun p : Nat => (p : Int)) := by
  induction ps generalizing at_ with
  | nil => rfl
  | cons p ps ih => simp [pl, ih]

theorem pl_pos {at_ : Nat} {ps : List Nat} {x : Nat × Int} (h : x ∈ pl at_ ps) : 0 ≤ x.2 := by
  have : x.2 ∈ (pl at_ ps).map (·.2) := List.mem_map_of_mem h
  rw [pl_snd] at this
  obtain ⟨p, _, hp⟩ := List.mem_map.1 this
  omega

def full (ps : List Nat) (rest : List UInt8) : List (Nat × Int) := pl 0 ps ++ (if rest = [] then [] else [((encs ps).length, -1)])

theorem full_nil (ps : List Nat) : full ps [] = pl 0 ps := by simp [full]
theorem full_broken (ps : List Nat) {rest : List UInt8} (h : rest ≠ []) : full ps rest = pl 0 ps ++ [((encs ps).length, -1)] := by simp [full, h]

theorem full_prefix (ps1 ps2 : List Nat) (rest : List UInt8) : pl 0 ps1 <+: full (ps1 ++ ps2) rest := by
  unfold full; rw [pl_append, List.append_assoc]; exact List.prefix_append _ _

theorem full_end {ps : List Nat} {rest : List UInt8} {ini : List (Nat × Int)} {x : Nat × Int} (h : ini ++ [x] <+: full ps rest) (hx : x.2 = -1) : rest ≠ [] ∧ x.1 = (encs ps).length ∧ ini = pl 0 ps := by
  unfold full at h
  by_cases hr : rest = []
  · rw [if_pos hr, List.append_nil] at h
    have : x ∈ pl 0 ps := h.subset (by simp)
    have := pl_pos this
    omega
  · rw [if_neg hr] at h
    obtain ⟨t, ht⟩ := h
    rcases List.eq_nil_or_concat t with rfl | ⟨t', y, rfl⟩
    · rw [List.append_nil] at ht
      obtain ⟨h1, h2⟩ := List.append_inj' ht rfl
      simp only [List.cons.injEq, and_true] at h2
      exact ⟨hr, by rw [h2], h1⟩
    · rw [List.concat_eq_append, ← List.append_assoc] at ht
      obtain ⟨h1, h2⟩ := List.append_inj' ht rfl
      have : x ∈ pl 0 ps := by rw [← h1]; simp
      have := pl_pos this
      omega

end Go.Vf
namespace Go.Proofs.YtkjoomdglealmaaGreatDoor
open Go.RowKit Go.Vf Go.Shelf

def Kpt (n₀ : Nat) (A B : World) : Prop := Below n₀ A B ∧ ∀ k t cs, t = 307 ∨ t = 9 → Blk A k t cs → Blk B k t cs

theorem Kpt.refl (n₀ : Nat) (A : World) : Kpt n₀ A A := ⟨Below.refl _ _, fun _ _ _ _ h => h⟩
theorem Kpt.trans {n₀ : Nat} {A B C : World} (h : Kpt n₀ A B) (k : Kpt n₀ B C) : Kpt n₀ A C := ⟨h.1.trans k.1, fun i t cs ht hi => k.2 i t cs ht (h.2 i t cs ht hi)⟩
theorem Kpt.putObj {n₀ : Nat} {w : World} (hn : n₀ ≤ w.heap.size) (W : World) (l : Nat) (o o' : Obj) (hl : w.heap.size ≤ l) (ho : W.heap[l]? = some o) (hc : o.isCells = false) (_ : o.isWalk = false) : Kpt n₀ W (W.putObj l o') := by
  refine ⟨?_, fun k t cs _ hk => ?_⟩
  · exact (Below.refl n₀ W).grown (grownBy_putObj' W l o') (by have := (Array.getElem?_eq_some_iff.1 ho).1; omega) (fun k e => by cases e; omega)
  · have hne : k ≠ l := by
      rintro rfl
      rw [show W.heap[k]? = _ from hk] at ho
      cases ho
      cases hc
    exact (World.putObj_heap_other hne).trans hk

theorem grown_of_belowU {A B : World} (h : Below A.heap.size A B) : A.grownBy B none := ⟨h.os, h.tape, h.output, h.size, fun k hk _ => h.block k hk⟩

theorem keep_two {w w' : World} {Bs b : Nat} {s : Value} {a0 a1 a2 a3 a4 a5 a6 : Value} (hb : Below w.heap.size w w')
    (h : w.cell? ⟨Bs, 0, none⟩ = some s ∧ w.cell? ⟨b, 0, none⟩ = some a0 ∧ w.cell? ⟨b, 1, none⟩ = some a1 ∧ w.cell? ⟨b, 2, none⟩ = some a2 ∧ w.cell? ⟨b, 3, none⟩ = some a3 ∧ w.cell? ⟨b, 4, none⟩ = some a4 ∧ w.cell? ⟨b, 5, none⟩ = some a5 ∧ w.cell? ⟨b, 6, none⟩ = some a6 ∧ Bs < w.heap.size ∧ b < w.heap.size) :
    w'.cell? ⟨Bs, 0, none⟩ = some s ∧ w'.cell? ⟨b, 0, none⟩ = some a0 ∧ w'.cell? ⟨b, 1, none⟩ = some a1 ∧ w'.cell? ⟨b, 2, none⟩ = some a2 ∧ w'.cell? ⟨b, 3, none⟩ = some a3 ∧ w'.cell? ⟨b, 4, none⟩ = some a4 ∧ w'.cell? ⟨b, 5, none⟩ = some a5 ∧ w'.cell? ⟨b, 6, none⟩ = some a6 ∧ Bs < w'.heap.size ∧ b < w'.heap.size := by
  obtain ⟨h0, h1, h2, h3, h4, h5, h6, h7, l1, l2⟩ := h
  exact ⟨(hb.cell (p := ⟨Bs, 0, none⟩) l1).trans h0, (hb.cell (p := ⟨b, 0, none⟩) l2).trans h1, (hb.cell (p := ⟨b, 1, none⟩) l2).trans h2, (hb.cell (p := ⟨b, 2, none⟩) l2).trans h3, (hb.cell (p := ⟨b, 3, none⟩) l2).trans h4, (hb.cell (p := ⟨b, 4, none⟩) l2).trans h5, (hb.cell (p := ⟨b, 5, none⟩) l2).trans h6, (hb.cell (p := ⟨b, 6, none⟩) l2).trans h7, Nat.lt_of_lt_of_le l1 hb.size, Nat.lt_of_lt_of_le l2 hb.size⟩

end Go.Proofs.YtkjoomdglealmaaGreatDoor
