/- What utf's two tables hold, rowOfByte, rowOfPoint (contracts; nothing is claimed here). -/
import Derived.Test.YtjlgmoakdaeinaaDoorUtf
import Derived.Test.YtjlgmoakdaeinaaDoorChecked
import Derived.Deep.RegionHeld
namespace Go.Proofs.YtjlgmoakdaeinaaDoor
open Go.RowKit Go.Vf

/-- The two tables lie as their initialisers laid them. -/
structure Tabs (w : World) : Prop where
  size : 2 ≤ w.heap.size
  r0 : ∀ k, k < 9 → w.cell? ⟨0, k * 7, none⟩ = some (.int .u8 ((utab k).first : Int))
  r1 : ∀ k, k < 9 → w.cell? ⟨0, k * 7 + 1, none⟩ = some (.int .u8 ((utab k).last : Int))
  r2 : ∀ k, k < 9 → w.cell? ⟨0, k * 7 + 2, none⟩ = some (.int .u8 ((utab k).low : Int))
  r3 : ∀ k, k < 9 → w.cell? ⟨0, k * 7 + 3, none⟩ = some (.int .u8 ((utab k).high : Int))
  r4 : ∀ k, k < 9 → w.cell? ⟨0, k * 7 + 4, none⟩ = some (.int .i64 ((utab k).size : Int))
  r5 : ∀ k, k < 9 → w.cell? ⟨0, k * 7 + 5, none⟩ = some (.int .i64 ((utab k).least : Int))
  r6 : ∀ k, k < 9 → w.cell? ⟨0, k * 7 + 6, none⟩ = some (.int .i64 ((utab k).most : Int))
  heads : ∀ k, k < 5 → w.cell? ⟨1, k, none⟩ = some (.int .u8 (headOf k : Int))

theorem Tabs.below {w w' : World} {B : Nat} (h : Tabs w) (hB : 2 ≤ B) (hb : Below B w w') : Tabs w' := by
  refine ⟨Nat.le_trans h.size hb.size, ?_, ?_, ?_, ?_, ?_, ?_, ?_, ?_⟩
  · exact fun k hk => (hb.cell (p := ⟨0, _, none⟩) (by show 0 < B; omega)).trans (h.r0 k hk)
  · exact fun k hk => (hb.cell (p := ⟨0, _, none⟩) (by show 0 < B; omega)).trans (h.r1 k hk)
  · exact fun k hk => (hb.cell (p := ⟨0, _, none⟩) (by show 0 < B; omega)).trans (h.r2 k hk)
  · exact fun k hk => (hb.cell (p := ⟨0, _, none⟩) (by show 0 < B; omega)).trans (h.r3 k hk)
  · exact fun k hk => (hb.cell (p := ⟨0, _, none⟩) (by show 0 < B; omega)).trans (h.r4 k hk)
  · exact fun k hk => (hb.cell (p := ⟨0, _, none⟩) (by show 0 < B; omega)).trans (h.r5 k hk)
  · exact fun k hk => (hb.cell (p := ⟨0, _, none⟩) (by show 0 < B; omega)).trans (h.r6 k hk)
  · exact fun k hk => (hb.cell (p := ⟨1, _, none⟩) (by show 1 < B; omega)).trans (h.heads k hk)

theorem Tabs.own {w w' : World} (h : Tabs w) (hb : Below w.heap.size w w') : Tabs w' := h.below h.size hb

/-- A row as a value. -/
def rowV (k : Nat) : Value := .agg #[.int .u8 ((utab k).first : Int), .int .u8 ((utab k).last : Int), .int .u8 ((utab k).low : Int), .int .u8 ((utab k).high : Int), .int .i64 ((utab k).size : Int), .int .i64 ((utab k).least : Int), .int .i64 ((utab k).most : Int)]
def noRowV : Value := .agg #[.int .u8 0, .int .u8 0, .int .u8 0, .int .u8 0, .int .i64 0, .int .i64 0, .int .i64 0]

/-- A variable of a row's type, seven cells. -/
structure Box7 (w : World) (h : Nat) (a b c d e f g : Value) : Prop where
  c0 : w.cell? ⟨h, 0, none⟩ = some a
  c1 : w.cell? ⟨h, 1, none⟩ = some b
  c2 : w.cell? ⟨h, 2, none⟩ = some c
  c3 : w.cell? ⟨h, 3, none⟩ = some d
  c4 : w.cell? ⟨h, 4, none⟩ = some e
  c5 : w.cell? ⟨h, 5, none⟩ = some f
  c6 : w.cell? ⟨h, 6, none⟩ = some g
  f0 : w.frozen? ⟨h, 0, none⟩ = false
  f1 : w.frozen? ⟨h, 1, none⟩ = false
  f2 : w.frozen? ⟨h, 2, none⟩ = false
  f3 : w.frozen? ⟨h, 3, none⟩ = false
  f4 : w.frozen? ⟨h, 4, none⟩ = false
  f5 : w.frozen? ⟨h, 5, none⟩ = false
  f6 : w.frozen? ⟨h, 6, none⟩ = false
  lt : h < w.heap.size

theorem Box7.new (w : World) (t : TypeId) (a b c d e f g : Value) : Box7 (w.alloc (.cells #[a, b, c, d, e, f, g] t)) w.heap.size a b c d e f g := by
  constructor <;> simp

theorem Box7.below {w w' : World} {B h : Nat} {a b c d e f g : Value} (x : Box7 w h a b c d e f g) (hb : Below B w w') (hB : h < B) : Box7 w' h a b c d e f g :=
  ⟨(hb.cell (p := ⟨h, 0, none⟩) hB).trans x.c0, (hb.cell (p := ⟨h, 1, none⟩) hB).trans x.c1, (hb.cell (p := ⟨h, 2, none⟩) hB).trans x.c2, (hb.cell (p := ⟨h, 3, none⟩) hB).trans x.c3, (hb.cell (p := ⟨h, 4, none⟩) hB).trans x.c4, (hb.cell (p := ⟨h, 5, none⟩) hB).trans x.c5, (hb.cell (p := ⟨h, 6, none⟩) hB).trans x.c6,
    (hb.frozen (p := ⟨h, 0, none⟩) hB).trans x.f0, (hb.frozen (p := ⟨h, 1, none⟩) hB).trans x.f1, (hb.frozen (p := ⟨h, 2, none⟩) hB).trans x.f2, (hb.frozen (p := ⟨h, 3, none⟩) hB).trans x.f3, (hb.frozen (p := ⟨h, 4, none⟩) hB).trans x.f4, (hb.frozen (p := ⟨h, 5, none⟩) hB).trans x.f5, (hb.frozen (p := ⟨h, 6, none⟩) hB).trans x.f6, Nat.lt_of_lt_of_le x.lt hb.size⟩

def put7 (w : World) (h : Nat) (a b c d e f g : Value) : World :=
  ((((((w.setCell ⟨h, 0, none⟩ a).setCell ⟨h, 1, none⟩ b).setCell ⟨h, 2, none⟩ c).setCell ⟨h, 3, none⟩ d).setCell ⟨h, 4, none⟩ e).setCell ⟨h, 5, none⟩ f).setCell ⟨h, 6, none⟩ g

theorem Box7.put {w : World} {h : Nat} {a b c d e f g : Value} (x : Box7 w h a b c d e f g) (a' b' c' d' e' f' g' : Value) : Box7 (put7 w h a' b' c' d' e' f' g') h a' b' c' d' e' f' g' := by
  obtain ⟨c0, c1, c2, c3, c4, c5, c6, f0, f1, f2, f3, f4, f5, f6, hlt⟩ := x
  unfold put7
  constructor <;> first | (simp only [World.frozen?_setCell, f0, f1, f2, f3, f4, f5, f6]) | (simp [World.cell?_setCell_other, World.cell?_setCell_same, c0, c1, c2, c3, c4, c5, c6, hlt])

theorem below_put7 {B : Nat} {a w : World} {h : Nat} (hb : Below B a w) (hB : B ≤ h) (a' b' c' d' e' f' g' : Value) : Below B a (put7 w h a' b' c' d' e' f' g') := by
  unfold put7
  exact ((((((hb.setCell (p := ⟨h, 0, none⟩) hB _).setCell (p := ⟨h, 1, none⟩) hB _).setCell (p := ⟨h, 2, none⟩) hB _).setCell (p := ⟨h, 3, none⟩) hB _).setCell (p := ⟨h, 4, none⟩) hB _).setCell (p := ⟨h, 5, none⟩) hB _).setCell (p := ⟨h, 6, none⟩) hB _

theorem results27_run {tmps : Array Value} {w : World} {h : Nat} {a b c d e f g : Value} {x : Bool} (hx : Box7 w h a b c d e f g) (t2 : tmps[2]?.getD undef = .pointer (some ⟨h, 0, none⟩)) (t3 : tmps[3]?.getD undef = .bool x) :
    (results Tryd.f27 tmps).run Tryd.prog w = .ok (.tuple #[.agg #[a, b, c, d, e, f, g], .bool x]) w := by
  obtain ⟨c0, c1, c2, c3, c4, c5, c6, f0, f1, f2, f3, f4, f5, f6, hlt⟩ := hx
  simp [results, Tryd.results27, go_sem, t2, t3, c0, c1, c2, c3, c4, c5, c6]

set_option maxHeartbeats 1000000 in
set_option maxRecDepth 20000 in
/-- rowOfByte(c). -/
theorem rowOfByte_any (c : UInt8) (w : World) (ht : Tabs w) :
    Calls Tryd.prog 27 #[.int .u8 (c.toNat : Int)] w fun e w' => (∃ R : Value, e = .returned (.tuple #[R, .bool (rowB c.toNat).isSome]) ∧ (∀ k, rowB c.toNat = some k → R = rowV k) ∧ (rowB c.toNat = none → R = noRowV)) ∧ Below w.heap.size w w' := by
  have hx := Box7.new w 48 (.int .u8 0) (.int .u8 0) (.int .u8 0) (.int .u8 0) (.int .i64 0) (.int .i64 0) (.int .i64 0)
  have hb0 := (Below.refl w.heap.size w).alloc (Nat.le_refl _) (.cells #[.int .u8 0, .int .u8 0, .int .u8 0, .int .u8 0, .int .i64 0, .int .i64 0, .int .i64 0] 48)
  go_enter Tryd.func27, Tryd.ntmps27
  go_wp2
  go_loopw [5] (fun i wr => ∃ k : Nat, k ≤ 9 ∧ i = .int .i64 k ∧ (∀ j, j < k → ¬ ((utab j).first ≤ c.toNat ∧ c.toNat ≤ (utab j).last)) ∧ wr = w.alloc (.cells #[.int .u8 0, .int .u8 0, .int .u8 0, .int .u8 0, .int .i64 0, .int .i64 0, .int .i64 0] 48)) (fun i _ => 9 - (intOf i).toNat)
  case atStart => exact ⟨0, by omega, rfl, fun j hj => absurd hj (by omega), rfl⟩
  case round =>
    obtain ⟨k, hk, rfl, hno, rfl⟩ := hrel
    generalize w.alloc (.cells #[.int .u8 0, .int .u8 0, .int .u8 0, .int .u8 0, .int .i64 0, .int .i64 0, .int .i64 0] 48) = W at hx hb0 ⊢
    have hx2 := hx
    obtain ⟨c0, c1, c2, c3, c4, c5, c6, f0, f1, f2, f3, f4, f5, f6, hl⟩ := hx2
    by_cases hlt : k < 9
    · have ht2 := ht.own hb0
      have t0 := ht2.r0 k hlt
      have t1 := ht2.r1 k hlt
      have t2 := ht2.r2 k hlt
      have t3 := ht2.r3 k hlt
      have t4 := ht2.r4 k hlt
      have t5 := ht2.r5 k hlt
      have t6 := ht2.r6 k hlt
      clear ht ht2
      go_wp2
      · have hf : (utab k).first ≤ c.toNat := by assumption
        have hg : c.toNat ≤ (utab k).last := by assumption
        have hr : rowB c.toNat = some k := rowB_hit hlt hf hg
        refine bodyPost_ret (results27_run (hx.put _ _ _ _ _ _ _) rfl rfl) rfl ⟨⟨rowV k, by rw [hr]; rfl, fun k' h' => by rw [hr] at h'; cases h'; rfl, fun h' => by rw [hr] at h'; cases h'⟩, ?_⟩
        exact below_put7 hb0 (Nat.le_refl _) _ _ _ _ _ _ _
      · have hg : ¬ (c.toNat ≤ (utab k).last) := by omega
        go_roundw
        case rel => exact ⟨k + 1, by omega, by go_num, fun j hj => (Nat.lt_succ_iff_lt_or_eq.1 hj).elim (hno j) (fun h => by subst h; exact fun h => hg h.2), trivial⟩
        case measure => simp [intOf]; omega
      · have hg : ¬ ((utab k).first ≤ c.toNat) := by omega
        go_roundw
        case rel => exact ⟨k + 1, by omega, by go_num, fun j hj => (Nat.lt_succ_iff_lt_or_eq.1 hj).elim (hno j) (fun h => by subst h; exact fun h => hg h.1), trivial⟩
        case measure => simp [intOf]; omega
    · go_wp2
      have hr : rowB c.toNat = none := rowB_miss (fun j hj => hno j (by omega))
      refine bodyPost_ret (results27_run (hx.put _ _ _ _ _ _ _) rfl rfl) rfl ⟨⟨noRowV, by rw [hr]; rfl, fun k' h' => (by rw [hr] at h'; cases h'), fun _ => rfl⟩, ?_⟩
      exact below_put7 hb0 (Nat.le_refl _) _ _ _ _ _ _ _

theorem results22_run {tmps : Array Value} {w : World} {h : Nat} {a b c d e f g : Value} {x : Bool} (hx : Box7 w h a b c d e f g) (t2 : tmps[2]?.getD undef = .pointer (some ⟨h, 0, none⟩)) (t3 : tmps[3]?.getD undef = .bool x) :
    (results Tryd.f22 tmps).run Tryd.prog w = .ok (.tuple #[.agg #[a, b, c, d, e, f, g], .bool x]) w := by
  obtain ⟨c0, c1, c2, c3, c4, c5, c6, f0, f1, f2, f3, f4, f5, f6, hlt⟩ := hx
  simp [results, Tryd.results22, go_sem, t2, t3, c0, c1, c2, c3, c4, c5, c6]

set_option maxHeartbeats 1000000 in
set_option maxRecDepth 20000 in
/-- rowOfPoint(n). -/
theorem rowOfPoint_any (n : Int) (w : World) (ht : Tabs w) :
    Calls Tryd.prog 22 #[.int .i64 n] w fun e w' => (∃ R : Value, e = .returned (.tuple #[R, .bool (rowP n).isSome]) ∧ (∀ k, rowP n = some k → R = rowV k) ∧ (rowP n = none → R = noRowV)) ∧ Below w.heap.size w w' := by
  have hx := Box7.new w 48 (.int .u8 0) (.int .u8 0) (.int .u8 0) (.int .u8 0) (.int .i64 0) (.int .i64 0) (.int .i64 0)
  have hb0 := (Below.refl w.heap.size w).alloc (Nat.le_refl _) (.cells #[.int .u8 0, .int .u8 0, .int .u8 0, .int .u8 0, .int .i64 0, .int .i64 0, .int .i64 0] 48)
  go_enter Tryd.func22, Tryd.ntmps22
  go_wp2
  go_loopw [5] (fun i wr => ∃ k : Nat, k ≤ 9 ∧ i = .int .i64 k ∧ (∀ j, j < k → ¬ (((utab j).least : Int) ≤ n ∧ n ≤ ((utab j).most : Int))) ∧ wr = w.alloc (.cells #[.int .u8 0, .int .u8 0, .int .u8 0, .int .u8 0, .int .i64 0, .int .i64 0, .int .i64 0] 48)) (fun i _ => 9 - (intOf i).toNat)
  case atStart => exact ⟨0, by omega, rfl, fun j hj => absurd hj (by omega), rfl⟩
  case round =>
    obtain ⟨k, hk, rfl, hno, rfl⟩ := hrel
    generalize w.alloc (.cells #[.int .u8 0, .int .u8 0, .int .u8 0, .int .u8 0, .int .i64 0, .int .i64 0, .int .i64 0] 48) = W at hx hb0 ⊢
    have hx2 := hx
    obtain ⟨c0, c1, c2, c3, c4, c5, c6, f0, f1, f2, f3, f4, f5, f6, hl⟩ := hx2
    by_cases hlt : k < 9
    · have ht2 := ht.own hb0
      have t0 := ht2.r0 k hlt
      have t1 := ht2.r1 k hlt
      have t2 := ht2.r2 k hlt
      have t3 := ht2.r3 k hlt
      have t4 := ht2.r4 k hlt
      have t5 := ht2.r5 k hlt
      have t6 := ht2.r6 k hlt
      clear ht ht2
      go_wp2
      · have hf : ((utab k).least : Int) ≤ n := by assumption
        have hg : n ≤ ((utab k).most : Int) := by assumption
        have hr : rowP n = some k := rowP_hit hlt hf hg
        refine bodyPost_ret (results22_run (hx.put _ _ _ _ _ _ _) rfl rfl) rfl ⟨⟨rowV k, by rw [hr]; rfl, fun k' h' => by rw [hr] at h'; cases h'; rfl, fun h' => by rw [hr] at h'; cases h'⟩, ?_⟩
        exact below_put7 hb0 (Nat.le_refl _) _ _ _ _ _ _ _
      · have hg : ¬ (n ≤ ((utab k).most : Int)) := by omega
        go_roundw
        case rel => exact ⟨k + 1, by omega, by go_num, fun j hj => (Nat.lt_succ_iff_lt_or_eq.1 hj).elim (hno j) (fun h => by subst h; exact fun h => hg h.2), trivial⟩
        case measure => simp [intOf]; omega
      · have hg : ¬ (((utab k).least : Int) ≤ n) := by omega
        go_roundw
        case rel => exact ⟨k + 1, by omega, by go_num, fun j hj => (Nat.lt_succ_iff_lt_or_eq.1 hj).elim (hno j) (fun h => by subst h; exact fun h => hg h.1), trivial⟩
        case measure => simp [intOf]; omega
    · go_wp2
      have hr : rowP n = none := rowP_miss (fun j hj => hno j (by omega))
      refine bodyPost_ret (results22_run (hx.put _ _ _ _ _ _ _) rfl rfl) rfl ⟨⟨noRowV, by rw [hr]; rfl, fun k' h' => (by rw [hr] at h'; cases h'), fun _ => rfl⟩, ?_⟩
      exact below_put7 hb0 (Nat.le_refl _) _ _ _ _ _ _ _

end Go.Proofs.YtjlgmoakdaeinaaDoor
