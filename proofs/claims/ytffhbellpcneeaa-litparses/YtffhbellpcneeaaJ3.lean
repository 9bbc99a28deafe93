/- What nat.Take does (contracts; nothing is claimed here). · What slices.Reverse and nat.turnedRound do (contracts; nothing is claimed here). · What nat.Of does (a contract; nothing is claimed here). -/
import Derived.Test.YtffhbellpcneeaaJ2
namespace Go.Proofs.Ytffhbellpcneeaa
open Go.RowKit Go.Vf

/-- The three variables of Take's results. -/
structure Three (w : World) (h : Nat) (b : Bool) (m : ByteArray) (n e : Int) : Prop where
  c0 : w.cell? ⟨h, 0, none⟩ = some (.bool b)
  c1 : w.cell? ⟨h, 1, none⟩ = some (.string m)
  c2 : w.cell? ⟨h + 1, 0, none⟩ = some (.int .i64 n)
  c3 : w.cell? ⟨h + 1 + 1, 0, none⟩ = some (.int .i64 e)
  f0 : w.frozen? ⟨h, 0, none⟩ = false
  f1 : w.frozen? ⟨h, 1, none⟩ = false
  f2 : w.frozen? ⟨h + 1, 0, none⟩ = false
  f3 : w.frozen? ⟨h + 1 + 1, 0, none⟩ = false
  lt : h + 1 + 1 < w.heap.size

theorem Three.below {w w' : World} {B h : Nat} {b : Bool} {m : ByteArray} {n e : Int} (h3 : Three w h b m n e) (hb : Below B w w') (hB : h + 1 + 1 < B) : Three w' h b m n e :=
  ⟨(hb.cell (p := ⟨h, 0, none⟩) (by show h < B; omega)).trans h3.c0, (hb.cell (p := ⟨h, 1, none⟩) (by show h < B; omega)).trans h3.c1, (hb.cell (p := ⟨h + 1, 0, none⟩) (by show h + 1 < B; omega)).trans h3.c2, (hb.cell (p := ⟨h + 1 + 1, 0, none⟩) hB).trans h3.c3,
    (hb.frozen (p := ⟨h, 0, none⟩) (by show h < B; omega)).trans h3.f0, (hb.frozen (p := ⟨h, 1, none⟩) (by show h < B; omega)).trans h3.f1, (hb.frozen (p := ⟨h + 1, 0, none⟩) (by show h + 1 < B; omega)).trans h3.f2, (hb.frozen (p := ⟨h + 1 + 1, 0, none⟩) hB).trans h3.f3, Nat.lt_of_lt_of_le h3.lt hb.size⟩

theorem Three.drew {w : World} {h : Nat} {b : Bool} {m : ByteArray} {n e : Int} (h3 : Three w h b m n e) : Three w.drew h b m n e := ⟨h3.c0, h3.c1, h3.c2, h3.c3, h3.f0, h3.f1, h3.f2, h3.f3, h3.lt⟩

/-- All three are stored anew. -/
theorem Three.set {w : World} {h : Nat} {b : Bool} {m : ByteArray} {n e : Int} (h3 : Three w h b m n e) (b' : Bool) (m' : ByteArray) (n' e' : Int) :
    Three ((((w.setCell ⟨h, 0, none⟩ (.bool b')).setCell ⟨h, 1, none⟩ (.string m')).setCell ⟨h + 1, 0, none⟩ (.int .i64 n')).setCell ⟨h + 1 + 1, 0, none⟩ (.int .i64 e')) h b' m' n' e' ∧
    Below h w ((((w.setCell ⟨h, 0, none⟩ (.bool b')).setCell ⟨h, 1, none⟩ (.string m')).setCell ⟨h + 1, 0, none⟩ (.int .i64 n')).setCell ⟨h + 1 + 1, 0, none⟩ (.int .i64 e')) := by
  obtain ⟨c0, c1, c2, c3, f0, f1, f2, f3, hlt⟩ := h3
  refine ⟨⟨?_, ?_, ?_, ?_, ?_, ?_, ?_, ?_, ?_⟩, ?_⟩
  · rw [World.cell?_setCell_other _ _ _ _ (by simp), World.cell?_setCell_other _ _ _ _ (by simp), World.cell?_setCell_other _ _ _ _ (by simp), World.cell?_setCell_same _ _ _ (by rw [c0])]
  · rw [World.cell?_setCell_other _ _ _ _ (by simp), World.cell?_setCell_other _ _ _ _ (by simp), World.cell?_setCell_same _ _ _ (by rw [World.cell?_setCell_other _ _ _ _ (by simp), c1])]
  · rw [World.cell?_setCell_other _ _ _ _ (by simp), World.cell?_setCell_same _ _ _ (by rw [World.cell?_setCell_other _ _ _ _ (by simp), World.cell?_setCell_other _ _ _ _ (by simp), c2])]
  · rw [World.cell?_setCell_same _ _ _ (by rw [World.cell?_setCell_other _ _ _ _ (by simp), World.cell?_setCell_other _ _ _ _ (by simp), World.cell?_setCell_other _ _ _ _ (by simp), c3])]
  · simp only [World.frozen?_setCell, f0]
  · simp only [World.frozen?_setCell, f1]
  · simp only [World.frozen?_setCell, f2]
  · simp only [World.frozen?_setCell, f3]
  · simpa using hlt
  · exact ((((Below.refl h w).setCell (p := ⟨h, 0, none⟩) (Nat.le_refl _) _).setCell (p := ⟨h, 1, none⟩) (Nat.le_refl _) _).setCell (p := ⟨h + 1, 0, none⟩) (Nat.le_succ _) _).setCell (p := ⟨h + 1 + 1, 0, none⟩) (by show h ≤ h + 1 + 1; omega) _

/-- The bytes of a number: where they end and the number; or where they go wrong. -/
def tk (l : List UInt8) : Nat × Option (Bool × List UInt8) :=
  match tkHead l with
  | .error n => (n, none)
  | .ok (b, k, h) => if k = 0 then (h, some (false, [])) else
    match tkMag (l.drop h) k b with
    | .error n => (h + n, none)
    | .ok m => (h + k, some (b, m))

def takeE (a : Nat) : Nat × Option (Bool × List UInt8) → Ending
  | (n, none) => .returned (.tuple #[numV false (bs []), .int .i64 ((a + n : Nat) : Int), .int .i64 20])
  | (n, some (b, m)) => .returned (.tuple #[numV b (bs m), .int .i64 ((a + n : Nat) : Int), .int .i64 0])

theorem tkHead_ok {l : List UInt8} {b : Bool} {k h : Nat} (hh : tkHead l = .ok (b, k, h)) : h ≤ l.length ∧ k ≤ 255 ∧ 0 < h := by
  unfold tkHead at hh
  split at hh
  · cases hh
  · rename_i x r
    have hx := x.toNat_lt
    split at hh
    · split at hh
      · cases hh
      · rename_i y r'
        have hy := y.toNat_lt
        split at hh
        · simp only [Except.ok.injEq, Prod.mk.injEq] at hh; obtain ⟨rfl, rfl, rfl⟩ := hh; simp only [List.length_cons]; omega
        · cases hh
    · split at hh
      · split at hh
        · cases hh
        · rename_i y r'
          split at hh
          · simp only [Except.ok.injEq, Prod.mk.injEq] at hh; obtain ⟨rfl, rfl, rfl⟩ := hh; simp only [List.length_cons]; omega
          · cases hh
      · split at hh
        · split at hh
          · simp only [Except.ok.injEq, Prod.mk.injEq] at hh; obtain ⟨rfl, rfl, rfl⟩ := hh; simp only [List.length_cons]; omega
          · simp only [Except.ok.injEq, Prod.mk.injEq] at hh; obtain ⟨rfl, rfl, rfl⟩ := hh; simp only [List.length_cons]; omega
        · cases hh

theorem three_new (w : World) : Three (((w.alloc (.cells #[.bool false, .string ⟨#[]⟩] 24)).alloc (.cells #[.int .i64 0] 3)).alloc (.cells #[.int .i64 0] 30)) w.heap.size false ⟨#[]⟩ 0 0 :=
  by constructor <;> simp [go_sem]

end Go.Proofs.Ytffhbellpcneeaa

namespace Go.Proofs.Ytffhbellpcneeaa
open Go.RowKit Go.Vf

/-- r is l, turned round from both ends, k bytes each. -/
def RevIn (l r : List UInt8) (k : Nat) : Prop :=
  ∃ h : r.length = l.length, ∀ i (hi : i < l.length), r[i]'(by omega) = if i < k ∨ l.length ≤ i + k then l[l.length - 1 - i]'(by omega) else l[i]

theorem RevIn.zero (l : List UInt8) : RevIn l l 0 := ⟨rfl, fun i hi => by simp; omega⟩
theorem RevIn.step {l r : List UInt8} {k : Nat} (h : RevIn l r k) (hk : k + k + 1 < l.length) :
    RevIn l ((r.set k (l[l.length - 1 - k]'(by omega))).set (l.length - 1 - k) (l[k]'(by omega))) (k + 1) := by
  obtain ⟨hlen, hr⟩ := h
  refine ⟨by simpa using hlen, fun i hi => ?_⟩
  rw [List.getElem_set, List.getElem_set]
  by_cases h1 : l.length - 1 - k = i
  · subst h1
    simp only [if_true]
    rw [if_pos (by omega)]
    congr 1
    omega
  · rw [if_neg h1]
    by_cases h2 : k = i
    · subst h2
      simp
    · rw [if_neg h2, hr i hi]
      by_cases h3 : i < k ∨ l.length ≤ i + k
      · rw [if_pos h3, if_pos (by omega)]
      · rw [if_neg h3, if_neg (by omega)]
theorem RevIn.get_lo {l r : List UInt8} {k : Nat} (h : RevIn l r k) (hk : k + k + 1 < l.length) (h' : k < r.length) : r[k] = l[k]'(by omega) := by
  rw [h.2 k (by omega), if_neg (by omega)]
theorem RevIn.get_hi {l r : List UInt8} {k : Nat} (h : RevIn l r k) (hk : k + k + 1 < l.length) (h' : l.length - 1 - k < r.length) : r[l.length - 1 - k] = l[l.length - 1 - k]'(by omega) := by
  rw [h.2 _ (by omega), if_neg (by omega)]
theorem RevIn.swap {l r : List UInt8} {k j : Nat} (h : RevIn l r k) (hj : j + k + 1 = l.length) (hkj : k < j) :
    ∃ x y, (∃ h : k < r.length, r[k] = x) ∧ (∃ h : j < r.length, r[j] = y) ∧ RevIn l ((r.set k y).set j x) (k + 1) := by
  obtain rfl : j = l.length - 1 - k := by omega
  have hl := h.1
  exact ⟨_, _, ⟨by omega, h.get_lo (by omega) (by omega)⟩, ⟨by omega, h.get_hi (by omega) (by omega)⟩, h.step (by omega)⟩
theorem RevIn.done {l r : List UInt8} {k : Nat} (h : RevIn l r k) (hk : l.length ≤ k + k + 1) : r = l.reverse := by
  obtain ⟨hlen, hr⟩ := h
  refine List.ext_getElem (by simpa using hlen) fun i h1 h2 => ?_
  rw [hr i (by omega), List.getElem_reverse]
  by_cases h3 : i < k ∨ l.length ≤ i + k
  · rw [if_pos h3]
  · rw [if_neg h3]
    congr 1
    omega

set_option maxHeartbeats 1000000 in
theorem reverse_any (g n cap : Nat) (l : List UInt8) (hl : l.length = n) (hn : n ≤ 1099511627776) (w : World) (hr : BRow w g l) :
    Calls Try.prog 95 #[.slice (some ⟨g, 0, none⟩) n cap] w fun e w' => e = .returned (.tuple #[]) ∧ BRow w' g l.reverse ∧ Below g w w' := by
  subst hl
  go_enter Try.func95, Try.ntmps95
  go_wp2
  go_loopw [2, 3] (fun i j wr => ∃ (k : Nat) (r : List UInt8), k ≤ l.length ∧ i = .int .i64 k ∧ j = .int .i64 ((l.length : Int) - 1 - (k : Int)) ∧ RevIn l r k ∧ BRow wr g r ∧ Below g w wr) (fun i _ _ => l.length - (intOf i).toNat)
  case atStart => exact ⟨0, l, Nat.zero_le _, rfl, by go_num, RevIn.zero l, hr, Below.refl _ _⟩
  case round =>
    obtain ⟨k, r, hk, rfl, rfl, hrev, hrow, hbel⟩ := hrel
    have hrl : r.length = l.length := hrev.1
    by_cases hlt : k + k + 1 < l.length
    · obtain ⟨j, hj⟩ : ∃ j, j + k + 1 = l.length := ⟨l.length - 1 - k, by omega⟩
      have ej : ((l.length : Int) - 1 - (k : Int)) = (j : Int) := by omega
      obtain ⟨x, y, ⟨hk1, hx⟩, ⟨hj1, hy⟩, hst⟩ := hrev.swap hj (by omega)
      have c1 := hrow.cell k hk1
      have c2 := hrow.cell j hj1
      rw [hx] at c1
      rw [hy] at c2
      have f1 := hrow.free k hk1
      have f2 := hrow.free j hj1
      have hrow2 := (hrow.set k y).set j x
      have hbel2 := (hbel.setCell (p := ⟨g, k, none⟩) (Nat.le_refl _) (.int .u8 (y.toNat : Int))).setCell (p := ⟨g, j, none⟩) (Nat.le_refl _) (.int .u8 (x.toNat : Int))
      rw [ej]
      have hkj : k < j := by omega
      have hjl : j < l.length := by omega
      clear hrow ej hx hy hrev
      go_wp2
      go_region
      go_wp2
      go_roundw
      case rel => exact ⟨k + 1, _, by omega, by go_num, by go_num, hst, hrow2.drew, hbel2.drew⟩
      case measure => simp [intOf]; omega
    · go_wp2
      go_end0
      have := hrev.done (by omega)
      subst this
      exact ⟨rfl, hrow, hbel⟩

theorem reverse_nil (w : World) : Calls Try.prog 95 #[.slice none 0 0] w fun e w' => e = .returned (.tuple #[]) ∧ w = w' := by
  go_enter Try.func95, Try.ntmps95
  go_wp2
  go_loopw [2, 3] (fun i j wr => i = .int .i64 0 ∧ j = .int .i64 (-1) ∧ w = wr) (fun i _ _ => 0)
  case atStart => exact ⟨rfl, by go_num, rfl⟩
  case round =>
    obtain ⟨rfl, rfl, rfl⟩ := hrel
    go_wp2
    go_end0
    exact ⟨rfl, rfl⟩

set_option maxHeartbeats 400000 in
theorem turnedRound_row (g n cap : Nat) (l : List UInt8) (hl : l.length = n) (hn : n ≤ 1099511627776) (w : World) (hr : BRow w g l) :
    Calls Try.prog 90 #[.slice (some ⟨g, 0, none⟩) n cap] w fun e w' => e = .returned (.string (bs l.reverse)) ∧ Below g w w' := by
  subst hl
  go_enter Try.func90, Try.ntmps90
  go_wp2_with fail
  refine (reverse_any g l.length cap l rfl hn _ hr).mono ?_
  rintro e w1 ⟨rfl, hrow, hb⟩
  have hcv := run_string_row (P := Try.prog) w1 61 9 5 Try.underlying61 Try.underlying5 Try.underlying9 g l.length cap _ (by simp) hrow
  rw [List.take_of_length_le (by simp)] at hcv
  go_wp2
  go_ret
  exact ⟨rfl, hb⟩

theorem turnedRound_nil (w : World) : Calls Try.prog 90 #[.slice none 0 0] w fun e w' => e = .returned (.string (bs [])) ∧ w = w' := by
  have hcv := run_convert_bytes_nil (P := Try.prog) w 61 5 Try.underlying61 Try.underlying5 0 0 9 Try.underlying9
  go_enter Try.func90, Try.ntmps90
  go_wp2_with fail
  refine (reverse_nil _).mono ?_
  rintro e w1 ⟨rfl, rfl⟩
  go_wp2
  go_ret
  exact ⟨rfl, rfl⟩

theorem turnedRound_own (base : Nat) (v : Value) (acc : List UInt8) (ha : acc.length ≤ 1099511627776) (w : World) (h : BOwn 5 w base v acc) :
    Calls Try.prog 90 #[v] w fun e w' => e = .returned (.string (bs acc.reverse)) ∧ Below base w w' := by
  rcases h.form with ⟨rfl, rfl⟩ | ⟨g, cap, rfl, hb, _, _, hr⟩
  · refine (turnedRound_nil w).mono ?_
    rintro e w' ⟨rfl, rfl⟩
    exact ⟨rfl, Below.refl _ _⟩
  · refine (turnedRound_row g _ cap acc rfl ha w hr).mono ?_
    rintro e w' ⟨rfl, hb'⟩
    exact ⟨rfl, hb'.mono hb⟩
end Go.Proofs.Ytffhbellpcneeaa

namespace Go.Proofs.Ytffhbellpcneeaa
open Go.RowKit Go.Vf

theorem u64_wrap (x : Int) : IntKind.u64.wrap x = x % 18446744073709551616 := by simp [IntKind.wrap, IntKind.signed, IntKind.bits]

def ofE (i : Int) : Ending := .returned (numV (decide (i < 0)) (bs (lowD i.natAbs).reverse))

end Go.Proofs.Ytffhbellpcneeaa
