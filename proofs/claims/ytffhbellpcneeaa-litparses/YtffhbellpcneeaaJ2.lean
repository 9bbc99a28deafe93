/- What nat.need, takeByte and the deferred readers do (contracts; nothing is claimed here). · '[]byte(s)', 'string([]byte{..})', strings.Clone's last step over rows of a call's own (lemmas of the verifier's own, over any program). · Lists that are turned in their place, from the front on; numbers to the base 256 (lemmas of the verifier's own; no program). · What nat.Check, turned, strings.Clone, the heads and nat.Put do (contracts; nothing is claimed here). · What the heads and nat.Put do (contracts; nothing is claimed here). -/
import Derived.Test.YtffhbellpcneeaaRows
import Derived.Test.YtffhbellpcneeaaJ1
import Derived.Defers
import Derived.Recover
import Derived.Laws.IdiomStrings
import Derived.Lib.UnsafeStr
import Derived.Deep.RegionHeld
namespace Go.Proofs.Ytffhbellpcneeaa
open Go.RowKit Go.Vf

/-- What a reader gives up with. -/
abbrev lostV (why at_ : Int) : Value := .iface 130 (.agg #[.int .i64 why, .int .i64 at_])
abbrev lost (why at_ : Int) : Ending := .panicked [{ v := lostV why at_, recovered := false }]

/-- The head of a number's bytes: whether below, how many bytes of magnitude, how long the head; or where it is none. -/
def tkHead : List UInt8 → Except Nat (Bool × Nat × Nat)
  | [] => .error 0
  | x :: r =>
    if x.toNat = 255 then
      match r with
      | [] => .error 1
      | y :: _ => if 126 < y.toNat then .ok (false, y.toNat, 2) else .error 1
    else if x.toNat = 1 then
      match r with
      | [] => .error 1
      | y :: _ => if y.toNat < 129 then .ok (true, 255 - y.toNat, 2) else .error 1
    else if 1 < x.toNat then
      if x.toNat < 128 then .ok (true, 128 - x.toNat, 1) else .ok (false, x.toNat - 128, 1)
    else .error 0

theorem drop_at (s : ByteArray) (k : Nat) (hk : k < s.size) : s.data.toList.drop k = s[k] :: s.data.toList.drop (k + 1) := by
  rw [List.drop_eq_getElem_cons (by rw [← Lib.size_eq]; exact hk)]
  rfl
theorem drop_end (s : ByteArray) (k : Nat) (hk : s.size ≤ k) : s.data.toList.drop k = [] := List.drop_of_length_le (by rw [← Lib.size_eq]; exact hk)

/-- What takeHead answers. -/
def headE (a : Nat) : Except Nat (Bool × Nat × Nat) → Ending
  | .ok (b, k, h) => .returned (.tuple #[.bool b, .int .i64 (k : Int), .int .i64 ((a + h : Nat) : Int)])
  | .error n => lost 20 ((a + n : Nat) : Int)

end Go.Proofs.Ytffhbellpcneeaa

namespace Go.Vf
open Go.RowKit
variable {P : Program}

theorem bytesRow_get (s : ByteArray) (c j : Nat) (hj : j < s.data.toList.length) : (bytesRow s c)[j]? = some (.int .u8 ((s.data.toList[j]'hj).toNat : Int)) := by
  have h1 : j < s.data.size := by simpa using hj
  unfold bytesRow
  rw [Array.getElem?_append_left (by simpa using h1)]
  rw [Array.getElem?_map, Array.getElem?_eq_getElem h1]
  rfl

theorem bytesRow_size (s : ByteArray) (c : Nat) : s.size ≤ (bytesRow s c).size := by
  unfold bytesRow
  rw [Array.size_append, Array.size_map]
  exact Nat.le_add_right _ _

/-- '[]byte(s)': a new row with the string's bytes. -/
theorem run_bytes_ex (w : World) (src dst e : TypeId) (s : ByteArray) (hs : P.underlying src = some .string) (hd : P.underlying dst = some (.slice e)) (he : P.underlying e = some (.int .u8)) :
    ∃ cap w', (convert src dst (.string s)).run P w = .ok (.slice (some ⟨w.heap.size, 0, none⟩) s.size cap) w' ∧ s.size ≤ cap ∧ BRow w' w.heap.size s.data.toList ∧ Below w.heap.size w w' ∧ w'.heap.size = w.heap.size + 1 := by
  refine ⟨_, _, run_bytes_of_string w src dst e s hs hd he, ?_, ⟨fun j hj => ?_, fun j hj => ?_⟩, ?_, ?_⟩
  · exact grownCap_ge w _ _ e
  · have hg := heap_alloc_new w.drew (.cells (bytesRow s (grownCap w s.size 0 e)) e ((bytesRow s (grownCap w s.size 0 e)).size, (bytesRow s (grownCap w s.size 0 e)).size + 1))
    have hsz : w.drew.heap.size = w.heap.size := rfl
    rw [hsz] at hg
    simp only [World.cell?, hg]
    exact bytesRow_get s _ j hj
  · have hg := heap_alloc_new w.drew (.cells (bytesRow s (grownCap w s.size 0 e)) e ((bytesRow s (grownCap w s.size 0 e)).size, (bytesRow s (grownCap w s.size 0 e)).size + 1))
    have hsz : w.drew.heap.size = w.heap.size := rfl
    rw [hsz] at hg
    have := bytesRow_size s (grownCap w s.size 0 e)
    rw [← Lib.size_eq] at hj
    simp only [World.frozen?, hg]
    simp
    omega
  · exact ((Below.refl _ _).drew).alloc (Nat.le_refl _) _
  · simp

/-- 'string([]byte{..})': what the slice holds. -/
theorem run_string_cells (w : World) (src dst e : TypeId) (hs : P.underlying src = some (.slice e)) (he : P.underlying e = some (.int .u8)) (hd : P.underlying dst = some .string) (l : List UInt8) (cs : Array Value) (hcs : cs = (cellsL l).toArray) (n c : Nat) (hn : n = l.length) :
    (convert src dst (.slice (some ⟨w.heap.size, 0, none⟩) n c)).run P (w.alloc (.cells cs e)) = .ok (.string (bs l)) (w.alloc (.cells cs e)) := by
  subst hcs hn
  have hr : BRow (w.alloc (.cells (cellsL l).toArray e)) w.heap.size l := by
    have hg := heap_alloc_new w (.cells (cellsL l).toArray e)
    refine ⟨fun j hj => ?_, fun j hj => ?_⟩
    · simp only [World.cell?, hg]
      simp [cellsL, hj]
    · simp only [World.frozen?, hg]
      simp
  have := run_string_row (P := P) (w.alloc (.cells (cellsL l).toArray e)) src dst e hs he hd w.heap.size l.length c l (Nat.le_refl _) hr
  rwa [List.take_length] at this

/-- The string of a row of the call's own, as strings.Clone makes it. -/
theorem run_unsafe_row (w : World) (pt it ty e : TypeId) (hp : P.underlying pt = some (.pointer e)) (hc : P.cellsOf e = 1) (g cells : Nat) (hsh : w.shape? g = some (e, cells)) (l : List UInt8) (h0 : l ≠ []) (hn : l.length ≤ cells) (h63 : l.length ≤ 17179869184) (hr : BRow w g l) :
    (Builtin.unsafeString_ #[pt, it] ty #[.pointer (some ⟨g, 0, none⟩), .int .i64 l.length]).run P w = .ok (.string (bs l)) (w.freeze ⟨g, 0, none⟩ l.length) :=
  Lib.run_unsafeString_row (P := P) w pt it ty e hp hc g cells hsh l h0 hn (by omega) (fun j x hx => by
    have hj : j < l.length := (List.getElem?_eq_some_iff.1 hx).1
    have e1 : (⟨g, 0, none⟩ : Addr).add j = ⟨g, j, none⟩ := by
      by_cases h : j = 0
      · subst h; rfl
      · simp [Addr.add, h]
    rw [e1, hr.cell j hj]
    have : l[j] = x := by simpa [hj] using hx
    rw [this])
end Go.Vf

namespace Go.Vf

theorem mix_length {a l : List UInt8} (hal : a.length = l.length) (k : Nat) (hk : k ≤ l.length) : (a.take k ++ l.drop k).length = l.length := by simp; omega
theorem mix_get {a l : List UInt8} (hal : a.length = l.length) (k : Nat) (hk : k < l.length) (h : k < (a.take k ++ l.drop k).length) : (a.take k ++ l.drop k)[k] = l[k] := by
  have h1 : (a.take k).length = k := by simp; omega
  rw [List.getElem_append_right (by omega)]
  simp [h1]
theorem mix_set {a l : List UInt8} (hal : a.length = l.length) (k : Nat) (hk : k < l.length) : (a.take k ++ l.drop k).set k (a[k]'(by omega)) = a.take (k + 1) ++ l.drop (k + 1) := by
  have h1 : (a.take k).length = k := by simp; omega
  rw [List.set_append_right _ _ (by omega), h1, Nat.sub_self, List.drop_eq_getElem_cons hk, List.set_cons_zero]
  have e : a.take (k + 1) = a.take k ++ [a[k]'(by omega)] := by
    rw [List.take_add_one, List.getElem?_eq_getElem (show k < a.length by omega)]
    rfl
  rw [e, List.append_assoc]
  rfl

/-- Digits to the base 256, the lowest first: their number. -/
def lval : List UInt8 → Nat
  | [] => 0
  | x :: r => x.toNat + 256 * lval r
/-- A number's digits to the base 256, the lowest first, no nought behind. -/
def lowD (n : Nat) : List UInt8 := if n = 0 then [] else UInt8.ofNat (n % 256) :: lowD (n / 256)
termination_by n
decreasing_by omega

theorem ofNat_mod (n : Nat) : (UInt8.ofNat (n % 256)).toNat = n % 256 := by
  rw [UInt8.toNat_ofNat_of_lt' (Nat.mod_lt _ (by decide))]
theorem lowD_zero : lowD 0 = [] := by rw [lowD, if_pos rfl]
theorem lowD_pos {n : Nat} (h : n ≠ 0) : lowD n = UInt8.ofNat (n % 256) :: lowD (n / 256) := by rw [lowD, if_neg h]
theorem lval_lowD (n : Nat) : lval (lowD n) = n := by
  induction n using Nat.strongRecOn with
  | ind n ih =>
    by_cases h : n = 0
    · subst h; rw [lowD_zero]; rfl
    · rw [lowD_pos h, lval, ih _ (by omega), ofNat_mod]
      omega
theorem lowD_nil {n : Nat} : lowD n = [] ↔ n = 0 := by
  constructor
  · intro h
    have := lval_lowD n
    rw [h] at this
    exact this.symm
  · rintro rfl; exact lowD_zero
theorem lval_pos {l : List UInt8} (h : l.getLast? ≠ some 0) (h0 : l ≠ []) : lval l ≠ 0 := by
  induction l with
  | nil => exact absurd rfl h0
  | cons x r ih =>
    rw [lval]
    by_cases hr : r = []
    · subst hr
      simp only [List.getLast?_singleton, ne_eq, Option.some.injEq] at h
      intro h1
      exact h (UInt8.toNat_inj.1 (by show x.toNat = 0; omega))
    · have h2 : r.getLast? ≠ some 0 := by
        intro h3
        apply h
        rw [List.getLast?_cons, h3]
        rfl
      have := ih h2 hr
      omega
theorem lowD_lval {l : List UInt8} (h : l.getLast? ≠ some 0) : lowD (lval l) = l := by
  induction l with
  | nil => exact lowD_zero
  | cons x r ih =>
    rw [lowD_pos (lval_pos h (by simp)), lval]
    have hx := x.toNat_lt
    have e1 : (x.toNat + 256 * lval r) % 256 = x.toNat := by omega
    have e2 : (x.toNat + 256 * lval r) / 256 = lval r := by omega
    rw [e1, e2]
    have h2 : r.getLast? ≠ some 0 := by
      intro h3
      apply h
      rw [List.getLast?_cons, h3]
      rfl
    rw [ih h2]
    simp
theorem lowD_last (n : Nat) : (lowD n).getLast? ≠ some 0 := by
  induction n using Nat.strongRecOn with
  | ind n ih =>
    by_cases h : n = 0
    · subst h; rw [lowD_zero]; simp
    · rw [lowD_pos h]
      by_cases h2 : n / 256 = 0
      · rw [h2, lowD_zero]
        simp only [List.getLast?_singleton, ne_eq, Option.some.injEq]
        intro h3
        have := ofNat_mod n
        rw [h3] at this
        have : n % 256 = 0 := this.symm
        omega
      · have h3 := ih (n / 256) (by omega)
        rw [List.getLast?_cons]
        cases h4 : (lowD (n / 256)).getLast? with
        | none => exact absurd (lowD_nil.1 (List.getLast?_eq_none_iff.1 h4)) h2
        | some y => rw [h4] at h3; exact h3
theorem lval_lt (l : List UInt8) : lval l < 256 ^ l.length := by
  induction l with
  | nil => simp [lval]
  | cons x r ih =>
    have := x.toNat_lt
    rw [lval, List.length_cons, Nat.pow_succ]
    omega
theorem lval_ge {l : List UInt8} (h : l.getLast? ≠ some 0) (h0 : l ≠ []) : 256 ^ (l.length - 1) ≤ lval l := by
  induction l with
  | nil => exact absurd rfl h0
  | cons x r ih =>
    rw [lval]
    by_cases hr : r = []
    · subst hr
      have := lval_pos h (by simp)
      rw [lval] at this
      simp [lval] at this ⊢
      omega
    · have h2 : r.getLast? ≠ some 0 := by
        intro h3
        apply h
        rw [List.getLast?_cons, h3]
        rfl
      have := ih h2 hr
      have hl : 0 < r.length := List.length_pos_iff.2 hr
      have e : (x :: r).length - 1 = (r.length - 1) + 1 := by simp; omega
      rw [e, Nat.pow_succ]
      omega
theorem lowD_length_le {n k : Nat} : (lowD n).length ≤ k ↔ n < 256 ^ k := by
  constructor
  · intro h
    have h1 := lval_lt (lowD n)
    rw [lval_lowD] at h1
    exact Nat.lt_of_lt_of_le h1 (Nat.pow_le_pow_right (by decide) h)
  · intro h
    by_cases h0 : n = 0
    · subst h0; rw [lowD_zero]; simp
    · have h1 := lval_ge (lowD_last n) (fun h2 => h0 (lowD_nil.1 h2))
      rw [lval_lowD] at h1
      rcases Nat.lt_or_ge k (lowD n).length with h2 | h2
      · have h3 : 256 ^ k ≤ 256 ^ ((lowD n).length - 1) := Nat.pow_le_pow_right (by decide) (by omega)
        omega
      · exact h2
theorem lowD_length_mono {n m : Nat} (h : n ≤ m) : (lowD n).length ≤ (lowD m).length :=
  lowD_length_le.2 (Nat.lt_of_le_of_lt h (lowD_length_le.1 (Nat.le_refl _)))
theorem lval_append (a b : List UInt8) : lval (a ++ b) = lval a + 256 ^ a.length * lval b := by
  induction a with
  | nil => simp [lval]
  | cons x r ih =>
    rw [List.cons_append, lval, lval, ih, List.length_cons, Nat.pow_succ, Nat.mul_add, ← Nat.mul_assoc, Nat.add_assoc, Nat.mul_comm 256 (256 ^ r.length)]
end Go.Vf

namespace Go.Proofs.Ytffhbellpcneeaa
open Go.RowKit Go.Vf

theorem info5 : (Try.prog.info? 5).map (fun i => (i.zero, i.size, i.bytes)) = some (some (.int .u8 0), 1, 1) := by kernel_rfl
theorem size5 (w : World) : (Go.sizeOf 5).run Try.prog w = .ok 1 w := by kernel_rfl
theorem cells5 : Try.prog.cellsOf 5 = 1 := by kernel_rfl

theorem flip_toNat (x : UInt8) : ((255 - x).toNat : Int) = 255 - (x.toNat : Int) := by
  have := x.toNat_lt
  rw [UInt8.toNat_sub_of_le _ _ (by rw [UInt8.le_iff_toNat_le]; have : (255 : UInt8).toNat = 255 := rfl; omega)]
  have : (255 : UInt8).toNat = 255 := rfl
  omega

theorem shape_setCell (g : Nat) (w : World) (a : Addr) (v : Value) : (w.setCell a v).shape? g = w.shape? g := by
  unfold World.shape? World.setCell
  simp only [Array.getElem?_modify]
  by_cases h : a.block = g
  · rw [if_pos h]
    cases w.heap[g]? with
    | none => rfl
    | some o =>
      cases o with
      | cells c e f => by_cases hs : a.spot.isSome = true <;> simp [hs]
      | _ => rfl
  · rw [if_neg h]
theorem shape_setCells (g : Nat) : ∀ (vs : List Value) (b o : Nat) (w : World), (w.setCells b o vs).shape? g = w.shape? g
  | [], _, _, _ => rfl
  | v :: r, b, o, w => by rw [World.setCells, shape_setCells g r b (o + 1), shape_setCell]

def turnB (b : Bool) (l : List UInt8) : List UInt8 := if b then flipL l else l
/-- A magnitude of so many bytes, at least one. -/
def tkMag (l : List UInt8) (k : Nat) (b : Bool) : Except Nat (List UInt8) :=
  match l with
  | [] => .error 0
  | x :: r => if x.toNat = (if b then 255 else 0) then .error 0 else if k ≤ (x :: r).length then .ok (turnB b ((x :: r).take k)) else .error (x :: r).length
def magE (a : Nat) : Except Nat (List UInt8) → Ending
  | .ok m => .returned (.string (bs m))
  | .error n => lost 20 ((a + n : Nat) : Int)

/-- A number as the model holds it. -/
abbrev numV (b : Bool) (m : ByteArray) : Value := .agg #[.bool b, .string m]
/-- Check's answer. -/
def chk (b : Bool) (m : List UInt8) : Int := if 255 < m.length then 21 else if (m.isEmpty && b) || m.head? == some 0 then 20 else 0

set_option maxHeartbeats 400000 in
theorem check_any (b : Bool) (m : ByteArray) (hm : m.size ≤ 17179869184) (w : World) :
    Calls Try.prog 62 #[numV b m] w fun e w' => e = .returned (.int .i64 (chk b m.data.toList)) ∧ Below w.heap.size w w' := by
  have hl : m.data.toList.length = m.size := (Lib.size_eq m).symm
  have hbel := (Below.refl w.heap.size w).alloc (Nat.le_refl _) (.cells #[.bool b, .string m] 24)
  by_cases h1 : 255 < m.size
  · have hR : chk b m.data.toList = 21 := by simp [chk, hl, h1]
    rw [hR]
    go_enter Try.func62, Try.ntmps62
    go_wp2
    go_ret
    exact ⟨rfl, hbel⟩
  · by_cases h2 : m.size = 0
    · have hn : m.data.toList = [] := List.eq_nil_of_length_eq_zero (by omega)
      have he : m.toList.isEmpty = true := by rw [ByteArray.toList_eq, hn]; rfl
      rw [hn]
      clear hn hl
      cases b
      all_goals
        go_enter Try.func62, Try.ntmps62
        go_wp2
        go_ret
        exact ⟨rfl, hbel⟩
    · have he : m.toList.isEmpty = false := by
        rw [ByteArray.toList_eq]
        cases h : m.data.toList with
        | nil => rw [h] at hl; exact absurd hl.symm h2
        | cons x r => rfl
      have h0 : 0 < m.size := by omega
      obtain ⟨r, hd⟩ : ∃ r, m.data.toList = m[0] :: r := ⟨_, (List.drop_zero (l := m.data.toList)).symm.trans (drop_at m 0 h0)⟩
      by_cases h3 : m[0] = 0
      · have hR : chk b m.data.toList = 20 := by
          have h4 : ¬ 255 < m.data.toList.length := by omega
          rw [hd] at h4 ⊢
          simp only [chk, h4, if_false]
          simp [h3]
        have hx : (m[0].toNat : Int) = 0 := by rw [h3]; rfl
        rw [hR]
        clear hR h3 hd
        go_enter Try.func62, Try.ntmps62
        go_wp2
        go_ret
        exact ⟨rfl, hbel⟩
      · have hR : chk b m.data.toList = 0 := by
          have h4 : ¬ 255 < m.data.toList.length := by omega
          rw [hd] at h4 ⊢
          simp only [chk, h4, if_false]
          simp [h3]
        have hx : ¬ (m[0].toNat : Int) = 0 := fun h => h3 (UInt8.toNat_inj.1 (by simpa using h))
        rw [hR]
        clear hR h3 hd
        go_enter Try.func62, Try.ntmps62
        go_wp2
        go_ret
        exact ⟨rfl, hbel⟩
end Go.Proofs.Ytffhbellpcneeaa

namespace Go.Proofs.Ytffhbellpcneeaa
open Go.RowKit Go.Vf

def headL (b : Bool) (n : Nat) : List UInt8 :=
  if 126 < n then (if b then [1, UInt8.ofNat (255 - n)] else [255, UInt8.ofNat n]) else if b then [UInt8.ofNat (128 - n)] else [UInt8.ofNat (128 + n)]
def putL (b : Bool) (m : List UInt8) : List UInt8 := headL b m.length ++ turnB b m

theorem ofNat_int {n : Nat} (h : n < 256) : ((UInt8.ofNat n).toNat : Int) = (n : Int) := by
  rw [UInt8.toNat_ofNat_of_lt' (by simpa using h)]
theorem bs_append (a b : List UInt8) : bs a ++ bs b = bs (a ++ b) := data_inj (by simp [bs_data])

/-- The box of a number: its cells, still there behind a call. -/
theorem box_num {h : Nat} {v0 v1 : Value} {w w' : World} (hb : Below w.heap.size w w')
    (hS : w.cell? ⟨h, 0, none⟩ = some v0 ∧ w.cell? ⟨h, 1, none⟩ = some v1 ∧ h < w.heap.size) :
    w'.cell? ⟨h, 0, none⟩ = some v0 ∧ w'.cell? ⟨h, 1, none⟩ = some v1 ∧ h < w'.heap.size := by
  obtain ⟨h0, h1, h2⟩ := hS
  exact ⟨(hb.cell (p := ⟨h, 0, none⟩) h2).trans h0, (hb.cell (p := ⟨h, 1, none⟩) h2).trans h1, Nat.lt_of_lt_of_le h2 hb.size⟩
theorem below_box {w w2 : World} {o : Obj} (hb : Below (w.alloc o).heap.size (w.alloc o) w2) : Below w.heap.size w w2 :=
  ((Below.refl _ _).alloc (Nat.le_refl _) o).trans (hb.mono (by simp))
theorem below_next {w0 w1 w2 : World} (h1 : Below w0.heap.size w0 w1) (h2 : Below w1.heap.size w1 w2) : Below w0.heap.size w0 w2 := h1.trans (h2.mono h1.size)

theorem headL_length (b : Bool) (n : Nat) : (bs (headL b n)).size ≤ 2 := by
  rw [bs_size]
  unfold headL
  split <;> split <;> simp

def putE (b : Bool) (m : List UInt8) : Ending := .returned (.tuple #[.string (bs (if chk b m = 0 then putL b m else [])), .int .i64 (chk b m)])

end Go.Proofs.Ytffhbellpcneeaa
