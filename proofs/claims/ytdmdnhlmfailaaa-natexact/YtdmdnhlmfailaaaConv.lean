/- '[]byte(s)', 'string([]byte{..})', strings.Clone's last step over rows of a call's own (lemmas of the verifier's own, over any program). -/
import Derived.Test.YtdmdnhlmfailaaaApp
import Derived.Laws.IdiomStrings
import Derived.Lib.UnsafeStr
namespace Go.Vf
open Go.RowKit
variable {P : Program}

theorem bytesRow_get (s : ByteArray) (c j : Nat) (hj : j < s.data.toList.length) : (bytesRow s c)[j]? = some (.int .u8 ((s.data.toList[j]'hj).toNat : Int)) := by
  have h1 : j < s.data.size := by simpa using hj
  unfold bytesRow
  rw [Array.getElem?_append_left (by simpa using h1)]
  rw [Array.getElem?_map, Array.getElem?_eq_getElem h1]
  rfl

theorem bytesRow_size (s : ByteArray) (c : Nat) : s.size ≤ (bytesRow s c).size := by
  unfold bytesRow
  rw [Array.size_append, Array.size_map]
  exact Nat.le_add_right _ _

/-- '[]byte(s)': a new row with the string's bytes. -/
theorem run_bytes_ex (w : World) (src dst e : TypeId) (s : ByteArray) (hs : P.underlying src = some .string) (hd : P.underlying dst = some (.slice e)) (he : P.underlying e = some (.int .u8)) :
    ∃ cap w', (convert src dst (.string s)).run P w = .ok (.slice (some ⟨w.heap.size, 0, none⟩) s.size cap) w' ∧ s.size ≤ cap ∧ BRow w' w.heap.size s.data.toList ∧ Below w.heap.size w w' ∧ w'.heap.size = w.heap.size + 1 := by
  refine ⟨_, _, run_bytes_of_string w src dst e s hs hd he, ?_, ⟨fun j hj => ?_, fun j hj => ?_⟩, ?_, ?_⟩
  · exact grownCap_ge w _ _ e
  · have hg := heap_alloc_new w.drew (.cells (bytesRow s (grownCap w s.size 0 e)) e ((bytesRow s (grownCap w s.size 0 e)).size, (bytesRow s (grownCap w s.size 0 e)).size + 1))
    have hsz : w.drew.heap.size = w.heap.size := rfl
    rw [hsz] at hg
    simp only [World.cell?, hg]
    exact bytesRow_get s _ j hj
  · have hg := heap_alloc_new w.drew (.cells (bytesRow s (grownCap w s.size 0 e)) e ((bytesRow s (grownCap w s.size 0 e)).size, (bytesRow s (grownCap w s.size 0 e)).size + 1))
    have hsz : w.drew.heap.size = w.heap.size := rfl
    rw [hsz] at hg
    have := bytesRow_size s (grownCap w s.size 0 e)
    rw [← Lib.size_eq] at hj
    simp only [World.frozen?, hg]
    simp
    omega
  · exact ((Below.refl _ _).drew).alloc (Nat.le_refl _) _
  · simp

/-- 'string([]byte{..})': what the slice holds. -/
theorem run_string_cells (w : World) (src dst e : TypeId) (hs : P.underlying src = some (.slice e)) (he : P.underlying e = some (.int .u8)) (hd : P.underlying dst = some .string) (l : List UInt8) (cs : Array Value) (hcs : cs = (cellsL l).toArray) (n c : Nat) (hn : n = l.length) :
    (convert src dst (.slice (some ⟨w.heap.size, 0, none⟩) n c)).run P (w.alloc (.cells cs e)) = .ok (.string (bs l)) (w.alloc (.cells cs e)) := by
  subst hcs hn
  have hr : BRow (w.alloc (.cells (cellsL l).toArray e)) w.heap.size l := by
    have hg := heap_alloc_new w (.cells (cellsL l).toArray e)
    refine ⟨fun j hj => ?_, fun j hj => ?_⟩
    · simp only [World.cell?, hg]
      simp [cellsL, hj]
    · simp only [World.frozen?, hg]
      simp
  have := run_string_row (P := P) (w.alloc (.cells (cellsL l).toArray e)) src dst e hs he hd w.heap.size l.length c l (Nat.le_refl _) hr
  rwa [List.take_length] at this

/-- The string of a row of the call's own, as strings.Clone makes it. -/
theorem run_unsafe_row (w : World) (pt it ty e : TypeId) (hp : P.underlying pt = some (.pointer e)) (hc : P.cellsOf e = 1) (g cells : Nat) (hsh : w.shape? g = some (e, cells)) (l : List UInt8) (h0 : l ≠ []) (hn : l.length ≤ cells) (h63 : l.length ≤ 17179869184) (hr : BRow w g l) :
    (Builtin.unsafeString_ #[pt, it] ty #[.pointer (some ⟨g, 0, none⟩), .int .i64 l.length]).run P w = .ok (.string (bs l)) (w.freeze ⟨g, 0, none⟩ l.length) :=
  Lib.run_unsafeString_row (P := P) w pt it ty e hp hc g cells hsh l h0 hn (by omega) (fun j x hx => by
    have hj : j < l.length := (List.getElem?_eq_some_iff.1 hx).1
    have e1 : (⟨g, 0, none⟩ : Addr).add j = ⟨g, j, none⟩ := by
      by_cases h : j = 0
      · subst h; rfl
      · simp [Addr.add, h]
    rw [e1, hr.cell j hj]
    have : l[j] = x := by simpa [hj] using hx
    rw [this])
end Go.Vf
