/- lit's printer in memory; what write does (contracts; nothing is claimed here). -/
import Derived.Test.YtffhbellpcneeaaJ11
import Derived.Lib.AppendStr
namespace Go.Proofs.Ytffhbellpcneeaa
open Go.RowKit Go.Vf
/-- The printer at block P has written acc; its row lies from base on. -/
structure Pr (w : World) (P base : Nat) (acc : List UInt8) : Prop where
  out : ∃ v, Blk w P 63 #[v] ∧ BOwn 5 w base v acc
  lt : P < base
  le : base ≤ w.heap.size
  len : acc.length ≤ 65536
/-- How a call of the printer's ends that has to write add. -/
def WrE (P base : Nat) (acc add : List UInt8) (w : World) (e : Ending) (w' : World) : Prop :=
  Below P w w' ∧ if acc.length + add.length ≤ 65536 then e = .returned (.tuple #[]) ∧ Pr w' P base (acc ++ add) else e = lostL 2 0
theorem strCells_eq (s : ByteArray) : Lib.strCells s = cellsL s.data.toList := by simp [Lib.strCells, cellsL]
theorem Pr.keep {w w' : World} {P base : Nat} {acc : List UInt8} (h : Pr w P base acc) (hb : Below w.heap.size w w') : Pr w' P base acc := by
  obtain ⟨⟨v, h1, h2⟩, h3, h4, h5⟩ := h
  exact ⟨⟨v, h1.old hb, below_own hb h2⟩, h3, Nat.le_trans h4 hb.size, h5⟩
theorem info5' : ∃ i, Try.prog.info? 5 = some i ∧ i.zero = some (.int .u8 0) ∧ i.size = 1 ∧ i.bytes = 1 := by
  obtain ⟨i, hi, hz⟩ := Option.map_eq_some_iff.1 info5
  simp only [Prod.mk.injEq] at hz
  exact ⟨i, hi, hz.1, hz.2.1, hz.2.2⟩

theorem row_val {w : World} {base e : Nat} {v : Value} {n : Nat} {xs : List Value} (h : w.ownsRow base e 1 v n xs) : ∃ a c, v = .slice a n c := by
  obtain ⟨h1, h2⟩ := h
  rcases h2 with ⟨rfl, rfl⟩ | ⟨g, cap, cur, rfl, _⟩
  · exact ⟨none, 0, rfl⟩
  · exact ⟨_, _, rfl⟩
theorem grown_blk {w w2 : World} {row : Option Nat} {P base : Nat} {t : TypeId} {cs : Array Value} (h : Blk w P t cs) (hg : w.grownBy w2 row) (hr : ∀ k, row = some k → base ≤ k ∧ k < w.heap.size) (hlt : P < base) : Blk w2 P t cs :=
  (hg.block P h.lt (fun e => by have := (hr P e.symm).1; omega)).trans h
set_option maxHeartbeats 1000000 in
set_option maxRecDepth 20000 in
theorem write_ok (P base : Nat) (acc : List UInt8) (s : ByteArray) (w : World) (h : Pr w P base acc) (hok : acc.length + s.size ≤ 65536) :
    Calls Try.prog 40 #[.pointer (some ⟨P, 0, none⟩), .string s] w fun e w' => e = .returned (.tuple #[]) ∧ Below P w w' ∧ Pr w' P base (acc ++ s.data.toList) := by
  obtain ⟨⟨v, hblk, hown⟩, hlt, hle, hlen⟩ := h
  have c0 : w.cell? ⟨P, 0, none⟩ = some v := hblk.cell 0
  obtain ⟨i, hi, hz, hsz, hby⟩ := info5'
  have hform : ∃ a c, v = .slice a acc.length c := by
    rcases hown.form with ⟨rfl, rfl⟩ | ⟨g, cap, rfl, _⟩
    · exact ⟨none, 0, rfl⟩
    · exact ⟨_, _, rfl⟩
  obtain ⟨a, c, rfl⟩ := hform
  have t : decide ((65536 : Int) < (acc.length : Int) + (s.size : Int)) = false := decide_eq_false (by omega)
  have hO : w.ownsRow base 5 1 (.slice a acc.length c) acc.length (cellsL acc) := hown
  have HB : Hid (Blk w P 63 #[.slice a acc.length c]) := hblk
  have hm : acc.length + s.size ≤ maxLen := by simp [maxLen]; omega
  have hby2 : acc.length + s.size ≤ 140737488355328 := by omega
  obtain ⟨na, hna⟩ : ∃ na, acc.length = na := ⟨_, rfl⟩
  have HNA : Hid (acc.length = na) := hna
  rw [hna] at c0 t hO HB hm hby2 hok hlen
  have hrow := World.ownsRow.lt hO
  clear hna hown hblk
  go_enter Try.func40, Try.ntmps40
  go_upto_region 2 with fail
  go_wp2_with (at_builtin; refine Lib.wpList_append_own_string _ rfl (.tmp 19) (.tmp 20) 61 9 rfl base 5 i Try.underlying61 Try.underlying9 hi hz hsz hby _ na (cellsL acc) rfl hO s rfl hm hby2 hle ?_; intro v' w2 ho2 hg2 _; obtain ⟨a', c', rfl⟩ := row_val ho2; have hb2 := grown_blk HB.out hg2 hrow hlt; have d0 : w2.cell? ⟨P, 0, none⟩ = some (.slice a na c) := hb2.cell 0; have f0 := hb2.frozen 0)
  go_end0
  have hbel : Below P w w2 := (Below.refl P w).grown hg2 (by omega) (fun k hk => by have := (hrow k hk).1; omega)
  refine ⟨rfl, hbel.setCell (p := ⟨P, 0, none⟩) (Nat.le_refl _) _, ⟨⟨_, hb2.set 0 _, ?_⟩, hlt, ?_, ?_⟩⟩
  · show World.ownsRow _ base 5 1 _ (acc ++ s.data.toList).length (cellsL (acc ++ s.data.toList))
    have e1 : (acc ++ s.data.toList).length = na + s.size := by rw [List.length_append, HNA.out, ← Lib.size_eq]
    have e2 : cellsL (acc ++ s.data.toList) = cellsL acc ++ Lib.strCells s := by rw [strCells_eq]; simp [cellsL]
    rw [e1, e2]
    exact ownsRow_setCell_below ho2 (a := ⟨P, 0, none⟩) hlt _
  · rw [set_size]; exact Nat.le_trans hle hg2.size
  · rw [List.length_append, HNA.out, ← Lib.size_eq]; exact hok
theorem write_no (P base : Nat) (acc : List UInt8) (s : ByteArray) (hs : s.size ≤ 17179869184) (w : World) (h : Pr w P base acc) (hok : ¬ acc.length + s.size ≤ 65536) :
    Calls Try.prog 40 #[.pointer (some ⟨P, 0, none⟩), .string s] w fun e w' => e = lostL 2 0 ∧ Below P w w' := by
  obtain ⟨⟨v, hblk, hown⟩, hlt, hle, hlen⟩ := h
  have c0 : w.cell? ⟨P, 0, none⟩ = some v := hblk.cell 0
  have hform : ∃ a c, v = .slice a acc.length c := by
    rcases hown.form with ⟨rfl, rfl⟩ | ⟨g, cap, rfl, _⟩
    · exact ⟨none, 0, rfl⟩
    · exact ⟨_, _, rfl⟩
  obtain ⟨a, c, rfl⟩ := hform
  have t : decide ((65536 : Int) < (acc.length : Int) + (s.size : Int)) = true := decide_eq_true (by omega)
  generalize acc.length = na at *
  clear hown hblk
  go_enter Try.func40, Try.ntmps40
  go_wp2_with fail
  exact ⟨rfl, rfl, Below.refl _ _⟩
theorem write_any (P base : Nat) (acc : List UInt8) (s : ByteArray) (hs : s.size ≤ 17179869184) (w : World) (h : Pr w P base acc) :
    Calls Try.prog 40 #[.pointer (some ⟨P, 0, none⟩), .string s] w (WrE P base acc s.data.toList w) := by
  by_cases hok : acc.length + s.size ≤ 65536
  · refine (write_ok P base acc s w h hok).mono ?_
    rintro _ w' ⟨rfl, h1, h2⟩
    exact ⟨h1, by rw [if_pos (by rw [← Lib.size_eq]; exact hok)]; exact ⟨rfl, h2⟩⟩
  · refine (write_no P base acc s hs w h hok).mono ?_
    rintro _ w' ⟨rfl, h1⟩
    exact ⟨h1, by rw [if_neg (by rw [← Lib.size_eq]; exact hok)]⟩
theorem WrE.cases {P base : Nat} {acc add : List UInt8} {w : World} {e : Ending} {w' : World} (h : WrE P base acc add w e w') :
    (acc.length + add.length ≤ 65536 ∧ e = .returned (.tuple #[]) ∧ Below P w w' ∧ Pr w' P base (acc ++ add)) ∨ (¬ acc.length + add.length ≤ 65536 ∧ e = lostL 2 0 ∧ Below P w w') := by
  unfold WrE at h
  obtain ⟨h1, h2⟩ := h
  split at h2
  · rename_i hc; exact .inl ⟨hc, h2.1, h1, h2.2⟩
  · rename_i hc; exact .inr ⟨hc, h2, h1⟩
theorem WrE.ok {P base : Nat} {acc add : List UInt8} {w w' : World} (h1 : Below P w w') (h2 : Pr w' P base (acc ++ add)) : WrE P base acc add w (.returned (.tuple #[])) w' :=
  ⟨h1, by rw [if_pos (by have := h2.len; rw [List.length_append] at this; exact this)]; exact ⟨rfl, h2⟩⟩
theorem WrE.no {P base : Nat} {acc add : List UInt8} {w w' : World} (h1 : Below P w w') (h2 : ¬ acc.length + add.length ≤ 65536) : WrE P base acc add w (lostL 2 0) w' := ⟨h1, by rw [if_neg h2]⟩
end Go.Proofs.Ytffhbellpcneeaa
