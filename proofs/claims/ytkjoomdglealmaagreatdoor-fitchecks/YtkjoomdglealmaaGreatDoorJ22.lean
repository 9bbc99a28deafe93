/- Contracts and lemmas (nothing is claimed here). -/
import Derived.Test.YtkjoomdglealmaaGreatDoorJ21
import Derived.Maps.AppendAt
import Derived.Laws.OwnMore
import Derived.Test.YtkjoomdglealmaaGreatDoorJ1
namespace Go.Proofs.YtkjoomdglealmaaGreatDoor
open Go.RowKit Go.Vf

theorem awk_make (w : World) (k : Int) (hk : k = 1 ∨ k = 2) : Calls Tryz.prog 13 #[.agg #[.int .u8 7, .bool false, .bool false, .string ⟨#[]⟩, .string ⟨#[]⟩, .slice (some ⟨w.heap.size + 1, 0, none⟩) 2 2]] ((w.alloc (.cells #[.int .u8 k, .bool false, .bool false, .string ⟨#[]⟩, .string ⟨#[]⟩, .slice none 0 0] 30)).alloc (.cells #[.int .u8 1, .bool false, .bool false, .string ⟨#[]⟩, .string ⟨#[]⟩, .slice none 0 0, .int .u8 7, .bool false, .bool false, .string ⟨#[]⟩, .string ⟨#[]⟩, .slice (some ⟨w.heap.size, 0, none⟩) 1 1] 30)) fun e w' => Below w.heap.size w w' ∧ ∃ v, e = .returned (.tuple #[v, .int .i64 0]) ∧ VIn w' w.heap.size w'.heap.size v (pAw k) := by
  obtain ⟨h1, h2, h3⟩ := awk_pin w k
  obtain ⟨m1, m2, _⟩ := awk_may k hk
  refine (make_any (pAw k) (awk_pfits k (by omega)) (some ⟨w.heap.size + 1, 0, none⟩) 2 w.heap.size (w.heap.size + 1 + 1) ((w.alloc (.cells #[.int .u8 k, .bool false, .bool false, .string ⟨#[]⟩, .string ⟨#[]⟩, .slice none 0 0] 30)).alloc (.cells #[.int .u8 1, .bool false, .bool false, .string ⟨#[]⟩, .string ⟨#[]⟩, .slice none 0 0, .int .u8 7, .bool false, .bool false, .string ⟨#[]⟩, .string ⟨#[]⟩, .slice (some ⟨w.heap.size, 0, none⟩) 1 1] 30)) (by rw [h2]; exact Nat.le_refl _) h1).mono ?_
  rintro e w' ⟨hb, ⟨h4, _⟩ | ⟨_, h4, _⟩ | ⟨_, _, v, he, hv⟩⟩
  · rw [m2] at h4; cases h4
  · rw [m1] at h4; cases h4
  · exact ⟨h3.trans (hb.mono h3.size), v, he, hv.mono (Nat.le_refl _) h3.size⟩

set_option maxHeartbeats 4000000 in
set_option maxRecDepth 20000 in
theorem awake_any (w : World) (hT : Tabs w) (hE : ErrT w) : Calls Tryz.prog 9 #[] w fun e w' => e = .returned (.bool true) ∧ Below w.heap.size w w' := by
  have h3z := hT.size
  obtain ⟨hin, hS, hb3⟩ := awk_fin w
  go_enter Tryz.func9, Tryz.ntmps9
  go_upto_region 2 with fail
  generalize (((w.alloc (.cells #[.string ⟨#[99]⟩, .int .u8 2, .bool false, .int .u8 0, .bool false, .bool false, .string ⟨#[]⟩, .bool false, .string ⟨#[]⟩, .int .i64 0, .int .i64 0, .bool false, .bool false, .slice none 0 0] 57)).alloc (.cells #[.string ⟨#[97]⟩, .int .u8 1, .bool false, .int .u8 0, .bool false, .bool false, .string ⟨#[]⟩, .bool false, .string ⟨#[]⟩, .int .i64 0, .int .i64 0, .bool false, .bool false, .slice none 0 0, .string ⟨#[98]⟩, .int .u8 7, .bool false, .int .u8 0, .bool false, .bool false, .string ⟨#[]⟩, .bool false, .string ⟨#[]⟩, .int .i64 0, .int .i64 0, .bool false, .bool false, .slice (some ⟨w.heap.size, 0, none⟩) 1 1] 57)).alloc (.cells #[.int .i64 9, .slice (some ⟨w.heap.size + 1, 0, none⟩) 2 2] 24)) = w3 at *
  have hsz3 := hb3.size
  have hmk := awk_make w3 2 (.inr rfl)
  go_wp2_with fail
  refine hmk.mono ?_
  rintro _ w4 ⟨hb4, v, rfl, hv⟩
  have hmk2 := awk_make w4 1 (.inl rfl)
  clear hmk
  go_wp2_with fail
  refine hmk2.mono ?_
  rintro _ w5 ⟨hb5, u, rfl, hu⟩
  have hb35 := hb4.trans (hb5.mono hb4.size)
  have hb05 := hb3.trans (hb35.mono hb3.size)
  have hS5 := hS.old hb35
  have hsl := hS.lt
  have hsz5 := hb05.size
  have hck := fitCheck_any 9 lAw awk_fits (by decide) (some ⟨w.heap.size + 1, 0, none⟩) 2 w.heap.size (w.heap.size + 1 + 1) (Nat.le_refl _) v (pAw 2) (awk_may 2 (.inr rfl)).1 (awk_may 2 (.inr rfl)).2.2 w3.heap.size w4.heap.size w5 (by have := hb35.size; omega) hb5.size (hin.keep hb35 (by omega)) (hv.old hb5 (Nat.le_refl _)) (hT.own hb05) (hE.old (by omega) hb05)
  rw [awk_tour, awk_good] at hck
  have x0 : w5.cell? ⟨w.heap.size + 1 + 1, 0, none⟩ = some (.int .i64 9) := hS5.cell 0
  have x1 : w5.cell? ⟨w.heap.size + 1 + 1, 1, none⟩ = some (.slice (some ⟨w.heap.size + 1, 0, none⟩) 2 2) := hS5.cell 1
  clear hmk2
  go_wp2_with fail
  refine hck.mono ?_
  rintro e w6 ⟨hb6, he⟩
  have he' : e = .returned .nilIface := he
  subst he'
  have hb36 := hb35.trans (hb6.mono hb35.size)
  have hb06 := hb05.trans (hb6.mono hb05.size)
  have hS6 := hS5.old hb6
  have hck2 := fitCheck_any 9 lAw awk_fits (by decide) (some ⟨w.heap.size + 1, 0, none⟩) 2 w.heap.size (w.heap.size + 1 + 1) (Nat.le_refl _) u (pAw 1) (awk_may 1 (.inl rfl)).1 (awk_may 1 (.inl rfl)).2.2 w4.heap.size w5.heap.size w6 (by have := hb36.size; omega) hb6.size (hin.keep hb36 (by omega)) (hu.old hb6 (Nat.le_refl _)) (hT.own hb06) (hE.old (by omega) hb06)
  rw [awk_tour, awk_bad] at hck2
  have y0 : w6.cell? ⟨w.heap.size + 1 + 1, 0, none⟩ = some (.int .i64 9) := hS6.cell 0
  have y1 : w6.cell? ⟨w.heap.size + 1 + 1, 1, none⟩ = some (.slice (some ⟨w.heap.size + 1, 0, none⟩) 2 2) := hS6.cell 1
  clear hck x0 x1 he
  go_wp2_with fail
  refine hck2.mono ?_
  rintro e w7 ⟨hb7, v7, why, hev, ⟨F, pa, pc, rfl, hF0, hF1, hF2, hF3⟩, hW⟩
  subst hev
  obtain ⟨G, ga, gn, gc, rfl, hG⟩ : ∃ G a n c, why = .iface 98 (.pointer (some ⟨G, 0, none⟩)) ∧ Blk w7 G 100 #[.int .i64 4, .int .i64 0, .slice a n c, .nilIface] := by
    rcases hW with ⟨h, _⟩ | ⟨h, _⟩ | ⟨_, G, a, n, c, h1, h2⟩
    · cases h
    · cases h
    · exact ⟨G, a, n, c, h1, h2⟩
  have hb07 := hb06.trans (hb7.mono hb06.size)
  have hb78 := (Below.refl w7.heap.size w7).alloc (Nat.le_refl _) (.cells #[.int .i64 1, .int .i64 0] 3)
  have hn8 := Blk.new w7 3 #[.int .i64 1, .int .i64 0]
  have hs8 := alloc_size w7 (.cells #[.int .i64 1, .int .i64 0] 3)
  have hsz7 := hb07.size
  have hi1 : Ints (w7.alloc (.cells #[.int .i64 1, .int .i64 0] 3)).heap.size (w7.alloc (.cells #[.int .i64 1, .int .i64 0] 3)) (.slice pa ([1, 0] : List Int).length pc) [1, 0] := (hF2.ints.below hb78 (Nat.le_refl _)).mono hb78.size
  have hi2 : Ints (w7.alloc (.cells #[.int .i64 1, .int .i64 0] 3)).heap.size (w7.alloc (.cells #[.int .i64 1, .int .i64 0] 3)) (.slice (some ⟨w7.heap.size, 0, none⟩) 2 2) [1, 0] := by
    refine .inr ⟨w7.heap.size, 0, 2, rfl, by rw [hs8]; omega, fun j hj => ?_⟩
    rcases j with _ | _ | j
    · exact hn8.cell 0
    · exact hn8.cell 1
    · simp at hj; omega
  have htold := told_fault F G 120 0 4 (.slice pa ([1, 0] : List Int).length pc) (.slice (some ⟨w7.heap.size, 0, none⟩) 2 2) [1, 0] (by decide) (w7.alloc (.cells #[.int .i64 1, .int .i64 0] 3)) (by decide) (by decide) (hE.old (by omega) (hb07.trans (hb78.mono hb07.size))) (hF1.old hb78) ((hG.old hb78).cell 0) hi1 hi2 (by rw [hs8]; omega)
  have hb08 := hb07.trans (hb78.mono hb07.size)
  clear hck2 y0 y1 hF1 hF2 hF3 hW hG hn8 hi1 hi2 hS hS5 hS6 hin hv hu
  go_wp2_with fail
  refine htold.mono ?_
  rintro _ w9 ⟨rfl, hb9⟩
  have hb09 := hb08.trans (hb9.mono hb08.size)
  clear htold
  go_wp2_with fail
  go_ret
  exact ⟨rfl, hb09⟩
end Go.Proofs.YtkjoomdglealmaaGreatDoor

namespace Go.Proofs.YtkjoomdglealmaaGreatDoor
open Go.RowKit Go.Vf
theorem info27p : (Tryz.prog.info? 30).map (fun i => (i.zero, i.size, i.bytes)) = some (some (.agg #[.int .u8 0, .bool false, .bool false, .string ⟨#[]⟩, .string ⟨#[]⟩, .slice none 0 0]), 6, 72) := by kernel_rfl
def tupP (l : List Prt) : Prt := .mk 7 false false ⟨#[]⟩ ⟨#[]⟩ l
theorem own_keep {w w' : World} {base e size : Nat} {v : Value} {n : Nat} {xs : List Value} (ho : w.ownsRow base e size v n xs) (hk : ∀ b, base ≤ b → b < w.heap.size → w'.heap[b]? = w.heap[b]?) : w'.ownsRow base e size v n xs := by
  obtain ⟨h1, h2⟩ := ho
  refine ⟨h1, ?_⟩
  rcases h2 with h2 | ⟨k, cap, cur, h3, h4, h5, h6⟩
  · exact .inl h2
  · exact .inr ⟨k, cap, cur, h3, h4, by rw [hk k h4 (Array.getElem?_eq_some_iff.1 h5).1]; exact h5, h6⟩

inductive PAt (w : World) (S : Nat → Prop) : Prt → Option Addr → Prop where
  | nil {p : Prt} {a : Option Addr} : p.items = [] → PAt w S p a
  | cons {p : Prt} {b off : Nat} (A : Nat → Option Addr) (C : Nat → Nat) : S b → (∀ j (hj : j < p.items.length), Row6 w b (off + j * 6) p.items[j] (A j) (C j)) →
      (∀ j (hj : j < p.items.length), PAt w S p.items[j] (A j)) → PAt w S p (some ⟨b, off, none⟩)
theorem PAt.of {w : World} {lo n : Nat} {p : Prt} {a : Option Addr} (h : PIn w lo n p a) {S : Nat → Prop} (hS : ∀ b, lo ≤ b → b < n → S b) : PAt w S p a := by
  induction h with
  | nil h => exact .nil h
  | cons A C h1 h2 hr _ ih => exact .cons A C (hS _ h1 h2) hr ih
theorem PAt.to {w : World} {lo n : Nat} {p : Prt} {a : Option Addr} {S : Nat → Prop} (h : PAt w S p a) (hS : ∀ b, S b → lo ≤ b ∧ b < n) : PIn w lo n p a := by
  induction h with
  | nil h => exact .nil h
  | cons A C h1 hr _ ih => exact .cons A C (hS _ h1).1 (hS _ h1).2 hr ih
theorem PAt.keep {w w' : World} {p : Prt} {a : Option Addr} {S S' : Nat → Prop} (h : PAt w S p a) (hk : ∀ b, S b → w'.heap[b]? = w.heap[b]?) (hS : ∀ b, S b → S' b) : PAt w' S' p a := by
  induction h with
  | nil h => exact .nil h
  | cons A C h1 hr _ ih =>
    refine .cons A C (hS _ h1) (fun j hj => ?_) ih
    have q := fun k => cell_of_block (hk _ h1) k
    obtain ⟨h0, h1, h2, h3, h4, h5⟩ := hr j hj
    exact ⟨(q _).trans h0, (q _).trans h1, (q _).trans h2, (q _).trans h3, (q _).trans h4, (q _).trans h5⟩

abbrev Trp := Prt × Option Addr × Nat
def cellsT (t : Trp) : List Value := [.int .u8 t.1.kind, .bool t.1.yes, .bool t.1.neg, .string t.1.mag, .string t.1.raw, .slice t.2.1 t.1.items.length t.2.2]
def flatT (ts : List Trp) : List Value := ts.flatMap cellsT
theorem flatT_len (ts : List Trp) : (flatT ts).length = ts.length * 6 := by
  induction ts with
  | nil => rfl
  | cons t r ih => rw [flatT, List.flatMap_cons, List.length_append, ← flatT, ih, List.length_cons]; simp [cellsT]; omega
theorem flatT_at : ∀ (ts : List Trp) (j : Nat) (hj : j < ts.length) (k : Nat), k < 6 → (flatT ts)[j * 6 + k]? = (cellsT ts[j])[k]?
  | t :: r, 0, _, k, hk => by
    rw [flatT, List.flatMap_cons, Nat.zero_mul, Nat.zero_add, List.getElem?_append_left (by simp [cellsT]; omega)]
    rfl
  | t :: r, j + 1, hj, k, hk => by
    have h6 : (cellsT t).length = 6 := rfl
    rw [flatT, List.flatMap_cons, List.getElem?_append_right (by omega), ← flatT, show (j + 1) * 6 + k - (cellsT t).length = j * 6 + k by omega, flatT_at r j (by simpa using hj) k hk]
    rfl

structure PItm (lo : Nat) (wr : World) (v : Value) (acc : List Prt) : Prop where
  row : ∃ ts : List Trp, ts.map (·.1) = acc ∧ wr.ownsRow lo 30 6 v ts.length (flatT ts) ∧ ∀ t ∈ ts, PAt wr (fun b => lo ≤ b ∧ b < wr.heap.size ∧ v.ownBlock ≠ some b) t.1 t.2.1
  len : acc.length ≤ 1024
theorem PItm.nil (lo : Nat) (wr : World) : PItm lo wr (.slice none 0 0) [] := ⟨⟨[], rfl, World.ownsRow_nil _ _ _ _, by simp⟩, by simp⟩
theorem PItm.keep {lo : Nat} {wr wr' : World} {v : Value} {acc : List Prt} (h : PItm lo wr v acc) (hk : ∀ b, lo ≤ b → b < wr.heap.size → wr'.heap[b]? = wr.heap[b]?) (hs : wr.heap.size ≤ wr'.heap.size) : PItm lo wr' v acc := by
  obtain ⟨⟨ts, e, h1, h2⟩, h3⟩ := h
  exact ⟨⟨ts, e, own_keep h1 hk, fun t ht => (h2 t ht).keep (fun b q => hk b q.1 q.2.1) (fun b q => ⟨q.1, by omega, q.2.2⟩)⟩, h3⟩
theorem PItm.old {lo : Nat} {wr wr' : World} {v : Value} {acc : List Prt} (h : PItm lo wr v acc) (hb : Below wr.heap.size wr wr') : PItm lo wr' v acc := h.keep (fun b _ q => hb.block b q) hb.size
theorem PItm.form {lo : Nat} {wr : World} {v : Value} {acc : List Prt} (h : PItm lo wr v acc) : ∃ a c, v = .slice a acc.length c := by
  obtain ⟨⟨ts, rfl, h1, h2⟩, h3⟩ := h
  rcases h1.2 with ⟨rfl, e⟩ | ⟨g, cap, cur, rfl, _⟩
  · exact ⟨none, 0, by rw [List.length_map, e]⟩
  · exact ⟨_, _, by rw [List.length_map]⟩
theorem PItm.row_lt {lo : Nat} {wr : World} {v : Value} {acc : List Prt} (h : PItm lo wr v acc) : ∀ k, v.ownBlock = some k → k < wr.heap.size := by
  obtain ⟨⟨ts, rfl, h1, h2⟩, h3⟩ := h
  intro k hk
  exact (World.ownsRow.lt h1 k hk).2
theorem PItm.pin {lo : Nat} {wr : World} {a : Option Addr} {n c : Nat} {acc : List Prt} (h : PItm lo wr (.slice a n c) acc) : PIn wr lo wr.heap.size (tupP acc) a := by
  obtain ⟨⟨ts, rfl, h1, h2⟩, h3⟩ := h
  have h0 := h1
  rcases h1.2 with ⟨e, e2⟩ | ⟨g, cap, cur, e, q1, q2, _⟩
  · exact .nil (by rw [List.eq_nil_of_length_eq_zero e2]; rfl)
  · simp only [Value.slice.injEq] at e
    obtain ⟨rfl, rfl, rfl⟩ := e
    have hc : ∀ j (hj : j < ts.length) k, k < 6 → wr.cell? ⟨g, j * 6 + k, none⟩ = (cellsT ts[j])[k]? := fun j hj k hk => by
      rw [World.ownsRow.cellAt h0 _ (by omega), flatT_at ts j hj k hk]
    have hA : ∀ j (hj : j < ts.length), (ts[j]?.map (·.2.1)).getD none = ts[j].2.1 := fun j hj => by rw [List.getElem?_eq_getElem hj]; rfl
    have hC : ∀ j (hj : j < ts.length), (ts[j]?.map (·.2.2)).getD 0 = ts[j].2.2 := fun j hj => by rw [List.getElem?_eq_getElem hj]; rfl
    refine .cons (fun j => (ts[j]?.map (·.2.1)).getD none) (fun j => (ts[j]?.map (·.2.2)).getD 0) q1 (Array.getElem?_eq_some_iff.1 q2).1 (fun j hj => ?_) (fun j hj => ?_)
    · have hj' : j < ts.length := by simpa [tupP, Prt.items] using hj
      have e : (tupP (ts.map (·.1))).items[j] = ts[j].1 := by simp [tupP, Prt.items]
      simp only [hA j hj', hC j hj', e, Nat.zero_add]
      exact ⟨hc j hj' 0 (by omega), hc j hj' 1 (by omega), hc j hj' 2 (by omega), hc j hj' 3 (by omega), hc j hj' 4 (by omega), hc j hj' 5 (by omega)⟩
    · have hj' : j < ts.length := by simpa [tupP, Prt.items] using hj
      have e : (tupP (ts.map (·.1))).items[j] = ts[j].1 := by simp [tupP, Prt.items]
      simp only [hA j hj', e]
      exact (h2 _ (List.getElem_mem hj')).to fun b q => ⟨q.1, q.2.1⟩
theorem PItm.more {lo lo2 : Nat} {wr : World} {v : Value} {acc : List Prt} (h : PItm lo wr v acc) (hlo : lo ≤ lo2) (hlo2 : lo2 ≤ wr.heap.size) (hrow : ∀ k, v.ownBlock = some k → k < lo2) (ha : acc.length < 1024) {p : Prt} {ap : Option Addr} {cp : Nat} (hx : PIn wr lo2 wr.heap.size p ap)
    {ops : Array Oper} {rest : List Oper} {o : Oper} {a : Act} {Q : Exit → Act → World → Prop} (s y : Operand) (hgd : o.guard = none) (ho : o.op = .call { callee := .builtin .append, args := #[s, y], argTypes := #[28, 28] }) (hs : a.eval s = v) (hy : a.eval y = .slice (some ⟨wr.heap.size, 0, none⟩) 1 1)
    (hK : ∀ v' w', PItm lo w' v' (acc ++ [p]) → Below lo wr w' → (∀ b, b < wr.heap.size → v.ownBlock ≠ some b → w'.heap[b]? = wr.heap[b]?) → wpList Tryz.prog ops Q rest (a.put o.dst v') w') : wpList Tryz.prog ops Q (o :: rest) a (wr.alloc (.cells #[.int .u8 p.kind, .bool p.yes, .bool p.neg, .string p.mag, .string p.raw, .slice ap p.items.length cp] 30)) := by
  obtain ⟨i, hi, hzz⟩ := Option.map_eq_some_iff.1 info27p
  simp only [Prod.mk.injEq] at hzz
  obtain ⟨hz, hsz, hby⟩ := hzz
  obtain ⟨⟨ts, rfl, h1, h2⟩, h3⟩ := h
  rw [List.length_map] at ha h3
  have hBk := Blk.new wr 30 #[.int .u8 p.kind, .bool p.yes, .bool p.neg, .string p.mag, .string p.raw, .slice ap p.items.length cp]
  have hbA := (Below.refl wr.heap.size wr).alloc (Nat.le_refl _) (.cells #[.int .u8 p.kind, .bool p.yes, .bool p.neg, .string p.mag, .string p.raw, .slice ap p.items.length cp] 30)
  have hsA := alloc_size wr (.cells #[.int .u8 p.kind, .bool p.yes, .bool p.neg, .string p.mag, .string p.raw, .slice ap p.items.length cp] 30)
  have hownA := World.ownsRow.alloc h1 (.cells #[.int .u8 p.kind, .bool p.yes, .bool p.neg, .string p.mag, .string p.raw, .slice ap p.items.length cp] 30)
  have hfl : flatT [(p, ap, cp)] = [.int .u8 p.kind, .bool p.yes, .bool p.neg, .string p.mag, .string p.raw, .slice ap p.items.length cp] := rfl
  generalize hW : wr.alloc (.cells #[.int .u8 p.kind, .bool p.yes, .bool p.neg, .string p.mag, .string p.raw, .slice ap p.items.length cp] 30) = wA at *
  have hnews : ∀ j u, (flatT [(p, ap, cp)])[j]? = some u → wA.cell? ((⟨wr.heap.size, 0, none⟩ : Addr).add j) = some u := fun j u hu => by
    rw [Go.WideShapes.add_plain, Nat.zero_add, hBk.cell j, ← hu, hfl]
    simp
  refine wpList_append_own_at _ hgd s y 28 ho lo 30 i _ 6 72 Tryz.underlying28 hi hz hsz hby rfl (by decide) v ts.length (flatT ts) hs hownA ⟨wr.heap.size, 0, none⟩ 1 1 (flatT [(p, ap, cp)]) hy (flatT_len _) hnews (by rw [hfl]; intro u hu; simp at hu; rcases hu with rfl | rfl | rfl | rfl | rfl | rfl <;> rfl) (by simp [maxLen]; omega) (by omega) (by omega) ?_
  intro v' w' ho' hg' _ hat
  have hb' : Below lo wr w' := (hbA.mono (by omega)).grown hg' (by rw [hsA]; omega) (fun k hk => (World.ownsRow.lt hownA k hk).1)
  have hblk : ∀ b, b < wr.heap.size → v.ownBlock ≠ some b → w'.heap[b]? = wr.heap[b]? := fun b hb hne => (hg'.block b (by rw [hsA]; omega) (fun e => hne e.symm)).trans (hbA.block b hb)
  have hS : ∀ b, b < wr.heap.size → v.ownBlock ≠ some b → v'.ownBlock ≠ some b := fun b hb hne e => by
    rcases hat with h | h
    · exact hne (h.symm.trans e)
    · rw [e] at h; simp only [Option.some.injEq] at h; rw [hsA] at h; omega
  have hsz' := hb'.size
  refine hK v' w' ⟨⟨ts ++ [(p, ap, cp)], by simp, by rw [List.length_append, flatT, List.flatMap_append]; exact ho', fun t ht => ?_⟩, by simp; omega⟩ hb' hblk
  rcases List.mem_append.1 ht with ht | ht
  · exact (h2 t ht).keep (fun b q => hblk b q.2.1 q.2.2) (fun b q => ⟨q.1, by omega, hS b q.2.1 q.2.2⟩)
  · simp only [List.mem_singleton] at ht
    subst ht
    have hne : ∀ b, lo2 ≤ b → v.ownBlock ≠ some b := fun b hb e => by have := hrow b e; omega
    have hx' : PAt wr (fun b => lo2 ≤ b ∧ b < wr.heap.size) p ap := PAt.of hx fun b q1 q2 => ⟨q1, q2⟩
    exact hx'.keep (fun b q => hblk b q.2 (hne b q.1)) (fun b q => ⟨by omega, by omega, hS b q.2 (hne b q.1)⟩)
end Go.Proofs.YtkjoomdglealmaaGreatDoor
