/- The items that lit's reader has read, in memory (lemmas; nothing is claimed here). -/
import Derived.Test.YtffhbellpcneeaaLList
import Derived.Maps.AppendAt
namespace Go.Proofs.Ytffhbellpcneeaa
open Go.RowKit Go.Vf
theorem txt_pos {p : Prt} (hp : may p = true) : 0 < (txt p).length := by
  have h := txt_head hp [41]
  cases ht : txt p with
  | nil => rw [ht] at h; simp [List.isPrefixOf] at h
  | cons a r => simp
theorem list_deep (B k D : Nat) (s : ByteArray) (hD : 16 < D) (hD2 : D ≤ 1000) (w : World) (h : Rdr w B s k) :
    Calls Try.prog 52 #[.pointer (some ⟨B, 0, none⟩), .int .i64 (D : Int)] w fun e w' => e = lostL 100 (k : Int) ∧ Below B w w' := by
  obtain ⟨c0, c1, f1⟩ := h.two
  have t : decide ((D : Int) ≤ 16) = false := decide_eq_false (by omega)
  have hnd := need_not (k : Int) w
  go_enter Try.func52, Try.ntmps52
  go_wp2_with fail
  refine hnd.mono ?_
  rintro _ _ ⟨rfl, rfl⟩
  exact ⟨rfl, rfl, Below.refl _ _⟩

/-- The value v, in blocks of S, is what p says. -/
inductive VAt (w : World) (S : Nat → Prop) : Value → Prt → Prop where
  | null : VAt w S .nilIface (.mk 0 false false ⟨#[]⟩ ⟨#[]⟩ [])
  | truth (y : Bool) : VAt w S (.iface 74 (.agg #[.bool y])) (.mk 1 y false ⟨#[]⟩ ⟨#[]⟩ [])
  | num (b : Bool) (m : ByteArray) : VAt w S (.iface 76 (.agg #[.bool b, .string m])) (.mk 2 false b m ⟨#[]⟩ [])
  | raw (k : Int) (r : ByteArray) : isRawK k = true → VAt w S (.iface 81 (.agg #[.int .u8 k, .string r])) (.mk k false false ⟨#[]⟩ r [])
  | tup {l : List Prt} {g c : Nat} {a : Option Addr} (V : Nat → Value) : S g → Blk w g 110 #[.slice a l.length c, .int .i64 ((depL l + 1 : Nat) : Int)] →
      (∀ j, j < l.length → ∃ h off, a = some ⟨h, off, none⟩ ∧ S h ∧ w.cell? ⟨h, off + j, none⟩ = some (V j)) → (∀ j (hj : j < l.length), VAt w S (V j) l[j]) →
      VAt w S (.iface 78 (.pointer (some ⟨g, 0, none⟩))) (.mk 7 false false ⟨#[]⟩ ⟨#[]⟩ l)
theorem VAt.of {w : World} {lo n : Nat} {v : Value} {p : Prt} (h : VIn w lo n v p) {S : Nat → Prop} (hS : ∀ b, lo ≤ b → b < n → S b) : VAt w S v p := by
  induction h with
  | null => exact .null
  | truth y => exact .truth y
  | num b m => exact .num b m
  | raw k r hk => exact .raw k r hk
  | tup V h1 h2 h3 h4 _ ih =>
    refine .tup V (hS _ h1 h2) h3 (fun j hj => ?_) ih
    obtain ⟨h, off, e, q1, q2, q3⟩ := h4 j hj
    exact ⟨h, off, e, hS _ q1 q2, q3⟩
theorem VAt.to {w : World} {lo n : Nat} {v : Value} {p : Prt} {S : Nat → Prop} (h : VAt w S v p) (hS : ∀ b, S b → lo ≤ b ∧ b < n) : VIn w lo n v p := by
  induction h with
  | null => exact .null
  | truth y => exact .truth y
  | num b m => exact .num b m
  | raw k r hk => exact .raw k r hk
  | tup V h1 h3 h4 _ ih =>
    refine .tup V (hS _ h1).1 (hS _ h1).2 h3 (fun j hj => ?_) ih
    obtain ⟨h, off, e, q1, q3⟩ := h4 j hj
    exact ⟨h, off, e, (hS _ q1).1, (hS _ q1).2, q3⟩
theorem VAt.keep {w w' : World} {v : Value} {p : Prt} {S S' : Nat → Prop} (h : VAt w S v p) (hk : ∀ b, S b → w'.heap[b]? = w.heap[b]?) (hS : ∀ b, S b → S' b) : VAt w' S' v p := by
  induction h with
  | null => exact .null
  | truth y => exact .truth y
  | num b m => exact .num b m
  | raw k r hk => exact .raw k r hk
  | tup V h1 h3 h4 _ ih =>
    refine .tup V (hS _ h1) ((hk _ h1).trans h3) (fun j hj => ?_) ih
    obtain ⟨h, off, e, q1, q3⟩ := h4 j hj
    exact ⟨h, off, e, hS _ q1, (cell_block (hk h q1) _).trans q3⟩

/-- The items that were read, in memory. -/
structure Itm (B : Nat) (w wr : World) (v : Value) (acc : List Prt) (n : Nat) : Prop where
  row : ∃ vs : List Value, ∃ hl : vs.length = acc.length, VOwn wr w.heap.size v vs ∧ ∀ j (hj : j < acc.length), VAt wr (fun b => w.heap.size ≤ b ∧ b < wr.heap.size ∧ v.ownBlock ≠ some b) (vs[j]'(by omega)) acc[j]
  len : acc.length ≤ 1024
  dep : ∀ x ∈ acc, dep x ≤ n
theorem Itm.nil (B : Nat) (w wr : World) (n : Nat) : Itm B w wr (.slice none 0 0) [] n := ⟨⟨[], rfl, VOwn.nil _ _, fun j hj => by simp at hj⟩, by simp, by simp⟩
theorem Itm.keep {B : Nat} {w wr wr' : World} {v : Value} {acc : List Prt} {n : Nat} (h : Itm B w wr v acc n) (hB : B < w.heap.size) (hk : ∀ b, b < wr.heap.size → b ≠ B → wr'.heap[b]? = wr.heap[b]?) (hs : wr.heap.size ≤ wr'.heap.size) : Itm B w wr' v acc n := by
  obtain ⟨⟨vs, hl, h1, h2⟩, h3, h4⟩ := h
  exact ⟨⟨vs, hl, h1.keep fun b q1 q2 => hk b q2 (by omega), fun j hj => (h2 j hj).keep (fun b q => hk b q.2.1 (by omega)) (fun b q => ⟨q.1, by omega, q.2.2⟩)⟩, h3, h4⟩
theorem Itm.rk {B k : Nat} {s : ByteArray} {w wr wr' : World} {v : Value} {acc : List Prt} {n : Nat} (h : Itm B w wr v acc n) (hB : B < w.heap.size) (hr : Rk B s k wr wr') : Itm B w wr' v acc n := h.keep hB hr.keep hr.size
theorem Itm.len_eq {B : Nat} {w wr : World} {v : Value} {acc : List Prt} {n : Nat} (h : Itm B w wr v acc n) : ∃ a c, v = .slice a acc.length c := by
  obtain ⟨⟨vs, hl, h1, h2⟩, h3, h4⟩ := h
  rcases h1.form with ⟨rfl, e⟩ | ⟨g, cap, rfl, _⟩
  · subst e; exact ⟨none, 0, by rw [← hl]; rfl⟩
  · exact ⟨_, _, by rw [hl]⟩
/-- One more item, read in blocks from lo on. -/
theorem Itm.more {B lo : Nat} {w wr : World} {v : Value} {acc : List Prt} {n : Nat} (h : Itm B w wr v acc n) (hw : w.heap.size ≤ lo) (hlo : lo ≤ wr.heap.size) (hrow : ∀ k, v.ownBlock = some k → k < lo) (ha : acc.length < 1024) {x : Value} {p : Prt} (hp : Go.Vf.dep p ≤ n) (hx : VIn wr lo wr.heap.size x p)
    {ops : Array Oper} {rest : List Oper} {o : Oper} {a : Act} {Q : Exit → Act → World → Prop} (s y : Operand) (hgd : o.guard = none) (ho : o.op = .call { callee := .builtin .append, args := #[s, y], argTypes := #[77, 77] }) (hs : a.eval s = v) (hy : a.eval y = .slice (some ⟨wr.heap.size, 0, none⟩) 1 1)
    (hK : ∀ v' w', Itm B w w' v' (acc ++ [p]) n → Below w.heap.size wr w' → wpList Try.prog ops Q rest (a.put o.dst v') w') : wpList Try.prog ops Q (o :: rest) a (wr.alloc (.cells #[x] 33)) := by
  obtain ⟨i, hi, hz, hsz, hby⟩ := info33
  obtain ⟨⟨vs, hl, h1, h2⟩, h3, h4⟩ := h
  have hbA := (Below.refl wr.heap.size wr).alloc (Nat.le_refl _) (.cells #[x] 33)
  have hsA := alloc_size wr (.cells #[x] 33)
  have hownA : (wr.alloc (.cells #[x] 33)).ownsRow w.heap.size 33 1 v vs.length vs := World.ownsRow.alloc h1 (.cells #[x] 33)
  have hnews : ∀ j u, [x][j]? = some u → (wr.alloc (.cells #[x] 33)).cell? ((⟨wr.heap.size, 0, none⟩ : Addr).add j) = some u := fun j u hu => by
    obtain ⟨hj, rfl⟩ := List.getElem?_eq_some_iff.1 hu
    have : j = 0 := by simp at hj; omega
    subst this
    simp [Addr.add]
  refine wpList_append_own_at _ hgd s y 77 ho w.heap.size 33 i .nilIface 1 16 Try.underlying77 hi hz hsz hby rfl (by decide) v vs.length vs hs hownA ⟨wr.heap.size, 0, none⟩ 1 1 [x] hy rfl hnews (by simpa using hx.one) (by simp [maxLen]; omega) (by omega) (by rw [hsA]; omega) ?_
  intro v' w' ho' hg' _ hat
  have hb' : Below w.heap.size wr w' := (hbA.mono (by omega)).grown hg' (by rw [hsA]; omega) (fun k hk => (World.ownsRow.lt hownA k hk).1)
  have hblk : ∀ b, b < wr.heap.size → v.ownBlock ≠ some b → w'.heap[b]? = wr.heap[b]? := fun b hb hne => (hg'.block b (by rw [hsA]; omega) (fun e => hne e.symm)).trans (Below.heap_alloc _ _ _ hb)
  have hS : ∀ b, b < wr.heap.size → v.ownBlock ≠ some b → v'.ownBlock ≠ some b := fun b hb hne e => by
    rcases hat with h | h
    · exact hne (h.symm.trans e)
    · rw [e] at h; simp only [Option.some.injEq] at h; rw [hsA] at h; omega
  have hsz' := hb'.size
  refine hK v' w' ⟨⟨vs ++ [x], by simp [hl], by simpa [VOwn] using ho', fun j hj => ?_⟩, by simp; omega, fun z hz => ?_⟩ hb'
  · by_cases hj' : j < acc.length
    · rw [List.getElem_append_left (by omega), List.getElem_append_left hj']
      exact (h2 j hj').keep (fun b q => hblk b q.2.1 q.2.2) (fun b q => ⟨q.1, by omega, hS b q.2.1 q.2.2⟩)
    · have e : j = acc.length := by simp at hj; omega
      subst e
      rw [List.getElem_append_right (by omega), List.getElem_append_right (by omega)]
      simp only [hl, Nat.sub_self, List.getElem_cons_zero]
      have hne : ∀ b, lo ≤ b → v.ownBlock ≠ some b := fun b hb e => by have := hrow b e; omega
      have hx' : VAt wr (fun b => lo ≤ b ∧ b < wr.heap.size) x p := VAt.of hx fun b q1 q2 => ⟨q1, q2⟩
      exact hx'.keep (fun b q => hblk b q.2 (hne b q.1)) (fun b q => ⟨by omega, by omega, hS b q.2 (hne b q.1)⟩)
  · rcases List.mem_append.1 hz with hz | hz
    · exact h4 z hz
    · simp at hz; subst hz; exact hp
theorem Itm.row_lt {B : Nat} {w wr : World} {v : Value} {acc : List Prt} {n : Nat} (h : Itm B w wr v acc n) : ∀ k, v.ownBlock = some k → k < wr.heap.size := by
  obtain ⟨⟨vs, hl, h1, h2⟩, h3, h4⟩ := h
  intro k hk
  exact (World.ownsRow.lt h1 k hk).2
end Go.Proofs.Ytffhbellpcneeaa
