/- Contracts and lemmas (nothing is claimed here). -/
import Derived.Test.YtkjoomdglealmaaGreatDoorJ4
import Derived.Test.YtkjoomdglealmaaGreatDoorTell
import Derived.Test.YtkjoomdglealmaaGreatDoorJ2
import Derived.Test.YtkjoomdglealmaaGreatDoorJ12
namespace Go.Proofs.YtkjoomdglealmaaGreatDoor
open Go.RowKit Go.Vf

def markB : ByteArray := ⟨#[109, 97, 114, 107]⟩
inductive LIf (w : World) (lo n₀ : Nat) : List Fld → Nat → Prop where
  | row {l : List Fld} {b : Nat} (G : Nat → Nat) : lo ≤ b → b < n₀ → (∀ j, l.length ≤ j → j < l.length + 2 → w.cell? ⟨b, j * 14, none⟩ = some (.string markB) ∧ w.cell? ⟨b, j * 14 + 1, none⟩ = some (.int .u8 99)) →
      (∀ j (hj : j < l.length), RowF w b (j * 14) l[j].own (some ⟨G j, 0, none⟩) l[j].fields.length (l[j].fields.length + 2)) → (∀ j (hj : j < l.length), LIf w lo n₀ l[j].fields (G j)) → LIf w lo n₀ l b
theorem LIf.keep {w w' : World} {lo n₀ : Nat} {l : List Fld} {b : Nat} (h : LIf w lo n₀ l b) (hk : ∀ b, lo ≤ b → b < n₀ → w'.heap[b]? = w.heap[b]?) : LIf w' lo n₀ l b := by
  induction h with
  | row G h1 h2 h3 h4 _ ih =>
    have q := fun k => cell_of_block (hk _ h1 h2) k
    exact .row G h1 h2 (fun j q1 q2 => ⟨(q _).trans (h3 j q1 q2).1, (q _).trans (h3 j q1 q2).2⟩) (fun j hj => (h4 j hj).of q) ih
theorem LIf.mono {w : World} {lo lo' n₀ n : Nat} {l : List Fld} {b : Nat} (h : LIf w lo n₀ l b) (hn : n₀ ≤ n) (hlo : lo' ≤ lo) : LIf w lo' n l b := by
  induction h with
  | row G h1 h2 h3 h4 _ ih => exact .row G (by omega) (by omega) h3 h4 ih
theorem LIf.fin {w : World} {lo n₀ : Nat} {l : List Fld} {b : Nat} (h : LIf w lo n₀ l b) : FIn w lo n₀ l (some ⟨b, 0, none⟩) := by
  induction h with
  | @row l b G h1 h2 h3 h4 _ ih => exact .cons (fun j => some ⟨G j, 0, none⟩) (fun j => (l[j]?.map (fun f => f.fields.length)).getD 0 + 2) h1 h2 (fun j hj => by rw [Nat.zero_add]; simpa [hj] using h4 j hj) (fun j hj => by simp [hj]) ih

def setL (w : World) (b k : Nat) : List Value → World
  | [] => w
  | v :: r => setL (w.setCell ⟨b, k, none⟩ v) b (k + 1) r
theorem setL_other {b h : Nat} (hh : h ≠ b) : ∀ (vs : List Value) (w : World) (k : Nat), (setL w b k vs).heap[h]? = w.heap[h]?
  | [], _, _ => rfl
  | v :: r, w, k => (setL_other hh r _ _).trans (Below.heap_setCell w ⟨b, k, none⟩ v h hh)
theorem setL_size (b : Nat) : ∀ (vs : List Value) (w : World) (k : Nat), (setL w b k vs).heap.size = w.heap.size
  | [], _, _ => rfl
  | v :: r, w, k => (setL_size b r _ _).trans (by simp [World.setCell])
theorem setL_below {B b : Nat} {w : World} (hB : B ≤ b) : ∀ (vs : List Value) (W : World) (k : Nat), Below B w W → Below B w (setL W b k vs)
  | [], _, _, h => h
  | v :: r, _, k, h => setL_below hB r _ _ (h.setCell (p := ⟨b, k, none⟩) hB v)
theorem setL_blk {b : Nat} {t : TypeId} : ∀ (vs : List Value) (w : World) (k : Nat) (cs : Array Value), Blk w b t cs → k + vs.length ≤ cs.size →
    ∃ cs', Blk (setL w b k vs) b t cs' ∧ cs'.size = cs.size ∧ (∀ i, i < vs.length → cs'[k + i]? = vs[i]?) ∧ ∀ i, i < k ∨ k + vs.length ≤ i → cs'[i]? = cs[i]?
  | [], w, k, cs, h, _ => ⟨cs, h, rfl, fun i hi => by simp at hi, fun _ _ => rfl⟩
  | v :: r, w, k, cs, h, hs => by
    simp only [List.length_cons] at hs
    obtain ⟨cs', h1, h2, h3, h4⟩ := setL_blk r _ (k + 1) _ (h.set k v) (by simp; omega)
    refine ⟨cs', h1, by simpa using h2, fun i hi => ?_, fun i hi => ?_⟩
    · cases i with
      | zero =>
        have := h4 k (.inl (by omega))
        rw [Nat.add_zero, this, Array.getElem?_setIfInBounds, if_pos rfl, if_pos (by omega)]
        rfl
      | succ i =>
        have := h3 i (by simpa using hi)
        rw [show k + (i + 1) = k + 1 + i by omega, this]
        simp
    · have := h4 i (by simp only [List.length_cons] at hi; omega)
      rw [this]
      simp only [Array.getElem?_setIfInBounds]
      rw [if_neg (by simp only [List.length_cons] at hi; omega)]
theorem info57 : (Tryz.prog.info? 57).map (fun i => (i.zero, i.size, i.bytes)) = some (some (.agg #[.string ⟨#[]⟩, .int .u8 0, .bool false, .int .u8 0, .bool false, .bool false, .string ⟨#[]⟩, .bool false, .string ⟨#[]⟩, .int .i64 0, .int .i64 0, .bool false, .bool false, .slice none 0 0]), 14, 120) := by kernel_rfl
theorem run_make57 (n c : Nat) (hc : n ≤ c) (hn : c ≤ 1073741824) (w : World) : (Instr.makeSlice 22 (.int .i64 (n : Int)) (.int .i64 (c : Int))).run Tryz.prog w = .ok (.slice (some ⟨w.heap.size, 0, none⟩) n c) (w.alloc (.cells (madeCells #[.string ⟨#[]⟩, .int .u8 0, .bool false, .int .u8 0, .bool false, .bool false, .string ⟨#[]⟩, .bool false, .string ⟨#[]⟩, .int .i64 0, .int .i64 0, .bool false, .bool false, .slice none 0 0] (c * 14)) 57)) := by
  obtain ⟨i, hi, hzz⟩ := Option.map_eq_some_iff.1 info57
  simp only [Prod.mk.injEq] at hzz
  obtain ⟨hz, hs, hb⟩ := hzz
  have := run_make (P := Tryz.prog) w 22 57 i _ Tryz.underlying22 hi hz .i64 .i64 (n : Int) (c : Int) (by omega) (by omega) (by rw [hb]; omega) (by omega)
  rw [hs] at this
  simpa [Value.cells] using this
structure SofF (w : World) (b j : Nat) (cs : Array Value) (l : List Fld) (cap : Nat) (G : Nat → Nat) : Prop where
  blk : Blk w b 57 cs
  size : cs.size = cap * 14
  row : ∀ i (hi : i < l.length), i < j → RowF w b (i * 14) l[i].own (some ⟨G i, 0, none⟩) l[i].fields.length (l[i].fields.length + 2)
  win : ∀ i (hi : i < l.length), i < j → LIf w (b + 1) w.heap.size l[i].fields (G i)
theorem row_of {w : World} {b k : Nat} {cs : Array Value} {t : TypeId} {o : Go.Vf.Own} {a : Option Addr} {n c : Nat} (hB : Blk w b t cs) (h : ∀ i, i < 14 → cs[k + i]? = (cellsF o a n c).toList[i]?) : RowF w b k o a n c := by
  have q : ∀ i (hi : i < 14), w.cell? ⟨b, k + i, none⟩ = (cellsF o a n c).toList[i]? := fun i hi => (hB.cell _).trans (h i hi)
  exact ⟨q 0 (by omega), q 1 (by omega), q 2 (by omega), q 3 (by omega), q 4 (by omega), q 5 (by omega), q 6 (by omega), q 7 (by omega), q 8 (by omega), q 9 (by omega), q 10 (by omega), q 11 (by omega), q 12 (by omega), q 13 (by omega)⟩
theorem row_same {w w' : World} {b k : Nat} {o : Go.Vf.Own} {a : Option Addr} {n c : Nat} (h : RowF w b k o a n c) (q : ∀ i, i < 14 → w'.cell? ⟨b, k + i, none⟩ = w.cell? ⟨b, k + i, none⟩) : RowF w' b k o a n c :=
  ⟨(q 0 (by omega)).trans h.c0, (q 1 (by omega)).trans h.c1, (q 2 (by omega)).trans h.c2, (q 3 (by omega)).trans h.c3, (q 4 (by omega)).trans h.c4, (q 5 (by omega)).trans h.c5, (q 6 (by omega)).trans h.c6, (q 7 (by omega)).trans h.c7, (q 8 (by omega)).trans h.c8, (q 9 (by omega)).trans h.c9, (q 10 (by omega)).trans h.c10, (q 11 (by omega)).trans h.c11, (q 12 (by omega)).trans h.c12, (q 13 (by omega)).trans h.c13⟩
theorem SofF.put {w : World} {b n j cap : Nat} {cs : Array Value} {l : List Fld} {G : Nat → Nat} (hS : SofF w b n cs l cap G) (hj : n ≤ j) (hc : j < cap) (vs : List Value) (hv : vs.length = 14) :
    ∃ cs', SofF (setL w b (j * 14) vs) b n cs' l cap G ∧ (∀ i, i < 14 → cs'[j * 14 + i]? = vs[i]?) ∧ ∀ i, i < j * 14 ∨ j * 14 + 14 ≤ i → cs'[i]? = cs[i]? := by
  obtain ⟨cs', h1, h2, h3, h4⟩ := setL_blk vs w (j * 14) cs hS.blk (by rw [hv, hS.size]; omega)
  rw [hv] at h3 h4
  refine ⟨cs', ⟨h1, by rw [h2]; exact hS.size, fun i hi hij => ?_, fun i hi hij => ?_⟩, h3, h4⟩
  · refine row_same (hS.row i hi hij) fun e he => ?_
    rw [h1.cell, hS.blk.cell, h4 _ (.inl (by omega))]
  · rw [setL_size]
    exact (hS.win i hi hij).keep fun x hx _ => setL_other (by omega) _ _ _
theorem SofF.old {w w' : World} {b n cap : Nat} {cs : Array Value} {l : List Fld} {G : Nat → Nat} (hS : SofF w b n cs l cap G) (hb : Below w.heap.size w w') : SofF w' b n cs l cap G :=
  ⟨hS.blk.old hb, hS.size, fun i hi hij => (hS.row i hi hij).below hb hS.blk.lt, fun i hi hij => ((hS.win i hi hij).keep fun x _ hx => hb.block x hx).mono hb.size (Nat.le_refl _)⟩
end Go.Proofs.YtkjoomdglealmaaGreatDoor

namespace Go.Proofs.YtkjoomdglealmaaGreatDoor
open Go.RowKit Go.Vf
theorem cellsF_front {o : Go.Vf.Own} {a a' : Option Addr} {n n' c c' : Nat} {e : Nat} (he : e < 13) : (cellsF o a n c).toList[e]? = (cellsF o a' n' c').toList[e]? := by
  have : e = 0 ∨ e = 1 ∨ e = 2 ∨ e = 3 ∨ e = 4 ∨ e = 5 ∨ e = 6 ∨ e = 7 ∨ e = 8 ∨ e = 9 ∨ e = 10 ∨ e = 11 ∨ e = 12 := by omega
  rcases this with rfl | rfl | rfl | rfl | rfl | rfl | rfl | rfl | rfl | rfl | rfl | rfl | rfl <;> rfl
theorem SofF.step {w : World} {b j cap g : Nat} {cs : Array Value} {l : List Fld} {G : Nat → Nat} {a : Option Addr} {n c : Nat} (hS : SofF w b j cs l cap G) (hj : j < l.length) (hc : j < cap) (hx : ∀ i, i < 14 → cs[j * 14 + i]? = (cellsF l[j].own a n c).toList[i]?) (hg : LIf w (b + 1) w.heap.size l[j].fields g) :
    ∃ cs', SofF (w.setCell ⟨b, j * 14 + 13, none⟩ (.slice (some ⟨g, 0, none⟩) l[j].fields.length (l[j].fields.length + 2))) b (j + 1) cs' l cap (fun i => if i = j then g else G i) := by
  have hB := hS.blk.set (j * 14 + 13) (.slice (some ⟨g, 0, none⟩) l[j].fields.length (l[j].fields.length + 2))
  have hsz := hS.size
  have hz : (w.setCell ⟨b, j * 14 + 13, none⟩ (.slice (some ⟨g, 0, none⟩) l[j].fields.length (l[j].fields.length + 2))).heap.size = w.heap.size := by simp [World.setCell]
  refine ⟨_, hB, by simpa using hsz, fun i hi hij => ?_, fun i hi hij => ?_⟩
  · by_cases e : i = j
    · subst e
      simp only [if_pos]
      refine row_of hB fun e he => ?_
      rw [Array.getElem?_setIfInBounds]
      by_cases h13 : e = 13
      · subst h13
        rw [if_pos rfl, if_pos (by omega)]
        rfl
      · rw [if_neg (by omega), hx e he]
        exact cellsF_front (by omega)
    · simp only [if_neg e]
      refine row_same (hS.row i hi (by omega)) fun e he => ?_
      rw [hB.cell, hS.blk.cell, Array.getElem?_setIfInBounds, if_neg (by omega)]
  · rw [hz]
    by_cases e : i = j
    · subst e
      simp only [if_pos]
      exact hg.keep fun x hx _ => Below.heap_setCell w ⟨b, i * 14 + 13, none⟩ _ x (by show x ≠ b; omega)
    · simp only [if_neg e]
      exact (hS.win i hi (by omega)).keep fun x hx _ => Below.heap_setCell w ⟨b, j * 14 + 13, none⟩ _ x (by show x ≠ b; omega)
def LentOkF (l : List Fld) : Prop := ∀ (a : Option Addr) (c n₀ : Nat) (w : World), n₀ ≤ w.heap.size → FIn w 0 n₀ l a → Calls Tryz.prog 14 #[.slice a l.length c] w fun e w' => ∃ b, e = .returned (.slice (some ⟨b, 0, none⟩) l.length (l.length + 2)) ∧ LIf w' w.heap.size w'.heap.size l b ∧ Below w.heap.size w w'
theorem res14_run {tmps : Array Value} {w : World} {v : Value} (t2 : tmps[2]?.getD undef = v) : (results Tryz.f14 tmps).run Tryz.prog w = .ok v w := by
  simp [results, Tryz.results14, go_sem, t2]
set_option maxHeartbeats 16000000 in
set_option maxRecDepth 20000 in
theorem lentF_step (l : List Fld) (hl : l.length ≤ 67108864) (ih : ∀ x ∈ l, LentOkF x.fields) : LentOkF l := by
  intro a c n₀ w hn₀ hin
  obtain ⟨ln, hln⟩ : ∃ ln, l.length = ln := ⟨_, rfl⟩
  have HLN : Hid (l.length = ln) := hln
  rw [hln] at hl ⊢
  clear hln
  have HIN : Hid (∀ w1, Below w.heap.size w w1 → FIn w1 0 n₀ l a) := fun w1 h => hin.keep h hn₀
  have hmk : (Instr.makeSlice 22 (.int .i64 (ln : Int)) (.int .i64 ((ln : Int) + 2))).run Tryz.prog w = .ok (.slice (some ⟨w.heap.size, 0, none⟩) ln (ln + 2)) (w.alloc (.cells (madeCells #[.string ⟨#[]⟩, .int .u8 0, .bool false, .int .u8 0, .bool false, .bool false, .string ⟨#[]⟩, .bool false, .string ⟨#[]⟩, .int .i64 0, .int .i64 0, .bool false, .bool false, .slice none 0 0] ((ln + 2) * 14)) 57)) := run_make57 ln (ln + 2) (by omega) (by omega) w
  have hB0 := Blk.new w 57 (madeCells #[.string ⟨#[]⟩, .int .u8 0, .bool false, .int .u8 0, .bool false, .bool false, .string ⟨#[]⟩, .bool false, .string ⟨#[]⟩, .int .i64 0, .int .i64 0, .bool false, .bool false, .slice none 0 0] ((ln + 2) * 14))
  have hb0 := (Below.refl w.heap.size w).alloc (Nat.le_refl _) (.cells (madeCells #[.string ⟨#[]⟩, .int .u8 0, .bool false, .int .u8 0, .bool false, .bool false, .string ⟨#[]⟩, .bool false, .string ⟨#[]⟩, .int .i64 0, .int .i64 0, .bool false, .bool false, .slice none 0 0] ((ln + 2) * 14)) 57)
  have hs0 := alloc_size w (.cells (madeCells #[.string ⟨#[]⟩, .int .u8 0, .bool false, .int .u8 0, .bool false, .bool false, .string ⟨#[]⟩, .bool false, .string ⟨#[]⟩, .int .i64 0, .int .i64 0, .bool false, .bool false, .slice none 0 0] ((ln + 2) * 14)) 57)
  clear hin
  go_enter Tryz.func14, Tryz.ntmps14
  go_wp2_with fail
  have hS0 : SofF (w.alloc (.cells (madeCells #[.string ⟨#[]⟩, .int .u8 0, .bool false, .int .u8 0, .bool false, .bool false, .string ⟨#[]⟩, .bool false, .string ⟨#[]⟩, .int .i64 0, .int .i64 0, .bool false, .bool false, .slice none 0 0] ((ln + 2) * 14)) 57)) w.heap.size 0 (madeCells #[.string ⟨#[]⟩, .int .u8 0, .bool false, .int .u8 0, .bool false, .bool false, .string ⟨#[]⟩, .bool false, .string ⟨#[]⟩, .int .i64 0, .int .i64 0, .bool false, .bool false, .slice none 0 0] ((ln + 2) * 14)) l (ln + 2) (fun _ => 0) := ⟨hB0, made_size _ _, fun i _ h => by omega, fun i _ h => by omega⟩
  clear hB0 hs0
  go_loopw [4] (fun iv wr => ∃ (j : Nat) (cs : Array Value) (G : Nat → Nat), j ≤ ln ∧ iv = .int .i64 (j : Int) ∧ SofF wr w.heap.size j cs l (ln + 2) G ∧ Below w.heap.size w wr) (fun iv _ => ln - (intOf iv).toNat)
  case atStart => exact ⟨0, _, _, Nat.zero_le _, rfl, hS0, hb0⟩
  case round =>
    clear hS0 hb0 hmk
    obtain ⟨j, cs, G, hj, rfl, hS, hb⟩ := hrel
    have hsz := hb.size
    have hlt3 := hS.blk.lt
    by_cases hlt : j < ln
    · have tl : decide ((j : Int) < (ln : Int)) = true := decide_eq_true (by omega)
      have tl2 : decide (j < ln) = true := decide_eq_true hlt
      have hji : (j : Int) < (ln : Int) := by omega
      have hjl : j < l.length := by rw [HLN.out]; exact hlt
      obtain ⟨bb, off, aj, cj, ha, _, hbb, hrow, hinj⟩ := (HIN.out wr hb).at hjl
      subst ha
      obtain ⟨x, hx⟩ : ∃ x, l[j] = x := ⟨_, rfl⟩
      have HX : Hid (l[j] = x) := hx
      rw [hx] at hrow hinj
      have HI : Hid (FIn wr 0 n₀ x.fields aj) := hinj
      have HR : Hid (RowF wr bb (off + j * 14) x.own aj x.fields.length cj) := hrow
      obtain ⟨r0, r1, r2, r3, r4, r5, r6, r7, r8, r9, r10, r11, r12, r13⟩ := hrow
      have hcs := hS.size
      have hB := hS.blk
      obtain ⟨v0, u0⟩ : ∃ v, wr.cell? ⟨w.heap.size, j * 14, none⟩ = some v := ⟨_, (hB.cell _).trans (Array.getElem?_eq_getElem (by omega))⟩
      have f0 : wr.frozen? ⟨w.heap.size, j * 14, none⟩ = false := hB.frozen (j * 14)
      obtain ⟨v1, u1⟩ : ∃ v, wr.cell? ⟨w.heap.size, j * 14 + 1, none⟩ = some v := ⟨_, (hB.cell _).trans (Array.getElem?_eq_getElem (by omega))⟩
      have f1 : wr.frozen? ⟨w.heap.size, j * 14 + 1, none⟩ = false := hB.frozen (j * 14 + 1)
      obtain ⟨v2, u2⟩ : ∃ v, wr.cell? ⟨w.heap.size, j * 14 + 2, none⟩ = some v := ⟨_, (hB.cell _).trans (Array.getElem?_eq_getElem (by omega))⟩
      have f2 : wr.frozen? ⟨w.heap.size, j * 14 + 2, none⟩ = false := hB.frozen (j * 14 + 2)
      obtain ⟨v3, u3⟩ : ∃ v, wr.cell? ⟨w.heap.size, j * 14 + 3, none⟩ = some v := ⟨_, (hB.cell _).trans (Array.getElem?_eq_getElem (by omega))⟩
      have f3 : wr.frozen? ⟨w.heap.size, j * 14 + 3, none⟩ = false := hB.frozen (j * 14 + 3)
      obtain ⟨v4, u4⟩ : ∃ v, wr.cell? ⟨w.heap.size, j * 14 + 4, none⟩ = some v := ⟨_, (hB.cell _).trans (Array.getElem?_eq_getElem (by omega))⟩
      have f4 : wr.frozen? ⟨w.heap.size, j * 14 + 4, none⟩ = false := hB.frozen (j * 14 + 4)
      obtain ⟨v5, u5⟩ : ∃ v, wr.cell? ⟨w.heap.size, j * 14 + 5, none⟩ = some v := ⟨_, (hB.cell _).trans (Array.getElem?_eq_getElem (by omega))⟩
      have f5 : wr.frozen? ⟨w.heap.size, j * 14 + 5, none⟩ = false := hB.frozen (j * 14 + 5)
      obtain ⟨v6, u6⟩ : ∃ v, wr.cell? ⟨w.heap.size, j * 14 + 6, none⟩ = some v := ⟨_, (hB.cell _).trans (Array.getElem?_eq_getElem (by omega))⟩
      have f6 : wr.frozen? ⟨w.heap.size, j * 14 + 6, none⟩ = false := hB.frozen (j * 14 + 6)
      obtain ⟨v7, u7⟩ : ∃ v, wr.cell? ⟨w.heap.size, j * 14 + 7, none⟩ = some v := ⟨_, (hB.cell _).trans (Array.getElem?_eq_getElem (by omega))⟩
      have f7 : wr.frozen? ⟨w.heap.size, j * 14 + 7, none⟩ = false := hB.frozen (j * 14 + 7)
      obtain ⟨v8, u8⟩ : ∃ v, wr.cell? ⟨w.heap.size, j * 14 + 8, none⟩ = some v := ⟨_, (hB.cell _).trans (Array.getElem?_eq_getElem (by omega))⟩
      have f8 : wr.frozen? ⟨w.heap.size, j * 14 + 8, none⟩ = false := hB.frozen (j * 14 + 8)
      obtain ⟨v9, u9⟩ : ∃ v, wr.cell? ⟨w.heap.size, j * 14 + 9, none⟩ = some v := ⟨_, (hB.cell _).trans (Array.getElem?_eq_getElem (by omega))⟩
      have f9 : wr.frozen? ⟨w.heap.size, j * 14 + 9, none⟩ = false := hB.frozen (j * 14 + 9)
      obtain ⟨v10, u10⟩ : ∃ v, wr.cell? ⟨w.heap.size, j * 14 + 10, none⟩ = some v := ⟨_, (hB.cell _).trans (Array.getElem?_eq_getElem (by omega))⟩
      have f10 : wr.frozen? ⟨w.heap.size, j * 14 + 10, none⟩ = false := hB.frozen (j * 14 + 10)
      obtain ⟨v11, u11⟩ : ∃ v, wr.cell? ⟨w.heap.size, j * 14 + 11, none⟩ = some v := ⟨_, (hB.cell _).trans (Array.getElem?_eq_getElem (by omega))⟩
      have f11 : wr.frozen? ⟨w.heap.size, j * 14 + 11, none⟩ = false := hB.frozen (j * 14 + 11)
      obtain ⟨v12, u12⟩ : ∃ v, wr.cell? ⟨w.heap.size, j * 14 + 12, none⟩ = some v := ⟨_, (hB.cell _).trans (Array.getElem?_eq_getElem (by omega))⟩
      have f12 : wr.frozen? ⟨w.heap.size, j * 14 + 12, none⟩ = false := hB.frozen (j * 14 + 12)
      obtain ⟨v13, u13⟩ : ∃ v, wr.cell? ⟨w.heap.size, j * 14 + 13, none⟩ = some v := ⟨_, (hB.cell _).trans (Array.getElem?_eq_getElem (by omega))⟩
      have f13 : wr.frozen? ⟨w.heap.size, j * 14 + 13, none⟩ = false := hB.frozen (j * 14 + 13)
      have HS : Hid (SofF wr w.heap.size j cs l (ln + 2) G) := hS
      have HA : Hid (LentOkF x.fields) := by have := ih l[j] (List.getElem_mem hjl); rw [hx] at this; exact this
      have hlt2 : j < ln + 2 := by omega
      clear hx hS ih hcs hB hinj
      go_upto_region 6 with fail
      obtain ⟨cs1, hS1, hx1, _⟩ := HS.out.put (Nat.le_refl _) hlt2 [.string x.own.name, .int .u8 x.own.kind, .bool x.own.down, .int .u8 x.own.nulls, .bool x.own.bnd, .bool x.own.ln, .string x.own.lm, .bool x.own.hn, .string x.own.hm, .int .i64 x.own.most, .int .i64 x.own.str, .bool x.own.shf, .bool x.own.bck, .slice aj x.fields.length cj] rfl
      have hq1 : Below w.heap.size wr (setL wr w.heap.size (j * 14) [.string x.own.name, .int .u8 x.own.kind, .bool x.own.down, .int .u8 x.own.nulls, .bool x.own.bnd, .bool x.own.ln, .string x.own.lm, .bool x.own.hn, .string x.own.hm, .int .i64 x.own.most, .int .i64 x.own.str, .bool x.own.shf, .bool x.own.bck, .slice aj x.fields.length cj]) := setL_below (Nat.le_refl _) _ _ _ (Below.refl _ _)
      have hI1 := HI.out.keep hq1 hn₀
      have r13' := (HR.out.below hq1 (by omega)).c13
      have hbw1 := hb.trans hq1
      clear u0 f0 u1 f1 u2 f2 u3 f3 u4 f4 u5 f5 u6 f6 u7 f7 u8 f8 u9 f9 u10 f10 u11 f11 u12 f12 u13 f13 r0 r1 r2 r3 r4 r5 r6 r7 r8 r9 r10 r11 r12 r13 HS HR HI
      change Code.wp _ _ _ _ (setL wr w.heap.size (j * 14) [.string x.own.name, .int .u8 x.own.kind, .bool x.own.down, .int .u8 x.own.nulls, .bool x.own.bnd, .bool x.own.ln, .string x.own.lm, .bool x.own.hn, .string x.own.hm, .int .i64 x.own.most, .int .i64 x.own.str, .bool x.own.shf, .bool x.own.bck, .slice aj x.fields.length cj])
      generalize setL wr w.heap.size (j * 14) [.string x.own.name, .int .u8 x.own.kind, .bool x.own.down, .int .u8 x.own.nulls, .bool x.own.bnd, .bool x.own.ln, .string x.own.lm, .bool x.own.hn, .string x.own.hm, .int .i64 x.own.most, .int .i64 x.own.str, .bool x.own.shf, .bool x.own.bck, .slice aj x.fields.length cj] = W1 at *
      have hs1 := hS1.blk.lt
      have hcall := HA.out aj cj n₀ W1 (by omega) hI1
      have HF : Hid (∀ w4, Below W1.heap.size W1 w4 → (∃ y, w4.cell? ⟨w.heap.size, j * 14 + 13, none⟩ = some y) ∧ w4.frozen? ⟨w.heap.size, j * 14 + 13, none⟩ = false) := by
        intro w4 hb4
        have hB4 := hS1.blk.old hb4
        have := hS1.size
        exact ⟨⟨_, (hB4.cell _).trans (Array.getElem?_eq_getElem (by omega))⟩, hB4.frozen _⟩
      have HS1 : Hid (SofF W1 w.heap.size j cs1 l (ln + 2) G) := hS1
      have HX1 : Hid (∀ i, i < 14 → cs1[j * 14 + i]? = (cellsF x.own aj x.fields.length cj).toList[i]?) := hx1
      clear hS1 hx1 hI1 HA
      go_wp2_with (go_at_call 14; refine hcall.mono ?_; rintro _ w4 ⟨g, rfl, hlif, hb4⟩; obtain ⟨⟨y13, p13⟩, f13⟩ := HF.out w4 hb4)
      have hx := HX.out
      obtain ⟨cs2, hst⟩ := (HS1.out.old hb4).step (g := g) hjl hlt2 (by rw [hx]; exact HX1.out) (by rw [hx]; exact hlif.mono (Nat.le_refl _) (by omega))
      rw [hx] at hst
      exact ⟨⟨j + 1, cs2, _, hlt, by simp, hst, (hbw1.trans (hb4.mono (by omega))).setCell (p := ⟨w.heap.size, j * 14 + 13, none⟩) (Nat.le_refl _) _⟩, by simp only [intOf]; omega⟩
    · have tl : decide ((j : Int) < (ln : Int)) = false := decide_eq_false (by omega)
      have tl2 : decide (j < ln) = false := decide_eq_false hlt
      have hjn : j = ln := by omega
      subst hjn
      have HS : Hid (SofF wr w.heap.size j cs l (j + 2) G) := hS
      clear hS ih HIN hlt
      go_wp2_with fail
      go_loopw [6] (fun iv wr => ∃ (i : Nat) (cs : Array Value), j ≤ i ∧ i ≤ j + 2 ∧ iv = .int .i64 (i : Int) ∧ Hid (SofF wr w.heap.size j cs l (j + 2) G) ∧ Hid (∀ t, j ≤ t → t < i → wr.cell? ⟨w.heap.size, t * 14, none⟩ = some (.string markB) ∧ wr.cell? ⟨w.heap.size, t * 14 + 1, none⟩ = some (.int .u8 99)) ∧ Below w.heap.size w wr) (fun iv _ => j + 2 - (intOf iv).toNat)
      case atStart => exact ⟨j, cs, Nat.le_refl _, by omega, rfl, HS, fun t h1 h2 => by omega, hb⟩
      case round =>
        clear HS hb hsz hlt3
        obtain ⟨i, cs2, hi1, hi2, rfl, HS, HMK, hb⟩ := hrel
        by_cases hlt : i < j + 2
        · have tl3 : decide ((i : Int) < (j : Int) + 2) = true := decide_eq_true (by omega)
          have tl4 : decide ((i : Int) < ((j + 2 : Nat) : Int)) = true := decide_eq_true (by omega)
          have tl5 : decide (i < j + 2) = true := decide_eq_true hlt
          have hji : (i : Int) < (j : Int) + 2 := by omega
          have hcs := HS.out.size
          have hB := HS.out.blk
          obtain ⟨v0, u0⟩ : ∃ v, wr.cell? ⟨w.heap.size, i * 14, none⟩ = some v := ⟨_, (hB.cell _).trans (Array.getElem?_eq_getElem (by omega))⟩
          have f0 : wr.frozen? ⟨w.heap.size, i * 14, none⟩ = false := hB.frozen (i * 14)
          obtain ⟨v1, u1⟩ : ∃ v, wr.cell? ⟨w.heap.size, i * 14 + 1, none⟩ = some v := ⟨_, (hB.cell _).trans (Array.getElem?_eq_getElem (by omega))⟩
          have f1 : wr.frozen? ⟨w.heap.size, i * 14 + 1, none⟩ = false := hB.frozen (i * 14 + 1)
          obtain ⟨v2, u2⟩ : ∃ v, wr.cell? ⟨w.heap.size, i * 14 + 2, none⟩ = some v := ⟨_, (hB.cell _).trans (Array.getElem?_eq_getElem (by omega))⟩
          have f2 : wr.frozen? ⟨w.heap.size, i * 14 + 2, none⟩ = false := hB.frozen (i * 14 + 2)
          obtain ⟨v3, u3⟩ : ∃ v, wr.cell? ⟨w.heap.size, i * 14 + 3, none⟩ = some v := ⟨_, (hB.cell _).trans (Array.getElem?_eq_getElem (by omega))⟩
          have f3 : wr.frozen? ⟨w.heap.size, i * 14 + 3, none⟩ = false := hB.frozen (i * 14 + 3)
          obtain ⟨v4, u4⟩ : ∃ v, wr.cell? ⟨w.heap.size, i * 14 + 4, none⟩ = some v := ⟨_, (hB.cell _).trans (Array.getElem?_eq_getElem (by omega))⟩
          have f4 : wr.frozen? ⟨w.heap.size, i * 14 + 4, none⟩ = false := hB.frozen (i * 14 + 4)
          obtain ⟨v5, u5⟩ : ∃ v, wr.cell? ⟨w.heap.size, i * 14 + 5, none⟩ = some v := ⟨_, (hB.cell _).trans (Array.getElem?_eq_getElem (by omega))⟩
          have f5 : wr.frozen? ⟨w.heap.size, i * 14 + 5, none⟩ = false := hB.frozen (i * 14 + 5)
          obtain ⟨v6, u6⟩ : ∃ v, wr.cell? ⟨w.heap.size, i * 14 + 6, none⟩ = some v := ⟨_, (hB.cell _).trans (Array.getElem?_eq_getElem (by omega))⟩
          have f6 : wr.frozen? ⟨w.heap.size, i * 14 + 6, none⟩ = false := hB.frozen (i * 14 + 6)
          obtain ⟨v7, u7⟩ : ∃ v, wr.cell? ⟨w.heap.size, i * 14 + 7, none⟩ = some v := ⟨_, (hB.cell _).trans (Array.getElem?_eq_getElem (by omega))⟩
          have f7 : wr.frozen? ⟨w.heap.size, i * 14 + 7, none⟩ = false := hB.frozen (i * 14 + 7)
          obtain ⟨v8, u8⟩ : ∃ v, wr.cell? ⟨w.heap.size, i * 14 + 8, none⟩ = some v := ⟨_, (hB.cell _).trans (Array.getElem?_eq_getElem (by omega))⟩
          have f8 : wr.frozen? ⟨w.heap.size, i * 14 + 8, none⟩ = false := hB.frozen (i * 14 + 8)
          obtain ⟨v9, u9⟩ : ∃ v, wr.cell? ⟨w.heap.size, i * 14 + 9, none⟩ = some v := ⟨_, (hB.cell _).trans (Array.getElem?_eq_getElem (by omega))⟩
          have f9 : wr.frozen? ⟨w.heap.size, i * 14 + 9, none⟩ = false := hB.frozen (i * 14 + 9)
          obtain ⟨v10, u10⟩ : ∃ v, wr.cell? ⟨w.heap.size, i * 14 + 10, none⟩ = some v := ⟨_, (hB.cell _).trans (Array.getElem?_eq_getElem (by omega))⟩
          have f10 : wr.frozen? ⟨w.heap.size, i * 14 + 10, none⟩ = false := hB.frozen (i * 14 + 10)
          obtain ⟨v11, u11⟩ : ∃ v, wr.cell? ⟨w.heap.size, i * 14 + 11, none⟩ = some v := ⟨_, (hB.cell _).trans (Array.getElem?_eq_getElem (by omega))⟩
          have f11 : wr.frozen? ⟨w.heap.size, i * 14 + 11, none⟩ = false := hB.frozen (i * 14 + 11)
          obtain ⟨v12, u12⟩ : ∃ v, wr.cell? ⟨w.heap.size, i * 14 + 12, none⟩ = some v := ⟨_, (hB.cell _).trans (Array.getElem?_eq_getElem (by omega))⟩
          have f12 : wr.frozen? ⟨w.heap.size, i * 14 + 12, none⟩ = false := hB.frozen (i * 14 + 12)
          obtain ⟨v13, u13⟩ : ∃ v, wr.cell? ⟨w.heap.size, i * 14 + 13, none⟩ = some v := ⟨_, (hB.cell _).trans (Array.getElem?_eq_getElem (by omega))⟩
          have f13 : wr.frozen? ⟨w.heap.size, i * 14 + 13, none⟩ = false := hB.frozen (i * 14 + 13)
          clear hB hcs
          go_wp2_with fail
          obtain ⟨cs3, h1, h2, h3⟩ := HS.out.put hi1 hlt [.string markB, .int .u8 99, .bool false, .int .u8 0, .bool false, .bool false, .string ⟨#[]⟩, .bool false, .string ⟨#[]⟩, .int .i64 0, .int .i64 0, .bool false, .bool false, .slice none 0 0] rfl
          refine ⟨⟨i + 1, cs3, by omega, by omega, by simp, h1, ?_, setL_below (Nat.le_refl _) [.string markB, .int .u8 99, .bool false, .int .u8 0, .bool false, .bool false, .string ⟨#[]⟩, .bool false, .string ⟨#[]⟩, .int .i64 0, .int .i64 0, .bool false, .bool false, .slice none 0 0] wr (i * 14) hb⟩, by simp only [intOf]; omega⟩
          intro t q1 q2
          by_cases e : t = i
          · subst e
            exact ⟨(h1.blk.cell _).trans (h2 0 (by omega)), (h1.blk.cell _).trans (h2 1 (by omega))⟩
          · have hm := HMK.out t q1 (by omega)
            exact ⟨(h1.blk.cell _).trans ((h3 _ (by omega)).trans ((HS.out.blk.cell _).symm.trans hm.1)), (h1.blk.cell _).trans ((h3 _ (by omega)).trans ((HS.out.blk.cell _).symm.trans hm.2))⟩
        · have tl3 : decide ((i : Int) < (j : Int) + 2) = false := decide_eq_false (by omega)
          have tl4 : decide ((i : Int) < ((j + 2 : Nat) : Int)) = false := decide_eq_false (by omega)
          have tl5 : decide (i < j + 2) = false := decide_eq_false hlt
          have hin2 : i = j + 2 := by omega
          have HI2 : Hid (i = j + 2) := hin2
          clear hin2
          go_wp2_with fail
          have hl2 := HLN.out
          have hi2 := HI2.out
          refine bodyPost_ret (v := .slice (some ⟨w.heap.size, 0, none⟩) j (j + 2)) (res14_run rfl) rfl ?_
          exact ⟨w.heap.size, rfl, .row G (Nat.le_refl _) HS.out.blk.lt (fun t q1 q2 => HMK.out t (by omega) (by omega)) (fun t ht => HS.out.row t ht (by omega)) (fun t ht => (HS.out.win t ht (by omega)).mono (Nat.le_refl _) (by omega)), hb⟩
theorem lentF_any : ∀ (f : Fld), FitsF 67108864 f → LentOkF f.fields := by
  intro f
  induction f using Fld.ind with
  | h o l ih => exact fun h => lentF_step l h.len fun x hx => ih x hx (h.mem hx)
theorem lentF_list {l : List Fld} (hl : l.length ≤ 67108864) (h : ∀ x ∈ l, FitsF 67108864 x) : LentOkF l := lentF_step l hl fun x hx => lentF_any x (h x hx)
end Go.Proofs.YtkjoomdglealmaaGreatDoor

namespace Go.Proofs.YtkjoomdglealmaaGreatDoor
open Go.RowKit Go.Vf

theorem eqN27 (n : Bool) (m : ByteArray) (w : World) : (Op.equalIn 10000 27 (.agg #[.bool n, .string m]) (.agg #[.bool n, .string m])).run Tryz.prog w = .ok true w := by
  rw [num_eq]; simp
theorem eqC55 (s : Int) (x y : Bool) (w : World) : (Op.equalIn 10000 55 (.agg #[.int .i64 s, .bool x, .bool y]) (.agg #[.int .i64 s, .bool x, .bool y])).run Tryz.prog w = .ok true w := by
  have h : ∀ d, (Op.equalIn (d + 1 + 1) 55 (.agg #[.int .i64 s, .bool x, .bool y]) (.agg #[.int .i64 s, .bool x, .bool y])).run Tryz.prog w = .ok true w := fun d => by
    simp [go_sem]
  exact h 9998
theorem sameFields_none (w : World) : Calls Tryz.prog 74 #[.slice none 0 0, .slice none 0 0] w fun e w' => e = .returned (.bool true) ∧ w' = w := by
  go_enter Tryz.func74, Tryz.ntmps74
  go_wp2
  refine wp_loop_rounds 1 ?_
  rw [rounds_succ]
  go_wp2
  go_ret
  exact ⟨rfl, rfl⟩
set_option maxHeartbeats 4000000 in
set_option maxRecDepth 20000 in
theorem sameField_nil (o : Go.Vf.Own) (w : World) : Calls Tryz.prog 47 #[fV o none 0 0, fV o none 0 0] w fun e w' => e = .returned (.bool true) ∧ Below w.heap.size w w' := by
  have hb1 := (Below.refl w.heap.size w).alloc (Nat.le_refl _) (.cells (cellsF o none 0 0) 57)
  have hs1 := alloc_size w (.cells (cellsF o none 0 0) 57)
  have hA1 := Blk.new w 57 (cellsF o none 0 0)
  have hb12 := (Below.refl _ (w.alloc (.cells (cellsF o none 0 0) 57))).alloc (Nat.le_refl _) (.cells (cellsF o none 0 0) 57)
  have hB2 := Blk.new (w.alloc (.cells (cellsF o none 0 0) 57)) 57 (cellsF o none 0 0)
  have hA2 := hA1.old hb12
  have hb2 := hb1.trans (hb12.mono hb1.size)
  have q1 := eqN27 o.ln o.lm
  have q2 := eqN27 o.hn o.hm
  have q3 := eqC55 o.str o.shf o.bck
  have hsf := fun W => sameFields_none W
  rw [hs1] at hB2
  unfold fV
  simp only [cellsF] at hb1 hA1 hA2 hB2 hb12 hb2 hs1
  go_enter Tryz.func47, Tryz.ntmps47
  go_upto_region 1 with fail
  generalize (w.alloc (.cells #[.string o.name, .int .u8 o.kind, .bool o.down, .int .u8 o.nulls, .bool o.bnd, .bool o.ln, .string o.lm, .bool o.hn, .string o.hm, .int .i64 o.most, .int .i64 o.str, .bool o.shf, .bool o.bck, .slice none 0 0] 57)).alloc (.cells #[.string o.name, .int .u8 o.kind, .bool o.down, .int .u8 o.nulls, .bool o.bnd, .bool o.ln, .string o.lm, .bool o.hn, .string o.hm, .int .i64 o.most, .int .i64 o.str, .bool o.shf, .bool o.bck, .slice none 0 0] 57) = w2 at *
  obtain ⟨c0, c1, c2, c3, c4, c5, c6, c7, c8, c9, c10, c11, c12, c13⟩ := hA2.c14
  obtain ⟨d0, d1, d2, d3, d4, d5, d6, d7, d8, d9, d10, d11, d12, d13⟩ := hB2.c14
  have hsf2 := hsf w2
  clear hsf hA1 hA2 hB2 hb1 hb12 hs1
  go_wp2_with fail
  refine hsf2.mono ?_
  rintro _ w3 ⟨rfl, hw3⟩
  rw [hw3]
  clear hsf2 hw3
  go_wp2_with fail
  go_ret
  exact ⟨rfl, hb2⟩
end Go.Proofs.YtkjoomdglealmaaGreatDoor
