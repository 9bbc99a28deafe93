/- What Tell and the methods of values do (contracts; nothing is claimed here). -/
import Derived.Test.YtnjfkijekohdkaaDoorMade
import Derived.BigRegion
namespace Go.Proofs.YtnjfkijekohdkaaDoor
open Go.RowKit Go.Vf

theorem Blk.set6 {w : World} {b : Nat} {t : TypeId} {x0 x1 x2 x3 x4 x5 : Value} (h : Blk w b t #[x0, x1, x2, x3, x4, x5]) (a0 a1 a2 a3 a4 a5 : Value) :
    Blk ((((((w.setCell ⟨b, 0, none⟩ a0).setCell ⟨b, 1, none⟩ a1).setCell ⟨b, 2, none⟩ a2).setCell ⟨b, 3, none⟩ a3).setCell ⟨b, 4, none⟩ a4).setCell ⟨b, 5, none⟩ a5) b t #[a0, a1, a2, a3, a4, a5] := by
  have := (((((h.set 0 a0).set 1 a1).set 2 a2).set 3 a3).set 4 a4).set 5 a5
  simpa using this
theorem res71_run {tmps : Array Value} {w : World} {b : Nat} {a0 a1 a2 a3 a4 a5 : Value} (h : Blk w b 29 #[a0, a1, a2, a3, a4, a5]) (t2 : tmps[2]?.getD undef = .pointer (some ⟨b, 0, none⟩)) :
    (results Tryd.f85 tmps).run Tryd.prog w = .ok (.agg #[a0, a1, a2, a3, a4, a5]) w := by
  obtain ⟨c0, c1, c2, c3, c4, c5⟩ := h.c6
  simp [results, Tryd.results85, go_sem, t2, c0, c1, c2, c3, c4, c5]
theorem res74_run {tmps : Array Value} {w : World} {b : Nat} {a0 a1 a2 a3 a4 a5 : Value} (h : Blk w b 29 #[a0, a1, a2, a3, a4, a5]) (t2 : tmps[2]?.getD undef = .pointer (some ⟨b, 0, none⟩)) :
    (results Tryd.f87 tmps).run Tryd.prog w = .ok (.agg #[a0, a1, a2, a3, a4, a5]) w := by
  obtain ⟨c0, c1, c2, c3, c4, c5⟩ := h.c6
  simp [results, Tryd.results87, go_sem, t2, c0, c1, c2, c3, c4, c5]
theorem res77_run {tmps : Array Value} {w : World} {b : Nat} {a0 a1 a2 a3 a4 a5 : Value} (h : Blk w b 29 #[a0, a1, a2, a3, a4, a5]) (t2 : tmps[2]?.getD undef = .pointer (some ⟨b, 0, none⟩)) :
    (results Tryd.f94 tmps).run Tryd.prog w = .ok (.agg #[a0, a1, a2, a3, a4, a5]) w := by
  obtain ⟨c0, c1, c2, c3, c4, c5⟩ := h.c6
  simp [results, Tryd.results94, go_sem, t2, c0, c1, c2, c3, c4, c5]
theorem res69_run {tmps : Array Value} {w : World} {b : Nat} {a0 a1 a2 a3 a4 a5 : Value} (h : Blk w b 29 #[a0, a1, a2, a3, a4, a5]) (t2 : tmps[2]?.getD undef = .pointer (some ⟨b, 0, none⟩)) :
    (results Tryd.f91 tmps).run Tryd.prog w = .ok (.agg #[a0, a1, a2, a3, a4, a5]) w := by
  obtain ⟨c0, c1, c2, c3, c4, c5⟩ := h.c6
  simp [results, Tryd.results91, go_sem, t2, c0, c1, c2, c3, c4, c5]
theorem res18_run {tmps : Array Value} {w : World} {b : Nat} {a0 a1 a2 a3 a4 a5 : Value} (h : Blk w b 29 #[a0, a1, a2, a3, a4, a5]) (t2 : tmps[2]?.getD undef = .pointer (some ⟨b, 0, none⟩)) :
    (results Tryd.f17 tmps).run Tryd.prog w = .ok (.agg #[a0, a1, a2, a3, a4, a5]) w := by
  obtain ⟨c0, c1, c2, c3, c4, c5⟩ := h.c6
  simp [results, Tryd.results17, go_sem, t2, c0, c1, c2, c3, c4, c5]

theorem truthPart_any (y : Bool) (w : World) : Calls Tryd.prog 85 #[.agg #[.bool y]] w fun e w' => ∃ c, e = .returned (pV (.mk 1 y false ⟨#[]⟩ ⟨#[]⟩ []) none c) ∧ Below w.heap.size w w' := by
  have hb1 := (Below.refl w.heap.size w).alloc (Nat.le_refl _) (.cells #[.bool y] 79)
  have hb2 := hb1.alloc hb1.size (.cells #[.int .u8 1, .bool y, .bool false, .string ⟨#[]⟩, .string ⟨#[]⟩, .slice none 0 0] 29)
  have hB := Blk.new (w.alloc (.cells #[.bool y] 79)) 29 #[.int .u8 1, .bool y, .bool false, .string ⟨#[]⟩, .string ⟨#[]⟩, .slice none 0 0]
  rw [alloc_size] at hB
  go_enter Tryd.func85, Tryd.ntmps85
  go_wp2_with fail
  refine bodyPost_ret (res71_run hB rfl) rfl ?_
  exact ⟨_, rfl, hb2⟩

theorem numPart_any (b : Bool) (m : ByteArray) (w : World) : Calls Tryd.prog 87 #[.agg #[.bool b, .string m]] w fun e w' => ∃ c, e = .returned (pV (.mk 2 false b m ⟨#[]⟩ []) none c) ∧ Below w.heap.size w w' := by
  have hb1 := (Below.refl w.heap.size w).alloc (Nat.le_refl _) (.cells #[.bool b, .string m] 81)
  have hb2 := hb1.alloc hb1.size (.cells #[.int .u8 2, .bool false, .bool b, .string m, .string ⟨#[]⟩, .slice none 0 0] 29)
  have hB := Blk.new (w.alloc (.cells #[.bool b, .string m] 81)) 29 #[.int .u8 2, .bool false, .bool b, .string m, .string ⟨#[]⟩, .slice none 0 0]
  rw [alloc_size] at hB
  go_enter Tryd.func87, Tryd.ntmps87
  go_wp2_with fail
  refine bodyPost_ret (res74_run hB rfl) rfl ?_
  exact ⟨_, rfl, hb2⟩

theorem rawPart_any (k : Int) (r : ByteArray) (w : World) : Calls Tryd.prog 94 #[.agg #[.int .u8 k, .string r]] w fun e w' => ∃ c, e = .returned (pV (.mk k false false ⟨#[]⟩ r []) none c) ∧ Below w.heap.size w w' := by
  have hb1 := (Below.refl w.heap.size w).alloc (Nat.le_refl _) (.cells #[.int .u8 k, .string r] 86)
  have hb2 := hb1.alloc hb1.size (.cells #[.int .u8 k, .bool false, .bool false, .string ⟨#[]⟩, .string r, .slice none 0 0] 29)
  have hB := Blk.new (w.alloc (.cells #[.int .u8 k, .string r] 86)) 29 #[.int .u8 k, .bool false, .bool false, .string ⟨#[]⟩, .string r, .slice none 0 0]
  rw [alloc_size] at hB
  go_enter Tryd.func94, Tryd.ntmps94
  go_wp2_with fail
  refine bodyPost_ret (res77_run hB rfl) rfl ?_
  exact ⟨_, rfl, hb2⟩

theorem mPart_81 (y : Bool) (w : World) : (method 271 79 (.agg #[.bool y]) "Part").run Tryd.prog w = .ok (85, .agg #[.bool y]) w := by kernel_rfl
theorem mPart_83 (b : Bool) (m : ByteArray) (w : World) : (method 271 81 (.agg #[.bool b, .string m]) "Part").run Tryd.prog w = .ok (87, .agg #[.bool b, .string m]) w := by kernel_rfl
theorem mPart_85 (k : Int) (r : ByteArray) (w : World) : (method 271 86 (.agg #[.int .u8 k, .string r]) "Part").run Tryd.prog w = .ok (94, .agg #[.int .u8 k, .string r]) w := by kernel_rfl
theorem mPart_74 (a : Addr) (w : World) : (method 271 83 (.pointer (some a)) "Part").run Tryd.prog w = .ok (91, .pointer (some a)) w := by kernel_rfl

theorem info27 : (Tryd.prog.info? 29).map (fun i => (i.zero, i.size, i.bytes)) = some (some (.agg #[.int .u8 0, .bool false, .bool false, .string ⟨#[]⟩, .string ⟨#[]⟩, .slice none 0 0]), 6, 72) := by kernel_rfl
theorem run_make27 (n : Nat) (hn : n ≤ 1099511627776) (w : World) : (Instr.makeSlice 27 (.int .i64 (n : Int)) (.int .i64 (n : Int))).run Tryd.prog w = .ok (.slice (some ⟨w.heap.size, 0, none⟩) n n) (w.alloc (.cells (madeCells #[.int .u8 0, .bool false, .bool false, .string ⟨#[]⟩, .string ⟨#[]⟩, .slice none 0 0] (n * 6)) 29)) := by
  obtain ⟨i, hi, hzz⟩ := Option.map_eq_some_iff.1 info27
  simp only [Prod.mk.injEq] at hzz
  obtain ⟨hz, hs, hb⟩ := hzz
  have := run_make (P := Tryd.prog) w 27 29 i _ Tryd.underlying27 hi hz .i64 .i64 (n : Int) (n : Int) (by omega) (by omega) (by rw [hb]; omega) (by omega)
  rw [hs] at this
  simpa [Value.cells] using this

/-- The contract of Tell at a part. -/
def TellOk (p : Prt) : Prop := ∀ (v : Value) (lo n₀ : Nat) (w : World), n₀ ≤ w.heap.size → VIn w lo n₀ v p →
    Calls Tryd.prog 17 #[v] w fun e w' => ∃ a c, e = .returned (pV p a c) ∧ PIn w' w.heap.size w'.heap.size p a ∧ Below w.heap.size w w'

/-- Cells of a block that are the first j parts. -/
structure SofarP (w : World) (h0 j : Nat) (cs : Array Value) (l : List Prt) (ln : Nat) (A : Nat → Option Addr) (C : Nat → Nat) : Prop where
  blk : Blk w h0 29 cs
  size : cs.size = ln * 6
  row : ∀ i (hi : i < l.length), i < j → Row6 w h0 (i * 6) l[i] (A i) (C i)
  pin : ∀ i (hi : i < l.length), i < j → PIn w (h0 + 1) w.heap.size l[i] (A i)

/-- Six stores. -/
def set6 (w : World) (b k : Nat) (a0 a1 a2 a3 a4 a5 : Value) : World := (((((w.setCell ⟨b, k, none⟩ a0).setCell ⟨b, k + 1, none⟩ a1).setCell ⟨b, k + 2, none⟩ a2).setCell ⟨b, k + 3, none⟩ a3).setCell ⟨b, k + 4, none⟩ a4).setCell ⟨b, k + 5, none⟩ a5
theorem set6_size (w : World) (b k : Nat) (a0 a1 a2 a3 a4 a5 : Value) : (set6 w b k a0 a1 a2 a3 a4 a5).heap.size = w.heap.size := by simp [set6, World.setCell]
theorem set6_other {w : World} {b k : Nat} {a0 a1 a2 a3 a4 a5 : Value} {h : Nat} (hh : h ≠ b) : (set6 w b k a0 a1 a2 a3 a4 a5).heap[h]? = w.heap[h]? := by
  unfold set6
  rw [Below.heap_setCell _ _ _ h hh, Below.heap_setCell _ _ _ h hh, Below.heap_setCell _ _ _ h hh, Below.heap_setCell _ _ _ h hh, Below.heap_setCell _ _ _ h hh, Below.heap_setCell _ _ _ h hh]
theorem set6_below {B b : Nat} {w W : World} (h : Below B w W) (hB : B ≤ b) (k : Nat) (a0 a1 a2 a3 a4 a5 : Value) : Below B w (set6 W b k a0 a1 a2 a3 a4 a5) :=
  (((((h.setCell (p := ⟨b, k, none⟩) hB _).setCell (p := ⟨b, k + 1, none⟩) hB _).setCell (p := ⟨b, k + 2, none⟩) hB _).setCell (p := ⟨b, k + 3, none⟩) hB _).setCell (p := ⟨b, k + 4, none⟩) hB _).setCell (p := ⟨b, k + 5, none⟩) hB _
theorem set6_blk {w : World} {b : Nat} {t : TypeId} {cs : Array Value} (h : Blk w b t cs) (k : Nat) (a0 a1 a2 a3 a4 a5 : Value) :
    Blk (set6 w b k a0 a1 a2 a3 a4 a5) b t ((((((cs.setIfInBounds k a0).setIfInBounds (k + 1) a1).setIfInBounds (k + 2) a2).setIfInBounds (k + 3) a3).setIfInBounds (k + 4) a4).setIfInBounds (k + 5) a5) :=
  (((((h.set k a0).set (k + 1) a1).set (k + 2) a2).set (k + 3) a3).set (k + 4) a4).set (k + 5) a5
theorem six_in {cs : Array Value} {k : Nat} (h : k + 5 < cs.size) (a0 a1 a2 a3 a4 a5 : Value) :
    (let d := (((((cs.setIfInBounds k a0).setIfInBounds (k + 1) a1).setIfInBounds (k + 2) a2).setIfInBounds (k + 3) a3).setIfInBounds (k + 4) a4).setIfInBounds (k + 5) a5
     d[k]? = some a0 ∧ d[k + 1]? = some a1 ∧ d[k + 2]? = some a2 ∧ d[k + 3]? = some a3 ∧ d[k + 4]? = some a4 ∧ d[k + 5]? = some a5) := by
  simp only [Array.getElem?_setIfInBounds, Array.size_setIfInBounds]
  refine ⟨?_, ?_, ?_, ?_, ?_, ?_⟩ <;> simp <;> omega
theorem six_out {cs : Array Value} {k i : Nat} (h : i < k ∨ k + 5 < i) (a0 a1 a2 a3 a4 a5 : Value) :
    ((((((cs.setIfInBounds k a0).setIfInBounds (k + 1) a1).setIfInBounds (k + 2) a2).setIfInBounds (k + 3) a3).setIfInBounds (k + 4) a4).setIfInBounds (k + 5) a5)[i]? = cs[i]? := by
  simp only [Array.getElem?_setIfInBounds, Array.size_setIfInBounds]
  rw [if_neg (by omega), if_neg (by omega), if_neg (by omega), if_neg (by omega), if_neg (by omega), if_neg (by omega)]
theorem SofarP.step {w w3 : World} {h0 j ln : Nat} {cs : Array Value} {l : List Prt} {A : Nat → Option Addr} {C : Nat → Nat} {x : Prt} {ax : Option Addr} {cx : Nat} (hS : SofarP w h0 j cs l ln A C) (hlen : l.length = ln) (hj : j < ln) (hx : ∀ h : j < l.length, l[j] = x)
    (hb : Below w.heap.size w w3) (hp : PIn w3 w.heap.size w3.heap.size x ax) :
    SofarP (set6 w3 h0 (j * 6) (.int .u8 x.kind) (.bool x.yes) (.bool x.neg) (.string x.mag) (.string x.raw) (.slice ax x.items.length cx)) h0 (j + 1)
      ((((((cs.setIfInBounds (j * 6) (.int .u8 x.kind)).setIfInBounds (j * 6 + 1) (.bool x.yes)).setIfInBounds (j * 6 + 2) (.bool x.neg)).setIfInBounds (j * 6 + 3) (.string x.mag)).setIfInBounds (j * 6 + 4) (.string x.raw)).setIfInBounds (j * 6 + 5) (.slice ax x.items.length cx)) l ln
      (fun i => if i = j then ax else A i) (fun i => if i = j then cx else C i) := by
  have hB3 := hS.blk.old hb
  have hB4 := set6_blk hB3 (j * 6) (.int .u8 x.kind) (.bool x.yes) (.bool x.neg) (.string x.mag) (.string x.raw) (.slice ax x.items.length cx)
  have hlt := hS.blk.lt
  have hcs := hS.size
  have hk : ∀ {q : Prt} {lo hi : Nat} {aq : Option Addr}, PIn w3 lo hi q aq → h0 < lo → hi ≤ w3.heap.size → PIn (set6 w3 h0 (j * 6) (.int .u8 x.kind) (.bool x.yes) (.bool x.neg) (.string x.mag) (.string x.raw) (.slice ax x.items.length cx)) lo hi q aq := by
    intro q lo hi aq hq h1 h2
    exact hq.keep' (fun b q1 q2 => set6_other (by omega))
  refine ⟨hB4, by simp [hcs], fun i hi hij => ?_, fun i hi hij => ?_⟩
  · by_cases e : i = j
    · subst e
      simp only [if_true]
      rw [hx hi]
      obtain ⟨d0, d1, d2, d3, d4, d5⟩ := six_in (cs := cs) (k := i * 6) (by omega) (.int .u8 x.kind) (.bool x.yes) (.bool x.neg) (.string x.mag) (.string x.raw) (.slice ax x.items.length cx)
      exact ⟨(hB4.cell _).trans d0, (hB4.cell _).trans d1, (hB4.cell _).trans d2, (hB4.cell _).trans d3, (hB4.cell _).trans d4, (hB4.cell _).trans d5⟩
    · simp only [e, if_false]
      have hr := hS.row i hi (by omega)
      have q : ∀ k, k ≤ 5 → (set6 w3 h0 (j * 6) (.int .u8 x.kind) (.bool x.yes) (.bool x.neg) (.string x.mag) (.string x.raw) (.slice ax x.items.length cx)).cell? ⟨h0, i * 6 + k, none⟩ = w.cell? ⟨h0, i * 6 + k, none⟩ := fun k hk => by
        rw [hB4.cell, hS.blk.cell, six_out (by omega)]
      exact ⟨(q 0 (by omega)).trans hr.c0, (q 1 (by omega)).trans hr.c1, (q 2 (by omega)).trans hr.c2, (q 3 (by omega)).trans hr.c3, (q 4 (by omega)).trans hr.c4, (q 5 (by omega)).trans hr.c5⟩
  · rw [set6_size]
    have hs := hb.size
    by_cases e : i = j
    · subst e
      simp only [if_true]
      rw [hx hi]
      exact (hk hp (by omega) (Nat.le_refl _)).mono (Nat.le_refl _) (by omega)
    · simp only [e, if_false]
      exact hk (((hS.pin i hi (by omega)).keep hb (Nat.le_refl _)).mono hs (Nat.le_refl _)) (by omega) (Nat.le_refl _)

set_option maxHeartbeats 4000000 in
set_option maxRecDepth 20000 in
theorem tuplePart_step (l : List Prt) (hl : l.length ≤ 1099511627776) (ih : ∀ x ∈ l, TellOk x) (g c lo n₀ : Nat) (a : Option Addr) (V : Nat → Value) (w : World) (hn₀ : n₀ ≤ w.heap.size) (hg : g < n₀)
    (hB : Blk w g 115 #[.slice a l.length c, .int .i64 ((depL l + 1 : Nat) : Int)])
    (hc : ∀ j, j < l.length → ∃ h off, a = some ⟨h, off, none⟩ ∧ lo ≤ h ∧ h < n₀ ∧ w.cell? ⟨h, off + j, none⟩ = some (V j)) (hv : ∀ j (hj : j < l.length), VIn w lo n₀ (V j) l[j]) :
    Calls Tryd.prog 91 #[.pointer (some ⟨g, 0, none⟩)] w fun e w' => ∃ a c, e = .returned (pV (.mk 7 false false ⟨#[]⟩ ⟨#[]⟩ l) a c) ∧ PIn w' w.heap.size w'.heap.size (.mk 7 false false ⟨#[]⟩ ⟨#[]⟩ l) a ∧ Below w.heap.size w w' := by
  obtain ⟨ln, hln⟩ : ∃ ln, l.length = ln := ⟨_, rfl⟩
  have HLN : Hid (l.length = ln) := hln
  rw [hln] at hl hB
  clear hln
  have hk0 : w.cell? ⟨g, 0, none⟩ = some (.slice a ln c) := hB.cell 0
  have hmk := run_make27 ln hl
  have ha1 := (Below.refl w.heap.size w).alloc (Nat.le_refl _) (.cells #[.int .u8 0, .bool false, .bool false, .string ⟨#[]⟩, .string ⟨#[]⟩, .slice none 0 0] 29)
  have hs1 := alloc_size w (.cells #[.int .u8 0, .bool false, .bool false, .string ⟨#[]⟩, .string ⟨#[]⟩, .slice none 0 0] 29)
  have hB0 := Blk.new w 29 #[.int .u8 0, .bool false, .bool false, .string ⟨#[]⟩, .string ⟨#[]⟩, .slice none 0 0]
  have ha2 := ha1.alloc ha1.size (.cells (madeCells #[.int .u8 0, .bool false, .bool false, .string ⟨#[]⟩, .string ⟨#[]⟩, .slice none 0 0] (ln * 6)) 29)
  have hs2 := alloc_size (w.alloc (.cells #[.int .u8 0, .bool false, .bool false, .string ⟨#[]⟩, .string ⟨#[]⟩, .slice none 0 0] 29)) (.cells (madeCells #[.int .u8 0, .bool false, .bool false, .string ⟨#[]⟩, .string ⟨#[]⟩, .slice none 0 0] (ln * 6)) 29)
  have hB1 := Blk.new (w.alloc (.cells #[.int .u8 0, .bool false, .bool false, .string ⟨#[]⟩, .string ⟨#[]⟩, .slice none 0 0] 29)) 29 (madeCells #[.int .u8 0, .bool false, .bool false, .string ⟨#[]⟩, .string ⟨#[]⟩, .slice none 0 0] (ln * 6))
  have hk1 : (w.alloc (.cells #[.int .u8 0, .bool false, .bool false, .string ⟨#[]⟩, .string ⟨#[]⟩, .slice none 0 0] 29)).cell? ⟨g, 0, none⟩ = some (.slice a ln c) := (cell_block (ha1.block g (by omega)) 0).trans hk0
  go_enter Tryd.func91, Tryd.ntmps91
  go_upto_region 2 with fail
  have ha3 := ha2.alloc ha2.size (.cells #[.int .u8 7, .bool false, .bool false, .string ⟨#[]⟩, .string ⟨#[]⟩, .slice (some ⟨w.heap.size + 1, 0, none⟩) ln ln] 29)
  have hs3 := alloc_size ((w.alloc (.cells #[.int .u8 0, .bool false, .bool false, .string ⟨#[]⟩, .string ⟨#[]⟩, .slice none 0 0] 29)).alloc (.cells (madeCells #[.int .u8 0, .bool false, .bool false, .string ⟨#[]⟩, .string ⟨#[]⟩, .slice none 0 0] (ln * 6)) 29)) (.cells #[.int .u8 7, .bool false, .bool false, .string ⟨#[]⟩, .string ⟨#[]⟩, .slice (some ⟨w.heap.size + 1, 0, none⟩) ln ln] 29)
  have hB2 := Blk.new ((w.alloc (.cells #[.int .u8 0, .bool false, .bool false, .string ⟨#[]⟩, .string ⟨#[]⟩, .slice none 0 0] 29)).alloc (.cells (madeCells #[.int .u8 0, .bool false, .bool false, .string ⟨#[]⟩, .string ⟨#[]⟩, .slice none 0 0] (ln * 6)) 29)) 29 #[.int .u8 7, .bool false, .bool false, .string ⟨#[]⟩, .string ⟨#[]⟩, .slice (some ⟨w.heap.size + 1, 0, none⟩) ln ln]
  have hB1' := hB1.old ((Below.refl _ _).alloc (Nat.le_refl _) (.cells #[.int .u8 7, .bool false, .bool false, .string ⟨#[]⟩, .string ⟨#[]⟩, .slice (some ⟨w.heap.size + 1, 0, none⟩) ln ln] 29))
  have hB0' := (hB0.old ((Below.refl _ _).alloc (Nat.le_refl _) (.cells (madeCells #[.int .u8 0, .bool false, .bool false, .string ⟨#[]⟩, .string ⟨#[]⟩, .slice none 0 0] (ln * 6)) 29))).old ((Below.refl _ _).alloc (Nat.le_refl _) (.cells #[.int .u8 7, .bool false, .bool false, .string ⟨#[]⟩, .string ⟨#[]⟩, .slice (some ⟨w.heap.size + 1, 0, none⟩) ln ln] 29))
  rw [hs2, hs1] at hB2 hs3
  rw [hs1] at hB1'
  have hk2 : (((w.alloc (.cells #[.int .u8 0, .bool false, .bool false, .string ⟨#[]⟩, .string ⟨#[]⟩, .slice none 0 0] 29)).alloc (.cells (madeCells #[.int .u8 0, .bool false, .bool false, .string ⟨#[]⟩, .string ⟨#[]⟩, .slice none 0 0] (ln * 6)) 29)).alloc (.cells #[.int .u8 7, .bool false, .bool false, .string ⟨#[]⟩, .string ⟨#[]⟩, .slice (some ⟨w.heap.size + 1, 0, none⟩) ln ln] 29)).cell? ⟨g, 0, none⟩ = some (.slice a ln c) := (cell_block (ha3.block g (by omega)) 0).trans hk0
  generalize ((w.alloc (.cells #[.int .u8 0, .bool false, .bool false, .string ⟨#[]⟩, .string ⟨#[]⟩, .slice none 0 0] 29)).alloc (.cells (madeCells #[.int .u8 0, .bool false, .bool false, .string ⟨#[]⟩, .string ⟨#[]⟩, .slice none 0 0] (ln * 6)) 29)).alloc (.cells #[.int .u8 7, .bool false, .bool false, .string ⟨#[]⟩, .string ⟨#[]⟩, .slice (some ⟨w.heap.size + 1, 0, none⟩) ln ln] 29) = w3 at ha3 hs3 hB2 hB1' hB0' hk2 ⊢
  clear ha1 ha2 hs1 hs2 hB0 hB1 hk1 hmk
  go_wp2_with fail
  have hS0 : SofarP w3 (w.heap.size + 1) 0 (madeCells #[.int .u8 0, .bool false, .bool false, .string ⟨#[]⟩, .string ⟨#[]⟩, .slice none 0 0] (ln * 6)) l ln (fun _ => none) (fun _ => 0) := ⟨hB1', made_size _ _, fun i _ h => by omega, fun i _ h => by omega⟩
  clear hk2
  go_loopw [18] (fun i wr => ∃ (j : Nat) (cs : Array Value) (A : Nat → Option Addr) (C : Nat → Nat), j ≤ ln ∧ i = .int .i64 j ∧ SofarP wr (w.heap.size + 1) j cs l ln A C ∧ Blk wr w.heap.size 29 #[.int .u8 0, .bool false, .bool false, .string ⟨#[]⟩, .string ⟨#[]⟩, .slice none 0 0] ∧ Blk wr (w.heap.size + 1 + 1) 29 #[.int .u8 7, .bool false, .bool false, .string ⟨#[]⟩, .string ⟨#[]⟩, .slice (some ⟨w.heap.size + 1, 0, none⟩) ln ln] ∧ Below w.heap.size w wr) (fun i _ => ln - (intOf i).toNat)
  case atStart => exact ⟨0, _, _, _, by omega, rfl, hS0, hB0', hB2, ha3⟩
  case round =>
    clear hS0 hB1' hB0' hB2 hs3 ha3
    obtain ⟨j, cs, A, C, hj, rfl, hS, hBz, hBp, hbel⟩ := hrel
    have hsz := hbel.size
    have hgt := hBp.lt
    by_cases hlt : j < ln
    · have hlt2 : j < l.length := by rw [HLN.out]; exact hlt
      obtain ⟨h, off, ha, q1, q2, q3⟩ := hc j hlt2
      subst ha
      have r0 : wr.cell? ⟨h, off + j, none⟩ = some (V j) := (cell_block (hbel.block h (by omega)) _).trans q3
      have hdr : Below wr.heap.size wr wr.drew := (Below.refl _ _).drew
      have hcall := ih l[j] (List.getElem_mem hlt2) (V j) lo n₀ wr.drew (by show n₀ ≤ wr.heap.size; omega) (((hv j hlt2).old hbel hn₀).old hdr (by omega))
      unfold pV at hcall
      have hszd : wr.drew.heap.size = wr.heap.size := rfl
      rw [hszd] at hcall
      have hcs := hS.size
      have hp5 : wr.cell? ⟨w.heap.size + 1 + 1, 5, none⟩ = some (.slice (some ⟨w.heap.size + 1, 0, none⟩) ln ln) := hBp.cell 5
      have HF : Hid (∀ w4, Below wr.heap.size wr.drew w4 → w4.cell? ⟨w.heap.size + 1 + 1, 5, none⟩ = some (.slice (some ⟨w.heap.size + 1, 0, none⟩) ln ln) ∧
          ((∃ y, w4.cell? ⟨w.heap.size + 1, j * 6, none⟩ = some y) ∧ (∃ y, w4.cell? ⟨w.heap.size + 1, j * 6 + 1, none⟩ = some y) ∧ (∃ y, w4.cell? ⟨w.heap.size + 1, j * 6 + 2, none⟩ = some y) ∧ (∃ y, w4.cell? ⟨w.heap.size + 1, j * 6 + 3, none⟩ = some y) ∧ (∃ y, w4.cell? ⟨w.heap.size + 1, j * 6 + 4, none⟩ = some y) ∧ (∃ y, w4.cell? ⟨w.heap.size + 1, j * 6 + 5, none⟩ = some y)) ∧
          w4.frozen? ⟨w.heap.size + 1, j * 6, none⟩ = false ∧ w4.frozen? ⟨w.heap.size + 1, j * 6 + 1, none⟩ = false ∧ w4.frozen? ⟨w.heap.size + 1, j * 6 + 2, none⟩ = false ∧ w4.frozen? ⟨w.heap.size + 1, j * 6 + 3, none⟩ = false ∧ w4.frozen? ⟨w.heap.size + 1, j * 6 + 4, none⟩ = false ∧ w4.frozen? ⟨w.heap.size + 1, j * 6 + 5, none⟩ = false) := by
        intro w4 hb4
        have hB4 := (hS.blk.old hdr).below hb4 hS.blk.lt
        have hP4 := (hBp.old hdr).below hb4 hBp.lt
        have y : ∀ k, k ≤ 5 → ∃ y, w4.cell? ⟨w.heap.size + 1, j * 6 + k, none⟩ = some y := fun k hk => ⟨_, (hB4.cell _).trans (Array.getElem?_eq_getElem (by omega))⟩
        exact ⟨hP4.cell 5, ⟨y 0 (by omega), y 1 (by omega), y 2 (by omega), y 3 (by omega), y 4 (by omega), y 5 (by omega)⟩, hB4.frozen _, hB4.frozen _, hB4.frozen _, hB4.frozen _, hB4.frozen _, hB4.frozen _⟩
      obtain ⟨x, hx⟩ : ∃ x, l[j] = x := ⟨_, rfl⟩
      have HX : Hid (l[j] = x) := hx
      rw [hx] at hcall
      generalize V j = vj at r0 hcall
      have hji : (j : Int) < (ln : Int) := by omega
      have HS : Hid (SofarP wr (w.heap.size + 1) j cs l ln A C) := hS
      have HBz : Hid (Blk wr w.heap.size 29 #[.int .u8 0, .bool false, .bool false, .string ⟨#[]⟩, .string ⟨#[]⟩, .slice none 0 0]) := hBz
      have HBp : Hid (Blk wr (w.heap.size + 1 + 1) 29 #[.int .u8 7, .bool false, .bool false, .string ⟨#[]⟩, .string ⟨#[]⟩, .slice (some ⟨w.heap.size + 1, 0, none⟩) ln ln]) := hBp
      clear hx hS hBz hBp hc hv ih hB hk0 q3 hszd hcs
      go_wp2_with fail
      go_region_with (go_at_call 17; refine hcall.mono ?_; rintro _ w4 ⟨ax, cx, rfl, hpin, hb4⟩; obtain ⟨p5, ⟨⟨y0, p60⟩, ⟨y1, p61⟩, ⟨y2, p62⟩, ⟨y3, p63⟩, ⟨y4, p64⟩, ⟨y5, p65⟩⟩, f0, f1, f2, f3, f4, f5⟩ := HF.out w4 hb4)
      all_goals
        have hbx : Below wr.heap.size wr w4 := hdr.trans hb4
        have hst := HS.out.step (cx := cx) HLN.out hlt (fun _ => HX.out) hbx hpin
        have hz5 : Blk (set6 w4 (w.heap.size + 1) (j * 6) (.int .u8 x.kind) (.bool x.yes) (.bool x.neg) (.string x.mag) (.string x.raw) (.slice ax x.items.length cx)) w.heap.size 29 #[.int .u8 0, .bool false, .bool false, .string ⟨#[]⟩, .string ⟨#[]⟩, .slice none 0 0] := (set6_other (by omega)).trans (HBz.out.old hbx)
        have hp6 : Blk (set6 w4 (w.heap.size + 1) (j * 6) (.int .u8 x.kind) (.bool x.yes) (.bool x.neg) (.string x.mag) (.string x.raw) (.slice ax x.items.length cx)) (w.heap.size + 1 + 1) 29 #[.int .u8 7, .bool false, .bool false, .string ⟨#[]⟩, .string ⟨#[]⟩, .slice (some ⟨w.heap.size + 1, 0, none⟩) ln ln] := (set6_other (by omega)).trans (HBp.out.old hbx)
        have hbw := set6_below (hbel.trans (hbx.mono hsz)) (show w.heap.size ≤ w.heap.size + 1 by omega) (j * 6) (.int .u8 x.kind) (.bool x.yes) (.bool x.neg) (.string x.mag) (.string x.raw) (.slice ax x.items.length cx)
        change Exit.inBlock 1 (Exit.then _ _) Exit.normal _ (set6 w4 (w.heap.size + 1) (j * 6) (.int .u8 x.kind) (.bool x.yes) (.bool x.neg) (.string x.mag) (.string x.raw) (.slice ax x.items.length cx))
        generalize set6 w4 (w.heap.size + 1) (j * 6) (.int .u8 x.kind) (.bool x.yes) (.bool x.neg) (.string x.mag) (.string x.raw) (.slice ax x.items.length cx) = w5 at hst hz5 hp6 hbw ⊢
        clear HF hcall p5 p60 p61 p62 p63 p64 p65 f0 f1 f2 f3 f4 f5 HS HBz HBp hpin hp5 r0
        go_wp2_with fail
        go_roundw
        case rel => exact ⟨j + 1, _, _, _, by omega, by simp, hst, hz5, hp6, hbw⟩
        case measure => simp only [intOf]; omega
    · have hjl : j = ln := by omega
      obtain ⟨c0, c1, c2, c3, c4, c5⟩ := hBp.c6
      obtain ⟨d0, d1, d2, d3, d4, d5⟩ := hBz.c6
      have f0 := hBz.frozen 0
      have f1 := hBz.frozen 1
      have f2 := hBz.frozen 2
      have f3 := hBz.frozen 3
      have f4 := hBz.frozen 4
      have f5 := hBz.frozen 5
      have hfin := hBz.set6 (.int .u8 7) (.bool false) (.bool false) (.string ⟨#[]⟩) (.string ⟨#[]⟩) (.slice (some ⟨w.heap.size + 1, 0, none⟩) ln ln)
      have hbw := set6_below hbel (Nat.le_refl _) 0 (.int .u8 7) (.bool false) (.bool false) (.string ⟨#[]⟩) (.string ⟨#[]⟩) (.slice (some ⟨w.heap.size + 1, 0, none⟩) ln ln)
      have hPin : PIn (set6 wr w.heap.size 0 (.int .u8 7) (.bool false) (.bool false) (.string ⟨#[]⟩) (.string ⟨#[]⟩) (.slice (some ⟨w.heap.size + 1, 0, none⟩) ln ln)) w.heap.size (set6 wr w.heap.size 0 (.int .u8 7) (.bool false) (.bool false) (.string ⟨#[]⟩) (.string ⟨#[]⟩) (.slice (some ⟨w.heap.size + 1, 0, none⟩) ln ln)).heap.size (.mk 7 false false ⟨#[]⟩ ⟨#[]⟩ l) (some ⟨w.heap.size + 1, 0, none⟩) := by
        have hblk : ∀ b, w.heap.size + 1 ≤ b → (set6 wr w.heap.size 0 (.int .u8 7) (.bool false) (.bool false) (.string ⟨#[]⟩) (.string ⟨#[]⟩) (.slice (some ⟨w.heap.size + 1, 0, none⟩) ln ln)).heap[b]? = wr.heap[b]? := fun b hb => set6_other (by omega)
        rw [set6_size]
        refine .cons A C (by omega) (by have := hS.blk.lt; omega) (fun i hi => ?_) (fun i hi => ?_)
        · have hil : i < j := by rw [hjl, ← HLN.out]; exact hi
          obtain ⟨e0, e1, e2, e3, e4, e5⟩ := hS.row i hi hil
          have q := fun k => cell_of_block (hblk (w.heap.size + 1) (Nat.le_refl _)) k
          rw [Nat.zero_add]
          exact ⟨(q _).trans e0, (q _).trans e1, (q _).trans e2, (q _).trans e3, (q _).trans e4, (q _).trans e5⟩
        · have hil : i < j := by rw [hjl, ← HLN.out]; exact hi
          exact ((hS.pin i hi hil).keep' (fun b h1 h2 => hblk b (by omega))).mono (Nat.le_refl _) (by omega)
      clear hjl hS hBp hBz hc hv ih hB hk0
      go_wp2_with fail
      refine bodyPost_ret (res69_run (b := w.heap.size) hfin rfl) rfl ?_
      refine ⟨some ⟨w.heap.size + 1, 0, none⟩, ln, ?_, hPin, hbw⟩
      unfold pV
      simp only [Prt.kind, Prt.yes, Prt.neg, Prt.mag, Prt.raw, Prt.items]
      rw [HLN.out]

theorem may_tup {y n : Bool} {m r : ByteArray} {l : List Prt} (h : may (.mk 7 y n m r l) = true) : l.length ≤ 1024 ∧ ∀ x ∈ l, may x = true := by
  rw [may_mk] at h
  simp [isRawK] at h
  exact ⟨h.2.1, h.2.2⟩
set_option maxHeartbeats 2000000 in
set_option maxRecDepth 20000 in
theorem tell_any : ∀ (p : Prt), may p = true → TellOk p := by
  intro p
  induction p using Prt.ind with
  | h k y n m r l ih =>
    intro hf v lo n₀ w hn₀ hv
    have hb1 := (Below.refl w.heap.size w).alloc (Nat.le_refl _) (.cells #[.int .u8 0, .bool false, .bool false, .string ⟨#[]⟩, .string ⟨#[]⟩, .slice none 0 0] 29)
    have hB0 := Blk.new w 29 #[.int .u8 0, .bool false, .bool false, .string ⟨#[]⟩, .string ⟨#[]⟩, .slice none 0 0]
    have hs1 := alloc_size w (.cells #[.int .u8 0, .bool false, .bool false, .string ⟨#[]⟩, .string ⟨#[]⟩, .slice none 0 0] 29)
    cases hv with
    | null =>
      have hfin := hB0.set6 (.int .u8 0) (.bool false) (.bool false) (.string ⟨#[]⟩) (.string ⟨#[]⟩) (.slice none 0 0)
      clear ih hf
      go_enter Tryd.func17, Tryd.ntmps17
      go_wp2_with fail
      refine bodyPost_ret (res18_run (b := w.heap.size) hB0 rfl) rfl ?_
      exact ⟨none, 0, rfl, .nil rfl, hb1⟩
    | truth y =>
      have hm := mPart_81 y
      have hc := truthPart_any y
      unfold pV at hc ⊢
      simp only [Prt.kind, Prt.yes, Prt.neg, Prt.mag, Prt.raw, Prt.items, List.length_nil] at hc ⊢
      obtain ⟨d0, d1, d2, d3, d4, d5⟩ := hB0.c6
      clear ih hf
      go_enter Tryd.func17, Tryd.ntmps17
      go_wp2_with fail
      refine (hc _).mono ?_
      rintro _ w2 ⟨c, rfl, hb2⟩
      have hB2 := hB0.old hb2
      obtain ⟨d0, d1, d2, d3, d4, d5⟩ := hB2.c6
      have f0 := hB2.frozen 0
      have f1 := hB2.frozen 1
      have f2 := hB2.frozen 2
      have f3 := hB2.frozen 3
      have f4 := hB2.frozen 4
      have f5 := hB2.frozen 5
      have hfin := hB2.set6 (.int .u8 1) (.bool y) (.bool false) (.string ⟨#[]⟩) (.string ⟨#[]⟩) (.slice none 0 c)
      have hbw := set6_below (hb1.trans (hb2.mono hb1.size)) (Nat.le_refl _) 0 (.int .u8 1) (.bool y) (.bool false) (.string ⟨#[]⟩) (.string ⟨#[]⟩) (.slice none 0 c)
      go_wp2_with fail
      refine bodyPost_ret (res18_run (b := w.heap.size) hfin rfl) rfl ?_
      exact ⟨none, c, rfl, .nil rfl, hbw⟩
    | num b m =>
      have hm := mPart_83 n m
      have hc := numPart_any n m
      unfold pV at hc ⊢
      simp only [Prt.kind, Prt.yes, Prt.neg, Prt.mag, Prt.raw, Prt.items, List.length_nil] at hc ⊢
      obtain ⟨d0, d1, d2, d3, d4, d5⟩ := hB0.c6
      clear ih hf
      go_enter Tryd.func17, Tryd.ntmps17
      go_wp2_with fail
      refine (hc _).mono ?_
      rintro _ w2 ⟨c, rfl, hb2⟩
      have hB2 := hB0.old hb2
      obtain ⟨d0, d1, d2, d3, d4, d5⟩ := hB2.c6
      have f0 := hB2.frozen 0
      have f1 := hB2.frozen 1
      have f2 := hB2.frozen 2
      have f3 := hB2.frozen 3
      have f4 := hB2.frozen 4
      have f5 := hB2.frozen 5
      have hfin := hB2.set6 (.int .u8 2) (.bool false) (.bool n) (.string m) (.string ⟨#[]⟩) (.slice none 0 c)
      have hbw := set6_below (hb1.trans (hb2.mono hb1.size)) (Nat.le_refl _) 0 (.int .u8 2) (.bool false) (.bool n) (.string m) (.string ⟨#[]⟩) (.slice none 0 c)
      go_wp2_with fail
      refine bodyPost_ret (res18_run (b := w.heap.size) hfin rfl) rfl ?_
      exact ⟨none, c, rfl, .nil rfl, hbw⟩
    | raw k r hk =>
      have hm := mPart_85 k r
      have hc := rawPart_any k r
      unfold pV at hc ⊢
      simp only [Prt.kind, Prt.yes, Prt.neg, Prt.mag, Prt.raw, Prt.items, List.length_nil] at hc ⊢
      obtain ⟨d0, d1, d2, d3, d4, d5⟩ := hB0.c6
      clear ih hf
      go_enter Tryd.func17, Tryd.ntmps17
      go_wp2_with fail
      refine (hc _).mono ?_
      rintro _ w2 ⟨c, rfl, hb2⟩
      have hB2 := hB0.old hb2
      obtain ⟨d0, d1, d2, d3, d4, d5⟩ := hB2.c6
      have f0 := hB2.frozen 0
      have f1 := hB2.frozen 1
      have f2 := hB2.frozen 2
      have f3 := hB2.frozen 3
      have f4 := hB2.frozen 4
      have f5 := hB2.frozen 5
      have hfin := hB2.set6 (.int .u8 k) (.bool false) (.bool false) (.string ⟨#[]⟩) (.string r) (.slice none 0 c)
      have hbw := set6_below (hb1.trans (hb2.mono hb1.size)) (Nat.le_refl _) 0 (.int .u8 k) (.bool false) (.bool false) (.string ⟨#[]⟩) (.string r) (.slice none 0 c)
      go_wp2_with fail
      refine bodyPost_ret (res18_run (b := w.heap.size) hfin rfl) rfl ?_
      exact ⟨none, c, rfl, .nil rfl, hbw⟩
    | @tup _ g c a V h1 h2 h3 h4 h5 =>
      have hm := mPart_74
      obtain ⟨hl, hml⟩ := may_tup hf
      have hcall := tuplePart_step l (by omega) (fun x hx => ih x hx (hml x hx)) g c lo n₀ a V (w.alloc (.cells #[.int .u8 0, .bool false, .bool false, .string ⟨#[]⟩, .string ⟨#[]⟩, .slice none 0 0] 29)) (by omega) h2 (h3.below hb1 (by omega)) (fun j hj => by
        obtain ⟨h, off, e, q1, q2, q3⟩ := h4 j hj
        exact ⟨h, off, e, q1, q2, (cell_block (hb1.block h (by omega)) _).trans q3⟩) (fun j hj => (h5 j hj).old hb1 hn₀)
      clear ih hf h3 h4 h5 hml hl
      unfold pV at hcall ⊢
      simp only [Prt.kind, Prt.yes, Prt.neg, Prt.mag, Prt.raw, Prt.items] at hcall ⊢
      go_enter Tryd.func17, Tryd.ntmps17
      go_wp2_with fail
      refine hcall.mono ?_
      rintro _ w2 ⟨ax, cx, rfl, hpx, hb2⟩
      have hB2 := hB0.old hb2
      obtain ⟨d0, d1, d2, d3, d4, d5⟩ := hB2.c6
      have f0 := hB2.frozen 0
      have f1 := hB2.frozen 1
      have f2 := hB2.frozen 2
      have f3 := hB2.frozen 3
      have f4 := hB2.frozen 4
      have f5 := hB2.frozen 5
      have hfin := hB2.set6 (.int .u8 7) (.bool false) (.bool false) (.string ⟨#[]⟩) (.string ⟨#[]⟩) (.slice ax l.length cx)
      have hbw := set6_below (hb1.trans (hb2.mono hb1.size)) (Nat.le_refl _) 0 (.int .u8 7) (.bool false) (.bool false) (.string ⟨#[]⟩) (.string ⟨#[]⟩) (.slice ax l.length cx)
      have hP : PIn (set6 w2 w.heap.size 0 (.int .u8 7) (.bool false) (.bool false) (.string ⟨#[]⟩) (.string ⟨#[]⟩) (.slice ax l.length cx)) w.heap.size (set6 w2 w.heap.size 0 (.int .u8 7) (.bool false) (.bool false) (.string ⟨#[]⟩) (.string ⟨#[]⟩) (.slice ax l.length cx)).heap.size (.mk 7 false false ⟨#[]⟩ ⟨#[]⟩ l) ax := by
        rw [set6_size]
        exact (hpx.keep' (fun b q1 q2 => set6_other (by omega))).mono (Nat.le_refl _) (by omega)
      go_wp2_with fail
      refine bodyPost_ret (res18_run (b := w.heap.size) hfin rfl) rfl ?_
      exact ⟨ax, cx, rfl, hP, hbw⟩
end Go.Proofs.YtnjfkijekohdkaaDoor
