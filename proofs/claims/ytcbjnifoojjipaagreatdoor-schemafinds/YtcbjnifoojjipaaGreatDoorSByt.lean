/- A row of bytes that a call owns, also one that '[]byte(s)' made: append, string(row) (laws; nothing is claimed here). -/
import Derived.Test.YtcbjnifoojjipaaGreatDoorSSay
import Derived.Test.YtcbjnifoojjipaaGreatDoorJ5
import Derived.Deep.AppendSrc
import Derived.Lib.JoinLaws
import Derived.Laws.IdiomCopy
namespace Go.Proofs.YtcbjnifoojjipaaGreatDoor
open Go.RowKit Go.Vf
theorem info5b : (Tryz.prog.info? 5).map (fun i => (i.zero, i.size, i.bytes)) = some (some (.int .u8 0), 1, 1) := by kernel_rfl
theorem info_parts {x : Option TypeInfo} {z : Option Value} {s b : Nat} (h : x.map (fun i => (i.zero, i.size, i.bytes)) = some (z, s, b)) : ∃ i, x = some i ∧ i.zero = z ∧ i.size = s ∧ i.bytes = b := by
  obtain ⟨i, hi, he⟩ := Option.map_eq_some_iff.1 h
  simp only [Prod.mk.injEq] at he
  exact ⟨i, hi, he.1, he.2.1, he.2.2⟩
def KO (w w' : World) : Prop := ∀ j t cs, t ≠ 5 → Blk w j t cs → Blk w' j t cs
theorem KO.refl (w : World) : KO w w := fun _ _ _ _ h => h
theorem KO.trans {w w1 w2 : World} (h : KO w w1) (h2 : KO w1 w2) : KO w w2 := fun j t cs ht hj => h2 j t cs ht (h j t cs ht hj)
theorem KO.of_below {w w' : World} (h : Below w.heap.size w w') : KO w w' := fun _ _ _ _ hj => hj.below h hj.lt
structure BO (w : World) (base : Nat) (v : Value) (acc : List UInt8) : Prop where
  ex : ∃ g cap, v = .slice (some ⟨g, 0, none⟩) acc.length cap ∧ base ≤ g ∧ (∃ cs fz, w.heap[g]? = some (.cells cs 5 fz)) ∧ acc.length ≤ cap ∧
    (∀ j (hj : j < acc.length), w.cell? ⟨g, j, none⟩ = some (.int .u8 ((acc[j]).toNat : Int))) ∧ ∀ j, j < cap → (w.cell? ⟨g, j, none⟩).isSome = true ∧ w.frozen? ⟨g, j, none⟩ = false
theorem bo_val {w : World} {base : Nat} {v : Value} {acc : List UInt8} (h : BO w base v acc) : ∃ g cap, v = .slice (some ⟨g, 0, none⟩) acc.length cap := by
  obtain ⟨g, cap, h, _⟩ := h.ex; exact ⟨g, cap, h⟩
theorem bo_after {w w' : World} {base : Nat} {v : Value} {acc : List UInt8} (h : BO w base v acc) (hb : Below w.heap.size w w') : BO w' base v acc := by
  obtain ⟨g, cap, h1, h2, ⟨cs, fz, h3⟩, h4, h5, h6⟩ := h.ex
  have hg : g < w.heap.size := (Array.getElem?_eq_some_iff.1 h3).1
  exact ⟨g, cap, h1, h2, ⟨cs, fz, (hb.block g hg).trans h3⟩, h4, fun j hj => (hb.cell (p := ⟨g, j, none⟩) hg).trans (h5 j hj), fun j hj => ⟨by rw [hb.cell (p := ⟨g, j, none⟩) hg]; exact (h6 j hj).1, by rw [hb.frozen (p := ⟨g, j, none⟩) hg]; exact (h6 j hj).2⟩⟩
theorem setCells_size (b : Nat) : ∀ (vs : List Value) (o : Nat) (w : World), (w.setCells b o vs).heap.size = w.heap.size
  | [], _, _ => rfl
  | v :: r, o, w => by rw [World.setCells, setCells_size b r]; simp [World.setCell]
theorem setCells_below (b B : Nat) (hB : B ≤ b) : ∀ (vs : List Value) (o : Nat) (w w0 : World), Below B w0 w → Below B w0 (w.setCells b o vs)
  | [], _, _, _, h => h
  | v :: r, o, w, w0, h => by rw [World.setCells]; exact setCells_below b B hB r _ _ _ (h.setCell (p := ⟨b, o, none⟩) hB v)
theorem setCells_other (b j : Nat) (hj : j ≠ b) : ∀ (vs : List Value) (o : Nat) (w : World), (w.setCells b o vs).heap[j]? = w.heap[j]?
  | [], _, _ => rfl
  | v :: r, o, w => by rw [World.setCells, setCells_other b j hj r]; exact Below.heap_setCell w ⟨b, o, none⟩ v j hj
theorem setCells_shape (b : Nat) : ∀ (vs : List Value) (o : Nat) (w : World), (∃ cs fz, w.heap[b]? = some (.cells cs 5 fz)) → ∃ cs fz, (w.setCells b o vs).heap[b]? = some (.cells cs 5 fz)
  | [], _, _, h => h
  | v :: r, o, w, h => by
    rw [World.setCells]
    refine setCells_shape b r _ _ ?_
    obtain ⟨cs, fz, h⟩ := h
    obtain ⟨hlt, hk⟩ := Array.getElem?_eq_some_iff.1 h
    refine ⟨cs.setIfInBounds o v, fz, ?_⟩
    show (w.heap.modify b _)[b]? = _
    rw [Array.getElem?_eq_getElem (by rw [Array.size_modify]; exact hlt), Array.getElem_modify_self, hk]
    rfl
theorem byteCells_get (l : List UInt8) (j : Nat) (hj : j < l.length) : (byteCells (bs l))[j]? = some (.int .u8 ((l[j]).toNat : Int)) := by simp [byteCells, bs, hj]
theorem wpList_append_text {w : World} {ops : Array Oper} {rest : List Oper} {o : Oper} {a : Act} {Q : Exit → Act → World → Prop} (hgd : o.guard = none) (sl x : Operand)
    (ho : o.op = .call { callee := .builtin .append, args := #[sl, x], argTypes := #[130, 9] }) (base : Nat) (v : Value) (acc : List UInt8) (hs : a.eval sl = v) (hown : BO w base v acc) (l : List UInt8) (hx : a.eval x = .string (bs l))
    (hlen : acc.length + l.length ≤ 1099511627776) (hbase : base ≤ w.heap.size)
    (h : ∀ v' w', BO w' base v' (acc ++ l) → Below base w w' → base ≤ w'.heap.size → KO w w' → wpList Tryz.prog ops Q rest (a.put o.dst v') w') : wpList Tryz.prog ops Q (o :: rest) a w := by
  obtain ⟨i, hi, hz, hsz, hby⟩ := info_parts info5b
  obtain ⟨g, cap, rfl, hg, ⟨cs, fz, hcs⟩, hcap, hc, hroom⟩ := hown.ex
  have hgl : g < w.heap.size := (Array.getElem?_eq_some_iff.1 hcs).1
  have hsrc : Src Tryz.prog i.size 9 (.string (bs l)) (bs l).size (byteCells (bs l)) w := by rw [hsz]; exact Src.ofString w Tryz.underlying9 (bs l)
  have hbl : (byteCells (bs l)).length = l.length := by rw [byteCells_length, bs_size]
  by_cases hr : acc.length + (bs l).size ≤ cap
  · rw [bs_size] at hr
    have hci : ∀ j, j < (byteCells (bs l)).length → (w.cell? ⟨g, 0 + acc.length * i.size + j, none⟩).isSome = true := fun j hj => by rw [hsz, Nat.mul_one, Nat.zero_add]; exact (hroom _ (by omega)).1
    refine wpList_append_room_src w hgd sl x 130 9 ho 5 i Tryz.underlying130 hi g 0 acc.length cap hs _ hx _ _ hsrc (by rw [bs_size]; exact hr) hci (fun j hj => by rw [hsz, Nat.mul_one, Nat.zero_add]; exact (hroom _ (by omega)).2) ?_
    rw [bs_size]
    refine h _ _ ⟨g, cap, by rw [List.length_append], hg, setCells_shape g _ _ _ ⟨cs, fz, hcs⟩, by rw [List.length_append]; exact hr, fun j hj => ?_, fun j hj => ⟨?_, ?_⟩⟩ (setCells_below g base hg _ _ _ _ (Below.refl _ _)) (by rw [setCells_size]; exact hbase) ?_
    · by_cases hja : j < acc.length
      · rw [World.cell?_setCells_out g _ _ _ _ (fun _ _ => .inl (by show j < _; rw [hsz]; omega)), List.getElem_append_left hja]
        exact hc j hja
      · have hj2 : j - acc.length < (byteCells (bs l)).length := by rw [List.length_append] at hj; omega
        have := World.cell?_setCells_in g (byteCells (bs l)) (0 + acc.length * i.size) w hci (j - acc.length) hj2
        rw [hsz, Nat.mul_one, Nat.zero_add, show acc.length + (j - acc.length) = j by omega] at this
        rw [hsz, Nat.mul_one, Nat.zero_add, this, List.getElem_append_right (by omega)]
        have e := byteCells_get l (j - acc.length) (by omega)
        rw [List.getElem?_eq_getElem hj2] at e
        exact e
    · by_cases hin : 0 + acc.length * i.size ≤ j ∧ j < 0 + acc.length * i.size + (byteCells (bs l)).length
      · have := World.cell?_setCells_in g (byteCells (bs l)) (0 + acc.length * i.size) w hci (j - (0 + acc.length * i.size)) (by omega)
        rw [show 0 + acc.length * i.size + (j - (0 + acc.length * i.size)) = j by omega] at this
        rw [this]; rfl
      · rw [World.cell?_setCells_out g _ _ _ _ (fun _ _ => by show j < _ ∨ _ ≤ j; omega)]
        exact (hroom j hj).1
    · rw [World.frozen?_setCells]; exact (hroom j hj).2
    · intro j t cs' ht hj
      refine (setCells_other g j (fun e => ?_) _ _ _).trans hj
      subst e
      have := (show w.heap[j]? = _ from hj).symm.trans hcs
      cases this
      exact ht rfl
  · have hold : (Builtin.firstCells i.size acc.length (.slice (some ⟨g, 0, none⟩) acc.length cap)).run Tryz.prog w.drew = .ok (cellsL acc).toArray w.drew := by
      refine run_firstCells_some (w := w.drew) i.size acc.length ⟨g, 0, none⟩ acc.length cap (cellsL acc) (by rw [hsz]; simp [cellsL]) fun j u hu => ?_
      have hja : j < acc.length := by
        have := (List.getElem?_eq_some_iff.1 hu).1
        simpa [cellsL] using this
      have e : u = .int .u8 ((acc[j]).toNat : Int) := by simpa [cellsL, hja] using hu.symm
      rw [e]
      rw [Go.WideShapes.add_plain, Nat.zero_add]
      exact hc j hja
    have hrun := run_append_grow_src (P := Tryz.prog) (w := w) 130 9 o.type 5 i (.int .u8 0) Tryz.underlying130 hi hz (some ⟨g, 0, none⟩) acc.length cap (cellsL acc) hold (.string (bs l)) (bs l).size (byteCells (bs l)) hsrc (by omega) (by rw [bs_size]; omega) (by
      have := nextslicecap_le (need := acc.length + (bs l).size) (old := cap) (by omega)
      rw [hby, bs_size] at *
      omega)
    refine wpList_plain hgd fun K hK' => ?_
    unfold Oper.wp
    simp [execOp, ho, resolve, invoke, builtin, hs, hx, hrun, Result.andThen]
    refine hK' _ _ ?_
    have hcg := grownCap_ge w (acc.length + (bs l).size) cap 5
    rw [bs_size] at hcg ⊢
    generalize grownCap w (acc.length + l.length) cap 5 = C at hcg ⊢
    have hN : (w.drew.alloc (.cells ((cellsL acc ++ byteCells (bs l)).toArray ++ Builtin.zeroCells (Value.int .u8 0).cells (C - (acc.length + l.length))) 5)).heap[w.heap.size]? = some (.cells ((cellsL acc ++ byteCells (bs l)).toArray ++ Builtin.zeroCells (Value.int .u8 0).cells (C - (acc.length + l.length))) 5 (0, 0)) := heap_alloc_new w.drew _
    have hA : ((cellsL acc ++ byteCells (bs l)).toArray ++ Builtin.zeroCells (Value.int .u8 0).cells (C - (acc.length + l.length))).size = C := by
      rw [Array.size_append, List.size_toArray, List.length_append, hbl, show (cellsL acc).length = acc.length by simp [cellsL]]
      have : (Builtin.zeroCells (Value.int .u8 0).cells (C - (acc.length + l.length))).size = C - (acc.length + l.length) := by rw [size_zeroCells]; simp [Value.cells]
      omega
    have hB : Below base w (w.drew.alloc (.cells ((cellsL acc ++ byteCells (bs l)).toArray ++ Builtin.zeroCells (Value.int .u8 0).cells (C - (acc.length + l.length))) 5)) := ((Below.refl base w).drew).alloc hbase _
    have hk : KO w (w.drew.alloc (.cells ((cellsL acc ++ byteCells (bs l)).toArray ++ Builtin.zeroCells (Value.int .u8 0).cells (C - (acc.length + l.length))) 5)) := KO.of_below (((Below.refl w.heap.size w).drew).alloc (Nat.le_refl _) _)
    have hS : base ≤ (w.drew.alloc (.cells ((cellsL acc ++ byteCells (bs l)).toArray ++ Builtin.zeroCells (Value.int .u8 0).cells (C - (acc.length + l.length))) 5)).heap.size := Nat.le_trans hbase hB.size
    have hL : ∀ j, j < (acc ++ l).length → ((cellsL acc ++ byteCells (bs l)).toArray ++ Builtin.zeroCells (Value.int .u8 0).cells (C - (acc.length + l.length)))[j]? = some (.int .u8 (((acc ++ l)[j]?.getD 0).toNat : Int)) := fun j hj => by
      have hb2 : byteCells (bs l) = cellsL l := by simp [byteCells, bs, cellsL]
      rw [hb2, show cellsL acc ++ cellsL l = cellsL (acc ++ l) by simp [cellsL], Array.getElem?_append_left (by simpa [cellsL] using hj)]
      rw [List.getElem?_toArray, show cellsL (acc ++ l) = (acc ++ l).map (fun b => Value.int .u8 (b.toNat : Int)) from rfl, List.getElem?_map, List.getElem?_eq_getElem hj]
      rfl
    generalize (cellsL acc ++ byteCells (bs l)).toArray ++ Builtin.zeroCells (Value.int .u8 0).cells (C - (acc.length + l.length)) = A at *
    refine h _ _ ⟨w.heap.size, C, by rw [List.length_append], hbase, ⟨A, _, hN⟩, by rw [List.length_append]; exact hcg, fun j hj => ?_, fun j hj => ⟨?_, ?_⟩⟩ hB hS hk
    · have := hL j hj
      simp only [World.cell?, hN]
      rw [List.getElem?_eq_getElem hj] at this
      exact this
    · simp only [World.cell?, hN]
      rw [Array.getElem?_eq_getElem (by omega)]; rfl
    · simp only [World.frozen?, hN]
      simp
theorem run_bytes_bo (w : World) (l : List UInt8) : ∃ v w', (convert 9 130 (.string (bs l))).run Tryz.prog w = .ok v w' ∧ BO w' w.heap.size v l ∧ Below w.heap.size w w' := by
  have hrun := run_bytes_of_string (P := Tryz.prog) w 9 130 5 (bs l) Tryz.underlying9 Tryz.underlying130 Tryz.underlying5
  have hcg := grownCap_ge w (bs l).size 0 5
  have hb : Below w.heap.size w (w.drew.alloc (.cells (bytesRow (bs l) (grownCap w (bs l).size 0 5)) 5 ((bytesRow (bs l) (grownCap w (bs l).size 0 5)).size, (bytesRow (bs l) (grownCap w (bs l).size 0 5)).size + 1))) := ((Below.refl w.heap.size w).drew).alloc (Nat.le_refl _) _
  have hN : (w.drew.alloc (.cells (bytesRow (bs l) (grownCap w (bs l).size 0 5)) 5 ((bytesRow (bs l) (grownCap w (bs l).size 0 5)).size, (bytesRow (bs l) (grownCap w (bs l).size 0 5)).size + 1))).heap[w.heap.size]? = _ := heap_alloc_new w.drew _
  refine ⟨_, _, hrun, ?_, hb⟩
  have hz : (bytesRow (bs l) (grownCap w (bs l).size 0 5)).size = grownCap w (bs l).size 0 5 := by
    unfold bytesRow
    rw [Array.size_append, Array.size_map, Array.size_replicate]
    have : (bs l).data.size = (bs l).size := rfl
    omega
  have hget := fun j hj => bytesRow_get (bs l) (grownCap w (bs l).size 0 5) j hj
  generalize grownCap w (bs l).size 0 5 = C at *
  generalize bytesRow (bs l) C = A at *
  rw [bs_size] at *
  have hzC : A.size = C := hz
  refine ⟨w.heap.size, C, rfl, Nat.le_refl _, ⟨A, _, hN⟩, hcg, fun j hj => ?_, fun j hj => ⟨?_, ?_⟩⟩
  · have := hget j (by simpa [bs] using hj)
    have h2 : (w.drew.alloc (.cells A 5 (A.size, A.size + 1))).cell? ⟨w.heap.size, j, none⟩ = A[j]? := by simp only [World.cell?, hN]; rfl
    rw [h2, this]
    simp [bs]
  · simp only [World.cell?, hN]
    rw [Array.getElem?_eq_getElem (by omega)]; rfl
  · simp only [World.frozen?, hN]
    simp
    omega
theorem run_string_bo (w : World) (base : Nat) (v : Value) (acc : List UInt8) (h : BO w base v acc) : (convert 130 9 v).run Tryz.prog w = .ok (.string (bs acc)) w := by
  obtain ⟨g, cap, rfl, _, _, hcap, hc, hroom⟩ := h.ex
  have hr : BRow w g acc := ⟨fun j hj => hc j hj, fun j hj => (hroom j (by omega)).2⟩
  rw [run_string_row w 130 9 5 Tryz.underlying130 Tryz.underlying5 Tryz.underlying9 g acc.length cap acc (Nat.le_refl _) hr, List.take_length]
end Go.Proofs.YtcbjnifoojjipaaGreatDoor
