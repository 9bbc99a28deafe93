/- What appendPoint does (a contract; nothing is claimed here). -/
import Derived.Test.YtfeppbiodbhpcaaDoorFmt
import Derived.Test.YtfeppbiodbhpcaaDoorShelfU
import Derived.Test.YtfeppbiodbhpcaaDoorMemR
import Derived.Lib.AppendStr
namespace Go.Proofs.YtfeppbiodbhpcaaDoor
open Go.RowKit Go.Vf Go.Maps

theorem info5 : (Tryd.prog.info? 5).map (fun i => (i.zero, i.size, i.bytes)) = some (some (.int .u8 0), 1, 1) := by kernel_rfl

theorem bown_val {e : TypeId} {w : World} {base : Nat} {v : Value} {acc : List UInt8} (h : BOwn e w base v acc) : ∃ a cap, v = .slice a acc.length cap := row_val h
theorem bown_after {e : TypeId} {w w' : World} {base : Nat} {v : Value} {acc : List UInt8} (h : BOwn e w base v acc) (hb : Below w.heap.size w w') : BOwn e w' base v acc := own_after h hb

/-- Blocks that hold no bytes stay. -/
def KO (w w' : World) : Prop := ∀ j t cs, t ≠ 5 → Blk w j t cs → Blk w' j t cs
theorem KO.refl (w : World) : KO w w := fun _ _ _ _ h => h
theorem KO.trans {w w1 w2 : World} (h : KO w w1) (h2 : KO w1 w2) : KO w w2 := fun j t cs ht hj => h2 j t cs ht (h j t cs ht hj)
theorem KO.of_below {w w' : World} (h : Below w.heap.size w w') : KO w w' := fun _ _ _ _ hj => hj.below h hj.lt
theorem KO.alloc {w w' : World} (h : KO w w') (o : Obj) : KO w (w'.alloc o) := fun j t cs ht hj => (Below.heap_alloc w' o j (h j t cs ht hj).lt).trans (h j t cs ht hj)
theorem KO.grown {w w' : World} {base : Nat} {v : Value} {acc : List UInt8} (hown : BOwn 5 w base v acc) (hg : w.grownBy w' v.ownBlock) : KO w w' := fun j _ _ ht hj => (hg.block j hj.lt (own_ne_blk hown hj (fun e => ht e.symm))).trans hj

/-- 'text = append(text, b)'. -/
theorem wpList_append_byteK {w : World} {ops : Array Oper} {rest : List Oper} {o : Oper} {a : Act} {Q : Exit → Act → World → Prop} (hgd : o.guard = none) (s x : Operand)
    (ho : o.op = .call { callee := .builtin .append, args := #[s, x], argTypes := #[79, 79] })
    (base : Nat) (v : Value) (acc : List UInt8) (hs : a.eval s = v) (hown : BOwn 5 w base v acc) (b : UInt8) (n : Int) (hn : n = (b.toNat : Int)) (c : Nat) (hx : a.eval x = .slice (some ⟨w.heap.size, 0, none⟩) 1 c)
    (hlen : acc.length ≤ 1099511627776) (hbase : base ≤ w.heap.size) (w0 : World) (hb : Below base w0 w) (hk : KO w0 w)
    (h : ∀ v' w', BOwn 5 w' base v' (acc ++ [b]) → Below base w0 w' → base ≤ w'.heap.size → KO w0 w' → wpList Tryd.prog ops Q rest (a.put o.dst v') w') :
    wpList Tryd.prog ops Q (o :: rest) a (w.alloc (.cells #[.int .u8 n] 5)) := by
  subst hn
  obtain ⟨i, hi, hz, hsz, hby⟩ := info_parts info5
  refine wpList_append_own (P := Tryd.prog) _ hgd s x 79 ho base 5 i (.int .u8 0) 1 1 Tryd.underlying79 hi hz hsz hby rfl (by decide) v acc.length (cellsL acc) hs (BOwn.alloc hown _) ⟨w.heap.size, 0, none⟩ 1 c [.int .u8 (b.toNat : Int)] hx rfl ?_ ?_ ?_ ?_ ?_ ?_
  · intro j u hj
    match j, hj with
    | 0, hj => simp at hj; subst hj; simp [Addr.add]
  · intro u hu; simp at hu; subst hu; rfl
  · unfold maxLen; omega
  · omega
  · simp; omega
  · intro v' w' h1 h2 _
    refine h v' w' ?_ ?_ ?_ ?_
    · unfold BOwn
      have e1 : cellsL (acc ++ [b]) = cellsL acc ++ [.int .u8 (b.toNat : Int)] := by simp [cellsL]
      rw [e1, List.length_append]
      exact h1
    · exact (hb.alloc hbase _).grown h2 (by simp; omega) (fun k hk => (World.ownsRow.lt (BOwn.alloc hown (.cells #[.int .u8 (b.toNat : Int)] 5)) k hk).1)
    · have := h2.size; simp at this; omega
    · exact (hk.alloc _).trans (KO.grown (BOwn.alloc hown _) h2)

/-- 'text = append(text, s...)' of a string. -/
theorem wpList_append_text {w : World} {ops : Array Oper} {rest : List Oper} {o : Oper} {a : Act} {Q : Exit → Act → World → Prop} (hgd : o.guard = none) (sl x : Operand)
    (ho : o.op = .call { callee := .builtin .append, args := #[sl, x], argTypes := #[79, 9] }) (base : Nat) (v : Value) (acc : List UInt8) (hs : a.eval sl = v) (hown : BOwn 5 w base v acc) (l : List UInt8) (hx : a.eval x = .string (bsz l))
    (hlen : acc.length + l.length ≤ 1099511627776) (hbase : base ≤ w.heap.size)
    (h : ∀ v' w', BOwn 5 w' base v' (acc ++ l) → Below base w w' → base ≤ w'.heap.size → KO w w' → wpList Tryd.prog ops Q rest (a.put o.dst v') w') : wpList Tryd.prog ops Q (o :: rest) a w := by
  obtain ⟨i, hi, hz, hsz, hby⟩ := info_parts info5
  have hsl : (bsz l).size = l.length := by simp [ByteArray.size]
  refine Lib.wpList_append_own_string (P := Tryd.prog) w hgd sl x 79 9 ho base 5 i Tryd.underlying79 Tryd.underlying9 hi hz hsz hby v acc.length (cellsL acc) hs hown (bsz l) hx (by rw [hsl]; unfold maxLen; omega) (by rw [hsl]; omega) hbase ?_
  intro v' w' h1 h2 _
  refine h v' w' ?_ ((Below.refl base w).grown h2 hbase (fun j hj => (own_ge hown hj).1)) (Nat.le_trans hbase h2.size) (KO.grown hown h2)
  unfold BOwn
  rw [hsl] at h1
  rw [List.length_append]
  have e : cellsL (acc ++ l) = cellsL acc ++ Lib.strCells (bsz l) := by simp [cellsL, Lib.strCells]
  rw [e]
  exact h1

set_option maxHeartbeats 4000000 in
set_option maxRecDepth 20000 in
theorem appendHex_any (u base : Nat) (hu : u ≤ 1114111) (v : Value) (acc : List UInt8) (w : World) (hown : BOwn 5 w base v acc) (hacc : acc.length ≤ 1000000000) (hbase : base ≤ w.heap.size) (_h6 : 6 < base) (ht : w.cell? ⟨6, 15, none⟩ = some (.int .u8 4)) :
    Calls Tryd.prog 75 #[v, .int .i64 (u : Int)] w fun e w' => ∃ v', e = .returned v' ∧ BOwn 5 w' base v' (acc ++ pointS u) ∧ Below base w w' ∧ base ≤ w'.heap.size ∧ KO w w' := by
  have hu8 : u < 16 ^ 8 := by omega
  have hl6 := hexLow_len u 6 (by omega) (by omega)
  obtain ⟨a0, c0, rfl⟩ := bown_val hown
  go_enter Tryd.func75, Tryd.ntmps75
  go_wp2_with fail
  refine (format16 u hu8 w ht).mono ?_
  rintro e w1 ⟨rfl, hb1⟩
  go_wp2_with fail
  refine (Tryd.strings_ToUpper_ascii (bsz (hexLow u)) w1 (by simp [ByteArray.size]; omega) (fun j b hj => hexLow_ascii u b (List.mem_of_getElem? (by simpa [bsz] using hj)))).mono ?_
  rw [show (bsz (hexLow u)).data.toList = hexLow u by simp]
  rintro e w2 ⟨rfl, hb2⟩
  have hown2 := bown_after (bown_after hown hb1) hb2
  have hbw2 : Below base w w2 := (hb1.mono hbase).trans (hb2.mono (Nat.le_trans hbase hb1.size))
  have hsz2 : base ≤ w2.heap.size := Nat.le_trans hbase (Nat.le_trans hb1.size hb2.size)
  have hko2 : KO w w2 := (KO.of_below hb1).trans (KO.of_below hb2)
  have HU : Hid (pointS u = List.replicate (4 - (upHex u).length) 48 ++ upHex u) := rfl
  have hul : (upHex u).length ≤ 6 := by unfold upHex; rw [toUpperA_len]; exact hl6
  have hsz : (bsz (upHex u)).size = (upHex u).length := by simp [ByteArray.size]
  rw [show (⟨(Lib.toUpperA (hexLow u)).toArray⟩ : ByteArray) = bsz (upHex u) from rfl]
  generalize upHex u = up at HU hul hsz ⊢
  clear hown hl6 hb1 hb2
  go_wp2_with fail
  go_loopw [0, 12] (fun v i wr => ∃ (k : Nat), i = .int .i64 k ∧ k ≤ 4 - up.length ∧ BOwn 5 wr base v (acc ++ List.replicate k 48) ∧ Below base w wr ∧ base ≤ wr.heap.size ∧ Hid (KO w wr)) (fun _ i _ => 4 - up.length - (intOf i).toNat)
  case atStart => exact ⟨0, rfl, by omega, by simpa using hown2, hbw2, hsz2, hko2⟩
  case round =>
    obtain ⟨k, rfl, hk, hown, hbel, hsz3, HKO⟩ := hrel
    have hll : (acc ++ List.replicate k 48).length ≤ 1099511627776 := by simp; omega
    by_cases hlt : k + up.length < 4
    · have HR : Hid ((acc ++ List.replicate k 48) ++ [48] = acc ++ List.replicate (k + 1) 48) := by show _ = _; rw [List.append_assoc, List.replicate_succ']
      go_wp2_with (first | (at_builtin; refine wpList_append_byteK rfl _ _ rfl base _ (acc ++ List.replicate k 48) rfl hown 48 _ rfl _ rfl hll hsz3 w hbel HKO.out ?_; intro v3 w3 hown3 hbel3 hsz4 hko3))
      go_roundw
      case rel => exact ⟨k + 1, by simp, by omega, by rw [← HR.out]; exact hown3, hbel3, hsz4, hko3⟩
      case measure => simp only [intOf]; omega
    · have hk2 : k = 4 - up.length := by omega
      have HF : Hid ((acc ++ List.replicate k 48) ++ up = acc ++ pointS u) := by show _ = _; rw [HU.out, hk2, List.append_assoc]
      have hl2 : (acc ++ List.replicate k 48).length + up.length ≤ 1099511627776 := by simp; omega
      clear hk2
      go_wp2_with (first | (at_builtin; refine wpList_append_text rfl _ _ rfl base _ (acc ++ List.replicate k 48) rfl hown up rfl hl2 hsz3 ?_; intro v3 w3 hown3 hbel3 hsz4 hko3))
      go_ret
      exact ⟨v3, rfl, by rw [← HF.out]; exact hown3, hbel.trans hbel3, hsz4, HKO.out.trans hko3⟩

end Go.Proofs.YtfeppbiodbhpcaaDoor
