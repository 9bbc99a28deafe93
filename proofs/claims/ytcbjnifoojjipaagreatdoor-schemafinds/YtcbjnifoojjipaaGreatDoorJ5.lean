/- Contracts and lemmas (nothing is claimed here). -/
import Derived.WalkKit
import Derived.WalkSpells
import Derived.WalkLawsBesides
import Derived.Laws.IdiomCopy
import Derived.Laws.BytesArg
import Derived.Lib.Strings
import Derived.Deep.OwnRows
import Derived.Test.YtcbjnifoojjipaaGreatDoorJ3
import Derived.Laws.IdiomStrings
import Derived.Lib.UnsafeStr
import Derived.Test.YtcbjnifoojjipaaGreatDoorProg
import Derived.Defers
import Derived.Recover
namespace Go.Vf
open Go.RowKit
variable {P : Program}
def bs (l : List UInt8) : ByteArray := ⟨l.toArray⟩
theorem bs_data (l : List UInt8) : (bs l).data.toList = l := by simp [bs]
theorem bs_size (l : List UInt8) : (bs l).size = l.length := by rw [Lib.size_eq, bs_data]
theorem bs_toList (l : List UInt8) : (bs l).toList = l := by rw [ByteArray.toList_eq, bs_data]
theorem data_inj {a b : ByteArray} (h : a.data.toList = b.data.toList) : a = b := by
  obtain ⟨⟨x⟩⟩ := a; obtain ⟨⟨y⟩⟩ := b; simp at h; rw [h]
theorem bs_of (s : ByteArray) : bs s.data.toList = s := data_inj (bs_data _)
structure BRow (w : World) (h : Nat) (l : List UInt8) : Prop where
  cell : ∀ j (hj : j < l.length), w.cell? ⟨h, j, none⟩ = some (.int .u8 ((l[j]'hj).toNat : Int))
  free : ∀ j, j < l.length → w.frozen? ⟨h, j, none⟩ = false
theorem BRow.at_ {w : World} {h : Nat} {l : List UInt8} (hr : BRow w h l) (j : Nat) (hj : j < l.length) : ∃ n : Int, w.cell? ⟨h, j, none⟩ = some (.int .u8 n) := ⟨_, hr.cell j hj⟩
theorem BRow.like {w w' : World} {h : Nat} {l : List UInt8} (hr : BRow w h l) (hc : ∀ a, w'.cell? a = w.cell? a) (hf : ∀ a, w'.frozen? a = w.frozen? a) : BRow w' h l :=
  ⟨fun j hj => by rw [hc]; exact hr.cell j hj, fun j hj => by rw [hf]; exact hr.free j hj⟩
theorem BRow.drew {w : World} {h : Nat} {l : List UInt8} (hr : BRow w h l) : BRow w.drew h l := ⟨hr.cell, hr.free⟩
theorem BRow.made (w : World) (n : Nat) (t : TypeId) : BRow (w.alloc (.cells (madeCells #[.int .u8 0] n) t)) w.heap.size (List.replicate n 0) := by
  have h := World.rowIs_made w (.int .u8 0) n t
  refine ⟨fun j hj => ?_, fun j _ => h.frozen j⟩
  rw [h.cell (by simpa using hj)]
  simp
theorem BRow.set {w : World} {h : Nat} {l : List UInt8} (hr : BRow w h l) (i : Nat) (x : UInt8) : BRow (w.setCell ⟨h, i, none⟩ (.int .u8 (x.toNat : Int))) h (l.set i x) := by
  refine ⟨fun j hj => ?_, fun j hj => ?_⟩
  · have hj' : j < l.length := by simpa using hj
    by_cases e : j = i
    · subst e
      obtain ⟨v, hv⟩ : ∃ v, w.cell? ⟨h, j, none⟩ = some v := ⟨_, hr.cell j hj'⟩
      have := World.cell?_setCell_same w ⟨h, j, none⟩ (.int .u8 (x.toNat : Int)) (by rw [hv])
      rw [this]; simp
    · rw [World.cell?_setCell_other _ _ _ _ (by simp), hr.cell j hj']
      simp [Ne.symm e]
  · rw [World.frozen?_setCell]
    exact hr.free j (by simpa using hj)
theorem BRow.push {w : World} {h N : Nat} {acc : List UInt8} (hr : BRow w h (fill acc N)) (i : Nat) (hi : i = acc.length) (hN : i < N) (x : UInt8) (n : Int) (hn : n = (x.toNat : Int)) : BRow (w.setCell ⟨h, i, none⟩ (.int .u8 n)) h (fill (acc ++ [x]) N) := by
  subst hi hn
  have h' := hr.set acc.length x
  rwa [fill_set acc x N hN] at h'
def cellsL (l : List UInt8) : List Value := l.map fun x => Value.int .u8 (x.toNat : Int)
theorem cellsL_length (l : List UInt8) : (cellsL l).length = l.length := by simp [cellsL]
theorem BRow.put {w : World} {h : Nat} {l : List UInt8} (hr : BRow w h l) (n : Nat) (t : List UInt8) (hfit : n + t.length ≤ l.length) : BRow (w.setCells h n (cellsL t)) h (l.take n ++ (t ++ l.drop (n + t.length))) := by
  have hlen : (l.take n ++ (t ++ l.drop (n + t.length))).length = l.length := by simp; omega
  refine ⟨fun j hj => ?_, fun j hj => ?_⟩
  · have hj' : j < l.length := by omega
    by_cases h1 : n ≤ j ∧ j < n + t.length
    · obtain ⟨d, rfl⟩ : ∃ d, j = n + d := ⟨j - n, by omega⟩
      rw [World.cell?_setCells_in h (cellsL t) n w (fun i hi => by rw [cellsL_length] at hi; rw [hr.cell (n + i) (by omega)]; rfl) d (by rw [cellsL_length]; omega)]
      have hd : d < t.length := by omega
      simp [cellsL, hd, Nat.min_eq_left (show n ≤ l.length by omega)]
    · rw [World.cell?_setCells_out h (cellsL t) n w ⟨h, j, none⟩ (fun _ _ => by rw [cellsL_length]; show j < n ∨ _ ≤ j; omega), hr.cell j hj']
      congr 3
      by_cases h2 : j < n
      · simp only [List.getElem_append, List.length_take, Nat.min_eq_left (show n ≤ l.length by omega), h2, dite_true, List.getElem_take]
      · have h3 : n + t.length ≤ j := by omega
        simp only [List.getElem_append, List.length_take, Nat.min_eq_left (show n ≤ l.length by omega), h2, dite_false, show ¬ j - n < t.length by omega, List.getElem_drop]
        congr 2; omega
  · rw [World.frozen?_setCells]
    exact hr.free j (by omega)
theorem below_setCells {B : Nat} {a : World} (b : Nat) (hb : B ≤ b) : ∀ (vs : List Value) (o : Nat) {w : World}, Below B a w → Below B a (w.setCells b o vs)
  | [], _, _, h => h
  | v :: r, o, _, h => below_setCells b hb r (o + 1) (h.setCell (p := ⟨b, o, none⟩) hb v)
theorem size_setCells (b : Nat) : ∀ (vs : List Value) (o : Nat) (w : World), (w.setCells b o vs).heap.size = w.heap.size
  | [], _, _ => rfl
  | v :: r, o, w => by rw [World.setCells, size_setCells b r (o + 1)]; simp [World.setCell]
def cutV (h N n : Nat) : Value := .slice (some (if N = n then ⟨h, 0, none⟩ else ⟨h, n, none⟩)) (N - n) (N - n)
theorem run_cut (W : World) (t e : TypeId) (ht : P.underlying t = some (.slice e)) (hz : ∀ w, (Go.sizeOf e).run P w = .ok 1 w) (h N n : Nat) (hb : n ≤ N) :
    (Instr.slice t (.slice (some ⟨h, 0, none⟩) N N) (some (.int .i64 (n : Int))) none none).run P W = .ok (cutV h N n) W := by
  have ht' : P.underlying t = some (.slice (P.elem t)) := by simp [Program.elem, ht]
  have he : P.elem t = e := by simp [Program.elem, ht]
  rw [run_slice_l W t _ _ _ ht' .i64 _ (by omega) (by omega), he, hz]
  unfold cutV
  by_cases h0 : N = n
  · simp [Result.andThen, sliced, h0]
  · by_cases h1 : n = 0
    · subst h1; simp [Result.andThen, sliced, Addr.add, h0]
    · simp [Result.andThen, sliced, Addr.add, h0, h1]
theorem cutV_zero (h N : Nat) : cutV h N 0 = .slice (some ⟨h, 0, none⟩) N N := by
  unfold cutV
  split <;> simp_all
theorem take_cells (t : ByteArray) (k : Nat) : List.take k (t.data.toList.map fun x => Value.int .u8 (x.toNat : Int)) = cellsL (t.data.toList.take k) := by
  simp [cellsL]
theorem run_copy_str (w : World) (dT sT ty e : TypeId) (h N n : Nat) (t : ByteArray) (l : List UInt8) (hl : l.length = N) (hn : n ≤ N) (hu : P.underlying dT = some (.slice e)) (hz : ∀ w, (Go.sizeOf e).run P w = .ok 1 w) (hr : BRow w h l) :
    (Builtin.copy_ #[dT, sT] ty #[cutV h N n, .string t]).run P w = .ok (.int .i64 (min t.size (N - n) : Nat)) (w.setCells h n (cellsL (t.data.toList.take (N - n)))) := by
  have hlt : (cellsL (t.data.toList.take (N - n))).length = min t.size (N - n) := by rw [cellsL_length, List.length_take, ← Lib.size_eq, Nat.min_comm]
  unfold cutV
  by_cases h0 : N = n
  · subst h0
    simp [Builtin.copy_, run_underlying hu, Builtin.lenOf, Builtin.firstCells, hz, cellsL, World.setCells, storeCells, goInt]
  · rw [if_neg h0]
    have hst := run_storeCells_cells (P := P) h n (cellsL (t.data.toList.take (N - n))) 0 w (by rw [hlt]; intro j hj; rw [Nat.add_zero, hr.cell (n + j) (by omega)]; rfl) (by rw [hlt]; intro j hj; rw [Nat.add_zero]; exact hr.free (n + j) (by omega)) (by
      intro v hv
      obtain ⟨x, _, rfl⟩ := List.mem_map.1 hv
      rfl)
    have hmin : List.take (min t.size (N - n)) (t.data.toList.map fun x => Value.int .u8 (x.toNat : Int)) = cellsL (t.data.toList.take (N - n)) := by
      rw [take_cells]
      congr 1
      by_cases hc : t.size ≤ N - n
      · rw [Nat.min_eq_left hc, List.take_of_length_le (by rw [← Lib.size_eq]; exact Nat.le_refl _), List.take_of_length_le (by rw [← Lib.size_eq]; exact hc)]
      · rw [Nat.min_eq_right (by omega)]
    simp only [Nat.add_zero] at hst
    simp [Builtin.copy_, run_underlying hu, Builtin.lenOf, Builtin.firstCells, hz]
    rw [show t.size.min (N - n) = min t.size (N - n) from rfl, hmin, hst]
    rfl
theorem run_copy_ex (w : World) (dT sT ty e : TypeId) (h N n : Nat) (t : ByteArray) (l : List UInt8) (hl : l.length = N) (hn : n ≤ N) (hu : P.underlying dT = some (.slice e)) (hz : ∀ w, (Go.sizeOf e).run P w = .ok 1 w) (hr : BRow w h l) (B : Nat) (w0 : World) (hb : Below B w0 w) (hB : B ≤ h) :
    ∃ w', (Builtin.copy_ #[dT, sT] ty #[cutV h N n, .string t]).run P w = .ok (.int .i64 (min t.size (N - n) : Nat)) w' ∧ BRow w' h (l.take n ++ (t.data.toList.take (N - n) ++ l.drop (n + min t.size (N - n)))) ∧ Below B w0 w' ∧ w'.heap.size = w.heap.size := by
  have hlen : (t.data.toList.take (N - n)).length = min t.size (N - n) := by rw [List.length_take, ← Lib.size_eq, Nat.min_comm]
  have hp := hr.put n (t.data.toList.take (N - n)) (by rw [hlen]; omega)
  rw [hlen] at hp
  exact ⟨_, run_copy_str (P := P) w dT sT ty e h N n t l hl hn hu hz hr, hp, below_setCells h hB _ _ hb, size_setCells _ _ _ _⟩
theorem wpList_copy_str {w : World} {ops : Array Oper} {rest : List Oper} {o : Oper} {a : Act} {Q : Exit → Act → World → Prop} (hgd : o.guard = none) (d x : Operand) (dT sT : TypeId)
    (hop : o.op = .call { callee := .builtin .copy, args := #[d, x], argTypes := #[dT, sT] }) (e : TypeId) (hu : P.underlying dT = some (.slice e)) (hz : ∀ w, (Go.sizeOf e).run P w = .ok 1 w)
    (h N n : Nat) (hd : a.eval d = cutV h N n) (t : ByteArray) (hx : a.eval x = .string t) (l : List UInt8) (hl : l.length = N) (hn : n ≤ N) (hr : BRow w h l) (B : Nat) (w0 : World) (hb : Below B w0 w) (hB : B ≤ h)
    (hK : ∀ w', Hid (BRow w' h (l.take n ++ (t.data.toList.take (N - n) ++ l.drop (n + min t.size (N - n))))) → Below B w0 w' → w'.heap.size = w.heap.size → wpList P ops Q rest (a.put o.dst (.int .i64 (min t.size (N - n) : Nat))) w') :
    wpList P ops Q (o :: rest) a w := by
  refine wpList_plain hgd fun K hK' => ?_
  have hrun := run_copy_str (P := P) w dT sT o.type e h N n t l hl hn hu hz hr
  have hlen : (t.data.toList.take (N - n)).length = min t.size (N - n) := by rw [List.length_take, ← Lib.size_eq, Nat.min_comm]
  unfold Oper.wp
  simp only [execOp, hop, resolve, invoke, builtin, Sem.run_bind, Sem.run_pure, Result.andThen_ok, List.map_toArray, List.map_cons, List.map_nil, hd, hx, hrun]
  have hp := hr.put n (t.data.toList.take (N - n)) (by rw [hlen]; omega)
  rw [hlen] at hp
  exact hK' _ _ (hK _ hp (below_setCells h hB _ _ hb) (size_setCells _ _ _ _))
theorem step_copy_str {ops : Array Oper} {o : Oper} {a : Act} {w : World} {K : Act → World → Prop} {Q : Exit → Act → World → Prop} {E : Prop} (hgd : o.guard = none) (d x : Operand) (dT sT : TypeId)
    (hop : o.op = Op.call { callee := Callee.builtin Builtin.copy, args := #[d, x], argTypes := #[dT, sT] }) (e : TypeId) (hu : P.underlying dT = some (.slice e)) (hz : ∀ w, (Go.sizeOf e).run P w = .ok 1 w)
    (h N n : Nat) (hd : a.eval d = cutV h N n) (t : ByteArray) (hx : a.eval x = .string t) (l : List UInt8) (hl : l.length = N) (hn : n ≤ N) (hr : BRow w h l) (B : Nat) (w0 : World) (hb : Below B w0 w) (hB : B ≤ h)
    (hK : ∀ w', Hid (BRow w' h (l.take n ++ (t.data.toList.take (N - n) ++ l.drop (n + min t.size (N - n))))) → Below B w0 w' → w'.heap.size = w.heap.size → K (a.put o.dst (.int .i64 (min t.size (N - n) : Nat))) w') :
    if Region.wanted o (yielded ops a.tmps) = true then Oper.wp P o a w K Q else E := by
  have hw : Region.wanted o (yielded ops a.tmps) = true := by simp [Region.wanted, hgd]
  rw [if_pos hw]
  have hrun := run_copy_str (P := P) w dT sT o.type e h N n t l hl hn hu hz hr
  have hlen : (t.data.toList.take (N - n)).length = min t.size (N - n) := by rw [List.length_take, ← Lib.size_eq, Nat.min_comm]
  unfold Oper.wp
  simp only [execOp, hop, resolve, invoke, builtin, Sem.run_bind, Sem.run_pure, Result.andThen_ok, List.map_toArray, List.map_cons, List.map_nil, hd, hx, hrun]
  have hp := hr.put n (t.data.toList.take (N - n)) (by rw [hlen]; omega)
  rw [hlen] at hp
  exact hK _ hp (below_setCells h hB _ _ hb) (size_setCells _ _ _ _)
theorem step_copy_fill {ops : Array Oper} {o : Oper} {a : Act} {w : World} {K : Act → World → Prop} {Q : Exit → Act → World → Prop} {E : Prop} (hgd : o.guard = none) (d x : Operand) (dT sT : TypeId)
    (hop : o.op = Op.call { callee := Callee.builtin Builtin.copy, args := #[d, x], argTypes := #[dT, sT] }) (e : TypeId) (hu : P.underlying dT = some (.slice e)) (hz : ∀ w, (Go.sizeOf e).run P w = .ok 1 w)
    (h N : Nat) (acc : List UInt8) (hd : a.eval d = cutV h N acc.length) (t : ByteArray) (hx : a.eval x = .string t) (m : Nat) (hm : t.size = m) (acc2 : List UInt8) (ha2 : acc2 = acc ++ t.data.toList) (hfit : acc.length + m ≤ N) (hr : BRow w h (fill acc N)) (B : Nat) (w0 : World) (hb : Below B w0 w) (hB : B ≤ h)
    (hK : ∀ w', BRow w' h (fill acc2 N) → Below B w0 w' → Hid (w'.heap.size = w.heap.size) → K (a.put o.dst (.int .i64 (m : Nat))) w') :
    if Region.wanted o (yielded ops a.tmps) = true then Oper.wp P o a w K Q else E := by
  subst hm ha2
  refine step_copy_str hgd d x dT sT hop e hu hz h N acc.length hd t hx (fill acc N) (fill_length acc N (by omega)) (by omega) hr B w0 hb hB ?_
  intro w' h1 h2 h3
  have e1 := fill_put acc t.data.toList N (by rw [← Lib.size_eq]; exact hfit)
  rw [← Lib.size_eq] at e1
  have h1' := h1.out
  rw [e1] at h1'
  have := hK w' h1' h2 h3
  rwa [Nat.min_eq_left (show t.size ≤ N - acc.length by omega)]
theorem run_string_row (w : World) (src dst e : TypeId) (hs : P.underlying src = some (.slice e)) (he : P.underlying e = some (.int .u8)) (hd : P.underlying dst = some .string) (h n cap : Nat) (l : List UInt8) (hn : n ≤ l.length) (hr : BRow w h l) :
    (convert src dst (.slice (some ⟨h, 0, none⟩) n cap)).run P w = .ok (.string (bs (l.take n))) w := by
  have hc := run_convert_bytes_arg (P := P) w src e hs he h 0 n cap ((l.take n).map fun x => (x.toNat : Int)) (by simp; omega) (fun i hi => by
    rw [Nat.zero_add, hr.cell i (by omega)]
    simp [List.getD, hi, List.getElem?_eq_getElem (show i < l.length by omega)]) dst hd
  rw [hc]
  have e : strOfNums ((l.take n).map fun x => (x.toNat : Int)) = bs (l.take n) := data_inj (by rw [strOfNums_data, bs_data]; simp [Function.comp_def])
  rw [e]
end Go.Vf
namespace Go.Vf
open Go.RowKit
variable {P : Program}
def BOwn (e : TypeId) (w : World) (base : Nat) (v : Value) (acc : List UInt8) : Prop := w.ownsRow base e 1 v acc.length (cellsL acc)
theorem BOwn.nil (e : TypeId) (w : World) (base : Nat) : BOwn e w base (.slice none 0 0) [] := World.ownsRow_nil _ _ _ _
theorem BOwn.alloc {e : TypeId} {w : World} {base : Nat} {v : Value} {acc : List UInt8} (h : BOwn e w base v acc) (o : Obj) : BOwn e (w.alloc o) base v acc := World.ownsRow.alloc h o
theorem BOwn.form {e : TypeId} {w : World} {base : Nat} {v : Value} {acc : List UInt8} (h : BOwn e w base v acc) :
    (v = .slice none 0 0 ∧ acc = []) ∨ ∃ g cap, v = .slice (some ⟨g, 0, none⟩) acc.length cap ∧ base ≤ g ∧ acc.length ≤ cap ∧ cap ≤ maxLen ∧ BRow w g acc := by
  obtain ⟨h1, h2⟩ := h
  rcases h2 with ⟨rfl, hn⟩ | ⟨g, cap, cur, rfl, hb, hh, hc1, hc2, hc3, hc4⟩
  · exact .inl ⟨rfl, List.eq_nil_of_length_eq_zero hn⟩
  · refine .inr ⟨g, cap, rfl, hb, hc1, hc2, ⟨fun j hj => ?_, fun j hj => ?_⟩⟩
    · have hx : (cellsL acc)[j]? = some (.int .u8 ((acc[j]'hj).toNat : Int)) := by simp [cellsL, hj]
      rw [← hc4, List.getElem?_take_of_lt (by omega)] at hx
      simp only [World.cell?, hh]
      simpa using hx
    · simp [World.frozen?, hh]
theorem run_string_own (w : World) (src dst e : TypeId) (hs : P.underlying src = some (.slice e)) (he : P.underlying e = some (.int .u8)) (hd : P.underlying dst = some .string) (base : Nat) (v : Value) (acc : List UInt8) (h : BOwn e w base v acc) :
    (convert src dst v).run P w = .ok (.string (bs acc)) w := by
  rcases h.form with ⟨rfl, rfl⟩ | ⟨g, cap, rfl, _, _, _, hr⟩
  · rw [run_convert_bytes_nil (P := P) w src e hs he 0 0 dst hd]
    rfl
  · rw [run_string_row w src dst e hs he hd g acc.length cap acc (Nat.le_refl _) hr, List.take_length]
theorem wpList_append_byte {w : World} {ops : Array Oper} {rest : List Oper} {o : Oper} {a : Act} {Q : Exit → Act → World → Prop} (hgd : o.guard = none) (s x : Operand) (t : TypeId)
    (ho : o.op = .call { callee := .builtin .append, args := #[s, x], argTypes := #[t, t] }) (e : TypeId) (ht : P.underlying t = some (.slice e)) (hinfo : (P.info? e).map (fun i => (i.zero, i.size, i.bytes)) = some (some (.int .u8 0), 1, 1))
    (base : Nat) (v : Value) (acc : List UInt8) (hs : a.eval s = v) (hown : BOwn e w base v acc) (b : UInt8) (n : Int) (hn : n = (b.toNat : Int)) (c : Nat) (hx : a.eval x = .slice (some ⟨w.heap.size, 0, none⟩) 1 c)
    (hlen : acc.length ≤ 1099511627776) (hbase : base ≤ w.heap.size) (B : Nat) (w0 : World) (hb : Below B w0 w) (hB : B ≤ base)
    (h : ∀ v' w', BOwn e w' base v' (acc ++ [b]) → Below B w0 w' → base ≤ w'.heap.size → wpList P ops Q rest (a.put o.dst v') w') :
    wpList P ops Q (o :: rest) a (w.alloc (.cells #[.int .u8 n] e)) := by
  subst hn
  obtain ⟨i, hi, hzz⟩ := Option.map_eq_some_iff.1 hinfo
  simp only [Prod.mk.injEq] at hzz
  obtain ⟨hz, hsz, hby⟩ := hzz
  have hbB : B ≤ (w.alloc (.cells #[.int .u8 (b.toNat : Int)] e)).heap.size := by simp; omega
  refine wpList_append_own (P := P) _ hgd s x t ho base e i (.int .u8 0) 1 1 ht hi hz hsz hby rfl (by decide) v acc.length (cellsL acc) hs (BOwn.alloc hown _) ⟨w.heap.size, 0, none⟩ 1 c [.int .u8 (b.toNat : Int)] hx rfl ?_ ?_ ?_ ?_ ?_ ?_
  · intro j u hj
    match j, hj with
    | 0, hj => simp at hj; subst hj; simp [Addr.add]
  · intro u hu; simp at hu; subst hu; rfl
  · unfold maxLen; omega
  · omega
  · simp; omega
  · intro v' w' h1 h2 _
    refine h v' w' ?_ ?_ ?_
    · unfold BOwn
      have e1 : cellsL (acc ++ [b]) = cellsL acc ++ [.int .u8 (b.toNat : Int)] := by simp [cellsL]
      rw [e1, List.length_append]
      exact h1
    · exact (hb.alloc (by omega) _).grown h2 hbB (fun k hk => by
        have := (World.ownsRow.lt (BOwn.alloc hown (.cells #[.int .u8 (b.toNat : Int)] e)) k hk).1
        omega)
    · have := h2.size; simp at this; omega
end Go.Vf
namespace Go.Vf
open Go.RowKit
variable {P : Program}
theorem bytesRow_get (s : ByteArray) (c j : Nat) (hj : j < s.data.toList.length) : (bytesRow s c)[j]? = some (.int .u8 ((s.data.toList[j]'hj).toNat : Int)) := by
  have h1 : j < s.data.size := by simpa using hj
  unfold bytesRow
  rw [Array.getElem?_append_left (by simpa using h1)]
  rw [Array.getElem?_map, Array.getElem?_eq_getElem h1]
  rfl
theorem bytesRow_size (s : ByteArray) (c : Nat) : s.size ≤ (bytesRow s c).size := by
  unfold bytesRow
  rw [Array.size_append, Array.size_map]
  exact Nat.le_add_right _ _
theorem run_bytes_ex (w : World) (src dst e : TypeId) (s : ByteArray) (hs : P.underlying src = some .string) (hd : P.underlying dst = some (.slice e)) (he : P.underlying e = some (.int .u8)) :
    ∃ cap w', (convert src dst (.string s)).run P w = .ok (.slice (some ⟨w.heap.size, 0, none⟩) s.size cap) w' ∧ s.size ≤ cap ∧ BRow w' w.heap.size s.data.toList ∧ Below w.heap.size w w' ∧ w'.heap.size = w.heap.size + 1 := by
  refine ⟨_, _, run_bytes_of_string w src dst e s hs hd he, ?_, ⟨fun j hj => ?_, fun j hj => ?_⟩, ?_, ?_⟩
  · exact grownCap_ge w _ _ e
  · have hg := heap_alloc_new w.drew (.cells (bytesRow s (grownCap w s.size 0 e)) e ((bytesRow s (grownCap w s.size 0 e)).size, (bytesRow s (grownCap w s.size 0 e)).size + 1))
    have hsz : w.drew.heap.size = w.heap.size := rfl
    rw [hsz] at hg
    simp only [World.cell?, hg]
    exact bytesRow_get s _ j hj
  · have hg := heap_alloc_new w.drew (.cells (bytesRow s (grownCap w s.size 0 e)) e ((bytesRow s (grownCap w s.size 0 e)).size, (bytesRow s (grownCap w s.size 0 e)).size + 1))
    have hsz : w.drew.heap.size = w.heap.size := rfl
    rw [hsz] at hg
    have := bytesRow_size s (grownCap w s.size 0 e)
    rw [← Lib.size_eq] at hj
    simp only [World.frozen?, hg]
    simp
    omega
  · exact ((Below.refl _ _).drew).alloc (Nat.le_refl _) _
  · simp
theorem run_string_cells (w : World) (src dst e : TypeId) (hs : P.underlying src = some (.slice e)) (he : P.underlying e = some (.int .u8)) (hd : P.underlying dst = some .string) (l : List UInt8) (cs : Array Value) (hcs : cs = (cellsL l).toArray) (n c : Nat) (hn : n = l.length) :
    (convert src dst (.slice (some ⟨w.heap.size, 0, none⟩) n c)).run P (w.alloc (.cells cs e)) = .ok (.string (bs l)) (w.alloc (.cells cs e)) := by
  subst hcs hn
  have hr : BRow (w.alloc (.cells (cellsL l).toArray e)) w.heap.size l := by
    have hg := heap_alloc_new w (.cells (cellsL l).toArray e)
    refine ⟨fun j hj => ?_, fun j hj => ?_⟩
    · simp only [World.cell?, hg]
      simp [cellsL, hj]
    · simp only [World.frozen?, hg]
      simp
  have := run_string_row (P := P) (w.alloc (.cells (cellsL l).toArray e)) src dst e hs he hd w.heap.size l.length c l (Nat.le_refl _) hr
  rwa [List.take_length] at this
theorem run_unsafe_row (w : World) (pt it ty e : TypeId) (hp : P.underlying pt = some (.pointer e)) (hc : P.cellsOf e = 1) (g cells : Nat) (hsh : w.shape? g = some (e, cells)) (l : List UInt8) (h0 : l ≠ []) (hn : l.length ≤ cells) (h63 : l.length ≤ 17179869184) (hr : BRow w g l) :
    (Builtin.unsafeString_ #[pt, it] ty #[.pointer (some ⟨g, 0, none⟩), .int .i64 l.length]).run P w = .ok (.string (bs l)) (w.freeze ⟨g, 0, none⟩ l.length) :=
  Lib.run_unsafeString_row (P := P) w pt it ty e hp hc g cells hsh l h0 hn (by omega) (fun j x hx => by
    have hj : j < l.length := (List.getElem?_eq_some_iff.1 hx).1
    have e1 : (⟨g, 0, none⟩ : Addr).add j = ⟨g, j, none⟩ := by
      by_cases h : j = 0
      · subst h; rfl
      · simp [Addr.add, h]
    rw [e1, hr.cell j hj]
    have : l[j] = x := by simpa [hj] using hx
    rw [this])
end Go.Vf
namespace Go.Proofs.YtcbjnifoojjipaaGreatDoor
open Go.RowKit Go.Vf
abbrev lostV (why at_ : Int) : Value := .iface 223 (.agg #[.int .i64 why, .int .i64 at_])
abbrev lost (why at_ : Int) : Ending := .panicked [{ v := lostV why at_, recovered := false }]
def tkHead : List UInt8 → Except Nat (Bool × Nat × Nat)
  | [] => .error 0
  | x :: r =>
    if x.toNat = 255 then
      match r with
      | [] => .error 1
      | y :: _ => if 126 < y.toNat then .ok (false, y.toNat, 2) else .error 1
    else if x.toNat = 1 then
      match r with
      | [] => .error 1
      | y :: _ => if y.toNat < 129 then .ok (true, 255 - y.toNat, 2) else .error 1
    else if 1 < x.toNat then
      if x.toNat < 128 then .ok (true, 128 - x.toNat, 1) else .ok (false, x.toNat - 128, 1)
    else .error 0
theorem drop_at (s : ByteArray) (k : Nat) (hk : k < s.size) : s.data.toList.drop k = s[k] :: s.data.toList.drop (k + 1) := by
  rw [List.drop_eq_getElem_cons (by rw [← Lib.size_eq]; exact hk)]
  rfl
theorem drop_end (s : ByteArray) (k : Nat) (hk : s.size ≤ k) : s.data.toList.drop k = [] := List.drop_of_length_le (by rw [← Lib.size_eq]; exact hk)
def headE (a : Nat) : Except Nat (Bool × Nat × Nat) → Ending
  | .ok (b, k, h) => .returned (.tuple #[.bool b, .int .i64 (k : Int), .int .i64 ((a + h : Nat) : Int)])
  | .error n => lost 20 ((a + n : Nat) : Int)
end Go.Proofs.YtcbjnifoojjipaaGreatDoor
