/- A slice of bytes that a call appends to: what it holds, and as a string (lemmas of the verifier's own, over any program). -/
import Derived.Test.YtfeppbiodbhpcaaGreatDoorBytes
namespace Go.Vf
open Go.RowKit
variable {P : Program}

/-- The slice v owns these bytes (in blocks from base on). -/
def BOwn (e : TypeId) (w : World) (base : Nat) (v : Value) (acc : List UInt8) : Prop := w.ownsRow base e 1 v acc.length (cellsL acc)

theorem BOwn.nil (e : TypeId) (w : World) (base : Nat) : BOwn e w base (.slice none 0 0) [] := World.ownsRow_nil _ _ _ _

theorem BOwn.alloc {e : TypeId} {w : World} {base : Nat} {v : Value} {acc : List UInt8} (h : BOwn e w base v acc) (o : Obj) : BOwn e (w.alloc o) base v acc := World.ownsRow.alloc h o

theorem BOwn.form {e : TypeId} {w : World} {base : Nat} {v : Value} {acc : List UInt8} (h : BOwn e w base v acc) :
    (v = .slice none 0 0 ∧ acc = []) ∨ ∃ g cap, v = .slice (some ⟨g, 0, none⟩) acc.length cap ∧ base ≤ g ∧ acc.length ≤ cap ∧ cap ≤ maxLen ∧ BRow w g acc := by
  obtain ⟨h1, h2⟩ := h
  rcases h2 with ⟨rfl, hn⟩ | ⟨g, cap, cur, rfl, hb, hh, hc1, hc2, hc3, hc4⟩
  · exact .inl ⟨rfl, List.eq_nil_of_length_eq_zero hn⟩
  · refine .inr ⟨g, cap, rfl, hb, hc1, hc2, ⟨fun j hj => ?_, fun j hj => ?_⟩⟩
    · have hx : (cellsL acc)[j]? = some (.int .u8 ((acc[j]'hj).toNat : Int)) := by simp [cellsL, hj]
      rw [← hc4, List.getElem?_take_of_lt (by omega)] at hx
      simp only [World.cell?, hh]
      simpa using hx
    · simp [World.frozen?, hh]

/-- 'string(out)'. -/
theorem run_string_own (w : World) (src dst e : TypeId) (hs : P.underlying src = some (.slice e)) (he : P.underlying e = some (.int .u8)) (hd : P.underlying dst = some .string) (base : Nat) (v : Value) (acc : List UInt8) (h : BOwn e w base v acc) :
    (convert src dst v).run P w = .ok (.string (bs acc)) w := by
  rcases h.form with ⟨rfl, rfl⟩ | ⟨g, cap, rfl, _, _, _, hr⟩
  · rw [run_convert_bytes_nil (P := P) w src e hs he 0 0 dst hd]
    rfl
  · rw [run_string_row w src dst e hs he hd g acc.length cap acc (Nat.le_refl _) hr, List.take_length]

/-- 'out = append(out, x)', x having been laid in a new block. -/
theorem wpList_append_byte {w : World} {ops : Array Oper} {rest : List Oper} {o : Oper} {a : Act} {Q : Exit → Act → World → Prop} (hgd : o.guard = none) (s x : Operand) (t : TypeId)
    (ho : o.op = .call { callee := .builtin .append, args := #[s, x], argTypes := #[t, t] }) (e : TypeId) (ht : P.underlying t = some (.slice e)) (hinfo : (P.info? e).map (fun i => (i.zero, i.size, i.bytes)) = some (some (.int .u8 0), 1, 1))
    (base : Nat) (v : Value) (acc : List UInt8) (hs : a.eval s = v) (hown : BOwn e w base v acc) (b : UInt8) (n : Int) (hn : n = (b.toNat : Int)) (c : Nat) (hx : a.eval x = .slice (some ⟨w.heap.size, 0, none⟩) 1 c)
    (hlen : acc.length ≤ 1099511627776) (hbase : base ≤ w.heap.size) (B : Nat) (w0 : World) (hb : Below B w0 w) (hB : B ≤ base)
    (h : ∀ v' w', BOwn e w' base v' (acc ++ [b]) → Below B w0 w' → base ≤ w'.heap.size → wpList P ops Q rest (a.put o.dst v') w') :
    wpList P ops Q (o :: rest) a (w.alloc (.cells #[.int .u8 n] e)) := by
  subst hn
  obtain ⟨i, hi, hzz⟩ := Option.map_eq_some_iff.1 hinfo
  simp only [Prod.mk.injEq] at hzz
  obtain ⟨hz, hsz, hby⟩ := hzz
  have hbB : B ≤ (w.alloc (.cells #[.int .u8 (b.toNat : Int)] e)).heap.size := by simp; omega
  refine wpList_append_own (P := P) _ hgd s x t ho base e i (.int .u8 0) 1 1 ht hi hz hsz hby rfl (by decide) v acc.length (cellsL acc) hs (BOwn.alloc hown _) ⟨w.heap.size, 0, none⟩ 1 c [.int .u8 (b.toNat : Int)] hx rfl ?_ ?_ ?_ ?_ ?_ ?_
  · intro j u hj
    match j, hj with
    | 0, hj => simp at hj; subst hj; simp [Addr.add]
  · intro u hu; simp at hu; subst hu; rfl
  · unfold maxLen; omega
  · omega
  · simp; omega
  · intro v' w' h1 h2 _
    refine h v' w' ?_ ?_ ?_
    · unfold BOwn
      have e1 : cellsL (acc ++ [b]) = cellsL acc ++ [.int .u8 (b.toNat : Int)] := by simp [cellsL]
      rw [e1, List.length_append]
      exact h1
    · exact (hb.alloc (by omega) _).grown h2 hbB (fun k hk => by
        have := (World.ownsRow.lt (BOwn.alloc hown (.cells #[.int .u8 (b.toNat : Int)] e)) k hk).1
        omega)
    · have := h2.size; simp at this; omega

end Go.Vf
