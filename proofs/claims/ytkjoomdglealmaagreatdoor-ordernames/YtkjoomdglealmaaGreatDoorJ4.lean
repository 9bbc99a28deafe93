/- Contracts and lemmas (nothing is claimed here). -/
import Derived.Test.YtkjoomdglealmaaGreatDoorJ3
import Derived.Test.YtkjoomdglealmaaGreatDoorJ1
import Derived.WalkKit
import Derived.LaidEql
import Derived.Stop.Asserts
import Derived.RowKitTokens
namespace Go.Proofs.YtkjoomdglealmaaGreatDoor
open Go.RowKit Go.Vf

inductive VIn (w : World) (lo n₀ : Nat) : Value → Prt → Prop where
  | null : VIn w lo n₀ .nilIface (.mk 0 false false ⟨#[]⟩ ⟨#[]⟩ [])
  | truth (y : Bool) : VIn w lo n₀ (.iface 128 (.agg #[.bool y])) (.mk 1 y false ⟨#[]⟩ ⟨#[]⟩ [])
  | num (b : Bool) (m : ByteArray) : VIn w lo n₀ (.iface 130 (.agg #[.bool b, .string m])) (.mk 2 false b m ⟨#[]⟩ [])
  | raw (k : Int) (r : ByteArray) : isRawK k = true → VIn w lo n₀ (.iface 132 (.agg #[.int .u8 k, .string r])) (.mk k false false ⟨#[]⟩ r [])
  | tup {l : List Prt} {g c : Nat} {a : Option Addr} (V : Nat → Value) : lo ≤ g → g < n₀ → Blk w g 116 #[.slice a l.length c, .int .i64 ((depL l + 1 : Nat) : Int)] →
      (∀ j, j < l.length → ∃ h off, a = some ⟨h, off, none⟩ ∧ lo ≤ h ∧ h < n₀ ∧ w.cell? ⟨h, off + j, none⟩ = some (V j)) → (∀ j (hj : j < l.length), VIn w lo n₀ (V j) l[j]) →
      VIn w lo n₀ (.iface 112 (.pointer (some ⟨g, 0, none⟩))) (.mk 7 false false ⟨#[]⟩ ⟨#[]⟩ l)

theorem cell_block {w w' : World} {h : Nat} (e : w'.heap[h]? = w.heap[h]?) (k : Nat) : w'.cell? ⟨h, k, none⟩ = w.cell? ⟨h, k, none⟩ := by
  unfold World.cell?
  simp only [e]
theorem VIn.keep {w w' : World} {lo n₀ : Nat} {v : Value} {p : Prt} (h : VIn w lo n₀ v p) (hb : ∀ b, lo ≤ b → b < n₀ → w'.heap[b]? = w.heap[b]?) : VIn w' lo n₀ v p := by
  induction h with
  | null => exact .null
  | truth y => exact .truth y
  | num b m => exact .num b m
  | raw k r hk => exact .raw k r hk
  | tup V h1 h2 h3 h4 _ ih =>
    refine .tup V h1 h2 ((hb _ h1 h2).trans h3) (fun j hj => ?_) ih
    obtain ⟨h, off, e, q1, q2, q3⟩ := h4 j hj
    exact ⟨h, off, e, q1, q2, (cell_block (hb h q1 q2) _).trans q3⟩
theorem VIn.old {w w' : World} {lo n₀ n : Nat} {v : Value} {p : Prt} (h : VIn w lo n₀ v p) (hb : Below n w w') (hn : n₀ ≤ n) : VIn w' lo n₀ v p := h.keep fun b _ h2 => hb.block b (by omega)
theorem VIn.mono {w : World} {lo lo' n₀ n : Nat} {v : Value} {p : Prt} (h : VIn w lo n₀ v p) (hn : n₀ ≤ n) (hlo : lo' ≤ lo) : VIn w lo' n v p := by
  induction h with
  | null => exact .null
  | truth y => exact .truth y
  | num b m => exact .num b m
  | raw k r hk => exact .raw k r hk
  | tup V h1 h2 h3 h4 _ ih =>
    refine .tup V (by omega) (by omega) h3 (fun j hj => ?_) ih
    obtain ⟨h, off, e, q1, q2, q3⟩ := h4 j hj
    exact ⟨h, off, e, by omega, by omega, q3⟩

theorem VIn.form {w : World} {lo n₀ : Nat} {v : Value} {p : Prt} (h : VIn w lo n₀ v p) : v = .nilIface ∨ ∃ t x, v = .iface t x := by
  cases h
  · exact .inl rfl
  all_goals exact .inr ⟨_, _, rfl⟩

theorem depth_any (v : Value) (p : Prt) (lo n₀ : Nat) (w : World) (h : VIn w lo n₀ v p) : Calls Tryz.prog 86 #[v] w fun e w' => e = .returned (.int .i64 (dep p : Nat)) ∧ w' = w := by
  have z0 := ta74_nil
  have z1 := ta74_81
  have z2 := ta74_83
  have z3 := ta74_85
  have z4 := ta74_74
  cases h with
  | null =>
    go_enter Tryz.func86, Tryz.ntmps86
    go_wp2_with fail
    go_ret
    exact ⟨rfl, rfl⟩
  | truth y =>
    go_enter Tryz.func86, Tryz.ntmps86
    go_wp2_with fail
    go_ret
    exact ⟨rfl, rfl⟩
  | num b m =>
    go_enter Tryz.func86, Tryz.ntmps86
    go_wp2_with fail
    go_ret
    exact ⟨rfl, rfl⟩
  | raw k r hk =>
    have hd : dep (.mk k false false ⟨#[]⟩ r []) = 0 := by
      rw [dep, if_neg]
      intro h7; subst h7; simp [isRawK] at hk
    rw [hd]
    clear hk hd
    go_enter Tryz.func86, Tryz.ntmps86
    go_wp2_with fail
    go_ret
    exact ⟨rfl, rfl⟩
  | @tup l g c a V h1 h2 h3 h4 h5 =>
    have c1 := h3.cell 1
    have hd : dep (.mk 7 false false ⟨#[]⟩ ⟨#[]⟩ l) = depL l + 1 := by rw [dep, if_pos rfl]
    rw [hd]
    clear h3 h4 h5 hd
    generalize depL l + 1 = D at c1 ⊢
    have c1' : w.cell? ⟨g, 1, none⟩ = some (.int .i64 (D : Int)) := c1
    clear c1
    go_enter Tryz.func86, Tryz.ntmps86
    go_wp2_with fail
    go_ret
    exact ⟨rfl, rfl⟩

set_option maxHeartbeats 1000000 in
set_option maxRecDepth 20000 in
theorem tupleOf_any (l : List Prt) (hl : l.length ≤ 281474976710656) (hd : depL l ≤ 1000) (a : Option Addr) (c lo n₀ : Nat) (V : Nat → Value) (w : World)
    (hc : ∀ j, j < l.length → ∃ h off, a = some ⟨h, off, none⟩ ∧ lo ≤ h ∧ h < n₀ ∧ w.cell? ⟨h, off + j, none⟩ = some (V j)) (hv : ∀ j (hj : j < l.length), VIn w lo n₀ (V j) l[j]) :
    Calls Tryz.prog 56 #[.slice a l.length c] w fun e w' => e = .returned (.pointer (some ⟨w.heap.size, 0, none⟩)) ∧ w' = w.alloc (.cells #[.slice a l.length c, .int .i64 ((depL l + 1 : Nat) : Int)] 116) := by
  obtain ⟨ln, hln⟩ : ∃ ln, l.length = ln := ⟨_, rfl⟩
  have HLN : Hid (l.length = ln) := hln
  rw [hln] at hl ⊢
  clear hln
  obtain ⟨D, hD⟩ : ∃ D, depL l = D := ⟨_, rfl⟩
  have HD : Hid (depL l = D) := hD
  rw [hD] at hd ⊢
  clear hD
  go_enter Tryz.func56, Tryz.ntmps56
  go_wp2_with fail
  go_loopw [3, 8] (fun x i wr => ∃ (j s : Nat), j ≤ ln ∧ i = .int .i64 j ∧ x = .int .i64 s ∧ Hid (s = depL (l.take j)) ∧ s ≤ 1000 ∧ wr = w) (fun _ i _ => ln - (intOf i).toNat)
  case atStart => exact ⟨0, 0, by omega, rfl, rfl, by show _ = _; simp [depL], by omega, rfl⟩
  case round =>
    obtain ⟨j, s, hj, rfl, rfl, HS, hs, rfl⟩ := hrel
    by_cases hlt : j < ln
    · have hlt2 : j < l.length := by rw [HLN.out]; exact hlt
      obtain ⟨h, off, rfl, _, _, c0⟩ := hc j hlt2
      have hcall := depth_any (V j) l[j] lo n₀ wr (hv j hlt2)
      have hT : Hid (depL (l.take (j + 1)) = max s (dep l[j])) := by
        show _ = _
        rw [depL_take l j hlt2, HS.out]
      have hdl : dep l[j] ≤ 1000 := by
        have := depL_mem (List.getElem_mem hlt2)
        have := HD.out
        omega
      clear HS hc hv
      generalize V j = vj at c0 hcall
      generalize dep l[j] = dj at hcall hT hdl
      by_cases hsd : s < dj
      · have HM : Hid (dj = depL (l.take (j + 1))) := by show _ = _; rw [hT.out]; omega
        clear hT
        go_wp2_with fail
        refine hcall.mono ?_
        rintro _ _ ⟨rfl, rfl⟩
        go_wp2_with fail
        go_roundw
        case rel => exact ⟨j + 1, dj, by omega, by simp, rfl, HM, hdl, trivial⟩
        case measure => simp only [intOf]; omega
      · have HM : Hid (s = depL (l.take (j + 1))) := by show _ = _; rw [hT.out]; omega
        clear hT
        go_wp2_with fail
        refine hcall.mono ?_
        rintro _ _ ⟨rfl, rfl⟩
        go_wp2_with fail
        go_roundw
        case rel => exact ⟨j + 1, s, by omega, by simp, rfl, HM, hs, trivial⟩
        case measure => simp only [intOf]; omega
    · have hsD : s = D := by
        rw [HS.out, ← HD.out, List.take_of_length_le (by rw [HLN.out]; omega)]
      have hsD' : (s : Int) + 1 = ((D + 1 : Nat) : Int) := by omega
      clear HS hc hv
      go_wp2_with fail
      go_ret
      subst hsD
      exact ⟨rfl, by simp⟩
end Go.Proofs.YtkjoomdglealmaaGreatDoor

namespace Go.Proofs.YtkjoomdglealmaaGreatDoor
open Go.RowKit Go.Vf

end Go.Proofs.YtkjoomdglealmaaGreatDoor

namespace Go.Proofs.YtkjoomdglealmaaGreatDoor
open Go.RowKit Go.Extern.Stop Go.Stop Go.Extern Go.Vf

abbrev hnd (t : Nat) : Value := .pointer (some ⟨9, t, none⟩)
abbrev valOf (t : Nat) (a : Addr) (f : Int) : Value := .agg #[hnd t, .pointer (some a), .int .u64 f]

theorem rl_valueOf70 (t : Addr) (w : World) : (ReflectliteValue.unpack (.iface 107 (.pointer (some t)))).run Tryz.prog w = .ok (valOf 107 ⟨w.heap.size, 0, none⟩ 150) (w.alloc (.cells #[.pointer (some t)] 107)) := by kernel_rfl
theorem rl_valueOf45 (e : Addr) (w : World) : (ReflectliteValue.unpack (.iface 98 (.pointer (some e)))).run Tryz.prog w = .ok (valOf 98 ⟨w.heap.size, 0, none⟩ 150) (w.alloc (.cells #[.pointer (some e)] 98)) := by kernel_rfl
theorem rl_type70 (a : Addr) (w : World) : (ReflectliteValue.methodAny (ReflectliteValue.valueError "reflectlite.Value.Type" 0) (fun t _ _ _ => ReflectliteType.toType t) #[valOf 107 a 150]).run Tryz.prog w = .ok (.iface 215 (.agg #[hnd 107])) w := by kernel_rfl
theorem rl_kind70 (w : World) : ((ReflectliteType.abiMethod fun t => (fun a : Nat => Value.int IntKind.u8 (a : Int)) <$> Rtype.kind t) #[hnd 107]).run Tryz.prog w = .ok (.int .u8 22) w := by kernel_rfl
theorem rl_kind45 (w : World) : ((ReflectliteType.abiMethod fun t => (fun a : Nat => Value.int IntKind.u8 (a : Int)) <$> Rtype.kind t) #[hnd 98]).run Tryz.prog w = .ok (.int .u8 22) w := by kernel_rfl
theorem rl_mKind (h : Value) (w : World) : (Go.method 525 215 (.agg #[h]) "Kind").run Tryz.prog w = .ok (326, h) w := by kernel_rfl
theorem rl_mElem (h : Value) (w : World) : (Go.method 525 215 (.agg #[h]) "Elem").run Tryz.prog w = .ok (354, .agg #[h]) w := by kernel_rfl
theorem rl_mImpl (h : Value) (w : World) : (Go.method 525 215 (.agg #[h]) "Implements").run Tryz.prog w = .ok (355, .agg #[h]) w := by kernel_rfl
theorem rl_mAsgn (h : Value) (w : World) : (Go.method 525 215 (.agg #[h]) "AssignableTo").run Tryz.prog w = .ok (352, .agg #[h]) w := by kernel_rfl
theorem rl_elem70 (w : World) : (ReflectliteType.method ReflectliteType.elem #[.agg #[hnd 107]]).run Tryz.prog w = .ok (.iface 215 (.agg #[hnd 98])) w := by kernel_rfl
theorem rl_impl45 (w : World) : (ReflectliteType.relation "Implements" ReflectliteType.implements_ #[.agg #[hnd 98], .iface 215 (.agg #[hnd 42])]).run Tryz.prog w = .ok (.bool true) w := by kernel_rfl
theorem rl_typeOf45 (v : Value) (w : World) : (ReflectliteType.typeOf #[.iface 98 v]).run Tryz.prog w = .ok (.iface 215 (.agg #[hnd 98])) w := by kernel_rfl
theorem rl_asgn45 (w : World) : (ReflectliteType.relation "AssignableTo" ReflectliteType.assignableTo #[.agg #[hnd 98], .iface 215 (.agg #[hnd 98])]).run Tryz.prog w = .ok (.bool true) w := by kernel_rfl
theorem rl_parts70 (a : Addr) (w : World) : (ReflectliteValue.parts (valOf 107 a 150)).run Tryz.prog w = .ok (some (107, a, 150)) w := by kernel_rfl
theorem rl_parts45 (a : Addr) (w : World) : (ReflectliteValue.parts (valOf 98 a 150)).run Tryz.prog w = .ok (some (98, a, 150)) w := by kernel_rfl
theorem rl_parts45s (a : Addr) (w : World) : (ReflectliteValue.parts (valOf 98 a 406)).run Tryz.prog w = .ok (some (98, a, 406)) w := by kernel_rfl
theorem rl_elemOf70 (w : World) : (Rtype.elem? 107).run Tryz.prog w = .ok (some 98) w := by kernel_rfl
theorem rl_mk45 (p : Addr) (w : World) : (ReflectliteValue.mk 98 p ReflectliteValue.flagAddr).run Tryz.prog w = .ok (valOf 98 p 406) w := by kernel_rfl
theorem rl_direct45 (w : World) : (Rtype.directlyAssignable 98 98).run Tryz.prog w = .ok true w := by kernel_rfl

theorem run_then {α β : Type} {m : Sem α} {g : α → Sem β} {P : Program} {w w₁ : World} {a : α} (h : m.run P w = .ok a w₁) : (m >>= g).run P w = (g a).run P w₁ := by
  rw [Sem.run_bind, h]; rfl

theorem rl_isNil70 (a p : Addr) (W : World) (ha : W.cell? a = some (.pointer (some p))) :
    (ReflectliteValue.method (ReflectliteValue.valueError "reflectlite.Value.IsNil" 0) ReflectliteValue.isNil #[valOf 107 a 150]).run Tryz.prog W = .ok (.bool false) W := by
  refine (run_then (rl_parts70 a W)).trans ?_
  simp [ReflectliteValue.isNil, loadVar, isAgg, underlying, Tryz.underlying107, ha, Result.andThen]

theorem rl_elemV70 (a p : Addr) (W : World) (ha : W.cell? a = some (.pointer (some p))) :
    (ReflectliteValue.method (ReflectliteValue.valueError "reflectlite.Value.Elem" 0) ReflectliteValue.elem #[valOf 107 a 150]).run Tryz.prog W = .ok (valOf 98 p 406) W := by
  refine (run_then (rl_parts70 a W)).trans ?_
  simp [ReflectliteValue.elem, loadVar, isAgg, underlying, Tryz.underlying107, ha, Result.andThen, rl_elemOf70, rl_mk45]

theorem rl_set45 (ta b e : Addr) (old : Value) (W : World) (hb : W.cell? b = some (.pointer (some e))) (ht : W.cell? ta = some old) (hf : W.frozen? ta = false) :
    (ReflectliteValue.set #[valOf 98 ta 406, valOf 98 b 150]).run Tryz.prog W = .ok (.tuple #[]) (W.setCell ta (.pointer (some e))) := by
  refine (run_then (rl_parts45s ta W)).trans ?_
  refine (run_then (rl_parts45 b W)).trans ?_
  simp [ReflectliteValue.flagAddr, loadVar, isAgg, underlying, Tryz.underlying98, hb, Result.andThen, rl_direct45, storeVar, Value.cells, storeCells, Addr.add]
  rw [run_store Tryz.prog W ta _ _ (by rfl)]
  simp [ht, hf]

theorem as_none (t : Value) (w : World) : Calls Tryz.prog 52 #[.nilIface, t] w fun e w' => e = .returned (.bool false) ∧ w' = w := by
  go_enter Tryz.func52, Tryz.ntmps52
  go_wp2
  go_ret
  exact ⟨rfl, rfl⟩

def asW (w : World) (t e : Addr) : World :=
  (((w.alloc (.cells #[.pointer (some t)] 107)).alloc (.cells #[hnd 107, .pointer (some ⟨w.heap.size, 0, none⟩), .int .u64 150] 155)).alloc (.cells #[hnd 107, .pointer (some ⟨w.heap.size, 0, none⟩), .int .u64 150] 155)).alloc (.cells #[.pointer (some e)] 98)
set_option maxHeartbeats 4000000 in
theorem as_fault (e t : Addr) (old : Value) (w : World) (hg : w.cell? ⟨0, 0, none⟩ = some (.iface 215 (.agg #[hnd 42]))) (ht0 : w.cell? t = some old) (hf0 : w.frozen? t = false) :
    Calls Tryz.prog 52 #[.iface 98 (.pointer (some e)), .iface 107 (.pointer (some t))] w fun ev w' => ev = .returned (.bool true) ∧ w' = (asW w t e).setCell t (.pointer (some e)) := by
  have c37 := @run_callFunc_extern Tryz.prog 80 _ (fun args => ReflectliteValue.unpack (args.getD 0 (.tuple #[]))) Tryz.func80 (by kernel_rfl) (by kernel_rfl) (by kernel_rfl) (by kernel_rfl)
  have c38 := @run_callFunc_extern Tryz.prog 81 _ (ReflectliteValue.methodAny (ReflectliteValue.valueError "reflectlite.Value.Type" 0) (fun t _ _ _ => ReflectliteType.toType t)) Tryz.func81 (by kernel_rfl) (by kernel_rfl) (by kernel_rfl) (by kernel_rfl)
  have c39 := @run_callFunc_extern Tryz.prog 82 _ (ReflectliteValue.method (ReflectliteValue.valueError "reflectlite.Value.IsNil" 0) ReflectliteValue.isNil) Tryz.func82 (by kernel_rfl) (by kernel_rfl) (by kernel_rfl) (by kernel_rfl)
  have c63 := @run_callFunc_extern Tryz.prog 326 _ (ReflectliteType.abiMethod fun t => do pure (.int .u8 (← Rtype.kind t))) Tryz.func326 (by kernel_rfl) (by kernel_rfl) (by kernel_rfl) (by kernel_rfl)
  have c90 := @run_callFunc_extern Tryz.prog 354 _ (ReflectliteType.method ReflectliteType.elem) Tryz.func354 (by kernel_rfl) (by kernel_rfl) (by kernel_rfl) (by kernel_rfl)
  have c91 := @run_callFunc_extern Tryz.prog 355 _ (ReflectliteType.relation "Implements" ReflectliteType.implements_) Tryz.func355 (by kernel_rfl) (by kernel_rfl) (by kernel_rfl) (by kernel_rfl)
  have c41 := @run_callFunc_extern Tryz.prog 114 _ ReflectliteType.typeOf Tryz.func114 (by kernel_rfl) (by kernel_rfl) (by kernel_rfl) (by kernel_rfl)
  have c88 := @run_callFunc_extern Tryz.prog 352 _ (ReflectliteType.relation "AssignableTo" ReflectliteType.assignableTo) Tryz.func352 (by kernel_rfl) (by kernel_rfl) (by kernel_rfl) (by kernel_rfl)
  have c47 := @run_callFunc_extern Tryz.prog 116 _ (ReflectliteValue.method (ReflectliteValue.valueError "reflectlite.Value.Elem" 0) ReflectliteValue.elem) Tryz.func116 (by kernel_rfl) (by kernel_rfl) (by kernel_rfl) (by kernel_rfl)
  have c48 := @run_callFunc_extern Tryz.prog 117 _ ReflectliteValue.set Tryz.func117 (by kernel_rfl) (by kernel_rfl) (by kernel_rfl) (by kernel_rfl)
  have f1 := rl_typeOf45
  have f2 := rl_mAsgn
  have f3 := rl_asgn45
  have f4 := rl_valueOf45
  have f5 := rl_valueOf70
  have f6 := rl_type70
  have f7 := rl_mKind
  have f8 := rl_mElem
  have f9 := rl_mImpl
  have g1 := rl_kind70
  have g2 := rl_kind45
  have g3 := rl_elem70
  have g4 := rl_impl45
  have hlt : 0 < w.heap.size := by
    rcases Nat.eq_zero_or_pos w.heap.size with h0 | h
    · simp [World.cell?, h0] at hg
    · exact h
  have htl : t.block < w.heap.size := by
    rcases Nat.lt_or_ge t.block w.heap.size with h | h
    · exact h
    · simp [World.cell?, Array.getElem?_eq_none h] at ht0
  have n1 := rl_isNil70 ⟨w.heap.size, 0, none⟩ t ((w.alloc (.cells #[.pointer (some t)] 107)).alloc (.cells #[hnd 107, .pointer (some ⟨w.heap.size, 0, none⟩), .int .u64 150] 155)) (by simp)
  have hg2 : ((w.alloc (.cells #[.pointer (some t)] 107)).alloc (.cells #[hnd 107, .pointer (some ⟨w.heap.size, 0, none⟩), .int .u64 150] 155)).cell? ⟨0, 0, none⟩ = some (.iface 215 (.agg #[hnd 42])) := by
    rw [World.cell?_alloc_lt _ _ ⟨0, 0, none⟩ (by simp), World.cell?_alloc_lt _ _ ⟨0, 0, none⟩ hlt]; exact hg
  have n2 := rl_elemV70 ⟨w.heap.size, 0, none⟩ t (((w.alloc (.cells #[.pointer (some t)] 107)).alloc (.cells #[hnd 107, .pointer (some ⟨w.heap.size, 0, none⟩), .int .u64 150] 155)).alloc (.cells #[hnd 107, .pointer (some ⟨w.heap.size, 0, none⟩), .int .u64 150] 155)) (by rw [World.cell?_alloc_lt _ _ ⟨w.heap.size, 0, none⟩ (by simp; omega)]; simp)
  have n3 := rl_set45 t ⟨w.heap.size + 1 + 1 + 1, 0, none⟩ e old (asW w t e)
    (by unfold asW; rw [World.cell?_alloc_at _ _ _ _ (by simp)]; rfl)
    (by unfold asW; rw [World.cell?_alloc_lt _ _ t (by simp; omega), World.cell?_alloc_lt _ _ t (by simp; omega), World.cell?_alloc_lt _ _ t (by simp; omega), World.cell?_alloc_lt _ _ t htl]; exact ht0)
    (by unfold asW; rw [World.frozen?_alloc_old _ _ t (by simp; omega), World.frozen?_alloc_old _ _ t (by simp; omega), World.frozen?_alloc_old _ _ t (by simp; omega), World.frozen?_alloc_old _ _ t (Nat.ne_of_lt htl)]; exact hf0)
  unfold asW at n3
  unfold hnd valOf at *
  go_enter Tryz.func52, Tryz.ntmps52
  go_wp2
  refine wp_loop_rounds 1 ?_
  rw [rounds_succ]
  go_wp2
  go_ret
  exact ⟨rfl, rfl⟩
end Go.Proofs.YtkjoomdglealmaaGreatDoor

namespace Go.Vf

structure Own where
  name : ByteArray
  kind : Int
  down : Bool
  nulls : Int
  bnd : Bool
  ln : Bool
  lm : ByteArray
  hn : Bool
  hm : ByteArray
  most : Int
  str : Int
  shf : Bool
  bck : Bool

inductive Fld where
  | mk (o : Own) (l : List Fld)
namespace Fld
def own : Fld → Own | mk o _ => o
def fields : Fld → List Fld | mk _ l => l
end Fld

theorem Fld.ind {C : Fld → Prop} (h : ∀ o l, (∀ x ∈ l, C x) → C (.mk o l)) : ∀ p, C p
  | .mk o l => h o l fun x _ => Fld.ind h x
termination_by p => SizeOf.sizeOf p
decreasing_by
  simp_wf
  have := List.sizeOf_lt_of_mem ‹x ∈ l›
  omega

def isSmallU (c : UInt8) : Bool := decide (97 ≤ c.toNat) && decide (c.toNat ≤ 122)
def isDigU (c : UInt8) : Bool := decide (48 ≤ c.toNat) && decide (c.toNat ≤ 57)
def isNameC (c : UInt8) : Bool := isSmallU c || isDigU c || c == 45
def isNameL : List UInt8 → Bool
  | [] => false
  | c :: r => decide ((c :: r).length ≤ 16) && isSmallU c && r.all isNameC
def isNameS (s : ByteArray) : Bool := isNameL s.data.toList

def maySayO (q : Bool) (o : Own) (n : Nat) : Bool :=
  decide (1 ≤ o.kind) && decide (o.kind ≤ 7) && decide (o.nulls ≤ 2) &&
  (if o.kind = 2 then (if o.bnd then q else !o.ln && o.lm.size == 0 && !o.hn && o.hm.size == 0) else !o.bnd && !o.ln && o.lm.size == 0 && !o.hn && o.hm.size == 0) &&
  (if o.kind = 3 ∨ o.kind = 5 then decide (0 ≤ o.most) && decide (o.most ≤ 65536) else o.most == 0) &&
  (if o.kind = 6 then decide (1 ≤ o.str) && decide (o.str ≤ 4) && (decide (o.str < 4) || o.shf) else o.str == 0 && !o.shf && !o.bck) &&
  (o.kind == 7 || n == 0)

def seeF (Q : Own → Bool) (path : Nat) (count : Nat) (ahead : List Fld) (f : Fld) : Int :=
  if 64 < count then 116 else if 16 < path then 114 else if isNameS f.own.name = false then 111
  else if ahead.any (fun g => decide (g.own.name = f.own.name)) then 112
  else if maySayO (Q f.own) f.own f.fields.length = false then 113
  else if f.own.kind = 7 ∧ f.fields = [] then 115 else 0

inductive Tr where
  | ok (n : Nat)
  | bad (code : Int) (path : List Int) (n : Nat)

def tourL (Q : Own → Bool) (P : List Int) (ahead : List Fld) (n : Nat) : List Fld → Tr
  | [] => .ok n
  | .mk o l :: r =>
    let e := seeF Q (P.length + 1) (n + 1) ahead (.mk o l)
    if e = 0 then
      match tourL Q (P ++ [(ahead.length : Int)]) [] (n + 1) l with
      | .ok m => tourL Q P (ahead ++ [.mk o l]) m r
      | .bad c p m => .bad c p m
    else .bad e (P ++ [(ahead.length : Int)]) (n + 1)
termination_by l => SizeOf.sizeOf l

theorem tourL_nil (Q : Own → Bool) (P : List Int) (ahead : List Fld) (n : Nat) : tourL Q P ahead n [] = .ok n := by rw [tourL]
theorem tourL_bad (Q : Own → Bool) (P : List Int) (ahead : List Fld) (n : Nat) (f : Fld) (r : List Fld) (h : seeF Q (P.length + 1) (n + 1) ahead f ≠ 0) : tourL Q P ahead n (f :: r) = .bad (seeF Q (P.length + 1) (n + 1) ahead f) (P ++ [(ahead.length : Int)]) (n + 1) := by
  obtain ⟨o, l⟩ := f
  rw [tourL]
  simp only [h, if_false]
theorem tourL_in (Q : Own → Bool) (P : List Int) (ahead : List Fld) (n : Nat) (f : Fld) (r : List Fld) (h : seeF Q (P.length + 1) (n + 1) ahead f = 0) {c : Int} {p : List Int} {m : Nat} (hb : tourL Q (P ++ [(ahead.length : Int)]) [] (n + 1) f.fields = .bad c p m) : tourL Q P ahead n (f :: r) = .bad c p m := by
  obtain ⟨o, l⟩ := f
  rw [tourL]
  simp only [h, if_true]
  rw [show tourL Q (P ++ [(ahead.length : Int)]) [] (n + 1) l = .bad c p m from hb]
theorem tourL_on (Q : Own → Bool) (P : List Int) (ahead : List Fld) (n : Nat) (f : Fld) (r : List Fld) (h : seeF Q (P.length + 1) (n + 1) ahead f = 0) {m : Nat} (hb : tourL Q (P ++ [(ahead.length : Int)]) [] (n + 1) f.fields = .ok m) : tourL Q P ahead n (f :: r) = tourL Q P (ahead ++ [f]) m r := by
  obtain ⟨o, l⟩ := f
  rw [tourL]
  simp only [h, if_true]
  rw [show tourL Q (P ++ [(ahead.length : Int)]) [] (n + 1) l = .ok m from hb]

def chkS (Q : Own → Bool) (limit : Int) (l : List Fld) : Int × List Int :=
  if limit < 1 ∨ 65536 < limit then (113, []) else if l = [] then (115, []) else
  match tourL Q [] [] 0 l with
  | .ok _ => (0, [])
  | .bad c p _ => (c, p)

end Go.Vf

namespace Go.Proofs.YtkjoomdglealmaaGreatDoor
open Go.RowKit Go.Vf

def cellsF (o : Own) (a : Option Addr) (n c : Nat) : Array Value := #[.string o.name, .int .u8 o.kind, .bool o.down, .int .u8 o.nulls, .bool o.bnd, .bool o.ln, .string o.lm, .bool o.hn, .string o.hm, .int .i64 o.most, .int .i64 o.str, .bool o.shf, .bool o.bck, .slice a n c]
def fV (o : Own) (a : Option Addr) (n c : Nat) : Value := .agg #[.string o.name, .int .u8 o.kind, .bool o.down, .int .u8 o.nulls, .bool o.bnd, .bool o.ln, .string o.lm, .bool o.hn, .string o.hm, .int .i64 o.most, .int .i64 o.str, .bool o.shf, .bool o.bck, .slice a n c]

structure RowF (w : World) (b off : Nat) (o : Own) (a : Option Addr) (n c : Nat) : Prop where
  c0 : w.cell? ⟨b, off, none⟩ = some (.string o.name)
  c1 : w.cell? ⟨b, off + 1, none⟩ = some (.int .u8 o.kind)
  c2 : w.cell? ⟨b, off + 2, none⟩ = some (.bool o.down)
  c3 : w.cell? ⟨b, off + 3, none⟩ = some (.int .u8 o.nulls)
  c4 : w.cell? ⟨b, off + 4, none⟩ = some (.bool o.bnd)
  c5 : w.cell? ⟨b, off + 5, none⟩ = some (.bool o.ln)
  c6 : w.cell? ⟨b, off + 6, none⟩ = some (.string o.lm)
  c7 : w.cell? ⟨b, off + 7, none⟩ = some (.bool o.hn)
  c8 : w.cell? ⟨b, off + 8, none⟩ = some (.string o.hm)
  c9 : w.cell? ⟨b, off + 9, none⟩ = some (.int .i64 o.most)
  c10 : w.cell? ⟨b, off + 10, none⟩ = some (.int .i64 o.str)
  c11 : w.cell? ⟨b, off + 11, none⟩ = some (.bool o.shf)
  c12 : w.cell? ⟨b, off + 12, none⟩ = some (.bool o.bck)
  c13 : w.cell? ⟨b, off + 13, none⟩ = some (.slice a n c)

theorem Blk.rowF {w : World} {b : Nat} {t : TypeId} {o : Own} {a : Option Addr} {n c : Nat} (h : Blk w b t (cellsF o a n c)) : RowF w b 0 o a n c :=
  ⟨h.cell 0, h.cell 1, h.cell 2, h.cell 3, h.cell 4, h.cell 5, h.cell 6, h.cell 7, h.cell 8, h.cell 9, h.cell 10, h.cell 11, h.cell 12, h.cell 13⟩
theorem Blk.c14 {w : World} {b : Nat} {t : TypeId} {a0 a1 a2 a3 a4 a5 a6 a7 a8 a9 a10 a11 a12 a13 : Value} (h : Blk w b t #[a0, a1, a2, a3, a4, a5, a6, a7, a8, a9, a10, a11, a12, a13]) :
    (w.cell? ⟨b, 0, none⟩ = some a0 ∧ w.cell? ⟨b, 1, none⟩ = some a1 ∧ w.cell? ⟨b, 2, none⟩ = some a2 ∧ w.cell? ⟨b, 3, none⟩ = some a3 ∧ w.cell? ⟨b, 4, none⟩ = some a4 ∧ w.cell? ⟨b, 5, none⟩ = some a5 ∧ w.cell? ⟨b, 6, none⟩ = some a6 ∧ w.cell? ⟨b, 7, none⟩ = some a7 ∧ w.cell? ⟨b, 8, none⟩ = some a8 ∧ w.cell? ⟨b, 9, none⟩ = some a9 ∧ w.cell? ⟨b, 10, none⟩ = some a10 ∧ w.cell? ⟨b, 11, none⟩ = some a11 ∧ w.cell? ⟨b, 12, none⟩ = some a12 ∧ w.cell? ⟨b, 13, none⟩ = some a13) :=
  ⟨h.cell 0, h.cell 1, h.cell 2, h.cell 3, h.cell 4, h.cell 5, h.cell 6, h.cell 7, h.cell 8, h.cell 9, h.cell 10, h.cell 11, h.cell 12, h.cell 13⟩
inductive FIn (w : World) (lo n₀ : Nat) : List Fld → Option Addr → Prop where
  | nil {a : Option Addr} : FIn w lo n₀ [] a
  | cons {l : List Fld} {b off : Nat} (A : Nat → Option Addr) (C : Nat → Nat) : lo ≤ b → b < n₀ → (∀ j (hj : j < l.length), RowF w b (off + j * 14) l[j].own (A j) l[j].fields.length (C j)) →
      (∀ j (hj : j < l.length), l[j].fields.length ≤ C j) → (∀ j (hj : j < l.length), FIn w lo n₀ l[j].fields (A j)) → FIn w lo n₀ l (some ⟨b, off, none⟩)

theorem RowF.of {w w' : World} {b off : Nat} {o : Own} {a : Option Addr} {n c : Nat} (h : RowF w b off o a n c) (q : ∀ k, w'.cell? ⟨b, k, none⟩ = w.cell? ⟨b, k, none⟩) : RowF w' b off o a n c :=
  ⟨(q _).trans h.c0, (q _).trans h.c1, (q _).trans h.c2, (q _).trans h.c3, (q _).trans h.c4, (q _).trans h.c5, (q _).trans h.c6, (q _).trans h.c7, (q _).trans h.c8, (q _).trans h.c9, (q _).trans h.c10, (q _).trans h.c11, (q _).trans h.c12, (q _).trans h.c13⟩
theorem RowF.below {w w' : World} {b off n' : Nat} {o : Own} {a : Option Addr} {n c : Nat} (h : RowF w b off o a n c) (hb : Below n' w w') (hn : b < n') : RowF w' b off o a n c :=
  h.of fun k => hb.cell (p := ⟨b, k, none⟩) hn
theorem FIn.keep {w w' : World} {lo n₀ n : Nat} {l : List Fld} {a : Option Addr} (h : FIn w lo n₀ l a) (hb : Below n w w') (hn : n₀ ≤ n) : FIn w' lo n₀ l a := by
  induction h with
  | nil => exact .nil
  | cons A C hlo hlt hr hc _ ih => exact .cons A C hlo hlt (fun j hj => (hr j hj).below hb (by omega)) hc ih
theorem FIn.keep' {w w' : World} {lo n₀ : Nat} {l : List Fld} {a : Option Addr} (h : FIn w lo n₀ l a) (hb : ∀ b, lo ≤ b → b < n₀ → w'.heap[b]? = w.heap[b]?) : FIn w' lo n₀ l a := by
  induction h with
  | nil => exact .nil
  | cons A C hlo hlt hr hc _ ih => exact .cons A C hlo hlt (fun j hj => (hr j hj).of fun k => cell_of_block (hb _ hlo hlt) k) hc ih
theorem FIn.mono {w : World} {lo lo' n₀ n : Nat} {l : List Fld} {a : Option Addr} (h : FIn w lo n₀ l a) (hn : n₀ ≤ n) (hlo : lo' ≤ lo) : FIn w lo' n l a := by
  induction h with
  | nil => exact .nil
  | cons A C h1 hlt hr hc _ ih => exact .cons A C (by omega) (by omega) hr hc ih
theorem FIn.atC {w : World} {lo n₀ : Nat} {l : List Fld} {a : Option Addr} (h : FIn w lo n₀ l a) {j : Nat} (hj : j < l.length) : ∃ b off aj cj, a = some ⟨b, off, none⟩ ∧ lo ≤ b ∧ b < n₀ ∧ RowF w b (off + j * 14) l[j].own aj l[j].fields.length cj ∧ FIn w lo n₀ l[j].fields aj ∧ l[j].fields.length ≤ cj := by
  cases h with
  | nil => simp at hj
  | cons A C hlo hlt hr hc hin => exact ⟨_, _, A j, C j, rfl, hlo, hlt, hr j hj, hin j hj, hc j hj⟩
theorem FIn.at {w : World} {lo n₀ : Nat} {l : List Fld} {a : Option Addr} (h : FIn w lo n₀ l a) {j : Nat} (hj : j < l.length) : ∃ b off aj cj, a = some ⟨b, off, none⟩ ∧ lo ≤ b ∧ b < n₀ ∧ RowF w b (off + j * 14) l[j].own aj l[j].fields.length cj ∧ FIn w lo n₀ l[j].fields aj := by
  obtain ⟨b, off, aj, cj, h1, h2, h3, h4, h5, _⟩ := h.atC hj
  exact ⟨b, off, aj, cj, h1, h2, h3, h4, h5⟩
theorem FIn.take {w : World} {lo n₀ : Nat} {l : List Fld} {a : Option Addr} (h : FIn w lo n₀ l a) (m : Nat) : FIn w lo n₀ (l.take m) a := by
  cases h with
  | nil => rw [List.take_nil]; exact .nil
  | cons A C hlo hlt hr hc hin =>
    have e : ∀ j (hj : j < (l.take m).length), (l.take m)[j] = l[j]'(by rw [List.length_take] at hj; omega) := fun j hj => List.getElem_take
    refine .cons A C hlo hlt (fun j hj => ?_) (fun j hj => ?_) (fun j hj => ?_)
    · rw [e j hj]; exact hr j _
    · rw [e j hj]; exact hc j _
    · rw [e j hj]; exact hin j _
structure OwnFits (B : Nat) (o : Own) : Prop where
  k0 : 0 ≤ o.kind
  k1 : o.kind < 256
  n0 : 0 ≤ o.nulls
  n1 : o.nulls < 256
  nm : o.name.size ≤ B
  lm : o.lm.size ≤ B
  hm : o.hm.size ≤ B
  m0 : -9223372036854775808 ≤ o.most
  m1 : o.most < 9223372036854775808
  s0 : -9223372036854775808 ≤ o.str
  s1 : o.str < 9223372036854775808
inductive FitsF (B : Nat) : Fld → Prop where
  | mk {f : Fld} : OwnFits B f.own → f.fields.length ≤ B → (∀ x ∈ f.fields, FitsF B x) → FitsF B f
theorem FitsF.own {B : Nat} {f : Fld} (h : FitsF B f) : OwnFits B f.own := by cases h; assumption
theorem FitsF.len {B : Nat} {f : Fld} (h : FitsF B f) : f.fields.length ≤ B := by cases h; assumption
theorem FitsF.mem {B : Nat} {f : Fld} (h : FitsF B f) {x : Fld} (hx : x ∈ f.fields) : FitsF B x := by cases h with | mk _ _ h => exact h x hx

end Go.Proofs.YtkjoomdglealmaaGreatDoor
