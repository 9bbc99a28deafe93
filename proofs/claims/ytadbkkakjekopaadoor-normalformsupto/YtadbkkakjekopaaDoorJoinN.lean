/- Appending any list of ints; what dovetaillaw05.joined does; lists that came in (contracts; nothing is claimed here). -/
import Derived.Test.YtadbkkakjekopaaDoorAwakeN
import Derived.Test.YtadbkkakjekopaaDoorRows
import Derived.Deep.Upon
import Derived.ProofKit
import Derived.OpenShut
import Derived.Deep.Slices
import Derived.SizedLaws
namespace Go.Proofs.YtadbkkakjekopaaDoor
open Go.ChangeShapes Go.WideShapes Go.ChangeAt Go.RowKit Go.Deep Go.Vf Go.Maps

theorem append_empty (w : World) (ty : TypeId) (ba : Option Addr) (n c : Nat) (hle : n ≤ c) (pa : Option Addr) (pc : Nat) : (Builtin.append_ #[22, 22] ty #[.slice ba n c, .slice pa 0 pc]).run Tryd.prog w = .ok (.slice ba n c) w := by
  obtain ⟨i, hi, hz, hsz, hby⟩ := info_parts info3
  cases pa with
  | none => exact run_append_nothing (P := Tryd.prog) w 22 22 ty 3 i Tryd.underlying22 hi ba n c hle _ (Src.ofNil w Tryd.underlying22 pc)
  | some ad => exact run_append_nothing (P := Tryd.prog) w 22 22 ty 3 i Tryd.underlying22 hi ba n c hle _ (Src.ofSlice w Tryd.underlying22 ad 0 pc [] (by simp) (by simp) (by simp))
/-- An append of any list of ints to a list that the call owns. -/
theorem wpList_append_any {w : World} {ops : Array Oper} {rest : List Oper} {o : Oper} {a : Act} {Q : Exit → Act → World → Prop} (hgd : o.guard = none) (s x : Operand)
    (ho : o.op = .call { callee := .builtin .append, args := #[s, x], argTypes := #[22, 22] })
    (base : Nat) (v : Value) (zs : List Int) (hs : a.eval s = v) (hown : IOwn w base v zs) (ys : List Int) (n₀ : Nat) (vx : Value) (hx : a.eval x = vx) (hin : Ints n₀ w vx ys) (hlen : zs.length + ys.length ≤ 1099511627776) (hbase : base ≤ w.heap.size)
    (h : ∀ a' c' w', IOwn w' base (.slice a' (zs.length + ys.length) c') (zs ++ ys) → Below base w w' → w.grownBy w' v.ownBlock → ((Value.slice a' (zs.length + ys.length) c').ownBlock = v.ownBlock ∨ (Value.slice a' (zs.length + ys.length) c').ownBlock = some w.heap.size) → wpList Tryd.prog ops Q rest (a.put o.dst (.slice a' (zs.length + ys.length) c')) w') :
    wpList Tryd.prog ops Q (o :: rest) a w := by
  by_cases hy : ys = []
  · subst hy
    obtain ⟨pa, pc, rfl⟩ : ∃ pa pc, vx = .slice pa 0 pc := by
      rcases hin with ⟨a, c, e, _⟩ | ⟨b, off, c, e, _⟩
      · exact ⟨a, c, e⟩
      · exact ⟨some ⟨b, off, none⟩, c, by simpa using e⟩
    obtain ⟨ba, c, hv, hle⟩ : ∃ ba c, v = .slice ba zs.length c ∧ zs.length ≤ c := by
      rcases hown.form with ⟨e, e2⟩ | ⟨g, cap, e, _, _, hc, _⟩
      · subst e2; exact ⟨none, 0, e, Nat.le_refl _⟩
      · exact ⟨_, cap, e, hc⟩
    have hr := append_empty w o.type ba zs.length c hle pa pc
    refine wpList_plain hgd fun K hK => ?_
    unfold Oper.wp execOp
    simp only [ho, resolve, invoke, builtin, Sem.run_bind, Sem.run_pure, Result.andThen_ok, List.map_toArray, List.map_cons, List.map_nil, hs, hx, hv, hr]
    subst hv
    exact hK _ _ (h ba c w (by rw [List.append_nil]; exact hown) (Below.refl _ _) ⟨rfl, rfl, rfl, Nat.le_refl _, fun _ _ _ => rfl⟩ (.inl rfl))
  · obtain ⟨b, off, hao, _, _, hcell⟩ : ∃ b off, (∃ c, vx = .slice (some ⟨b, off, none⟩) ys.length c) ∧ True ∧ True ∧ ∀ j, j < ys.length → w.cell? ⟨b, off + j, none⟩ = some (.int .i64 (ys[j]?.getD 0)) := by
      rcases hin with ⟨_, _, _, e⟩ | ⟨b, off, c, e, hb, hc⟩
      · exact absurd e hy
      · exact ⟨b, off, ⟨c, e⟩, trivial, trivial, hc⟩
    obtain ⟨c, rfl⟩ := hao
    refine wpList_append_ints hgd s x ho base v zs hs hown ys ⟨b, off, none⟩ c hx (fun j hj => by rw [show (⟨b, off, none⟩ : Addr).add j = ⟨b, off + j, none⟩ by simp [Addr.add]]; exact hcell j hj) hlen hbase ?_
    intro a' c' w' h1 h2 _ h4
    exact h a' c' w' h1 ((Below.refl _ w).grown h2 hbase (fun j hj => (own_ge hown hj).1)) h2 h4

set_option maxHeartbeats 1000000 in
set_option maxRecDepth 20000 in
theorem joined_any {w : World} {a b : Option Addr} {k c k2 c2 : Nat} {zs ys : List Int} (ha : Numb w a k c zs) (hb : Numb w b k2 c2 ys) :
    Calls Tryd.prog 19 #[.slice a k c, .slice b k2 c2] w fun e w' => ∃ a' k' c', e = .returned (.slice a' k' c') ∧ IOwn w' w.heap.size (.slice a' k' c') (zs ++ ys) ∧ Below w.heap.size w w' := by
  have HA : Aside (Numb w a k c zs) := ha
  have HB : Aside (Numb w b k2 c2 ys) := hb
  have h1 := ha.few
  have h2 := hb.few
  clear ha hb
  go_enter Tryd.func19, Tryd.ntmps19
  go_upto_region 3 with (first | (at_builtin; refine wpList_append_any rfl _ _ rfl w.heap.size _ [] rfl (IOwn.nil _ _) zs w.heap.size _ rfl HA.out.ints (by simp; omega) (Nat.le_refl _) ?_; intro a3 c3 w3 hown3 hbel3 _ _))
  have hO3 : IOwn w3 w.heap.size (.slice a3 zs.length c3) zs := by simpa using hown3
  have HO3 : Aside (IOwn w3 w.heap.size (.slice a3 zs.length c3) zs) := hO3
  clear hO3
  clear hown3
  have hin3 : Aside (Ints w.heap.size w3 (.slice b k2 c2) ys) := HB.out.ints.below hbel3 (Nat.le_refl _)
  have hsz3 := hbel3.size
  go_wp2_with (first | (at_builtin; refine wpList_append_any rfl _ _ rfl w.heap.size _ zs rfl HO3.out ys w.heap.size _ rfl hin3.out (by omega) hsz3 ?_; intro a4 c4 w4 hown4 hbel4 _ _))
  go_ret
  exact ⟨_, _, _, rfl, hown4, hbel3.trans hbel4⟩
end Go.Proofs.YtadbkkakjekopaaDoor
