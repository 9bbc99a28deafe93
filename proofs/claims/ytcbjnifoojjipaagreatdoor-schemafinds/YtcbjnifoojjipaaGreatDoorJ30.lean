/- Contracts and lemmas (nothing is claimed here). -/
import Derived.Test.YtcbjnifoojjipaaGreatDoorJ29
import Derived.Test.YtcbjnifoojjipaaGreatDoorJ26
import Derived.Test.YtcbjnifoojjipaaGreatDoorJ21
import Derived.Deep.RegionHeld
import Derived.Test.YtcbjnifoojjipaaGreatDoorFGo
namespace Go.Vf
def pathsF (P : List Int) (i : Nat) (out : List (List Int)) : List Fld → Option (List (List Int))
  | [] => some out
  | .mk _ l :: r =>
    if 64 < out.length + 1 ∨ 16 < P.length + 1 then none
    else match pathsF (P ++ [(i : Int)]) 0 (out ++ [P ++ [(i : Int)]]) l with
      | none => none
      | some o => pathsF P (i + 1) o r
termination_by l => SizeOf.sizeOf l
theorem pathsF_nil (P : List Int) (i : Nat) (out : List (List Int)) : pathsF P i out [] = some out := by rw [pathsF]
theorem pathsF_stop {P : List Int} {i : Nat} {out : List (List Int)} {f : Fld} {r : List Fld} (h : 64 < out.length + 1 ∨ 16 < P.length + 1) : pathsF P i out (f :: r) = none := by
  obtain ⟨o, l⟩ := f
  rw [pathsF, if_pos h]
theorem pathsF_none {P : List Int} {i : Nat} {out : List (List Int)} {f : Fld} {r : List Fld} (h : ¬ (64 < out.length + 1 ∨ 16 < P.length + 1)) (hn : pathsF (P ++ [(i : Int)]) 0 (out ++ [P ++ [(i : Int)]]) f.fields = none) : pathsF P i out (f :: r) = none := by
  obtain ⟨o, l⟩ := f
  rw [pathsF, if_neg h, show pathsF (P ++ [(i : Int)]) 0 (out ++ [P ++ [(i : Int)]]) l = none from hn]
theorem pathsF_some {P : List Int} {i : Nat} {out o2 : List (List Int)} {f : Fld} {r : List Fld} (h : ¬ (64 < out.length + 1 ∨ 16 < P.length + 1)) (hn : pathsF (P ++ [(i : Int)]) 0 (out ++ [P ++ [(i : Int)]]) f.fields = some o2) : pathsF P i out (f :: r) = pathsF P (i + 1) o2 r := by
  obtain ⟨o, l⟩ := f
  rw [pathsF, if_neg h, show pathsF (P ++ [(i : Int)]) 0 (out ++ [P ++ [(i : Int)]]) l = some o2 from hn]
theorem pathsF_le' : ∀ (N : Nat) (l : List Fld), SizeOf.sizeOf l ≤ N → ∀ (P : List Int) (i : Nat) (out o2 : List (List Int)), out.length ≤ 64 → pathsF P i out l = some o2 → o2.length ≤ 64 := by
  intro N
  induction N with
  | zero => intro l h; cases l <;> simp at h
  | succ N ih =>
    intro l hl P i out o2 ho h
    cases l with
    | nil => rw [pathsF_nil] at h; cases h; exact ho
    | cons f r =>
      obtain ⟨o, fl⟩ := f
      have hs1 : SizeOf.sizeOf fl ≤ N := by simp at hl; omega
      have hs2 : SizeOf.sizeOf r ≤ N := by simp at hl; omega
      by_cases hc : 64 < out.length + 1 ∨ 16 < P.length + 1
      · rw [pathsF_stop hc] at h; cases h
      · cases h1 : pathsF (P ++ [(i : Int)]) 0 (out ++ [P ++ [(i : Int)]]) fl with
        | none => rw [pathsF_none hc h1] at h; cases h
        | some q =>
          rw [pathsF_some hc h1] at h
          exact ih r hs2 _ _ _ _ (ih fl hs1 _ _ _ _ (by simp; omega) h1) h
theorem pathsF_le {P : List Int} {i : Nat} {out o2 : List (List Int)} {l : List Fld} (ho : out.length ≤ 64) (h : pathsF P i out l = some o2) : o2.length ≤ 64 := pathsF_le' _ l (Nat.le_refl _) P i out o2 ho h
end Go.Vf
namespace Go.Proofs.YtcbjnifoojjipaaGreatDoor
open Go.RowKit Go.Vf Go.Maps
theorem row_val {w : World} {base : Nat} {e : TypeId} {size : Nat} {v : Value} {k : Nat} {xs : List Value} (h : w.ownsRow base e size v k xs) : ∃ a cap, v = .slice a k cap := by
  rcases h.2 with ⟨rfl, rfl⟩ | ⟨g, cap, cur, rfl, _⟩
  · exact ⟨_, _, rfl⟩
  · exact ⟨_, _, rfl⟩
theorem own_other {w w' : World} {b1 : Nat} {e1 : TypeId} {s1 k1 : Nat} {v1 : Value} {x1 : List Value} (h1 : w.ownsRow b1 e1 s1 v1 k1 x1) (hk : ∀ g, v1.ownBlock = some g → w'.heap[g]? = w.heap[g]?) : w'.ownsRow b1 e1 s1 v1 k1 x1 := by
  refine ⟨h1.1, h1.2.imp id fun ⟨g, cap, cur, q1, q2, q3, q4⟩ => ⟨g, cap, cur, q1, q2, ?_, q4⟩⟩
  exact (hk g (by rw [q1]; rfl)).trans q3
def Apt (u v : Value) : Prop := ∀ g, u.ownBlock = some g → v.ownBlock ≠ some g
theorem Apt.symm {u v : Value} (h : Apt u v) : Apt v u := fun g hv hu => h g hu hv
theorem apt_types {w : World} {b1 b2 : Nat} {e1 e2 : TypeId} {s1 s2 k1 k2 : Nat} {v1 v2 : Value} {x1 x2 : List Value} (h1 : w.ownsRow b1 e1 s1 v1 k1 x1) (h2 : w.ownsRow b2 e2 s2 v2 k2 x2) (ht : e1 ≠ e2) : Apt v1 v2 := fun g hg1 hg2 => by
  obtain ⟨_, c1, f1, q1⟩ := own_ge h1 hg1
  obtain ⟨_, c2, f2, q2⟩ := own_ge h2 hg2
  rw [q1] at q2
  simp only [Option.some.injEq, Obj.cells.injEq] at q2
  exact ht q2.2.1
theorem row_lt {w : World} {base : Nat} {e : TypeId} {size k : Nat} {v : Value} {xs : List Value} (h : w.ownsRow base e size v k xs) {g : Nat} (hg : v.ownBlock = some g) : g < w.heap.size := by
  obtain ⟨_, c, f, q⟩ := own_ge h hg
  exact (Array.getElem?_eq_some_iff.1 q).1
theorem apt_new {w : World} {b1 b2 : Nat} {e1 e2 : TypeId} {s1 s2 k1 k2 : Nat} {v1 v2 : Value} {x1 x2 : List Value} {w2 : World} (h1 : w.ownsRow b1 e1 s1 v1 k1 x1) (h2 : w2.ownsRow b2 e2 s2 v2 k2 x2) (hb : w.heap.size ≤ b2) : Apt v1 v2 := fun g hg1 hg2 => by
  have := row_lt h1 hg1
  have := (own_ge h2 hg2).1
  omega
theorem own_grown {w w' : World} {b : Nat} {e : TypeId} {s k : Nat} {v u : Value} {xs : List Value} (h : w.ownsRow b e s v k xs) (hg : w.grownBy w' u.ownBlock) (ha : Apt u v) : w'.ownsRow b e s v k xs :=
  own_other h (fun g hv => hg.block g (row_lt h hv) (fun e => ha g e.symm hv))
theorem blk_grown {w w' : World} {b : Nat} {e : TypeId} {s k B : Nat} {t : TypeId} {u : Value} {xs : List Value} {cs : Array Value} (hb : Blk w B t cs) (hu : w.ownsRow b e s u k xs) (ht : e ≠ t) (hg : w.grownBy w' u.ownBlock) : Blk w' B t cs := by
  refine (hg.block B hb.lt (fun eq => ?_)).trans hb
  obtain ⟨_, c, f, q⟩ := own_ge hu eq.symm
  have := q.symm.trans hb
  simp only [Option.some.injEq, Obj.cells.injEq] at this
  exact ht this.2.1
theorem own_apart {w w' : World} {b1 : Nat} {e1 : TypeId} {s1 k1 : Nat} {v1 : Value} {x1 : List Value} {row : Option Nat} (h1 : w.ownsRow b1 e1 s1 v1 k1 x1) (hne : ∀ g, row = some g → g < b1) (hg : w.grownBy w' row) : w'.ownsRow b1 e1 s1 v1 k1 x1 := by
  refine ⟨h1.1, h1.2.imp id fun ⟨g, cap, cur, q1, q2, q3, q4⟩ => ⟨g, cap, cur, q1, q2, ?_, q4⟩⟩
  have hlt : g < w.heap.size := (Array.getElem?_eq_some_iff.1 q3).1
  refine (hg.block g hlt ?_).trans q3
  intro e
  have := hne g e.symm
  omega
theorem own_lt {w : World} {b1 : Nat} {e1 : TypeId} {s1 k1 : Nat} {v1 : Value} {x1 : List Value} (h1 : w.ownsRow b1 e1 s1 v1 k1 x1) : ∀ g, v1.ownBlock = some g → g < w.heap.size := fun g hg => by
  obtain ⟨_, cs, f, q⟩ := own_ge h1 hg
  exact (Array.getElem?_eq_some_iff.1 q).1
def RowsUp (W : World) (base : Nat) (v : Value) (rs : List (List Int)) : Prop := ∃ vs : List Value, W.ownsRow base 29 1 v rs.length vs ∧ (∀ i (h : i < rs.length), ∃ u, vs[i]? = some u ∧ IOwn W base u rs[i]) ∧ ∀ (i j : Nat) (u v : Value), i < j → vs[i]? = some u → vs[j]? = some v → Apt u v
theorem RowsUp.nil (W : World) (base : Nat) : RowsUp W base (.slice none 0 0) [] := ⟨[], World.ownsRow_nil _ _ _ _, fun i h => absurd h (by simp), fun i j u v _ h => by simp at h⟩
theorem RowsUp.val {W : World} {base : Nat} {v : Value} {rs : List (List Int)} (h : RowsUp W base v rs) : ∃ a c, v = .slice a rs.length c := by
  obtain ⟨vs, h1, _⟩ := h
  exact row_val h1
theorem RowsUp.snoc {W' : World} {base : Nat} {vs : List Value} {rs : List (List Int)} {v u : Value} {r : List Int} (hvs : ∀ i (h : i < rs.length), ∃ u, vs[i]? = some u ∧ IOwn W' base u rs[i]) (hl : vs.length = rs.length) (hu : IOwn W' base u r) (hap : ∀ (i j : Nat) (u v : Value), i < j → vs[i]? = some u → vs[j]? = some v → Apt u v) (hnew : ∀ (i : Nat) (x : Value), vs[i]? = some x → Apt x u) (hrow : W'.ownsRow base 29 1 v (vs.length + 1) (vs ++ [u])) : RowsUp W' base v (rs ++ [r]) := by
  refine ⟨vs ++ [u], by rw [List.length_append, ← hl]; exact hrow, fun i hi => ?_, fun i j x y hij hx hy => ?_⟩
  · rcases Nat.lt_or_ge i rs.length with h | h
    · obtain ⟨u', q1, q2⟩ := hvs i h
      rw [List.getElem_append_left h]
      exact ⟨u', by rw [List.getElem?_append_left (by omega)]; exact q1, q2⟩
    · have hj' : i = rs.length := by simp at hi; omega
      subst hj'
      simp only [List.getElem_append_right (Nat.le_refl _), Nat.sub_self, List.getElem_cons_zero]
      exact ⟨u, by rw [List.getElem?_append_right (by omega), hl]; simp, hu⟩
  · have hjl : j < (vs ++ [u]).length := (List.getElem?_eq_some_iff.1 hy).1
    rw [List.length_append, List.length_singleton] at hjl
    rw [List.getElem?_append_left (by omega)] at hx
    rcases Nat.lt_or_ge j vs.length with h | h
    · rw [List.getElem?_append_left h] at hy
      exact hap i j x y hij hx hy
    · obtain rfl : j = vs.length := by omega
      rw [List.getElem?_append_right (Nat.le_refl _), Nat.sub_self] at hy
      obtain rfl : u = y := by simpa using hy
      exact hnew i x hx
theorem info29 : (Tryz.prog.info? 29).map (fun i => (i.zero, i.size, i.bytes)) = some (some (.slice none 0 0), 1, 24) := by kernel_rfl
theorem run_append_rowI (w : World) (base : Nat) (v : Value) (vs : List Value) (hown : w.ownsRow base 29 1 v vs.length vs) (sa : Option Addr) (sn sc : Nat) (ad : Addr) (c : Nat) (hcell : w.cell? ad = some (.slice sa sn sc)) (hlen : vs.length ≤ 1000000000000) (hbase : base ≤ w.heap.size) (ty : TypeId) :
    ∃ v' w', (Builtin.append_ #[52, 52] ty #[v, .slice (some ad) 1 c]).run Tryz.prog w = .ok v' w' ∧ w'.ownsRow base 29 1 v' (vs.length + 1) (vs ++ [.slice sa sn sc]) ∧ w.grownBy w' v.ownBlock ∧ (v'.ownBlock = v.ownBlock ∨ v'.ownBlock = some w.heap.size) := by
  obtain ⟨i, hi, hz, hsz, hby⟩ := info_parts info29
  obtain ⟨v', w', h1, h2, h3, _, h5⟩ := run_append_own_at (P := Tryz.prog) w base 52 ty 29 i (.slice none 0 0) 1 24 Tryz.underlying52 hi hz hsz hby rfl (by decide) v vs.length vs hown ad 1 c [.slice sa sn sc] rfl
    (by
      intro j u hu
      match j, hu with
      | 0, hu => simp at hu; subst hu; rw [show ad.add 0 = ad by cases ad; simp [Addr.add]]; exact hcell)
    (by intro u hu; simp at hu; subst hu; rfl) (by unfold maxLen; omega) (by omega) hbase
  exact ⟨v', w', h1, h2, h3, h5⟩
theorem wpList_appI {w : World} {ops : Array Oper} {rest : List Oper} {o : Oper} {a : Act} {Q : Exit → Act → World → Prop} (hgd : o.guard = none) (s x : Operand) (t : TypeId) (ho : o.op = .call { callee := .builtin .append, args := #[s, x], argTypes := #[t, t] }) {v u : Value} (hs : a.eval s = v) (hx : a.eval x = u)
    (h : ∃ v' w', (Builtin.append_ #[t, t] o.type #[v, u]).run Tryz.prog w = .ok v' w' ∧ wpList Tryz.prog ops Q rest (a.put o.dst v') w') : wpList Tryz.prog ops Q (o :: rest) a w := by
  obtain ⟨v', w', hr, h2⟩ := h
  refine wpList_plain hgd fun K hK => ?_
  unfold Oper.wp execOp
  simp only [ho, resolve, invoke, builtin, Sem.run_bind, Sem.run_pure, Result.andThen_ok, List.map_toArray, List.map_cons, List.map_nil, hs, hx, hr]
  exact hK _ _ h2
def PthPost (base : Nat) (vo : Value) (R : Option (List (List Int))) (w : World) (e : Ending) (w' : World) : Prop := w.grownBy w' vo.ownBlock ∧ match R with
  | none => e = .returned (.tuple #[.slice none 0 0, .bool false])
  | some o2 => ∃ a c, e = .returned (.tuple #[.slice a o2.length c, .bool true]) ∧ RowsUp w' base (.slice a o2.length c) o2 ∧ ∀ g, (Value.slice a o2.length c).ownBlock = some g → vo.ownBlock = some g ∨ w.heap.size ≤ g
def PthOk (l : List Fld) : Prop := ∀ (a : Option Addr) (c n₀ : Nat) (pv vo : Value) (P : List Int) (out : List (List Int)) (base b2 : Nat) (w : World), FIn w 0 n₀ l a → n₀ ≤ base → base ≤ w.heap.size → l.length ≤ 67108864 → IOwn w b2 pv P → P.length ≤ 16 → RowsUp w base vo out → out.length ≤ 64 →
  Calls Tryz.prog 36 #[.slice a l.length c, pv, vo] w (PthPost base vo (pathsF P 0 out l) w)
theorem grown_below {w w' : World} {v : Value} {base n : Nat} (h : w.grownBy w' v.ownBlock) (hb : ∀ g, v.ownBlock = some g → base ≤ g) (hn : n ≤ base) (hw : n ≤ w.heap.size) : Below n w w' :=
  (Below.refl n w).grown h hw (fun j hj => Nat.le_trans hn (hb j hj))
theorem RowsUp.base {w : World} {base : Nat} {v : Value} {rs : List (List Int)} (h : RowsUp w base v rs) : ∀ g, v.ownBlock = some g → base ≤ g := fun g hg => by
  obtain ⟨vs, h1, _⟩ := h
  exact (own_ge h1 hg).1
theorem grown_trans {a b c : World} {u v : Value} (h : a.grownBy b u.ownBlock) (k : b.grownBy c v.ownBlock) (hv : ∀ g, v.ownBlock = some g → u.ownBlock = some g ∨ a.heap.size ≤ g) : a.grownBy c u.ownBlock :=
  ⟨k.os.trans h.os, k.tape.trans h.tape, k.output.trans h.output, Nat.le_trans h.size k.size, fun j hj hn => (k.block j (Nat.lt_of_lt_of_le hj h.size) (fun e => by
    rcases hv j e.symm with q | q
    · exact hn q.symm
    · omega)).trans (h.block j hj hn)⟩
theorem grown_any {a b : World} {r : Option Nat} (h : a.grownBy b none) : a.grownBy b r := ⟨h.os, h.tape, h.output, h.size, fun j hj _ => h.block j hj (by simp)⟩
theorem results36_run {tmps : Array Value} {w : World} {a b : Value} (t6 : tmps[6]?.getD undef = a) (t7 : tmps[7]?.getD undef = b) : (results Tryz.f36 tmps).run Tryz.prog w = .ok (.tuple #[a, b]) w := by
  simp [results, Tryz.results36, go_sem, t6, t7]
theorem RowsUp.grown {w w' : World} {base : Nat} {v u : Value} {rs : List (List Int)} (h : RowsUp w base v rs) (hg : w.grownBy w' u.ownBlock) (ha : Apt u v) (hr : ∀ x z, IOwn w base x z → Apt u x) : RowsUp w' base v rs := by
  obtain ⟨vs, h1, h2, h3⟩ := h
  exact ⟨vs, own_grown h1 hg ha, fun i hi => by obtain ⟨x, q1, q2⟩ := h2 i hi; exact ⟨x, q1, own_grown q2 hg (hr x _ q2)⟩, h3⟩
theorem RowsUp.old {w w' : World} {base : Nat} {v : Value} {rs : List (List Int)} (h : RowsUp w base v rs) (hb : Below w.heap.size w w') : RowsUp w' base v rs := by
  obtain ⟨vs, h1, h2, h3⟩ := h
  exact ⟨vs, own_after h1 hb, fun i hi => by obtain ⟨x, q1, q2⟩ := h2 i hi; exact ⟨x, q1, own_after q2 hb⟩, h3⟩
theorem app_oneI {w : World} {base : Nat} {v : Value} {zs : List Int} (hown : IOwn w base v zs) (z : Int) (hlen : zs.length ≤ 1099511627776) (hbase : base ≤ w.heap.size) (ty : TypeId) :
    ∃ v' w', (Builtin.append_ #[29, 29] ty #[v, .slice (some ⟨w.heap.size, 0, none⟩) 1 1]).run Tryz.prog (w.alloc (.cells #[.int .i64 z] 3)) = .ok v' w' ∧ IOwn w' base v' (zs ++ [z]) ∧ (w.alloc (.cells #[.int .i64 z] 3)).grownBy w' v.ownBlock ∧ (v'.ownBlock = v.ownBlock ∨ v'.ownBlock = some (w.heap.size + 1)) := by
  obtain ⟨i, hi, hz, hsz, hby⟩ := info_parts info3
  have hnb := Blk.new w 3 #[.int .i64 z]
  have hs : (w.alloc (.cells #[.int .i64 z] 3)).heap.size = w.heap.size + 1 := by simp
  obtain ⟨v', w', h1, h2, h3, _, h5⟩ := run_append_own_at (P := Tryz.prog) (w.alloc (.cells #[.int .i64 z] 3)) base 29 ty 3 i (.int .i64 0) 1 8 Tryz.underlying29 hi hz hsz hby rfl (by decide) v zs.length (zs.map (Value.int .i64)) (World.ownsRow.alloc hown _) ⟨w.heap.size, 0, none⟩ 1 1 [.int .i64 z] rfl
    (by
      intro j u hu
      match j, hu with
      | 0, hu => simp at hu; subst hu; exact hnb.cell 0)
    (by intro u hu; simp at hu; subst hu; rfl) (by unfold maxLen; omega) (by omega) (by omega)
  refine ⟨v', w', h1, ?_, h3, by rw [hs] at h5; exact h5⟩
  unfold IOwn
  rw [List.length_append, List.map_append]
  exact h2
set_option maxHeartbeats 8000000 in
set_option maxRecDepth 20000 in
theorem paths_step (l : List Fld) (hfit : ∀ x ∈ l, FitsF 67108864 x) (ih : ∀ x ∈ l, PthOk x.fields) : PthOk l := by
  intro a c n₀ pv vo P out base b2 w hin hnb hbw hll hP hPl hO hol
  obtain ⟨n, hn⟩ : ∃ n, l.length = n := ⟨_, rfl⟩
  have HN : Hid (l.length = n) := hn
  rw [hn] at hll ⊢
  obtain ⟨pa, pc, rfl⟩ := hP.val
  obtain ⟨oa, oc, rfl⟩ := hO.val
  obtain ⟨pl, hpl⟩ : ∃ pl, P.length = pl := ⟨_, rfl⟩
  have HPL : Hid (P.length = pl) := hpl
  obtain ⟨ol, holn⟩ : ∃ ol, out.length = ol := ⟨_, rfl⟩
  have HOL : Hid (ol = out.length) := holn.symm
  have HIN : Hid (FIn w 0 n₀ l a) := hin
  have HFIT : Hid (∀ x ∈ l, FitsF 67108864 x) := hfit
  have HIH : Hid (∀ x ∈ l, PthOk x.fields) := ih
  have HP : Hid (IOwn w b2 (.slice pa P.length pc) P) := hP
  have HO : Hid (RowsUp w base (.slice oa out.length oc) out) := hO
  obtain ⟨R, hR⟩ : ∃ R, R = pathsF P 0 out l := ⟨_, rfl⟩
  have HR : Hid (pathsF P 0 out (l.drop 0) = R) := hR.symm
  rw [← hR]
  obtain ⟨vo, hvo⟩ : ∃ vo, vo = Value.slice oa out.length oc := ⟨_, rfl⟩
  have HVO : Hid (vo = Value.slice oa out.length oc) := hvo
  have HAPV : Hid (Apt vo (.slice pa P.length pc)) := by
    rw [hvo]
    obtain ⟨vs, q1, _⟩ := hO
    exact apt_types q1 hP (by decide)
  have HVB : Hid (∀ g, vo.ownBlock = some g → base ≤ g) := by rw [hvo]; exact hO.base
  rw [holn] at hol
  rw [hpl] at hPl
  have hpo : PthPost base (.slice oa out.length oc) R w = PthPost base vo R w := by rw [hvo]
  rw [hpo, hpl, holn]
  clear hn hin hfit ih hP hO hR hvo hpo hpl
  go_enter Tryz.func36, Tryz.ntmps36
  go_wp2_with fail
  go_loopw [2, 8] (fun ov iv wr => ∃ (i : Nat) (o2 : List (List Int)) (xa : Option Addr) (xn xc : Nat), i ≤ n ∧ iv = .int .i64 (i : Int) ∧ ov = .slice xa xn xc ∧ xn ≤ 64 ∧ Hid (xn = o2.length) ∧ Hid (pathsF P i o2 (l.drop i) = R) ∧ Hid (RowsUp wr base (.slice xa xn xc) o2) ∧ Hid (∀ g, (Value.slice xa xn xc).ownBlock = some g → vo.ownBlock = some g ∨ w.heap.size ≤ g) ∧ Hid (w.grownBy wr vo.ownBlock)) (fun _ iv _ => n - (intOf iv).toNat)
  case atStart => exact ⟨0, out, oa, ol, oc, Nat.zero_le _, rfl, rfl, hol, HOL.out, HR.out, by show RowsUp _ _ _ _; rw [HOL.out]; exact HO.out, (fun g hg => .inl (by rw [HVO.out, ← HOL.out]; exact hg)), World.grownBy.refl _ _⟩
  case round =>
    clear HR HO
    obtain ⟨i, o2, xa, xn, xc, hi, rfl, rfl, hx64, HXN, HR, HO, HOV, HG⟩ := hrel
    have HBN : Hid (Below base w wr) := grown_below HG.out HVB.out (Nat.le_refl _) hbw
    have hbr : base ≤ wr.heap.size := Nat.le_trans hbw HG.out.size
    by_cases hlt : i < n
    · have tl : decide ((i : Int) < (n : Int)) = true := decide_eq_true (by omega)
      have hil : i < l.length := by rw [HN.out]; exact hlt
      have hdr : l.drop i = l[i] :: l.drop (i + 1) := List.drop_eq_getElem_cons hil
      obtain ⟨bb, off, aj, cj, rfl, _, hbn, hrow, hinj⟩ := HIN.out.at hil
      have hpt := HIH.out _ (List.getElem_mem hil)
      have hft := HFIT.out _ (List.getElem_mem hil)
      have HR2 : Hid (pathsF P i o2 (l[i] :: l.drop (i + 1)) = R) := by rw [← hdr]; exact HR.out
      obtain ⟨x, hx⟩ : ∃ x, l[i] = x := ⟨_, rfl⟩
      rw [hx] at hrow hinj hpt hft HR2
      have HRW : Hid (RowF w bb (off + i * 14) x.own aj x.fields.length cj) := hrow
      have HIJ : Hid (FIn w 0 n₀ x.fields aj) := hinj
      have HPT : Hid (PthOk x.fields) := hpt
      have HFT : Hid (FitsF 67108864 x) := hft
      have hP2 : IOwn wr b2 (.slice pa P.length pc) P := own_grown HP.out HG.out HAPV.out
      have hri := rInts_any hP2 (by rw [HPL.out]; omega)
      rw [HPL.out] at hri
      obtain ⟨vs, hrw, hvs, hap⟩ := HO.out
      have hvl : vs.length = o2.length := by have := hrw.1; omega
      have HRWS : Hid (wr.ownsRow base 29 1 (.slice xa xn xc) o2.length vs) := hrw
      have HVS : Hid (∀ k (h : k < o2.length), ∃ u, vs[k]? = some u ∧ IOwn wr base u o2[k]) := hvs
      have HAPS : Hid (∀ (k j : Nat) (u v : Value), k < j → vs[k]? = some u → vs[j]? = some v → Apt u v) := hap
      have HVL : Hid (vs.length = o2.length) := hvl
      clear hrow hinj hpt hft hx hdr hP2 hrw hvs hap hvl hil
      go_wp2_with fail
      refine hri.mono ?_
      clear hri
      rintro _ w2 ⟨ha, hc, rfl, ho2, hb2⟩
      have hPl2 : P.length ≤ 1099511627776 := by rw [HPL.out]; omega
      obtain ⟨v3, w3, hr3, ho3, hg3, hat3⟩ := app_oneI ho2 (i : Int) hPl2 hb2.size 29
      obtain ⟨ha3, hc3, hv3⟩ := ho3.val
      rw [List.length_append, HPL.out, show [(i : Int)].length = 1 from rfl] at hv3
      subst hv3
      have HO3 : Hid (IOwn w3 wr.heap.size (.slice ha3 (pl + 1) hc3) (P ++ [(i : Int)])) := ho3
      have HB3 : Hid (Below wr.heap.size wr w3) := (hb2.alloc hb2.size _).grown hg3 (Nat.le_trans hb2.size (by simp)) (fun k hk => (own_ge ho2 hk).1)
      clear ho3 hg3 hat3 hb2 ho2 hPl2
      go_upto_region 6 with (first | (at_builtin; refine wpList_appI rfl _ _ 29 rfl rfl rfl ?_; refine ⟨_, w3, hr3, ?_⟩))
      clear hr3
      have hbA := HB3.out.alloc HB3.out.size (.cells #[.slice ha3 (pl + 1) hc3] 29)
      have hnB2 := Blk.new w3 29 #[.slice ha3 (pl + 1) hc3]
      have hrA : (w3.alloc (.cells #[.slice ha3 (pl + 1) hc3] 29)).ownsRow base 29 1 (.slice xa xn xc) vs.length vs := by rw [HVL.out]; exact own_after HRWS.out hbA
      have hvl64 : vs.length ≤ 64 := by rw [HVL.out, ← HXN.out]; exact hx64
      obtain ⟨v5, w5, hr5, ho5, hg5, hat5⟩ := run_append_rowI (w3.alloc (.cells #[.slice ha3 (pl + 1) hc3] 29)) base (.slice xa xn xc) vs hrA ha3 (pl + 1) hc3 ⟨w3.heap.size, 0, none⟩ 1 (hnB2.cell 0) (by omega) (Nat.le_trans hbr hbA.size) 52
      obtain ⟨xa5, xc5, hv5⟩ := row_val ho5
      rw [HVL.out, ← HXN.out] at hv5
      subst hv5
      have HRU : Hid (RowsUp w5 base (.slice xa5 (xn + 1) xc5) (o2 ++ [P ++ [(i : Int)]])) := by
        refine RowsUp.snoc (u := .slice ha3 (pl + 1) hc3) (fun k hk => ?_) HVL.out ?_ HAPS.out (fun k u hk => ?_) ho5
        · obtain ⟨u, q1, q2⟩ := HVS.out k hk
          have q3 : IOwn (w3.alloc (.cells #[.slice ha3 (pl + 1) hc3] 29)) base u o2[k] := own_after q2 hbA
          exact ⟨u, q1, own_grown q3 hg5 (apt_types hrA q3 (by decide))⟩
        · have q3 : IOwn (w3.alloc (.cells #[.slice ha3 (pl + 1) hc3] 29)) base (.slice ha3 (pl + 1) hc3) (P ++ [(i : Int)]) := own_after (ownsRow_mono HO3.out hbr) ((Below.refl w3.heap.size w3).alloc (Nat.le_refl _) _)
          exact own_grown q3 hg5 (apt_types hrA q3 (by decide))
        · have hkl : k < o2.length := by
            have := (List.getElem?_eq_some_iff.1 hk).1
            rw [HVL.out] at this
            exact this
          obtain ⟨u', q1, q2⟩ := HVS.out k hkl
          obtain rfl : u' = u := by rw [hk] at q1; exact (Option.some.inj q1).symm
          exact apt_new q2 HO3.out (Nat.le_refl _)
      have HG5 : Hid (wr.grownBy w5 (Value.slice xa xn xc).ownBlock) := grown_trans (u := .slice xa xn xc) (v := .slice xa xn xc) (grown_any (grown_of_below hbA)) hg5 (fun g hg => .inl hg)
      have HGW : Hid (w.grownBy w5 vo.ownBlock) := grown_trans HG.out HG5.out HOV.out
      have HB5 : Hid (Below base w w5) := grown_below HGW.out HVB.out (Nat.le_refl _) hbw
      have HV5 : Hid (∀ g, (Value.slice xa5 (xn + 1) xc5).ownBlock = some g → vo.ownBlock = some g ∨ w.heap.size ≤ g) := fun g hg => by
        rcases hat5 with e | e
        · exact HOV.out g (e.symm.trans hg)
        · rw [e] at hg
          simp only [Option.some.injEq] at hg
          exact .inr (by have h1 := hbA.size; have h2 := HG.out.size; omega)
      have HH5 : Hid (IOwn w5 wr.heap.size (.slice ha3 (pl + 1) hc3) (P ++ [(i : Int)])) := own_grown (own_after HO3.out ((Below.refl w3.heap.size w3).alloc (Nat.le_refl _) _)) hg5 (apt_types hrA (own_after HO3.out ((Below.refl w3.heap.size w3).alloc (Nat.le_refl _) (.cells #[.slice ha3 (pl + 1) hc3] 29))) (by decide))
      have hc13 := (HRW.out.below HB5.out (Nat.lt_of_lt_of_le hbn hnb)).c13
      clear hbA hnB2 hrA ho5 hg5 hat5 HO HRWS HVS HAPS HG HG5 HOV HO3 HB3 HR HBN HRW
      go_upto_region 7 with (first | (at_builtin; refine wpList_appI rfl _ _ 52 rfl rfl rfl ?_; refine ⟨_, w5, hr5, ?_⟩))
      clear hr5
      by_cases hcc : 64 < o2.length + 1 ∨ 16 < P.length + 1
      · have hRn : R = none := by rw [← HR2.out]; exact pathsF_stop hcc
        rw [← HXN.out, HPL.out] at hcc
        clear HR2
        by_cases h64 : 64 < xn + 1
        · have t1 : decide ((64 : Int) < ((xn + 1 : Nat) : Int)) = true := decide_eq_true (by omega)
          have t2 : decide ((64 : Int) < (xn : Int) + 1) = true := decide_eq_true (by omega)
          go_wp2_with fail
          refine bodyPost_ret (results36_run rfl rfl) rfl ?_
          try rw [hRn]
          exact ⟨HGW.out, rfl⟩
        · have t1 : decide ((64 : Int) < ((xn + 1 : Nat) : Int)) = false := decide_eq_false (by omega)
          have t2 : decide ((64 : Int) < (xn : Int) + 1) = false := decide_eq_false (by omega)
          have t3 : decide ((16 : Int) < ((pl + 1 : Nat) : Int)) = true := decide_eq_true (by omega)
          have t4 : decide ((16 : Int) < (pl : Int) + 1) = true := decide_eq_true (by omega)
          go_wp2_with fail
          refine bodyPost_ret (results36_run rfl rfl) rfl ?_
          try rw [hRn]
          exact ⟨HGW.out, rfl⟩
      · have hcc2 := hcc
        rw [← HXN.out, HPL.out] at hcc2
        have t1 : decide ((64 : Int) < ((xn + 1 : Nat) : Int)) = false := decide_eq_false (by omega)
        have t2 : decide ((64 : Int) < (xn : Int) + 1) = false := decide_eq_false (by omega)
        have t3 : decide ((16 : Int) < ((pl + 1 : Nat) : Int)) = false := decide_eq_false (by omega)
        have t4 : decide ((16 : Int) < (pl : Int) + 1) = false := decide_eq_false (by omega)
        have hrec := HPT.out aj cj n₀ (.slice ha3 (pl + 1) hc3) (.slice xa5 (xn + 1) xc5) (P ++ [(i : Int)]) (o2 ++ [P ++ [(i : Int)]]) base wr.heap.size w5 (HIJ.out.keep HB5.out hnb) hnb (Nat.le_trans hbw HGW.out.size) HFT.out.len HH5.out (by rw [List.length_append, HPL.out]; simp; omega) HRU.out (by rw [List.length_append, ← HXN.out]; simp; omega)
        have HNX : Hid (∀ q, pathsF (P ++ [(i : Int)]) 0 (o2 ++ [P ++ [(i : Int)]]) x.fields = some q → pathsF P (i + 1) q (l.drop (i + 1)) = R ∧ q.length ≤ 64) := fun q hq => ⟨by rw [← HR2.out]; exact (pathsF_some hcc hq).symm, pathsF_le (by rw [List.length_append, ← HXN.out]; simp; omega) hq⟩
        have HNN : Hid (pathsF (P ++ [(i : Int)]) 0 (o2 ++ [P ++ [(i : Int)]]) x.fields = none → R = none) := fun hq => by rw [← HR2.out]; exact pathsF_none hcc hq
        generalize pathsF (P ++ [(i : Int)]) 0 (o2 ++ [P ++ [(i : Int)]]) x.fields = S at hrec HNX HNN
        clear hcc hcc2 HR2 HRU HH5 HIJ HPT HFT
        obtain ⟨xm, hxm⟩ : ∃ xm, x.fields.length = xm := ⟨_, rfl⟩
        rw [hxm] at hc13 hrec
        clear hxm
        go_wp2_with fail
        refine hrec.mono ?_
        clear hrec hc13
        rintro e w6 ⟨hg6, hres⟩
        have HG6 : Hid (w.grownBy w6 vo.ownBlock) := grown_trans HGW.out hg6 HV5.out
        cases S with
        | none =>
          subst hres
          have hRn : R = none := HNN.out rfl
          clear HNX HNN hg6
          go_wp2_with fail
          refine bodyPost_ret (results36_run rfl rfl) rfl ?_
          try rw [hRn]
          exact ⟨HG6.out, rfl⟩
        | some q =>
          obtain ⟨qa, qc, rfl, hru, hqv⟩ := hres
          obtain ⟨hq1, hq2⟩ := HNX.out q rfl
          have HQ1 : Hid (pathsF P (i + 1) q (l.drop (i + 1)) = R) := hq1
          have HRQ : Hid (RowsUp w6 base (.slice qa q.length qc) q) := hru
          have HQV : Hid (∀ g, (Value.slice qa q.length qc).ownBlock = some g → vo.ownBlock = some g ∨ w.heap.size ≤ g) := fun g hg => by
            rcases hqv g hg with h | h
            · exact HV5.out g h
            · exact .inr (Nat.le_trans HGW.out.size h)
          obtain ⟨qn, hqn⟩ : ∃ qn, q.length = qn := ⟨_, rfl⟩
          have HQN : Hid (qn = q.length) := hqn.symm
          rw [hqn] at HRQ HQV hq2 ⊢
          clear hq1 hru hqv HNX HNN hg6 hqn
          go_wp2_with fail
          go_roundw
          case rel => exact ⟨i + 1, q, qa, qn, qc, by omega, by simp, rfl, hq2, HQN.out, HQ1.out, HRQ.out, HQV.out, HG6.out⟩
          case measure => simp only [intOf]; omega
    · have hin : i = n := by omega
      have tl : decide ((i : Int) < (n : Int)) = false := decide_eq_false (by omega)
      have hRs : R = some o2 := by
        rw [← HR.out, List.drop_of_length_le (by rw [HN.out]; omega)]
        exact pathsF_nil _ _ _
      subst hRs
      clear HR
      go_wp2_with fail
      refine bodyPost_ret (results36_run rfl rfl) rfl ?_
      refine ⟨HG.out, xa, xc, (by rw [← HXN.out]; rfl), by rw [← HXN.out]; exact HO.out, fun g hg => HOV.out g (by rw [← HXN.out] at hg; exact hg)⟩
theorem paths_any (f : Fld) : FitsF 67108864 f → PthOk f.fields := by
  induction f using Fld.ind with
  | h o l ih => intro hf; exact paths_step l (fun x hx => hf.mem hx) (fun x hx => ih x hx (hf.mem hx))
end Go.Proofs.YtcbjnifoojjipaaGreatDoor
namespace Go.Vf
def pathsS (l : List Fld) : List (List Int) := (pathsF [] 0 [] l).getD []
end Go.Vf
namespace Go.Proofs.YtcbjnifoojjipaaGreatDoor
open Go.RowKit Go.Vf Go.Maps
theorem RowsUp.low {w : World} {base b2 : Nat} {v : Value} {rs : List (List Int)} (h : RowsUp w base v rs) (hb : b2 ≤ base) : RowsUp w b2 v rs := by
  obtain ⟨vs, h1, h2, h3⟩ := h
  exact ⟨vs, ownsRow_mono h1 hb, fun i hi => by obtain ⟨x, q1, q2⟩ := h2 i hi; exact ⟨x, q1, ownsRow_mono q2 hb⟩, h3⟩
set_option maxHeartbeats 4000000 in
set_option maxRecDepth 20000 in
theorem rpathsS_any (limit : Int) (l : List Fld) (hll : l.length ≤ 67108864) (hfit : ∀ x ∈ l, FitsF 67108864 x) (a : Option Addr) (c n₀ : Nat) (w : World) (hin : FIn w 0 n₀ l a) (hn₀ : n₀ ≤ w.heap.size) :
    Calls Tryz.prog 21 #[.agg #[.int .i64 limit, .slice a l.length c]] w fun e w' => ∃ a' c', e = .returned (.slice a' (pathsS l).length c') ∧ RowsUp w' w.heap.size (.slice a' (pathsS l).length c') (pathsS l) ∧ Below w.heap.size w w' := by
  have hb0 := (Below.refl w.heap.size w).alloc (Nat.le_refl _) (.cells #[.int .i64 limit, .slice a l.length c] 25)
  have hS := Blk.new w 25 #[.int .i64 limit, .slice a l.length c]
  have hsz : (w.alloc (.cells #[.int .i64 limit, .slice a l.length c] 25)).heap.size = w.heap.size + 1 := by simp
  have hpa := paths_any (.mk ownNo l) (.mk ownNo_fits hll hfit) a c n₀ (.slice none 0 0) (.slice none 0 0) [] [] (w.alloc (.cells #[.int .i64 limit, .slice a l.length c] 25)).heap.size 0 (w.alloc (.cells #[.int .i64 limit, .slice a l.length c] 25)) (hin.keep hb0 hn₀) (by omega) (Nat.le_refl _) hll (IOwn.nil _ _) (by simp) (RowsUp.nil _ _) (by simp)
  have hP : Hid (pathsS l = (pathsF [] 0 [] l).getD []) := rfl
  rw [show (Fld.mk ownNo l).fields = l from rfl] at hpa
  generalize pathsF [] 0 [] l = S at hpa hP
  generalize pathsS l = L at hP ⊢
  obtain ⟨n, hn⟩ : ∃ n, l.length = n := ⟨_, rfl⟩
  rw [hn] at hb0 hS hsz hpa ⊢
  clear hin hfit hn hll
  go_enter Tryz.func21, Tryz.ntmps21
  go_upto_region 1 with fail
  generalize w.alloc (.cells #[.int .i64 limit, .slice a n c] 25) = W at hb0 hS hsz hpa ⊢
  have s1 : W.cell? ⟨w.heap.size, 1, none⟩ = some (.slice a n c) := hS.cell 1
  have HB0 : Hid (Below w.heap.size w W) := hb0
  have HZ : Hid (W.heap.size = w.heap.size + 1) := hsz
  clear hb0 hS hsz
  go_wp2_with fail
  refine hpa.mono ?_
  clear hpa s1
  rintro e w2 ⟨hg, hres⟩
  have HB2 : Hid (Below w.heap.size w w2) := HB0.out.grown hg (by have := HZ.out; omega) (fun j hj => by cases hj)
  cases S with
  | none =>
    subst hres
    obtain rfl : L = [] := hP.out
    clear hg
    go_wp2_with fail
    go_ret
    exact ⟨none, 0, rfl, RowsUp.nil _ _, HB2.out⟩
  | some q =>
    obtain rfl : L = q := hP.out
    obtain ⟨qa, qc, rfl, hru, -⟩ := hres
    have HRU : Hid (RowsUp w2 w.heap.size (.slice qa L.length qc) L) := hru.low (by have := HZ.out; omega)
    clear hg hru hP
    go_wp2_with fail
    go_ret
    exact ⟨qa, qc, rfl, HRU.out, HB2.out⟩
structure TourP (sv : Value) (w : World) (T : Nat) (pa : Option Addr) (pc : Nat) (P : List Int) (k : Nat) : Prop where
  blk : Blk w T 85 #[.slice pa P.length pc, .int .i64 (k : Int), sv]
  own : IOwn w (T + 1) (.slice pa P.length pc) P
theorem TourP.old {sv : Value} {w w' : World} {T : Nat} {pa : Option Addr} {pc : Nat} {P : List Int} {k : Nat} (h : TourP sv w T pa pc P k) (hb : Below w.heap.size w w') : TourP sv w' T pa pc P k := ⟨h.blk.old hb, own_after h.own hb⟩
theorem here_p {sv : Value} (T : Nat) (pa : Option Addr) (pc : Nat) (P : List Int) (k : Nat) (hP : P.length ≤ 1000) (w : World) (h : TourP sv w T pa pc P k) :
    Calls Tryz.prog 41 #[.pointer (some ⟨T, 0, none⟩)] w fun e w' => ∃ a c, e = .returned (.slice a P.length c) ∧ IOwn w' w.heap.size (.slice a P.length c) P ∧ Below w.heap.size w w' := by
  have c0 := h.blk.cell 0
  have hcl := cloneI_any _ P (T + 1) w (by omega) h.own
  clear h
  go_enter Tryz.func41, Tryz.ntmps41
  go_wp2_with fail
  refine hcl.mono ?_
  rintro _ w2 ⟨a, c, rfl, ho, hb⟩
  go_wp2_with fail
  go_ret
  exact ⟨a, c, rfl, ho, hb⟩
set_option maxHeartbeats 1000000 in
theorem tneed_np {sv : Value} (T : Nat) (pa : Option Addr) (pc : Nat) (P : List Int) (k : Nat) (hP : P.length ≤ 1000) (hb : Bool) (why : Int) (w : World) (hh : hb = false) (h : TourP sv w T pa pc P k) :
    Calls Tryz.prog 58 #[.pointer (some ⟨T, 0, none⟩), .bool hb, .int .i64 why] w fun e w' => ∃ a c, e = lostG why a P.length c (k : Int) ∧ IOwn w' w.heap.size (.slice a P.length c) P ∧ Below w.heap.size w w' := by
  subst hh
  have hhr := fun w h => here_p (sv := sv) T pa pc P k hP w h
  have c1 := h.blk.cell 1
  have hT := h.blk.lt
  go_enter Tryz.func58, Tryz.ntmps58
  go_upto_region 1 with fail
  have hc1 : ∀ x, Below w.heap.size w x → x.cell? ⟨T, 1, none⟩ = some (.int .i64 (k : Int)) := fun x hx => (hx.cell (p := ⟨T, 1, none⟩) hT).trans c1
  have HH : Hid (∀ x, Below w.heap.size w x → TourP sv x T pa pc P k) := fun x hx => h.old hx
  have HKeep : Hid (∀ x y, Below w.heap.size w x → Below x.heap.size x y → Below w.heap.size w y) := fun x y h1 h2 => h1.trans (h2.mono h1.size)
  clear c1
  refine wp_region_held_drew (S := fun x => Below w.heap.size w x) (by kernel_rfl) ((Below.refl _ _).drew) (fun hHeld => ?_)
  refine wpAnyH_takeD (i := 0) (some 8) (v := .int .i64 why) rfl rfl (by kernel_rfl) (by kernel_rfl) (by kernel_rfl) (fun _ _ _ h => h) (Or.inl ⟨by kernel_rfl, ?hy0⟩) (by assumption) ?rest0
  case hy0 => (intro x hSx; (try dsimp only at hSx); go_simp; first | done | with_reducible rfl)
  try simp only [Act.put, List.setIfInBounds_toArray, List.set_cons_zero, List.set_cons_succ]
  refine wpAnyH_takeD (i := 1) (some 9) (v := .pointer (some ⟨T, 0, none⟩)) rfl rfl (by kernel_rfl) (by kernel_rfl) (by kernel_rfl) (fun _ _ _ h => h) (Or.inl ⟨by kernel_rfl, ?hy1⟩) (by assumption) ?rest1
  case hy1 => (intro x hSx; (try dsimp only at hSx); go_simp; first | done | with_reducible rfl)
  try simp only [Act.put, List.setIfInBounds_toArray, List.set_cons_zero, List.set_cons_succ]
  refine wpAnyH_takeD (i := 3) (some 11) (v := .pointer (some ⟨T, 0, none⟩)) rfl rfl (by kernel_rfl) (by kernel_rfl) (by kernel_rfl) (fun _ _ _ h => h) (Or.inl ⟨by kernel_rfl, ?hy3⟩) (by assumption) ?rest3
  case hy3 => (intro x hSx; (try dsimp only at hSx); go_simp; first | done | with_reducible rfl)
  try simp only [Act.put, List.setIfInBounds_toArray, List.set_cons_zero, List.set_cons_succ]
  refine wpAnyH_takeD (i := 4) (some 12) (v := .pointer (some ⟨T, 0, none⟩)) rfl rfl (by kernel_rfl) (by kernel_rfl) (by kernel_rfl) (fun _ _ _ h => h) (Or.inl ⟨by kernel_rfl, ?hy4⟩) (by assumption) ?rest4
  case hy4 => (intro x hSx; (try dsimp only at hSx); go_simp; first | done | with_reducible rfl)
  try simp only [Act.put, List.setIfInBounds_toArray, List.set_cons_zero, List.set_cons_succ]
  refine wpAnyH_takeD (i := 5) (some 13) (v := .pointer (some ⟨T, 1, none⟩)) rfl rfl (by kernel_rfl) (by kernel_rfl) (by kernel_rfl) (fun _ _ _ h => h) (Or.inl ⟨by kernel_rfl, ?hy5⟩) (by assumption) ?rest5
  case hy5 => (intro x hSx; (try dsimp only at hSx); go_simp; first | done | with_reducible rfl)
  try simp only [Act.put, List.setIfInBounds_toArray, List.set_cons_zero, List.set_cons_succ]
  refine wpAnyH_takeD (i := 6) (some 14) (v := .int .i64 (k : Int)) rfl rfl (by kernel_rfl) (by kernel_rfl) (by kernel_rfl) (fun _ _ _ h => h) (Or.inl ⟨by kernel_rfl, ?hy6⟩) (by assumption) ?rest6
  case hy6 => (intro x hSx; have hq := hc1 _ hSx; (try dsimp only at hSx); go_simp; first | done | with_reducible rfl)
  try simp only [Act.put, List.setIfInBounds_toArray, List.set_cons_zero, List.set_cons_succ]
  refine wpAnyH_ready (rs := [2]) (by kernel_rfl) (by simp) ?_
  refine AllReadyH.cons rfl (fun K hK => ?_) AllReadyH.nil
  go_simp
  go_wp2_with (go_at_call 41; refine (hhr _ (HH.out _ hHeld)).mono ?_; rintro e y2 ⟨a, c, rfl, ho, hb2⟩)
  refine hK.out _ _ (HKeep.out _ _ hHeld hb2) (fun hHeld2 => ?_)
  clear hK K
  try simp only [Act.put, List.setIfInBounds_toArray, List.set_cons_zero, List.set_cons_succ]
  refine wpAnyH_takeD (i := 7) (some 15) (v := .agg #[.int .i64 why, .int .i64 0, .slice a P.length c, .int .i64 (k : Int)]) rfl rfl (by kernel_rfl) (by kernel_rfl) (by kernel_rfl) (fun _ _ _ h => h) (Or.inl ⟨by kernel_rfl, ?hy7⟩) (by assumption) ?rest7
  case hy7 => (intro x hSx; (try dsimp only at hSx); go_simp; first | done | with_reducible rfl)
  try simp only [Act.put, List.setIfInBounds_toArray, List.set_cons_zero, List.set_cons_succ]
  refine wpAnyH_takeD (i := 8) (some 16) (v := .iface 73 (.agg #[.int .i64 why, .int .i64 0, .slice a P.length c, .int .i64 (k : Int)])) rfl rfl (by kernel_rfl) (by kernel_rfl) (by kernel_rfl) (fun _ _ _ h => h) (Or.inl ⟨by kernel_rfl, ?hy8⟩) (by assumption) ?rest8
  case hy8 => (intro x hSx; (try dsimp only at hSx); go_simp; first | done | with_reducible rfl)
  try simp only [Act.put, List.setIfInBounds_toArray, List.set_cons_zero, List.set_cons_succ]
  refine wpAnyH_ready (rs := [9]) (by kernel_rfl) (by simp) ?_
  refine AllReadyH.cons rfl (fun K hK => ?_) AllReadyH.nil
  go_simp
  exact ⟨rfl, a, c, rfl, ho, hHeld2⟩
set_option maxHeartbeats 1000000 in
theorem needRoom_p {sv : Value} (T : Nat) (pa : Option Addr) (pc : Nat) (P : List Int) (k : Nat) (hP : P.length ≤ 1000) (hk : k ≤ 1000000) (w : World) (h : TourP sv w T pa pc P k) :
    Calls Tryz.prog 40 #[.pointer (some ⟨T, 0, none⟩)] w (SeePost (if 64 < k then 116 else if 16 < P.length then 114 else 0) P k w) := by
  have c0 := h.blk.cell 0
  have c1 := h.blk.cell 1
  by_cases h1 : 64 < k
  · rw [if_pos h1]
    have t1 : decide ((k : Int) ≤ 64) = false := by simp; omega
    have hno := tneed_np T pa pc P k hP false 116 w rfl h
    clear h h1
    go_enter Tryz.func40, Tryz.ntmps40
    go_wp2_with fail
    refine hno.mono ?_
    rintro e w1 ⟨a, c, he, ho, hb⟩; unfold lostG at he; subst he
    go_wp2
    exact ⟨rfl, .inr ⟨by decide, a, c, rfl, ho, hb⟩⟩
  · rw [if_neg h1]
    have t1 : decide ((k : Int) ≤ 64) = true := by simp; omega
    have hok := tneed_ok (.pointer (some ⟨T, 0, none⟩)) true 116 w rfl
    by_cases h2 : 16 < P.length
    · rw [if_pos h2]
      have t2 : decide ((P.length : Int) ≤ 16) = false := by simp; omega
      have hno := tneed_np T pa pc P k hP false 114 w rfl h
      clear h h1 h2
      go_enter Tryz.func40, Tryz.ntmps40
      go_wp2_with fail
      refine hok.mono ?_
      rintro _ _ ⟨rfl, rfl⟩
      go_wp2_with fail
      refine hno.mono ?_
      rintro e w1 ⟨a, c, he, ho, hb⟩; unfold lostG at he; subst he
      go_wp2
      exact ⟨rfl, .inr ⟨by decide, a, c, rfl, ho, hb⟩⟩
    · rw [if_neg h2]
      have t2 : decide ((P.length : Int) ≤ 16) = true := by simp; omega
      have hok2 := tneed_ok (.pointer (some ⟨T, 0, none⟩)) true 114 w rfl
      clear h h1 h2
      go_enter Tryz.func40, Tryz.ntmps40
      go_wp2_with fail
      refine hok.mono ?_
      rintro _ _ ⟨rfl, rfl⟩
      go_wp2_with fail
      refine hok2.mono ?_
      rintro _ _ ⟨rfl, rfl⟩
      go_wp2
      go_end0
      exact .inl ⟨rfl, rfl, Below.refl _ _⟩
theorem TourP.last {sv : Value} {w : World} {T g pc : Nat} {P : List Int} {x : Int} {k : Nat} (h : TourP sv w T (some ⟨g, 0, none⟩) pc (P ++ [x]) k) (y : Int) : TourP sv (w.setCell ⟨g, P.length, none⟩ (.int .i64 y)) T (some ⟨g, 0, none⟩) pc (P ++ [y]) k ∧ T < g := by
  have hg : T < g := by
    rcases h.own.form with ⟨e, _⟩ | ⟨g', cap, e, hb, _⟩
    · cases e
    · simp only [Value.slice.injEq, Option.some.injEq, Addr.mk.injEq, and_true] at e
      omega
  have ho := h.own.put P.length (by simp) y
  rw [show (P ++ [x]).set P.length y = P ++ [y] by simp] at ho
  have hl : (P ++ [x]).length = (P ++ [y]).length := by simp
  refine ⟨⟨?_, ?_⟩, hg⟩
  · have := h.blk.other (p := ⟨g, P.length, none⟩) (by show T ≠ g; omega) (.int .i64 y)
    rw [hl] at this; exact this
  · rw [hl] at ho; exact ho
theorem TourP.count {sv : Value} {w : World} {T pc : Nat} {pa : Option Addr} {P : List Int} {k : Nat} (h : TourP sv w T pa pc P k) (k' : Nat) : TourP sv (w.setCell ⟨T, 1, none⟩ (.int .i64 (k' : Int))) T pa pc P k' :=
  ⟨h.blk.set 1 _, own_setCell h.own (Nat.lt_succ_self _) _⟩
theorem TourP.path {sv : Value} {_w w1 : World} {T pc pc' : Nat} {pa pa' : Option Addr} {P P' : List Int} {k : Nat} (h : Blk w1 T 85 #[.slice pa P.length pc, .int .i64 (k : Int), sv]) (ho : IOwn w1 (T + 1) (.slice pa' P'.length pc') P') : TourP sv (w1.setCell ⟨T, 0, none⟩ (.slice pa' P'.length pc')) T pa' pc' P' k :=
  ⟨h.set 0 _, own_setCell ho (Nat.lt_succ_self _) _⟩
theorem TourP.cells {sv : Value} {w : World} {T pc : Nat} {pa : Option Addr} {P : List Int} {k : Nat} (h : TourP sv w T pa pc P k) : w.cell? ⟨T, 0, none⟩ = some (.slice pa P.length pc) ∧ w.cell? ⟨T, 1, none⟩ = some (.int .i64 (k : Int)) ∧ w.cell? ⟨T, 2, none⟩ = some (sv) ∧ w.frozen? ⟨T, 0, none⟩ = false ∧ w.frozen? ⟨T, 1, none⟩ = false ∧ T < w.heap.size :=
  ⟨h.blk.cell 0, h.blk.cell 1, h.blk.cell 2, h.blk.frozen 0, h.blk.frozen 1, h.blk.lt⟩
theorem TourP.some {sv : Value} {w : World} {T pc : Nat} {pa : Option Addr} {P : List Int} {x : Int} {k : Nat} (h : TourP sv w T pa pc (P ++ [x]) k) : ∃ g, pa = some ⟨g, 0, none⟩ ∧ T < g ∧ g < w.heap.size ∧ P.length + 1 ≤ pc ∧ w.cell? ⟨g, P.length, none⟩ = some (.int .i64 x) ∧ w.frozen? ⟨g, P.length, none⟩ = false := by
  rcases h.own.form with ⟨_, e⟩ | ⟨g, cap, e, hb, hlt, hc, hcell, hfr⟩
  · simp at e
  · simp only [Value.slice.injEq] at e
    obtain ⟨rfl, _, rfl⟩ := e
    refine ⟨g, rfl, by omega, hlt, by simpa using hc, ?_, hfr _⟩
    have := hcell P.length (by simp)
    simpa using this
theorem wp_append {P : Program} {o : Oper} {a : Act} {K : Act → World → Prop} {Q : Exit → Act → World → Prop} {w w' : World} {u v v' : Value} {t : TypeId} (s x : Operand) (ho : o.op = .call { callee := .builtin .append, args := #[s, x], argTypes := #[t, t] })
    (hs : a.eval s = v) (hx : a.eval x = u) (hr : (Builtin.append_ #[t, t] o.type #[v, u]).run P w = .ok v' w') (h : K (a.put o.dst v') w') : Oper.wp P o a w K Q := by
  unfold Oper.wp execOp
  simp only [ho, resolve, invoke, builtin, Sem.run_bind, Sem.run_pure, Result.andThen_ok, List.map_toArray, List.map_cons, List.map_nil, hs, hx, hr]
  exact h
def sawV (T X : Nat) : Value := .func (.func 39) #[] #[.pointer (some ⟨T, 0, none⟩), .pointer (some ⟨X, 0, none⟩)]
structure PSt (w : World) (T X : Nat) (pa : Option Addr) (pc : Nat) (P : List Int) (k : Nat) (v : Value) (out : List (List Int)) : Prop where
  lt : X < T
  tour : TourP (sawV T X) w T pa pc P k
  box : Blk w X 52 #[v]
  rows : ∃ vs : List Value, w.ownsRow (T + 1) 29 1 v out.length vs ∧ (∀ i (h : i < out.length), ∃ u, vs[i]? = some u ∧ IOwn w (T + 1) u out[i]) ∧ (∀ (i j : Nat) (u x : Value), i < j → vs[i]? = some u → vs[j]? = some x → Apt u x) ∧ ∀ u ∈ vs, Apt (.slice pa P.length pc) u
theorem PSt.old {w w' : World} {T X : Nat} {pa : Option Addr} {pc : Nat} {P : List Int} {k : Nat} {v : Value} {out : List (List Int)} (h : PSt w T X pa pc P k v out) (hb : Below w.heap.size w w') : PSt w' T X pa pc P k v out := by
  obtain ⟨vs, h1, h2, h3, h4⟩ := h.rows
  exact ⟨h.lt, h.tour.old hb, h.box.old hb, vs, own_after h1 hb, fun i hi => by obtain ⟨x, q1, q2⟩ := h2 i hi; exact ⟨x, q1, own_after q2 hb⟩, h3, h4⟩
theorem PSt.up {w : World} {T X : Nat} {pa : Option Addr} {pc : Nat} {P : List Int} {k : Nat} {v : Value} {out : List (List Int)} (h : PSt w T X pa pc P k v out) : RowsUp w (T + 1) v out := by
  obtain ⟨vs, h1, h2, h3, _⟩ := h.rows
  exact ⟨vs, h1, h2, h3⟩
theorem PSt.vge {w : World} {T X : Nat} {pa : Option Addr} {pc : Nat} {P : List Int} {k : Nat} {v : Value} {out : List (List Int)} (h : PSt w T X pa pc P k v out) : ∀ g, v.ownBlock = some g → T + 1 ≤ g := fun g hg => by
  obtain ⟨vs, h1, _⟩ := h.rows
  exact (own_ge h1 hg).1
structure Saw (X : Nat) (v : Value) (w w' : World) : Prop where
  below : Below X w w'
  but : ∀ b, b < w.heap.size → b ≠ X → v.ownBlock ≠ some b → w'.heap[b]? = w.heap[b]?
theorem Blk.setOne {w : World} {X : Nat} {t : TypeId} {v v' : Value} (h : Blk w X t #[v]) : Blk (w.setCell ⟨X, 0, none⟩ v') X t #[v'] := h.set 0 v'
theorem PSt.push {y y3 w5 : World} {T X : Nat} {pa : Option Addr} {pc : Nat} {P : List Int} {k : Nat} {v v5 : Value} {out : List (List Int)} {ha : Option Addr} {pl hc : Nat} (h : PSt y T X pa pc P k v out) (hb : Below y.heap.size y y3) (ho : IOwn y3 y.heap.size (.slice ha pl hc) P) (vs : List Value) (hrow : y.ownsRow (T + 1) 29 1 v out.length vs) (hvs : ∀ i (h : i < out.length), ∃ u, vs[i]? = some u ∧ IOwn y (T + 1) u out[i]) (hap : ∀ (i j : Nat) (u x : Value), i < j → vs[i]? = some u → vs[j]? = some x → Apt u x) (hpa : ∀ u ∈ vs, Apt (.slice pa P.length pc) u)
    (ho5 : w5.ownsRow (T + 1) 29 1 v5 (vs.length + 1) (vs ++ [.slice ha pl hc])) (hg5 : (y3.alloc (.cells #[.slice ha pl hc] 29)).grownBy w5 v.ownBlock) (_hat : v5.ownBlock = v.ownBlock ∨ v5.ownBlock = some (y3.alloc (.cells #[.slice ha pl hc] 29)).heap.size) :
    PSt (w5.setCell ⟨X, 0, none⟩ v5) T X pa pc P k v5 (out ++ [P]) ∧ Saw X v y (w5.setCell ⟨X, 0, none⟩ v5) := by
  have hTl := h.tour.blk.lt
  have hbA := hb.alloc hb.size (.cells #[.slice ha pl hc] 29)
  have hvl : vs.length = out.length := by have := hrow.1; omega
  have hrA := own_after hrow hbA
  have hsm : ∀ b, b < y.heap.size → v.ownBlock ≠ some b → w5.heap[b]? = y.heap[b]? := fun b h1 h2 => (hg5.block b (Nat.lt_of_lt_of_le h1 hbA.size) (fun e => h2 e.symm)).trans (hbA.block b h1)
  have hX : Blk w5 X 52 #[v] := (hsm X h.box.lt (fun e => by have := h.vge X e; have := h.lt; omega)).trans h.box
  have hTb : Blk w5 T 85 #[.slice pa P.length pc, .int .i64 (k : Int), sawV T X] := (hsm T hTl (fun e => by have := h.vge T e; omega)).trans h.tour.blk
  have hoP : IOwn w5 (T + 1) (.slice pa P.length pc) P := own_grown (own_after h.tour.own hbA) hg5 (apt_types hrA (own_after h.tour.own hbA) (by decide))
  have hset : ∀ b, b ≠ X → (w5.setCell ⟨X, 0, none⟩ v5).heap[b]? = w5.heap[b]? := fun b hbx => Below.heap_setCell w5 ⟨X, 0, none⟩ v5 b hbx
  have hone : IOwn w5 (T + 1) (.slice ha pl hc) P := by
    have q : IOwn (y3.alloc (.cells #[.slice ha pl hc] 29)) (T + 1) (.slice ha pl hc) P := own_after (ownsRow_mono ho (by omega)) ((Below.refl y3.heap.size y3).alloc (Nat.le_refl _) _)
    exact own_grown q hg5 (apt_types hrA q (by decide))
  have hkeep : ∀ {e : TypeId} {u : Value} {n : Nat} {xs : List Value}, w5.ownsRow (T + 1) e 1 u n xs → (w5.setCell ⟨X, 0, none⟩ v5).ownsRow (T + 1) e 1 u n xs := fun hu => own_other hu (fun b hbk => hset b (by have := (own_ge hu hbk).1; have := h.lt; omega))
  refine ⟨⟨h.lt, ⟨(hset T (by have := h.lt; omega)).trans hTb, hkeep hoP⟩, hX.setOne, vs ++ [.slice ha pl hc], ?_, fun i hi => ?_, fun i j u x hij hu hx => ?_, fun u hu => ?_⟩, ⟨?_, fun b h1 h2 h3 => (hset b h2).trans (hsm b h1 h3)⟩⟩
  · rw [List.length_append, ← hvl]
    exact hkeep ho5
  · rcases Nat.lt_or_ge i out.length with q | q
    · obtain ⟨u, q1, q2⟩ := hvs i q
      have q3 : IOwn (y3.alloc (.cells #[.slice ha pl hc] 29)) (T + 1) u out[i] := own_after q2 hbA
      rw [List.getElem_append_left q]
      exact ⟨u, by rw [List.getElem?_append_left (by omega)]; exact q1, hkeep (own_grown q3 hg5 (apt_types hrA q3 (by decide)))⟩
    · have hj' : i = out.length := by simp at hi; omega
      subst hj'
      simp only [List.getElem_append_right (Nat.le_refl _), Nat.sub_self, List.getElem_cons_zero]
      exact ⟨_, by rw [List.getElem?_append_right (by omega), hvl]; simp, hkeep hone⟩
  · have hjl : j < (vs ++ [Value.slice ha pl hc]).length := (List.getElem?_eq_some_iff.1 hx).1
    rw [List.length_append, List.length_singleton] at hjl
    rw [List.getElem?_append_left (by omega)] at hu
    rcases Nat.lt_or_ge j vs.length with q | q
    · rw [List.getElem?_append_left q] at hx
      exact hap i j u x hij hu hx
    · obtain rfl : j = vs.length := by omega
      rw [List.getElem?_append_right (Nat.le_refl _), Nat.sub_self] at hx
      obtain rfl : Value.slice ha pl hc = x := by simpa using hx
      have hil : i < out.length := by omega
      obtain ⟨u', q1, q2⟩ := hvs i hil
      obtain rfl : u' = u := by rw [hu] at q1; exact (Option.some.inj q1).symm
      exact apt_new q2 ho (Nat.le_refl _)
  · rcases List.mem_append.1 hu with q | q
    · exact hpa u q
    · obtain rfl : u = .slice ha pl hc := by simpa using q
      exact apt_new h.tour.own ho (Nat.le_refl _)
  · have hXT := h.lt
    have q1 : Below X y w5 := ((hb.alloc hb.size (.cells #[.slice ha pl hc] 29)).mono (show X ≤ y.heap.size by omega)).grown hg5 (show X ≤ (y3.alloc (.cells #[.slice ha pl hc] 29)).heap.size by have := hbA.size; omega) (fun j hj => by have := h.vge j hj; omega)
    exact q1.setCell (p := ⟨X, 0, none⟩) (Nat.le_refl _) v5
theorem Saw.after {X : Nat} {v : Value} {w w1 w' : World} (h : Saw X v w1 w') (hb : Below w.heap.size w w1) (hX : X ≤ w.heap.size) : Saw X v w w' :=
  ⟨(hb.mono hX).trans h.below, fun b h1 h2 h3 => (h.but b (Nat.lt_of_lt_of_le h1 hb.size) h2 h3).trans (hb.block b h1)⟩
def SawPost (T X : Nat) (pa : Option Addr) (pc : Nat) (P : List Int) (k : Nat) (v : Value) (out : List (List Int)) (w : World) (e : Ending) (w' : World) : Prop :=
  (¬ (64 < k ∨ 16 < P.length) ∧ e = .returned (.tuple #[]) ∧ ∃ v', PSt w' T X pa pc P k v' (out ++ [P]) ∧ Saw X v w w') ∨ ((64 < k ∨ 16 < P.length) ∧ ∃ c a cc, e = lostG c a P.length cc (k : Int) ∧ c ≠ 0 ∧ Below w.heap.size w w')
set_option maxHeartbeats 8000000 in
set_option maxRecDepth 20000 in
theorem saw_any (T X : Nat) (pa : Option Addr) (pc : Nat) (P : List Int) (k : Nat) (v : Value) (out : List (List Int)) (hP : P.length ≤ 1000) (hk : k ≤ 1000000) (hol : out.length ≤ 64) (sv : Value) (o : Own) (aj : Option Addr) (m cj : Nat) (w : World) (h : PSt w T X pa pc P k v out) :
    Calls Tryz.prog 39 #[sv, fV o aj m cj, .pointer (some ⟨T, 0, none⟩), .pointer (some ⟨X, 0, none⟩)] w (SawPost T X pa pc P k v out w) := by
  have hb1 := (Below.refl w.heap.size w).alloc (Nat.le_refl _) (.cells (cellsF o aj m cj) 48)
  have h1 := h.old hb1
  have hr := needRoom_p T pa pc P k hP hk (w.alloc (.cells (cellsF o aj m cj) 48)) h1.tour
  have HB1 : Hid (Below w.heap.size w (w.alloc (.cells (cellsF o aj m cj) 48))) := hb1
  obtain ⟨code, hcd⟩ : ∃ code, (if 64 < k then (116 : Int) else if 16 < P.length then 114 else 0) = code := ⟨_, rfl⟩
  have HCD : Hid ((if 64 < k then (116 : Int) else if 16 < P.length then 114 else 0) = code) := hcd
  rw [hcd] at hr
  clear hcd
  have HS : Hid (PSt w T X pa pc P k v out) := h
  clear h h1 hb1
  unfold fV
  unfold cellsF at hr HB1
  go_enter Tryz.func39, Tryz.ntmps39
  go_wp2_with fail
  refine hr.mono ?_
  clear hr
  generalize w.alloc _ = w1 at HB1
  rintro e w2 (⟨hc0, rfl, hb2⟩ | ⟨hcn, a, cc, he, -, hb2⟩)
  rotate_left
  · have hbad : 64 < k ∨ 16 < P.length := by
      by_cases h1 : 64 < k
      · exact .inl h1
      · by_cases h2 : 16 < P.length
        · exact .inr h2
        · have q := HCD.out; rw [if_neg h1, if_neg h2] at q; exact absurd q.symm hcn
    have HB2 : Hid (Below w.heap.size w w2) := HB1.out.trans (hb2.mono HB1.out.size)
    unfold lostG at he
    subst he
    clear hb2 HB1 HS
    go_wp2
    exact ⟨rfl, .inr ⟨hbad, _, a, cc, rfl, hcn, HB2.out⟩⟩
  have hok : ¬ (64 < k ∨ 16 < P.length) := by
    rintro (h1 | h2)
    · have q := HCD.out; rw [if_pos h1, hc0] at q; cases q
    · by_cases h1 : 64 < k
      · have q := HCD.out; rw [if_pos h1, hc0] at q; cases q
      · have q := HCD.out; rw [if_neg h1, if_pos h2, hc0] at q; cases q
  have HOK : Hid (¬ (64 < k ∨ 16 < P.length)) := hok
  have HB2 : Hid (Below w.heap.size w w2) := HB1.out.trans (hb2.mono HB1.out.size)
  have HS2 : Hid (PSt w2.drew T X pa pc P k v out) := HS.out.old HB2.out.drew
  have HB2d : Hid (Below w.heap.size w w2.drew) := HB2.out.drew
  have x2 : w2.cell? ⟨X, 0, none⟩ = some v := HS2.out.box.cell 0
  have x2d : w2.drew.cell? ⟨X, 0, none⟩ = some v := x2
  have hh := here_p T pa pc P k hP w2.drew HS2.out.tour
  clear hb2 HB1 hc0 hok
  go_upto_region 2 with fail
  refine wp_region_held_drew (S := fun x => True) (by kernel_rfl) (trivial) (fun hHelda => ?_)
  refine wpAnyH_ready (rs := [0, 1]) (by kernel_rfl) (by simp) ?_
  refine AllReadyH.cons rfl (fun K hK => ?_) (AllReadyH.cons rfl (fun K hK => ?_) AllReadyH.nil)
  · skip
    go_simp
    refine hK.out _ _ trivial (fun hH1 => ?_)
    clear hK K
    try simp only [Act.put, List.setIfInBounds_toArray, List.set_cons_zero, List.set_cons_succ]
    refine wpAnyH_ready (rs := [1]) (by kernel_rfl) (by simp) ?_
    refine AllReadyH.cons rfl (fun K hK => ?_) AllReadyH.nil
    go_simp
    go_wp2_with (go_at_call 41; refine hh.mono ?_; rintro e y3 ⟨ha, hc, rfl, ho, hb3⟩)
    obtain ⟨vs, hrow, hvs, hap, hpa⟩ := HS2.out.rows
    have hbA := hb3.alloc hb3.size (.cells #[.slice ha P.length hc] 29)
    have hvl : vs.length = out.length := by have := hrow.1; omega
    have hnb := Blk.new y3 29 #[.slice ha P.length hc]
    obtain ⟨v5, w5, hr5, ho5, hg5, hat5⟩ := run_append_rowI (y3.alloc (.cells #[.slice ha P.length hc] 29)) (T + 1) v vs (by rw [hvl]; exact own_after hrow hbA) ha P.length hc ⟨y3.heap.size, 0, none⟩ 1 (hnb.cell 0) (by omega) (by have := HS2.out.tour.blk.lt; have := hbA.size; omega) 52
    obtain ⟨xa5, xc5, rfl⟩ := row_val ho5
    have HPU : Hid _ := HS2.out.push hb3 ho vs hrow hvs hap hpa ho5 hg5 hat5
    have x3 : y3.cell? ⟨X, 0, none⟩ = some v := (HS2.out.old hb3).box.cell 0
    have xA : (y3.alloc (.cells #[.slice ha P.length hc] 29)).cell? ⟨X, 0, none⟩ = some v := (HS2.out.old hbA).box.cell 0
    have hX5 : Blk w5 X 52 #[v] := (hg5.block X (HS2.out.old hbA).box.lt (fun e => by have := HS2.out.vge X e.symm; have := HS2.out.lt; omega)).trans (HS2.out.old hbA).box
    have x5 : w5.cell? ⟨X, 0, none⟩ = some v := hX5.cell 0
    have f5 : w5.frozen? ⟨X, 0, none⟩ = false := hX5.frozen 0
    clear hrow hvs hap hpa hbA hvl hnb ho5 hg5 hat5 hX5 hb3 ho hh
    refine hK.out _ _ trivial (fun hH2 => ?_)
    clear hK K
    try simp only [Act.put, List.setIfInBounds_toArray, List.set_cons_zero, List.set_cons_succ]
    refine wpAnyH_ready (rs := [2]) (by kernel_rfl) (by simp) ?_
    refine AllReadyH.cons rfl (fun K hK => ?_) AllReadyH.nil
    go_simp
    refine hK.out _ _ trivial (fun hH3 => ?_)
    clear hK K
    try simp only [Act.put, List.setIfInBounds_toArray, List.set_cons_zero, List.set_cons_succ]
    refine wpAnyH_ready (rs := [3]) (by kernel_rfl) (by simp) ?_
    refine AllReadyH.cons rfl (fun K hK => ?_) AllReadyH.nil
    rw [if_pos (by kernel_rfl)]
    refine wp_append (.tmp 7) (.tmp 9) rfl rfl rfl hr5 (hK.out _ _ trivial (fun hH4 => ?_))
    clear hK K
    try simp only [Act.put, List.setIfInBounds_toArray]
    refine wpAnyH_ready (rs := [4]) (by kernel_rfl) (by simp) ?_
    refine AllReadyH.cons rfl (fun K hK => ?_) AllReadyH.nil
    go_simp
    refine hK.out _ _ trivial (fun hH5 => ?_)
    clear hK K
    try simp only [Act.put, List.setIfInBounds_toArray, List.set_cons_zero, List.set_cons_succ]
    refine wpAnyH_done (by kernel_rfl) ?_ _
    go_wp2_with fail
    go_end0
    exact .inl ⟨HOK.out, rfl, _, HPU.out.1, HPU.out.2.after HB2d.out (Nat.le_of_lt HS.out.box.lt)⟩
  · skip
    go_simp
    go_wp2_with (go_at_call 41; refine hh.mono ?_; rintro e y3 ⟨ha, hc, rfl, ho, hb3⟩)
    obtain ⟨vs, hrow, hvs, hap, hpa⟩ := HS2.out.rows
    have hbA := hb3.alloc hb3.size (.cells #[.slice ha P.length hc] 29)
    have hvl : vs.length = out.length := by have := hrow.1; omega
    have hnb := Blk.new y3 29 #[.slice ha P.length hc]
    obtain ⟨v5, w5, hr5, ho5, hg5, hat5⟩ := run_append_rowI (y3.alloc (.cells #[.slice ha P.length hc] 29)) (T + 1) v vs (by rw [hvl]; exact own_after hrow hbA) ha P.length hc ⟨y3.heap.size, 0, none⟩ 1 (hnb.cell 0) (by omega) (by have := HS2.out.tour.blk.lt; have := hbA.size; omega) 52
    obtain ⟨xa5, xc5, rfl⟩ := row_val ho5
    have HPU : Hid _ := HS2.out.push hb3 ho vs hrow hvs hap hpa ho5 hg5 hat5
    have x3 : y3.cell? ⟨X, 0, none⟩ = some v := (HS2.out.old hb3).box.cell 0
    have xA : (y3.alloc (.cells #[.slice ha P.length hc] 29)).cell? ⟨X, 0, none⟩ = some v := (HS2.out.old hbA).box.cell 0
    have hX5 : Blk w5 X 52 #[v] := (hg5.block X (HS2.out.old hbA).box.lt (fun e => by have := HS2.out.vge X e.symm; have := HS2.out.lt; omega)).trans (HS2.out.old hbA).box
    have x5 : w5.cell? ⟨X, 0, none⟩ = some v := hX5.cell 0
    have f5 : w5.frozen? ⟨X, 0, none⟩ = false := hX5.frozen 0
    clear hrow hvs hap hpa hbA hvl hnb ho5 hg5 hat5 hX5 hb3 ho hh
    refine hK.out _ _ trivial (fun hH6 => ?_)
    clear hK K
    try simp only [Act.put, List.setIfInBounds_toArray, List.set_cons_zero, List.set_cons_succ]
    refine wpAnyH_ready (rs := [0, 2]) (by kernel_rfl) (by simp) ?_
    refine AllReadyH.cons rfl (fun K hK => ?_) (AllReadyH.cons rfl (fun K hK => ?_) AllReadyH.nil)
    · skip
      go_simp
      refine hK.out _ _ trivial (fun hH7 => ?_)
      clear hK K
      try simp only [Act.put, List.setIfInBounds_toArray, List.set_cons_zero, List.set_cons_succ]
      refine wpAnyH_ready (rs := [2]) (by kernel_rfl) (by simp) ?_
      refine AllReadyH.cons rfl (fun K hK => ?_) AllReadyH.nil
      go_simp
      refine hK.out _ _ trivial (fun hH8 => ?_)
      clear hK K
      try simp only [Act.put, List.setIfInBounds_toArray, List.set_cons_zero, List.set_cons_succ]
      refine wpAnyH_ready (rs := [3]) (by kernel_rfl) (by simp) ?_
      refine AllReadyH.cons rfl (fun K hK => ?_) AllReadyH.nil
      rw [if_pos (by kernel_rfl)]
      refine wp_append (.tmp 7) (.tmp 9) rfl rfl rfl hr5 (hK.out _ _ trivial (fun hH9 => ?_))
      clear hK K
      try simp only [Act.put, List.setIfInBounds_toArray]
      refine wpAnyH_ready (rs := [4]) (by kernel_rfl) (by simp) ?_
      refine AllReadyH.cons rfl (fun K hK => ?_) AllReadyH.nil
      go_simp
      refine hK.out _ _ trivial (fun hH10 => ?_)
      clear hK K
      try simp only [Act.put, List.setIfInBounds_toArray, List.set_cons_zero, List.set_cons_succ]
      refine wpAnyH_done (by kernel_rfl) ?_ _
      go_wp2_with fail
      go_end0
      exact .inl ⟨HOK.out, rfl, _, HPU.out.1, HPU.out.2.after HB2d.out (Nat.le_of_lt HS.out.box.lt)⟩
    · skip
      go_simp
      refine hK.out _ _ trivial (fun hH11 => ?_)
      clear hK K
      try simp only [Act.put, List.setIfInBounds_toArray, List.set_cons_zero, List.set_cons_succ]
      refine wpAnyH_ready (rs := [0]) (by kernel_rfl) (by simp) ?_
      refine AllReadyH.cons rfl (fun K hK => ?_) AllReadyH.nil
      go_simp
      refine hK.out _ _ trivial (fun hH12 => ?_)
      clear hK K
      try simp only [Act.put, List.setIfInBounds_toArray, List.set_cons_zero, List.set_cons_succ]
      refine wpAnyH_ready (rs := [3]) (by kernel_rfl) (by simp) ?_
      refine AllReadyH.cons rfl (fun K hK => ?_) AllReadyH.nil
      rw [if_pos (by kernel_rfl)]
      refine wp_append (.tmp 7) (.tmp 9) rfl rfl rfl hr5 (hK.out _ _ trivial (fun hH13 => ?_))
      clear hK K
      try simp only [Act.put, List.setIfInBounds_toArray]
      refine wpAnyH_ready (rs := [4]) (by kernel_rfl) (by simp) ?_
      refine AllReadyH.cons rfl (fun K hK => ?_) AllReadyH.nil
      go_simp
      refine hK.out _ _ trivial (fun hH14 => ?_)
      clear hK K
      try simp only [Act.put, List.setIfInBounds_toArray, List.set_cons_zero, List.set_cons_succ]
      refine wpAnyH_done (by kernel_rfl) ?_ _
      go_wp2_with fail
      go_end0
      exact .inl ⟨HOK.out, rfl, _, HPU.out.1, HPU.out.2.after HB2d.out (Nat.le_of_lt HS.out.box.lt)⟩
theorem PSt.other {w w' : World} {T X : Nat} {pa pa' : Option Addr} {pc pc' : Nat} {P P' : List Int} {k k' : Nat} {v : Value} {out : List (List Int)} (h : PSt w T X pa pc P k v out) (ht : TourP (sawV T X) w' T pa' pc' P' k') (hs : ∀ b, b < w.heap.size → b ≠ T → (Value.slice pa P.length pc).ownBlock ≠ some b → w'.heap[b]? = w.heap[b]?) (ha : ∀ b, (Value.slice pa' P'.length pc').ownBlock = some b → (Value.slice pa P.length pc).ownBlock = some b ∨ w.heap.size ≤ b) : PSt w' T X pa' pc' P' k' v out := by
  obtain ⟨vs, h1, h2, h3, h4⟩ := h.rows
  have hlt := h.lt
  have hmem : ∀ {i : Nat} {u : Value}, vs[i]? = some u → u ∈ vs := fun hi => List.mem_of_getElem? hi
  refine ⟨h.lt, ht, (hs X h.box.lt (by omega) (fun e => by have := (own_ge h.tour.own e).1; omega)).trans h.box, vs, ?_, fun i hi => ?_, h3, fun u hu => ?_⟩
  · exact own_other h1 (fun b hb => hs b (own_lt h1 b hb) (by have := (own_ge h1 hb).1; omega) (fun e => apt_types h1 h.tour.own (by decide) b hb e))
  · obtain ⟨u, q1, q2⟩ := h2 i hi
    exact ⟨u, q1, own_other q2 (fun b hb => hs b (own_lt q2 b hb) (by have := (own_ge q2 hb).1; omega) (fun e => h4 u (hmem q1) b e hb))⟩
  · intro b hb hub
    rcases ha b hb with e | e
    · exact h4 u hu b e hub
    · obtain ⟨i, hi, rfl⟩ := List.mem_iff_getElem.1 hu
      have hio : i < out.length := by have := h1.1; omega
      obtain ⟨u2, q1, q2⟩ := h2 i hio
      rw [List.getElem?_eq_getElem hi] at q1
      cases q1
      have := own_lt q2 b hub
      omega
structure Mvd (X T : Nat) (w w' : World) : Prop where
  below : Below X w w'
  mid : ∀ b, X < b → b < T → w'.heap[b]? = w.heap[b]?
theorem Mvd.trans {X T : Nat} {a b c : World} (h : Mvd X T a b) (k : Mvd X T b c) : Mvd X T a c := ⟨h.below.trans k.below, fun x h1 h2 => (k.mid x h1 h2).trans (h.mid x h1 h2)⟩
theorem Mvd.of {X T : Nat} {a b : World} (h : Below T a b) (hX : X ≤ T) : Mvd X T a b := ⟨h.mono hX, fun x _ h2 => h.block x h2⟩
theorem Saw.mvd {X T : Nat} {v : Value} {a b : World} (h : Saw X v a b) (hv : ∀ g, v.ownBlock = some g → T + 1 ≤ g) (hT : T ≤ a.heap.size) : Mvd X T a b := ⟨h.below, fun x h1 h2 => h.but x (by omega) (by omega) (fun e => by have := hv x e; omega)⟩
def GoPth (R : Option (List (List Int))) (T X : Nat) (P : List Int) (w : World) (e : Ending) (w' : World) : Prop := Mvd X T w w' ∧ match R with
  | some o2 => e = .returned (.tuple #[]) ∧ ∃ pa pc v, PSt w' T X pa pc P o2.length v o2
  | none => ∃ c a n cc m, e = lostG c a n cc m ∧ c ≠ 0
def GoPk (l : List Fld) : Prop := ∀ (T X : Nat) (pa : Option Addr) (pc : Nat) (P : List Int) (out : List (List Int)) (v : Value) (aa : Option Addr) (ca lo n₀ : Nat) (w : World), P.length ≤ 16 → out.length ≤ 64 → l.length ≤ ca → (∀ x ∈ l, FitsF 67108864 x) → l.length ≤ 67108864 → n₀ ≤ X → PSt w T X pa pc P out.length v out → FIn w lo n₀ l aa →
    Calls Tryz.prog 42 #[.pointer (some ⟨T, 0, none⟩), .slice aa l.length ca] w (GoPth (pathsF P 0 out l) T X P w)
set_option maxHeartbeats 8000000 in
set_option maxRecDepth 20000 in
theorem gop_step (l : List Fld) (ih : ∀ x ∈ l, GoPk x.fields) : GoPk l := by
  intro T X pa pc P out v aa ca lo n₀ w hP ho64 hca hfit hll hn₀ h hin
  have hXT := h.lt
  obtain ⟨c0, c1, c2, f0, f1, hT⟩ := h.tour.cells
  obtain ⟨R, hR⟩ : ∃ R, pathsF P 0 out l = R := ⟨_, rfl⟩
  rw [hR]
  have HR : Hid (R = pathsF P 0 out (l.drop 0)) := hR.symm
  clear hR
  have hb1 := (Below.refl w.heap.size w).alloc (Nat.le_refl _) (.cells #[.int .i64 0] 3)
  have hs1 := alloc_size w (.cells #[.int .i64 0] 3)
  have hown1 : IOwn (w.alloc (.cells #[.int .i64 0] 3)) (T + 1) (.slice pa P.length pc) P := own_after h.tour.own hb1
  have hB1 := h.tour.blk.old hb1
  have h1 := h.old hb1
  have HH1 : Hid (PSt (w.alloc (.cells #[.int .i64 0] 3)) T X pa pc P out.length v out) := h1
  have HC : Hid (∀ j, j < ([0] : List Int).length → (w.alloc (.cells #[.int .i64 0] 3)).cell? ((⟨w.heap.size, 0, none⟩ : Addr).add j) = some (.int .i64 (([0] : List Int)[j]?.getD 0))) := cell_zero w
  have hlen : P.length + ([0] : List Int).length ≤ 1099511627776 := by simp; omega
  have hbase : T + 1 ≤ (w.alloc (.cells #[.int .i64 0] 3)).heap.size := by rw [hs1]; omega
  have hne : some T ≠ (Value.slice pa P.length pc).ownBlock := fun e => by
    have := (own_ge h.tour.own e.symm).1
    omega
  have HTL : Hid (T < (w.alloc (.cells #[.int .i64 0] 3)).heap.size) := by show _ < _; rw [hs1]; omega
  obtain ⟨k, hk⟩ : ∃ k, out.length = k := ⟨_, rfl⟩
  have HK : Hid (out.length = k) := hk
  rw [hk] at c1 hB1 HH1
  clear h h1 hk
  go_enter Tryz.func42, Tryz.ntmps42
  go_upto_region 1 with (first | (at_builtin; refine wpList_append_ints rfl _ _ rfl (T + 1) _ P rfl hown1 [0] ⟨w.heap.size, 0, none⟩ 1 rfl HC.out hlen hbase ?_; intro a4 c4 w4 hown4 hgr4 hnil4 hat4; have hB4 : Blk w4 T 85 #[.slice pa P.length pc, .int .i64 (k : Int), sawV T X] := (hgr4.block T HTL.out hne).trans hB1; have q0 := hB4.cell 0; have q1 := hB4.frozen 0))
  have h5 : PSt (w4.setCell ⟨T, 0, none⟩ (.slice a4 (P.length + 1) c4)) T X a4 c4 (P ++ [0]) k v out := by
    have ht : TourP (sawV T X) (w4.setCell ⟨T, 0, none⟩ (.slice a4 (P.length + 1) c4)) T a4 c4 (P ++ [0]) k := by
      have := TourP.path (_w := w) hB4 (pa' := a4) (pc' := c4) (P' := P ++ [0]) (by simpa using hown4)
      simpa using this
    refine HH1.out.other ht (fun b hb1 hb2 hb3 => (Below.heap_setCell w4 ⟨T, 0, none⟩ _ b hb2).trans (hgr4.block b hb1 (fun e => hb3 e.symm))) (fun b hb => ?_)
    have hb' : (Value.slice a4 (P.length + 1) c4).ownBlock = some b := by simpa using hb
    rcases hat4 with e | e
    · exact .inl (e.symm.trans hb')
    · have e2 : some b = some (w.alloc (.cells #[.int .i64 0] 3)).heap.size := hb'.symm.trans e
      simp only [Option.some.injEq] at e2
      exact .inr (by omega)
  have hb4 : Below T w w4 := (hb1.mono (by omega)).grown hgr4 (by omega) (fun j hj => by have := (own_ge hown1 hj).1; omega)
  have hb5 : Below T w (w4.setCell ⟨T, 0, none⟩ (.slice a4 (P.length + 1) c4)) := hb4.setCell (p := ⟨T, 0, none⟩) (Nat.le_refl _) _
  try simp only [List.length_cons, List.length_nil, Nat.zero_add]
  generalize w4.setCell ⟨T, 0, none⟩ (.slice a4 (P.length + 1) c4) = w5 at h5 hb5 ⊢
  obtain ⟨g, rfl, hTg, hgl, hpc, hlast, hfr⟩ := h5.tour.some
  obtain ⟨d0, d1, d2, e0, e1, hT5⟩ := h5.tour.cells
  simp only [List.length_append, List.length_cons, List.length_nil, Nat.zero_add] at d0
  clear c0 c1 c2 f0 f1 q0 q1 hB4 hown4 hgr4 hnil4 hat4 hown1 hB1 HC hlen hbase hne HTL hb1 hs1 HH1
  have HM5 : Hid (Mvd X T w w5) := Mvd.of hb5 (by omega)
  have H5 : Hid (PSt w5 T X (some ⟨g, 0, none⟩) c4 (P ++ [0]) k v out) := h5
  go_upto_region 3 with fail
  go_loopw [24] (fun i wr => ∃ (j k' g pc' : Nat) (x : Int) (o2 : List (List Int)) (v' : Value), j ≤ l.length ∧ i = .int .i64 j ∧ k' ≤ 64 ∧ Hid (k' = o2.length) ∧ Hid (PSt wr T X (some ⟨g, 0, none⟩) pc' (P ++ [x]) k' v' o2) ∧ Hid (R = pathsF P j o2 (l.drop j)) ∧ Hid (Mvd X T w wr)) (fun i _ => l.length - (intOf i).toNat)
  case atStart => exact ⟨0, k, g, c4, 0, out, v, by omega, rfl, by rw [← HK.out]; exact ho64, HK.out.symm, H5.out, HR.out, HM5.out⟩
  case round =>
    clear HR h5 hb5 d0 d1 d2 e0 e1 hT5 hlast hfr hTg hgl hpc HM5 H5 hb4
    obtain ⟨j, k', g, pc', x0, o2, v', hj, rfl, hk', HKO, HPS, HR, HMV⟩ := hrel
    by_cases hlt : j < l.length
    · obtain ⟨bb, off, aj, cj, ha, _, hbn, hrow, hinj, hcj⟩ := (hin.keep HMV.out.below hn₀).atC hlt
      subst ha
      obtain ⟨r0, r1, r2, r3, r4, r5, r6, r7, r8, r9, r10, r11, r12, r13⟩ := hrow
      have hfj := hfit _ (List.getElem_mem hlt)
      have hihj := ih _ (List.getElem_mem hlt)
      have HX : Hid (l.drop j = l[j] :: l.drop (j + 1)) := List.drop_eq_getElem_cons hlt
      obtain ⟨fx, hx⟩ : ∃ fx, l[j] = fx := ⟨_, rfl⟩
      rw [hx] at r0 r1 r2 r3 r4 r5 r6 r7 r8 r9 r10 r11 r12 r13 hfj hihj HX hinj hcj
      have HIH : Hid (GoPk fx.fields) := hihj
      have HFJ : Hid (FitsF 67108864 fx) := hfj
      have HIN : Hid (FIn wr lo n₀ fx.fields aj) := hinj
      obtain ⟨m, hm⟩ : ∃ m, fx.fields.length = m := ⟨_, rfl⟩
      have HM : Hid (fx.fields.length = m) := hm
      rw [hm] at r13 hcj
      have hb1 := (Below.refl wr.heap.size wr).alloc (Nat.le_refl _) (.cells #[.string fx.own.name, .int .u8 fx.own.kind, .bool fx.own.down, .int .u8 fx.own.nulls, .bool fx.own.bnd, .bool fx.own.ln, .string fx.own.lm, .bool fx.own.hn, .string fx.own.hm, .int .i64 fx.own.most, .int .i64 fx.own.str, .bool fx.own.shf, .bool fx.own.bck, .slice aj m cj] 48)
      have hN1 := Blk.new wr 48 #[.string fx.own.name, .int .u8 fx.own.kind, .bool fx.own.down, .int .u8 fx.own.nulls, .bool fx.own.bnd, .bool fx.own.ln, .string fx.own.lm, .bool fx.own.hn, .string fx.own.hm, .int .i64 fx.own.most, .int .i64 fx.own.str, .bool fx.own.shf, .bool fx.own.bck, .slice aj m cj]
      have H1 := HPS.out.old hb1
      have hF : T < wr.heap.size := HPS.out.tour.blk.lt
      clear hx hihj hfj hinj hm
      go_upto_region 5 with fail
      clear r0 r1 r2 r3 r4 r5 r6 r7 r8 r9 r10 r11 r12 r13
      have hz1 : (wr.alloc (.cells #[.string fx.own.name, .int .u8 fx.own.kind, .bool fx.own.down, .int .u8 fx.own.nulls, .bool fx.own.bnd, .bool fx.own.ln, .string fx.own.lm, .bool fx.own.hn, .string fx.own.hm, .int .i64 fx.own.most, .int .i64 fx.own.str, .bool fx.own.shf, .bool fx.own.bck, .slice aj m cj] 48)).heap.size = wr.heap.size + 1 := by simp
      generalize wr.alloc (.cells #[.string fx.own.name, .int .u8 fx.own.kind, .bool fx.own.down, .int .u8 fx.own.nulls, .bool fx.own.bnd, .bool fx.own.ln, .string fx.own.lm, .bool fx.own.hn, .string fx.own.hm, .int .i64 fx.own.most, .int .i64 fx.own.str, .bool fx.own.shf, .bool fx.own.bck, .slice aj m cj] 48) = w1 at hb1 hN1 H1 hz1 ⊢
      obtain ⟨hT1, _⟩ := H1.tour.last (j : Int)
      obtain ⟨_, hge, hTg, hgl, hpc, hlast, hfr⟩ := H1.tour.some
      cases hge
      obtain ⟨d0, d1, d2, e0, e1, hTl⟩ := H1.tour.cells
      simp only [List.length_append, List.length_cons, List.length_nil, Nat.zero_add] at d0
      have H2 : PSt (w1.setCell ⟨g, P.length, none⟩ (.int .i64 (j : Int))) T X (some ⟨g, 0, none⟩) pc' (P ++ [(j : Int)]) k' v' o2 := H1.other hT1 (fun b _ hb2 hb3 => Below.heap_setCell w1 ⟨g, P.length, none⟩ _ b (fun e => hb3 (by rw [show b = g from e]; rfl))) (fun b hb => .inl (by simpa using hb))
      have H3 : PSt ((w1.setCell ⟨g, P.length, none⟩ (.int .i64 (j : Int))).setCell ⟨T, 1, none⟩ (.int .i64 ((k' : Int) + 1))) T X (some ⟨g, 0, none⟩) pc' (P ++ [(j : Int)]) (k' + 1) v' o2 := H2.other (H2.tour.count (k' + 1)) (fun b _ hb2 _ => Below.heap_setCell _ ⟨T, 1, none⟩ _ b hb2) (fun b hb => .inl hb)
      have hb3 : Below T wr ((w1.setCell ⟨g, P.length, none⟩ (.int .i64 (j : Int))).setCell ⟨T, 1, none⟩ (.int .i64 ((k' : Int) + 1))) := ((show Below T wr w1 from hb1.mono (by omega)).setCell (p := ⟨g, P.length, none⟩) (by show T ≤ g; omega) _).setCell (p := ⟨T, 1, none⟩) (Nat.le_refl _) _
      have hFg : wr.heap.size ≠ g := fun e => by
        have h1 := hN1
        rw [e] at h1
        obtain ⟨_, cs, f, hh⟩ := own_ge H1.tour.own (j := g) rfl
        rw [show w1.heap[g]? = _ from h1] at hh
        cases hh
      have hN3 := (hN1.other (p := ⟨g, P.length, none⟩) hFg (.int .i64 (j : Int))).other (p := ⟨T, 1, none⟩) (by show wr.heap.size ≠ T; omega) (.int .i64 ((k' : Int) + 1))
      have hz3 : ((w1.setCell ⟨g, P.length, none⟩ (.int .i64 (j : Int))).setCell ⟨T, 1, none⟩ (.int .i64 ((k' : Int) + 1))).heap.size = w1.heap.size := by simp [World.setCell]
      go_upto_region 7 with fail
      clear d0 d1 d2 e0 e1 hlast hfr hT1
      generalize (w1.setCell ⟨g, P.length, none⟩ (.int .i64 (j : Int))).setCell ⟨T, 1, none⟩ (.int .i64 ((k' : Int) + 1)) = w3 at H3 hb3 hN3 hz3 ⊢
      have hpl : (P ++ [(j : Int)]).length = P.length + 1 := by simp
      have HS3 : Hid (PSt w3.drew T X (some ⟨g, 0, none⟩) pc' (P ++ [(j : Int)]) (k' + 1) v' o2) := H3.old (Below.refl _ w3).drew
      have HN3 : Hid (Blk w3.drew wr.heap.size 48 #[.string fx.own.name, .int .u8 fx.own.kind, .bool fx.own.down, .int .u8 fx.own.nulls, .bool fx.own.bnd, .bool fx.own.ln, .string fx.own.lm, .bool fx.own.hn, .string fx.own.hm, .int .i64 fx.own.most, .int .i64 fx.own.str, .bool fx.own.shf, .bool fx.own.bck, .slice aj m cj]) := hN3
      have HMV3 : Hid (Mvd X T w w3.drew) := HMV.out.trans (Mvd.of hb3.drew (by omega))
      have HF3 : Hid (FIn w3.drew lo n₀ fx.fields aj) := HIN.out.keep (hb3.drew.mono (by omega)) (Nat.le_refl _) |> fun q => q
      have hsaw := saw_any T X (some ⟨g, 0, none⟩) pc' (P ++ [(j : Int)]) (k' + 1) v' o2 (by rw [hpl]; omega) (by omega) (by rw [← HKO.out]; exact hk') (.slice (some ⟨bb, off, none⟩) j ca) fx.own aj m cj w3.drew HS3.out
      unfold fV at hsaw
      have HS0 : Hid (w3.drew.cell? ⟨T, 2, none⟩ = some (sawV T X) ∧ Blk w3.drew wr.heap.size 48 #[.string fx.own.name, .int .u8 fx.own.kind, .bool fx.own.down, .int .u8 fx.own.nulls, .bool fx.own.bnd, .bool fx.own.ln, .string fx.own.lm, .bool fx.own.hn, .string fx.own.hm, .int .i64 fx.own.most, .int .i64 fx.own.str, .bool fx.own.shf, .bool fx.own.bck, .slice aj m cj]) := ⟨HS3.out.tour.cells.2.2.1, hN3⟩
      have hjc : j ≤ ca := by omega
      have hjc' : (j : Int) ≤ (ca : Int) := by omega
      have HGb : Hid ((64 < k' + 1 ∨ 16 < P.length + 1) → R = none) := fun hc => by
        have q := HR.out
        rw [HX.out, pathsF_stop (by rw [← HKO.out]; exact hc)] at q
        exact q
      have HGn : Hid (¬ (64 < k' + 1 ∨ 16 < P.length + 1) → pathsF (P ++ [(j : Int)]) 0 (o2 ++ [P ++ [(j : Int)]]) fx.fields = none → R = none) := fun hc hn => by
        have q := HR.out
        rw [HX.out, pathsF_none (by rw [← HKO.out]; exact hc) hn] at q
        exact q
      have HGs : Hid (¬ (64 < k' + 1 ∨ 16 < P.length + 1) → ∀ q, pathsF (P ++ [(j : Int)]) 0 (o2 ++ [P ++ [(j : Int)]]) fx.fields = some q → R = pathsF P (j + 1) q (l.drop (j + 1))) := fun hc r hn => by
        have q := HR.out
        rw [HX.out, pathsF_some (by rw [← HKO.out]; exact hc) hn] at q
        exact q
      have hT3 : T < w3.drew.heap.size := HS3.out.tour.blk.lt
      clear HR HX H1 H2 H3 hb1 hN1 hN3 hz1 hz3 hFg hb3 HIN hgl hTl
      unfold sawV at HS0
      by_cases hroom : 64 < k' + 1 ∨ 16 < P.length + 1
      · have hsaw1 : Calls Tryz.prog 39 _ w3.drew fun e y8 => ∃ c a cc, e = .panicked [{ v := lostF c a (P ++ [(j : Int)]).length cc ((k' + 1 : Nat) : Int), recovered := false }] ∧ c ≠ 0 ∧ Below w3.drew.heap.size w3.drew y8 := hsaw.mono fun e y8 hq => by
          rcases hq with ⟨hn, _⟩ | ⟨_, c, a, cc, q1, q2, q3⟩
          · exact absurd (by rw [hpl]; exact hroom) hn
          · exact ⟨c, a, cc, q1, q2, q3⟩
        have hRn : R = none := HGb.out hroom
        clear hsaw HGn HGs
        refine wp_region_held_drew (S := fun x => (x.cell? ⟨T, 2, none⟩ = some (.func (.func 39) #[] #[.pointer (some ⟨T, 0, none⟩), .pointer (some ⟨X, 0, none⟩)]) ∧ Blk x wr.heap.size 48 #[.string fx.own.name, .int .u8 fx.own.kind, .bool fx.own.down, .int .u8 fx.own.nulls, .bool fx.own.bnd, .bool fx.own.ln, .string fx.own.lm, .bool fx.own.hn, .string fx.own.hm, .int .i64 fx.own.most, .int .i64 fx.own.str, .bool fx.own.shf, .bool fx.own.bck, .slice aj m cj])) (by kernel_rfl) (HS0.out) (fun hHelda => ?_)
        refine wpAnyH_takeD (i := 0) (some 43) (v := .pointer (some ⟨T, 0, none⟩)) rfl rfl (by kernel_rfl) (by kernel_rfl) (by kernel_rfl) (fun _ _ _ h => h) (Or.inl ⟨by kernel_rfl, ?hya0⟩) (by assumption) ?resta0
        case hya0 => (intro x hSx; (try dsimp only at hSx); go_simp; first | done | with_reducible rfl)
        try simp only [Act.put, List.setIfInBounds_toArray, List.set_cons_zero, List.set_cons_succ]
        refine wpAnyH_takeD (i := 1) (some 44) (v := .pointer (some ⟨T, 0, none⟩)) rfl rfl (by kernel_rfl) (by kernel_rfl) (by kernel_rfl) (fun _ _ _ h => h) (Or.inl ⟨by kernel_rfl, ?hya1⟩) (by assumption) ?resta1
        case hya1 => (intro x hSx; (try dsimp only at hSx); go_simp; first | done | with_reducible rfl)
        try simp only [Act.put, List.setIfInBounds_toArray, List.set_cons_zero, List.set_cons_succ]
        refine wpAnyH_takeD (i := 2) (some 45) (v := .pointer (some ⟨T, 2, none⟩)) rfl rfl (by kernel_rfl) (by kernel_rfl) (by kernel_rfl) (fun _ _ _ h => h) (Or.inl ⟨by kernel_rfl, ?hya2⟩) (by assumption) ?resta2
        case hya2 => (intro x hSx; (try dsimp only at hSx); go_simp; first | done | with_reducible rfl)
        try simp only [Act.put, List.setIfInBounds_toArray, List.set_cons_zero, List.set_cons_succ]
        refine wpAnyH_takeD (i := 3) (some 46) (v := .func (.func 39) #[] #[.pointer (some ⟨T, 0, none⟩), .pointer (some ⟨X, 0, none⟩)]) rfl rfl (by kernel_rfl) (by kernel_rfl) (by kernel_rfl) (fun _ _ _ h => h) (Or.inl ⟨by kernel_rfl, ?hya3⟩) (by assumption) ?resta3
        case hya3 => (intro x hSx; (try dsimp only at hSx); obtain ⟨hS2, hSN⟩ := hSx; obtain ⟨p0, p1, p2, p3, p4, p5, p6, p7, p8, p9, p10, p11, p12, p13⟩ := hSN.c14; go_simp; first | done | with_reducible rfl)
        try simp only [Act.put, List.setIfInBounds_toArray, List.set_cons_zero, List.set_cons_succ]
        refine wpAnyH_takeD (i := 4) (some 47) (v := .slice (some ⟨bb, off, none⟩) l.length ca) rfl rfl (by kernel_rfl) (by kernel_rfl) (by kernel_rfl) (fun _ _ _ h => h) (Or.inl ⟨by kernel_rfl, ?hya4⟩) (by assumption) ?resta4
        case hya4 => (intro x hSx; (try dsimp only at hSx); go_simp; first | done | with_reducible rfl)
        try simp only [Act.put, List.setIfInBounds_toArray, List.set_cons_zero, List.set_cons_succ]
        refine wpAnyH_takeD (i := 5) (some 48) (v := .int .i64 (j : Int)) rfl rfl (by kernel_rfl) (by kernel_rfl) (by kernel_rfl) (fun _ _ _ h => h) (Or.inl ⟨by kernel_rfl, ?hya5⟩) (by assumption) ?resta5
        case hya5 => (intro x hSx; (try dsimp only at hSx); go_simp; first | done | with_reducible rfl)
        try simp only [Act.put, List.setIfInBounds_toArray, List.set_cons_zero, List.set_cons_succ]
        refine wpAnyH_takeD (i := 6) (some 49) (v := .slice (some ⟨bb, off, none⟩) j ca) rfl rfl (by kernel_rfl) (by kernel_rfl) (by kernel_rfl) (fun _ _ _ h => h) (Or.inl ⟨by kernel_rfl, ?hya6⟩) (by assumption) ?resta6
        case hya6 => (intro x hSx; (try dsimp only at hSx); go_simp; first | done | with_reducible rfl)
        try simp only [Act.put, List.setIfInBounds_toArray, List.set_cons_zero, List.set_cons_succ]
        refine wpAnyH_takeD (i := 7) (some 50) (v := .agg #[.string fx.own.name, .int .u8 fx.own.kind, .bool fx.own.down, .int .u8 fx.own.nulls, .bool fx.own.bnd, .bool fx.own.ln, .string fx.own.lm, .bool fx.own.hn, .string fx.own.hm, .int .i64 fx.own.most, .int .i64 fx.own.str, .bool fx.own.shf, .bool fx.own.bck, .slice aj m cj]) rfl rfl (by kernel_rfl) (by kernel_rfl) (by kernel_rfl) (fun _ _ _ h => h) (Or.inl ⟨by kernel_rfl, ?hya7⟩) (by assumption) ?resta7
        case hya7 => (intro x hSx; (try dsimp only at hSx); obtain ⟨hS2, hSN⟩ := hSx; obtain ⟨p0, p1, p2, p3, p4, p5, p6, p7, p8, p9, p10, p11, p12, p13⟩ := hSN.c14; go_simp; first | done | with_reducible rfl)
        try simp only [Act.put, List.setIfInBounds_toArray, List.set_cons_zero, List.set_cons_succ]
        refine wpAnyH_ready (rs := [8]) (by kernel_rfl) (by simp) ?_
        refine AllReadyH.cons rfl (fun K hK => ?_) AllReadyH.nil
        go_simp
        go_wp2_with (go_at_call 39; refine hsaw1.mono ?_; rintro e y8 ⟨cq, aq, ccq, he, hcq, hbq⟩)
        have HB8 : Hid (Mvd X T w y8) := HMV3.out.trans (Mvd.of (hbq.mono (Nat.le_of_lt hT3)) (by omega))
        cases he
        refine ⟨rfl, ?_⟩
        try rw [hRn]
        exact ⟨HB8.out, cq, aq, _, ccq, _, rfl, hcq⟩
      · have hsaw1 : Calls Tryz.prog 39 _ w3.drew fun e y8 => e = .returned (.tuple #[]) ∧ ∃ v8, PSt y8 T X (some ⟨g, 0, none⟩) pc' (P ++ [(j : Int)]) (k' + 1) v8 (o2 ++ [P ++ [(j : Int)]]) ∧ Saw X v' w3.drew y8 := hsaw.mono fun e y8 hq => by
          rcases hq with ⟨_, q1, v8, q2, q3⟩ | ⟨hn, _⟩
          · exact ⟨q1, v8, q2, q3⟩
          · exact absurd (by rw [hpl] at hn; exact hn) hroom
        clear hsaw HGb
        refine wp_region_held_drew (S := fun x => (x.cell? ⟨T, 2, none⟩ = some (.func (.func 39) #[] #[.pointer (some ⟨T, 0, none⟩), .pointer (some ⟨X, 0, none⟩)]) ∧ Blk x wr.heap.size 48 #[.string fx.own.name, .int .u8 fx.own.kind, .bool fx.own.down, .int .u8 fx.own.nulls, .bool fx.own.bnd, .bool fx.own.ln, .string fx.own.lm, .bool fx.own.hn, .string fx.own.hm, .int .i64 fx.own.most, .int .i64 fx.own.str, .bool fx.own.shf, .bool fx.own.bck, .slice aj m cj])) (by kernel_rfl) (HS0.out) (fun hHeldb => ?_)
        refine wpAnyH_takeD (i := 0) (some 43) (v := .pointer (some ⟨T, 0, none⟩)) rfl rfl (by kernel_rfl) (by kernel_rfl) (by kernel_rfl) (fun _ _ _ h => h) (Or.inl ⟨by kernel_rfl, ?hyb0⟩) (by assumption) ?restb0
        case hyb0 => (intro x hSx; (try dsimp only at hSx); go_simp; first | done | with_reducible rfl)
        try simp only [Act.put, List.setIfInBounds_toArray, List.set_cons_zero, List.set_cons_succ]
        refine wpAnyH_takeD (i := 1) (some 44) (v := .pointer (some ⟨T, 0, none⟩)) rfl rfl (by kernel_rfl) (by kernel_rfl) (by kernel_rfl) (fun _ _ _ h => h) (Or.inl ⟨by kernel_rfl, ?hyb1⟩) (by assumption) ?restb1
        case hyb1 => (intro x hSx; (try dsimp only at hSx); go_simp; first | done | with_reducible rfl)
        try simp only [Act.put, List.setIfInBounds_toArray, List.set_cons_zero, List.set_cons_succ]
        refine wpAnyH_takeD (i := 2) (some 45) (v := .pointer (some ⟨T, 2, none⟩)) rfl rfl (by kernel_rfl) (by kernel_rfl) (by kernel_rfl) (fun _ _ _ h => h) (Or.inl ⟨by kernel_rfl, ?hyb2⟩) (by assumption) ?restb2
        case hyb2 => (intro x hSx; (try dsimp only at hSx); go_simp; first | done | with_reducible rfl)
        try simp only [Act.put, List.setIfInBounds_toArray, List.set_cons_zero, List.set_cons_succ]
        refine wpAnyH_takeD (i := 3) (some 46) (v := .func (.func 39) #[] #[.pointer (some ⟨T, 0, none⟩), .pointer (some ⟨X, 0, none⟩)]) rfl rfl (by kernel_rfl) (by kernel_rfl) (by kernel_rfl) (fun _ _ _ h => h) (Or.inl ⟨by kernel_rfl, ?hyb3⟩) (by assumption) ?restb3
        case hyb3 => (intro x hSx; (try dsimp only at hSx); obtain ⟨hS2, hSN⟩ := hSx; obtain ⟨p0, p1, p2, p3, p4, p5, p6, p7, p8, p9, p10, p11, p12, p13⟩ := hSN.c14; go_simp; first | done | with_reducible rfl)
        try simp only [Act.put, List.setIfInBounds_toArray, List.set_cons_zero, List.set_cons_succ]
        refine wpAnyH_takeD (i := 4) (some 47) (v := .slice (some ⟨bb, off, none⟩) l.length ca) rfl rfl (by kernel_rfl) (by kernel_rfl) (by kernel_rfl) (fun _ _ _ h => h) (Or.inl ⟨by kernel_rfl, ?hyb4⟩) (by assumption) ?restb4
        case hyb4 => (intro x hSx; (try dsimp only at hSx); go_simp; first | done | with_reducible rfl)
        try simp only [Act.put, List.setIfInBounds_toArray, List.set_cons_zero, List.set_cons_succ]
        refine wpAnyH_takeD (i := 5) (some 48) (v := .int .i64 (j : Int)) rfl rfl (by kernel_rfl) (by kernel_rfl) (by kernel_rfl) (fun _ _ _ h => h) (Or.inl ⟨by kernel_rfl, ?hyb5⟩) (by assumption) ?restb5
        case hyb5 => (intro x hSx; (try dsimp only at hSx); go_simp; first | done | with_reducible rfl)
        try simp only [Act.put, List.setIfInBounds_toArray, List.set_cons_zero, List.set_cons_succ]
        refine wpAnyH_takeD (i := 6) (some 49) (v := .slice (some ⟨bb, off, none⟩) j ca) rfl rfl (by kernel_rfl) (by kernel_rfl) (by kernel_rfl) (fun _ _ _ h => h) (Or.inl ⟨by kernel_rfl, ?hyb6⟩) (by assumption) ?restb6
        case hyb6 => (intro x hSx; (try dsimp only at hSx); go_simp; first | done | with_reducible rfl)
        try simp only [Act.put, List.setIfInBounds_toArray, List.set_cons_zero, List.set_cons_succ]
        refine wpAnyH_takeD (i := 7) (some 50) (v := .agg #[.string fx.own.name, .int .u8 fx.own.kind, .bool fx.own.down, .int .u8 fx.own.nulls, .bool fx.own.bnd, .bool fx.own.ln, .string fx.own.lm, .bool fx.own.hn, .string fx.own.hm, .int .i64 fx.own.most, .int .i64 fx.own.str, .bool fx.own.shf, .bool fx.own.bck, .slice aj m cj]) rfl rfl (by kernel_rfl) (by kernel_rfl) (by kernel_rfl) (fun _ _ _ h => h) (Or.inl ⟨by kernel_rfl, ?hyb7⟩) (by assumption) ?restb7
        case hyb7 => (intro x hSx; (try dsimp only at hSx); obtain ⟨hS2, hSN⟩ := hSx; obtain ⟨p0, p1, p2, p3, p4, p5, p6, p7, p8, p9, p10, p11, p12, p13⟩ := hSN.c14; go_simp; first | done | with_reducible rfl)
        try simp only [Act.put, List.setIfInBounds_toArray, List.set_cons_zero, List.set_cons_succ]
        refine wpAnyH_ready (rs := [8]) (by kernel_rfl) (by simp) ?_
        refine AllReadyH.cons rfl (fun K hK => ?_) AllReadyH.nil
        go_simp
        go_wp2_with (go_at_call 39; refine hsaw1.mono ?_; rintro e y8 ⟨rfl, v8, hp8, hs8⟩)
        have HP8 : Hid (PSt y8 T X (some ⟨g, 0, none⟩) pc' (P ++ [(j : Int)]) (k' + 1) v8 (o2 ++ [P ++ [(j : Int)]])) := hp8
        have HS8 : Hid (Saw X v' w3.drew y8) := hs8
        have HN8 : Hid (Blk y8 wr.heap.size 48 #[.string fx.own.name, .int .u8 fx.own.kind, .bool fx.own.down, .int .u8 fx.own.nulls, .bool fx.own.bnd, .bool fx.own.ln, .string fx.own.lm, .bool fx.own.hn, .string fx.own.hm, .int .i64 fx.own.most, .int .i64 fx.own.str, .bool fx.own.shf, .bool fx.own.bck, .slice aj m cj]) := (hs8.but wr.heap.size HN3.out.lt (by omega) (fun e => by
          obtain ⟨vs, q1, _⟩ := HS3.out.rows
          obtain ⟨_, cs, f, q2⟩ := own_ge q1 e
          have q3 := q2.symm.trans (show w3.drew.heap[wr.heap.size]? = _ from HN3.out)
          cases q3)).trans HN3.out
        clear hp8 hs8
        refine hK.out _ _ ⟨HP8.out.tour.cells.2.2.1, HN8.out⟩ (fun hHeld8 => ?_)
        clear hK K
        try simp only [Act.put, List.setIfInBounds_toArray, List.set_cons_zero, List.set_cons_succ]
        refine wpAnyH_done (by kernel_rfl) ?_ _
        have HMV8 : Hid (Mvd X T w y8) := HMV3.out.trans (HS8.out.mvd HS3.out.vge (Nat.le_of_lt hT3))
        have hl8 : (o2 ++ [P ++ [(j : Int)]]).length = k' + 1 := by rw [List.length_append, ← HKO.out]; rfl
        have hih := HIH.out T X (some ⟨g, 0, none⟩) pc' (P ++ [(j : Int)]) (o2 ++ [P ++ [(j : Int)]]) v8 aj cj lo n₀ y8 (by rw [hpl]; omega) (by rw [hl8]; omega) (by rw [HM.out]; exact hcj) (fun z hz => HFJ.out.mem hz) HFJ.out.len hn₀ (by rw [hl8]; exact HP8.out) (HF3.out.keep HS8.out.below hn₀)
        rw [HM.out] at hih
        have p13 : y8.cell? ⟨wr.heap.size, 13, none⟩ = some (.slice aj m cj) := HN8.out.cell 13
        have HLE : Hid (∀ q, pathsF (P ++ [(j : Int)]) 0 (o2 ++ [P ++ [(j : Int)]]) fx.fields = some q → q.length ≤ 64) := fun q hq => pathsF_le (by rw [hl8]; omega) hq
        have HGn2 : Hid (pathsF (P ++ [(j : Int)]) 0 (o2 ++ [P ++ [(j : Int)]]) fx.fields = none → R = none) := HGn.out hroom
        have HGs2 : Hid (∀ q, pathsF (P ++ [(j : Int)]) 0 (o2 ++ [P ++ [(j : Int)]]) fx.fields = some q → R = pathsF P (j + 1) q (l.drop (j + 1))) := HGs.out hroom
        generalize pathsF (P ++ [(j : Int)]) 0 (o2 ++ [P ++ [(j : Int)]]) fx.fields = Q at hih HLE HGn2 HGs2
        clear hsaw1 HGn HGs HP8 HS8 HN8 HS3 HN3 HS0 HIH HFJ HF3 HMV3 hl8 hroom hHeldb
        go_wp2_with fail
        refine hih.mono ?_
        clear hih p13
        rintro e w9 ⟨hm9, hres⟩
        have HM9 : Hid (Mvd X T w w9) := HMV8.out.trans hm9
        cases Q with
        | some q =>
          obtain ⟨rfl, pa9, pc9, v9, hp9⟩ := hres
          obtain ⟨g9, rfl, _⟩ := hp9.tour.some
          have HP9 : Hid (PSt w9 T X (some ⟨g9, 0, none⟩) pc9 (P ++ [(j : Int)]) q.length v9 q) := hp9
          have hq64 := HLE.out q rfl
          have HR9 : Hid (R = pathsF P (j + 1) q (l.drop (j + 1))) := HGs2.out q rfl
          clear HLE HGn2 HGs2 hp9 hm9
          go_wp2_with fail
          go_roundw
          case rel => exact ⟨j + 1, q.length, g9, pc9, (j : Int), q, v9, by omega, by simp, hq64, rfl, HP9.out, HR9.out, HM9.out⟩
          case measure => simp only [intOf]; omega
        | none =>
          obtain ⟨cq, aq, nq, ccq, mq, he, hcq⟩ := hres
          have hRn : R = none := HGn2.out rfl
          unfold lostG at he
          subst he
          clear HLE HGn2 HGs2 hm9
          go_wp2
          refine ⟨rfl, ?_⟩
          try rw [hRn]
          exact ⟨HM9.out, cq, aq, nq, ccq, mq, rfl, hcq⟩
    · have hRs : R = some o2 := by rw [HR.out, List.drop_of_length_le (by omega), pathsF_nil]
      obtain ⟨d0, d1, d2, e0, e1, hTl⟩ := HPS.out.tour.cells
      simp only [List.length_append, List.length_cons, List.length_nil, Nat.zero_add] at d0
      obtain ⟨_, hge, hTg, hgl, hpc, hlast, hfr⟩ := HPS.out.tour.some
      cases hge
      have hpc1 : P.length ≤ pc' := by omega
      have hpc2 : (P.length : Int) ≤ (pc' : Int) := by omega
      have hpl : (P ++ [x0]).length = P.length + 1 := by simp
      have hown : IOwn wr (T + 1) (.slice (some ⟨g, 0, none⟩) P.length pc') P := by
        have q := HPS.out.tour.own.take (m := P.length) (by rw [hpl]; omega)
        rwa [List.take_left' rfl] at q
      have hfin := TourP.path (_w := wr) HPS.out.tour.blk hown
      have HPF : Hid (PSt (wr.setCell ⟨T, 0, none⟩ (.slice (some ⟨g, 0, none⟩) P.length pc')) T X (some ⟨g, 0, none⟩) pc' P k' v' o2) := HPS.out.other hfin (fun b _ hb2 _ => Below.heap_setCell wr ⟨T, 0, none⟩ _ b hb2) (fun b hb => .inl hb)
      have HMF : Hid (Mvd X T w (wr.setCell ⟨T, 0, none⟩ (.slice (some ⟨g, 0, none⟩) P.length pc'))) := HMV.out.trans (Mvd.of ((Below.refl T wr).setCell (p := ⟨T, 0, none⟩) (Nat.le_refl _) _) (by omega))
      clear HR ih hin hfit HPS hown hfin HMV
      go_wp2_with fail
      go_end0
      rw [hRs]
      exact ⟨HMF.out, rfl, _, _, _, by rw [← HKO.out]; exact HPF.out⟩
theorem gop_any (f : Fld) : GoPk f.fields := by
  induction f using Fld.ind with
  | h o l ih => exact gop_step l ih
def Pth1Post (R : Option (List (List Int))) (X : Nat) (w : World) (e : Ending) (w' : World) : Prop := Mvd X w.heap.size w w' ∧ match R with
  | some o2 => e = .returned (.tuple #[]) ∧ ∃ v, Blk w' X 52 #[v] ∧ RowsUp w' w.heap.size v o2
  | none => ∃ c a n cc m, e = lostG c a n cc m ∧ c ≠ 0
theorem PSt.start {w : World} {X : Nat} (hX : Blk w X 52 #[.slice none 0 0]) : PSt (w.alloc (.cells #[.slice none 0 0, .int .i64 0, sawV w.heap.size X] 85)) w.heap.size X none 0 [] ([] : List (List Int)).length (.slice none 0 0) [] :=
  ⟨hX.lt, ⟨Blk.new w 85 _, IOwn.nil _ _⟩, hX.old ((Below.refl w.heap.size w).alloc (Nat.le_refl _) _), [], World.ownsRow_nil _ _ _ _, fun i h => absurd h (by simp), fun i j u x _ h => by simp at h, fun u h => by simp at h⟩
set_option maxHeartbeats 2000000 in
theorem paths1_any (limit : Int) (l : List Fld) (aa : Option Addr) (ca lo n₀ X S : Nat) (w : World) (hca : l.length ≤ ca) (hfit : ∀ x ∈ l, FitsF 67108864 x) (hll : l.length ≤ 67108864) (hn₀ : n₀ ≤ X) (hS : Blk w S 25 #[.int .i64 limit, .slice aa l.length ca]) (hX : Blk w X 52 #[.slice none 0 0]) (hin : FIn w lo n₀ l aa) :
    Calls Tryz.prog 38 #[.pointer (some ⟨X, 0, none⟩), .pointer (some ⟨S, 0, none⟩)] w (Pth1Post (pathsF [] 0 [] l) X w) := by
  have hmf : ∀ (fn : Fn) (first cap : Array Value) (w : World), (Instr.makeFunc fn first cap).run Tryz.prog w = .ok (.func fn first cap) w := fun _ _ _ _ => rfl
  have hXl := hX.lt
  have hb1 := (Below.refl w.heap.size w).alloc (Nat.le_refl _) (.cells #[.slice none 0 0, .int .i64 0, sawV w.heap.size X] 85)
  have hp := PSt.start hX
  have hS1 := hS.old hb1
  have c1 := hS1.cell 1
  have hgo := gop_step l (fun x _ => gop_any x) w.heap.size X none 0 [] [] (.slice none 0 0) aa ca lo n₀ _ (by simp) (by simp) hca hfit hll hn₀ hp (hin.keep hb1 (by omega))
  generalize pathsF [] 0 [] l = R at hgo ⊢
  clear hS hin hS1 hX hp hfit
  unfold sawV at hb1 c1 hgo
  go_enter Tryz.func38, Tryz.ntmps38
  go_upto_region 2 with fail
  generalize w.alloc (.cells #[.slice none 0 0, .int .i64 0, .func (.func 39) #[] #[.pointer (some ⟨w.heap.size, 0, none⟩), .pointer (some ⟨X, 0, none⟩)]] 85) = w1 at hb1 c1 hgo ⊢
  go_wp2_with fail
  refine hgo.mono ?_
  rintro e w2 ⟨hm, hr⟩
  have HM : Hid (Mvd X w.heap.size w w2) := (Mvd.of hb1 (by omega)).trans hm
  cases R with
  | some o2 =>
    obtain ⟨rfl, pa, pc, v, hq⟩ := hr
    have HQ : Hid (Blk w2 X 52 #[v] ∧ RowsUp w2 w.heap.size v o2) := ⟨hq.box, hq.up.low (by omega)⟩
    clear hq hm hgo
    go_wp2
    go_end0
    exact ⟨HM.out, rfl, v, HQ.out⟩
  | none =>
    obtain ⟨c, a, n, cc, m, he, hc⟩ := hr
    unfold lostG at he
    subst he
    clear hm hgo
    go_wp2
    exact ⟨rfl, HM.out, c, a, n, cc, m, rfl, hc⟩
def GvpPost (R : Option (List (List Int))) (X : Nat) (w : World) (e : Ending) (w' : World) : Prop := Mvd X w.heap.size w w' ∧ match R with
  | some o2 => e = .returned (.pointer none) ∧ ∃ v, Blk w' X 52 #[v] ∧ RowsUp w' w.heap.size v o2
  | none => ∃ L, e = .returned (.pointer (some ⟨L, 0, none⟩))
theorem Mvd.low {X T T' : Nat} {a b : World} (h : Mvd X T' a b) (hT : T ≤ T') : Mvd X T a b := ⟨h.below, fun x h1 h2 => h.mid x h1 (by omega)⟩
theorem RowsUp.keep {w w' : World} {b : Nat} {v : Value} {o : List (List Int)} (h : RowsUp w b v o) (hb : ∀ g, b ≤ g → g < w.heap.size → w'.heap[g]? = w.heap[g]?) : RowsUp w' b v o := by
  obtain ⟨vs, h1, h2, h3⟩ := h
  exact ⟨vs, own_other h1 (fun g hg => hb g (own_ge h1 hg).1 (own_lt h1 g hg)), fun i hi => by obtain ⟨x, q1, q2⟩ := h2 i hi; exact ⟨x, q1, own_other q2 (fun g hg => hb g (own_ge q2 hg).1 (own_lt q2 g hg))⟩, h3⟩
set_option maxHeartbeats 2000000 in
theorem givenUp_paths (limit : Int) (l : List Fld) (aa : Option Addr) (ca lo n₀ X S : Nat) (w : World) (hca : l.length ≤ ca) (hfit : ∀ x ∈ l, FitsF 67108864 x) (hll : l.length ≤ 67108864) (hn₀ : n₀ ≤ X) (hS : Blk w S 25 #[.int .i64 limit, .slice aa l.length ca]) (hX : Blk w X 52 #[.slice none 0 0]) (hin : FIn w lo n₀ l aa) :
    Calls Tryz.prog 37 #[.func (.func 38) #[] #[.pointer (some ⟨X, 0, none⟩), .pointer (some ⟨S, 0, none⟩)]] w (GvpPost (pathsF [] 0 [] l) X w) := by
  have hmf : ∀ (fn : Fn) (first cap : Array Value) (w : World), (Instr.makeFunc fn first cap).run Tryz.prog w = .ok (.func fn first cap) w := fun _ _ _ _ => rfl
  have hXl := hX.lt
  have hb1 := (Below.refl w.heap.size w).alloc (Nat.le_refl _) (.cells #[.pointer none] 69)
  have hN1 := Blk.new w 69 #[.pointer none]
  have hc := paths1_any limit l aa ca lo n₀ X S (w.alloc (.cells #[.pointer none] 69)) hca hfit hll hn₀ (hS.old hb1) (hX.old hb1) (hin.keep hb1 (by omega))
  generalize pathsF [] 0 [] l = R at hc ⊢
  clear hS hin hfit hX
  go_enter_defers Tryz.func37, Tryz.ntmps37
  go_wp2_with fail
  generalize w.alloc (.cells #[.pointer none] 69) = w1 at *
  refine hc.mono ?_
  rintro e w2 ⟨hm, hr⟩
  have hN2 : Blk w2 w.heap.size 69 #[.pointer none] := (hm.mid _ hXl hN1.lt).trans hN1
  have hm2 : Mvd X w.heap.size w w2 := (Mvd.of hb1 (by omega)).trans (hm.low hb1.size)
  cases R with
  | some o2 =>
    obtain ⟨rfl, v, hv, hrw⟩ := hr
    have c0 := hN2.cell 0
    have f0 := hN2.frozen 0
    have hN3 := hN2.set 0 (.pointer none)
    have hsame : ∀ g, g ≠ w.heap.size → (w2.setCell ⟨w.heap.size, 0, none⟩ (.pointer none)).heap[g]? = w2.heap[g]? := fun g hg => Below.heap_setCell w2 ⟨w.heap.size, 0, none⟩ _ g hg
    have HV : Hid (Blk (w2.setCell ⟨w.heap.size, 0, none⟩ (.pointer none)) X 52 #[v]) := (hsame X (by omega)).trans hv
    have HRW : Hid (RowsUp (w2.setCell ⟨w.heap.size, 0, none⟩ (.pointer none)) w.heap.size v o2) := (hrw.keep (fun g h1 _ => hsame g (by have := hN1.lt; omega))).low hb1.size
    have hm3 : Mvd X w.heap.size w (w2.setCell ⟨w.heap.size, 0, none⟩ (.pointer none)) := hm2.trans (Mvd.of ((Below.refl w.heap.size w2).setCell (p := ⟨w.heap.size, 0, none⟩) (Nat.le_refl _) _) (by omega))
    clear hv hrw
    go_wp2
    refine leaves_cons (f := 66) (args := #[.pointer (some ⟨w.heap.size, 0, none⟩)]) (by simp) (by simp [go_sem]) ?_
    refine (giv_idle w.heap.size _).mono ?_
    rintro e u' w3 ⟨rfl, rfl, hb4⟩
    exact ⟨_, giv_results (hN3.old hb4) rfl, hm3.trans (Mvd.of (hb4.mono (Nat.le_of_lt hN3.lt)) (by omega)), rfl, v, HV.out.old hb4, HRW.out.old hb4⟩
  | none =>
    obtain ⟨c, a, n, cc, m, he, hcz⟩ := hr
    unfold lostG at he
    subst he
    go_wp2
    refine leaves_cons (f := 66) (args := #[.pointer (some ⟨w.heap.size, 0, none⟩)]) (by simp) (by simp [go_sem]) ?_
    refine (giv_catch w.heap.size c a n cc m _ w2 hN2).mono ?_
    rintro e u' w3 ⟨rfl, rfl, rfl⟩
    have hN3 := hN2.set 0 (.pointer (some ⟨w2.heap.size, 0, none⟩))
    have hb4 := (Below.refl _ (w2.setCell ⟨w.heap.size, 0, none⟩ (.pointer (some ⟨w2.heap.size, 0, none⟩)))).alloc (Nat.le_refl _) (.cells #[.int .i64 c, .int .i64 0, .slice a n cc, .int .i64 m] 73)
    have hm3 : Mvd X w.heap.size w (w2.setCell ⟨w.heap.size, 0, none⟩ (.pointer (some ⟨w2.heap.size, 0, none⟩))) := hm2.trans (Mvd.of ((Below.refl w.heap.size w2).setCell (p := ⟨w.heap.size, 0, none⟩) (Nat.le_refl _) _) (by omega))
    exact ⟨_, giv_results (hN3.old hb4) rfl, hm3.trans (Mvd.of (hb4.mono (Nat.le_of_lt hN3.lt)) (by omega)), _, rfl⟩
set_option maxHeartbeats 2000000 in
theorem paths_s (limit : Int) (l : List Fld) (aa : Option Addr) (ca lo n₀ : Nat) (w : World) (hca : l.length ≤ ca) (hfit : ∀ x ∈ l, FitsF 67108864 x) (hll : l.length ≤ 67108864) (hn₀ : n₀ ≤ w.heap.size) (hin : FIn w lo n₀ l aa) :
    Calls Tryz.prog 22 #[.agg #[.int .i64 limit, .slice aa l.length ca]] w fun e w' => ∃ a c, e = .returned (.slice a (pathsS l).length c) ∧ RowsUp w' w.heap.size (.slice a (pathsS l).length c) (pathsS l) ∧ Below w.heap.size w w' := by
  have hmf : ∀ (fn : Fn) (first cap : Array Value) (w : World), (Instr.makeFunc fn first cap).run Tryz.prog w = .ok (.func fn first cap) w := fun _ _ _ _ => rfl
  have hb1 := (Below.refl w.heap.size w).alloc (Nat.le_refl _) (.cells #[.int .i64 limit, .slice aa l.length ca] 25)
  have hN1 := Blk.new w 25 #[.int .i64 limit, .slice aa l.length ca]
  have hz1 := alloc_size w (.cells #[.int .i64 limit, .slice aa l.length ca] 25)
  have hb2 := (Below.refl _ (w.alloc (.cells #[.int .i64 limit, .slice aa l.length ca] 25))).alloc (Nat.le_refl _) (.cells #[.slice none 0 0] 52)
  have hX1 := Blk.new (w.alloc (.cells #[.int .i64 limit, .slice aa l.length ca] 25)) 52 #[.slice none 0 0]
  have hc := givenUp_paths limit l aa ca lo n₀ _ w.heap.size _ hca hfit hll (by rw [hz1]; omega) (hN1.old hb2) hX1 ((hin.keep hb1 hn₀).keep hb2 (by rw [hz1]; omega))
  have hps : pathsS l = (pathsF [] 0 [] l).getD [] := rfl
  generalize pathsS l = ps at hps ⊢
  generalize pathsF [] 0 [] l = R at hc hps
  clear hin hfit hN1 hX1
  rw [hz1] at hc
  have hb12 : Below w.heap.size w ((w.alloc (.cells #[.int .i64 limit, .slice aa l.length ca] 25)).alloc (.cells #[.slice none 0 0] 52)) := hb1.trans (hb2.mono (by rw [hz1]; omega))
  clear hb1 hb2
  go_enter Tryz.func22, Tryz.ntmps22
  go_wp2_with fail
  refine hc.mono ?_
  rintro e w2 ⟨hm, hr⟩
  have HB : Hid (Below w.heap.size w w2) := hb12.trans (hm.below.mono (by omega))
  cases R with
  | none =>
    obtain ⟨L, rfl⟩ := hr
    clear hm hc hb12
    go_wp2
    go_ret
    subst hps
    exact ⟨none, 0, rfl, RowsUp.nil _ _, HB.out⟩
  | some o2 =>
    obtain ⟨rfl, v, hv, hrw⟩ := hr
    have c0 := hv.cell 0
    obtain ⟨a, c, rfl⟩ := hrw.val
    have HW : Hid (RowsUp w2 w.heap.size (.slice a o2.length c) o2) := hrw.low hb12.size
    have HPS : Hid (ps = o2) := hps
    clear hm hc hb12 hv hrw hps
    go_wp2
    go_ret
    rw [HPS.out]
    exact ⟨a, c, rfl, HW.out, HB.out⟩
structure Wr (lo hi : Nat) (w w' : World) : Prop where
  below : Below lo w w'
  above : ∀ b, hi ≤ b → b < w.heap.size → w'.heap[b]? = w.heap[b]?
theorem Wr.refl (lo hi : Nat) (w : World) : Wr lo hi w w := ⟨Below.refl _ _, fun _ _ _ => rfl⟩
theorem Wr.grown {lo hi : Nat} {a b c : World} {v : Value} (h : Wr lo hi a b) (hg : b.grownBy c v.ownBlock) (hlo : lo ≤ b.heap.size) (hv : ∀ g, v.ownBlock = some g → lo ≤ g ∧ (g < hi ∨ a.heap.size ≤ g)) : Wr lo hi a c :=
  ⟨h.below.grown hg hlo (fun k hk => (hv k hk).1), fun k h1 h2 => (hg.block k (Nat.lt_of_lt_of_le h2 h.below.size) (fun e => by have := (hv k e.symm).2; omega)).trans (h.above k h1 h2)⟩
theorem Wr.set2 {lo hi : Nat} {a b : World} {g k : Nat} (h : Wr lo hi a b) (h1 : lo ≤ g) (h2 : g < hi ∨ a.heap.size ≤ g) (v : Value) : Wr lo hi a (b.setCell ⟨g, k, none⟩ v) :=
  ⟨h.below.setCell (p := ⟨g, k, none⟩) h1 v, fun j q1 q2 => (Below.heap_setCell b ⟨g, k, none⟩ v j (by show j ≠ g; omega)).trans (h.above j q1 q2)⟩
theorem Wr.alloc {lo hi : Nat} {a b : World} (h : Wr lo hi a b) (hlo : lo ≤ b.heap.size) (o : Obj) : Wr lo hi a (b.alloc o) :=
  ⟨h.below.alloc hlo o, fun k h1 h2 => (Below.heap_alloc b o k (Nat.lt_of_lt_of_le h2 h.below.size)).trans (h.above k h1 h2)⟩
theorem wpList_app {w : World} {ops : Array Oper} {rest : List Oper} {o : Oper} {a : Act} {Q : Exit → Act → World → Prop} (hgd : o.guard = none) (s x : Operand) (t : TypeId) (ho : o.op = .call { callee := .builtin .append, args := #[s, x], argTypes := #[t, t] }) {v u : Value} (hs : a.eval s = v) (hx : a.eval x = u)
    (h : ∃ v' w', (Builtin.append_ #[t, t] o.type #[v, u]).run Tryz.prog w = .ok v' w' ∧ wpList Tryz.prog ops Q rest (a.put o.dst v') w') : wpList Tryz.prog ops Q (o :: rest) a w := by
  obtain ⟨v', w', hr, h2⟩ := h
  refine wpList_plain hgd fun K hK => ?_
  unfold Oper.wp execOp
  simp only [ho, resolve, invoke, builtin, Sem.run_bind, Sem.run_pure, Result.andThen_ok, List.map_toArray, List.map_cons, List.map_nil, hs, hx, hr]
  exact hK _ _ h2
theorem set_size (w : World) (p : Addr) (v : Value) : w.heap.size ≤ (w.setCell p v).heap.size := ((Below.refl 0 w).setCell (p := p) (Nat.zero_le _) v).size
theorem app_two {w : World} {base : Nat} {v : Value} {zs : List Int} (hown : IOwn w base v zs) (z z2 : Int) (hlen : zs.length ≤ 1099511627776) (hbase : base ≤ w.heap.size) (ty : TypeId) :
    ∃ v' w', (Builtin.append_ #[29, 29] ty #[v, .slice (some ⟨w.heap.size, 0, none⟩) 2 2]).run Tryz.prog (w.alloc (.cells #[.int .i64 z, .int .i64 z2] 3)) = .ok v' w' ∧ IOwn w' base v' (zs ++ [z, z2]) ∧ (w.alloc (.cells #[.int .i64 z, .int .i64 z2] 3)).grownBy w' v.ownBlock ∧ (v'.ownBlock = v.ownBlock ∨ v'.ownBlock = some (w.heap.size + 1)) := by
  obtain ⟨i, hi, hz, hsz, hby⟩ := info_parts info3
  have hnb := Blk.new w 3 #[.int .i64 z, .int .i64 z2]
  have hs : (w.alloc (.cells #[.int .i64 z, .int .i64 z2] 3)).heap.size = w.heap.size + 1 := by simp
  obtain ⟨v', w', h1, h2, h3, _, h5⟩ := run_append_own_at (P := Tryz.prog) (w.alloc (.cells #[.int .i64 z, .int .i64 z2] 3)) base 29 ty 3 i (.int .i64 0) 1 8 Tryz.underlying29 hi hz hsz hby rfl (by decide) v zs.length (zs.map (Value.int .i64)) (World.ownsRow.alloc hown _) ⟨w.heap.size, 0, none⟩ 2 2 [.int .i64 z, .int .i64 z2] rfl
    (by
      intro j u hu
      match j, hu with
      | 0, hu => simp at hu; subst hu; exact hnb.cell 0
      | 1, hu => simp at hu; subst hu; exact hnb.cell 1)
    (by intro u hu; simp at hu; rcases hu with rfl | rfl <;> rfl) (by unfold maxLen; omega) (by omega) (by omega)
  refine ⟨v', w', h1, ?_, h3, by rw [hs] at h5; exact h5⟩
  unfold IOwn
  rw [List.length_append, List.map_append]
  exact h2
theorem IOwn.putX {w : World} {base b n c : Nat} {zs : List Int} (h : IOwn w base (.slice (some ⟨b, 0, none⟩) n c) zs) (k : Nat) (z : Int) : IOwn (w.setCell ⟨b, k, none⟩ (.int .i64 z)) base (.slice (some ⟨b, 0, none⟩) n c) (zs.set k z) := by
  have hx := h.2
  obtain ⟨a', c', e⟩ := h.val
  obtain ⟨_, hn, _⟩ := Value.slice.inj e
  subst hn
  rcases hx with ⟨e0, _⟩ | ⟨g, cap, cur, e0, hb, hh, h1, h2, h3, h4⟩
  · cases e0
  · cases e0
    have hB : Blk w b 3 cur := hh
    refine ⟨by simp, .inr ⟨b, c, cur.setIfInBounds k (.int .i64 z), by rw [List.length_set], hb, hB.set k _, by rw [List.length_set]; exact h1, h2, by rw [Array.size_setIfInBounds]; exact h3, ?_⟩⟩
    rw [List.length_set, Array.toList_setIfInBounds, List.take_set, h4, List.map_set]
def XInt (w : World) (base : Nat) (v : Value) (n : Nat) : Prop := ∃ zs, zs.length = n ∧ IOwn w base v zs
theorem XInt.nth {w : World} {base m c : Nat} {a : Option Addr} (h : XInt w base (.slice a m c) m) (hm : 0 < m) : ∃ b, a = some ⟨b, 0, none⟩ ∧ (∀ j, j < m → ∃ u, w.cell? ⟨b, j, none⟩ = some u) ∧ ∀ j, w.frozen? ⟨b, j, none⟩ = false := by
  obtain ⟨zs, hz, hI⟩ := h
  rcases hI.form with ⟨_, e⟩ | ⟨g, cap, e, _, _, _, hc, hf⟩
  · subst e; simp at hz; omega
  · cases e
    exact ⟨_, rfl, fun j hj => ⟨_, hc j (by omega)⟩, hf⟩
structure OneR (w : World) (base g : Nat) (vs : List Value) (rs : List (List Int)) (i : Nat) : Prop where
  blk : ∃ cs, Blk w g 29 cs ∧ rs.length ≤ cs.size
  cell : ∀ j (h : j < vs.length), i ≤ j → w.cell? ⟨g, j, none⟩ = some vs[j]
  pts : ∀ j (h1 : j < vs.length) (h2 : j < rs.length), i ≤ j → IOwn w base vs[j] rs[j]
structure But (g : Nat) (v : Value) (w w' : World) : Prop where
  size : w.heap.size ≤ w'.heap.size
  same : ∀ b, b < w.heap.size → b ≠ g → v.ownBlock ≠ some b → w'.heap[b]? = w.heap[b]?
theorem OneR.but {w w' : World} {base g i : Nat} {vs : List Value} {rs : List (List Int)} {pv : Value} (h : OneR w base g vs rs (i + 1)) (hb : But g pv w w') (hg : ∃ cs, Blk w' g 29 cs ∧ rs.length ≤ cs.size) (hc : ∀ k, i < k → w'.cell? ⟨g, k, none⟩ = w.cell? ⟨g, k, none⟩) (ha : ∀ j (hj : j < vs.length), i < j → Apt pv vs[j]) : OneR w' base g vs rs (i + 1) := by
  obtain ⟨cs, hB, _⟩ := h.blk
  have q : ∀ {u : Value} {b : Nat} {t : TypeId} {s k : Nat} {xs : List Value}, w.ownsRow b t s u k xs → t ≠ 29 → Apt pv u → w'.ownsRow b t s u k xs := fun hu ht hap => own_other hu (fun b hbk => hb.same b (own_lt hu b hbk) (fun e => by
    obtain ⟨_, c1, f1, q1⟩ := own_ge hu hbk
    subst e
    rw [show w.heap[b]? = _ from hB] at q1
    simp only [Option.some.injEq, Obj.cells.injEq] at q1
    exact ht q1.2.1.symm) (fun e => hap b e hbk))
  exact ⟨hg, fun j hj hij => (hc _ (by omega)).trans (h.cell j hj hij), fun j h1 h2 hij => q (h.pts j h1 h2 hij) (by decide) (ha j h1 (by omega))⟩
theorem RowsUp.oneR {w : World} {base : Nat} {v : Value} {rs : List (List Int)} (h : RowsUp w base v rs) : ∃ vs, vs.length = rs.length ∧ (∀ (i j : Nat) (hi : i < vs.length) (hj : j < vs.length), i < j → Apt vs[i] vs[j]) ∧ (∀ j (hj : j < vs.length), ∀ b, vs[j].ownBlock = some b → b < w.heap.size) ∧ (0 < rs.length → ∃ g cap, v = .slice (some ⟨g, 0, none⟩) rs.length cap ∧ base ≤ g ∧ g < w.heap.size ∧ OneR w base g vs rs 0) := by
  obtain ⟨vs, hrow, hvs, hap⟩ := h
  have hl : vs.length = rs.length := by have := hrow.1; omega
  refine ⟨vs, hl, fun i j hi hj hij => hap i j _ _ hij (List.getElem?_eq_getElem hi) (List.getElem?_eq_getElem hj), fun j hj b hb => ?_, fun hne => ?_⟩
  · obtain ⟨u, q1, q2⟩ := hvs j (by omega)
    rw [List.getElem?_eq_getElem hj] at q1
    obtain rfl : vs[j] = u := Option.some.inj q1
    exact own_lt q2 b hb
  · rcases hrow.2 with ⟨_, h0⟩ | ⟨g, cap, cur, rfl, hb, hg, hn, hm, hs, ht⟩
    · omega
    · have hB : Blk w g 29 cur := hg
      refine ⟨g, cap, rfl, hb, hB.lt, ⟨cur, hB, by omega⟩, fun j hj _ => ?_, fun j h1 h2 _ => ?_⟩
      · rw [hB.cell, ← Array.getElem?_toList, ← List.getElem?_take_of_lt (show j < rs.length * 1 by omega), ht, List.getElem?_eq_getElem hj]
      · obtain ⟨u, q1, q2⟩ := hvs j h2
        rw [List.getElem?_eq_getElem h1] at q1
        obtain rfl : vs[j] = u := Option.some.inj q1
        exact q2
theorem OneR.weak {w : World} {base g i : Nat} {vs : List Value} {rs : List (List Int)} (h : OneR w base g vs rs i) : OneR w base g vs rs (i + 1) :=
  ⟨h.blk, fun j hj hij => h.cell j hj (by omega), fun j h1 h2 hij => h.pts j h1 h2 (by omega)⟩
structure Mid (w3 wr : World) (base hi g i : Nat) (vs : List Value) (rs : List (List Int)) (v : Value) (n : Nat) : Prop where
  one : OneR wr base g vs rs (i + 1)
  cell : wr.cell? ⟨g, i, none⟩ = some v
  row : XInt wr base v n
  apt : ∀ j (hj : j < vs.length), i < j → Apt v vs[j]
  wrote : Wr base hi w3 wr
  own : ∀ b, v.ownBlock = some b → base ≤ b ∧ (b < hi ∨ w3.heap.size ≤ b)
section
variable {w3 wr : World} {base hi g i : Nat} {vs : List Value} {rs : List (List Int)}
theorem Mid.start (hO : OneR wr base g vs rs i) (hW : Wr base hi w3 wr) (hi1 : i < vs.length) (hi2 : i < rs.length) (hp : ∀ (i j : Nat) (hi : i < vs.length) (hj : j < vs.length), i < j → Apt vs[i] vs[j]) (hlt : ∀ j (hj : j < vs.length), ∀ b, vs[j].ownBlock = some b → b < hi) : Mid w3 wr base hi g i vs rs vs[i] rs[i].length :=
  ⟨hO.weak, hO.cell i hi1 (Nat.le_refl _), ⟨_, rfl, hO.pts i hi1 hi2 (Nat.le_refl _)⟩, fun j hj hij => hp i j hi1 hj hij, hW, fun b hb => ⟨(own_ge (hO.pts i hi1 hi2 (Nat.le_refl _)) hb).1, .inl (hlt i hi1 b hb)⟩⟩
theorem Mid.put {b c n : Nat} (h : Mid w3 wr base hi g i vs rs (.slice (some ⟨b, 0, none⟩) n c) n) (k : Nat) (z : Int) : Mid w3 (wr.setCell ⟨b, k, none⟩ (.int .i64 z)) base hi g i vs rs (.slice (some ⟨b, 0, none⟩) n c) n := by
  obtain ⟨zs, hz, hI⟩ := h.row
  obtain ⟨_, c1, f1, q1⟩ := own_ge hI (j := b) rfl
  obtain ⟨cs, hB, hs⟩ := h.one.blk
  have hne : g ≠ b := fun e => by
    subst e
    rw [show wr.heap[g]? = _ from hB] at q1
    simp at q1
  have hB' : Blk (wr.setCell ⟨b, k, none⟩ (.int .i64 z)) g 29 cs := (Below.heap_setCell wr ⟨b, k, none⟩ _ g hne).trans hB
  have hc : ∀ j, (wr.setCell ⟨b, k, none⟩ (.int .i64 z)).cell? ⟨g, j, none⟩ = wr.cell? ⟨g, j, none⟩ := fun j => (hB'.cell j).trans (hB.cell j).symm
  have hob := h.own b rfl
  exact ⟨h.one.but ⟨set_size _ _ _, fun d h1 h2 h3 => Below.heap_setCell wr ⟨b, k, none⟩ _ d (fun e => h3 (by rw [show d = b from e]; rfl))⟩ ⟨cs, hB', hs⟩ (fun j _ => hc j) h.apt, (hc _).trans h.cell, ⟨zs.set k z, by rw [List.length_set]; exact hz, hI.putX k z⟩, h.apt, h.wrote.set2 hob.1 hob.2 _, h.own⟩
theorem Mid.app {n : Nat} {v : Value} (h : Mid w3 wr base hi g i vs rs v n) (hn : n ≤ 1099511627776) (hlt : ∀ j (hj : j < vs.length), ∀ b, vs[j].ownBlock = some b → b < hi) (hil : i < rs.length) (hbg : base ≤ g ∧ g < hi ∧ hi ≤ w3.heap.size) (z z2 : Int) (ty : TypeId) :
    ∃ v' w', (Builtin.append_ #[29, 29] ty #[v, .slice (some ⟨wr.heap.size, 0, none⟩) 2 2]).run Tryz.prog (wr.alloc (.cells #[.int .i64 z, .int .i64 z2] 3)) = .ok v' w' ∧ w'.cell? ⟨g, i, none⟩ = some v ∧ w'.frozen? ⟨g, i, none⟩ = false ∧ Mid w3 (w'.setCell ⟨g, i, none⟩ v') base hi g i vs rs v' (n + 2) := by
  obtain ⟨zs, hz, hI⟩ := h.row
  subst hz
  have hsz := h.wrote.below.size
  obtain ⟨v', w', hr, hI', hgr, hat⟩ := app_two hI z z2 hn (by omega) ty
  obtain ⟨cs, hB, hs⟩ := h.one.blk
  have hBa : Blk (wr.alloc (.cells #[.int .i64 z, .int .i64 z2] 3)) g 29 cs := (Below.heap_alloc wr _ g hB.lt).trans hB
  have hB' : Blk w' g 29 cs := blk_grown hBa (World.ownsRow.alloc hI _) (by decide) hgr
  have hzz : (wr.alloc (.cells #[.int .i64 z, .int .i64 z2] 3)).heap.size = wr.heap.size + 1 := by simp
  have hzw := hgr.size
  have hc : ∀ k, w'.cell? ⟨g, k, none⟩ = wr.cell? ⟨g, k, none⟩ := fun k => (hB'.cell k).trans (hB.cell k).symm
  have hne : ∀ b, v'.ownBlock = some b → b ≠ g := fun b hb e => by
    obtain ⟨_, c1, f1, q1⟩ := own_ge hI' hb
    subst e
    rw [show w'.heap[b]? = _ from hB'] at q1
    simp at q1
  have hBs := hB'.set i v'
  refine ⟨v', w', hr, (hc _).trans h.cell, hB'.frozen _, h.one.but ⟨?_, fun b h1 h2 h3 => ?_⟩ ⟨_, hBs, by rw [Array.size_setIfInBounds]; exact hs⟩ (fun k hk => ?_) h.apt, ?_, ⟨zs ++ [z, z2], by simp, own_other hI' (fun b hb => Below.heap_setCell w' ⟨g, i, none⟩ v' b (hne b hb))⟩, fun j hj hij => ?_, ((h.wrote.alloc (by omega) _).grown hgr (by omega) h.own).set2 hbg.1 (.inl hbg.2.1) v', fun b hb => ?_⟩
  · have := set_size w' ⟨g, i, none⟩ v'
    omega
  · exact (Below.heap_setCell w' ⟨g, i, none⟩ v' b h2).trans ((hgr.block b (by omega) (fun e => h3 e.symm)).trans (Below.heap_alloc wr _ b h1))
  · rw [hBs.cell, hB.cell, Array.getElem?_setIfInBounds_ne (by omega)]
  · rw [hBs.cell, Array.getElem?_setIfInBounds_self_of_lt (by omega)]
  · rcases hat with e | e
    · exact fun b hb => h.apt j hj hij b (e.symm.trans hb)
    · intro b hb hb2
      have h1 := hlt j hj b hb2
      rw [e] at hb
      simp only [Option.some.injEq] at hb
      omega
  · rcases hat with e | e
    · exact h.own b (e.symm.trans hb)
    · rw [e] at hb
      simp only [Option.some.injEq] at hb
      exact ⟨by omega, .inr (by omega)⟩
theorem Mid.cellA {n : Nat} {v : Value} (h : Mid w3 wr base hi g i vs rs v n) (o : Obj) : (wr.alloc o).cell? ⟨g, i, none⟩ = some v := by
  obtain ⟨cs, hB, _⟩ := h.one.blk
  have hBa : Blk (wr.alloc o) g 29 cs := (Below.heap_alloc wr o g hB.lt).trans hB
  exact ((hBa.cell _).trans (hB.cell _).symm).trans h.cell
end
theorem RowsUp.nth {w W : World} {base n c : Nat} {a : Option Addr} {rs : List (List Int)} (h : RowsUp w base (.slice a n c) rs) (hb : Below w.heap.size w W) {i : Nat} (hi : i < rs.length) : ∃ g ra rc, a = some ⟨g, 0, none⟩ ∧ W.cell? ⟨g, i, none⟩ = some (.slice ra rs[i].length rc) ∧ Ints w.heap.size W (.slice ra rs[i].length rc) rs[i] := by
  obtain ⟨vs, q1, _, _, q4⟩ := h.oneR
  obtain ⟨g, cap, e1, _, e3, e4⟩ := q4 (by omega)
  obtain ⟨rfl, _, _⟩ := Value.slice.inj e1
  have hI := e4.pts i (by omega) hi (Nat.zero_le _)
  have hc := e4.cell i (by omega) (Nat.zero_le _)
  obtain ⟨ra, rc, hv⟩ := hI.val
  rw [hv] at hI hc
  exact ⟨g, ra, rc, rfl, (hb.cell (p := ⟨g, i, none⟩) e3).trans hc, hI.ints.below hb (Nat.le_refl _)⟩
theorem pathsF_short' : ∀ (N : Nat) (l : List Fld), SizeOf.sizeOf l ≤ N → ∀ (P : List Int) (i : Nat) (out o2 : List (List Int)), (∀ r ∈ out, r.length ≤ 16) → pathsF P i out l = some o2 → ∀ r ∈ o2, r.length ≤ 16 := by
  intro N
  induction N with
  | zero => intro l h; cases l <;> simp at h
  | succ N ih =>
    intro l hl P i out o2 ho h
    cases l with
    | nil => rw [pathsF_nil] at h; cases h; exact ho
    | cons f r =>
      obtain ⟨o, fl⟩ := f
      have hs1 : SizeOf.sizeOf fl ≤ N := by simp at hl; omega
      have hs2 : SizeOf.sizeOf r ≤ N := by simp at hl; omega
      by_cases hc : 64 < out.length + 1 ∨ 16 < P.length + 1
      · rw [pathsF_stop hc] at h; cases h
      · cases h1 : pathsF (P ++ [(i : Int)]) 0 (out ++ [P ++ [(i : Int)]]) fl with
        | none => rw [pathsF_none hc h1] at h; cases h
        | some q =>
          rw [pathsF_some hc h1] at h
          refine ih r hs2 _ _ _ _ (ih fl hs1 _ _ _ _ (fun x hx => ?_) h1) h
          rcases List.mem_append.1 hx with e | e
          · exact ho x e
          · obtain rfl : x = P ++ [(i : Int)] := by simpa using e
            simp
            omega
theorem pathsS_short (l : List Fld) : ∀ r ∈ pathsS l, r.length ≤ 16 := by
  unfold pathsS
  cases h : pathsF [] 0 [] l with
  | none => intro r hr; simp at hr
  | some o => exact pathsF_short' _ l (Nat.le_refl _) [] 0 [] o (fun r hr => by simp at hr) h
theorem pathsS_le (l : List Fld) : (pathsS l).length ≤ 64 := by
  unfold pathsS
  cases h : pathsF [] 0 [] l with
  | none => simp
  | some o => exact pathsF_le (by simp) h
theorem findF_some_fits {B : Nat} : ∀ (p : List Int) (l : List Fld) (f : Fld), (∀ x ∈ l, FitsF B x) → findF l p = some f → FitsF B f
  | [], l, f, _, h => by rw [findF_nil] at h; cases h
  | i :: p, l, f, hf, h => by
    rw [findF] at h
    split at h
    · rename_i hr
      split at h
      · cases h
        exact hf _ (List.getElem_mem hr.2)
      · exact findF_some_fits p _ f (fun x hx => (hf _ (List.getElem_mem hr.2)).mem hx) h
    · cases h
theorem ownNo_fits2 : OwnFits 17179869184 ownNo := ⟨by decide, by decide, by decide, by decide, by decide, by decide, by decide, by decide, by decide, by decide, by decide⟩
theorem findF_fits (p : List Int) (l : List Fld) (hf : ∀ x ∈ l, FitsF 17179869184 x) : FitsF 17179869184 (.mk (ownO (findF l p)) (fldO (findF l p))) := by
  cases h : findF l p with
  | none => exact .mk ownNo_fits2 (by simp [fldO, Fld.fields]) (fun x hx => by simp [fldO, Fld.fields] at hx)
  | some f =>
    have q := findF_some_fits p l f hf h
    exact .mk q.own q.len (fun x hx => q.mem hx)
end Go.Proofs.YtcbjnifoojjipaaGreatDoor
