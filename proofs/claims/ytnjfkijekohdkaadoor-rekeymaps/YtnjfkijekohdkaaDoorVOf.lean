/- What slices.Clone of values, value.Of and the document's Of do; lists of values and of parts that grow side by side (contracts; nothing is claimed here). -/
import Derived.Test.YtnjfkijekohdkaaDoorCop
import Derived.Test.YtnjfkijekohdkaaDoorVal
namespace Go.Proofs.YtnjfkijekohdkaaDoor
open Go.RowKit Go.Vf
/-- A list of values in a row of its own. -/
def VOwn (w : World) (base : Nat) (v : Value) (vs : List Value) : Prop := w.ownsRow base 32 1 v vs.length vs
theorem VOwn.nil (w : World) (base : Nat) : VOwn w base (.slice none 0 0) [] := World.ownsRow_nil w base 32 1
theorem VOwn.form {w : World} {base : Nat} {v : Value} {vs : List Value} (h : VOwn w base v vs) : (v = .slice none 0 0 ∧ vs = []) ∨ ∃ g cap, v = .slice (some ⟨g, 0, none⟩) vs.length cap ∧ base ≤ g ∧ g < w.heap.size ∧ ∀ j (hj : j < vs.length), w.cell? ⟨g, j, none⟩ = some vs[j] := by
  have h0 := h
  obtain ⟨h1, h2⟩ := h
  rcases h2 with ⟨rfl, h3⟩ | ⟨g, cap, cur, rfl, h4, h5, h6⟩
  · exact .inl ⟨rfl, List.eq_nil_of_length_eq_zero h3⟩
  · refine .inr ⟨g, cap, rfl, h4, (Array.getElem?_eq_some_iff.1 h5).1, fun j hj => ?_⟩
    have := World.ownsRow.cellAt h0 j (by omega)
    rw [this, List.getElem?_eq_getElem hj]
theorem VIn.one {w : World} {lo n : Nat} {v : Value} {p : Prt} (h : VIn w lo n v p) : v.oneCell' = true := by
  cases h <;> rfl
theorem info31v : (Tryd.prog.info? 32).map (fun i => (i.zero, i.size, i.bytes)) = some (some .nilIface, 1, 16) := by kernel_rfl
theorem slice_some (g n cap : Nat) (w : World) : (binOp .eql 82 (.slice (some ⟨g, 0, none⟩) n cap) (.slice none 0 0)).run Tryd.prog w = .ok (.bool false) w := by kernel_rfl
theorem slice_nil (w : World) : (binOp .eql 82 (.slice none 0 0) (.slice none 0 0)).run Tryd.prog w = .ok (.bool true) w := by kernel_rfl
set_option maxHeartbeats 1000000 in
set_option maxRecDepth 20000 in
theorem clone_any (v : Value) (vs : List Value) (h1 : ∀ u ∈ vs, u.oneCell' = true) (hn : vs.length ≤ 1024) (base : Nat) (w : World) (h : VOwn w base v vs) :
    Calls Tryd.prog 58 #[v] w fun e w' => ∃ v', e = .returned v' ∧ VOwn w' w.heap.size v' vs ∧ Below w.heap.size w w' := by
  obtain ⟨i, hi, hzz⟩ := Option.map_eq_some_iff.1 info31v
  simp only [Prod.mk.injEq] at hzz
  obtain ⟨hz, hsz, hby⟩ := hzz
  rcases h.form with ⟨rfl, rfl⟩ | ⟨g, cap, rfl, hg, hlt, hc⟩
  · have hnil := slice_nil
    clear h h1 hn hi hz hsz hby
    go_enter Tryd.func58, Tryd.ntmps58
    go_wp2
    go_ret
    exact ⟨_, rfl, VOwn.nil _ _, Below.refl _ _⟩
  · have hnil := slice_some g
    have hb1 := (Below.refl w.heap.size w).alloc (Nat.le_refl _) (.cells #[] 32)
    have hs1 := alloc_size w (.cells #[] 32)
    have ho : (w.alloc (.cells #[] 32)).ownsRow w.heap.size 32 1 (.slice (some ⟨w.heap.size, 0, none⟩) 0 0) 0 [] := ⟨by simp, .inr ⟨w.heap.size, 0, #[], rfl, Nat.le_refl _, heap_alloc_new w _, by simp, by simp [maxLen], by simp, by simp⟩⟩
    have hnews : ∀ j u, vs[j]? = some u → (w.alloc (.cells #[] 32)).cell? ((⟨g, 0, none⟩ : Addr).add j) = some u := fun j u hu => by
      obtain ⟨hj, rfl⟩ := List.getElem?_eq_some_iff.1 hu
      rw [Go.WideShapes.add_plain, Nat.zero_add, World.cell?_alloc_lt w _ _ hlt]
      exact hc j hj
    obtain ⟨n, hN⟩ : ∃ n, vs.length = n := ⟨_, rfl⟩
    have HN : Hid (vs.length = n) := hN
    rw [hN] at hn ⊢
    clear h hc hN
    go_enter Tryd.func58, Tryd.ntmps58
    go_upto_region 3 with fail
    go_wp2_with (at_builtin; refine wpList_append_own _ rfl (.tmp 5) (.tmp 6) 82 rfl w.heap.size 32 i .nilIface 1 16 Tryd.underlying82 hi hz hsz hby rfl (by decide) _ 0 [] rfl ho ⟨g, 0, none⟩ n cap vs rfl (by rw [HN.out]; simp) hnews h1 (by simp [maxLen]; omega) (by omega) (by rw [hs1]; omega) ?_; intro v' w2 ho2 hg2 _)
    go_ret
    refine ⟨v', rfl, ?_, hb1.grown hg2 (by rw [hs1]; omega) (fun k hk => by cases hk; exact Nat.le_refl _)⟩
    show w2.ownsRow w.heap.size 32 1 v' vs.length vs
    rw [HN.out]
    simpa using ho2

/-- The value v, in blocks of S, is what p says. -/
inductive VAt (w : World) (S : Nat → Prop) : Value → Prt → Prop where
  | null : VAt w S .nilIface (.mk 0 false false ⟨#[]⟩ ⟨#[]⟩ [])
  | truth (y : Bool) : VAt w S (.iface 79 (.agg #[.bool y])) (.mk 1 y false ⟨#[]⟩ ⟨#[]⟩ [])
  | num (b : Bool) (m : ByteArray) : VAt w S (.iface 81 (.agg #[.bool b, .string m])) (.mk 2 false b m ⟨#[]⟩ [])
  | raw (k : Int) (r : ByteArray) : isRawK k = true → VAt w S (.iface 86 (.agg #[.int .u8 k, .string r])) (.mk k false false ⟨#[]⟩ r [])
  | tup {l : List Prt} {g c : Nat} {a : Option Addr} (V : Nat → Value) : S g → Blk w g 115 #[.slice a l.length c, .int .i64 ((depL l + 1 : Nat) : Int)] →
      (∀ j, j < l.length → ∃ h off, a = some ⟨h, off, none⟩ ∧ S h ∧ w.cell? ⟨h, off + j, none⟩ = some (V j)) → (∀ j (hj : j < l.length), VAt w S (V j) l[j]) →
      VAt w S (.iface 83 (.pointer (some ⟨g, 0, none⟩))) (.mk 7 false false ⟨#[]⟩ ⟨#[]⟩ l)
theorem VAt.of {w : World} {lo n : Nat} {v : Value} {p : Prt} (h : VIn w lo n v p) {S : Nat → Prop} (hS : ∀ b, lo ≤ b → b < n → S b) : VAt w S v p := by
  induction h with
  | null => exact .null
  | truth y => exact .truth y
  | num b m => exact .num b m
  | raw k r hk => exact .raw k r hk
  | tup V h1 h2 h3 h4 _ ih =>
    refine .tup V (hS _ h1 h2) h3 (fun j hj => ?_) ih
    obtain ⟨h, off, e, q1, q2, q3⟩ := h4 j hj
    exact ⟨h, off, e, hS _ q1 q2, q3⟩
theorem VAt.to {w : World} {lo n : Nat} {v : Value} {p : Prt} {S : Nat → Prop} (h : VAt w S v p) (hS : ∀ b, S b → lo ≤ b ∧ b < n) : VIn w lo n v p := by
  induction h with
  | null => exact .null
  | truth y => exact .truth y
  | num b m => exact .num b m
  | raw k r hk => exact .raw k r hk
  | tup V h1 h3 h4 _ ih =>
    refine .tup V (hS _ h1).1 (hS _ h1).2 h3 (fun j hj => ?_) ih
    obtain ⟨h, off, e, q1, q3⟩ := h4 j hj
    exact ⟨h, off, e, (hS _ q1).1, (hS _ q1).2, q3⟩
theorem VAt.keep {w w' : World} {v : Value} {p : Prt} {S S' : Nat → Prop} (h : VAt w S v p) (hk : ∀ b, S b → w'.heap[b]? = w.heap[b]?) (hS : ∀ b, S b → S' b) : VAt w' S' v p := by
  induction h with
  | null => exact .null
  | truth y => exact .truth y
  | num b m => exact .num b m
  | raw k r hk => exact .raw k r hk
  | tup V h1 h3 h4 _ ih =>
    refine .tup V (hS _ h1) ((hk _ h1).trans h3) (fun j hj => ?_) ih
    obtain ⟨h, off, e, q1, q3⟩ := h4 j hj
    exact ⟨h, off, e, hS _ q1, (cell_block (hk h q1) _).trans q3⟩

/-- What value.Of answers. -/
def OfE (l : List Prt) (S : Nat → Prop) (w : World) (e : Ending) (w' : World) : Prop := Below w.heap.size w w' ∧
  ((1024 < l.length ∧ e = .returned (.tuple #[.nilIface, .int .i64 2])) ∨ (l.length ≤ 1024 ∧ 16 < depL l + 1 ∧ e = .returned (.tuple #[.nilIface, .int .i64 91])) ∨
    (l.length ≤ 1024 ∧ depL l + 1 ≤ 16 ∧ ∃ g, e = .returned (.tuple #[.iface 83 (.pointer (some ⟨g, 0, none⟩)), .int .i64 0]) ∧ VAt w' (fun b => S b ∨ (w.heap.size ≤ b ∧ b < w'.heap.size)) (.iface 83 (.pointer (some ⟨g, 0, none⟩))) (tupP l)))
set_option maxHeartbeats 2000000 in
set_option maxRecDepth 20000 in
theorem of_any (v : Value) (vs : List Value) (l : List Prt) (hl : l.length ≤ 8388608) (hvl : vs.length = l.length) (hd : depL l ≤ 1000) (S : Nat → Prop) (base : Nat) (w : World) (hS : ∀ b, S b → b < w.heap.size) (h : VOwn w base v vs) (hv : ∀ j (hj : j < l.length), VAt w S (vs[j]'(by omega)) l[j]) :
    Calls Tryd.prog 45 #[v] w (OfE l S w) := by
  obtain ⟨a0, c0, hform⟩ : ∃ a c, v = .slice a l.length c := by
    rcases h.form with ⟨rfl, e⟩ | ⟨g, cap, rfl, _⟩
    · subst e; exact ⟨none, 0, by rw [← hvl]; rfl⟩
    · exact ⟨_, _, by rw [← hvl]⟩
  subst hform
  by_cases hlong : 1024 < l.length
  · have HE : Hid (1024 < l.length) := hlong
    obtain ⟨n, hN⟩ : ∃ n, l.length = n := ⟨_, rfl⟩
    rw [hN] at hlong hl ⊢
    have t : decide ((1024 : Int) < (n : Int)) = true := decide_eq_true (by omega)
    have t2 : decide (1024 < n) = true := decide_eq_true hlong
    clear h hv hvl hN
    go_enter Tryd.func45, Tryd.ntmps45
    go_wp2_with fail
    go_ret2
    exact ⟨Below.refl _ _, .inl ⟨HE.out, rfl⟩⟩
  have hone : ∀ u ∈ vs, u.oneCell' = true := fun u hu => by
    obtain ⟨j, hj, rfl⟩ := List.mem_iff_getElem.1 hu
    exact ((hv j (by omega)).to (lo := 0) (n := w.heap.size) fun b hb => ⟨Nat.zero_le _, hS b hb⟩).one
  have hcl := clone_any _ vs hone (by omega) base w h
  have HLE : Hid (l.length ≤ 1024) := by show _ ≤ _; omega
  have hnext : ∀ v' w2, VOwn w2 w.heap.size v' vs → Below w.heap.size w w2 → ∃ a c, v' = .slice a l.length c ∧ Calls Tryd.prog 40 #[.slice a l.length c] w2 fun e w' => e = .returned (.pointer (some ⟨w2.heap.size, 0, none⟩)) ∧ Blk w' w2.heap.size 115 #[.slice a l.length c, .int .i64 ((depL l + 1 : Nat) : Int)] ∧ Below w2.heap.size w2 w' ∧
      VAt w' (fun b => S b ∨ (w.heap.size ≤ b ∧ b < w'.heap.size)) (.iface 83 (.pointer (some ⟨w2.heap.size, 0, none⟩))) (tupP l) := by
    intro v' w2 ho hb
    have key : ∃ a c, v' = .slice a l.length c ∧ ∀ j (hj : j < l.length), ∃ h off, a = some ⟨h, off, none⟩ ∧ w.heap.size ≤ h ∧ h < w2.heap.size ∧ w2.cell? ⟨h, off + j, none⟩ = some (vs[j]'(by omega)) := by
      rcases ho.form with ⟨rfl, e⟩ | ⟨g, cap, rfl, hg, hlt, hc⟩
      · subst e
        refine ⟨none, 0, by rw [← hvl]; rfl, fun j hj => ?_⟩
        rw [← hvl] at hj; simp at hj
      · refine ⟨_, _, by rw [← hvl], fun j hj => ⟨g, 0, rfl, by omega, hlt, ?_⟩⟩
        rw [Nat.zero_add]; exact hc j (by omega)
    obtain ⟨a, c, rfl, hc⟩ := key
    refine ⟨a, c, rfl, ?_⟩
    have hV : ∀ j (hj : j < l.length), (vs[j]?.getD .nilIface) = vs[j]'(by omega) := fun j hj => by
      rw [List.getElem?_eq_getElem (by omega)]; rfl
    have hat2 : ∀ j (hj : j < l.length), VAt w2 S (vs[j]?.getD .nilIface) l[j] := fun j hj => by
      rw [hV j hj]; exact (hv j hj).keep (fun b hb' => hb.block b (hS b hb')) (fun b q => q)
    have hin : ∀ j (hj : j < l.length), VIn w2 0 w2.heap.size (vs[j]?.getD .nilIface) l[j] := fun j hj => (hat2 j hj).to fun b q => ⟨Nat.zero_le _, by have := hS b q; have := hb.size; omega⟩
    have hcc : ∀ j, j < l.length → ∃ h off, a = some ⟨h, off, none⟩ ∧ 0 ≤ h ∧ h < w2.heap.size ∧ w2.cell? ⟨h, off + j, none⟩ = some (vs[j]?.getD .nilIface) := fun j hj => by
      rw [hV j hj]
      obtain ⟨h, off, e, _, q2, q3⟩ := hc j hj
      exact ⟨h, off, e, Nat.zero_le _, q2, q3⟩
    refine (tupleOf_any l (by omega) hd a c 0 w2.heap.size (fun j => vs[j]?.getD .nilIface) w2 hcc hin).mono ?_
    rintro _ _ ⟨rfl, rfl⟩
    have q1 := (Below.refl w2.heap.size w2).alloc (Nat.le_refl _) (.cells #[.slice a l.length c, .int .i64 ((depL l + 1 : Nat) : Int)] 115)
    have q2 := alloc_size w2 (.cells #[.slice a l.length c, .int .i64 ((depL l + 1 : Nat) : Int)] 115)
    have q3 := Blk.new w2 115 #[.slice a l.length c, .int .i64 ((depL l + 1 : Nat) : Int)]
    have q4 := hb.size
    refine ⟨rfl, q3, q1, .tup (fun j => vs[j]?.getD .nilIface) (.inr ⟨q4, by omega⟩) q3 (fun j hj => ?_) (fun j hj => (hat2 j hj).keep (fun b hb' => q1.block b (by have := hS b hb'; omega)) (fun b q => .inl q))⟩
    obtain ⟨h', off, e, r1, r2, r3⟩ := hc j hj
    rw [hV j hj]
    exact ⟨h', off, e, .inr ⟨r1, by omega⟩, (cell_block (q1.block _ r2) _).trans r3⟩
  obtain ⟨D, hD⟩ : ∃ D, depL l + 1 = D := ⟨_, rfl⟩
  have HD : Hid (depL l + 1 = D) := hD
  have hDb : D ≤ 1001 := by omega
  rw [hD] at hnext
  obtain ⟨n, hN⟩ : ∃ n, l.length = n := ⟨_, rfl⟩
  rw [hN] at hcl hnext hl hlong ⊢
  have t : decide ((1024 : Int) < (n : Int)) = false := decide_eq_false (by omega)
  have t2 : decide (1024 < n) = false := decide_eq_false hlong
  clear hN hv h hone hvl hd hD
  go_enter Tryd.func45, Tryd.ntmps45
  go_wp2_with fail
  refine hcl.mono ?_
  rintro _ w2 ⟨v', rfl, ho2, hb2⟩
  obtain ⟨a, c, rfl, ht⟩ := hnext v' w2 ho2 hb2
  clear hnext hcl ho2
  go_wp2_with fail
  refine ht.mono ?_
  rintro _ w3 ⟨rfl, hblk, hb3, hv3⟩
  have d1 : w3.cell? ⟨w2.heap.size, 1, none⟩ = some (.int .i64 (D : Int)) := hblk.cell 1
  have HV : Hid _ := hv3
  have hfin := hb2.trans (hb3.mono hb2.size)
  clear hv3 hblk ht
  by_cases h16 : 16 < D
  · have t3 : decide ((16 : Int) < (D : Int)) = true := decide_eq_true (by omega)
    have t4 : decide (16 < D) = true := decide_eq_true h16
    go_wp2_with fail
    go_ret2
    exact ⟨hfin, .inr (.inl ⟨HLE.out, by rw [HD.out]; exact h16, rfl⟩)⟩
  · have t3 : decide ((16 : Int) < (D : Int)) = false := decide_eq_false (by omega)
    have t4 : decide (16 < D) = false := decide_eq_false h16
    go_wp2_with fail
    go_ret2
    exact ⟨hfin, .inr (.inr ⟨HLE.out, by rw [HD.out]; omega, _, rfl, HV.out⟩)⟩
end Go.Proofs.YtnjfkijekohdkaaDoor
