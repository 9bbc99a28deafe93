/- What slices.Clone of values and value.Of do (contracts; nothing is claimed here). -/
import Derived.Test.YtffhbellpcneeaaLQuo
namespace Go.Proofs.Ytffhbellpcneeaa
open Go.RowKit Go.Vf
/-- A list of values in a row of its own. -/
def VOwn (w : World) (base : Nat) (v : Value) (vs : List Value) : Prop := w.ownsRow base 33 1 v vs.length vs
theorem VOwn.keep {w w' : World} {base : Nat} {v : Value} {vs : List Value} (h : VOwn w base v vs) (hk : ∀ b, base ≤ b → b < w.heap.size → w'.heap[b]? = w.heap[b]?) : VOwn w' base v vs := own_keep h hk
theorem VOwn.nil (w : World) (base : Nat) : VOwn w base (.slice none 0 0) [] := World.ownsRow_nil w base 33 1
theorem VOwn.form {w : World} {base : Nat} {v : Value} {vs : List Value} (h : VOwn w base v vs) : (v = .slice none 0 0 ∧ vs = []) ∨ ∃ g cap, v = .slice (some ⟨g, 0, none⟩) vs.length cap ∧ base ≤ g ∧ g < w.heap.size ∧ ∀ j (hj : j < vs.length), w.cell? ⟨g, j, none⟩ = some vs[j] := by
  have h0 := h
  obtain ⟨h1, h2⟩ := h
  rcases h2 with ⟨rfl, h3⟩ | ⟨g, cap, cur, rfl, h4, h5, h6⟩
  · exact .inl ⟨rfl, List.eq_nil_of_length_eq_zero h3⟩
  · refine .inr ⟨g, cap, rfl, h4, (Array.getElem?_eq_some_iff.1 h5).1, fun j hj => ?_⟩
    have := World.ownsRow.cellAt h0 j (by omega)
    rw [this, List.getElem?_eq_getElem hj]
theorem VIn.one {w : World} {lo n : Nat} {v : Value} {p : Prt} (h : VIn w lo n v p) : v.oneCell' = true := by
  cases h <;> rfl
theorem info33 : ∃ i, Try.prog.info? 33 = some i ∧ i.zero = some .nilIface ∧ i.size = 1 ∧ i.bytes = 16 := by
  obtain ⟨i, hi, hz⟩ := Option.map_eq_some_iff.1 info31
  simp only [Prod.mk.injEq] at hz
  exact ⟨i, hi, hz.1, hz.2.1, hz.2.2⟩

theorem slice_some (g n cap : Nat) (w : World) : (binOp .eql 77 (.slice (some ⟨g, 0, none⟩) n cap) (.slice none 0 0)).run Try.prog w = .ok (.bool false) w := by kernel_rfl
theorem slice_nil (w : World) : (binOp .eql 77 (.slice none 0 0) (.slice none 0 0)).run Try.prog w = .ok (.bool true) w := by kernel_rfl
set_option maxHeartbeats 1000000 in
set_option maxRecDepth 20000 in
theorem clone_any (v : Value) (vs : List Value) (h1 : ∀ u ∈ vs, u.oneCell' = true) (hn : vs.length ≤ 1024) (base : Nat) (w : World) (h : VOwn w base v vs) :
    Calls Try.prog 88 #[v] w fun e w' => ∃ v', e = .returned v' ∧ VOwn w' w.heap.size v' vs ∧ Below w.heap.size w w' := by
  obtain ⟨i, hi, hz, hsz, hby⟩ := info33
  rcases h.form with ⟨rfl, rfl⟩ | ⟨g, cap, rfl, hg, hlt, hc⟩
  · have hnil := slice_nil
    clear h h1 hn hi hz hsz hby
    go_enter Try.func88, Try.ntmps88
    go_wp2
    go_ret
    exact ⟨_, rfl, VOwn.nil _ _, Below.refl _ _⟩
  · have hnil := slice_some g
    have hb1 := (Below.refl w.heap.size w).alloc (Nat.le_refl _) (.cells #[] 33)
    have hs1 := alloc_size w (.cells #[] 33)
    have ho : (w.alloc (.cells #[] 33)).ownsRow w.heap.size 33 1 (.slice (some ⟨w.heap.size, 0, none⟩) 0 0) 0 [] := ⟨by simp, .inr ⟨w.heap.size, 0, #[], rfl, Nat.le_refl _, heap_alloc_new w _, by simp, by simp [maxLen], by simp, by simp⟩⟩
    have hnews : ∀ j u, vs[j]? = some u → (w.alloc (.cells #[] 33)).cell? ((⟨g, 0, none⟩ : Addr).add j) = some u := fun j u hu => by
      obtain ⟨hj, rfl⟩ := List.getElem?_eq_some_iff.1 hu
      rw [Go.WideShapes.add_plain, Nat.zero_add, World.cell?_alloc_lt w _ _ hlt]
      exact hc j hj
    obtain ⟨n, hN⟩ : ∃ n, vs.length = n := ⟨_, rfl⟩
    have HN : Hid (vs.length = n) := hN
    rw [hN] at hn ⊢
    clear h hc hN
    go_enter Try.func88, Try.ntmps88
    go_upto_region 3 with fail
    go_wp2_with (at_builtin; refine wpList_append_own _ rfl (.tmp 5) (.tmp 6) 77 rfl w.heap.size 33 i .nilIface 1 16 Try.underlying77 hi hz hsz hby rfl (by decide) _ 0 [] rfl ho ⟨g, 0, none⟩ n cap vs rfl (by rw [HN.out]; simp) hnews h1 (by simp [maxLen]; omega) (by omega) (by rw [hs1]; omega) ?_; intro v' w2 ho2 hg2 _)
    go_ret
    refine ⟨v', rfl, ?_, hb1.grown hg2 (by rw [hs1]; omega) (fun k hk => by cases hk; exact Nat.le_refl _)⟩
    show w2.ownsRow w.heap.size 33 1 v' vs.length vs
    rw [HN.out]
    simpa using ho2

set_option maxHeartbeats 1000000 in
set_option maxRecDepth 20000 in
theorem of_any (v : Value) (vs : List Value) (l : List Prt) (hl : l.length ≤ 1024) (hvl : vs.length = l.length) (hd : depL l ≤ 15) (lo base : Nat) (w : World) (hlo : lo ≤ w.heap.size) (h : VOwn w base v vs) (hv : ∀ j (hj : j < l.length), VIn w lo w.heap.size (vs[j]'(by omega)) l[j]) :
    Calls Try.prog 76 #[v] w fun e w' => ∃ g, e = .returned (.tuple #[.iface 78 (.pointer (some ⟨g, 0, none⟩)), .int .i64 0]) ∧ VIn w' lo w'.heap.size (.iface 78 (.pointer (some ⟨g, 0, none⟩))) (tupP l) ∧ Below w.heap.size w w' := by
  have hone : ∀ u ∈ vs, u.oneCell' = true := fun u hu => by
    obtain ⟨j, hj, rfl⟩ := List.mem_iff_getElem.1 hu
    exact (hv j (by omega)).one
  have hcl := clone_any v vs hone (by omega) base w h
  obtain ⟨a0, c0, hform⟩ : ∃ a c, v = .slice a l.length c := by
    rcases h.form with ⟨rfl, e⟩ | ⟨g, cap, rfl, _⟩
    · subst e; exact ⟨none, 0, by rw [← hvl]; rfl⟩
    · exact ⟨_, _, by rw [← hvl]⟩
  subst hform
  have hnext : ∀ v' w2, VOwn w2 w.heap.size v' vs → Below w.heap.size w w2 → ∃ a c, v' = .slice a l.length c ∧ Calls Try.prog 39 #[.slice a l.length c] w2 fun e w' => e = .returned (.pointer (some ⟨w2.heap.size, 0, none⟩)) ∧ Blk w' w2.heap.size 110 #[.slice a l.length c, .int .i64 ((depL l + 1 : Nat) : Int)] ∧ Below w2.heap.size w2 w' ∧ VIn w' lo w'.heap.size (.iface 78 (.pointer (some ⟨w2.heap.size, 0, none⟩))) (tupP l) := by
    intro v' w2 ho hb
    have key : ∃ a c, v' = .slice a l.length c ∧ ∀ j (hj : j < l.length), ∃ h off, a = some ⟨h, off, none⟩ ∧ lo ≤ h ∧ h < w2.heap.size ∧ w2.cell? ⟨h, off + j, none⟩ = some (vs[j]'(by omega)) := by
      rcases ho.form with ⟨rfl, e⟩ | ⟨g, cap, rfl, hg, hlt, hc⟩
      · subst e
        refine ⟨none, 0, by rw [← hvl]; rfl, fun j hj => ?_⟩
        rw [← hvl] at hj; simp at hj
      · refine ⟨_, _, by rw [← hvl], fun j hj => ⟨g, 0, rfl, by omega, hlt, ?_⟩⟩
        rw [Nat.zero_add]; exact hc j (by omega)
    obtain ⟨a, c, rfl, hc⟩ := key
    refine ⟨a, c, rfl, ?_⟩
    have hV : ∀ j (hj : j < l.length), (vs[j]?.getD .nilIface) = vs[j]'(by omega) := fun j hj => by
      rw [List.getElem?_eq_getElem (by omega)]; rfl
    have hin : ∀ j (hj : j < l.length), VIn w2 lo w2.heap.size (vs[j]?.getD .nilIface) l[j] := fun j hj => by
      rw [hV j hj]; exact ((hv j hj).old hb (Nat.le_refl _)).mono hb.size (Nat.le_refl _)
    have hcc : ∀ j, j < l.length → ∃ h off, a = some ⟨h, off, none⟩ ∧ lo ≤ h ∧ h < w2.heap.size ∧ w2.cell? ⟨h, off + j, none⟩ = some (vs[j]?.getD .nilIface) := fun j hj => by
      rw [hV j hj]; exact hc j hj
    refine (tupleOf_any l (by omega) (by omega) a c lo w2.heap.size (fun j => vs[j]?.getD .nilIface) w2 hcc hin).mono ?_
    rintro _ _ ⟨rfl, rfl⟩
    have q1 := (Below.refl w2.heap.size w2).alloc (Nat.le_refl _) (.cells #[.slice a l.length c, .int .i64 ((depL l + 1 : Nat) : Int)] 110)
    have q2 := alloc_size w2 (.cells #[.slice a l.length c, .int .i64 ((depL l + 1 : Nat) : Int)] 110)
    have q3 := Blk.new w2 110 #[.slice a l.length c, .int .i64 ((depL l + 1 : Nat) : Int)]
    refine ⟨rfl, q3, q1, .tup (fun j => vs[j]?.getD .nilIface) (by have := hb.size; omega) (by omega) q3 (fun j hj => ?_) (fun j hj => ((hin j hj).old q1 (Nat.le_refl _)).mono (by omega) (Nat.le_refl _))⟩
    obtain ⟨h', off, e, r1, r2, r3⟩ := hcc j hj
    exact ⟨h', off, e, r1, by omega, (cell_block (q1.block _ (by omega)) _).trans r3⟩
  have hD : depL l + 1 ≤ 16 := by omega
  generalize depL l + 1 = D at *
  obtain ⟨n, hN⟩ : ∃ n, l.length = n := ⟨_, rfl⟩
  rw [hN] at hcl hnext hl ⊢
  clear hN hv h hone hvl hd
  go_enter Try.func76, Try.ntmps76
  go_wp2_with fail
  refine hcl.mono ?_
  rintro _ w2 ⟨v', rfl, ho2, hb2⟩
  obtain ⟨a, c, rfl, ht⟩ := hnext v' w2 ho2 hb2
  clear hnext hcl ho2
  go_wp2_with fail
  refine ht.mono ?_
  rintro _ w3 ⟨rfl, hblk, hb3, hv3⟩
  have d1 : w3.cell? ⟨w2.heap.size, 1, none⟩ = some (.int .i64 (D : Int)) := hblk.cell 1
  have HV : Hid _ := hv3
  clear hv3 hblk ht
  go_wp2_with fail
  go_ret2
  exact ⟨_, rfl, HV.out, hb2.trans (hb3.mono hb2.size)⟩
end Go.Proofs.Ytffhbellpcneeaa
