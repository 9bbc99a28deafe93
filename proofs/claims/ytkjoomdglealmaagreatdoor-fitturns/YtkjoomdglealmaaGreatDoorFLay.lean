/- What the listed variables hold when a call of stage 12's statements begins gives the walks what they read (nothing is claimed here). -/
import Derived.Test.YtkjoomdglealmaaGreatDoorJ15
import Derived.Test.YtkjoomdglealmaaGreatDoorJ1
import Derived.Test.YtkjoomdglealmaaGreatDoorJ26
import Derived.Test.YtkjoomdglealmaaGreatDoorRows
import Derived.ProofKit
import Derived.Lay
import Derived.Lib.LaidTab
import Derived.Shelf.Vars
import Derived.Handed
import Derived.OpenShut
import Derived.LaidLaws
import Derived.LaidHandle
import Derived.RowKitTokens
import Derived.Stop.Joined
namespace Go.Proofs.YtkjoomdglealmaaGreatDoor
open Go.RowKit Go.Vf

def laidP : List (String × DataW Unit) := [("math/bits.deBruijn32tab", Rows.laid_math_bits_deBruijn32tab), ("math/bits.deBruijn64tab", Rows.laid_math_bits_deBruijn64tab), ("internal/strconv.uint64pow10", Rows.laid_internal_strconv_uint64pow10), ("dovetail/utf.rows", Rows.laid_dovetail_utf_rows), ("dovetail/utf.heads", Rows.laid_dovetail_utf_heads)]
def laidF : List (String × DataW Unit) := [("math/bits.deBruijn32tab", Rows.laid_math_bits_deBruijn32tab), ("math/bits.deBruijn64tab", Rows.laid_math_bits_deBruijn64tab), ("internal/strconv.uint64pow10", Rows.laid_internal_strconv_uint64pow10), ("errors.errorType", Rows.laid_errors_errorType), ("dovetail/utf.rows", Rows.laid_dovetail_utf_rows), ("dovetail/utf.heads", Rows.laid_dovetail_utf_heads)]

theorem gRows : Tryz.prog.globalNamed "dovetail/utf.rows" = some 1 := by kernel_rfl
theorem gHeads : Tryz.prog.globalNamed "dovetail/utf.heads" = some 2 := by kernel_rfl
theorem tRows : (Tryz.prog.globals[1]?).map (·.type) = some 335 := by kernel_rfl
theorem tHeads : (Tryz.prog.globals[2]?).map (·.type) = some 336 := by kernel_rfl
theorem cells48 : Tryz.prog.cellsOf 307 = 7 := by kernel_rfl
theorem cellsU5 : Tryz.prog.cellsOf 5 = 1 := by kernel_rfl
theorem cellsU3 : Tryz.prog.cellsOf 3 = 1 := by kernel_rfl

def rowD {H : Type} (k : Nat) : DataW H := .agg [.lit (.int .u8 ((utab k).first : Int)), .lit (.int .u8 ((utab k).last : Int)), .lit (.int .u8 ((utab k).low : Int)), .lit (.int .u8 ((utab k).high : Int)), .lit (.int .i64 ((utab k).size : Int)), .lit (.int .i64 ((utab k).least : Int)), .lit (.int .i64 ((utab k).most : Int))]
theorem rows_data {H : Type} : (Rows.laid_dovetail_utf_rows : DataW H) = .agg ((List.range 9).map rowD) := rfl
theorem heads_data {H : Type} : (Rows.laid_dovetail_utf_heads : DataW H) = .agg ((List.range 5).map fun k => .lit (.int .u8 (headOf k : Int))) := rfl

theorem one_cell {l : List Value} {n i : Nat} {v : Value} (h : ((l.take n).drop i).take 1 = [v]) : l[i]? = some v := by
  have h1 := congrArg (fun x : List Value => x[0]?) h
  simp only [List.getElem?_take, List.getElem?_drop, List.getElem?_cons_zero] at h1
  simp at h1
  exact h1.2

theorem one_cell' {l : List Value} {k : Nat} {v : Value} (h : (l.drop k).take 1 = [v]) : l[k]? = some v := by
  have h1 := congrArg (fun x : List Value => x[0]?) h
  simpa using h1

def RowCells (cs : List Value) (k : Nat) : Prop :=
  cs[0]? = some (.int .u8 ((utab k).first : Int)) ∧ cs[1]? = some (.int .u8 ((utab k).last : Int)) ∧ cs[2]? = some (.int .u8 ((utab k).low : Int)) ∧ cs[3]? = some (.int .u8 ((utab k).high : Int)) ∧ cs[4]? = some (.int .i64 ((utab k).size : Int)) ∧ cs[5]? = some (.int .i64 ((utab k).least : Int)) ∧ cs[6]? = some (.int .i64 ((utab k).most : Int))

section
variable {H : Type} {enc : TypeId × Value → H} {w : World} {base fuel : Nat} {spare : Nat → Bool} {held : Bool} {cs : List Value} {x : DataW H × List MemPlace}

theorem int_cell {t : TypeId} {k : IntKind} {n : Int} (ht : Tryz.prog.underlying t = some (.int k)) (h : DataW.trod enc Tryz.prog w base spare held fuel t cs = some x) (hx : x.1 = .lit (.int k n)) : cs = [.int k n] := by
  obtain ⟨m, e1, e2, _⟩ := DataW.trod_int ht h
  rw [e2] at hx
  simp at hx
  rw [e1, hx]

/-- A row's cells, off what they read as. -/
theorem row_cells {k : Nat} (h : DataW.trod enc Tryz.prog w base spare held fuel 307 cs = some x) (hx : x.1 = rowD k) :
    RowCells cs k := by
  obtain ⟨xs, n, _, e, hl, hlen, hf⟩ := DataW.trod_struct Tryz.underlying307 h
  rw [e] at hx
  unfold rowD at hx
  simp only [DataW.agg.injEq] at hx
  match xs, hx with
  | [y0, y1, y2, y3, y4, y5, y6], hx =>
    simp only [List.map_cons, List.map_nil, List.cons.injEq, and_true] at hx
    obtain ⟨g0, g1, g2, g3, g4, g5, g6⟩ := hx
    have q0 : DataW.trod enc Tryz.prog w base spare held n 5 ((cs.drop 0).take (Tryz.prog.cellsOf 5)) = some y0 := hf 0 _ rfl
    rw [cellsU5] at q0
    have q1 : DataW.trod enc Tryz.prog w base spare held n 5 ((cs.drop 1).take (Tryz.prog.cellsOf 5)) = some y1 := hf 1 _ rfl
    rw [cellsU5] at q1
    have q2 : DataW.trod enc Tryz.prog w base spare held n 5 ((cs.drop 2).take (Tryz.prog.cellsOf 5)) = some y2 := hf 2 _ rfl
    rw [cellsU5] at q2
    have q3 : DataW.trod enc Tryz.prog w base spare held n 5 ((cs.drop 3).take (Tryz.prog.cellsOf 5)) = some y3 := hf 3 _ rfl
    rw [cellsU5] at q3
    have q4 : DataW.trod enc Tryz.prog w base spare held n 3 ((cs.drop 4).take (Tryz.prog.cellsOf 3)) = some y4 := hf 4 _ rfl
    rw [cellsU3] at q4
    have q5 : DataW.trod enc Tryz.prog w base spare held n 3 ((cs.drop 5).take (Tryz.prog.cellsOf 3)) = some y5 := hf 5 _ rfl
    rw [cellsU3] at q5
    have q6 : DataW.trod enc Tryz.prog w base spare held n 3 ((cs.drop 6).take (Tryz.prog.cellsOf 3)) = some y6 := hf 6 _ rfl
    rw [cellsU3] at q6
    exact ⟨one_cell' (int_cell Tryz.underlying5 q0 g0), one_cell' (int_cell Tryz.underlying5 q1 g1), one_cell' (int_cell Tryz.underlying5 q2 g2), one_cell' (int_cell Tryz.underlying5 q3 g3), one_cell' (int_cell Tryz.underlying3 q4 g4), one_cell' (int_cell Tryz.underlying3 q5 g5), one_cell' (int_cell Tryz.underlying3 q6 g6)⟩
end


theorem tabs_of_laidF {W : World} (h : laidMet Tryz.prog laidP W) : Tabs W := by
  obtain ⟨ps, ⟨_, _, _, _, _, _, _, _, _, _, ⟨_, _, _, _, _, _, _, _, _, _, ⟨_, _, _, _, _, _, _, _, _, _, ⟨g0, t0, cs0, f0, p0, q0, hg0, ht0, hv0, hd0, ⟨g1, t1, cs1, f1, p1, q1, hg1, ht1, hv1, hd1, _, _⟩, _⟩, _⟩, _⟩, _⟩, _, _⟩ := h
  obtain rfl := Option.some.inj (gRows.symm.trans hg0)
  obtain rfl := Option.some.inj (gHeads.symm.trans hg1)
  obtain rfl := Option.some.inj (tRows.symm.trans ht0)
  obtain rfl := Option.some.inj (tHeads.symm.trans ht1)
  have c0 := World.var?_cell hg0 hv0
  have c1 := World.var?_cell hg1 hv1
  obtain ⟨xs, m, _, e, hl, hn, hel⟩ := DataW.trod_array Tryz.underlying335 hd0
  obtain ⟨ys, m1, _, e1, hl1, hn1, hel1⟩ := DataW.trod_array Tryz.underlying336 hd1
  have hrow : ∀ k, k < 9 → ∃ y : DataW Unit × List MemPlace, xs[k]? = some y ∧ y.1 = rowD k := fun k hk => by
    have e2 : xs.map (·.1) = (List.range 9).map rowD := by
      have := congrArg Prod.fst e
      rw [rows_data] at this
      exact (DataW.agg.inj this).symm
    have e3 := congrArg (fun l : List (DataW Unit) => l[k]?) e2
    simp only [List.getElem?_map, List.getElem?_range hk, Option.map_some] at e3
    obtain ⟨y, h1, h2⟩ := Option.map_eq_some_iff.1 e3
    exact ⟨y, h1, h2⟩
  have hhead : ∀ k, k < 5 → ∃ y : DataW Unit × List MemPlace, ys[k]? = some y ∧ y.1 = .lit (.int .u8 (headOf k : Int)) := fun k hk => by
    have e2 : ys.map (·.1) = (List.range 5).map fun k => .lit (.int .u8 (headOf k : Int)) := by
      have := congrArg Prod.fst e1
      rw [heads_data] at this
      exact (DataW.agg.inj this).symm
    have e3 := congrArg (fun l : List (DataW Unit) => l[k]?) e2
    simp only [List.getElem?_map, List.getElem?_range hk, Option.map_some] at e3
    obtain ⟨y, h1, h2⟩ := Option.map_eq_some_iff.1 e3
    exact ⟨y, h1, h2⟩
  have key : ∀ k, k < 9 → ∀ j v, ((cs0.toList.drop (k * 7)).take 7)[j]? = some v → W.cell? ⟨1, k * 7 + j, none⟩ = some v := fun k hk j v hv => by
    rw [c0]
    simp only [List.getElem?_take, List.getElem?_drop] at hv
    simp at hv
    simpa using hv.2
  have rows : ∀ k, k < 9 → RowCells ((cs0.toList.drop (k * 7)).take 7) k := fun k hk => by
    obtain ⟨y, h1, h2⟩ := hrow k hk
    have h3 := hel k hk
    rw [h1, cells48] at h3
    exact row_cells h3 h2
  refine ⟨?_, fun k hk => key k hk 0 _ (rows k hk).1, fun k hk => key k hk 1 _ (rows k hk).2.1, fun k hk => key k hk 2 _ (rows k hk).2.2.1, fun k hk => key k hk 3 _ (rows k hk).2.2.2.1, fun k hk => key k hk 4 _ (rows k hk).2.2.2.2.1, fun k hk => key k hk 5 _ (rows k hk).2.2.2.2.2.1, fun k hk => key k hk 6 _ (rows k hk).2.2.2.2.2.2, fun k hk => ?_⟩
  · simp only [World.var?, hg1, Option.bind_some] at hv1
    split at hv1
    · rename_i h; have := (Array.getElem?_eq_some_iff.1 h).1; omega
    · cases hv1
  · obtain ⟨y, h1, h2⟩ := hhead k hk
    have h3 := hel1 k hk
    rw [h1, cellsU5, Nat.mul_one] at h3
    have := one_cell' (int_cell Tryz.underlying5 h3 h2)
    rw [c1]
    simpa using this


theorem et_at : Tryz.prog.globalNamed "errors.errorType" = some 0 := by kernel_rfl
theorem et_rtype : (Tryz.prog.cutTypes.find? (·.1 == "internal/reflectlite.rtype")).map (·.2) = some 215 := by kernel_rfl
theorem et_one : ((List.range 425).filter fun t => Tryz.prog.rowNamed t [101, 114, 114, 111, 114]) = [42] := by kernel_rfl
theorem et_size : Tryz.prog.types.size = 425 := by kernel_rfl
/-- The condition's two parts. -/
theorem laid_parts {W : World} (h : laidMetH Tryz.prog laidF W) : laidMet Tryz.prog laidP W ∧ handlesMet Tryz.prog [("errors.errorType", Rows.laid_errors_errorType)] W := h
theorem err_of_laid {W : World} (h : handlesMet Tryz.prog [("errors.errorType", Rows.laid_errors_errorType)] W) : ErrT W := by
  obtain ⟨name, u, ty, e1, e2, e3, e4, e5⟩ := h _ (List.mem_singleton.2 rfl)
  have en : name = [101, 114, 114, 111, 114] := (Option.some.inj e1).symm
  subst en
  obtain rfl := Option.some.inj (et_rtype.symm.trans e2)
  have hm : ty ∈ (List.range 425).filter fun t => Tryz.prog.rowNamed t [101, 114, 114, 111, 114] := List.mem_filter.2 ⟨List.mem_range.2 (by rw [← et_size]; exact e3), e4⟩
  rw [et_one] at hm
  obtain rfl := List.mem_singleton.1 hm
  have hh : typeHandle Tryz.prog 42 = .pointer (some ⟨9, 42, none⟩) := by kernel_rfl
  rw [hh] at e5
  have := World.var?_cell et_at e5 0
  unfold ErrT
  simpa using this
section
variable {H : Type} {enc : TypeId × Value → H}
/-- The wrap that keeps both the row's own condition and the world's shape. -/
theorem returnsInHanded_both {C : Checked} {os : Os} {f : FuncId} {fn : Func} {s : ChangeSpec} {X : World → Array Value → Prop}
    (hX : ∀ (w w' : World) (args : Array Value), w.heap = w'.heap → X w args → X w' args)
    (own : ownKnob C.prog.godebug = none) (started : os.Started) (noInit : C.prog.inits.idxOf? f = none) (hfn : C.prog.funcs[f]? = some fn)
    (witness : ∃ (w : World) (tape : Tape) (i : Input), w.os = os ∧ (w.forCall tape i).Shaped C.prog ∧ i.vars = [] ∧ Input.okWide C.prog (w.forCall tape i) .any w.heap.size f i ∧
      ((s.pre enc C.prog fn [] false (w.forCall tape i).memory i.args ∧ X (w.forCall tape i).memory i.args) ∧ sizedMet enc C.prog fn (OpenSpec.ofChange s) false (w.forCall tape i).memory i.args) ∧ ({} : Assume).holds C.prog (lone (Frame.enter C.prog f i.args .normal) [] (w.forCall tape i)))
    (contract : ∀ (W : World) (base : Nat) (args : Array Value) (ds gs : List (DataW H)) (before : List MemPlace),
      (∀ (j : Nat) t v, fn.params[j]? = some t → args[j]? = some v → Value.okWide C.prog W .any base t v) →
      DataW.Whole enc C.prog fn.params.toList s.vars false W args.toList ds gs before →
      (DataW.weightsEach C.prog (fn.params.toList ++ s.plain.varTypes C.prog) (ds ++ gs)).all (· ≤ reachBytes) = true → X W args → W.ShapedOpen C.prog →
      Calls C.prog f args W fun e W' => ∃ v, e = .returned v ∧ s.post enc C.prog fn false true false false W args v W') :
    ReturnsInHanded {} C os f .any (fun w args => (s.pre enc C.prog fn [] false w args ∧ X w args) ∧ sizedMet enc C.prog fn (OpenSpec.ofChange s) false w args) (s.post enc C.prog fn false true false false) := by
  refine returnsInHanded_of_calls own started noInit witness fun w tape i _ hsh _ hok hpre _ => ?_
  obtain ⟨_, _, _, fn', hfn', _, _, _, _, hval⟩ := hok
  obtain rfl : fn' = fn := Option.some.inj (hfn'.symm.trans hfn)
  obtain ⟨⟨⟨ds, gs, before, hw, _⟩, hx⟩, hz⟩ := hpre
  refine (contract (w.forCall tape i) w.heap.size i.args ds gs before hval (DataW.Whole.of_heap (w' := w.forCall tape i) (by rfl) hw) (hz.weights hw) (hX _ _ _ (by rfl) hx) hsh).mono fun e W' ⟨v, he, hp⟩ => ?_
  subst he
  exact ChangeSpec.post_blind hp
end


/-- A world that meets the condition: the variables' cells are laid. -/
noncomputable def laidWorld (os : Os) : World :=
  let w0 := World.laidAll Tryz.prog os laidP
  { w0 with heap := w0.heap.modify 0 fun
      | .cells _ t frozen => .cells #[.iface 215 (.agg #[hnd 42])] t frozen
      | o => o }
theorem laid_met (os : Os) (args : Array Value) : laidMetH Tryz.prog laidF ((laidWorld os).forCall (fun _ _ => 0) ⟨#[], args, []⟩).memory :=
  laidMetH_of_parts (laidMet_of_run' 60 (by kernel_rfl) (by kernel_rfl)) (by kernel_rfl)
theorem laid_shaped (os : Os) (args : Array Value) : ((laidWorld os).forCall (fun _ _ => 0) ⟨#[], args, []⟩).Shaped Tryz.prog := World.shaped_of_ZipB (by kernel_rfl) (by kernel_rfl)
end Go.Proofs.YtkjoomdglealmaaGreatDoor
