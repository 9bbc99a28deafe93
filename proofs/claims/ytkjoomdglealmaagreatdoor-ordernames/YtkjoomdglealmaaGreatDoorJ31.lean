/- Contracts and lemmas (nothing is claimed here). -/
import Derived.Test.YtkjoomdglealmaaGreatDoorJ13
import Derived.Test.YtkjoomdglealmaaGreatDoorJ4
import Derived.Test.YtkjoomdglealmaaGreatDoorJ20
import Derived.Test.YtkjoomdglealmaaGreatDoorRows
import Derived.ProofKit
import Derived.Lay
import Derived.Lib.LaidTab
import Derived.Shelf.Vars
import Derived.Handed
import Derived.OpenShut
import Derived.LaidLaws
import Derived.LaidHandle
import Derived.RowKitTokens
import Derived.Stop.Joined
import Derived.Test.YtkjoomdglealmaaGreatDoorJ1
import Derived.Deep.Slices
import Derived.SizedLaws
namespace Go.Proofs.YtkjoomdglealmaaGreatDoor
open Go.RowKit Go.Vf

def laidP : List (String × DataW Unit) := [("math/bits.deBruijn32tab", Rows.laid_math_bits_deBruijn32tab), ("math/bits.deBruijn64tab", Rows.laid_math_bits_deBruijn64tab), ("internal/strconv.uint64pow10", Rows.laid_internal_strconv_uint64pow10), ("dovetail/utf.rows", Rows.laid_dovetail_utf_rows), ("dovetail/utf.heads", Rows.laid_dovetail_utf_heads)]
def laidF : List (String × DataW Unit) := [("math/bits.deBruijn32tab", Rows.laid_math_bits_deBruijn32tab), ("math/bits.deBruijn64tab", Rows.laid_math_bits_deBruijn64tab), ("internal/strconv.uint64pow10", Rows.laid_internal_strconv_uint64pow10), ("errors.errorType", Rows.laid_errors_errorType), ("dovetail/utf.rows", Rows.laid_dovetail_utf_rows), ("dovetail/utf.heads", Rows.laid_dovetail_utf_heads)]

theorem gRows : Tryz.prog.globalNamed "dovetail/utf.rows" = some 1 := by kernel_rfl
theorem gHeads : Tryz.prog.globalNamed "dovetail/utf.heads" = some 2 := by kernel_rfl
theorem tRows : (Tryz.prog.globals[1]?).map (·.type) = some 335 := by kernel_rfl
theorem tHeads : (Tryz.prog.globals[2]?).map (·.type) = some 336 := by kernel_rfl
theorem cells48 : Tryz.prog.cellsOf 307 = 7 := by kernel_rfl
theorem cellsU5 : Tryz.prog.cellsOf 5 = 1 := by kernel_rfl
theorem cellsU3 : Tryz.prog.cellsOf 3 = 1 := by kernel_rfl

def rowD {H : Type} (k : Nat) : DataW H := .agg [.lit (.int .u8 ((utab k).first : Int)), .lit (.int .u8 ((utab k).last : Int)), .lit (.int .u8 ((utab k).low : Int)), .lit (.int .u8 ((utab k).high : Int)), .lit (.int .i64 ((utab k).size : Int)), .lit (.int .i64 ((utab k).least : Int)), .lit (.int .i64 ((utab k).most : Int))]
theorem rows_data {H : Type} : (Rows.laid_dovetail_utf_rows : DataW H) = .agg ((List.range 9).map rowD) := rfl
theorem heads_data {H : Type} : (Rows.laid_dovetail_utf_heads : DataW H) = .agg ((List.range 5).map fun k => .lit (.int .u8 (headOf k : Int))) := rfl

theorem one_cell' {l : List Value} {k : Nat} {v : Value} (h : (l.drop k).take 1 = [v]) : l[k]? = some v := by
  have h1 := congrArg (fun x : List Value => x[0]?) h
  simpa using h1

def RowCells (cs : List Value) (k : Nat) : Prop :=
  cs[0]? = some (.int .u8 ((utab k).first : Int)) ∧ cs[1]? = some (.int .u8 ((utab k).last : Int)) ∧ cs[2]? = some (.int .u8 ((utab k).low : Int)) ∧ cs[3]? = some (.int .u8 ((utab k).high : Int)) ∧ cs[4]? = some (.int .i64 ((utab k).size : Int)) ∧ cs[5]? = some (.int .i64 ((utab k).least : Int)) ∧ cs[6]? = some (.int .i64 ((utab k).most : Int))

section
variable {H : Type} {enc : TypeId × Value → H} {w : World} {base fuel : Nat} {spare : Nat → Bool} {held : Bool} {cs : List Value} {x : DataW H × List MemPlace}

theorem int_cell {t : TypeId} {k : IntKind} {n : Int} (ht : Tryz.prog.underlying t = some (.int k)) (h : DataW.trod enc Tryz.prog w base spare held fuel t cs = some x) (hx : x.1 = .lit (.int k n)) : cs = [.int k n] := by
  obtain ⟨m, e1, e2, _⟩ := DataW.trod_int ht h
  rw [e2] at hx
  simp at hx
  rw [e1, hx]

theorem row_cells {k : Nat} (h : DataW.trod enc Tryz.prog w base spare held fuel 307 cs = some x) (hx : x.1 = rowD k) :
    RowCells cs k := by
  obtain ⟨xs, n, _, e, hl, hlen, hf⟩ := DataW.trod_struct Tryz.underlying307 h
  rw [e] at hx
  unfold rowD at hx
  simp only [DataW.agg.injEq] at hx
  match xs, hx with
  | [y0, y1, y2, y3, y4, y5, y6], hx =>
    simp only [List.map_cons, List.map_nil, List.cons.injEq, and_true] at hx
    obtain ⟨g0, g1, g2, g3, g4, g5, g6⟩ := hx
    have q0 : DataW.trod enc Tryz.prog w base spare held n 5 ((cs.drop 0).take (Tryz.prog.cellsOf 5)) = some y0 := hf 0 _ rfl
    rw [cellsU5] at q0
    have q1 : DataW.trod enc Tryz.prog w base spare held n 5 ((cs.drop 1).take (Tryz.prog.cellsOf 5)) = some y1 := hf 1 _ rfl
    rw [cellsU5] at q1
    have q2 : DataW.trod enc Tryz.prog w base spare held n 5 ((cs.drop 2).take (Tryz.prog.cellsOf 5)) = some y2 := hf 2 _ rfl
    rw [cellsU5] at q2
    have q3 : DataW.trod enc Tryz.prog w base spare held n 5 ((cs.drop 3).take (Tryz.prog.cellsOf 5)) = some y3 := hf 3 _ rfl
    rw [cellsU5] at q3
    have q4 : DataW.trod enc Tryz.prog w base spare held n 3 ((cs.drop 4).take (Tryz.prog.cellsOf 3)) = some y4 := hf 4 _ rfl
    rw [cellsU3] at q4
    have q5 : DataW.trod enc Tryz.prog w base spare held n 3 ((cs.drop 5).take (Tryz.prog.cellsOf 3)) = some y5 := hf 5 _ rfl
    rw [cellsU3] at q5
    have q6 : DataW.trod enc Tryz.prog w base spare held n 3 ((cs.drop 6).take (Tryz.prog.cellsOf 3)) = some y6 := hf 6 _ rfl
    rw [cellsU3] at q6
    exact ⟨one_cell' (int_cell Tryz.underlying5 q0 g0), one_cell' (int_cell Tryz.underlying5 q1 g1), one_cell' (int_cell Tryz.underlying5 q2 g2), one_cell' (int_cell Tryz.underlying5 q3 g3), one_cell' (int_cell Tryz.underlying3 q4 g4), one_cell' (int_cell Tryz.underlying3 q5 g5), one_cell' (int_cell Tryz.underlying3 q6 g6)⟩
end


theorem tabs_of_laidF {W : World} (h : laidMet Tryz.prog laidP W) : Tabs W := by
  obtain ⟨ps, ⟨_, _, _, _, _, _, _, _, _, _, ⟨_, _, _, _, _, _, _, _, _, _, ⟨_, _, _, _, _, _, _, _, _, _, ⟨g0, t0, cs0, f0, p0, q0, hg0, ht0, hv0, hd0, ⟨g1, t1, cs1, f1, p1, q1, hg1, ht1, hv1, hd1, _, _⟩, _⟩, _⟩, _⟩, _⟩, _, _⟩ := h
  obtain rfl := Option.some.inj (gRows.symm.trans hg0)
  obtain rfl := Option.some.inj (gHeads.symm.trans hg1)
  obtain rfl := Option.some.inj (tRows.symm.trans ht0)
  obtain rfl := Option.some.inj (tHeads.symm.trans ht1)
  have c0 := World.var?_cell hg0 hv0
  have c1 := World.var?_cell hg1 hv1
  obtain ⟨xs, m, _, e, hl, hn, hel⟩ := DataW.trod_array Tryz.underlying335 hd0
  obtain ⟨ys, m1, _, e1, hl1, hn1, hel1⟩ := DataW.trod_array Tryz.underlying336 hd1
  have hrow : ∀ k, k < 9 → ∃ y : DataW Unit × List MemPlace, xs[k]? = some y ∧ y.1 = rowD k := fun k hk => by
    have e2 : xs.map (·.1) = (List.range 9).map rowD := by
      have := congrArg Prod.fst e
      rw [rows_data] at this
      exact (DataW.agg.inj this).symm
    have e3 := congrArg (fun l : List (DataW Unit) => l[k]?) e2
    simp only [List.getElem?_map, List.getElem?_range hk, Option.map_some] at e3
    obtain ⟨y, h1, h2⟩ := Option.map_eq_some_iff.1 e3
    exact ⟨y, h1, h2⟩
  have hhead : ∀ k, k < 5 → ∃ y : DataW Unit × List MemPlace, ys[k]? = some y ∧ y.1 = .lit (.int .u8 (headOf k : Int)) := fun k hk => by
    have e2 : ys.map (·.1) = (List.range 5).map fun k => .lit (.int .u8 (headOf k : Int)) := by
      have := congrArg Prod.fst e1
      rw [heads_data] at this
      exact (DataW.agg.inj this).symm
    have e3 := congrArg (fun l : List (DataW Unit) => l[k]?) e2
    simp only [List.getElem?_map, List.getElem?_range hk, Option.map_some] at e3
    obtain ⟨y, h1, h2⟩ := Option.map_eq_some_iff.1 e3
    exact ⟨y, h1, h2⟩
  have key : ∀ k, k < 9 → ∀ j v, ((cs0.toList.drop (k * 7)).take 7)[j]? = some v → W.cell? ⟨1, k * 7 + j, none⟩ = some v := fun k hk j v hv => by
    rw [c0]
    simp only [List.getElem?_take, List.getElem?_drop] at hv
    simp at hv
    simpa using hv.2
  have rows : ∀ k, k < 9 → RowCells ((cs0.toList.drop (k * 7)).take 7) k := fun k hk => by
    obtain ⟨y, h1, h2⟩ := hrow k hk
    have h3 := hel k hk
    rw [h1, cells48] at h3
    exact row_cells h3 h2
  refine ⟨?_, fun k hk => key k hk 0 _ (rows k hk).1, fun k hk => key k hk 1 _ (rows k hk).2.1, fun k hk => key k hk 2 _ (rows k hk).2.2.1, fun k hk => key k hk 3 _ (rows k hk).2.2.2.1, fun k hk => key k hk 4 _ (rows k hk).2.2.2.2.1, fun k hk => key k hk 5 _ (rows k hk).2.2.2.2.2.1, fun k hk => key k hk 6 _ (rows k hk).2.2.2.2.2.2, fun k hk => ?_⟩
  · simp only [World.var?, hg1, Option.bind_some] at hv1
    split at hv1
    · rename_i h; have := (Array.getElem?_eq_some_iff.1 h).1; omega
    · cases hv1
  · obtain ⟨y, h1, h2⟩ := hhead k hk
    have h3 := hel1 k hk
    rw [h1, cellsU5, Nat.mul_one] at h3
    have := one_cell' (int_cell Tryz.underlying5 h3 h2)
    rw [c1]
    simpa using this


theorem et_at : Tryz.prog.globalNamed "errors.errorType" = some 0 := by kernel_rfl
theorem et_rtype : (Tryz.prog.cutTypes.find? (·.1 == "internal/reflectlite.rtype")).map (·.2) = some 215 := by kernel_rfl
theorem et_one : ((List.range 425).filter fun t => Tryz.prog.rowNamed t [101, 114, 114, 111, 114]) = [42] := by kernel_rfl
theorem et_size : Tryz.prog.types.size = 425 := by kernel_rfl
theorem laid_parts {W : World} (h : laidMetH Tryz.prog laidF W) : laidMet Tryz.prog laidP W ∧ handlesMet Tryz.prog [("errors.errorType", Rows.laid_errors_errorType)] W := h
theorem err_of_laid {W : World} (h : handlesMet Tryz.prog [("errors.errorType", Rows.laid_errors_errorType)] W) : ErrT W := by
  obtain ⟨name, u, ty, e1, e2, e3, e4, e5⟩ := h _ (List.mem_singleton.2 rfl)
  have en : name = [101, 114, 114, 111, 114] := (Option.some.inj e1).symm
  subst en
  obtain rfl := Option.some.inj (et_rtype.symm.trans e2)
  have hm : ty ∈ (List.range 425).filter fun t => Tryz.prog.rowNamed t [101, 114, 114, 111, 114] := List.mem_filter.2 ⟨List.mem_range.2 (by rw [← et_size]; exact e3), e4⟩
  rw [et_one] at hm
  obtain rfl := List.mem_singleton.1 hm
  have hh : typeHandle Tryz.prog 42 = .pointer (some ⟨9, 42, none⟩) := by kernel_rfl
  rw [hh] at e5
  have := World.var?_cell et_at e5 0
  unfold ErrT
  simpa using this
section
variable {H : Type} {enc : TypeId × Value → H}
theorem returnsInHanded_both {C : Checked} {os : Os} {f : FuncId} {fn : Func} {s : ChangeSpec} {X : World → Array Value → Prop}
    (hX : ∀ (w w' : World) (args : Array Value), w.heap = w'.heap → X w args → X w' args)
    (own : ownKnob C.prog.godebug = none) (started : os.Started) (noInit : C.prog.inits.idxOf? f = none) (hfn : C.prog.funcs[f]? = some fn)
    (witness : ∃ (w : World) (tape : Tape) (i : Input), w.os = os ∧ (w.forCall tape i).Shaped C.prog ∧ i.vars = [] ∧ Input.okWide C.prog (w.forCall tape i) .any w.heap.size f i ∧
      ((s.pre enc C.prog fn [] false (w.forCall tape i).memory i.args ∧ X (w.forCall tape i).memory i.args) ∧ sizedMet enc C.prog fn (OpenSpec.ofChange s) false (w.forCall tape i).memory i.args) ∧ ({} : Assume).holds C.prog (lone (Frame.enter C.prog f i.args .normal) [] (w.forCall tape i)))
    (contract : ∀ (W : World) (base : Nat) (args : Array Value) (ds gs : List (DataW H)) (before : List MemPlace),
      (∀ (j : Nat) t v, fn.params[j]? = some t → args[j]? = some v → Value.okWide C.prog W .any base t v) →
      DataW.Whole enc C.prog fn.params.toList s.vars false W args.toList ds gs before →
      (DataW.weightsEach C.prog (fn.params.toList ++ s.plain.varTypes C.prog) (ds ++ gs)).all (· ≤ reachBytes) = true → X W args → W.ShapedOpen C.prog →
      Calls C.prog f args W fun e W' => ∃ v, e = .returned v ∧ s.post enc C.prog fn false true false false W args v W') :
    ReturnsInHanded {} C os f .any (fun w args => (s.pre enc C.prog fn [] false w args ∧ X w args) ∧ sizedMet enc C.prog fn (OpenSpec.ofChange s) false w args) (s.post enc C.prog fn false true false false) := by
  refine returnsInHanded_of_calls own started noInit witness fun w tape i _ hsh _ hok hpre _ => ?_
  obtain ⟨_, _, _, fn', hfn', _, _, _, _, hval⟩ := hok
  obtain rfl : fn' = fn := Option.some.inj (hfn'.symm.trans hfn)
  obtain ⟨⟨⟨ds, gs, before, hw, _⟩, hx⟩, hz⟩ := hpre
  refine (contract (w.forCall tape i) w.heap.size i.args ds gs before hval (DataW.Whole.of_heap (w' := w.forCall tape i) (by rfl) hw) (hz.weights hw) (hX _ _ _ (by rfl) hx) hsh).mono fun e W' ⟨v, he, hp⟩ => ?_
  subst he
  exact ChangeSpec.post_blind hp
end


noncomputable def laidWorld (os : Os) : World :=
  let w0 := World.laidAll Tryz.prog os laidP
  { w0 with heap := w0.heap.modify 0 fun
      | .cells _ t frozen => .cells #[.iface 215 (.agg #[hnd 42])] t frozen
      | o => o }
theorem laid_met (os : Os) (args : Array Value) : laidMetH Tryz.prog laidF ((laidWorld os).forCall (fun _ _ => 0) ⟨#[], args, []⟩).memory :=
  laidMetH_of_parts (laidMet_of_run' 60 (by kernel_rfl) (by kernel_rfl)) (by kernel_rfl)
theorem laid_shaped (os : Os) (args : Array Value) : ((laidWorld os).forCall (fun _ _ => 0) ⟨#[], args, []⟩).Shaped Tryz.prog := World.shaped_of_ZipB (by kernel_rfl) (by kernel_rfl)
end Go.Proofs.YtkjoomdglealmaaGreatDoor

namespace Go.Proofs.YtkjoomdglealmaaGreatDoor
open Go.ChangeShapes Go.WideShapes Go.ChangeAt Go.RowKit Go.Deep Go.Vf

theorem co30 : Tryz.prog.cellsOf 30 = 6 := by kernel_rfl
theorem co25 : Tryz.prog.cellsOf 25 = 1 := by kernel_rfl
theorem co4 : Tryz.prog.cellsOf 4 = 1 := by kernel_rfl
theorem co27 : Tryz.prog.cellsOf 27 = 2 := by kernel_rfl
theorem co9 : Tryz.prog.cellsOf 9 = 1 := by kernel_rfl
theorem co28 : Tryz.prog.cellsOf 28 = 1 := by kernel_rfl
theorem by30 : Tryz.prog.bytesOf 30 = 72 := by kernel_rfl
theorem reach_eq : reachBytes = 140737488351232 := rfl

theorem choose_list {α : Type} {P : Nat → α → Prop} : ∀ n, (∀ i, i < n → ∃ z, P i z) → ∃ zs : List α, zs.length = n ∧ ∀ i (h : i < zs.length), P i zs[i]
  | 0, _ => ⟨[], rfl, fun i h => absurd h (by simp)⟩
  | n + 1, h => by
    obtain ⟨zs, hl, hz⟩ := choose_list n (fun i hi => h i (by omega))
    obtain ⟨z, hzn⟩ := h n (by omega)
    refine ⟨zs ++ [z], by simp [hl], fun i hi => ?_⟩
    by_cases hin : i < n
    · rw [List.getElem_append_left (by omega)]; exact hz i (by omega)
    · obtain rfl : i = n := by simp [hl] at hi; omega
      rw [List.getElem_append_right (by omega)]
      simpa [hl] using hzn
theorem weightsAll_mem {H : Type} {P : Program} {e : TypeId} : ∀ {l : List (DataW H)} {d : DataW H}, d ∈ l → ∀ n ∈ d.weights P e, n ∈ DataW.weightsAll P e l
  | d' :: r, d, hd, n, hn => by
    simp only [DataW.weightsAll, List.mem_append]
    rcases List.mem_cons.1 hd with rfl | h
    · exact Or.inl hn
    · exact Or.inr (weightsAll_mem h n hn)
theorem list_two {α : Type} {l : List α} (h : l.length = 2) : ∃ a b, l = [a, b] := by
  match l, h with
  | [a, b], _ => exact ⟨a, b, rfl⟩
theorem list_five {α : Type} {l : List α} (h : l.length = 5) : ∃ a b c d e, l = [a, b, c, d, e] := by
  match l, h with
  | [a, b, c, d, e], _ => exact ⟨a, b, c, d, e, rfl⟩
theorem list_six {α : Type} {l : List α} (h : l.length = 6) : ∃ a b c d e f, l = [a, b, c, d, e, f] := by
  match l, h with
  | [a, b, c, d, e, f], _ => exact ⟨a, b, c, d, e, f, rfl⟩

set_option maxHeartbeats 1000000 in
set_option maxRecDepth 20000 in
theorem part_trod {H : Type} {enc : TypeId × Value → H} {W : World} : ∀ (N fuel : Nat), fuel ≤ N → ∀ (cs : List Value) (x : DataW H × List MemPlace), DataW.trod enc Tryz.prog W 0 (fun _ => true) true fuel 30 cs = some x → (∀ n ∈ x.1.weights Tryz.prog 30, n ≤ reachBytes) →
    ∃ (p : Prt) (a : Option Addr) (c : Nat), cs = [.int .u8 p.kind, .bool p.yes, .bool p.neg, .string p.mag, .string p.raw, .slice a p.items.length c] ∧ PIn W 0 W.heap.size p a ∧ Fits p := by
  intro N
  induction N with
  | zero =>
    intro fuel hN cs x h _
    obtain rfl : fuel = 0 := by omega
    simp [DataW.trod] at h
  | succ N ih =>
    intro fuel hN cs x h hw
    obtain ⟨xs, n', hfu, hxe, hcl, hxl, hf⟩ := DataW.trod_struct Tryz.underlying30 h
    have hD : x.1 = .agg (xs.map (·.1)) := congrArg Prod.fst hxe
    rw [co30] at hcl
    obtain ⟨c0, c1, c2, c3, c4, c5, rfl⟩ := list_six hcl
    obtain ⟨x0, x1, x2, x3, x4, rfl⟩ := list_five hxl
    have g0 : DataW.trod enc Tryz.prog W 0 (fun _ => true) true n' 25 (([c0, c1, c2, c3, c4, c5].drop 0).take (Tryz.prog.cellsOf 25)) = some x0 := hf 0 _ rfl
    have g1 : DataW.trod enc Tryz.prog W 0 (fun _ => true) true n' 4 (([c0, c1, c2, c3, c4, c5].drop 1).take (Tryz.prog.cellsOf 4)) = some x1 := hf 1 _ rfl
    have g2 : DataW.trod enc Tryz.prog W 0 (fun _ => true) true n' 27 (([c0, c1, c2, c3, c4, c5].drop 2).take (Tryz.prog.cellsOf 27)) = some x2 := hf 2 _ rfl
    have g3 : DataW.trod enc Tryz.prog W 0 (fun _ => true) true n' 9 (([c0, c1, c2, c3, c4, c5].drop 4).take (Tryz.prog.cellsOf 9)) = some x3 := hf 3 _ rfl
    have g4 : DataW.trod enc Tryz.prog W 0 (fun _ => true) true n' 28 (([c0, c1, c2, c3, c4, c5].drop 5).take (Tryz.prog.cellsOf 28)) = some x4 := hf 4 _ rfl
    rw [co25] at g0
    rw [co4] at g1
    rw [co27] at g2
    rw [co9] at g3
    rw [co28] at g4
    have hwi : ∀ (j : Nat) (t : TypeId) (y : DataW H), ([25, 4, 27, 9, 28] : List TypeId)[j]? = some t → ([x0.1, x1.1, x2.1, x3.1, x4.1] : List (DataW H))[j]? = some y → ∀ q ∈ y.weights Tryz.prog t, q ≤ reachBytes := fun j t y hj hy q hq => hw q (by
      rw [hD]
      simp only [DataW.weights, Tryz.underlying30]
      exact DataW.weights_mem_each (j := j) (t := t) hj hy q hq)
    obtain ⟨z0, e0, _, w0⟩ := DataW.trod_int Tryz.underlying25 (show DataW.trod enc Tryz.prog W 0 (fun _ => true) true n' 25 [c0] = some x0 from g0)
    obtain ⟨z1, e1, _⟩ := DataW.trod_bool Tryz.underlying4 (show DataW.trod enc Tryz.prog W 0 (fun _ => true) true n' 4 [c1] = some x1 from g1)
    obtain ⟨s4, e4, d4, _⟩ := DataW.trod_string Tryz.underlying9 (show DataW.trod enc Tryz.prog W 0 (fun _ => true) true n' 9 [c4] = some x3 from g3)
    obtain ⟨ys, n2, _, hye, _, hyl, hy⟩ := DataW.trod_struct Tryz.underlying27 (show DataW.trod enc Tryz.prog W 0 (fun _ => true) true n' 27 [c2, c3] = some x2 from g2)
    obtain ⟨y0, y1, rfl⟩ := list_two hyl
    have k0 : DataW.trod enc Tryz.prog W 0 (fun _ => true) true n2 4 (([c2, c3].drop 0).take (Tryz.prog.cellsOf 4)) = some y0 := hy 0 _ rfl
    have k1 : DataW.trod enc Tryz.prog W 0 (fun _ => true) true n2 9 (([c2, c3].drop 1).take (Tryz.prog.cellsOf 9)) = some y1 := hy 1 _ rfl
    rw [co4] at k0
    rw [co9] at k1
    obtain ⟨z2, e2, _⟩ := DataW.trod_bool Tryz.underlying4 (show DataW.trod enc Tryz.prog W 0 (fun _ => true) true n2 4 [c2] = some y0 from k0)
    obtain ⟨s3, e3, d3, _⟩ := DataW.trod_string Tryz.underlying9 (show DataW.trod enc Tryz.prog W 0 (fun _ => true) true n2 9 [c3] = some y1 from k1)
    simp only [List.cons.injEq, and_true] at e0 e1 e2 e3 e4
    have hs4 : s4.size ≤ 281474976710656 := by
      have := hwi 3 9 x3.1 rfl rfl s4.data.toList.length (by rw [d4]; simp [DataW.weights])
      rw [reach_eq] at this
      rw [Lib.size_eq]; omega
    have hs3 : s3.size ≤ 281474976710656 := by
      have := hwi 2 27 x2.1 rfl rfl s3.data.toList.length (by
        rw [show x2.1 = .agg ([y0, y1].map (·.1)) from congrArg Prod.fst hye]
        simp only [DataW.weights, Tryz.underlying27]
        refine DataW.weights_mem_each (j := 1) (t := 9) rfl rfl _ ?_
        rw [d3]; simp [DataW.weights])
      rw [reach_eq] at this
      rw [Lib.size_eq]; omega
    have hz0 : 0 ≤ z0 := by have := bounds_u8 w0; omega
    subst e0 e1 e2 e3 e4
    have g4' : DataW.trod enc Tryz.prog W 0 (fun _ => true) true n' 28 [c5] = some x4 := g4
    rcases DataW.trod_slice Tryz.underlying28 g4' with ⟨hcs, _⟩ | ⟨a, len, cap, elems, rest, n, hfn, hcs, hd, _, hl, hm, hlen, hel, hsp, hns⟩
    · simp only [List.cons.injEq, and_true] at hcs
      subst hcs
      exact ⟨.mk z0 z1 z2 s3 s4 [], none, 0, rfl, .nil rfl, .mk hz0 hs4 hs3 (by simp [Prt.items]) (fun x hx => by simp [Prt.items] at hx)⟩
    · simp only [List.cons.injEq, and_true] at hcs
      subst hcs
      have hd1 : x4.1 = .slice (elems.map (·.1)) (rest.map (·.1)) := congrArg Prod.fst hd
      have hwl : len ≤ 281474976710656 := by
        have := hwi 4 28 x4.1 rfl rfl (((elems.map (·.1)).length + (rest.map (·.1)).length) * Tryz.prog.bytesOf 30) (by
          rw [hd1]; simp [DataW.weights, Tryz.underlying28])
        rw [by30, reach_eq] at this
        simp at this
        omega
      have hwd : ∀ i (hi : i < elems.length), ∀ q ∈ (elems[i].1).weights Tryz.prog 30, q ≤ reachBytes := fun i hi q hq => hwi 4 28 x4.1 rfl rfl q (by
        rw [hd1]
        simp only [DataW.weights, Tryz.underlying28, List.mem_cons, List.mem_append]
        exact .inr (.inl (weightsAll_mem (List.mem_map.2 ⟨elems[i], List.getElem_mem hi, rfl⟩) q hq)))
      have hx : ∀ i, i < len → ∃ cs', W.cells? 0 (a.add (i * 6)) 6 = some cs' ∧ ∃ hi : i < elems.length, DataW.trod enc Tryz.prog W 0 (fun _ => true) true n 30 cs' = some elems[i] := by
        intro i hi
        have hie : i < elems.length := by omega
        have h1 := hel i hi
        rw [co30, List.getElem?_eq_getElem hie] at h1
        obtain ⟨cs', q1, q2⟩ := Option.bind_eq_some_iff.1 h1
        exact ⟨cs', q1, hie, q2⟩
      rcases Nat.eq_zero_or_pos len with h0 | h0
      · subst h0
        exact ⟨.mk z0 z1 z2 s3 s4 [], some a, cap, rfl, .nil rfl, .mk hz0 hs4 hs3 (by simp [Prt.items]) (fun x hx => by simp [Prt.items] at hx)⟩
      obtain ⟨b, off, spot⟩ := a
      have hspot : spot = none := by
        obtain ⟨cs', h1, _⟩ := hx 0 (by omega)
        obtain ⟨_, hlen', hcell⟩ := World.cells?_some h1
        have hc := hcell 0 (by omega)
        obtain ⟨c0, c1, c2, c3, c4, c5, rfl⟩ := list_six hlen'
        have := World.cell?_spot hc
        simpa [Addr.add] using this
      subst hspot
      have each : ∀ i, i < len → ∃ y : Prt × Option Addr × Nat, Row6 W b (off + i * 6) y.1 y.2.1 y.2.2 ∧ PIn W 0 W.heap.size y.1 y.2.1 ∧ Fits y.1 := by
        intro i hi
        obtain ⟨cs', h1, hie, h2⟩ := hx i (by omega)
        rw [Go.WideShapes.add_plain] at h1
        obtain ⟨_, hlen', hcell⟩ := World.cells?_some h1
        obtain ⟨p, a', c', e, hp, hfp⟩ := ih n (by omega) cs' elems[i] h2 (hwd i hie)
        subst e
        have k0 := hcell 0 (by simp)
        have k1 := hcell 1 (by simp)
        have k2 := hcell 2 (by simp)
        have k3 := hcell 3 (by simp)
        have k4 := hcell 4 (by simp)
        have k5 := hcell 5 (by simp)
        rw [Go.WideShapes.add_plain] at k0 k1 k2 k3 k4 k5
        refine ⟨(p, a', c'), ⟨?_, ?_, ?_, ?_, ?_, ?_⟩, hp, hfp⟩
        · simpa using k0
        · simpa using k1
        · simpa using k2
        · simpa using k3
        · simpa using k4
        · simpa using k5
      obtain ⟨L, hLl, hLz⟩ := choose_list len each
      refine ⟨.mk z0 z1 z2 s3 s4 (L.map (·.1)), some ⟨b, off, none⟩, cap, ?_, ?_, .mk hz0 hs4 hs3 (by simp [Prt.items, hLl]; omega) (fun x hx => ?_)⟩
      · simp [Prt.kind, Prt.yes, Prt.neg, Prt.mag, Prt.raw, Prt.items, hLl]
      · have hq := (hLz 0 (by omega)).1.c0
        have hblk := World.block_lt_of_cell? W _ hq
        refine .cons (fun j => ((L[j]?).map (·.2.1)).getD none) (fun j => ((L[j]?).map (·.2.2)).getD 0) (by omega) hblk (fun j hj => ?_) (fun j hj => ?_)
        · have hj' : j < L.length := by simpa [Prt.items] using hj
          have := (hLz j hj').1
          simpa [Prt.items, hj'] using this
        · have hj' : j < L.length := by simpa [Prt.items] using hj
          have := (hLz j hj').2.1
          simpa [Prt.items, hj'] using this
      · simp only [Prt.items, List.mem_map] at hx
        obtain ⟨y, hy, rfl⟩ := hx
        obtain ⟨i, hi, rfl⟩ := List.mem_iff_getElem.1 hy
        exact (hLz i hi).2.2

set_option maxRecDepth 20000 in
theorem part_open {H : Type} {enc : TypeId × Value → H} {base : Nat} {W : World} (v : Value) (d : DataW H) (pl : List MemPlace) (hok : Value.okWide Tryz.prog W .any base 30 v)
    (h : DataW.Trod enc Tryz.prog W 0 (fun _ => true) true 30 v d pl) (hw : ∀ n ∈ d.weights Tryz.prog 30, n ≤ reachBytes) : ∃ (p : Prt) (a : Option Addr) (c : Nat), v = pV p a c ∧ PIn W 0 W.heap.size p a ∧ Fits p := by
  obtain ⟨cs, rfl, _⟩ := okWide_struct Tryz.underlying30 hok
  obtain ⟨fuel, hf⟩ := h
  obtain ⟨p, a, c, e, hp, hfp⟩ := part_trod fuel fuel (Nat.le_refl _) _ _ hf hw
  refine ⟨p, a, c, ?_, hp, hfp⟩
  simp only [Value.cells] at e
  unfold pV
  obtain ⟨l⟩ := cs
  simp only at e
  rw [e]
end Go.Proofs.YtkjoomdglealmaaGreatDoor
