/- Lists that are grown one by one (lemmas of the verifier's own; nothing is claimed here). -/
import Derived.Test.YtjlgmoakdaeinaaDoorOwnedA
namespace Go.Proofs.YtjlgmoakdaeinaaDoor
open Go.RowKit Go.Vf

/-- A list of the call's own, read alone. -/
def Rd (H : Nat) (w : World) (v : Value) (zs : List Int) : Prop := (v = .slice none 0 0 ∧ zs = []) ∨ ∃ g cap, v = .slice (some ⟨g, 0, none⟩) zs.length cap ∧ g < H ∧ ∀ j, j < zs.length → w.cell? ⟨g, j, none⟩ = some (.int .i64 (zs[j]?.getD 0))

theorem IOwn.rd {w : World} {base H : Nat} {v : Value} {zs : List Int} (h : IOwn w base v zs) (hb : ∀ b, v.ownBlock = some b → b < H) : Rd H w v zs := by
  rcases h.form with h | ⟨g, cap, rfl, _, _, _, hc, _⟩
  · exact .inl h
  · exact .inr ⟨g, cap, rfl, hb g rfl, hc⟩

theorem Rd.grown {H : Nat} {w w' : World} {row : Option Nat} {v : Value} {zs : List Int} (h : Rd H w v zs) (hg : w.grownBy w' row) (hn : H ≤ w.heap.size) (hne : ∀ b, v.ownBlock = some b → row ≠ some b) : Rd H w' v zs := by
  rcases h with h | ⟨b, cap, rfl, hb, hc⟩
  · exact .inl h
  · refine .inr ⟨b, cap, rfl, hb, fun j hj => ?_⟩
    rw [World.cell?_of_block (w := w) (hg.block b (by omega) (fun e => hne b rfl e.symm))]
    exact hc j hj

theorem own_grown {w w' : World} {row : Option Nat} {base : Nat} {e : TypeId} {size : Nat} {v : Value} {k : Nat} {xs : List Value} (h : w.ownsRow base e size v k xs) (hg : w.grownBy w' row) (hne : ∀ b, v.ownBlock = some b → row ≠ some b) : w'.ownsRow base e size v k xs := by
  refine World.ownsRow.kept h hg ?_
  cases hv : v.ownBlock with
  | none => exact .inl rfl
  | some b => exact .inr (fun e => hne b hv e.symm)

theorem own_lt {w : World} {base : Nat} {e : TypeId} {size : Nat} {v : Value} {k : Nat} {xs : List Value} (h : w.ownsRow base e size v k xs) {b : Nat} (hb : v.ownBlock = some b) : b < w.heap.size := by
  obtain ⟨_, _, _, h3⟩ := own_ge h hb
  exact (Array.getElem?_eq_some_iff.1 h3).1

def cont (C : Nat → List Int) (j : Nat) : List Int := List.replicate (C j).length (1000 + (j : Int))
def grownTo (C : Nat → List Int) (j k : Nat) : List Int := cont C j ++ List.replicate k (5000 + (j : Int))

/-- All but the list that grows: the list of lists, the list of grown ones, what is to come, what is read, what has grown. -/
structure Rest (w : World) (base H : Nat) (T LV : Value) (vs xs : List Value) (i : Nat) (C : Nat → List Int) : Prop where
  rowT : LOwn w base T vs
  rowL : LOwn w H LV xs
  come : ∀ j (h : j < vs.length), i < j → IOwn w base vs[j] (cont C j)
  read : ∀ j (h : j < vs.length), j ≠ i → Rd H w vs[j] (cont C j)
  done_ : ∀ j (h : j < xs.length), IOwn w base xs[j] (grownTo C j 40)

/-- What is fixed. -/
structure Fixed (H Hi : Nat) (T : Value) (vs xs : List Value) (i : Nat) : Prop where
  lenX : xs.length = i
  le : i ≤ vs.length
  HHi : H ≤ Hi
  below : ∀ j (h : j < vs.length) b, vs[j].ownBlock = some b → b < H
  belowT : ∀ b, T.ownBlock = some b → b < H
  place : ∀ j (h : j < xs.length) (hv : j < vs.length) b, xs[j].ownBlock = some b → (vs[j].ownBlock = some b ∨ H ≤ b) ∧ b < Hi
  apart : ∀ i j (hi : i < vs.length) (hj : j < vs.length), i ≠ j → ∀ b, vs[i].ownBlock = some b → vs[j].ownBlock ≠ some b

/-- The list that grows is where it was, or in a new block. -/
def Lies (Hi : Nat) (v x : Value) : Prop := x.ownBlock = v.ownBlock ∨ ∃ b, x.ownBlock = some b ∧ Hi ≤ b

theorem Rest.grown {w w' : World} {base H Hi : Nat} {T LV : Value} {vs xs : List Value} {i : Nat} {C : Nat → List Int} (r : Rest w base H T LV vs xs i C) (f : Fixed H Hi T vs xs i) (hi : i < vs.length) (hH : H ≤ w.heap.size) {x : Value} {zs : List Int} (hx : IOwn w base x zs) (hl : Lies Hi vs[i] x) (hg : w.grownBy w' x.ownBlock) : Rest w' base H T LV vs xs i C := by
  have avs : ∀ j (h : j < vs.length), j ≠ i → ∀ b, vs[j].ownBlock = some b → x.ownBlock ≠ some b := fun j hj hne b hb hxb => by
    rcases hl with hl | ⟨b', hb', hge⟩
    · rw [hl] at hxb
      exact f.apart i j hi hj (fun e => hne e.symm) b hxb hb
    · rw [hb'] at hxb
      have e : b' = b := Option.some.inj hxb
      have := f.below j hj b hb
      have := f.HHi
      omega
  have axs : ∀ j (h : j < xs.length), ∀ b, xs[j].ownBlock = some b → x.ownBlock ≠ some b := fun j hj b hb hxb => by
    have hjv : j < vs.length := by have := f.lenX; omega
    have hji : j ≠ i := by have := f.lenX; omega
    obtain ⟨h1, h2⟩ := f.place j hj hjv b hb
    rcases hl with hl | ⟨b', hb', hge⟩
    · rw [hl] at hxb
      rcases h1 with h1 | h1
      · exact f.apart i j hi hjv (fun e => hji e.symm) b hxb h1
      · have := f.below i hi b hxb
        omega
    · rw [hb'] at hxb
      have e : b' = b := Option.some.inj hxb
      omega
  exact ⟨own_grown r.rowT hg (fun b hb hxb => own_ne hx r.rowT (by decide) hxb hb), own_grown r.rowL hg (fun b hb hxb => own_ne hx r.rowL (by decide) hxb hb),
    fun j h hij => own_grown (r.come j h hij) hg (avs j h (by omega)), fun j h hne => (r.read j h hne).grown hg hH (avs j h hne), fun j h => own_grown (r.done_ j h) hg (axs j h)⟩

theorem Rest.new {w w' : World} {base H : Nat} {T LV : Value} {vs xs : List Value} {i : Nat} {C : Nat → List Int} (r : Rest w base H T LV vs xs i C) (hH : H ≤ w.heap.size) (hg : w.grownBy w' none) : Rest w' base H T LV vs xs i C :=
  ⟨own_grown r.rowT hg (fun _ _ => by simp), own_grown r.rowL hg (fun _ _ => by simp), fun j h hij => own_grown (r.come j h hij) hg (fun _ _ => by simp), fun j h hne => (r.read j h hne).grown hg hH (fun _ _ => by simp), fun j h => own_grown (r.done_ j h) hg (fun _ _ => by simp)⟩

/-- The grown list's elder value reads as it did. -/
theorem read_kept {w w' : World} {base H Hi : Nat} {v x x' : Value} {zs ys : List Int} {n : Int} (hr : Rd H w v zs) (hv : ∀ b, v.ownBlock = some b → b < H) (hHi : H ≤ Hi) (hH : H ≤ w.heap.size) (hl : Lies Hi v x) (hx' : IOwn w' base x' ((zs ++ ys) ++ [n])) (hg : w.grownBy w' x.ownBlock)
    (hat : x'.ownBlock = x.ownBlock ∨ (x'.ownBlock = some w.heap.size ∧ w.grownBy w' none)) : Rd H w' v zs := by
  rcases hl with hl | ⟨b, hb, hge⟩
  · rcases hat with hat | ⟨_, hg2⟩
    · rcases hr with hr | ⟨g, cap, rfl, hgH, hc⟩
      · exact .inl hr
      · rw [hl] at hat
        rcases hx'.form with ⟨h, _⟩ | ⟨g', cap', rfl, _, _, _, hc', _⟩
        · rw [h] at hat; cases hat
        · have e : g' = g := by simpa [Value.ownBlock] using hat
          subst e
          refine .inr ⟨g', cap, rfl, hgH, fun j hj => ?_⟩
          rw [hc' j (by simp; omega), List.append_assoc, List.getElem?_append_left hj]
    · exact hr.grown hg2 hH (fun _ _ => by simp)
  · refine hr.grown hg hH (fun b' hb' e => ?_)
    rw [hb] at e
    have e2 : b = b' := Option.some.inj e
    have := hv b' hb'
    omega

theorem lies_next {w w' : World} {Hi : Nat} {v x x' : Value} (hl : Lies Hi v x) (hw : Hi ≤ w.heap.size) (hat : x'.ownBlock = x.ownBlock ∨ (x'.ownBlock = some w.heap.size ∧ w.grownBy w' none)) : Lies Hi v x' := by
  rcases hat with hat | ⟨hat, _⟩
  · rcases hl with hl | ⟨b, hb, hge⟩
    · exact .inl (hat.trans hl)
    · exact .inr ⟨b, hat.trans hb, hge⟩
  · exact .inr ⟨_, hat, hw⟩

/-- What holds ahead of the round of list i. -/
structure Ahead (w : World) (base H : Nat) (T LV : Value) (vs xs : List Value) (i : Nat) (C : Nat → List Int) : Prop where
  rest : Rest w base H T LV vs xs i C
  own : ∀ (h : i < vs.length), IOwn w base vs[i] (cont C i)
  rd : ∀ (h : i < vs.length), Rd H w vs[i] (cont C i)
  fixed : Fixed H w.heap.size T vs xs i

theorem Ahead.next {w w' : World} {base H Hi : Nat} {T LV LV' x : Value} {vs xs : List Value} {i : Nat} {C : Nat → List Int} (r : Rest w base H T LV vs xs i C) (f : Fixed H Hi T vs xs i) (hi : i < vs.length) (hx : IOwn w base x (grownTo C i 40)) (hl : Lies Hi vs[i] x) (hrd : Rd H w vs[i] (cont C i)) (hH : H ≤ w.heap.size)
    (hHi : Hi ≤ w.heap.size) (hL : LOwn w' H LV' (xs ++ [x])) (hg : w.grownBy w' LV.ownBlock) : Ahead w' base H T LV' vs (xs ++ [x]) (i + 1) C := by
  have aT : ∀ b, T.ownBlock = some b → LV.ownBlock ≠ some b := fun b hb hL2 => by
    have := f.belowT b hb
    have := (own_ge r.rowL hL2).1
    omega
  have aI : ∀ {v : Value} {zs : List Int}, IOwn w base v zs → ∀ b, v.ownBlock = some b → LV.ownBlock ≠ some b := fun hv b hb => own_ne hv r.rowL (by decide) hb
  have aR : ∀ j (h : j < vs.length) b, vs[j].ownBlock = some b → LV.ownBlock ≠ some b := fun j h b hb hL2 => by
    have := f.below j h b hb
    have := (own_ge r.rowL hL2).1
    omega
  have hsz := hg.size
  have hxl : (xs ++ [x]).length = i + 1 := by rw [List.length_append, f.lenX]; rfl
  refine ⟨⟨own_grown r.rowT hg aT, hL, fun j h hij => own_grown (r.come j h (by omega)) hg (aI (r.come j h (by omega))), fun j h hne => ?_, fun j h => ?_⟩, fun h => own_grown (r.come (i + 1) h (by omega)) hg (aI (r.come (i + 1) h (by omega))), fun h => (r.read (i + 1) h (by omega)).grown hg hH (aR _ h), ?_⟩
  · by_cases e : j = i
    · subst e; exact hrd.grown hg hH (aR _ h)
    · exact (r.read j h e).grown hg hH (aR _ h)
  · by_cases e : j < xs.length
    · rw [List.getElem_append_left e]
      exact own_grown (r.done_ j e) hg (aI (r.done_ j e))
    · have e2 : j = i := by have := f.lenX; omega
      rw [List.getElem_append_right (by omega)]
      simp only [List.getElem_singleton]
      rw [e2]
      exact own_grown hx hg (aI hx)
  · refine ⟨hxl, hi, by omega, f.below, f.belowT, fun j h hv b hb => ?_, f.apart⟩
    by_cases e : j < xs.length
    · rw [List.getElem_append_left e] at hb
      obtain ⟨h1, h2⟩ := f.place j e hv b hb
      exact ⟨h1, by omega⟩
    · have e2 : j = i := by have := f.lenX; omega
      rw [List.getElem_append_right (by omega)] at hb
      simp only [List.getElem_singleton] at hb
      have hlt := own_lt hx hb
      subst e2
      rcases hl with hl | ⟨b', hb', hge⟩
      · exact ⟨.inl (hl ▸ hb), by omega⟩
      · rw [hb'] at hb
        have e3 : b' = b := Option.some.inj hb
        have := f.HHi
        exact ⟨.inr (by omega), by omega⟩

theorem grownTo_succ (C : Nat → List Int) (i k : Nat) : grownTo C i k ++ [5000 + (i : Int)] = grownTo C i (k + 1) := by
  unfold grownTo; rw [List.append_assoc]; congr 1; rw [List.replicate_succ']
theorem grownTo_zero (C : Nat → List Int) (i : Nat) : grownTo C i 0 = cont C i := by simp [grownTo]
theorem grownTo_length (C : Nat → List Int) (i k : Nat) : (grownTo C i k).length = (C i).length + k := by simp [grownTo, cont]
theorem cont_length (C : Nat → List Int) (i : Nat) : (cont C i).length = (C i).length := by simp [cont]

end Go.Proofs.YtjlgmoakdaeinaaDoor
