/- Values and parts stay where they lie (lemmas; nothing is claimed here). -/
import Derived.Test.YtedmmifflbnmbaaDoorAwk
import Derived.Test.YtedmmifflbnmbaaDoorRSame
namespace Go.Proofs.YtedmmifflbnmbaaDoor
open Go.RowKit Go.Vf
theorem VIn.go {w w' : World} {lo : Nat} {v : Value} {p : Prt} (h : VIn w lo w.heap.size v p) (hb : Below w.heap.size w w') : VIn w' 0 w'.heap.size v p := (h.old hb (Nat.le_refl _)).mono hb.size (Nat.zero_le _)
theorem PIn.go {w w' : World} {lo : Nat} {p : Prt} {a : Option Addr} (h : PIn w lo w.heap.size p a) (hb : Below w.heap.size w w') : PIn w' 0 w'.heap.size p a := (h.keep hb (Nat.le_refl _)).mono hb.size (Nat.zero_le _)
theorem wpAnyH_takeD {P : Program} {md : Region.Mode} {ops : Array Oper} {Q : Exit → Act → World → Prop} {S : World → Prop} {i : Nat} {oi : Oper} {v : Value} {fuel : Nat} {listed : Array Bool} {a : Act} {w : World} (d : Option Nat) (hi : ops[i]? = some oi) (hd : oi.dst = d)
    (hs : Region.noSelect ops = true) (hf : Region.free md ops listed i = true) (hr : (Region.ready md ops listed).contains i = true)
    (hQ : ∀ c a w, Q (.panic c) (a.put oi.dst v) w → Q (.panic c) a w) (hy : YieldsIf P ops S oi v a) (hS : S w)
    (h : wpAnyH P md ops Q S fuel (listed.setIfInBounds i true) (a.put d v) w) : wpAnyH P md ops Q S (fuel + 1) listed a w := by
  subst hd
  exact wpAnyH_take hi hs hf hr hQ hy hS h
end Go.Proofs.YtedmmifflbnmbaaDoor
