/- Calls and a span that came in, and ShelfParts (nothing is claimed here). -/
import Derived.Test.YtklnnkdcnaieoaaPtw
import Derived.Lib.SmallJoins
namespace Go.Proofs.Ytklnnkdcnaieoaa
open Go.ChangeShapes Go.WideShapes Go.ChangeAt Go.RowKit Go.Vf

theorem spanO {H : Type} {enc : TypeId × Value → H} {base : Nat} (v : Value) (d : DataW H) (pl : List MemPlace) {W : World} (hok : Value.okWide Try.prog W .any base 29 v) (h : DataW.Trod enc Try.prog W 0 (fun _ => true) true 29 v d pl) :
    ∃ f t o, v = .agg #[.string f, .string t, .bool o] := by
  obtain ⟨v0, v1, v2, y0, y1, y2, n, rfl, _, _, h0, h1, h2⟩ := Go.Joins.open_agg3 Try.underlying29 (by kernel_rfl) (by kernel_rfl) hok h
  obtain ⟨f, e0, _, _⟩ := DataW.trod_string Try.underlying9 h0
  obtain ⟨t, e1, _, _⟩ := DataW.trod_string Try.underlying9 h1
  obtain ⟨o, e2, _⟩ := DataW.trod_bool Try.underlying4 h2
  simp at e0 e1 e2
  subst e0 e1 e2
  exact ⟨f, t, o, rfl⟩
theorem parts_open {H : Type} {enc : TypeId × Value → H} {base : Nat} {W : World} (v0 : Value) (d0 : DataW H) (p0 : List MemPlace) (ok0 : Value.okWide Try.prog W .any base 22 v0) (h0 : DataW.Trod enc Try.prog W 0 (fun _ => true) true 22 v0 d0 p0)
    (v1 : Value) (d1 : DataW H) (p1 : List MemPlace) (ok1 : Value.okWide Try.prog W .any base 29 v1) (h1 : DataW.Trod enc Try.prog W 0 (fun _ => true) true 29 v1 d1 p1) (q : ByteArray) (_wq : q.size ≤ maxLen) (W' : World) (hW : W' = W) :
    Calls Try.prog 5 #[v0, v1, .string q] W' fun e w' => e = .returned (.bool true) ∧ Below W'.heap.size W' w' := by
  subst hW
  obtain ⟨l, a, c, rfl, hA, _, hl⟩ := acts_open v0 d0 p0 ok0 h0
  obtain ⟨f, t, o, rfl⟩ := spanO v1 d1 p1 ok1 h1
  exact parts_walk W' a c l f t q o hA hl
end Go.Proofs.Ytklnnkdcnaieoaa
