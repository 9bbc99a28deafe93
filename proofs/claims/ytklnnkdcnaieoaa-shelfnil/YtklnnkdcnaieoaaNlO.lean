/- A span that came in, opened (nothing is claimed here). -/
import Derived.Test.YtklnnkdcnaieoaaNlW
import Derived.ProofKit
import Derived.OpenShut
import Derived.Lib.SmallJoins
namespace Go.Proofs.Ytklnnkdcnaieoaa
open Go.ChangeShapes Go.WideShapes Go.ChangeAt Go.RowKit Go.Vf

theorem span_open {H : Type} {enc : TypeId × Value → H} {base : Nat} (v : Value) (d : DataW H) (pl : List MemPlace) {W : World} (hok : Value.okWide Try.prog W .any base 29 v) (h : DataW.Trod enc Try.prog W 0 (fun _ => true) true 29 v d pl) :
    ∃ f t o, v = .agg #[.string f, .string t, .bool o] ∧ f.size ≤ maxLen ∧ t.size ≤ maxLen := by
  obtain ⟨v0, v1, v2, y0, y1, y2, n, rfl, _, _, h0, h1, h2⟩ := Go.Joins.open_agg3 Try.underlying29 (by kernel_rfl) (by kernel_rfl) hok h
  obtain ⟨f, e0, _, hf⟩ := DataW.trod_string Try.underlying9 h0
  obtain ⟨t, e1, _, ht⟩ := DataW.trod_string Try.underlying9 h1
  obtain ⟨o, e2, _⟩ := DataW.trod_bool Try.underlying4 h2
  simp at e0 e1 e2
  subst e0 e1 e2
  exact ⟨f, t, o, rfl, hf, ht⟩
theorem nil_open {H : Type} {enc : TypeId × Value → H} {base : Nat} {W : World} (k : ByteArray) (_wk : k.size ≤ maxLen) (v : ByteArray) (_wv : v.size ≤ maxLen) (v0 : Value) (d0 : DataW H) (p0 : List MemPlace) (ok0 : Value.okWide Try.prog W .any base 29 v0) (h0 : DataW.Trod enc Try.prog W 0 (fun _ => true) true 29 v0 d0 p0)
    (back : Bool) (W' : World) (hW : W' = W) :
    Calls Try.prog 6 #[.string k, .string v, v0, .bool back] W' fun e w' => e = .returned (.bool true) ∧ Below W'.heap.size W' w' := by
  subst hW
  obtain ⟨f, t, o, rfl, _, _⟩ := span_open v0 d0 p0 ok0 h0
  exact nil_any k v f t o back W'
end Go.Proofs.Ytklnnkdcnaieoaa
