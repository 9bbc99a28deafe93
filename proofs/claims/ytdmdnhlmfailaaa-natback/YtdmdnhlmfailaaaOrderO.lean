/- Numbers that came in, opened (nothing is claimed here). -/
import Derived.Test.YtdmdnhlmfailaaaOrderW
import Derived.ProofKit
import Derived.OpenShut
import Derived.Lib.SmallJoins
namespace Go.Proofs.Ytdmdnhlmfailaaa
open Go.ChangeShapes Go.WideShapes Go.ChangeAt Go.RowKit Go.Vf

theorem num_open {H : Type} {enc : TypeId × Value → H} {base : Nat} (v : Value) (d : DataW H) (pl : List MemPlace) {W : World} (hok : Value.okWide Try.prog W .any base 26 v) (h : DataW.Trod enc Try.prog W 0 (fun _ => true) true 26 v d pl) :
    ∃ b m, v = numV b m ∧ m.size ≤ maxLen := by
  obtain ⟨v0, v1, y0, y1, n, rfl, _, _, h0, h1⟩ := Go.Joins.open_agg2 Try.underlying26 (by kernel_rfl) (by kernel_rfl) hok h
  obtain ⟨b, e0, _⟩ := DataW.trod_bool Try.underlying4 h0
  obtain ⟨m, e1, _, hm⟩ := DataW.trod_string Try.underlying9 h1
  simp at e0 e1
  subst e0 e1
  exact ⟨b, m, rfl, hm⟩

theorem order_open {H : Type} {enc : TypeId × Value → H} {base : Nat} {W : World} (v0 : Value) (d0 : DataW H) (p0 : List MemPlace) (ok0 : Value.okWide Try.prog W .any base 26 v0) (h0 : DataW.Trod enc Try.prog W 0 (fun _ => true) true 26 v0 d0 p0)
    (v1 : Value) (d1 : DataW H) (p1 : List MemPlace) (ok1 : Value.okWide Try.prog W .any base 26 v1) (h1 : DataW.Trod enc Try.prog W 0 (fun _ => true) true 26 v1 d1 p1) (X : ByteArray) (_wX : X.size ≤ maxLen) (Y : ByteArray) (_wY : Y.size ≤ maxLen) (W' : World) (hW : W' = W) :
    Calls Try.prog 7 #[v0, v1, .string X, .string Y] W' fun e w' => e = .returned (.bool true) ∧ Below W'.heap.size W' w' := by
  subst hW
  obtain ⟨p, A, rfl, _⟩ := num_open v0 d0 p0 ok0 h0
  obtain ⟨q, B, rfl, _⟩ := num_open v1 d1 p1 ok1 h1
  exact order_walk p A q B X Y W'
end Go.Proofs.Ytdmdnhlmfailaaa
