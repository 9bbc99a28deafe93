/- NormalTurns, at what came in (nothing is claimed here). -/
import Derived.Test.YtadbkkakjekopaaDoorIntsO
import Derived.Test.YtadbkkakjekopaaDoorTurnsW
namespace Go.Proofs.YtadbkkakjekopaaDoor
open Go.ChangeShapes Go.WideShapes Go.ChangeAt Go.RowKit Go.Deep Go.Vf
set_option maxRecDepth 100000 in
theorem turns_open {H : Type} {enc : TypeId × Value → H} {base : Nat} {W : World} (s : ByteArray) (hs : s.size ≤ 281474976710656) (v : Value) (d : DataW H) (pl : List MemPlace) (hv : Value.okWide Tryd.prog W .any base 22 v)
    (h : DataW.Trod enc Tryd.prog W 0 (fun _ => true) true 22 v d pl) (hw : ∀ n ∈ d.weights Tryd.prog 22, n ≤ reachBytes) (hx : Rows.uptoBulk d ≤ 1048576) (at0 : Int) (hat : (Lit.int .i64 at0).wf = true) (W' : World) (hg : Glob W') (hW : W' = W) :
    Calls Tryd.prog 5 #[.string s, v, .int .i64 at0] W' fun e w' => e = .returned (.bool true) ∧ Below W'.heap.size W' w' := by
  subst hW
  obtain ⟨a, k, c, zs, rfl, hn, hf⟩ := numb_open v d pl hv h hw hx
  have hI : InI at0 := by
    have := bounds_i64 hat
    unfold InI
    omega
  cases hl : loadR s.data.toList with
  | error e => exact turns_bad s hs _ _ W' hg e.1 e.2 hl
  | ok p => exact turns_good s hs a k c zs at0 W' hI hg p.1 p.2 hl hn hf
end Go.Proofs.YtadbkkakjekopaaDoor
