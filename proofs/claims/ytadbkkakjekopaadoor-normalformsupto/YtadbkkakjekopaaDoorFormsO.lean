/- NormalForms, at what came in (nothing is claimed here). -/
import Derived.Test.YtadbkkakjekopaaDoorIntsO
import Derived.Test.YtadbkkakjekopaaDoorFormsW
namespace Go.Proofs.YtadbkkakjekopaaDoor
open Go.ChangeShapes Go.WideShapes Go.ChangeAt Go.RowKit Go.Deep Go.Vf
set_option maxRecDepth 100000 in
theorem forms_open {H : Type} {enc : TypeId × Value → H} {base : Nat} {W : World} (s : ByteArray) (hs : s.size ≤ 281474976710656) (v : Value) (d : DataW H) (pl : List MemPlace) (hv : Value.okWide Tryd.prog W .any base 22 v)
    (h : DataW.Trod enc Tryd.prog W 0 (fun _ => true) true 22 v d pl) (hw : ∀ n ∈ d.weights Tryd.prog 22, n ≤ reachBytes) (hx : Rows.uptoBulk d ≤ 1048576) (u : Value) (d2 : DataW H) (pl2 : List MemPlace) (hv2 : Value.okWide Tryd.prog W .any base 22 u)
    (h2 : DataW.Trod enc Tryd.prog W 0 (fun _ => true) true 22 u d2 pl2) (hw2 : ∀ n ∈ d2.weights Tryd.prog 22, n ≤ reachBytes) (hx2 : Rows.uptoBulk d2 ≤ 1048576) (W' : World) (hg : Glob W') (hW : W' = W) :
    Calls Tryd.prog 3 #[.string s, v, u] W' fun e w' => e = .returned (.bool true) ∧ Below W'.heap.size W' w' := by
  subst hW
  obtain ⟨a, k, c, zs, rfl, hn, hf⟩ := numb_open v d pl hv h hw hx
  obtain ⟨a2, k2, c2, ys, rfl, hn2, hf2⟩ := numb_open u d2 pl2 hv2 h2 hw2 hx2
  cases hl : loadR s.data.toList with
  | error e => exact forms_bad s hs _ _ W' hg e.1 e.2 hl
  | ok p => exact forms_good s hs a a2 k c k2 c2 zs ys W' hg p.1 p.2 hl hn hn2 hf hf2
end Go.Proofs.YtadbkkakjekopaaDoor
