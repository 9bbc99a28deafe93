/- NormalNil: no data: nothing (a walk; nothing is claimed here). -/
import Derived.Test.YtadbkkakjekopaaDoorAwakeN
namespace Go.Proofs.YtadbkkakjekopaaDoor
open Go.RowKit Go.Vf Go.Maps

set_option maxHeartbeats 1000000 in
set_option maxRecDepth 20000 in
theorem nil_walk (v u : Value) (w : World) (hg : Glob w) : Calls Tryd.prog 6 #[v, u] w fun e w' => e = .returned (.bool true) ∧ Below w.heap.size w w' := by
  have h1 := awake_any w hg
  go_enter Tryd.func6, Tryd.ntmps6
  go_wp2_with fail
  refine h1.mono ?_
  rintro e w1 ⟨rfl, hb1⟩
  clear h1
  go_wp2_with fail
  refine (form_nil v w1).mono ?_
  rintro e w2 ⟨rfl, hb2⟩
  have hb12 := hb1.trans (hb2.mono hb1.size)
  clear hb1 hb2
  go_wp2_with fail
  refine (is_nil v w2).mono ?_
  rintro e w3 ⟨rfl, rfl⟩
  go_wp2_with fail
  refine (same_nil v u w3).mono ?_
  rintro e w4 ⟨rfl, rfl⟩
  go_wp2
  go_ret
  exact ⟨rfl, hb12⟩
theorem nil_open {H : Type} {enc : TypeId × Value → H} {base : Nat} {W : World} (v : Value) (d : DataW H) (pl : List MemPlace) (_ : Value.okWide Tryd.prog W .any base 22 v)
    (_ : DataW.Trod enc Tryd.prog W 0 (fun _ => true) true 22 v d pl) (_ : ∀ n ∈ d.weights Tryd.prog 22, n ≤ reachBytes) (u : Value) (d2 : DataW H) (pl2 : List MemPlace) (_ : Value.okWide Tryd.prog W .any base 22 u)
    (_ : DataW.Trod enc Tryd.prog W 0 (fun _ => true) true 22 u d2 pl2) (_ : ∀ n ∈ d2.weights Tryd.prog 22, n ≤ reachBytes) (W' : World) (hg : Glob W') (_ : W' = W) :
    Calls Tryd.prog 6 #[v, u] W' fun e w' => e = .returned (.bool true) ∧ Below W'.heap.size W' w' := nil_walk v u W' hg
end Go.Proofs.YtadbkkakjekopaaDoor
