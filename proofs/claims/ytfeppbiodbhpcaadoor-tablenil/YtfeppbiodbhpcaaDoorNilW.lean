/- TableNil: no table: nothing (a walk; nothing is claimed here). -/
import Derived.Test.YtfeppbiodbhpcaaDoorLaid
namespace Go.Proofs.YtfeppbiodbhpcaaDoor
open Go.RowKit Go.Vf Go.Maps

set_option maxHeartbeats 1000000 in
set_option maxRecDepth 20000 in
theorem nil_walk (v : Value) (x : Int) (w : World) (hg : Glob w) : Calls Tryd.prog 6 #[v, .int .i64 x] w fun e w' => e = .returned (.bool true) ∧ Below w.heap.size w w' := by
  have h1 := awake_glob w hg
  go_enter Tryd.func6, Tryd.ntmps6
  go_wp2_with fail
  refine (findNil v w).mono ?_
  rintro e w0 ⟨rfl, rfl⟩
  go_wp2_with fail
  refine h1.mono ?_
  rintro e w1 ⟨rfl, hb1⟩
  clear h1
  go_wp2_with fail
  refine (longestNil x w1).mono ?_
  rintro e w2 ⟨rfl, rfl⟩
  go_wp2_with fail
  refine (entriesNil w1).mono ?_
  rintro e w3 ⟨rfl, rfl⟩
  go_wp2
  go_ret
  exact ⟨rfl, hb1⟩
theorem nil_open {H : Type} {enc : TypeId × Value → H} {base : Nat} {W : World} (v : Value) (d : DataW H) (pl : List MemPlace) (_ : Value.okWide Tryd.prog W .any base 34 v)
    (_ : DataW.Trod enc Tryd.prog W 0 (fun _ => true) true 34 v d pl) (_ : ∀ n ∈ d.weights Tryd.prog 34, n ≤ reachBytes) (x : Int) (_ : (Lit.int .i64 x).wf = true) (W' : World) (hg : Glob W') (_ : W' = W) :
    Calls Tryd.prog 6 #[v, .int .i64 x] W' fun e w' => e = .returned (.bool true) ∧ Below W'.heap.size W' w' := nil_walk v x W' hg
end Go.Proofs.YtfeppbiodbhpcaaDoor
