/- The statement on what is the same, at what came in (lemmas; nothing is claimed here). -/
import Derived.Test.YtfhpgmlfgjfknaaGreatDoorWSmW
namespace Go.Proofs.YtfhpgmlfgjfknaaGreatDoor
open Go.ChangeShapes Go.WideShapes Go.ChangeAt Go.RowKit Go.Vf Go.Maps
set_option maxRecDepth 100000 in
theorem wsames_open {H : Type} {enc : TypeId × Value → H} {base : Nat} {W : World} (v : Value) (d : DataW H) (pl : List MemPlace) (hok : Value.okWide Tryz.prog W .any base 23 v) (h : DataW.Trod enc Tryz.prog W 0 (fun _ => true) true 23 v d pl) (_hw : ∀ n ∈ d.weights Tryz.prog 23, n ≤ reachBytes) (hbk : Rows.uptoBulk d ≤ 1048576)
    (v1 : Value) (d1 : DataW H) (pl1 : List MemPlace) (hok1 : Value.okWide Tryz.prog W .any base 27 v1) (h1 : DataW.Trod enc Tryz.prog W 0 (fun _ => true) true 27 v1 d1 pl1) (_hw1 : ∀ n ∈ d1.weights Tryz.prog 27, n ≤ reachBytes) (hbk1 : Rows.uptoBulk d1 ≤ 1048576)
    (w : World) (hg : Glob w) (ht : Tabs w) (_hW : w = W) :
    Calls Tryz.prog 4 #[v, v1] w fun e w' => e = .returned (.bool true) ∧ Below w.heap.size w w' := by
  obtain ⟨m, e, rfl, hm, he⟩ := ttexts_open v d pl hok h hbk
  obtain ⟨s, sh, back, a, b, x, rfl, hs, ha, hb, hx⟩ := case_open v1 d1 pl1 hok1 h1 hbk1
  exact wsames_any m e hm he s hs sh back a b x ha hb hx w hg ht
end Go.Proofs.YtfhpgmlfgjfknaaGreatDoor
