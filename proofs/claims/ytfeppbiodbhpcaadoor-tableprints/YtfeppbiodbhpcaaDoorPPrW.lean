/- What TablePrints does (a walk; nothing is claimed here). -/
import Derived.Test.YtfeppbiodbhpcaaDoorPKpt
import Derived.Test.YtfeppbiodbhpcaaDoorEntsI
import Derived.Test.YtfeppbiodbhpcaaDoorLaidP
namespace Go.Proofs.YtfeppbiodbhpcaaDoor
open Go.RowKit Go.Vf Go.Maps

theorem printE_pair (r : Except Int (List UInt8)) : ∃ s e, printE r = .returned (.tuple #[.string s, .int .i64 e]) := by
  cases r with
  | error why => exact ⟨_, _, rfl⟩
  | ok t => exact ⟨_, _, rfl⟩
set_option maxHeartbeats 4000000 in
set_option maxRecDepth 20000 in
theorem prints_walk (v : Value) (l : List Ent) (hl : l.length ≤ 17592186044416) (hpm : ∀ x ∈ l, EntIn x) (w : World) (hg : GlobZ w) (hin : EIn w.heap.size w v l) : Calls Tryd.prog 4 #[v] w fun e w' => e = .returned (.bool true) ∧ Below w.heap.size w w' := by
  obtain ⟨a, cap, rfl⟩ := hin.val
  have HG : Hid (GlobZ w) := hg
  have HIN : Hid (EIn w.heap.size w (.slice a l.length cap) l) := hin
  have hhv := heavy_any l hl (fun m hm => (hpm m hm).2.2) _ _ w hin
  obtain ⟨ln, hln⟩ : ∃ ln, l.length = ln := ⟨_, rfl⟩
  have HLN : Hid (l.length = ln) := hln
  rw [hln] at hhv ⊢
  clear hg hin hpm hln hl
  go_enter Tryd.func4, Tryd.ntmps4
  go_wp2_with fail
  refine hhv.mono ?_
  clear hhv
  rintro e w1 ⟨rfl | ⟨rfl, hwt⟩, hb1⟩
  · go_wp2_with fail
    go_ret
    exact ⟨rfl, hb1⟩
  have HWT : Hid (wtT l ≤ 1048576) := hwt
  have HB1 : Hid (Below w.heap.size w w1) := hb1
  have hlen : l.length ≤ 1048576 := Nat.le_trans (wtT_len l) hwt
  have HPP : Hid (∀ x ∈ l, x.1.length ≤ 1048576 ∧ x.2.length ≤ 1048576) := fun x hx => ⟨Nat.le_trans (wtT_mem hx).1 hwt, Nat.le_trans (wtT_mem hx).2 hwt⟩
  have HLL : Hid (l.length ≤ 1048576) := hlen
  have hc := plent_any l hlen HPP.out _ w.heap.size w1 hb1.size (HIN.out.below hb1 (Nat.le_refl _))
  rw [HLN.out] at hc
  clear hwt hb1 hlen
  go_wp2_with fail
  refine hc.mono ?_
  clear hc
  rintro e w2 ⟨g, c2, vs, rfl, hF2, hb2⟩
  have HF2 : Hid (LntF w2 g c2 vs l) := hF2
  have HB2 : Hid (Below w.heap.size w w2) := HB1.out.trans (hb2.mono HB1.out.size)
  obtain ⟨ps, pe, hpe⟩ := printE_pair (printT l)
  have HPE : Hid (printE (printT l) = .returned (.tuple #[.string ps, .int .i64 pe])) := hpe
  have HPR : Hid (∀ x, Below w2.heap.size w2 x → Calls Tryd.prog 16 #[.slice (some ⟨g, 0, none⟩) ln c2] x fun e w' => e = .returned (.tuple #[.string ps, .int .i64 pe]) ∧ Below x.heap.size x w') := fun x hx => by
    have hgx := (HG.out.below HB2.out).below hx
    have := print_any l (by have := HLL.out; omega) (fun y hy => by have := HPP.out y hy; omega) (.slice (some ⟨g, 0, none⟩) l.length c2) x.heap.size x (Nat.le_refl _) (HF2.out.below hx).inn hgx.lt hgx.b64
    rw [HPE.out, HLN.out] at this
    exact this
  clear hF2 hb2 hpe
  have hc := HPR.out w2 (Below.refl _ _)
  go_wp2_with fail
  refine hc.mono ?_
  clear hc
  rintro e w3 ⟨rfl, hb3⟩
  have HB3 : Hid (Below w2.heap.size w2 w3) := hb3
  have HW3 : Hid (Below w.heap.size w w3) := HB2.out.trans (hb3.mono HB2.out.size)
  have hc := rprint_any l (by have := HLL.out; omega) (fun y hy => by have := HPP.out y hy; omega) _ w.heap.size w3 HW3.out.size (HIN.out.below HW3.out (Nat.le_refl _))
  rw [HPE.out, HLN.out] at hc
  clear hb3
  go_wp2_with fail
  refine hc.mono ?_
  clear hc
  rintro e w4 ⟨rfl, hb4⟩
  have HB4 : Hid (Below w2.heap.size w2 w4) := HB3.out.trans (hb4.mono HB3.out.size)
  have hc := HPR.out w4 HB4.out
  clear hb4 HB3 HW3
  go_wp2_with fail
  refine hc.mono ?_
  clear hc
  rintro e w5 ⟨rfl, hb5⟩
  have HB5 : Hid (Below w2.heap.size w2 w5) := HB4.out.trans (hb5.mono HB4.out.size)
  have HW5 : Hid (Below w.heap.size w w5) := HB2.out.trans (HB5.out.mono HB2.out.size)
  have haw := awake_glob w5 (HG.out.below HW5.out).glob
  clear hb5 HB4 HPR
  go_wp2_with fail
  refine haw.mono ?_
  clear haw
  rintro e w6 ⟨rfl, hb6⟩
  have HB6 : Hid (Below w2.heap.size w2 w6) := HB5.out.trans (hb6.mono HB5.out.size)
  have HW6 : Hid (Below w.heap.size w w6) := HB2.out.trans (HB6.out.mono HB2.out.size)
  have t1 : (ps.toList == ps.toList) = true := by simp
  have t2 : (pe == pe) = true := by simp
  have hc := pkept_any l HLL.out HPP.out _ w.heap.size g c2 vs w6 HW6.out.size (HIN.out.below HW6.out (Nat.le_refl _)) (HF2.out.below HB6.out)
  rw [HLN.out] at hc
  clear hb6 HB5 HW5
  go_wp2_with fail
  refine hc.mono ?_
  clear hc
  rintro e w7 ⟨rfl, hb7⟩
  go_wp2_with fail
  go_ret
  exact ⟨rfl, HW6.out.trans (hb7.mono HW6.out.size)⟩
set_option maxRecDepth 20000 in
theorem prints_open {H : Type} {enc : TypeId × Value → H} {base : Nat} {W : World} (v : Value) (d : DataW H) (pl : List MemPlace) (hok : Value.okWide Tryd.prog W .any base 27 v)
    (h : DataW.Trod enc Tryd.prog W 0 (fun _ => true) true 27 v d pl) (hw : ∀ n ∈ d.weights Tryd.prog 27, n ≤ reachBytes) (W' : World) (hg : GlobZ W') (hW : W' = W) :
    Calls Tryd.prog 4 #[v] W' fun e w' => e = .returned (.bool true) ∧ Below W'.heap.size W' w' := by
  subst hW
  obtain ⟨l, h1, h2, h3⟩ := ents_open v d pl hok h hw
  exact prints_walk v l h2 h3 W' hg h1
end Go.Proofs.YtfeppbiodbhpcaaDoor
