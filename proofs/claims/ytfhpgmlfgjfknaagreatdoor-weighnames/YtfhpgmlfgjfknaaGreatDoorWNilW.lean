/- What the statements on no tables and on names do (walks; nothing is claimed here). -/
import Derived.Test.YtfhpgmlfgjfknaaGreatDoorWgH
import Derived.ProofKit
import Derived.OpenShut
import Derived.Lib.SmallJoins
namespace Go.Proofs.YtfhpgmlfgjfknaaGreatDoor
open Go.ChangeShapes Go.WideShapes Go.ChangeAt Go.RowKit Go.Vf Go.Maps

theorem same_nil (a b : ByteArray) (w : World) : Calls Tryz.prog 16 #[.pointer none, .string a, .string b] w fun e w' => e = .returned (.tuple #[.bool false, .int .i64 3]) ∧ w = w' := by
  go_enter Tryz.func16, Tryz.ntmps16
  go_wp2_with fail
  go_ret2
  exact ⟨rfl, rfl⟩
theorem texts_nil (w : World) : Calls Tryz.prog 21 #[.pointer none] w fun e w' => e = .returned (.tuple #[.string ⟨#[]⟩, .string ⟨#[]⟩]) ∧ w = w' := by
  go_enter Tryz.func21, Tryz.ntmps21
  go_wp2_with fail
  go_ret2
  exact ⟨rfl, rfl⟩

theorem w_two : (match loadW [] [48] with | .error (60, 2, 1) => true | _ => false) = true := by kernel_rfl
theorem w_names : loadW [] [48] = .error (60, 2, 1) := by
  have h := w_two
  split at h
  · assumption
  · cases h
set_option maxHeartbeats 1000000 in
theorem names_any (w : World) (hg : Glob w) (ht : Tabs w) : Calls Tryz.prog 8 #[] w fun e w' => e = .returned (.bool true) ∧ Below w.heap.size w w' := by
  go_enter Tryz.func8, Tryz.ntmps8
  go_wp2_with fail
  refine (loadW_any ⟨#[]⟩ ⟨#[48]⟩ (by decide) (by decide) w hg).mono ?_
  rintro e w1 ⟨hb1, ⟨why, which, line, he, rfl⟩ | ⟨L', F', E', b, bd, T, he, rfl, ht1⟩⟩
  · rw [show loadW (⟨#[]⟩ : ByteArray).data.toList (⟨#[48]⟩ : ByteArray).data.toList = .error (60, 2, 1) from w_names] at he
    cases he
    have haw := awake_any w1 (hg.below hb1) (ht.own hb1)
    go_wp2_with fail
    refine haw.mono ?_
    rintro _ w2 ⟨rfl, hb2⟩
    go_wp2
    go_ret
    exact ⟨rfl, hb1.trans (hb2.mono hb1.size)⟩
  · rw [show loadW (⟨#[]⟩ : ByteArray).data.toList (⟨#[48]⟩ : ByteArray).data.toList = .error (60, 2, 1) from w_names] at he
    cases he

set_option maxHeartbeats 1000000 in
theorem nil_any (s : Int) (sh back : Bool) (a b : ByteArray) (w : World) (hg : Glob w) (ht : Tabs w) : Calls Tryz.prog 7 #[colA s sh back, .string a, .string b] w fun e w' => e = .returned (.bool true) ∧ Below w.heap.size w w' := by
  have hb0 := (Below.refl w.heap.size w).alloc (Nat.le_refl _) (.cells #[.int .i64 s, .bool sh, .bool back] 25)
  have hn0 := Blk.new w 25 #[.int .i64 s, .bool sh, .bool back]
  have c0 : (w.alloc (.cells #[.int .i64 s, .bool sh, .bool back] 25)).cell? ⟨w.heap.size, 0, none⟩ = some (.int .i64 s) := hn0.cell 0
  have c1 : (w.alloc (.cells #[.int .i64 s, .bool sh, .bool back] 25)).cell? ⟨w.heap.size, 1, none⟩ = some (.bool sh) := hn0.cell 1
  have c2 : (w.alloc (.cells #[.int .i64 s, .bool sh, .bool back] 25)).cell? ⟨w.heap.size, 2, none⟩ = some (.bool back) := hn0.cell 2
  go_enter Tryz.func7, Tryz.ntmps7
  go_wp2_with fail
  generalize w.alloc (.cells #[.int .i64 s, .bool sh, .bool back] 25) = w0 at *
  refine (key_nil s sh back a w0).mono ?_
  rintro _ w1 ⟨rfl, hb1⟩
  have k0 := (hb1.cell (p := ⟨w.heap.size, 0, none⟩) hn0.lt).trans c0
  have k1 := (hb1.cell (p := ⟨w.heap.size, 1, none⟩) hn0.lt).trans c1
  have k2 := (hb1.cell (p := ⟨w.heap.size, 2, none⟩) hn0.lt).trans c2
  have hb01 := hb0.trans (hb1.mono hb0.size)
  clear c0 c1 c2
  go_wp2_with fail
  refine (wcompare_nil s sh back a b w1).mono ?_
  rintro _ w2 ⟨rfl, hb2⟩
  have hb02 := hb01.trans (hb2.mono hb01.size)
  clear k0 k1 k2
  go_wp2_with fail
  refine (same_nil a b w2).mono ?_
  rintro _ w3 ⟨rfl, rfl⟩
  go_wp2_with fail
  refine (texts_nil w2).mono ?_
  rintro _ w3 ⟨rfl, rfl⟩
  have haw := awake_any w2 (hg.below hb02) (ht.own hb02)
  go_wp2_with fail
  refine haw.mono ?_
  rintro _ w4 ⟨rfl, hb4⟩
  go_wp2
  go_ret
  exact ⟨rfl, hb02.trans (hb4.mono hb02.size)⟩

set_option maxRecDepth 100000 in
theorem col_open {H : Type} {enc : TypeId × Value → H} {base : Nat} {W : World} (v : Value) (d : DataW H) (pl : List MemPlace) (hok : Value.okWide Tryz.prog W .any base 25 v) (h : DataW.Trod enc Tryz.prog W 0 (fun _ => true) true 25 v d pl) :
    ∃ (s : Int) (sh back : Bool), v = colA s sh back ∧ InI s := by
  obtain ⟨v0, v1, v2, y0, y1, y2, n, rfl, hd, _, h0, h1, h2⟩ := Go.Joins.open_agg3 Tryz.underlying25 (by kernel_rfl) (by kernel_rfl) hok h
  obtain ⟨s, e0, _, hwf⟩ := DataW.trod_int Tryz.underlying3 h0
  obtain ⟨sh, e1, _⟩ := DataW.trod_bool Tryz.underlying4 h1
  obtain ⟨back, e2, _⟩ := DataW.trod_bool Tryz.underlying4 h2
  simp at e0 e1 e2
  subst e0 e1 e2
  refine ⟨s, sh, back, rfl, ?_⟩
  have := bounds_i64 hwf
  unfold InI
  omega
set_option maxRecDepth 100000 in
theorem nil_open {H : Type} {enc : TypeId × Value → H} {base : Nat} {W : World} (v : Value) (d : DataW H) (pl : List MemPlace) (hok : Value.okWide Tryz.prog W .any base 25 v) (h : DataW.Trod enc Tryz.prog W 0 (fun _ => true) true 25 v d pl) (_hw : ∀ n ∈ d.weights Tryz.prog 25, n ≤ reachBytes)
    (a : ByteArray) (_ha : a.size ≤ 281474976710656) (b : ByteArray) (_hb : b.size ≤ 281474976710656) (w : World) (hg : Glob w) (ht : Tabs w) (_hW : w = W) :
    Calls Tryz.prog 7 #[v, .string a, .string b] w fun e w' => e = .returned (.bool true) ∧ Below w.heap.size w w' := by
  obtain ⟨s, sh, back, rfl, _⟩ := col_open v d pl hok h
  exact nil_any s sh back a b w hg ht
end Go.Proofs.YtfhpgmlfgjfknaaGreatDoor
