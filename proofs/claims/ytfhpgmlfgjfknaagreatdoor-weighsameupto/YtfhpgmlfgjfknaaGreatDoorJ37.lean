/- Contracts and lemmas (nothing is claimed here). -/
import Derived.Test.YtfhpgmlfgjfknaaGreatDoorJ25
import Derived.ProofKit
import Derived.OpenShut
import Derived.Lib.SmallJoins
import Derived.Test.YtfhpgmlfgjfknaaGreatDoorRows
import Derived.Test.YtfhpgmlfgjfknaaGreatDoorJ9
import Derived.Test.YtfhpgmlfgjfknaaGreatDoorWgE
import Derived.Test.YtfhpgmlfgjfknaaGreatDoorJ36
namespace Go.Proofs.YtfhpgmlfgjfknaaGreatDoor
open Go.ChangeShapes Go.WideShapes Go.ChangeAt Go.RowKit Go.Vf Go.Maps
end Go.Proofs.YtfhpgmlfgjfknaaGreatDoor
namespace Go.Proofs.YtfhpgmlfgjfknaaGreatDoor
open Go.ChangeShapes Go.WideShapes Go.ChangeAt Go.RowKit Go.Vf Go.Maps Go.Joins
def caseA (s : Int) (sh back : Bool) (a b x : ByteArray) : Value := .agg #[.int .i64 s, .bool sh, .bool back, .string a, .string b, .string x]
theorem array6 {α : Type} {cs : Array α} (h : cs.size = 6) : ∃ a b c d e f, cs = #[a, b, c, d, e, f] := by
  obtain ⟨l⟩ := cs
  match l, h with
  | [a, b, c, d, e, f], _ => exact ⟨a, b, c, d, e, f, rfl⟩
set_option maxRecDepth 100000 in
theorem ttexts_open {H : Type} {enc : TypeId × Value → H} {base : Nat} {W : World} (v : Value) (d : DataW H) (pl : List MemPlace) (hok : Value.okWide Tryz.prog W .any base 23 v) (h : DataW.Trod enc Tryz.prog W 0 (fun _ => true) true 23 v d pl) (hbk : Rows.uptoBulk d ≤ 1048576) :
    ∃ m e : ByteArray, v = .agg #[.string m, .string e] ∧ m.size ≤ 1048576 ∧ e.size ≤ 1048576 := by
  obtain ⟨v0, v1, y0, y1, n, rfl, hd, _, h0, h1⟩ := open_agg2 Tryz.underlying23 (by kernel_rfl) (by kernel_rfl) hok h
  obtain ⟨m, e0, q0, _⟩ := DataW.trod_string Tryz.underlying9 h0
  obtain ⟨e, e1, q1, _⟩ := DataW.trod_string Tryz.underlying9 h1
  simp at e0 e1
  subst e0 e1 hd q0 q1
  simp only [Rows.uptoBulk, Rows.uptoBulkAll] at hbk
  refine ⟨m, e, rfl, ?_, ?_⟩
  · rw [Lib.size_eq]; omega
  · rw [Lib.size_eq]; omega
theorem wcells25 : Tryz.prog.cellsOf 25 = 3 := by kernel_rfl
theorem wcells9 : Tryz.prog.cellsOf 9 = 1 := by kernel_rfl
theorem wcells3 : Tryz.prog.cellsOf 3 = 1 := by kernel_rfl
theorem wcells4 : Tryz.prog.cellsOf 4 = 1 := by kernel_rfl
theorem wcells27 : Tryz.prog.cellsOf 27 = 6 := by kernel_rfl
set_option maxRecDepth 100000 in
theorem case_open {H : Type} {enc : TypeId × Value → H} {base : Nat} {W : World} (v : Value) (d : DataW H) (pl : List MemPlace) (hok : Value.okWide Tryz.prog W .any base 27 v) (h : DataW.Trod enc Tryz.prog W 0 (fun _ => true) true 27 v d pl) (hbk : Rows.uptoBulk d ≤ 1048576) :
    ∃ (s : Int) (sh back : Bool) (a b x : ByteArray), v = caseA s sh back a b x ∧ InI s ∧ a.size ≤ 1048576 ∧ b.size ≤ 1048576 ∧ x.size ≤ 1048576 := by
  obtain ⟨cs, rfl, hsz⟩ := okWide_struct Tryz.underlying27 hok
  obtain ⟨c0, c1, c2, c3, c4, c5, rfl⟩ := array6 (hsz.trans wcells27)
  obtain ⟨fuel, hf⟩ := h
  obtain ⟨y0, y1, y2, y3, n, hx, _, h0, h1, h2, h3⟩ := trod_struct4 Tryz.underlying27 hf
  simp [Value.cells, wcells25, wcells9] at h0 h1 h2 h3
  obtain ⟨a, e1, q1, _⟩ := DataW.trod_string Tryz.underlying9 h1
  obtain ⟨b, e2, q2, _⟩ := DataW.trod_string Tryz.underlying9 h2
  obtain ⟨x, e3, q3, _⟩ := DataW.trod_string Tryz.underlying9 h3
  obtain ⟨xs, n', _, _, _, hlen, hf0⟩ := DataW.trod_struct Tryz.underlying25 h0
  obtain ⟨z0, z1, z2, rfl⟩ : ∃ z0 z1 z2, xs = [z0, z1, z2] := by
    match xs, hlen with
    | [z0, z1, z2], _ => exact ⟨z0, z1, z2, rfl⟩
  have g0 := hf0 0 _ rfl
  have g1 := hf0 1 _ rfl
  have g2 := hf0 2 _ rfl
  simp [wcells3, wcells4] at g0 g1 g2
  obtain ⟨s, i0, _, hwf⟩ := DataW.trod_int Tryz.underlying3 g0
  obtain ⟨sh, i1, _⟩ := DataW.trod_bool Tryz.underlying4 g1
  obtain ⟨back, i2, _⟩ := DataW.trod_bool Tryz.underlying4 g2
  simp at i0 i1 i2 e1 e2 e3
  simp only [Prod.mk.injEq] at hx
  have hd := hx.1
  subst i0 i1 i2 e1 e2 e3 hd q1 q2 q3
  simp only [Rows.uptoBulk, Rows.uptoBulkAll] at hbk
  refine ⟨s, sh, back, a, b, x, rfl, ?_, ?_, ?_, ?_⟩
  · have := bounds_i64 hwf
    unfold InI
    omega
  · rw [Lib.size_eq]; omega
  · rw [Lib.size_eq]; omega
  · rw [Lib.size_eq]; omega
end Go.Proofs.YtfhpgmlfgjfknaaGreatDoor
namespace Go.Proofs.YtfhpgmlfgjfknaaGreatDoor
open Go.RowKit Go.Vf Go.Maps
structure WelF (b bd T : Nat) (L : List Mk) (F : Int → List Int) (E : List Ent) (s : Int) (sh back : Bool) (txt : ByteArray) (es : List El) (er : Int) : Prop where
  why : er = 0 ∨ er = 1 ∨ er = 2 ∨ er = 30
  rg : er = 0 → 1 ≤ s ∧ s ≤ 4
  ok : ∀ e ∈ es, WtOk e
  few : es.length ≤ 60000000
  call : ∀ (w : World), TbAt w b bd T L F E → Tabs w → ∀ W, Below w.heap.size w W → Calls Tryz.prog 25 #[.pointer (some ⟨b, 0, none⟩), colA s sh back, .string txt] W fun e w' => ElPost es er W e w'
def keyG (s : Int) (sh back : Bool) (es : List El) (er : Int) : ByteArray := if er = 0 then bs (keyLv s.toNat sh back es) else ⟨#[]⟩
def cmpG (s : Int) (sh back : Bool) (xs ys : List El) (ex ey : Int) : Int := if ex = 0 ∧ ey = 0 then cmpLv sh back xs ys (List.range s.toNat) else 0
def errG (ex ey : Int) : Int := if ex = 0 then ey else ex
section
variable {b bd T : Nat} {L : List Mk} {F : Int → List Int} {E : List Ent} {s : Int} {sh back : Bool} {ta tb : ByteArray} {xs ys : List El} {ex ey : Int} {w : World}
theorem key_g (h : WelF b bd T L F E s sh back ta xs ex) (ht : TbAt w b bd T L F E) (htb : Tabs w) : Calls Tryz.prog 12 #[.pointer (some ⟨b, 0, none⟩), colA s sh back, .string ta] w fun e w' => e = .returned (.tuple #[.string (keyG s sh back xs ex), .int .i64 ex]) ∧ Below w.heap.size w w' := by
  refine (key_any h.ok h.few h.rg (h.call w ht htb)).mono ?_
  rintro e w' ⟨hb, ⟨rfl, rfl⟩ | ⟨h0, rfl⟩⟩
  · exact ⟨by simp [keyG], hb⟩
  · exact ⟨by simp [keyG, h0], hb⟩
theorem cmp_g (h : WelF b bd T L F E s sh back ta xs ex) (h' : WelF b bd T L F E s sh back tb ys ey) (ht : TbAt w b bd T L F E) (htb : Tabs w) : Calls Tryz.prog 13 #[.pointer (some ⟨b, 0, none⟩), colA s sh back, .string ta, .string tb] w fun e w' => e = .returned (.tuple #[.int .i64 (cmpG s sh back xs ys ex ey), .int .i64 (errG ex ey)]) ∧ Below w.heap.size w w' := by
  refine (wcompare_any h.ok h'.ok h.few h'.few h.rg (h.call w ht htb) (h'.call w ht htb)).mono ?_
  rintro e w' ⟨hb, ⟨rfl, rfl, rfl⟩ | ⟨h0, rfl⟩ | ⟨rfl, h0, rfl⟩⟩
  · exact ⟨by simp [cmpG, errG], hb⟩
  · exact ⟨by simp [cmpG, errG, h0], hb⟩
  · exact ⟨by simp [cmpG, errG, h0], hb⟩
end
end Go.Proofs.YtfhpgmlfgjfknaaGreatDoor
