/- What dovetailref05's Same does (a contract; nothing is claimed here). -/
import Derived.Test.YtadbkkakjekopaaDoorFormT
namespace Go.Proofs.YtadbkkakjekopaaDoor
open Go.RowKit Go.Vf Go.Maps

set_option maxHeartbeats 8000000 in
set_option maxRecDepth 20000 in
theorem rsame_load {t : List UInt8} {L : List Mk} {E : Int → List Int} (h : loadR t = .ok (L, E)) {da : Option Addr} {dn dc : Nat} (a : Option Addr) (kz cz : Nat) (zs X : List Int) (b : Option Addr) (ky cy : Nat) (ys Y : List Int) (w : World) (hin : MIn w.heap.size w (.slice da dn dc) (marksR L)) (hz : Numb w a kz cz zs) (hy : Numb w b ky cy ys) (h57 : ∀ q, (partsR' E q).length ≤ 57 ∧ 0 < (partsR' E q).length) (hzl : zs.length ≤ 2097152) (hyl : ys.length ≤ 2097152) (hX : IsForm L E zs X) (hXl : X.length ≤ 68719476736) (hY : IsForm L E ys Y) (hYl : Y.length ≤ 68719476736) :
    Calls Tryd.prog 17 #[.agg #[.slice da dn dc], .slice a kz cz, .slice b ky cy] w fun e w' => e = .returned (.bool (decide (X = Y))) ∧ Below w.heap.size w w' := by
  have hb0 := (Below.refl w.heap.size w).alloc (Nat.le_refl _) (.cells #[.slice da dn dc] 29)
  have hn0 := Blk.new w 29 #[.slice da dn dc]
  have hm0 := hin.go hb0
  obtain ⟨R, HR⟩ : ∃ R, Hid (R = decide (X = Y)) := ⟨_, rfl⟩
  rw [← HR.out]
  go_enter Tryd.func17, Tryd.ntmps17
  go_upto_region 1 with fail
  have hz0 := hz.below hb0
  have hy0 := hy.below hb0
  generalize w.alloc (.cells #[.slice da dn dc] 29) = W at hb0 hn0 hm0 hz0 hy0 ⊢
  have x0 : W.cell? ⟨w.heap.size, 0, none⟩ = some (.slice da dn dc) := hn0.cell 0
  -- what each call answers, wherever it stands
  have HPa : Hid (∀ x : World, Below W.heap.size W x → Calls Tryd.prog 10 #[.agg #[.slice da dn dc], .slice a kz cz] x fun e w' => ∃ a1 n1 c1, e = .returned (.slice a1 n1 c1) ∧ Aside (Ints w'.heap.size w' (.slice a1 n1 c1) X) ∧ Below W.heap.size W w' ∧ Below x.heap.size x w') := fun x hx => (rform_load h a kz cz zs x (hm0.go hx) (hz0.below hx) h57 hzl).mono fun e w' ⟨a1, n1, c1, Z, e1, ho, hf, hb⟩ => by
    obtain rfl : Z = X := hf.same hX
    exact ⟨a1, n1, c1, e1, ho.ints, hx.trans (hb.mono hx.size), hb⟩
  have HPb : Hid (∀ x : World, Below W.heap.size W x → Calls Tryd.prog 10 #[.agg #[.slice da dn dc], .slice b ky cy] x fun e w' => ∃ a2 n2 c2, e = .returned (.slice a2 n2 c2) ∧ Aside (Ints w'.heap.size w' (.slice a2 n2 c2) Y) ∧ Below W.heap.size W w' ∧ Below x.heap.size x w') := fun x hx => (rform_load h b ky cy ys x (hm0.go hx) (hy0.below hx) h57 hyl).mono fun e w' ⟨a1, n1, c1, Z, e1, ho, hf, hb⟩ => by
    obtain rfl : Z = Y := hf.same hY
    exact ⟨a1, n1, c1, e1, ho.ints, hx.trans (hb.mono hx.size), hb⟩
  have HKC : Hid (∀ x : World, Below W.heap.size W x → x.cell? ⟨w.heap.size, 0, none⟩ = some (.slice da dn dc)) := fun x hx => (hx.cell (p := ⟨w.heap.size, 0, none⟩) hn0.lt).trans x0
  have HX0 : Hid (X.length ≤ 68719476736 ∧ Y.length ≤ 68719476736) := ⟨hXl, hYl⟩
  clear hn0 hm0 hz0 hy0 hz hy hin hX hY h57 hXl hYl hzl hyl h
  have bW : Below W.heap.size W W.drew := (Below.refl _ _).drew
  have xW : W.drew.cell? ⟨w.heap.size, 0, none⟩ = some (.slice da dn dc) := x0
  go_region_with (first
    | (go_at_call 10; with_reducible refine (HPa.out _ (by assumption)).mono ?_; rintro e wA ⟨a1, n1, c1, rfl, hiA, hbA, hxA⟩; have xA := HKC.out _ hbA)
    | (go_at_call 10; with_reducible refine (HPb.out _ (by assumption)).mono ?_; rintro e wB ⟨a2, n2, c2, rfl, hiB, hbB, hxB⟩; have xB := HKC.out _ hbB)
    | (go_at_call 15; with_reducible refine (sameInts_any _ _ X Y _ _ _ (hiA.out.below hxB (Nat.le_refl _)) hiB.out (by have := HX0.out; omega) (by have := HX0.out; omega)).mono ?_; rintro e wC ⟨rfl, hbC⟩)
    | (go_at_call 15; with_reducible refine (sameInts_any _ _ X Y _ _ _ hiA.out (hiB.out.below hxA (Nat.le_refl _)) (by have := HX0.out; omega) (by have := HX0.out; omega)).mono ?_; rintro e wC ⟨rfl, hbC⟩))
  all_goals go_wp2
  all_goals go_ret
  all_goals refine ⟨by rw [HR.out]; rfl, ?_⟩
  all_goals first | exact hb0.trans ((hbB.trans (hbC.mono hbB.size)).mono hb0.size) | exact hb0.trans ((hbA.trans (hbC.mono hbA.size)).mono hb0.size)
end Go.Proofs.YtadbkkakjekopaaDoor
