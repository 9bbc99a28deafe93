/- What dovetailref05's Is and Same do (contracts; nothing is claimed here). -/
import Derived.Test.YtadbkkakjekopaaDoorFormS
namespace Go.Proofs.YtadbkkakjekopaaDoor
open Go.RowKit Go.Vf Go.Maps

set_option maxHeartbeats 4000000 in
set_option maxRecDepth 20000 in
theorem ris_load {t : List UInt8} {L : List Mk} {E : Int → List Int} (h : loadR t = .ok (L, E)) {da : Option Addr} {dn dc : Nat} (a : Option Addr) (kz cz : Nat) (zs X : List Int) (w : World) (hin : MIn w.heap.size w (.slice da dn dc) (marksR L)) (hz : Numb w a kz cz zs) (h57 : ∀ q, (partsR' E q).length ≤ 57 ∧ 0 < (partsR' E q).length) (hzl : zs.length ≤ 2097152) (hX : IsForm L E zs X) (hXl : X.length ≤ 68719476736) :
    Calls Tryd.prog 16 #[.agg #[.slice da dn dc], .slice a kz cz] w fun e w' => e = .returned (.bool (decide (X = zs))) ∧ Below w.heap.size w w' := by
  have hb0 := (Below.refl w.heap.size w).alloc (Nat.le_refl _) (.cells #[.slice da dn dc] 29)
  have hn0 := Blk.new w 29 #[.slice da dn dc]
  have hm0 := hin.go hb0
  have hz0 := hz.below hb0
  obtain ⟨R, HR⟩ : ∃ R, Hid (R = decide (X = zs)) := ⟨_, rfl⟩
  rw [← HR.out]
  have HX : Aside (IsForm L E zs X) := hX
  clear hX hin
  go_enter Tryd.func16, Tryd.ntmps16
  go_upto_region 1 with fail
  generalize w.alloc (.cells #[.slice da dn dc] 29) = W at hb0 hn0 hm0 hz0 ⊢
  have x0 : W.cell? ⟨w.heap.size, 0, none⟩ = some (.slice da dn dc) := hn0.cell 0
  have hf := rform_load h a kz cz zs W hm0 hz0 h57 hzl
  have HZ0 : Aside (Numb W a kz cz zs) := hz0
  clear hn0 hm0 hz0 hz
  go_wp2_with fail
  refine hf.mono ?_
  rintro e w1 ⟨a1, n1, c1, Y, rfl, hown, hform, hbel⟩
  obtain rfl : Y = X := hform.same HX.out
  have hq := sameInts_any _ _ Y zs w1.heap.size w1.heap.size w1 hown.ints (HZ0.out.below hbel).ints (by omega) (by omega)
  rw [← HR.out] at hq
  clear hown hform hf HX HZ0 x0
  go_wp2_with fail
  refine hq.mono ?_
  rintro e w2 ⟨rfl, hbel2⟩
  go_wp2
  go_ret
  exact ⟨rfl, hb0.trans ((hbel.trans (hbel2.mono hbel.size)).mono hb0.size)⟩
end Go.Proofs.YtadbkkakjekopaaDoor
