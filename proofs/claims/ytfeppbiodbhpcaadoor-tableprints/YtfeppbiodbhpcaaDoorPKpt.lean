/- What the statements' kept of entries does (contracts; nothing is claimed here). -/
import Derived.Test.YtfeppbiodbhpcaaDoorPLnt
namespace Go.Proofs.YtfeppbiodbhpcaaDoor
open Go.RowKit Go.Vf Go.Maps

set_option maxHeartbeats 8000000 in
set_option maxRecDepth 20000 in
theorem pkept_any (l : List Ent) (hll : l.length ≤ 1048576) (hpl : ∀ x ∈ l, x.1.length ≤ 1048576 ∧ x.2.length ≤ 1048576) (v : Value) (n₀ g cap : Nat) (vs : List (Value × Value)) (w : World) (hn₀ : n₀ ≤ w.heap.size) (hin : EIn n₀ w v l) (hF : LntF w g cap vs l) :
    Calls Tryd.prog 18 #[.slice (some ⟨g, 0, none⟩) l.length cap, v] w fun e w' => e = .returned (.bool true) ∧ Below w.heap.size w w' := by
  obtain ⟨a, ac, rfl⟩ := hin.val
  have HIN : Hid (EIn n₀ w (.slice a l.length ac) l) := hin
  have HPL : Hid (∀ x ∈ l, x.1.length ≤ 1048576 ∧ x.2.length ≤ 1048576) := hpl
  have HF : Hid (LntF w g cap vs l) := hF
  have hse := sameEnts_any (.slice (some ⟨g, 0, none⟩) l.length cap) (.slice a l.length ac) l w.heap.size n₀ w hF.inn hin (by omega) (fun x hx => by have := hpl x hx; omega)
  obtain ⟨ln, hln⟩ : ∃ ln, l.length = ln := ⟨_, rfl⟩
  have HLN : Hid (l.length = ln) := hln
  have hcap : ln + 1 ≤ cap := by rw [← hln]; exact hF.cap
  obtain ⟨ma, mc, hmk⟩ := hF.mark
  have hgl := hF.lt
  have HMK : Hid (∀ x, Below w.heap.size w x → x.cell? ⟨g, ln * 2, none⟩ = some (.slice ma 1 mc)) := fun x hx => by
    rw [← hln]
    exact (hx.cell (p := ⟨g, _, none⟩) hgl).trans hmk
  rw [hln] at hll hse ⊢
  clear hin hpl hF hln hmk
  have e1 : IntKind.i64.wrap ((ln : Int) + 1) = (ln : Int) + 1 := IntWalk.i64_in _ ⟨by omega, by omega⟩
  go_enter Tryd.func18, Tryd.ntmps18
  go_wp2_with fail
  refine hse.mono ?_
  rintro e w1 ⟨rfl, nd, rfl⟩
  have HB1 : Hid (Below w.heap.size w (w.drewN nd)) := below_drewN w nd
  have hm1 := HMK.out _ HB1.out
  clear hse
  generalize w.drewN nd = w1 at HB1 hm1 ⊢
  go_wp2
  clear hm1
  go_loopw [6, 7, 8] (fun i _ _ wr => ∃ k : Nat, k ≤ ln ∧ i = .int .i64 (k : Int) ∧ Hid (Below w.heap.size w wr)) (fun i _ _ _ => ln - (intOf i).toNat)
  case atStart => exact ⟨0, Nat.zero_le _, rfl, HB1⟩
  case round =>
    obtain ⟨k, hk, rfl, HB⟩ := hrel
    by_cases hlt : k < ln
    · have hkl : k < l.length := by rw [HLN.out]; exact hlt
      have hkv : k < vs.length := by rw [HF.out.len]; exact hkl
      have tl : decide ((k : Int) < (ln : Int)) = true := decide_eq_true (by omega)
      obtain ⟨b, off, hab, pa, pc, ea, ec, c0, c1, hip, hie⟩ := HIN.out.at hkl
      subst hab
      have hbn : b < n₀ := by
        rcases HIN.out with ⟨a', cap', e, e2⟩ | ⟨b', off', cap', e, hb', _⟩
        · rw [e2] at hkl; exact absurd hkl (by simp)
        · cases e; exact hb'
      have hpp := HPL.out _ (List.getElem_mem hkl)
      obtain ⟨bp, cp, be, ce, hv, hop, hoe⟩ := HF.out.ent k hkv hkl
      obtain ⟨f0, f1⟩ := HF.out.cell k hkv
      rw [hv] at f0 f1
      obtain ⟨_, i1, i2, i3⟩ := iown_at hop
      obtain ⟨_, j1, j2, j3⟩ := eown_at hoe
      have m0 := i3 (l[k]).1.length (by simp)
      have m1 := (j3 (l[k]).2.length (by simp)).2.1
      rw [List.getElem_append_right (Nat.le_refl _)] at m0 m1
      simp only [Nat.sub_self, List.getElem_cons_zero] at m0 m1
      have up : ∀ b i, b < w.heap.size → wr.cell? ⟨b, i, none⟩ = w.cell? ⟨b, i, none⟩ := fun b i hb => HB.out.cell (p := ⟨b, i, none⟩) hb
      have C0 := (up b _ (by omega)).trans c0
      have C1 := (up b _ (by omega)).trans c1
      have F0 := (up g _ hgl).trans f0
      have F1 := (up g _ hgl).trans f1
      have M0 := (up bp _ i2).trans m0
      have M1 : wr.cell? ⟨be, (l[k]).2.length * 4 + 1, none⟩ = some (.int .i64 (-77)) := (up be _ j2).trans m1
      obtain ⟨pn, hpn⟩ : ∃ pn, (l[k]).1.length = pn := ⟨_, rfl⟩
      obtain ⟨en, hen⟩ : ∃ en, (l[k]).2.length = en := ⟨_, rfl⟩
      rw [hpn] at C0 F0 M0 i1 hpp
      rw [hen] at C1 F1 M1 j1 hpp
      obtain ⟨hp1, hp2⟩ := hpp
      have e2 : IntKind.i64.wrap ((pn : Int) + 1) = (pn : Int) + 1 := IntWalk.i64_in _ ⟨by omega, by omega⟩
      have e3 : IntKind.i64.wrap ((en : Int) + 1) = (en : Int) + 1 := IntWalk.i64_in _ ⟨by omega, by omega⟩
      clear c0 c1 f0 f1 m0 m1 i3 j3 hv hop hoe hip hie up hpn hen
      go_wp2
      go_roundw
      case rel => exact ⟨k + 1, by omega, by simp, HB⟩
      case measure => simp only [intOf]; omega
    · obtain rfl : k = ln := by omega
      have tl : decide ((k : Int) < (k : Int)) = false := decide_eq_false (by omega)
      go_wp2
      go_ret
      exact ⟨rfl, HB.out⟩
end Go.Proofs.YtfeppbiodbhpcaaDoor
