/- ShelfPlays' walk (a contract; nothing is claimed here). -/
import Derived.Test.YtklnnkdcnaieoaaPli
namespace Go.Proofs.Ytklnnkdcnaieoaa
open Go.RowKit Go.Vf

set_option maxRecDepth 100000 in
set_option maxHeartbeats 8000000 in
theorem plays_walk (w : World) (a : Option Addr) (c : Nat) (l : List Ca) (h : CaIn w w.heap.size a l) (hl : l.length ≤ maxLen) : Calls Try.prog 3 #[.slice a l.length c] w fun e w' => e = .returned (.bool true) ∧ Below w.heap.size w w' := by
  obtain ⟨m, hm⟩ : ∃ m, m = l.length := ⟨_, rfl⟩
  have HV : Calls Try.prog 7 #[.slice a m c] w (VsuPost (l.map Ca.ac) w) := by
    have q := vast_all w a c (l.map Ca.ac) h.ac (by rw [List.length_map]; exact hl)
    rw [List.length_map, ← hm] at q
    exact q
  rw [← hm]
  have Hm : Hid (m = l.length) := hm
  have HA : Hid (CaIn w w.heap.size a l) := h
  clear h hl hm
  go_enter Try.func3, Try.ntmps3
  go_wp2_with fail
  refine HV.mono ?_
  clear HV
  rintro e w2 ⟨bb, rfl, hbb, hb2⟩
  cases bb with
  | true =>
    go_wp2
    go_ret
    exact ⟨rfl, hb2⟩
  | false =>
    obtain ⟨hm0, hsz⟩ := hbb rfl
    have hm2 : m ≤ 2147483647 := by rw [Hm.out]; simpa using hm0
    have HSZ : Hid (∀ x ∈ l, x.key.size ≤ 2147483647 ∧ x.f.size ≤ 2147483647 ∧ x.t.size ≤ 2147483647) := fun x hx => hsz (Ca.ac x) (List.mem_map.2 ⟨x, hx, rfl⟩)
    have HB2 : Hid (Below w.heap.size w w2) := hb2
    clear hbb hb2 hm0 hsz
    go_wp2_with fail
    refine (new_any w2).mono ?_
    rintro e w3 ⟨rfl, hs3, hb3⟩
    have HB3 : Hid (Below w.heap.size w w3) := HB2.out.trans (hb3.mono HB2.out.size)
    have HS3 : Hid (ShAt w3 w2.heap.size []) := hs3
    have HZ2 : Hid (w.heap.size ≤ w2.heap.size) := HB2.out.size
    clear hs3 hb3 HB2
    generalize w2.heap.size = B at *
    go_wp2_with fail
    refine (rnew_any w.heap.size w3).mono ?_
    rintro e w4 ⟨rfl, hr4, hb4⟩
    have HB4 : Hid (Below w.heap.size w w4) := HB3.out.trans (hb4.mono HB3.out.size)
    have HS4 : Hid (ShAt w4 B []) := HS3.out.old hb4
    have HR4 : Hid (RfAt w4 w3.heap.size w.heap.size (.slice none 0 0) []) := hr4
    have HZ3 : Hid (w.heap.size ≤ w3.heap.size) := HB3.out.size
    clear hr4 hb4 HB3 HS3
    generalize w3.heap.size = C at *
    have HCl := clone_any w4 B [] HS4.out
    go_wp2_with fail
    refine HCl.mono ?_
    clear HCl
    rintro e w5 ⟨rfl, hs5, hb5⟩
    have HB5 : Hid (Below w.heap.size w w5) := HB4.out.trans (hb5.mono HB4.out.size)
    have HCr := rclone_any w5 C w.heap.size (.slice none 0 0) [] (HR4.out.old hb5) (by simp) HB5.out.size
    have HS5 : Hid (ShAt w5 w4.heap.size []) := hs5
    have Hb5 : Hid (Below w4.heap.size w4 w5) := hb5
    clear hs5 hb5
    go_wp2_with fail
    refine HCr.mono ?_
    clear HCr
    rintro e w6 ⟨rfl, ⟨v6, hr6, ho6⟩, hb6⟩
    have HI0 : Hid (PlI w 0 B C w4.heap.size w5.heap.size (.slice none 0 0) v6 [] [] w6) := by
      have q1 := HS4.out.lt
      have q2 := HR4.out.box.lt
      have q3 := Hb5.out.size
      have q4 := HB4.out.size
      exact ⟨(HS4.out.old Hb5.out).old hb6, (HR4.out.old Hb5.out).old hb6, HS5.out.old hb6, hr6, HZ2.out, HZ3.out, q4, by omega, by omega, by omega, fun g e => (by cases e), HB5.out.trans (hb6.mono HB5.out.size), Nat.le_refl _, Nat.le_refl _, fun p hp => (by cases hp), fun p hp => (by cases hp)⟩
    clear hr6 ho6 hb6 HB4 HS4 HR4 HB5 HS5 Hb5 HZ2 HZ3
    generalize w4.heap.size = B2 at *
    generalize w5.heap.size = C2 at *
    go_wp2
    go_loopw [3, 4, 5, 6, 7] (fun s r s2 r2 i wr => ∃ (k : Nat) (B1 C1 B2 C2 : Nat) (v1 v2 : Value) (L1 L2 : List Pr), k ≤ m ∧ s = .pointer (some ⟨B1, 0, none⟩) ∧ r = .pointer (some ⟨C1, 0, none⟩) ∧ s2 = .pointer (some ⟨B2, 0, none⟩) ∧ r2 = .pointer (some ⟨C2, 0, none⟩) ∧ i = .int .i64 (k : Int) ∧ Hid (PlI w k B1 C1 B2 C2 v1 v2 L1 L2 wr)) (fun _ _ _ _ i _ => m - (intOf i).toNat)
    case atStart => exact ⟨0, _, _, _, _, _, _, _, _, Nat.zero_le _, rfl, rfl, rfl, rfl, rfl, HI0⟩
    case round =>
      obtain ⟨k, B1, C1, B2, C2, v1, v2, L1, L2, hk, rfl, rfl, rfl, rfl, rfl, HI⟩ := hrel
      clear HI0
      by_cases hkm : k < m
      · have hki : (k : Int) < (m : Int) := by omega
        have hk1 : k < l.length := by rw [← Hm.out]; exact hkm
        obtain ⟨b, off, ha, hbn, hcs⟩ := HA.out.keep HI.out.bel (Nat.le_refl _) k hk1
        obtain ⟨x, hx⟩ : ∃ x, x = l[k] := ⟨_, rfl⟩
        have HX : Hid (x.key.size ≤ 2147483647 ∧ x.f.size ≤ 2147483647 ∧ x.t.size ≤ 2147483647) := by rw [hx]; exact HSZ.out _ (List.getElem_mem hk1)
        rw [← hx] at hcs
        clear hx
        obtain ⟨kind, oth, key, val, f, t, o, back, early⟩ := x
        dsimp only at HX
        have y0 : wr.cell? ⟨b, off + k * 9, none⟩ = some (.int .i64 kind) := hcs 0 _ rfl
        have y1 : wr.cell? ⟨b, off + k * 9 + 1, none⟩ = some (.bool oth) := hcs 1 _ rfl
        have y2 : wr.cell? ⟨b, off + k * 9 + 2, none⟩ = some (.string key) := hcs 2 _ rfl
        have y3 : wr.cell? ⟨b, off + k * 9 + 3, none⟩ = some (.string val) := hcs 3 _ rfl
        have y4 : wr.cell? ⟨b, off + k * 9 + 4, none⟩ = some (.string f) := hcs 4 _ rfl
        have y5 : wr.cell? ⟨b, off + k * 9 + 5, none⟩ = some (.string t) := hcs 5 _ rfl
        have y6 : wr.cell? ⟨b, off + k * 9 + 6, none⟩ = some (.bool o) := hcs 6 _ rfl
        have y7 : wr.cell? ⟨b, off + k * 9 + 7, none⟩ = some (.bool back) := hcs 7 _ rfl
        have y8 : wr.cell? ⟨b, off + k * 9 + 8, none⟩ = some (.int .i64 early) := hcs 8 _ rfl
        subst ha
        clear hcs
        have bw := (Below.refl wr.heap.size wr).alloc (Nat.le_refl _) (.cells #[.int .i64 kind, .bool oth, .string key, .string val, .string f, .string t, .bool o, .bool back, .int .i64 early] 31)
        have BW : Blk (wr.alloc (.cells #[.int .i64 kind, .bool oth, .string key, .string val, .string f, .string t, .bool o, .bool back, .int .i64 early] 31)) wr.heap.size 31 (Ca.cells ⟨kind, oth, key, val, f, t, o, back, early⟩) := Blk.new wr 31 _
        have HIw : Hid (PlI w k B1 C1 B2 C2 v1 v2 L1 L2 (wr.alloc (.cells #[.int .i64 kind, .bool oth, .string key, .string val, .string f, .string t, .bool o, .bool back, .int .i64 early] 31))) := HI.out.old bw
        obtain ⟨x0, x1, x2, x3, x4, x5, x6, x7, x8⟩ := Blk.c9 (x := ⟨kind, oth, key, val, f, t, o, back, early⟩) BW
        dsimp only at x0 x1 x2 x3 x4 x5 x6 x7 x8
        have HBW : Hid (Blk (wr.alloc (.cells #[.int .i64 kind, .bool oth, .string key, .string val, .string f, .string t, .bool o, .bool back, .int .i64 early] 31)) wr.heap.size 31 (Ca.cells ⟨kind, oth, key, val, f, t, o, back, early⟩)) := BW
        have hkn : k ≤ 2147483646 := by omega
        clear bw BW HI hbn
        go_upto_region 14 with fail
        generalize (wr.alloc (.cells #[.int .i64 kind, .bool oth, .string key, .string val, .string f, .string t, .bool o, .bool back, .int .i64 early] 31)) = W at *
        generalize wr.heap.size = N at *
        clear y0 y1 y2 y3 y4 y5 y6 y7 y8
        cases oth with
        | false =>
          by_cases h6 : kind = 6
          · have e6 : (kind == 6) = true := by rw [h6]; rfl
            clear h6
            have HCl := clone_any W B1 L1 HIw.out.s1
            clear x2 x3 x4 x5 x6 x7 x8
            go_wp2_with fail
            refine HCl.mono ?_
            clear HCl x0 x1
            rintro e wa ⟨rfl, hsa, hba⟩
            have HCr := rclone_any wa C1 w.heap.size v1 L1 (HIw.out.r1.old hba) (Nat.le_trans HIw.out.n1 (by omega)) (Nat.le_trans HIw.out.bel.size hba.size)
            have HSA : Hid (ShAt wa W.heap.size L1) := hsa
            have HBA : Hid (Below W.heap.size W wa) := hba
            clear hsa hba
            go_wp2_with fail
            refine HCr.mono ?_
            clear HCr
            rintro e wb ⟨rfl, ⟨vb, hrb, hob⟩, hbb⟩
            have HIb : Hid (PlI w k B1 C1 W.heap.size wa.heap.size v1 vb L1 L1 wb) := HIw.out.clone HSA.out HBA.out hrb hob hbb
            have HBb : Hid (Blk wb N 31 (Ca.cells ⟨kind, false, key, val, f, t, o, back, early⟩)) := (HBW.out.old HBA.out).old hbb
            clear hrb hob hbb HSA HBA
            generalize W.heap.size = B3 at *
            generalize wa.heap.size = C3 at *
            obtain ⟨x0, x1, x2, x3, x4, x5, x6, x7, x8⟩ := Blk.c9 (x := ⟨kind, false, key, val, f, t, o, back, early⟩) HBb.out
            dsimp only at x0 x1 x2 x3 x4 x5 x6 x7 x8
            have HCa := act_any B1 C1 w.heap.size L1 v1 ⟨kind, false, key, val, f, t, o, back, early⟩ (2147483647 + k) wb HIb.out.s1 HIb.out.r1 HIb.out.b1 HIb.out.c1 (Nat.le_trans HIb.out.n1 hkn) (by omega) HIb.out.z1 (Nat.le_trans HX.out.1 (Nat.le_add_right _ _)) (Nat.le_trans HX.out.2.1 (Nat.le_add_right _ _)) (Nat.le_trans HX.out.2.2 (Nat.le_add_right _ _))
            dsimp only [Ca.v, Ca.cells] at HCa
            go_wp2_with fail
            refine HCa.mono ?_
            clear HCa x0 x1 x2 x3 x4 x5 x6 x7 x8
            rintro e wz ⟨rfl, M, vz, hst, hm1, hm3⟩
            have HIz : Hid (PlI w (k + 1) B1 C1 B3 C3 vz vb M L1 wz) := HIb.out.act hst hm1 hm3
            clear hst hm1 hm3
            go_wp2
            go_roundw
            case rel => exact ⟨k + 1, _, _, _, _, _, _, _, _, by omega, rfl, rfl, rfl, rfl, by go_num, HIz⟩
            case measure => simp [intOf]; omega
          · have e6 : (kind == 6) = false := by rw [beq_eq_false_iff_ne]; exact h6
            clear h6 x0 x1 x2 x3 x4 x5 x6 x7 x8
            obtain ⟨x0, x1, x2, x3, x4, x5, x6, x7, x8⟩ := Blk.c9 (x := ⟨kind, false, key, val, f, t, o, back, early⟩) HBW.out
            dsimp only at x0 x1 x2 x3 x4 x5 x6 x7 x8
            have HCa := act_any B1 C1 w.heap.size L1 v1 ⟨kind, false, key, val, f, t, o, back, early⟩ (2147483647 + k) W HIw.out.s1 HIw.out.r1 HIw.out.b1 HIw.out.c1 (Nat.le_trans HIw.out.n1 hkn) (by omega) HIw.out.z1 (Nat.le_trans HX.out.1 (Nat.le_add_right _ _)) (Nat.le_trans HX.out.2.1 (Nat.le_add_right _ _)) (Nat.le_trans HX.out.2.2 (Nat.le_add_right _ _))
            dsimp only [Ca.v, Ca.cells] at HCa
            go_wp2_with fail
            refine HCa.mono ?_
            clear HCa x0 x1 x2 x3 x4 x5 x6 x7 x8
            rintro e wz ⟨rfl, M, vz, hst, hm1, hm3⟩
            have HIz : Hid (PlI w (k + 1) B1 C1 B2 C2 vz v2 M L2 wz) := HIw.out.act hst hm1 hm3
            clear hst hm1 hm3
            go_wp2
            go_roundw
            case rel => exact ⟨k + 1, _, _, _, _, _, _, _, _, by omega, rfl, rfl, rfl, rfl, by go_num, HIz⟩
            case measure => simp [intOf]; omega
        | true =>
          have HIs : Hid (PlI w k B2 C2 B1 C1 v2 v1 L2 L1 W) := HIw.out.swap
          by_cases h6 : kind = 6
          · have e6 : (kind == 6) = true := by rw [h6]; rfl
            clear h6
            have HCl := clone_any W B2 L2 HIs.out.s1
            clear x2 x3 x4 x5 x6 x7 x8
            go_wp2_with fail
            refine HCl.mono ?_
            clear HCl x0 x1
            rintro e wa ⟨rfl, hsa, hba⟩
            have HCr := rclone_any wa C2 w.heap.size v2 L2 (HIs.out.r1.old hba) (Nat.le_trans HIs.out.n1 (by omega)) (Nat.le_trans HIs.out.bel.size hba.size)
            have HSA : Hid (ShAt wa W.heap.size L2) := hsa
            have HBA : Hid (Below W.heap.size W wa) := hba
            clear hsa hba
            go_wp2_with fail
            refine HCr.mono ?_
            clear HCr
            rintro e wb ⟨rfl, ⟨vb, hrb, hob⟩, hbb⟩
            have HIb : Hid (PlI w k B2 C2 W.heap.size wa.heap.size v2 vb L2 L2 wb) := HIs.out.clone HSA.out HBA.out hrb hob hbb
            have HBb : Hid (Blk wb N 31 (Ca.cells ⟨kind, true, key, val, f, t, o, back, early⟩)) := (HBW.out.old HBA.out).old hbb
            clear hrb hob hbb HSA HBA
            generalize W.heap.size = B3 at *
            generalize wa.heap.size = C3 at *
            obtain ⟨x0, x1, x2, x3, x4, x5, x6, x7, x8⟩ := Blk.c9 (x := ⟨kind, true, key, val, f, t, o, back, early⟩) HBb.out
            dsimp only at x0 x1 x2 x3 x4 x5 x6 x7 x8
            have HCa := act_any B2 C2 w.heap.size L2 v2 ⟨kind, true, key, val, f, t, o, back, early⟩ (2147483647 + k) wb HIb.out.s1 HIb.out.r1 HIb.out.b1 HIb.out.c1 (Nat.le_trans HIb.out.n1 hkn) (by omega) HIb.out.z1 (Nat.le_trans HX.out.1 (Nat.le_add_right _ _)) (Nat.le_trans HX.out.2.1 (Nat.le_add_right _ _)) (Nat.le_trans HX.out.2.2 (Nat.le_add_right _ _))
            dsimp only [Ca.v, Ca.cells] at HCa
            go_wp2_with fail
            refine HCa.mono ?_
            clear HCa x0 x1 x2 x3 x4 x5 x6 x7 x8
            rintro e wz ⟨rfl, M, vz, hst, hm1, hm3⟩
            have HIz : Hid (PlI w (k + 1) B2 C2 B3 C3 vz vb M L2 wz) := HIb.out.act hst hm1 hm3
            clear hst hm1 hm3
            go_wp2
            go_roundw
            case rel => exact ⟨k + 1, _, _, _, _, _, _, _, _, by omega, rfl, rfl, rfl, rfl, by go_num, HIz⟩
            case measure => simp [intOf]; omega
          · have e6 : (kind == 6) = false := by rw [beq_eq_false_iff_ne]; exact h6
            clear h6 x0 x1 x2 x3 x4 x5 x6 x7 x8
            obtain ⟨x0, x1, x2, x3, x4, x5, x6, x7, x8⟩ := Blk.c9 (x := ⟨kind, true, key, val, f, t, o, back, early⟩) HBW.out
            dsimp only at x0 x1 x2 x3 x4 x5 x6 x7 x8
            have HCa := act_any B2 C2 w.heap.size L2 v2 ⟨kind, true, key, val, f, t, o, back, early⟩ (2147483647 + k) W HIs.out.s1 HIs.out.r1 HIs.out.b1 HIs.out.c1 (Nat.le_trans HIs.out.n1 hkn) (by omega) HIs.out.z1 (Nat.le_trans HX.out.1 (Nat.le_add_right _ _)) (Nat.le_trans HX.out.2.1 (Nat.le_add_right _ _)) (Nat.le_trans HX.out.2.2 (Nat.le_add_right _ _))
            dsimp only [Ca.v, Ca.cells] at HCa
            go_wp2_with fail
            refine HCa.mono ?_
            clear HCa x0 x1 x2 x3 x4 x5 x6 x7 x8
            rintro e wz ⟨rfl, M, vz, hst, hm1, hm3⟩
            have HIz : Hid (PlI w (k + 1) B2 C2 B1 C1 vz v1 M L1 wz) := HIs.out.act hst hm1 hm3
            clear hst hm1 hm3
            go_wp2
            go_roundw
            case rel => exact ⟨k + 1, _, _, _, _, _, _, _, _, by omega, rfl, rfl, rfl, rfl, by go_num, HIz⟩
            case measure => simp [intOf]; omega
      · obtain rfl : k = m := by omega
        have z1 : ∀ p ∈ L1, p.1.size ≤ 17179869184 := fun p hp => Nat.le_trans (HI.out.z1 p hp) (by omega)
        have z2 : ∀ p ∈ L2, p.1.size ≤ 17179869184 := fun p hp => Nat.le_trans (HI.out.z2 p hp) (by omega)
        have HZ2 : Hid (∀ p ∈ L2, p.1.size ≤ 17179869184) := z2
        have HW1 := whole_any B1 C1 w.heap.size L1 v1 wr HI.out.s1 HI.out.r1 (Nat.le_trans HI.out.n1 hm2) z1
        clear z1 z2
        go_wp2_with fail
        refine HW1.mono ?_
        clear HW1
        rintro e wy ⟨rfl, hby⟩
        have HIy : Hid (PlI w k B1 C1 B2 C2 v1 v2 L1 L2 wy) := HI.out.old hby
        clear hby HI
        have HW2 := whole_any B2 C2 w.heap.size L2 v2 wy HIy.out.s2 HIy.out.r2 (Nat.le_trans HIy.out.n2 hm2) HZ2.out
        go_wp2_with fail
        refine HW2.mono ?_
        clear HW2
        rintro e wz ⟨rfl, hbz⟩
        have HIz : Hid (PlI w k B1 C1 B2 C2 v1 v2 L1 L2 wz) := HIy.out.old hbz
        clear hbz HIy
        have HW3 := callsIn_wide.1 (awake_in 8 (Nat.le_refl _) wz)
        go_wp2_with fail
        refine HW3.mono ?_
        clear HW3
        rintro e wq ⟨rfl, hbq⟩
        have HE : Hid (Below w.heap.size w wq) := HIz.out.bel.trans (hbq.mono HIz.out.bel.size)
        clear hbq HIz
        go_wp2
        go_ret
        exact ⟨rfl, HE.out⟩
end Go.Proofs.Ytklnnkdcnaieoaa
