/- NormalTwice: Form of Form is Form; of two lists it is that of their Forms (a walk; nothing is claimed here). -/
import Derived.Test.YtadbkkakjekopaaDoorJoinN
import Derived.Deep.CutRange
namespace Go.Proofs.YtadbkkakjekopaaDoor
open Go.RowKit Go.Vf Go.Maps

/-- A Form, as it stands in memory, of numbers. -/
structure Formed (L : List Mk) (E : Int → List Int) (ps X : List Int) : Prop where
  form : IsForm L E ps X
  mem : ∀ x ∈ X, x ∈ flatR E ps
  len : X.length = (flatR E ps).length
theorem Formed.self {t : List UInt8} {L : List Mk} {E : Int → List Int} (h : loadR t = .ok (L, E)) {ps X : List Int} (hf : Formed L E ps X) : IsForm L E X X := by
  refine ⟨hf.form.co, ?_⟩
  rw [flat_end h hf.mem]
  exact Alike0.refl _
theorem Formed.both {t : List UInt8} {L : List Mk} {E : Int → List Int} (h : loadR t = .ok (L, E)) {zs ys X Y B : List Int} (hX : Formed L E zs X) (hY : Formed L E ys Y) (hB : Formed L E (zs ++ ys) B) : IsForm L E (X ++ Y) B := by
  refine ⟨hB.form.co, ?_⟩
  rw [flat_append, flat_end h hX.mem, flat_end h hY.mem]
  have := hB.form.al
  rw [flat_append] at this
  exact (Alike0.append hX.form.al hY.form.al).symm.trans this
theorem Formed.lens {L : List Mk} {E : Int → List Int} {zs ys X Y B : List Int} (hX : Formed L E zs X) (hY : Formed L E ys Y) (hB : Formed L E (zs ++ ys) B) : B.length = X.length + Y.length := by
  rw [hB.len, flat_append, List.length_append, hX.len, hY.len]
theorem Formed.parted {t : List UInt8} {L : List Mk} {E : Int → List Int} (h : loadR t = .ok (L, E)) {zs ys X Y B : List Int} (hX : Formed L E zs X) (hY : Formed L E ys Y) (hB : Formed L E (zs ++ ys) B)
    (hp : X = [] ∨ Y = [] ∨ classAt L (X.getD (X.length - 1) 0) = 0 ∨ classAt L (Y.getD 0 0) = 0) : B = X ++ Y := by
  have hco : CO (classAt L) (X ++ Y) := by
    rcases hp with rfl | rfl | hp
    · exact hY.form.co
    · rw [List.append_nil]; exact hX.form.co
    · refine CO.append hX.form.co hY.form.co (fun x y hx hy h0 => ?_)
      obtain ⟨hne, e⟩ := getLast_getD hx
      have ey : Y.getD 0 0 = y := by
        cases Y with
        | nil => cases hy
        | cons a r => simpa using hy
      rcases hp with hp | hp
      · rw [e] at hp; rw [hp]; exact (load_cls h y).1
      · rw [ey] at hp; exact absurd hp h0
  have hf : FormOf (classAt L) (flatR E (X ++ Y)) (X ++ Y) := ⟨hco, by rw [flat_append, flat_end h hX.mem, flat_end h hY.mem]; exact Alike0.refl _⟩
  exact (Formed.both h hX hY hB).same hf
theorem FormPost.formed {L : List Mk} {E : Int → List Int} {w : World} {ps : List Int} {e : Ending} {w' : World} (h : FormPost L E w ps e w') : ∃ g k c X, e = .returned (.slice (some ⟨g, 0, none⟩) k c) ∧ IOwn w' w.heap.size (.slice (some ⟨g, 0, none⟩) k c) X ∧ Formed L E ps X ∧ Below w.heap.size w w' := by
  obtain ⟨g, k, c, X, h1, h2, h3, ⟨h4, h5⟩, h6⟩ := h
  exact ⟨g, k, c, X, h1, h2, ⟨h3, h4, h5⟩, h6⟩
theorem form_few {w : World} {bd : Nat} {L : List Mk} {E : Int → List Int} (h : DataAt w bd L E) {ps X : List Int} (hf : Formed L E ps X) (n : Nat) (hp : ps.length ≤ n) : X.length ≤ 57 * n := by
  have := (flat_len h ps).1
  rw [hf.len]
  omega
theorem formed_in {t : List UInt8} {L : List Mk} {E : Int → List Int} (h : loadR t = .ok (L, E)) {ps X : List Int} (hps : ∀ q ∈ ps, InI q) (hf : Formed L E ps X) : ∀ q ∈ X, InI q := fun q hq => flat_in h hps q (hf.mem q hq)

theorem Numb.cell {w : World} {g o k c : Nat} {zs : List Int} (h : Numb w (some ⟨g, o, none⟩) k c zs) (j : Nat) (hj : j < k) : w.cell? ⟨g, o + j, none⟩ = some (.int .i64 (zs.getD j 0)) ∧ InI (zs.getD j 0) := by
  have hl := h.len
  refine ⟨?_, h.int _ (getD_mem (by omega))⟩
  rcases h.ints with ⟨a, cap, e, e2⟩ | ⟨b, off, cap, e, hb, hc⟩
  · rw [e2] at hl; simp at hl; omega
  · cases e
    rw [hc j hj, List.getD_eq_getElem?_getD]
theorem Numb.cell0 {w : World} {g k c : Nat} {zs : List Int} (h : Numb w (some ⟨g, 0, none⟩) k c zs) (j : Nat) (hj : j < k) : w.cell? ⟨g, j, none⟩ = some (.int .i64 (zs.getD j 0)) := by
  have := (h.cell j hj).1
  rwa [Nat.zero_add] at this

set_option maxHeartbeats 8000000 in
set_option maxRecDepth 20000 in
theorem twice_bad (s : ByteArray) (hs : s.size ≤ 281474976710656) (va vb : Value) (w : World) (hg : Glob w) (why line : Int) (hl : loadR s.data.toList = .error (why, line)) :
    Calls Tryd.prog 4 #[.string s, va, vb] w fun e w' => e = .returned (.bool true) ∧ Below w.heap.size w w' := by
  have hy0 := load_why hl
  have hy1 : (why == 0) = false := by simpa using hy0
  have hy2 : (why != 0) = true := by simpa using hy0
  have hload := load_glob s w hg hs
  rw [hl] at hload
  clear hl
  go_enter Tryd.func4, Tryd.ntmps4
  go_wp2_with fail
  refine hload.mono ?_
  rintro e w1 ⟨hb1, hpost⟩
  obtain rfl : e = _ := hpost
  have haw := awake_any w1 (hg.below hb1)
  clear hload
  go_wp2_with fail
  refine haw.mono ?_
  rintro e w2 ⟨rfl, hb2⟩
  go_wp2
  go_ret
  exact ⟨rfl, hb1.trans (hb2.mono hb1.size)⟩

set_option maxHeartbeats 8000000 in
set_option maxRecDepth 20000 in
theorem twice_good (s : ByteArray) (hs : s.size ≤ 281474976710656) (a b : Option Addr) (k c k2 c2 : Nat) (zs ys : List Int) (w : World) (hg : Glob w) (L : List Mk) (E : Int → List Int) (hl : loadR s.data.toList = .ok (L, E)) (ha : Numb w a k c zs) (hb : Numb w b k2 c2 ys) (fa : zs.length ≤ 1048576) (fb : ys.length ≤ 1048576) :
    Calls Tryd.prog 4 #[.string s, .slice a k c, .slice b k2 c2] w fun e w' => e = .returned (.bool true) ∧ Below w.heap.size w w' := by
  have hload := load_glob s w hg hs
  rw [hl] at hload
  have HL : Aside (loadR s.data.toList = .ok (L, E)) := hl
  have HGL : Aside (Glob w) := hg
  have HA : Aside (Numb w a k c zs) := ha
  have HB : Aside (Numb w b k2 c2 ys) := hb
  clear hl hg ha hb
  go_enter Tryd.func4, Tryd.ntmps4
  go_wp2_with fail
  refine hload.mono ?_
  rintro e w1 ⟨hb1, hpost⟩
  obtain ⟨bd, rfl, hd⟩ := hpost
  have HD1 : Aside (DataAt w1 bd L E) := hd
  have HB1 : Aside (Below w.heap.size w w1) := hb1
  have HA1 : Aside (Numb w1 a k c zs) := HA.out.below hb1
  have HY1 : Aside (Numb w1 b k2 c2 ys) := HB.out.below hb1
  have HG1 : Aside (Glob w1) := HGL.out.below hb1
  clear hd hb1 hload HGL HA HB
  -- x := Form(d, a)
  go_wp2_with fail
  refine (form_load HL.out HD1.out HA1.out).mono ?_
  intro e w2 hpost
  obtain ⟨gx, kx, cx, X, rfl, hox, hfx, hbx⟩ := hpost.formed
  have hX57 := form_few HD1.out hfx 1048576 fa
  have HNX : Aside (Numb w2 (some ⟨gx, 0, none⟩) kx cx X) := hox.numb (formed_in HL.out HA1.out.int hfx) (by omega)
  have HFX : Aside (Formed L E zs X) := hfx
  have HB2 : Aside (Below w1.heap.size w1 w2) := hbx
  clear hpost hox hfx hbx
  -- y := Form(d, b)
  go_wp2_with fail
  refine (form_load HL.out (HD1.out.below HB2.out) (HY1.out.below HB2.out)).mono ?_
  intro e w3 hpost
  obtain ⟨gy, ky, cy, Y, rfl, hoy, hfy, hby⟩ := hpost.formed
  have hY57 := form_few HD1.out hfy 1048576 fb
  have HNY : Aside (Numb w3 (some ⟨gy, 0, none⟩) ky cy Y) := hoy.numb (formed_in HL.out HY1.out.int hfy) (by omega)
  have HFY : Aside (Formed L E ys Y) := hfy
  have HNX3 : Aside (Numb w3 (some ⟨gx, 0, none⟩) kx cx X) := HNX.out.below hby
  have HB3 : Aside (Below w1.heap.size w1 w3) := HB2.out.trans (hby.mono HB2.out.size)
  clear hpost hoy hfy hby HNX HB2
  -- both := Form(d, joined(a, b))
  go_wp2_with fail
  refine (joined_any (HA1.out.below HB3.out) (HY1.out.below HB3.out)).mono ?_
  rintro e w4 ⟨a4, k4, c4, rfl, ho4, hb4⟩
  have HN4 : Aside (Numb w4 a4 k4 c4 (zs ++ ys)) := ho4.numb (by intro q hq; rcases List.mem_append.1 hq with hq | hq; exact HA1.out.int q hq; exact HY1.out.int q hq) (by rw [List.length_append]; omega)
  have HB4 : Aside (Below w1.heap.size w1 w4) := HB3.out.trans (hb4.mono HB3.out.size)
  have HNX4 : Aside (Numb w4 (some ⟨gx, 0, none⟩) kx cx X) := HNX3.out.below hb4
  have HNY4 : Aside (Numb w4 (some ⟨gy, 0, none⟩) ky cy Y) := HNY.out.below hb4
  clear ho4 hb4 HB3 HNX3 HNY
  go_wp2_with fail
  refine (form_load HL.out (HD1.out.below HB4.out) HN4.out).mono ?_
  intro e w5 hpost
  obtain ⟨gb, kb, cb, B, rfl, hob, hfb, hbb⟩ := hpost.formed
  have hBl := Formed.lens HFX.out HFY.out hfb
  have HNB : Aside (Numb w5 (some ⟨gb, 0, none⟩) kb cb B) := hob.numb (formed_in HL.out HN4.out.int hfb) (by omega)
  have HFB : Aside (Formed L E (zs ++ ys) B) := hfb
  have HNX5 : Aside (Numb w5 (some ⟨gx, 0, none⟩) kx cx X) := HNX4.out.below hbb
  have HNY5 : Aside (Numb w5 (some ⟨gy, 0, none⟩) ky cy Y) := HNY4.out.below hbb
  have HB5 : Aside (Below w1.heap.size w1 w5) := HB4.out.trans (hbb.mono HB4.out.size)
  clear hpost hob hfb hbb HNX4 HNY4 HB4 HN4
  go_wp2_with fail
  -- Is(d, x)
  refine (is_load HL.out (HD1.out.below HB5.out) HNX5.out (HFX.out.self HL.out) (by omega)).mono ?_
  rintro e w6 ⟨rfl, hb6⟩
  rw [show decide (X = X) = true by simp]
  have HNX6 : Aside (Numb w6 (some ⟨gx, 0, none⟩) kx cx X) := HNX5.out.below hb6
  have HNY6 : Aside (Numb w6 (some ⟨gy, 0, none⟩) ky cy Y) := HNY5.out.below hb6
  have HNB6 : Aside (Numb w6 (some ⟨gb, 0, none⟩) kb cb B) := HNB.out.below hb6
  have HB6 : Aside (Below w1.heap.size w1 w6) := HB5.out.trans (hb6.mono HB5.out.size)
  clear hb6 HNX5 HNY5 HNB HB5
  go_wp2_with fail
  -- Is(d, both)
  refine (is_load HL.out (HD1.out.below HB6.out) HNB6.out (HFB.out.self HL.out) (by omega)).mono ?_
  rintro e w7 ⟨rfl, hb7⟩
  rw [show decide (B = B) = true by simp]
  have HNX7 : Aside (Numb w7 (some ⟨gx, 0, none⟩) kx cx X) := HNX6.out.below hb7
  have HNY7 : Aside (Numb w7 (some ⟨gy, 0, none⟩) ky cy Y) := HNY6.out.below hb7
  have HNB7 : Aside (Numb w7 (some ⟨gb, 0, none⟩) kb cb B) := HNB6.out.below hb7
  have HB7 : Aside (Below w1.heap.size w1 w7) := HB6.out.trans (hb7.mono HB6.out.size)
  clear hb7 HNX6 HNY6 HNB6 HB6
  go_wp2_with fail
  -- Form(d, x)
  refine (form_load HL.out (HD1.out.below HB7.out) HNX7.out).mono ?_
  intro e w8 hpost
  obtain ⟨g8, k8, c8, X8, rfl, ho8, hf8, hb8⟩ := hpost.formed
  obtain rfl : X8 = X := hf8.form.same (HFX.out.self HL.out)
  have HNX8 : Aside (Numb w8 (some ⟨gx, 0, none⟩) kx cx X8) := HNX7.out.below hb8
  have HNY8 : Aside (Numb w8 (some ⟨gy, 0, none⟩) ky cy Y) := HNY7.out.below hb8
  have HNB8 : Aside (Numb w8 (some ⟨gb, 0, none⟩) kb cb B) := HNB7.out.below hb8
  have HB8 : Aside (Below w1.heap.size w1 w8) := HB7.out.trans (hb8.mono HB7.out.size)
  have hq8 := sameInts_any _ _ X8 X8 w8.heap.size w8.heap.size w8 ho8.ints HNX8.out.ints (by omega) (by omega)
  rw [show decide (X8 = X8) = true by simp] at hq8
  clear hpost ho8 hf8 hb8 HNX7 HNY7 HNB7 HB7
  go_wp2_with fail
  refine hq8.mono ?_
  rintro e w9 ⟨rfl, hb9⟩
  have HNX9 : Aside (Numb w9 (some ⟨gx, 0, none⟩) kx cx X8) := HNX8.out.below hb9
  have HNY9 : Aside (Numb w9 (some ⟨gy, 0, none⟩) ky cy Y) := HNY8.out.below hb9
  have HNB9 : Aside (Numb w9 (some ⟨gb, 0, none⟩) kb cb B) := HNB8.out.below hb9
  have HB9 : Aside (Below w1.heap.size w1 w9) := HB8.out.trans (hb9.mono HB8.out.size)
  clear hb9 hq8 HNX8 HNY8 HNB8 HB8
  go_wp2_with fail
  -- joined(x, y)
  refine (joined_any HNX9.out HNY9.out).mono ?_
  rintro e wa ⟨aa, ka, ca, rfl, hoa, hba⟩
  have HNA : Aside (Numb wa aa ka ca (X8 ++ Y)) := hoa.numb (by intro q hq; rcases List.mem_append.1 hq with hq | hq; exact HNX9.out.int q hq; exact HNY9.out.int q hq) (by rw [List.length_append]; omega)
  have HNXa : Aside (Numb wa (some ⟨gx, 0, none⟩) kx cx X8) := HNX9.out.below hba
  have HNYa : Aside (Numb wa (some ⟨gy, 0, none⟩) ky cy Y) := HNY9.out.below hba
  have HNBa : Aside (Numb wa (some ⟨gb, 0, none⟩) kb cb B) := HNB9.out.below hba
  have HBa : Aside (Below w1.heap.size w1 wa) := HB9.out.trans (hba.mono HB9.out.size)
  clear hoa hba HNX9 HNY9 HNB9 HB9
  go_wp2_with fail
  refine (form_load HL.out (HD1.out.below HBa.out) HNA.out).mono ?_
  intro e wb hpost
  obtain ⟨gz, kz, cz, Z, rfl, hoz, hfz, hbz⟩ := hpost.formed
  obtain rfl : Z = B := hfz.form.same (Formed.both HL.out HFX.out HFY.out HFB.out)
  have HNXb : Aside (Numb wb (some ⟨gx, 0, none⟩) kx cx X8) := HNXa.out.below hbz
  have HNYb : Aside (Numb wb (some ⟨gy, 0, none⟩) ky cy Y) := HNYa.out.below hbz
  have HNBb : Aside (Numb wb (some ⟨gb, 0, none⟩) kb cb Z) := HNBa.out.below hbz
  have HBb : Aside (Below w1.heap.size w1 wb) := HBa.out.trans (hbz.mono HBa.out.size)
  have hqb := sameInts_any _ _ Z Z wb.heap.size wb.heap.size wb hoz.ints HNBb.out.ints (by omega) (by omega)
  rw [show decide (Z = Z) = true by simp] at hqb
  clear hpost hoz hfz hbz HNXa HNYa HNBa HBa HNA
  go_wp2_with fail
  refine hqb.mono ?_
  rintro e wc ⟨rfl, hbc⟩
  have HNX : Aside (Numb wc (some ⟨gx, 0, none⟩) kx cx X8) := HNXb.out.below hbc
  have HNY : Aside (Numb wc (some ⟨gy, 0, none⟩) ky cy Y) := HNYb.out.below hbc
  have HNB : Aside (Numb wc (some ⟨gb, 0, none⟩) kb cb Z) := HNBb.out.below hbc
  have HB : Aside (Below w1.heap.size w1 wc) := HBb.out.trans (hbc.mono HBb.out.size)
  clear hbc hqb HNXb HNYb HNBb HBb
  have hkb := HNB.out.len
  have hkx := HNX.out.len
  have hky := HNY.out.len
  have hlz : (kx : Int) + (ky : Int) = (kb : Int) := by omega
  have hkb3 : kb ≤ 200000000 := by omega
  have hkx3 : kx ≤ 100000000 := by omega
  have hky3 : ky ≤ 100000000 := by omega
  have HKB : Hid (kb = Z.length ∧ kx = X8.length ∧ ky = Y.length) := ⟨hkb, hkx, hky⟩
  have HBL : Hid (Z.length = X8.length + Y.length) := hBl
  clear hkb hkx hky hBl
  go_upto_region 9 with fail
  go_cut [13] from 85 to 92 (fun v wx => v = .bool (decide (X8 = [] ∨ Y = [])) ∧ wx = wc)
  case first =>
    by_cases d1 : kx = 0
    · have e1 : X8 = [] := List.length_eq_zero_iff.1 (by rw [← HKB.out.2.1]; exact d1)
      have d1z : (kx : Int) = 0 := by omega
      have d1q : ((kx : Int) == 0) = true := by simp [d1z]
      clear d1
      go_wp2_with fail
      go_meet
      case rel => exact ⟨by simp [e1], rfl⟩
    · have e1 : X8 ≠ [] := fun e => d1 (by rw [HKB.out.2.1, e]; rfl)
      have d1z : ¬ (kx : Int) = 0 := by omega
      have d1q : ((kx : Int) == 0) = false := by simpa using d1z
      by_cases d2 : ky = 0
      · have e2 : Y = [] := List.length_eq_zero_iff.1 (by rw [← HKB.out.2.2]; exact d2)
        have d2z : (ky : Int) = 0 := by omega
        have d2q : ((ky : Int) == 0) = true := by simp [d2z]
        clear d2
        go_wp2_with fail
        go_meet
        case rel => exact ⟨by simp [e2], rfl⟩
      · have e2 : Y ≠ [] := fun e => d2 (by rw [HKB.out.2.2, e]; rfl)
        have d2z : ¬ (ky : Int) = 0 := by omega
        have d2q : ((ky : Int) == 0) = false := by simpa using d2z
        go_wp2_with fail
        go_meet
        case rel => exact ⟨by simp [e1, e2], rfl⟩
  case rest =>
    obtain ⟨rfl, rfl⟩ := hcut
    generalize hp0 : decide (X8 = [] ∨ Y = []) = p0
    have HP0 : Hid (decide (X8 = [] ∨ Y = []) = p0) := hp0
    clear hp0
    go_upto_if 94 with fail
    obtain ⟨PB, HPB⟩ : ∃ PB, Hid (PB = decide (X8 = [] ∨ Y = [] ∨ classAt L (X8.getD (X8.length - 1) 0) = 0 ∨ classAt L (Y.getD 0 0) = 0)) := ⟨_, rfl⟩
    go_cut [13] from 93 to 111 (fun v wx => v = .bool PB ∧ wx = wc)
    case first =>
      cases p0 with
      | true =>
        have d : X8 = [] ∨ Y = [] := of_decide_eq_true HP0.out
        have dp : X8 = [] ∨ Y = [] ∨ classAt L (X8.getD (X8.length - 1) 0) = 0 ∨ classAt L (Y.getD 0 0) = 0 := d.elim .inl (fun h => .inr (.inl h))
        have HDP : Aside _ := dp
        clear d dp
        go_wp2_with fail
        go_meet
        case rel => exact ⟨by rw [HPB.out, decide_eq_true HDP.out], rfl⟩
      | false =>
        have d : ¬ (X8 = [] ∨ Y = []) := of_decide_eq_false HP0.out
        have hx0 : X8 ≠ [] := fun e => d (.inl e)
        have hy0 : Y ≠ [] := fun e => d (.inr e)
        have hxl : 0 < kx := by rw [HKB.out.2.1]; exact List.length_pos_iff.2 hx0
        have hyl : 0 < ky := by rw [HKB.out.2.2]; exact List.length_pos_iff.2 hy0
        obtain ⟨kp, hkp⟩ : ∃ q, q + 1 = kx := ⟨kx - 1, by omega⟩
        have zkp : (kx : Int) - 1 = (kp : Int) := by omega
        have bkp : (kp : Int) < (kx : Int) := by omega
        have bky : (0 : Int) < (ky : Int) := by omega
        have cX := HNX.out.cell0 kp (by omega)
        have iX := (HNX.out.cell kp (by omega)).2
        have cY := HNY.out.cell0 0 hyl
        have iY := (HNY.out.cell 0 hyl).2
        have hdc := HD1.out.below HB.out
        have qX := class_any bd L E _ wc iX hdc
        have qY := class_any bd L E _ wc iY hdc
        have ePT : ∀ p q : Int, p = classAt L (X8.getD kp 0) → q = classAt L (Y.getD 0 0) → decide (X8 = [] ∨ Y = [] ∨ classAt L (X8.getD (X8.length - 1) 0) = 0 ∨ classAt L (Y.getD 0 0) = 0) = (decide (p = 0) || decide (q = 0)) := fun p q hp hq => by
          rw [show X8.length - 1 = kp from by rw [← HKB.out.2.1]; omega, ← hp, ← hq]
          simp [hx0, hy0]
        have HEP : Hid (PB = (decide (classAt L (X8.getD kp 0) = 0) || decide (classAt L (Y.getD 0 0) = 0))) := HPB.out.trans (ePT _ _ rfl rfl)
        generalize classAt L (X8.getD kp 0) = px at qX HEP
        generalize classAt L (Y.getD 0 0) = py at qY HEP
        generalize X8.getD kp 0 = x at cX iX qX
        generalize Y.getD 0 0 = y at cY iY qY
        clear hx0 hy0 ePT HPB d hdc hkp hxl hyl
        by_cases h1 : px = 0
        · have h1q : (px == 0) = true := by simp [h1]
          have HP : Hid (PB = true) := by show _ = _; rw [HEP.out]; simp [h1]
          clear h1
          go_wp2_with fail
          refine qX.mono ?_
          rintro e wd ⟨rfl, rfl⟩
          go_wp2_with fail
          go_meet
          case rel => exact ⟨by rw [HP.out], rfl⟩
        · have h1q : (px == 0) = false := by simpa using h1
          by_cases h2 : py = 0
          · have h2q : (py == 0) = true := by simp [h2]
            have HP : Hid (PB = true) := by show _ = _; rw [HEP.out]; simp [h2]
            clear h2
            go_wp2_with fail
            refine qX.mono ?_
            rintro e wd ⟨rfl, rfl⟩
            go_wp2_with fail
            refine qY.mono ?_
            rintro e wd ⟨rfl, rfl⟩
            go_wp2_with fail
            go_meet
            case rel => exact ⟨by rw [HP.out], rfl⟩
          · have h2q : (py == 0) = false := by simpa using h2
            have HP : Hid (PB = false) := by show _ = _; rw [HEP.out]; simp [h1, h2]
            go_wp2_with fail
            refine qX.mono ?_
            rintro e wd ⟨rfl, rfl⟩
            go_wp2_with fail
            refine qY.mono ?_
            rintro e wd ⟨rfl, rfl⟩
            go_wp2_with fail
            go_meet
            case rel => exact ⟨by rw [HP.out], rfl⟩
    case rest =>
      obtain ⟨rfl, rfl⟩ := hcut
      have hpart : PB = true → Z = X8 ++ Y := fun h => Formed.parted HL.out HFX.out HFY.out HFB.out (of_decide_eq_true (HPB.out.symm.trans h))
      have HPT : Aside (PB = true → Z = X8 ++ Y) := hpart
      clear hpart HP0 HPB
      go_upto_region 12 with fail
      go_cut [120] from 112 to 120 (fun v wx => v = .bool false ∧ Aside (Below wc.heap.size wc wx))
      case first =>
        cases PB with
        | false =>
          go_wp2_with fail
          go_meet
          case rel => exact ⟨rfl, Below.refl _ _⟩
        | true =>
          have hZ := HPT.out rfl
          have hj := joined_any HNX.out HNY.out
          rw [← hZ] at hj
          have HZ : Hid (Z = X8 ++ Y) := hZ
          clear hZ
          go_wp2_with fail
          refine hj.mono ?_
          rintro e wd ⟨aj, kj, cj, rfl, hoj, hbj⟩
          have hq := sameInts_any _ _ Z Z wd.heap.size wd.heap.size wd (HNB.out.below hbj).ints hoj.ints (by rw [HBL.out]; omega) (by rw [HBL.out]; omega)
          rw [show decide (Z = Z) = true by simp] at hq
          clear hj hoj
          go_wp2_with fail
          refine hq.mono ?_
          rintro e we ⟨rfl, hbe⟩
          clear hq
          go_wp2_with fail
          go_meet
          case rel => exact ⟨rfl, hbj.trans (hbe.mono hbj.size)⟩
      case rest =>
        obtain ⟨rfl, hbw⟩ := hcut
        have HNB2 : Aside (Numb wc (some ⟨gb, 0, none⟩) kb cb Z) := HNB.out.below hbw.out
        have HB2 : Aside (Below w1.heap.size w1 wc) := HB.out.trans (hbw.out.mono HB.out.size)
        have HCO : Hid (CO (classAt L) Z) := HFB.out.form.co
        clear HNB HB HNX HNY hbw HPT HFX HFY HFB
        go_wp2_with fail
        go_loopg [14] kb (fun g1 vi wr => ∃ (i : Nat), vi = .int .i64 i ∧ 1 ≤ i ∧ kb - i ≤ g1 ∧ Aside (Numb wr (some ⟨gb, 0, none⟩) kb cb Z) ∧ Aside (Below w1.heap.size w1 wr))
        case atStart => exact ⟨1, rfl, Nat.le_refl _, by omega, HNB2, HB2⟩
        case round =>
          clear HNB2 HB2
          obtain ⟨i, rfl, hi1, hg1, HN, HBW⟩ := hrel
          by_cases hlt : i < kb
          · have hltz : (i : Int) < (kb : Int) := by omega
            obtain ⟨ip, hip⟩ : ∃ q, q + 1 = i := ⟨i - 1, by omega⟩
            have zip : (i : Int) = (ip : Int) + 1 := by omega
            obtain ⟨iN, hiN⟩ : ∃ q, q = i := ⟨_, rfl⟩
            obtain ⟨jN, hjN⟩ : ∃ q, q = ip := ⟨_, rfl⟩
            have ea : ((ip : Int) + 1).toNat = iN := by omega
            have pa : (0 : Int) ≤ (ip : Int) + 1 := by omega
            have ba : (ip : Int) + 1 < (kb : Int) := by omega
            have ra : IntKind.i64.wrap ((ip : Int) + 1) = (ip : Int) + 1 := by rw [IntKind.wrap_i64]; omega
            have ec : ((ip : Int)).toNat = jN := by omega
            have pc : (0 : Int) ≤ (ip : Int) := by omega
            have bc : (ip : Int) < (kb : Int) := by omega
            have rc : IntKind.i64.wrap ((ip : Int)) = (ip : Int) := by rw [IntKind.wrap_i64]; omega
            obtain ⟨x, hx⟩ : ∃ x, x = Z.getD i 0 := ⟨_, rfl⟩
            obtain ⟨y, hy⟩ : ∃ x, x = Z.getD ip 0 := ⟨_, rfl⟩
            have la : ∀ q, (wr.drewN q).cell? ⟨gb, iN, none⟩ = some (.int .i64 x) := fun q => by rw [hiN, hx]; exact HN.out.cell0 i hlt
            have lb : ∀ q, (wr.drewN q).cell? ⟨gb, jN, none⟩ = some (.int .i64 y) := fun q => by rw [hjN, hy]; exact HN.out.cell0 ip (by omega)
            have iX : InI x := by rw [hx]; exact (HN.out.cell i hlt).2
            have iY : InI y := by rw [hy]; exact (HN.out.cell ip (by omega)).2
            have hcl : ∀ p q, InI p → Calls Tryd.prog 20 #[.pointer (some ⟨bd, 0, none⟩), .int .i64 p] (wr.drewN q) fun e w' => e = .returned (.int .i64 (classAt L p)) ∧ w' = wr.drewN q := fun p q hp => (class_any bd L E p _ hp ((HD1.out.below HBW.out).below (below_drewQ wr q))).mono fun e w' h => ⟨h.1, h.2.symm⟩
            have hco : classAt L x ≠ 0 → classAt L y ≤ classAt L x := fun h0 => by
              have := HCO.out.at ip (by rw [← HKB.out.1]; omega)
              rw [hip, ← hx, ← hy] at this
              exact this h0
            have HC2 : Aside (classAt L x ≠ 0 → classAt L y ≤ classAt L x) := hco
            clear hco hx hy hiN hjN
            generalize classAt L = K at hcl HC2
            by_cases hk : K x = 0
            · have hk1 : (K x == 0) = true := by simp [hk]
              have hk2 : (K x != 0) = false := by simp [hk]
              clear hk
              go_wp2_with fail
              go_quiet (first | (go_at_call 20; exact Calls.quiet_of_same (hcl _ _ (by assumption))))
              have HN2 : Aside (Numb (wr.drewN nq) (some ⟨gb, 0, none⟩) kb cb Z) := HN.out.below (below_drewQ wr nq)
              have HBW2 : Aside (Below w1.heap.size w1 (wr.drewN nq)) := HBW.out.trans ((below_drewQ wr nq).mono HBW.out.size)
              clear la lb hcl HN HBW
              generalize wr.drewN nq = wq at HN2 HBW2 ⊢
              clear nq ea ec
              go_wp2
              go_roundg (kb - (i + 1))
              case measure => omega
              case rel => exact ⟨i + 1, by first | rfl | go_num | (congr 1; omega), by omega, Nat.le_refl _, HN2, HBW2⟩
            · have hk1 : (K x == 0) = false := by simpa using hk
              have hk2 : (K x != 0) = true := by simpa using hk
              have hle : ¬ K x < K y := by have := HC2.out hk; omega
              have hled : decide (K y > K x) = false := decide_eq_false hle
              have hled2 : decide (K x < K y) = false := decide_eq_false hle
              go_wp2_with fail
              go_quiet (first | (go_at_call 20; exact Calls.quiet_of_same (hcl _ _ (by assumption))))
              have HN2 : Aside (Numb (wr.drewN nq) (some ⟨gb, 0, none⟩) kb cb Z) := HN.out.below (below_drewQ wr nq)
              have HBW2 : Aside (Below w1.heap.size w1 (wr.drewN nq)) := HBW.out.trans ((below_drewQ wr nq).mono HBW.out.size)
              clear la lb hcl HN HBW
              generalize wr.drewN nq = wq at HN2 HBW2 ⊢
              clear nq ea ec
              go_wp2
              go_roundg (kb - (i + 1))
              case measure => omega
              case rel => exact ⟨i + 1, by first | rfl | go_num | (congr 1; omega), by omega, Nat.le_refl _, HN2, HBW2⟩
          · have hltz : ¬ (i : Int) < (kb : Int) := by omega
            have haw := awake_any wr (HG1.out.below HBW.out)
            go_wp2_with fail
            refine haw.mono ?_
            rintro e wz ⟨rfl, hbz⟩
            go_wp2
            go_ret
            exact ⟨rfl, HB1.out.trans ((HBW.out.trans (hbz.mono HBW.out.size)).mono HB1.out.size)⟩
end Go.Proofs.YtadbkkakjekopaaDoor
