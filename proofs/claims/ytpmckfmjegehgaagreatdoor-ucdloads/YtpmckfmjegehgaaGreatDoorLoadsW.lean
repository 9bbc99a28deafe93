/- UcdLoads: Load, Marks, Class and Parts answer as the document asks (a walk; nothing is claimed here). -/
import Derived.Test.YtpmckfmjegehgaaGreatDoorLoadsK
namespace Go.Proofs.YtpmckfmjegehgaaGreatDoor
open Go.ChangeShapes Go.WideShapes Go.ChangeAt Go.RowKit Go.Vf Go.Maps

theorem DataAt.plen57 {w : World} {bd : Nat} {L : List Mk} {E : Int → List Int} (h : DataAt w bd L E) (p : Int) : (partsR' E p).length ≤ 57 := by
  unfold partsR'
  cases hs : isSyl p with
  | false => have := (h.elen p).1; simp; omega
  | true =>
    simp only [if_true]
    obtain ⟨_, h3, _⟩ := lettersR_in hs
    have : ∀ ls : List Int, (ls.flatMap (endsOfF E)).length ≤ 19 * ls.length := by
      intro ls
      induction ls with
      | nil => simp
      | cons x r ih => have := (h.elen x).1; simp only [List.flatMap_cons, List.length_append, List.length_cons]; omega
    have := this (lettersR p)
    omega
theorem parts_ok {t : List UInt8} {L : List Mk} {E : Int → List Int} (h : loadR t = .ok (L, E)) {bd : Nat} {a : Option Addr} {n c : Nat} {q : Int} (hq : InI q) {x : World} (hin : MIn x.heap.size x (.slice a n c) (marksR L)) (hd : DataAt x bd L E) :
    Calls Tryz.prog 13 #[.pointer (some ⟨bd, 0, none⟩), .agg #[.slice a n c], .int .i64 q] x fun e w' => e = .returned (.bool true) ∧ Below x.heap.size x w' := by
  obtain ⟨hlen, hl, _⟩ := load_says h
  obtain ⟨hok, hnd, _⟩ := load_total hlen hl
  obtain ⟨k, hdep, he⟩ := depth_of h
  have hll : (marksR L).length ≤ 1048576 := by
    have := hd
    obtain ⟨_, _, _, _, _, _, _, _, h4, _⟩ := this
    rw [marksR_length]; omega
  refine lawParts_any (marksR L) (marksR_rise hnd) hll (fun p => (parts_plain hlen hl p).1) (fun p => (parts_plain hlen hl p).2) k (by rw [partsP_marks hnd]; exact hdep) bd L E a n c x.heap.size q hq (partsR' E q) (partsD_eq h he q) rfl (by have := hd.plen57 q; omega) (by have := hd.plen57 q; omega) (by rw [clsP_marks hnd]) x (Nat.le_refl _) hin hd
theorem marks_ok {t : List UInt8} {L : List Mk} {E : Int → List Int} (_h : loadR t = .ok (L, E)) {bd : Nat} {a : Option Addr} {n c : Nat} {x : World} (hin : MIn x.heap.size x (.slice a n c) (marksR L)) (hd : DataAt x bd L E) :
    Calls Tryz.prog 12 #[.pointer (some ⟨bd, 0, none⟩), .agg #[.slice a n c]] x fun e w' => e = .returned (.bool true) ∧ Below x.heap.size x w' := by
  have hl4 : (marksR L).length ≤ 4096 := by
    have := hd
    obtain ⟨_, _, _, _, _, _, _, _, h4, _⟩ := this
    rw [marksR_length]; exact h4
  have hp5 : ∀ m ∈ marksR L, m.parts.length ≤ 1000000 := fun m hm => by
    have h' := hd
    obtain ⟨bm, nn, pv, ev, hbd, hdd, _⟩ := h'
    obtain ⟨y, hy, rfl⟩ := marksR_mem hm
    have := hd.plen (hdd.ins y hy).1
    show (partsAt L y.point).length ≤ _
    omega
  exact lawMarks_any (marksR L) (by omega) (fun m hm => by have := hp5 m hm; omega) hl4 hp5 bd L E rfl a n c x.heap.size x (Nat.le_refl _) hin hd
theorem MIn.up {n₀ n : Nat} {x : World} {v : Value} {l : List PM} (hn : n₀ ≤ n) : MIn n₀ x v l → MIn n x v l
  | .inl e => .inl e
  | .inr ⟨b, off, cap, e, hb, hc⟩ => .inr ⟨b, off, cap, e, Nat.lt_of_lt_of_le hb hn, fun j hj => by
    obtain ⟨pa, pk, pc, h1, h2, h3, h4⟩ := hc j hj
    exact ⟨pa, pk, pc, h1, h2, h3, h4.mono hn⟩⟩
theorem MIn.go {x y : World} {v : Value} {l : List PM} (h : MIn x.heap.size x v l) (hb : Below x.heap.size x y) : MIn y.heap.size y v l := MIn.up hb.size (h.below hb (Nat.le_refl _))

set_option maxHeartbeats 4000000 in
set_option maxRecDepth 20000 in
theorem loads_bad (s : ByteArray) (hs : s.size ≤ 281474976710656) (v : Value) (w : World) (hg : Glob w) (why line : Int) (hl : loadR s.data.toList = .error (why, line)) :
    Calls Tryz.prog 3 #[.string s, v] w fun e w' => e = .returned (.bool true) ∧ Below w.heap.size w w' := by
  have hy0 := load_why hl
  have hy1 : (why == 0) = false := by simpa using hy0
  have hy2 : (why != 0) = true := by simpa using hy0
  have h1 := load_glob s w hg hs
  rw [hl] at h1
  have h2 : ∀ x, Calls Tryz.prog 10 #[.string s] x fun e w' => RefLoadPost s.data.toList x e w' := refLoad_any s hs
  have HL : Aside (loadR s.data.toList = .error (why, line)) := hl
  clear hl
  go_enter Tryz.func3, Tryz.ntmps3
  go_wp2_with fail
  refine h1.mono ?_
  rintro e w1 ⟨hb1, hp1⟩
  obtain rfl : e = _ := hp1
  clear h1
  go_wp2_with fail
  refine (h2 w1).mono ?_
  intro e w2 hp2
  unfold RefLoadPost at hp2
  rw [HL.out] at hp2
  obtain ⟨hb2, hp2⟩ := hp2
  obtain rfl : e = _ := hp2
  have hb12 := hb1.trans (hb2.mono hb1.size)
  clear h2
  go_upto_region 3 with fail
  have hb3 := hb12.alloc hb12.size (.cells #[.slice none 0 0] 29)
  have hg3 : Glob (w2.alloc (.cells #[.slice none 0 0] 29)) := hg.below hb3
  generalize w2.alloc (.cells #[.slice none 0 0] 29) = w3 at hb3 hg3 ⊢
  have haw := awake_any w3 hg3
  go_wp2_with fail
  refine haw.mono ?_
  rintro e w4 ⟨rfl, hb4⟩
  go_wp2
  go_ret
  exact ⟨rfl, hb3.trans (hb4.mono hb3.size)⟩

set_option maxHeartbeats 16000000 in
set_option maxRecDepth 20000 in
theorem loads_good (s : ByteArray) (hs : s.size ≤ 281474976710656) (a : Option Addr) (kz cz : Nat) (zs : List Int) (w : World) (hg : Glob w) (L : List Mk) (E : Int → List Int) (hl : loadR s.data.toList = .ok (L, E)) (hin : Ints w.heap.size w (.slice a kz cz) zs) (hkz : kz = zs.length) (hzI : ∀ z ∈ zs, InI z) (hzl : kz ≤ 17592186044416) :
    Calls Tryz.prog 3 #[.string s, .slice a kz cz] w fun e w' => e = .returned (.bool true) ∧ Below w.heap.size w w' := by
  have h1 := load_glob s w hg hs
  rw [hl] at h1
  have h2 : ∀ x, Calls Tryz.prog 10 #[.string s] x fun e w' => RefLoadPost s.data.toList x e w' := refLoad_any s hs
  have HL : Aside (loadR s.data.toList = .ok (L, E)) := hl
  have HIN : Aside (Ints w.heap.size w (.slice a kz cz) zs) := hin
  have HKZ : Hid (kz = zs.length) := hkz
  have HZI : Aside (∀ z ∈ zs, InI z) := hzI
  clear hl hin hkz hzI
  go_enter Tryz.func3, Tryz.ntmps3
  go_wp2_with fail
  refine h1.mono ?_
  rintro e w1 ⟨hb1, hp1⟩
  obtain ⟨bd, rfl, hd1⟩ := hp1
  clear h1
  go_wp2_with fail
  refine (h2 w1).mono ?_
  intro e w2 hp2
  unfold RefLoadPost at hp2
  rw [HL.out] at hp2
  obtain ⟨hb2, am, n, c, rfl, hm2⟩ := hp2
  have hb12 := hb1.trans (hb2.mono hb1.size)
  have hd2 := hd1.below hb2
  clear h2 hd1
  go_upto_region 3 with fail
  have hb23 := (Below.refl w2.heap.size w2).alloc (Nat.le_refl _) (.cells #[.slice am n c] 29)
  have hx3 := Blk.new w2 29 #[.slice am n c]
  have hb3 := hb12.trans (hb23.mono hb12.size)
  have hm3 := hm2.go hb23
  have hd3 := hd2.below hb23
  generalize w2.alloc (.cells #[.slice am n c] 29) = w3 at hb3 hx3 hm3 hd3 hb23 ⊢
  generalize w2.heap.size = bx at hx3 ⊢
  have hg3 : Glob w3 := hg.below hb3
  have haw := awake_any w3 hg3
  clear hb1 hb2 hb12 hd2 hm2 hb23
  go_wp2_with fail
  refine haw.mono ?_
  rintro e w4 ⟨rfl, hb4⟩
  have HX4 : Aside (Blk w4 bx 29 #[.slice am n c]) := hx3.below hb4 hx3.lt
  have HM4 : Aside (MIn w4.heap.size w4 (.slice am n c) (marksR L)) := hm3.go hb4
  have HD4 : Aside (DataAt w4 bd L E) := hd3.below hb4
  have HB4 : Aside (Below w.heap.size w w4) := hb3.trans (hb4.mono hb3.size)
  have hnL : n = (marksR L).length := by obtain ⟨_, _, e⟩ := hm3.val; exact (Value.slice.inj e).2.1
  have HNL : Hid (n = (marksR L).length) := hnL
  have hn4 : n ≤ 4096 := by
    have := hd3
    obtain ⟨_, _, _, _, _, _, _, _, h4, _⟩ := this
    rw [hnL, marksR_length]; exact h4
  have x4 : w4.cell? ⟨bx, 0, none⟩ = some (.slice am n c) := HX4.out.cell 0
  have hmk := marks_ok HL.out HM4.out HD4.out
  clear haw hb3 hb4 hx3 hm3 hd3 hg3 hnL
  go_wp2_with fail
  refine hmk.mono ?_
  rintro e w5 ⟨rfl, hb5⟩
  have HJ5 : Aside (Blk w5 bx 29 #[.slice am n c] ∧ MIn w5.heap.size w5 (.slice am n c) (marksR L) ∧ DataAt w5 bd L E ∧ Below w.heap.size w w5) := ⟨HX4.out.below hb5 HX4.out.lt, HM4.out.go hb5, HD4.out.below hb5, HB4.out.trans (hb5.mono HB4.out.size)⟩
  have hptI : ∀ m ∈ marksR L, InI m.point ∧ InI (m.point + 1) := fun m hm => by
    obtain ⟨y, hy, rfl⟩ := marksR_mem hm
    have h' := HD4.out
    obtain ⟨_, _, _, _, _, _, _, _, _, hok⟩ := h'
    have := (hok y hy).1
    unfold mayB at this
    simp only [Bool.and_eq_true, decide_eq_true_eq] at this
    show InI y.point ∧ InI (y.point + 1)
    unfold InI
    omega
  have HPTI : Aside _ := hptI
  clear hmk hb5 HX4 HM4 HD4 HB4 x4 hptI
  go_wp2_with fail
  go_loopg [11] n (fun g1 v wr => ∃ (i : Nat), v = .int .i64 i ∧ i ≤ n ∧ n - i ≤ g1 ∧ Aside (Blk wr bx 29 #[.slice am n c] ∧ MIn wr.heap.size wr (.slice am n c) (marksR L) ∧ DataAt wr bd L E ∧ Below w.heap.size w wr))
  case atStart => exact ⟨0, rfl, Nat.zero_le _, by omega, HJ5⟩
  case round =>
    clear HJ5
    obtain ⟨i, rfl, hin, hg1, HJ⟩ := hrel
    have xr : wr.cell? ⟨bx, 0, none⟩ = some (.slice am n c) := HJ.out.1.cell 0
    by_cases hlt : i < n
    · have hltz : (i : Int) < (n : Int) := by omega
      have hiL : i < (marksR L).length := by rw [← HNL.out]; exact hlt
      obtain ⟨gm, om, eam, hgl, hcm⟩ : ∃ gm om, am = some ⟨gm, om, none⟩ ∧ gm < wr.heap.size ∧ wr.cell? ⟨gm, om + i * 3, none⟩ = some (.int .i64 (marksR L)[i].point) := by
        rcases HJ.out.2.1 with ⟨_, _, _, e⟩ | ⟨b, off, cap, e, hb, hc⟩
        · rw [e] at hiL; simp at hiL
        · obtain ⟨_, _, _, q, _⟩ := hc i hiL
          exact ⟨b, off, (Value.slice.inj e).1, hb, q⟩
      obtain ⟨hI1, hI2⟩ := HPTI.out _ (List.getElem_mem hiL)
      generalize (marksR L)[i].point = pt at hcm hI1 hI2
      subst eam
      have hbxl := HJ.out.1.lt
      have s0 : (wr.drew.cell? ⟨bx, 0, none⟩ = some (.slice (some ⟨gm, om, none⟩) n c) ∧ wr.drew.cell? ⟨gm, om + i * 3, none⟩ = some (.int .i64 pt)) ∧ Below wr.heap.size wr wr.drew := ⟨⟨xr, hcm⟩, (Below.refl _ _).drew⟩
      have HKK : Hid (∀ x y : World, ((x.cell? ⟨bx, 0, none⟩ = some (.slice (some ⟨gm, om, none⟩) n c) ∧ x.cell? ⟨gm, om + i * 3, none⟩ = some (.int .i64 pt)) ∧ Below wr.heap.size wr x) → Below wr.heap.size x y → ((y.cell? ⟨bx, 0, none⟩ = some (.slice (some ⟨gm, om, none⟩) n c) ∧ y.cell? ⟨gm, om + i * 3, none⟩ = some (.int .i64 pt)) ∧ Below wr.heap.size wr y)) := fun x y h1 h2 =>
        ⟨⟨(h2.cell (p := ⟨bx, 0, none⟩) hbxl).trans h1.1.1, (h2.cell (p := ⟨gm, om + i * 3, none⟩) hgl).trans h1.1.2⟩, h1.2.trans h2⟩
      have HP1 : Hid (∀ x : World, ((x.cell? ⟨bx, 0, none⟩ = some (.slice (some ⟨gm, om, none⟩) n c) ∧ x.cell? ⟨gm, om + i * 3, none⟩ = some (.int .i64 pt)) ∧ Below wr.heap.size wr x) → Calls Tryz.prog 13 #[.pointer (some ⟨bd, 0, none⟩), .agg #[.slice (some ⟨gm, om, none⟩) n c], .int .i64 pt] x fun e w' => e = .returned (.bool true) ∧ Below x.heap.size x w') := fun x hx => parts_ok HL.out hI1 (HJ.out.2.1.go hx.2) (HJ.out.2.2.1.below hx.2)
      have HP2 : Hid (∀ x : World, ((x.cell? ⟨bx, 0, none⟩ = some (.slice (some ⟨gm, om, none⟩) n c) ∧ x.cell? ⟨gm, om + i * 3, none⟩ = some (.int .i64 pt)) ∧ Below wr.heap.size wr x) → Calls Tryz.prog 13 #[.pointer (some ⟨bd, 0, none⟩), .agg #[.slice (some ⟨gm, om, none⟩) n c], .int .i64 (pt + 1)] x fun e w' => e = .returned (.bool true) ∧ Below x.heap.size x w') := fun x hx => parts_ok HL.out hI2 (HJ.out.2.1.go hx.2) (HJ.out.2.2.1.below hx.2)
      obtain ⟨hz1, hz2⟩ := hI2
      clear hcm
      go_upto_region 12 with fail
      go_cut [79] from 50 to 79 (fun v wx => v = .bool false ∧ Aside (Below wr.heap.size wr wx))
      case first =>
        refine wp_region_held_drew (S := fun x => (x.cell? ⟨bx, 0, none⟩ = some (.slice (some ⟨gm, om, none⟩) n c) ∧ x.cell? ⟨gm, om + i * 3, none⟩ = some (.int .i64 pt)) ∧ Below wr.heap.size wr x) (by kernel_rfl) s0 (fun hHeld => ?_)
        refine wpAnyH_takeD (i := 0) (some 57) (v := ?va0) rfl rfl (by kernel_rfl) (by kernel_rfl) (by kernel_rfl) (fun _ _ _ h => h) (Or.inl ⟨by kernel_rfl, ?hya0⟩) (by assumption) ?resta0
        case hya0 => (intro w hSw; (try dsimp only at hSw); go_simp; first | done | with_reducible rfl)
        try simp only [Act.put, List.setIfInBounds_toArray, List.set_cons_zero, List.set_cons_succ]
        refine wpAnyH_takeD (i := 1) (some 58) (v := ?va1) rfl rfl (by kernel_rfl) (by kernel_rfl) (by kernel_rfl) (fun _ _ _ h => h) (Or.inl ⟨by kernel_rfl, ?hya1⟩) (by assumption) ?resta1
        case hya1 => (intro w hSw; (try dsimp only at hSw); go_simp; first | done | with_reducible rfl)
        try simp only [Act.put, List.setIfInBounds_toArray, List.set_cons_zero, List.set_cons_succ]
        refine wpAnyH_takeD (i := 2) (some 59) (v := ?va2) rfl rfl (by kernel_rfl) (by kernel_rfl) (by kernel_rfl) (fun _ _ _ h => h) (Or.inl ⟨by kernel_rfl, ?hya2⟩) (by assumption) ?resta2
        case hya2 => (intro w hSw; (try dsimp only at hSw); go_simp; first | done | with_reducible rfl)
        try simp only [Act.put, List.setIfInBounds_toArray, List.set_cons_zero, List.set_cons_succ]
        refine wpAnyH_takeD (i := 3) (some 60) (v := ?va3) rfl rfl (by kernel_rfl) (by kernel_rfl) (by kernel_rfl) (fun _ _ _ h => h) (Or.inl ⟨by kernel_rfl, ?hya3⟩) (by assumption) ?resta3
        case hya3 => (intro w hSw; (try dsimp only at hSw); go_simp; first | done | with_reducible rfl)
        try simp only [Act.put, List.setIfInBounds_toArray, List.set_cons_zero, List.set_cons_succ]
        refine wpAnyH_takeD (i := 4) (some 61) (v := ?va4) rfl rfl (by kernel_rfl) (by kernel_rfl) (by kernel_rfl) (fun _ _ _ h => h) (Or.inl ⟨by kernel_rfl, ?hya4⟩) (by assumption) ?resta4
        case hya4 => (intro w hSw; (try dsimp only at hSw); go_simp; first | done | with_reducible rfl)
        try simp only [Act.put, List.setIfInBounds_toArray, List.set_cons_zero, List.set_cons_succ]
        refine wpAnyH_takeD (i := 5) (some 62) (v := ?va5) rfl rfl (by kernel_rfl) (by kernel_rfl) (by kernel_rfl) (fun _ _ _ h => h) (Or.inl ⟨by kernel_rfl, ?hya5⟩) (by assumption) ?resta5
        case hya5 => (intro w hSw; (try dsimp only at hSw); go_simp; first | done | with_reducible rfl)
        try simp only [Act.put, List.setIfInBounds_toArray, List.set_cons_zero, List.set_cons_succ]
        refine wpAnyH_takeD (i := 6) (some 63) (v := ?va6) rfl rfl (by kernel_rfl) (by kernel_rfl) (by kernel_rfl) (fun _ _ _ h => h) (Or.inl ⟨by kernel_rfl, ?hya6⟩) (by assumption) ?resta6
        case hya6 => (intro w hSw; (try dsimp only at hSw); go_simp; first | done | with_reducible rfl)
        try simp only [Act.put, List.setIfInBounds_toArray, List.set_cons_zero, List.set_cons_succ]
        refine wpAnyH_takeD (i := 7) (some 64) (v := ?va7) rfl rfl (by kernel_rfl) (by kernel_rfl) (by kernel_rfl) (fun _ _ _ h => h) (Or.inl ⟨by kernel_rfl, ?hya7⟩) (by assumption) ?resta7
        case hya7 => (intro w hSw; (try dsimp only at hSw); go_simp; first | done | with_reducible rfl)
        try simp only [Act.put, List.setIfInBounds_toArray, List.set_cons_zero, List.set_cons_succ]
        refine wpAnyH_ready (rs := [8]) (by kernel_rfl) (by simp) ?_
        refine AllReadyH.cons rfl (fun K hK => ?_) AllReadyH.nil
        go_simp
        go_wp2_with (go_at_call 13; refine (HP1.out _ hHeld).mono ?_; rintro e w4 ⟨rfl, hb4⟩)
        refine hK.out _ _ (HKK.out _ _ hHeld (below_call hHeld hb4)) (fun hHeld4 => ?_)
        clear hK K
        refine wpAnyH_takeD (i := 9) (some 66) (v := ?va9) rfl rfl (by kernel_rfl) (by kernel_rfl) (by kernel_rfl) (fun _ _ _ h => h) (Or.inl ⟨by kernel_rfl, ?hya9⟩) (by assumption) ?resta9
        case hya9 => (intro w hSw; (try dsimp only at hSw); go_simp; first | done | with_reducible rfl)
        try simp only [Act.put, List.setIfInBounds_toArray, List.set_cons_zero, List.set_cons_succ]
        refine wpAnyH_takeD (i := 10) (some 67) (v := ?va10) rfl rfl (by kernel_rfl) (by kernel_rfl) (by kernel_rfl) (fun _ _ _ h => h) (Or.inl ⟨by kernel_rfl, ?hya10⟩) (by assumption) ?resta10
        case hya10 => (intro w hSw; (try dsimp only at hSw); go_simp; first | done | with_reducible rfl)
        try simp only [Act.put, List.setIfInBounds_toArray, List.set_cons_zero, List.set_cons_succ]
        refine wpAnyH_takeD (i := 11) (some 68) (v := ?va11) rfl rfl (by kernel_rfl) (by kernel_rfl) (by kernel_rfl) (fun _ _ _ h => h) (Or.inl ⟨by kernel_rfl, ?hya11⟩) (by assumption) ?resta11
        case hya11 => (intro w hSw; (try dsimp only at hSw); go_simp; first | done | with_reducible rfl)
        try simp only [Act.put, List.setIfInBounds_toArray, List.set_cons_zero, List.set_cons_succ]
        refine wpAnyH_takeD (i := 12) (some 69) (v := ?va12) rfl rfl (by kernel_rfl) (by kernel_rfl) (by kernel_rfl) (fun _ _ _ h => h) (Or.inl ⟨by kernel_rfl, ?hya12⟩) (by assumption) ?resta12
        case hya12 => (intro w hSw; (try dsimp only at hSw); go_simp; first | done | with_reducible rfl)
        try simp only [Act.put, List.setIfInBounds_toArray, List.set_cons_zero, List.set_cons_succ]
        refine wpAnyH_takeD (i := 13) (some 70) (v := ?va13) rfl rfl (by kernel_rfl) (by kernel_rfl) (by kernel_rfl) (fun _ _ _ h => h) (Or.inl ⟨by kernel_rfl, ?hya13⟩) (by assumption) ?resta13
        case hya13 => (intro w hSw; (try dsimp only at hSw); go_simp; first | done | with_reducible rfl)
        try simp only [Act.put, List.setIfInBounds_toArray, List.set_cons_zero, List.set_cons_succ]
        refine wpAnyH_takeD (i := 14) (some 71) (v := ?va14) rfl rfl (by kernel_rfl) (by kernel_rfl) (by kernel_rfl) (fun _ _ _ h => h) (Or.inl ⟨by kernel_rfl, ?hya14⟩) (by assumption) ?resta14
        case hya14 => (intro w hSw; (try dsimp only at hSw); go_simp; first | done | with_reducible rfl)
        try simp only [Act.put, List.setIfInBounds_toArray, List.set_cons_zero, List.set_cons_succ]
        refine wpAnyH_takeD (i := 15) (some 72) (v := ?va15) rfl rfl (by kernel_rfl) (by kernel_rfl) (by kernel_rfl) (fun _ _ _ h => h) (Or.inl ⟨by kernel_rfl, ?hya15⟩) (by assumption) ?resta15
        case hya15 => (intro w hSw; (try dsimp only at hSw); go_simp; first | done | with_reducible rfl)
        try simp only [Act.put, List.setIfInBounds_toArray, List.set_cons_zero, List.set_cons_succ]
        refine wpAnyH_takeD (i := 16) (some 73) (v := ?va16) rfl rfl (by kernel_rfl) (by kernel_rfl) (by kernel_rfl) (fun _ _ _ h => h) (Or.inl ⟨by kernel_rfl, ?hya16⟩) (by assumption) ?resta16
        case hya16 => (intro w hSw; (try dsimp only at hSw); go_simp; first | done | with_reducible rfl)
        try simp only [Act.put, List.setIfInBounds_toArray, List.set_cons_zero, List.set_cons_succ]
        refine wpAnyH_takeD (i := 17) (some 74) (v := ?va17) rfl rfl (by kernel_rfl) (by kernel_rfl) (by kernel_rfl) (fun _ _ _ h => h) (Or.inl ⟨by kernel_rfl, ?hya17⟩) (by assumption) ?resta17
        case hya17 => (intro w hSw; (try dsimp only at hSw); go_simp; first | done | with_reducible rfl)
        try simp only [Act.put, List.setIfInBounds_toArray, List.set_cons_zero, List.set_cons_succ]
        refine wpAnyH_takeD (i := 18) (some 75) (v := ?va18) rfl rfl (by kernel_rfl) (by kernel_rfl) (by kernel_rfl) (fun _ _ _ h => h) (Or.inl ⟨by kernel_rfl, ?hya18⟩) (by assumption) ?resta18
        case hya18 => (intro w hSw; (try dsimp only at hSw); go_simp; first | done | with_reducible rfl)
        try simp only [Act.put, List.setIfInBounds_toArray, List.set_cons_zero, List.set_cons_succ]
        refine wpAnyH_takeD (i := 19) (some 76) (v := .int .i64 (pt + 1)) rfl rfl (by kernel_rfl) (by kernel_rfl) (by kernel_rfl) (fun _ _ _ h => h) (Or.inl ⟨by kernel_rfl, ?hya19⟩) (by assumption) ?resta19
        case hya19 => (intro w hSw; (try dsimp only at hSw); go_simp; first | done | exact wrapI2 (by omega) | (simp; omega))
        try simp only [Act.put, List.setIfInBounds_toArray, List.set_cons_zero, List.set_cons_succ]
        refine wpAnyH_ready (rs := [20]) (by kernel_rfl) (by simp) ?_
        refine AllReadyH.cons rfl (fun K hK => ?_) AllReadyH.nil
        go_simp
        go_wp2_with (go_at_call 13; refine (HP2.out _ hHeld4).mono ?_; rintro e w5 ⟨rfl, hb5⟩)
        refine hK.out _ _ (HKK.out _ _ hHeld4 (below_call hHeld4 hb5)) (fun hHeld5 => ?_)
        clear hK K
        refine wpAnyH_takeD (i := 21) (some 78) (v := ?va21) rfl rfl (by kernel_rfl) (by kernel_rfl) (by kernel_rfl) (fun _ _ _ h => h) (Or.inl ⟨by kernel_rfl, ?hya21⟩) (by assumption) ?resta21
        case hya21 => (intro w hSw; (try dsimp only at hSw); go_simp; first | done | with_reducible rfl)
        try simp only [Act.put, List.setIfInBounds_toArray, List.set_cons_zero, List.set_cons_succ]
        refine wpAnyH_takeD (i := 22) (some 79) (v := ?va22) rfl rfl (by kernel_rfl) (by kernel_rfl) (by kernel_rfl) (fun _ _ _ h => h) (Or.inl ⟨by kernel_rfl, ?hya22⟩) (by assumption) ?resta22
        case hya22 => (intro w hSw; (try dsimp only at hSw); go_simp; first | done | with_reducible rfl)
        try simp only [Act.put, List.setIfInBounds_toArray, List.set_cons_zero, List.set_cons_succ]
        refine wpAnyH_done (by kernel_rfl) ?_ _
        go_wp2_with fail
        go_meet
        case rel => exact ⟨rfl, hHeld5.2⟩
      case rest =>
        obtain ⟨rfl, HBW⟩ := hcut
        have HJ2 : Aside (Blk wc bx 29 #[.slice (some ⟨gm, om, none⟩) n c] ∧ MIn wc.heap.size wc (.slice (some ⟨gm, om, none⟩) n c) (marksR L) ∧ DataAt wc bd L E ∧ Below w.heap.size w wc) := ⟨HJ.out.1.below HBW.out HJ.out.1.lt, HJ.out.2.1.go HBW.out, HJ.out.2.2.1.below HBW.out, HJ.out.2.2.2.trans (HBW.out.mono HJ.out.2.2.2.size)⟩
        clear s0 HKK HP1 HP2 HJ xr
        go_wp2
        go_roundg (n - (i + 1))
        case measure => omega
        case rel => exact ⟨i + 1, by first | rfl | go_num, by omega, Nat.le_refl _, HJ2⟩
    · have hltz : ¬ (i : Int) < (n : Int) := by omega
      clear hin hg1
      go_wp2_with fail
      go_loopg [12] kz (fun g2 v wr => ∃ (i : Nat), v = .int .i64 i ∧ i ≤ kz ∧ kz - i ≤ g2 ∧ Aside (Blk wr bx 29 #[.slice am n c] ∧ MIn wr.heap.size wr (.slice am n c) (marksR L) ∧ DataAt wr bd L E ∧ Below w.heap.size w wr))
      case atStart => exact ⟨0, rfl, Nat.zero_le _, by omega, HJ⟩
      case round =>
        clear HJ xr
        obtain ⟨i, rfl, hik, hg2, HJ⟩ := hrel
        have xr : wr.cell? ⟨bx, 0, none⟩ = some (.slice am n c) := HJ.out.1.cell 0
        by_cases hlt2 : i < kz
        · have hlt2z : (i : Int) < (kz : Int) := by omega
          have hiz : i < zs.length := by rw [← HKZ.out]; exact hlt2
          obtain ⟨bp, op, hao, hnk, hblt, hcell⟩ := (HIN.out.below HJ.out.2.2.2 (Nat.le_refl _)).cell (fun e => by rw [e] at hiz; simp at hiz)
          have hcj := hcell i hiz
          rw [show zs[i]?.getD 0 = zs[i] by simp [List.getElem?_eq_getElem hiz]] at hcj
          have hqI := HZI.out _ (List.getElem_mem hiz)
          generalize zs[i] = q at hcj hqI
          subst hao
          have hbp : bp < wr.heap.size := Nat.lt_of_lt_of_le hblt HJ.out.2.2.2.size
          have hbxl := HJ.out.1.lt
          have s0 : (wr.drew.cell? ⟨bx, 0, none⟩ = some (.slice am n c) ∧ wr.drew.cell? ⟨bp, op + i, none⟩ = some (.int .i64 q)) ∧ Below wr.heap.size wr wr.drew := ⟨⟨xr, hcj⟩, (Below.refl _ _).drew⟩
          have HKK : Hid (∀ x y : World, ((x.cell? ⟨bx, 0, none⟩ = some (.slice am n c) ∧ x.cell? ⟨bp, op + i, none⟩ = some (.int .i64 q)) ∧ Below wr.heap.size wr x) → Below wr.heap.size x y → ((y.cell? ⟨bx, 0, none⟩ = some (.slice am n c) ∧ y.cell? ⟨bp, op + i, none⟩ = some (.int .i64 q)) ∧ Below wr.heap.size wr y)) := fun x y h1 h2 =>
            ⟨⟨(h2.cell (p := ⟨bx, 0, none⟩) hbxl).trans h1.1.1, (h2.cell (p := ⟨bp, op + i, none⟩) hbp).trans h1.1.2⟩, h1.2.trans h2⟩
          have HP1 : Hid (∀ x : World, ((x.cell? ⟨bx, 0, none⟩ = some (.slice am n c) ∧ x.cell? ⟨bp, op + i, none⟩ = some (.int .i64 q)) ∧ Below wr.heap.size wr x) → Calls Tryz.prog 13 #[.pointer (some ⟨bd, 0, none⟩), .agg #[.slice am n c], .int .i64 q] x fun e w' => e = .returned (.bool true) ∧ Below x.heap.size x w') := fun x hx => parts_ok HL.out hqI (HJ.out.2.1.go hx.2) (HJ.out.2.2.1.below hx.2)
          clear hcell hcj xr hnk hiz
          go_upto_region 17 with fail
          go_cut [93] from 80 to 93 (fun v wx => v = .bool false ∧ Aside (Below wr.heap.size wr wx))
          case first =>
            go_region_held (fun x => (x.cell? ⟨bx, 0, none⟩ = some (.slice am n c) ∧ x.cell? ⟨bp, op + i, none⟩ = some (.int .i64 q)) ∧ Below wr.heap.size wr x) (first | exact s0 | assumption | exact HKK.out _ _ (by assumption) (below_call (by assumption) (by assumption))) ((go_at_call 13; refine (HP1.out _ (by assumption)).mono ?_; rintro e w3 ⟨rfl, hb3⟩))
            all_goals go_wp2_with fail
            all_goals go_meet
            case rel => exact ⟨rfl, And.right (by assumption)⟩
          case rest =>
            obtain ⟨rfl, HBW⟩ := hcut
            have HJ2 : Aside (Blk wc bx 29 #[.slice am n c] ∧ MIn wc.heap.size wc (.slice am n c) (marksR L) ∧ DataAt wc bd L E ∧ Below w.heap.size w wc) := ⟨HJ.out.1.below HBW.out HJ.out.1.lt, HJ.out.2.1.go HBW.out, HJ.out.2.2.1.below HBW.out, HJ.out.2.2.2.trans (HBW.out.mono HJ.out.2.2.2.size)⟩
            clear s0 HKK HP1 HJ
            go_wp2
            go_roundg (kz - (i + 1))
            case measure => omega
            case rel => exact ⟨i + 1, by first | rfl | go_num, by omega, Nat.le_refl _, HJ2⟩
        · have hlt2z : ¬ (i : Int) < (kz : Int) := by omega
          have hmk := marks_ok HL.out HJ.out.2.1 HJ.out.2.2.1
          go_wp2_with fail
          refine hmk.mono ?_
          rintro e wz ⟨rfl, hbz⟩
          go_wp2
          go_ret
          exact ⟨rfl, HJ.out.2.2.2.trans (hbz.mono HJ.out.2.2.2.size)⟩
set_option maxRecDepth 100000 in
/-- At what came in. -/
theorem loads_open {H : Type} {enc : TypeId × Value → H} {base : Nat} {W : World} (s : ByteArray) (hs : s.size ≤ 281474976710656) (v : Value) (d : DataW H) (pl : List MemPlace) (hok : Value.okWide Tryz.prog W .any base 22 v)
    (h : DataW.Trod enc Tryz.prog W 0 (fun _ => true) true 22 v d pl) (hw : ∀ n ∈ d.weights Tryz.prog 22, n ≤ reachBytes) (W' : World) (hg : Glob W') (hW : W' = W) :
    Calls Tryz.prog 3 #[.string s, v] W' fun e w' => e = .returned (.bool true) ∧ Below W'.heap.size W' w' := by
  subst hW
  obtain ⟨a, k, c, rfl⟩ := okWide_slice Tryz.underlying22 hok
  obtain ⟨zs, h1, h2, h3⟩ := ints_open _ d pl h ⟨a, k, c, rfl⟩ hw
  have hk : k = zs.length := by
    rcases h1 with ⟨_, _, e, e2⟩ | ⟨_, _, _, e, _⟩
    · cases e; rw [e2]; rfl
    · exact (Value.slice.inj e).2.1
  cases hl : loadR s.data.toList with
  | error e => exact loads_bad s hs _ W' hg e.1 e.2 hl
  | ok p => exact loads_good s hs a k c zs W' hg p.1 p.2 hl h1 hk h3 (by omega)
end Go.Proofs.YtpmckfmjegehgaaGreatDoor
