/- What package normal's Form does (a contract; nothing is claimed here). -/
import Derived.Test.YtfhpgmlfgjfknaaGreatDoorNormC
import Derived.Deep.Cut
namespace Go.Proofs.YtfhpgmlfgjfknaaGreatDoor
open Go.RowKit Go.Vf Go.Maps Go.Shelf Go.Sort Go.Lib

theorem getD_left {P R : List Int} {j : Nat} (h : j < P.length) : (P ++ R).getD j 0 = P.getD j 0 := by
  simp only [List.getD_eq_getElem?_getD]
  rw [List.getElem?_append_left h]
theorem getD_right {P R : List Int} {j : Nat} (h : P.length ≤ j) : (P ++ R).getD j 0 = R.getD (j - P.length) 0 := by
  simp only [List.getD_eq_getElem?_getD]
  rw [List.getElem?_append_right h]
theorem SL.heap {w0 W : World} {g off n : Nat} {D : List Int} {cur : Array Value} {e : TypeId} {fr : Nat × Nat} (h : SL w0 g off n D W) (hb : w0.heap[g]? = some (.cells cur e fr)) : W.heap[g]? = some (.cells (putCells (Value.int .i64) off D.toArray cur) e fr) := by
  obtain ⟨m, os, rfl⟩ := h.sw
  have hg : g < w0.heap.size := (Array.getElem?_eq_some_iff.1 hb).1
  unfold sortWorld
  rw [heap_grow_old _ _ (by simpa [size_putRow] using hg)]
  simp [putRow, mapBlock, Sort.ahead, Array.getElem?_modify, hb, onCells]
theorem SL.below {w0 W : World} {g off n B : Nat} {D : List Int} (h : SL w0 g off n D W) (hB : B ≤ g) (hw : B ≤ w0.heap.size) : Below B w0 W := by
  have hle := h.sw.le
  obtain ⟨m, os, rfl⟩ := h.sw
  refine ⟨rfl, rfl, rfl, hle, fun k hk => ?_⟩
  unfold sortWorld
  rw [heap_grow_old _ _ (by rw [size_putRow]; exact Nat.lt_of_lt_of_le hk hw)]
  have : g ≠ k := by omega
  simp [putRow, mapBlock, Sort.ahead, Array.getElem?_modify, this]
theorem SL.own {w0 W : World} {base g cap kp off n : Nat} {X P A Q C : List Int} (h : SL w0 g off n C W) (hX : IOwn w0 base (.slice (some ⟨g, 0, none⟩) kp cap) X) (hs : X = P ++ A ++ Q) (hp : P.length = off) (ha : A.length = n) : IOwn W base (.slice (some ⟨g, 0, none⟩) kp cap) (P ++ C ++ Q) := by
  obtain ⟨h1, h2⟩ := hX
  have hl : (P ++ C ++ Q).length = X.length := by rw [hs]; simp only [List.length_append, h.len, ha]
  rcases h2 with ⟨h2, _⟩ | ⟨g', cap', cur, e1, hb, hh, hc1, hc2, hc3, hc4⟩
  · cases h2
  cases e1
  refine ⟨by rw [List.length_map, Nat.mul_one], .inr ⟨g, cap, _, by rw [hl], hb, h.heap hh, by rw [hl]; exact hc1, hc2, ?_, ?_⟩⟩
  · rw [← hc3]; simp [putCells]
  · rw [Nat.mul_one] at hc4 ⊢
    rw [hl]
    apply List.ext_getElem?
    intro j
    by_cases hj : j < X.length
    · have hcj : cur[j]? = some (.int .i64 (X.getD j 0)) := by
        have hx : (X.map (Value.int .i64))[j]? = some (.int .i64 (X.getD j 0)) := by simp [List.getD_eq_getElem?_getD, hj]
        rw [← hc4, List.getElem?_take_of_lt hj, Array.getElem?_toList] at hx
        exact hx
      have hy : ((P ++ C ++ Q).map (Value.int .i64))[j]? = some (.int .i64 ((P ++ C ++ Q).getD j 0)) := by rw [List.getElem?_map]; simp only [List.getD_eq_getElem?_getD]; rw [List.getElem?_eq_getElem (by omega)]; rfl
      rw [hy, List.getElem?_take_of_lt hj, Array.getElem?_toList]
      unfold putCells
      rw [Array.getElem?_mapIdx, hcj, Option.map_some]
      have hlen := h.len
      by_cases hin : off ≤ j ∧ j < off + C.toArray.size
      · rw [if_pos hin, toArray_at]
        have h2 : j < off + C.length := by simpa using hin.2
        rw [getD_mid (by omega) (by omega), hp]
      · rw [if_neg hin]
        have h2 : ¬ (off ≤ j ∧ j < off + C.length) := by simpa using hin
        congr 2
        rw [hs]
        rcases Nat.lt_or_ge j off with c | c
        · rw [List.append_assoc, List.append_assoc, getD_left (by omega), getD_left (by omega)]
        · rw [getD_right (by rw [List.length_append]; omega), getD_right (by rw [List.length_append]; omega)]
          congr 1
          simp only [List.length_append]
          omega
    · rw [List.getElem?_take_eq_none (by omega), List.getElem?_eq_none (by rw [List.length_map]; omega)]

theorem InI.i64 {x : Int} (h : InI x) : I64 x := h
theorem I64.inI {x : Int} (h : I64 x) : InI x := h
theorem oneCell_int : OneCell (Value.int .i64) := fun _ => rfl

/-- How far points have been put in order. -/
structure FormAt (cls : Int → Int) (pts X : List Int) (at0 : Nat) : Prop where
  al : Alike0 cls pts X
  co : CO cls (X.take at0)
  ahead : at0 = 0 ∨ X.length < at0 ∨ cls (X.getD (at0 - 1) 0) = 0
  top : at0 ≤ X.length + 1
  mem : ∀ x ∈ X, x ∈ pts
  len : X.length = pts.length
theorem FormAt.start {cls : Int → Int} {pts : List Int} : FormAt cls pts pts 0 := ⟨Alike0.refl _, by rw [List.take_zero]; trivial, .inl rfl, by omega, fun _ h => h, rfl⟩
theorem FormAt.done {cls : Int → Int} {pts X : List Int} {at0 : Nat} (h : FormAt cls pts X at0) (hn : X.length ≤ at0) : FormOf cls pts X := ⟨by have := h.co; rwa [List.take_of_length_le hn] at this, h.al⟩
theorem three_parts (X : List Int) {a b : Nat} (h : a ≤ b) : X = X.take a ++ (X.drop a).take (b - a) ++ X.drop b := by
  have e1 := (List.take_append_drop a X).symm
  have e2 := (List.take_append_drop (b - a) (X.drop a)).symm
  rw [List.drop_drop, show a + (b - a) = b from by omega] at e2
  rw [List.append_assoc, ← e2]
  exact e1
theorem getLast_getD {P : List Int} {x : Int} (h : P.getLast? = some x) : P ≠ [] ∧ P.getD (P.length - 1) 0 = x := by
  cases P with
  | nil => cases h
  | cons y t =>
    refine ⟨by simp, ?_⟩
    rw [List.getLast?_eq_getElem?] at h
    rw [List.getD_eq_getElem?_getD, h]; rfl
theorem FormAt.step {cls : Int → Int} (hc0 : ∀ x, 0 ≤ cls x) {pts X C : List Int} {at0 en : Nat} (h : FormAt cls pts X at0) (hat : at0 < X.length) (hr : RowEnds cls X at0 en) (hs : SortedK cls C) (ha : AlikeK cls ((X.drop at0).take (en - at0)) C) (hl : C.length = en - at0) :
    FormAt cls pts (X.take at0 ++ C ++ X.drop en) (en + 1) := by
  have hX := three_parts X hr.le
  have hle := hr.le
  have htop := hr.top
  have lP : (X.take at0).length = at0 := by rw [List.length_take]; omega
  have lA : ((X.drop at0).take (en - at0)).length = en - at0 := by rw [List.length_take, List.length_drop]; omega
  have lX : (X.take at0 ++ C ++ X.drop en).length = X.length := by simp only [List.length_append, lP, hl, List.length_drop]; omega
  have hA : ∀ x ∈ (X.drop at0).take (en - at0), cls x ≠ 0 := by
    refine piece_all (P := X.take at0) (Q := X.drop en) (fun t h1 h2 => ?_)
    rw [← hX]
    exact hr.none t (by omega) (by omega)
  have hb : CO cls (X.take at0 ++ C) := by
    refine CO.append h.co hs.co (fun x y hx hy _ => ?_)
    obtain ⟨hne, e⟩ := getLast_getD hx
    have : cls x = 0 := by
      rcases h.ahead with h1 | h1 | h1
      · exfalso; rw [h1, List.take_zero] at hne; exact hne rfl
      · omega
      · rw [lP] at e
        have e2 : (X.take at0).getD (at0 - 1) 0 = X.getD (at0 - 1) 0 := by
          have h0 : 0 < at0 := by
            rcases Nat.eq_zero_or_pos at0 with e0 | e0
            · rw [e0, List.take_zero] at hne; exact absurd rfl hne
            · exact e0
          simp only [List.getD_eq_getElem?_getD]
          rw [List.getElem?_take_of_lt (by omega)]
        rw [← e, e2]; exact h1
    rw [this]; exact hc0 y
  have hPC : (X.take at0 ++ C).length = en := by rw [List.length_append, lP, hl]; omega
  refine ⟨?_, ?_, ?_, by rw [lX]; omega, ?_, by rw [lX]; exact h.len⟩
  · refine h.al.trans ?_
    have : Alike0 cls (X.take at0 ++ (X.drop at0).take (en - at0) ++ X.drop en) (X.take at0 ++ C ++ X.drop en) := Alike0.append (Alike0.append (Alike0.refl _) (ha.alike0 hA)) (Alike0.refl _)
    rwa [← hX] at this
  · rw [List.take_append, hPC, List.take_of_length_le (by omega), show en + 1 - en = 1 from by omega]
    cases hd : X.drop en with
    | nil => simpa using hb
    | cons q r =>
      have hlt : en < X.length := by
        rcases Nat.lt_or_ge en X.length with h1 | h1
        · exact h1
        · rw [List.drop_of_length_le h1] at hd; cases hd
      have hq : cls q = 0 := by
        have e := hr.stop hlt
        rw [hX, getD_right (by rw [List.length_append, lP, lA]; omega), List.length_append, lP, lA, show en - (at0 + (en - at0)) = 0 from by omega, hd] at e
        exact e
      refine CO.append hb (by trivial) (fun x y _ hy h0 => ?_)
      simp only [List.take_succ_cons, List.head?_cons, Option.some.injEq] at hy
      rw [← hy] at h0
      exact absurd hq h0
  · rcases Nat.lt_or_ge en X.length with h1 | h1
    · refine .inr (.inr ?_)
      rw [show en + 1 - 1 = en from by omega, getD_right (by omega), hPC, Nat.sub_self]
      have e := hr.stop h1
      rw [hX, getD_right (by rw [List.length_append, lP, lA]; omega), List.length_append, lP, lA, show en - (at0 + (en - at0)) = 0 from by omega] at e
      exact e
    · exact .inr (.inl (by rw [lX]; omega))
  · intro x hx
    refine h.mem x ?_
    rcases List.mem_append.1 hx with hx | hx
    · rcases List.mem_append.1 hx with hx | hx
      · exact List.mem_of_mem_take hx
      · exact List.mem_of_mem_drop (List.mem_of_mem_take (ha.symm.mem hx))
    · exact List.mem_of_mem_drop hx

/-- All that a round of Form keeps. -/
structure FormW (L : List Mk) (E : Int → List Int) (w1 : World) (bd bx g kp cc : Nat) (pts X : List Int) (at0 : Nat) (wr : World) : Prop where
  own : IOwn wr w1.heap.size (.slice (some ⟨g, 0, none⟩) kp cc) X
  below : Below w1.heap.size w1 wr
  form : FormAt (classAt L) pts X at0
theorem rows_of_own {w : World} {base g kp cc off n : Nat} {X A : List Int} (h : IOwn w base (.slice (some ⟨g, 0, none⟩) kp cc) X) (hA : A = (X.drop off).take n) (ho : off + n ≤ X.length) (hI : ∀ x ∈ X, InI x) : RowN w g off n ∧ SL w g off n A w := by
  have hlen : A.length = n := by rw [hA, List.length_take, List.length_drop]; omega
  rcases h.form with ⟨h1, _⟩ | ⟨g', cap', e1, hb, hlt, hcap, hcell, hfr⟩
  · cases h1
  cases e1
  have hH : Holds (Value.int .i64) w g off A.toArray := fun j hj => by
    have hj' : j < n := by simpa [hlen] using hj
    refine ⟨?_, hfr _⟩
    rw [hcell (off + j) (by omega), toArray_at, hA]
    simp only [List.getD_eq_getElem?_getD]
    rw [List.getElem?_take_of_lt hj', List.getElem?_drop]
  exact ⟨⟨A, hlen, ⟨oneCell_int, hH, hlt⟩⟩, ⟨SW.start hH, hlen, fun x hx => (hI x (List.mem_of_mem_drop (List.mem_of_mem_take (by rw [hA] at hx; exact hx)))).i64⟩⟩
def FormPost (L : List Mk) (E : Int → List Int) (w : World) (ps : List Int) (e : Ending) (w' : World) : Prop := ∃ g k c X, e = .returned (.slice (some ⟨g, 0, none⟩) k c) ∧ IOwn w' w.heap.size (.slice (some ⟨g, 0, none⟩) k c) X ∧ FormOf (classAt L) (flatR E ps) X ∧ ((∀ x ∈ X, x ∈ flatR E ps) ∧ X.length = (flatR E ps).length) ∧ Below w.heap.size w w'

set_option maxHeartbeats 8000000 in
set_option maxRecDepth 20000 in
theorem form_any (bd : Nat) (L : List Mk) (E : Int → List Int) (a : Option Addr) (kp cap : Nat) (ps : List Int) (w : World) (hps : ∀ q ∈ ps, InI q) (hpt : ∀ q ∈ flatR E ps, InI q) (hc0 : ∀ p, 0 ≤ classAt L p) (hd : DataAt w bd L E) (hin : Ints w.heap.size w (.slice a kp cap) ps) (hkp : kp = ps.length) (hkl : (flatR E ps).length ≤ 68719476736) (hkl2 : kp ≤ 68719476736) :
    Calls Tryz.prog 20 #[.pointer (some ⟨bd, 0, none⟩), .slice a kp cap] w fun e w' => FormPost L E w ps e w' := by
  have hb1 := (Below.refl w.heap.size w).alloc (Nat.le_refl _) (.cells #[.pointer (some ⟨bd, 0, none⟩)] 43)
  have hd1 := hd.below hb1
  have hbx := Blk.new w 43 #[.pointer (some ⟨bd, 0, none⟩)]
  have hin1 : Ints (w.alloc (.cells #[.pointer (some ⟨bd, 0, none⟩)] 43)).heap.size _ (.slice a kp cap) ps := (hin.below hb1 (Nat.le_refl _)).mono hb1.size
  have hs1 : (w.alloc (.cells #[.pointer (some ⟨bd, 0, none⟩)] 43)).heap.size = w.heap.size + 1 := by simp
  clear hin hd
  go_enter Tryz.func20, Tryz.ntmps20
  go_upto_region 1 with fail
  generalize w.alloc (.cells #[.pointer (some ⟨bd, 0, none⟩)] 43) = w1 at hb1 hd1 hbx hin1 hs1 ⊢
  have hbc : w1.cell? ⟨w.heap.size, 0, none⟩ = some (.pointer (some ⟨bd, 0, none⟩)) := hbx.cell 0
  have HS1 : Hid (w1.heap.size = w.heap.size + 1) := hs1
  have HKP : Hid (kp = ps.length) := hkp
  clear hs1 hkp
  go_wp2_with fail
  refine (decompose_any bd L E a kp cap ps w1 hps hd1 hin1 HKP.out hkl hkl2).mono ?_
  rintro e w2 ⟨g, kq, cq, rfl, hown2, hbel2⟩
  obtain ⟨av, cv, hv⟩ := hown2.val
  have hkq : kq = (flatR E ps).length := by simpa using (Value.slice.inj hv).2.1
  have HKQ : Hid (kq = (flatR E ps).length) := hkq
  have hkql : kq ≤ 68719476736 := by omega
  have H0 : Aside (FormW L E w1 bd w.heap.size g kq cq (flatR E ps) (flatR E ps) 0 w2) := ⟨hown2, hbel2, FormAt.start⟩
  have HG : Hid (w1.heap.size ≤ g) := by
    rcases hown2.form with ⟨h1, _⟩ | ⟨g', cap', e1, hb, _⟩
    · cases h1
    · cases e1; exact hb
  have HPT : Aside _ := hpt
  have HC0 : Aside _ := hc0
  have HD : Aside (DataAt w1 bd L E) := hd1
  have HB1 : Aside (Below w.heap.size w w1) := hb1
  have hbc2 : w2.cell? ⟨w.heap.size, 0, none⟩ = some (.pointer (some ⟨bd, 0, none⟩)) := (hbel2.cell (p := ⟨w.heap.size, 0, none⟩) (show w.heap.size < w1.heap.size by rw [HS1.out]; omega)).trans hbc
  clear hown2 hbel2 hv hkq hpt hc0 hd1 hb1 hin1 hbx hkl hkl2 HKP hps
  go_wp2_with fail
  go_loopg [7] (kq + 1) (fun g1 vi wr => ∃ (at0 : Nat) (X : List Int), vi = .int .i64 at0 ∧ at0 ≤ kq + 1 ∧ kq + 1 - at0 ≤ g1 ∧ Aside (FormW L E w1 bd w.heap.size g kq cq (flatR E ps) X at0 wr))
  case atStart => exact ⟨0, flatR E ps, rfl, by omega, by omega, H0⟩
  case round =>
    have HBC : Aside (w1.cell? ⟨w.heap.size, 0, none⟩ = some (.pointer (some ⟨bd, 0, none⟩))) := hbc
    clear H0 hbc hbc2
    obtain ⟨at0, X, rfl, hat1, hg1, H1⟩ := hrel
    have hXl : kq = X.length := by
      obtain ⟨av, cv, hv⟩ := H1.out.own.val
      simpa using (Value.slice.inj hv).2.1
    have HXL : Hid (kq = X.length) := hXl
    have hcap : kq ≤ cq := by
      rcases H1.out.own.form with ⟨h1, _⟩ | ⟨g', cap', e1, _, _, hb, _⟩
      · cases h1
      · cases e1; omega
    by_cases hlt : at0 < kq
    · have hltz : (at0 : Int) < (kq : Int) := by omega
      have hbr : wr.cell? ⟨w.heap.size, 0, none⟩ = some (.pointer (some ⟨bd, 0, none⟩)) := (H1.out.below.cell (p := ⟨w.heap.size, 0, none⟩) (show w.heap.size < w1.heap.size by rw [HS1.out]; omega)).trans HBC.out
      have hdr : DataAt wr bd L E := HD.out.below H1.out.below
      have hXI : ∀ x ∈ X, InI x := fun x hx => HPT.out x (H1.out.form.mem x hx)
      have hre := rowEnd_any bd L E (some ⟨g, 0, none⟩) kq cq at0 wr.heap.size X wr hXI hdr H1.out.own.ints hXl hkql (by omega)
      have HXI : Aside _ := hXI
      clear hXI hdr hXl
      go_wp2_with fail
      refine hre.mono ?_
      rintro e w3 ⟨en, rfl, hr, rfl⟩
      have hr1 := hr.le
      have hr2 : en ≤ kq := by rw [HXL.out]; exact hr.top
      have hz1 : (at0 : Int) ≤ (en : Int) := by omega
      have hz2 : (en : Int) ≤ (cq : Int) := by omega
      have HR : Aside _ := hr
      clear hr hre
      go_wp2_with fail
      have hRS := rows_of_own (off := at0) (n := en - at0) H1.out.own rfl (by rw [← HXL.out]; omega) HXI.out
      have hCO : CmpOk 41 #[.pointer (some ⟨w.heap.size, 0, none⟩)] (classAt L) wr g at0 (en - at0) := fun W D hS x y hx hy => by
        have hbW : Below w1.heap.size wr W := hS.below HG.out H1.out.below.size
        have hbA := H1.out.below.trans hbW
        exact byClass_any w.heap.size bd L E x y W hx.inI hy.inI ((hbA.cell (p := ⟨w.heap.size, 0, none⟩) (show w.heap.size < w1.heap.size by rw [HS1.out]; omega)).trans HBC.out) (HD.out.below hbA)
      refine (sortStable_any hRS.1 (by omega) (fun _ _ => rfl) hCO (cq - at0) wr hRS.2).mono ?_
      rintro e w4 ⟨rfl, C, SC, sC, aC⟩
      have H2 : Aside (FormW L E w1 bd w.heap.size g kq cq (flatR E ps) (X.take at0 ++ C ++ X.drop en) (en + 1) w4) :=
        ⟨SC.own H1.out.own (three_parts X hr1) (by rw [List.length_take, ← HXL.out]; omega) (by rw [List.length_take, List.length_drop, ← HXL.out]; omega),
          H1.out.below.trans (SC.below HG.out H1.out.below.size), H1.out.form.step HC0.out (by rw [← HXL.out]; exact hlt) HR.out sC aC SC.len⟩
      generalize X.take at0 ++ C ++ X.drop en = X2 at H2
      clear hRS hCO SC sC aC HR H1 hbr
      go_wp2
      go_roundg (kq + 1 - (en + 1))
      case measure => omega
      case rel => exact ⟨en + 1, X2, by first | rfl | go_num, by omega, Nat.le_refl _, H2⟩
    · have hltz : ¬ (at0 : Int) < (kq : Int) := by omega
      clear hXl
      go_wp2_with fail
      go_ret
      have hsz : w.heap.size ≤ w1.heap.size := HB1.out.size
      exact ⟨g, kq, cq, X, rfl, H1.out.own.mono hsz, H1.out.form.done (by rw [← HXL.out]; omega), ⟨H1.out.form.mem, H1.out.form.len⟩, HB1.out.trans (H1.out.below.mono hsz)⟩
end Go.Proofs.YtfhpgmlfgjfknaaGreatDoor
