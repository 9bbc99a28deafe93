/- Contracts and lemmas (nothing is claimed here). -/
import Derived.Test.YtkcnjnccdafbfaaGreatDoorJ10
import Derived.Deep.Cut
import Derived.Test.YtkcnjnccdafbfaaGreatDoorJ4
import Derived.Test.YtkcnjnccdafbfaaGreatDoorJ7
namespace Go.Proofs.YtkcnjnccdafbfaaGreatDoor
open Go.RowKit Go.Vf Go.Maps Go.Shelf Go.Sort Go.Lib
theorem getD_left {P R : List Int} {j : Nat} (h : j < P.length) : (P ++ R).getD j 0 = P.getD j 0 := by
  simp only [List.getD_eq_getElem?_getD]
  rw [List.getElem?_append_left h]
theorem getD_right {P R : List Int} {j : Nat} (h : P.length ≤ j) : (P ++ R).getD j 0 = R.getD (j - P.length) 0 := by
  simp only [List.getD_eq_getElem?_getD]
  rw [List.getElem?_append_right h]
theorem SL.heap {w0 W : World} {g off n : Nat} {D : List Int} {cur : Array Value} {e : TypeId} {fr : Nat × Nat} (h : SL w0 g off n D W) (hb : w0.heap[g]? = some (.cells cur e fr)) : W.heap[g]? = some (.cells (putCells (Value.int .i64) off D.toArray cur) e fr) := by
  obtain ⟨m, os, rfl⟩ := h.sw
  have hg : g < w0.heap.size := (Array.getElem?_eq_some_iff.1 hb).1
  unfold sortWorld
  rw [heap_grow_old _ _ (by simpa [size_putRow] using hg)]
  simp [putRow, mapBlock, Sort.ahead, Array.getElem?_modify, hb, onCells]
theorem SL.below {w0 W : World} {g off n B : Nat} {D : List Int} (h : SL w0 g off n D W) (hB : B ≤ g) (hw : B ≤ w0.heap.size) : Below B w0 W := by
  have hle := h.sw.le
  obtain ⟨m, os, rfl⟩ := h.sw
  refine ⟨rfl, rfl, rfl, hle, fun k hk => ?_⟩
  unfold sortWorld
  rw [heap_grow_old _ _ (by rw [size_putRow]; exact Nat.lt_of_lt_of_le hk hw)]
  have : g ≠ k := by omega
  simp [putRow, mapBlock, Sort.ahead, Array.getElem?_modify, this]
theorem SL.own {w0 W : World} {base g cap kp off n : Nat} {X P A Q C : List Int} (h : SL w0 g off n C W) (hX : IOwn w0 base (.slice (some ⟨g, 0, none⟩) kp cap) X) (hs : X = P ++ A ++ Q) (hp : P.length = off) (ha : A.length = n) : IOwn W base (.slice (some ⟨g, 0, none⟩) kp cap) (P ++ C ++ Q) := by
  obtain ⟨h1, h2⟩ := hX
  have hl : (P ++ C ++ Q).length = X.length := by rw [hs]; simp only [List.length_append, h.len, ha]
  rcases h2 with ⟨h2, _⟩ | ⟨g', cap', cur, e1, hb, hh, hc1, hc2, hc3, hc4⟩
  · cases h2
  cases e1
  refine ⟨by rw [List.length_map, Nat.mul_one], .inr ⟨g, cap, _, by rw [hl], hb, h.heap hh, by rw [hl]; exact hc1, hc2, ?_, ?_⟩⟩
  · rw [← hc3]; simp [putCells]
  · rw [Nat.mul_one] at hc4 ⊢
    rw [hl]
    apply List.ext_getElem?
    intro j
    by_cases hj : j < X.length
    · have hcj : cur[j]? = some (.int .i64 (X.getD j 0)) := by
        have hx : (X.map (Value.int .i64))[j]? = some (.int .i64 (X.getD j 0)) := by simp [List.getD_eq_getElem?_getD, hj]
        rw [← hc4, List.getElem?_take_of_lt hj, Array.getElem?_toList] at hx
        exact hx
      have hy : ((P ++ C ++ Q).map (Value.int .i64))[j]? = some (.int .i64 ((P ++ C ++ Q).getD j 0)) := by rw [List.getElem?_map]; simp only [List.getD_eq_getElem?_getD]; rw [List.getElem?_eq_getElem (by omega)]; rfl
      rw [hy, List.getElem?_take_of_lt hj, Array.getElem?_toList]
      unfold putCells
      rw [Array.getElem?_mapIdx, hcj, Option.map_some]
      have hlen := h.len
      by_cases hin : off ≤ j ∧ j < off + C.toArray.size
      · rw [if_pos hin, toArray_at]
        have h2 : j < off + C.length := by simpa using hin.2
        rw [getD_mid (by omega) (by omega), hp]
      · rw [if_neg hin]
        have h2 : ¬ (off ≤ j ∧ j < off + C.length) := by simpa using hin
        congr 2
        rw [hs]
        rcases Nat.lt_or_ge j off with c | c
        · rw [List.append_assoc, List.append_assoc, getD_left (by omega), getD_left (by omega)]
        · rw [getD_right (by rw [List.length_append]; omega), getD_right (by rw [List.length_append]; omega)]
          congr 1
          simp only [List.length_append]
          omega
    · rw [List.getElem?_take_eq_none (by omega), List.getElem?_eq_none (by rw [List.length_map]; omega)]
theorem InI.i64 {x : Int} (h : InI x) : I64 x := h
theorem I64.inI {x : Int} (h : I64 x) : InI x := h
theorem oneCell_int : OneCell (Value.int .i64) := fun _ => rfl
structure FormAt (cls : Int → Int) (pts X : List Int) (at0 : Nat) : Prop where
  al : Alike0 cls pts X
  co : CO cls (X.take at0)
  ahead : at0 = 0 ∨ X.length < at0 ∨ cls (X.getD (at0 - 1) 0) = 0
  top : at0 ≤ X.length + 1
  mem : ∀ x ∈ X, x ∈ pts
  len : X.length = pts.length
theorem FormAt.start {cls : Int → Int} {pts : List Int} : FormAt cls pts pts 0 := ⟨Alike0.refl _, by rw [List.take_zero]; trivial, .inl rfl, by omega, fun _ h => h, rfl⟩
theorem FormAt.done {cls : Int → Int} {pts X : List Int} {at0 : Nat} (h : FormAt cls pts X at0) (hn : X.length ≤ at0) : FormOf cls pts X := ⟨by have := h.co; rwa [List.take_of_length_le hn] at this, h.al⟩
theorem three_parts (X : List Int) {a b : Nat} (h : a ≤ b) : X = X.take a ++ (X.drop a).take (b - a) ++ X.drop b := by
  have e1 := (List.take_append_drop a X).symm
  have e2 := (List.take_append_drop (b - a) (X.drop a)).symm
  rw [List.drop_drop, show a + (b - a) = b from by omega] at e2
  rw [List.append_assoc, ← e2]
  exact e1
theorem getLast_getD {P : List Int} {x : Int} (h : P.getLast? = some x) : P ≠ [] ∧ P.getD (P.length - 1) 0 = x := by
  cases P with
  | nil => cases h
  | cons y t =>
    refine ⟨by simp, ?_⟩
    rw [List.getLast?_eq_getElem?] at h
    rw [List.getD_eq_getElem?_getD, h]; rfl
theorem FormAt.step {cls : Int → Int} (hc0 : ∀ x, 0 ≤ cls x) {pts X C : List Int} {at0 en : Nat} (h : FormAt cls pts X at0) (hat : at0 < X.length) (hr : RowEnds cls X at0 en) (hs : SortedK cls C) (ha : AlikeK cls ((X.drop at0).take (en - at0)) C) (hl : C.length = en - at0) :
    FormAt cls pts (X.take at0 ++ C ++ X.drop en) (en + 1) := by
  have hX := three_parts X hr.le
  have hle := hr.le
  have htop := hr.top
  have lP : (X.take at0).length = at0 := by rw [List.length_take]; omega
  have lA : ((X.drop at0).take (en - at0)).length = en - at0 := by rw [List.length_take, List.length_drop]; omega
  have lX : (X.take at0 ++ C ++ X.drop en).length = X.length := by simp only [List.length_append, lP, hl, List.length_drop]; omega
  have hA : ∀ x ∈ (X.drop at0).take (en - at0), cls x ≠ 0 := by
    refine piece_all (P := X.take at0) (Q := X.drop en) (fun t h1 h2 => ?_)
    rw [← hX]
    exact hr.none t (by omega) (by omega)
  have hb : CO cls (X.take at0 ++ C) := by
    refine CO.append h.co hs.co (fun x y hx hy _ => ?_)
    obtain ⟨hne, e⟩ := getLast_getD hx
    have : cls x = 0 := by
      rcases h.ahead with h1 | h1 | h1
      · exfalso; rw [h1, List.take_zero] at hne; exact hne rfl
      · omega
      · rw [lP] at e
        have e2 : (X.take at0).getD (at0 - 1) 0 = X.getD (at0 - 1) 0 := by
          have h0 : 0 < at0 := by
            rcases Nat.eq_zero_or_pos at0 with e0 | e0
            · rw [e0, List.take_zero] at hne; exact absurd rfl hne
            · exact e0
          simp only [List.getD_eq_getElem?_getD]
          rw [List.getElem?_take_of_lt (by omega)]
        rw [← e, e2]; exact h1
    rw [this]; exact hc0 y
  have hPC : (X.take at0 ++ C).length = en := by rw [List.length_append, lP, hl]; omega
  refine ⟨?_, ?_, ?_, by rw [lX]; omega, ?_, by rw [lX]; exact h.len⟩
  · refine h.al.trans ?_
    have : Alike0 cls (X.take at0 ++ (X.drop at0).take (en - at0) ++ X.drop en) (X.take at0 ++ C ++ X.drop en) := Alike0.append (Alike0.append (Alike0.refl _) (ha.alike0 hA)) (Alike0.refl _)
    rwa [← hX] at this
  · rw [List.take_append, hPC, List.take_of_length_le (by omega), show en + 1 - en = 1 from by omega]
    cases hd : X.drop en with
    | nil => simpa using hb
    | cons q r =>
      have hlt : en < X.length := by
        rcases Nat.lt_or_ge en X.length with h1 | h1
        · exact h1
        · rw [List.drop_of_length_le h1] at hd; cases hd
      have hq : cls q = 0 := by
        have e := hr.stop hlt
        rw [hX, getD_right (by rw [List.length_append, lP, lA]; omega), List.length_append, lP, lA, show en - (at0 + (en - at0)) = 0 from by omega, hd] at e
        exact e
      refine CO.append hb (by trivial) (fun x y _ hy h0 => ?_)
      simp only [List.take_succ_cons, List.head?_cons, Option.some.injEq] at hy
      rw [← hy] at h0
      exact absurd hq h0
  · rcases Nat.lt_or_ge en X.length with h1 | h1
    · refine .inr (.inr ?_)
      rw [show en + 1 - 1 = en from by omega, getD_right (by omega), hPC, Nat.sub_self]
      have e := hr.stop h1
      rw [hX, getD_right (by rw [List.length_append, lP, lA]; omega), List.length_append, lP, lA, show en - (at0 + (en - at0)) = 0 from by omega] at e
      exact e
    · exact .inr (.inl (by rw [lX]; omega))
  · intro x hx
    refine h.mem x ?_
    rcases List.mem_append.1 hx with hx | hx
    · rcases List.mem_append.1 hx with hx | hx
      · exact List.mem_of_mem_take hx
      · exact List.mem_of_mem_drop (List.mem_of_mem_take (ha.symm.mem hx))
    · exact List.mem_of_mem_drop hx
structure FormW (L : List Mk) (E : Int → List Int) (w1 : World) (bd bx g kp cc : Nat) (pts X : List Int) (at0 : Nat) (wr : World) : Prop where
  own : IOwn wr w1.heap.size (.slice (some ⟨g, 0, none⟩) kp cc) X
  below : Below w1.heap.size w1 wr
  form : FormAt (classAt L) pts X at0
theorem rows_of_own {w : World} {base g kp cc off n : Nat} {X A : List Int} (h : IOwn w base (.slice (some ⟨g, 0, none⟩) kp cc) X) (hA : A = (X.drop off).take n) (ho : off + n ≤ X.length) (hI : ∀ x ∈ X, InI x) : RowN w g off n ∧ SL w g off n A w := by
  have hlen : A.length = n := by rw [hA, List.length_take, List.length_drop]; omega
  rcases h.form with ⟨h1, _⟩ | ⟨g', cap', e1, hb, hlt, hcap, hcell, hfr⟩
  · cases h1
  cases e1
  have hH : Holds (Value.int .i64) w g off A.toArray := fun j hj => by
    have hj' : j < n := by simpa [hlen] using hj
    refine ⟨?_, hfr _⟩
    rw [hcell (off + j) (by omega), toArray_at, hA]
    simp only [List.getD_eq_getElem?_getD]
    rw [List.getElem?_take_of_lt hj', List.getElem?_drop]
  exact ⟨⟨A, hlen, ⟨oneCell_int, hH, hlt⟩⟩, ⟨SW.start hH, hlen, fun x hx => (hI x (List.mem_of_mem_drop (List.mem_of_mem_take (by rw [hA] at hx; exact hx)))).i64⟩⟩
def FormPost (L : List Mk) (E : Int → List Int) (w : World) (ps : List Int) (e : Ending) (w' : World) : Prop := ∃ g k c X, e = .returned (.slice (some ⟨g, 0, none⟩) k c) ∧ IOwn w' w.heap.size (.slice (some ⟨g, 0, none⟩) k c) X ∧ FormOf (classAt L) (flatR E ps) X ∧ ((∀ x ∈ X, x ∈ flatR E ps) ∧ X.length = (flatR E ps).length) ∧ Below w.heap.size w w'
set_option maxHeartbeats 8000000 in
set_option maxRecDepth 20000 in
theorem form_any (bd : Nat) (L : List Mk) (E : Int → List Int) (a : Option Addr) (kp cap : Nat) (ps : List Int) (w : World) (hps : ∀ q ∈ ps, InI q) (hpt : ∀ q ∈ flatR E ps, InI q) (hc0 : ∀ p, 0 ≤ classAt L p) (hd : DataAt w bd L E) (hin : Ints w.heap.size w (.slice a kp cap) ps) (hkp : kp = ps.length) (hkl : (flatR E ps).length ≤ 68719476736) (hkl2 : kp ≤ 68719476736) :
    Calls Tryz.prog 19 #[.pointer (some ⟨bd, 0, none⟩), .slice a kp cap] w fun e w' => FormPost L E w ps e w' := by
  have hb1 := (Below.refl w.heap.size w).alloc (Nat.le_refl _) (.cells #[.pointer (some ⟨bd, 0, none⟩)] 25)
  have hd1 := hd.below hb1
  have hbx := Blk.new w 25 #[.pointer (some ⟨bd, 0, none⟩)]
  have hin1 : Ints (w.alloc (.cells #[.pointer (some ⟨bd, 0, none⟩)] 25)).heap.size _ (.slice a kp cap) ps := (hin.below hb1 (Nat.le_refl _)).mono hb1.size
  have hs1 : (w.alloc (.cells #[.pointer (some ⟨bd, 0, none⟩)] 25)).heap.size = w.heap.size + 1 := by simp
  clear hin hd
  go_enter Tryz.func19, Tryz.ntmps19
  go_upto_region 1 with fail
  generalize w.alloc (.cells #[.pointer (some ⟨bd, 0, none⟩)] 25) = w1 at hb1 hd1 hbx hin1 hs1 ⊢
  have hbc : w1.cell? ⟨w.heap.size, 0, none⟩ = some (.pointer (some ⟨bd, 0, none⟩)) := hbx.cell 0
  have HS1 : Hid (w1.heap.size = w.heap.size + 1) := hs1
  have HKP : Hid (kp = ps.length) := hkp
  clear hs1 hkp
  go_wp2_with fail
  refine (decompose_any bd L E a kp cap ps w1 hps hd1 hin1 HKP.out hkl hkl2).mono ?_
  rintro e w2 ⟨g, kq, cq, rfl, hown2, hbel2⟩
  obtain ⟨av, cv, hv⟩ := hown2.val
  have hkq : kq = (flatR E ps).length := by simpa using (Value.slice.inj hv).2.1
  have HKQ : Hid (kq = (flatR E ps).length) := hkq
  have hkql : kq ≤ 68719476736 := by omega
  have H0 : Aside (FormW L E w1 bd w.heap.size g kq cq (flatR E ps) (flatR E ps) 0 w2) := ⟨hown2, hbel2, FormAt.start⟩
  have HG : Hid (w1.heap.size ≤ g) := by
    rcases hown2.form with ⟨h1, _⟩ | ⟨g', cap', e1, hb, _⟩
    · cases h1
    · cases e1; exact hb
  have HPT : Aside _ := hpt
  have HC0 : Aside _ := hc0
  have HD : Aside (DataAt w1 bd L E) := hd1
  have HB1 : Aside (Below w.heap.size w w1) := hb1
  have hbc2 : w2.cell? ⟨w.heap.size, 0, none⟩ = some (.pointer (some ⟨bd, 0, none⟩)) := (hbel2.cell (p := ⟨w.heap.size, 0, none⟩) (show w.heap.size < w1.heap.size by rw [HS1.out]; omega)).trans hbc
  clear hown2 hbel2 hv hkq hpt hc0 hd1 hb1 hin1 hbx hkl hkl2 HKP hps
  go_wp2_with fail
  go_loopg [7] (kq + 1) (fun g1 vi wr => ∃ (at0 : Nat) (X : List Int), vi = .int .i64 at0 ∧ at0 ≤ kq + 1 ∧ kq + 1 - at0 ≤ g1 ∧ Aside (FormW L E w1 bd w.heap.size g kq cq (flatR E ps) X at0 wr))
  case atStart => exact ⟨0, flatR E ps, rfl, by omega, by omega, H0⟩
  case round =>
    have HBC : Aside (w1.cell? ⟨w.heap.size, 0, none⟩ = some (.pointer (some ⟨bd, 0, none⟩))) := hbc
    clear H0 hbc hbc2
    obtain ⟨at0, X, rfl, hat1, hg1, H1⟩ := hrel
    have hXl : kq = X.length := by
      obtain ⟨av, cv, hv⟩ := H1.out.own.val
      simpa using (Value.slice.inj hv).2.1
    have HXL : Hid (kq = X.length) := hXl
    have hcap : kq ≤ cq := by
      rcases H1.out.own.form with ⟨h1, _⟩ | ⟨g', cap', e1, _, _, hb, _⟩
      · cases h1
      · cases e1; omega
    by_cases hlt : at0 < kq
    · have hltz : (at0 : Int) < (kq : Int) := by omega
      have hbr : wr.cell? ⟨w.heap.size, 0, none⟩ = some (.pointer (some ⟨bd, 0, none⟩)) := (H1.out.below.cell (p := ⟨w.heap.size, 0, none⟩) (show w.heap.size < w1.heap.size by rw [HS1.out]; omega)).trans HBC.out
      have hdr : DataAt wr bd L E := HD.out.below H1.out.below
      have hXI : ∀ x ∈ X, InI x := fun x hx => HPT.out x (H1.out.form.mem x hx)
      have hre := rowEnd_any bd L E (some ⟨g, 0, none⟩) kq cq at0 wr.heap.size X wr hXI hdr H1.out.own.ints hXl hkql (by omega)
      have HXI : Aside _ := hXI
      clear hXI hdr hXl
      go_wp2_with fail
      refine hre.mono ?_
      rintro e w3 ⟨en, rfl, hr, rfl⟩
      have hr1 := hr.le
      have hr2 : en ≤ kq := by rw [HXL.out]; exact hr.top
      have hz1 : (at0 : Int) ≤ (en : Int) := by omega
      have hz2 : (en : Int) ≤ (cq : Int) := by omega
      have HR : Aside _ := hr
      clear hr hre
      go_wp2_with fail
      have hRS := rows_of_own (off := at0) (n := en - at0) H1.out.own rfl (by rw [← HXL.out]; omega) HXI.out
      have hCO : CmpOk 48 #[.pointer (some ⟨w.heap.size, 0, none⟩)] (classAt L) wr g at0 (en - at0) := fun W D hS x y hx hy => by
        have hbW : Below w1.heap.size wr W := hS.below HG.out H1.out.below.size
        have hbA := H1.out.below.trans hbW
        exact byClass_any w.heap.size bd L E x y W hx.inI hy.inI ((hbA.cell (p := ⟨w.heap.size, 0, none⟩) (show w.heap.size < w1.heap.size by rw [HS1.out]; omega)).trans HBC.out) (HD.out.below hbA)
      refine (sortStable_any hRS.1 (by omega) (fun _ _ => rfl) hCO (cq - at0) wr hRS.2).mono ?_
      rintro e w4 ⟨rfl, C, SC, sC, aC⟩
      have H2 : Aside (FormW L E w1 bd w.heap.size g kq cq (flatR E ps) (X.take at0 ++ C ++ X.drop en) (en + 1) w4) :=
        ⟨SC.own H1.out.own (three_parts X hr1) (by rw [List.length_take, ← HXL.out]; omega) (by rw [List.length_take, List.length_drop, ← HXL.out]; omega),
          H1.out.below.trans (SC.below HG.out H1.out.below.size), H1.out.form.step HC0.out (by rw [← HXL.out]; exact hlt) HR.out sC aC SC.len⟩
      generalize X.take at0 ++ C ++ X.drop en = X2 at H2
      clear hRS hCO SC sC aC HR H1 hbr
      go_wp2
      go_roundg (kq + 1 - (en + 1))
      case measure => omega
      case rel => exact ⟨en + 1, X2, by first | rfl | go_num, by omega, Nat.le_refl _, H2⟩
    · have hltz : ¬ (at0 : Int) < (kq : Int) := by omega
      clear hXl
      go_wp2_with fail
      go_ret
      have hsz : w.heap.size ≤ w1.heap.size := HB1.out.size
      exact ⟨g, kq, cq, X, rfl, H1.out.own.mono hsz, H1.out.form.done (by rw [← HXL.out]; omega), ⟨H1.out.form.mem, H1.out.form.len⟩, HB1.out.trans (H1.out.below.mono hsz)⟩
end Go.Proofs.YtkcnjnccdafbfaaGreatDoor
namespace Go.Proofs.YtkcnjnccdafbfaaGreatDoor
open Go.RowKit Go.Vf
theorem drop_getD (l : List Int) (k : Nat) (h : k < l.length) : l.drop k = (l[k]?.getD 0) :: l.drop (k + 1) := by
  rw [List.drop_eq_getElem_cons h, List.getElem?_eq_getElem h]; rfl
set_option maxHeartbeats 2000000 in
set_option maxRecDepth 20000 in
theorem sameInts_any (va vb : Value) (za zb : List Int) (n₁ n₂ : Nat) (w : World) (ha : Ints n₁ w va za) (hb : Ints n₂ w vb zb) (hla : za.length ≤ 4611686018427387904) (_hlb : zb.length ≤ 4611686018427387904) :
    Calls Tryz.prog 17 #[va, vb] w fun e w' => e = .returned (.bool (decide (za = zb))) ∧ Below w.heap.size w w' := by
  obtain ⟨R, HR⟩ : ∃ R, Hid (R = decide (za = zb)) := ⟨_, rfl⟩
  rw [← HR.out]
  by_cases hl : za.length = zb.length
  · rcases Nat.eq_zero_or_pos za.length with h0 | h0
    · obtain ⟨x, c, rfl⟩ := ha.val
      obtain ⟨y, d, rfl⟩ := hb.val
      have hb0 : zb.length = 0 := by omega
      have hR : R = true := by rw [HR.out, List.eq_nil_of_length_eq_zero h0, List.eq_nil_of_length_eq_zero hb0]; rfl
      rw [h0, hb0]
      clear ha hb h0 hb0 hl hla
      go_enter Tryz.func17, Tryz.ntmps17
      go_wp2
      go_loopw [5] (fun i wr => i = .int .i64 0 ∧ wr = w) (fun _ _ => 0)
      case atStart => exact ⟨rfl, rfl⟩
      case round =>
        obtain ⟨rfl, rfl⟩ := hrel
        go_wp2
        go_ret
        exact ⟨by rw [hR]; rfl, Below.refl _ _⟩
    · rcases ha with ⟨_, _, _, h⟩ | ⟨b1, o1, c1, rfl, hb1, hc1⟩
      · rw [h] at h0; simp at h0
      rcases hb with ⟨_, _, _, h⟩ | ⟨b2, o2, c2, rfl, hb2, hc2⟩
      · rw [hl, h] at h0; simp at h0
      rw [← hl]
      rw [← hl] at hc2
      obtain ⟨L, hL⟩ : ∃ L, L = za.length := ⟨_, rfl⟩
      have HL : Hid (L = za.length ∧ L = zb.length) := ⟨hL, by rw [hL]; exact hl⟩
      rw [← hL] at hc1 hc2 hla h0 ⊢
      clear hl hL
      go_enter Tryz.func17, Tryz.ntmps17
      go_wp2
      go_loopw [5] (fun i wr => ∃ k : Nat, k ≤ L ∧ i = .int .i64 k ∧ Hid (R = decide (za.drop k = zb.drop k)) ∧ Below w.heap.size w wr ∧ (∀ a, wr.cell? a = w.cell? a)) (fun i _ => L - (intOf i).toNat)
      case atStart => exact ⟨0, Nat.zero_le _, rfl, HR, Below.refl _ _, fun _ => rfl⟩
      case round =>
        obtain ⟨k, hk, rfl, HK, hbel, hsame⟩ := hrel
        by_cases hlt : k < L
        · have x1 := (hsame _).trans (hc1 k hlt)
          have x2 := (hsame _).trans (hc2 k hlt)
          have hK := HK.out
          rw [drop_getD za k (by rw [← HL.out.1]; exact hlt), drop_getD zb k (by rw [← HL.out.2]; exact hlt)] at hK
          obtain ⟨p, hp⟩ : ∃ p, p = za[k]?.getD 0 := ⟨_, rfl⟩
          obtain ⟨q, hq⟩ : ∃ q, q = zb[k]?.getD 0 := ⟨_, rfl⟩
          rw [← hp] at x1 hK
          rw [← hq] at x2 hK
          have HS : Hid (∀ a, wr.cell? a = w.cell? a) := hsame
          clear hp hq HK hc1 hc2 hsame
          by_cases hpq : p = q
          · have HK2 : Hid (R = decide (za.drop (k + 1) = zb.drop (k + 1))) := by show _ = _; rw [hK, hpq]; simp
            have t1 : (p == q) = true := by simpa using hpq
            have t2 : (p != q) = false := by simpa using hpq
            clear hK hpq
            go_wp2
            go_region
            go_wp2
            go_roundw
            case rel => exact ⟨k + 1, by omega, by go_num, HK2, hbel.drew, HS.out⟩
            case measure => simp [intOf]; omega
          · have hR : R = false := by rw [hK]; simp [hpq]
            have t1 : (p == q) = false := by simpa using hpq
            have t2 : (p != q) = true := by simpa using hpq
            clear hK hpq
            go_wp2
            go_region
            go_wp2
            go_ret
            exact ⟨by first | (rw [hR]; rfl) | rfl, hbel.drew⟩
        · obtain rfl : k = L := by omega
          have hR : R = true := by
            rw [HK.out, List.drop_eq_nil_of_le (by rw [← HL.out.1]; exact Nat.le_refl _), List.drop_eq_nil_of_le (by rw [← HL.out.2]; exact Nat.le_refl _)]; rfl
          clear HK
          go_wp2
          go_ret
          exact ⟨by first | (rw [hR]; rfl) | rfl, hbel⟩
  · obtain ⟨x, c, rfl⟩ := ha.val
    obtain ⟨y, d, rfl⟩ := hb.val
    have hR : R = false := by rw [HR.out]; simp; intro h; exact hl (by rw [h])
    clear ha hb
    go_enter Tryz.func17, Tryz.ntmps17
    go_wp2
    go_ret
    exact ⟨by rw [hR]; rfl, Below.refl _ _⟩
end Go.Proofs.YtkcnjnccdafbfaaGreatDoor
namespace Go.Proofs.YtkcnjnccdafbfaaGreatDoor
open Go.RowKit Go.Vf Go.Maps
def IsForm (L : List Mk) (E : Int → List Int) (ps X : List Int) : Prop := FormOf (classAt L) (flatR E ps) X
end Go.Proofs.YtkcnjnccdafbfaaGreatDoor
namespace Go.Vf
theorem linesR_why : ∀ (C : List (List UInt8)) (n : Int) (acc : List Mk) (why line : Int), linesR C n acc = .error (why, line) → (why = 40 ∨ why = 41 ∨ why = 2) ∧ n + 1 ≤ line ∧ line ≤ n + C.length := by
  intro C
  induction C with
  | nil => intro n acc why line h; cases h
  | cons s r ih =>
    intro n acc why line h
    unfold linesR at h
    split at h
    · obtain ⟨a, b, c⟩ := ih _ _ _ _ h
      exact ⟨a, by omega, by simp; omega⟩
    · split at h
      · cases h; exact ⟨.inl rfl, by omega, by simp; omega⟩
      · split at h
        · cases h; exact ⟨.inr (.inl rfl), by omega, by simp; omega⟩
        · split at h
          · cases h; exact ⟨.inr (.inr rfl), by omega, by simp; omega⟩
          · obtain ⟨a, b, c⟩ := ih _ _ _ _ h
            exact ⟨a, by omega, by simp; omega⟩
theorem load_why {t : List UInt8} {why line : Int} (h : loadR t = .error (why, line)) : why ≠ 0 := by
  unfold loadR at h
  split at h
  · cases h; decide
  · rename_i ht
    split at h
    · rename_i e hl
      cases h
      have := (linesR_why _ _ _ _ _ hl).1
      omega
    · rename_i L hl
      split at h
      · rename_i hw
        obtain ⟨S, hS, _⟩ := walk_total (load_total (by omega) hl).2.2.2.2
        rw [hS] at hw
        cases hw
      · split at h
        · cases h; decide
        · split at h
          · cases h; decide
          · cases h
theorem letters_not {p q : Int} (hs : isSyl p = true) (hq : q ∈ lettersR p) : isSyl q = false := by
  have hb : 44032 ≤ p ∧ p ≤ 55203 := by simpa [isSyl] using hs
  unfold lettersR at hq
  split at hq
  · simp at hq
    simp [isSyl]; omega
  · simp at hq
    simp [isSyl]; omega
end Go.Vf
namespace Go.Proofs.YtkcnjnccdafbfaaGreatDoor
open Go.RowKit Go.Vf Go.Maps
def endsG (G : Int → List Int) (N : Nat) (p : Int) : List Int := if G p = [] then [] else (wh G N p).take 19
theorem lead_ne {G : Int → List Int} {p q : Int} (h : Lead G p q) : G p ≠ [] := by
  induction h with
  | one h => intro e; rw [e] at h; simp at h
  | more h _ _ => intro e; rw [e] at h; simp at h
theorem partsAt_has {L : List Mk} {p : Int} (h : partsAt L p ≠ []) : ∃ m ∈ L, m.point = p := by
  cases hp : partsAt L p with
  | nil => exact absurd hp h
  | cons a r =>
    obtain ⟨m, hm, he, _⟩ := partsAt_mem (L := L) (p := p) (q := a) (by rw [hp]; simp)
    exact ⟨m, hm, he⟩
theorem hasAt_no {L : List Mk} (x : Int) (h : hasAt L x = false) : partsAt L x = [] := by
  unfold hasAt at h
  unfold partsAt
  cases hm : markAt L x with
  | none => rfl
  | some m => rw [hm] at h; simp at h
theorem fill_all {L : List Mk} {S : TS} (hI : Inv (partsAt L) S []) (hmet : ∀ x ∈ L.map Mk.point, S.met x ≠ 0) (hno : ∀ m ∈ L, ¬ Lead (partsAt L) m.point m.point) : Topo (partsAt L) S.ord ∧ ∀ N, S.ord.length + 1 ≤ N → ∀ p, fillF (hasAt L) (partsAt L) S.ord (fun _ => []) p = endsG (partsAt L) N p := by
  have hno' : ∀ x, ¬ Lead (partsAt L) x x := fun x h => by
    obtain ⟨m, hm, e⟩ := partsAt_has (lead_ne h)
    exact hno m hm (by rw [e]; exact h)
  have ht : Topo (partsAt L) S.ord := fun pre x post e y hy => hI.topo pre x post e (hno' x) y hy
  refine ⟨ht, fun N hN p => ?_⟩
  rw [fill_ok ht hN (has := hasAt L) hasAt_no S.ord [] (fun _ => []) rfl (by simp) p]
  unfold endsG
  by_cases hG : partsAt L p = []
  · simp [hG]
  · obtain ⟨m, hm, e⟩ := partsAt_has hG
    have hp : p ∈ S.ord := by
      have h1 := hmet p (List.mem_map.2 ⟨m, hm, e⟩)
      rcases hI.met_range p with h | ⟨h, _⟩ | ⟨h, _⟩
      · exact absurd h h1
      · rw [hI.shut] at h; simp at h
      · exact h
    rw [if_pos ⟨hp, hG⟩, if_neg hG]
theorem load_says {t : List UInt8} {L : List Mk} {E : Int → List Int} (h : loadR t = .ok (L, E)) : t.length ≤ 65536 ∧ linesR (cutL 10 t) 0 [] = .ok L ∧ (∀ m ∈ L, ¬ Lead (partsAt L) m.point m.point) ∧ (∀ m ∈ L, (E m.point).length ≤ 18) ∧
    ∃ ord, Topo (partsAt L) ord ∧ (∀ m ∈ L, m.point ∈ ord) ∧ ∀ N, ord.length + 1 ≤ N → ∀ p, E p = endsG (partsAt L) N p := by
  unfold loadR at h
  split at h
  · cases h
  · rename_i hlen
    split at h
    · cases h
    · rename_i L' hl
      obtain ⟨S, hS, hI, hmet⟩ := walk_total (load_total (by omega) hl).2.2.2.2
      rw [hS] at h
      simp only at h
      split at h
      · cases h
      · rename_i hf
        split at h
        · cases h
        · rename_i hg
          simp only [Except.ok.injEq, Prod.mk.injEq] at h
          obtain ⟨rfl, rfl⟩ := h
          have hord : ∀ m ∈ L', m.point ∈ S.ord := fun m hm => by
            have h1 := hmet m.point (List.mem_map.2 ⟨m, hm, rfl⟩)
            rcases hI.met_range m.point with h | ⟨h, _⟩ | ⟨h, _⟩
            · exact absurd h h1
            · rw [hI.shut] at h; simp at h
            · exact h
          have hno : ∀ m ∈ L', ¬ Lead (partsAt L') m.point m.point := fun m hm hl => by
            have h1 := List.find?_eq_none.1 hf m hm
            have := (hI.loop m.point).1.2 ⟨hord m hm, hl⟩
            rw [this] at h1
            simp at h1
          obtain ⟨ht, he⟩ := fill_all hI hmet hno
          refine ⟨by omega, hl, hno, fun m hm => ?_, S.ord, ht, hord, he⟩
          have h1 := List.find?_eq_none.1 hg m hm
          simp at h1
          omega
theorem wh_from {G : Int → List Int} : ∀ (k : Nat) (p z : Int), z ∈ wh G k p → z = p ∨ ∃ q, z ∈ G q := by
  intro k
  induction k with
  | zero => intro p z hz; simp [wh] at hz; exact .inl hz
  | succ k ih =>
    intro p z hz
    unfold wh at hz
    split at hz
    · simp at hz; exact .inl hz
    · obtain ⟨y, hy, hz⟩ := List.mem_flatMap.1 hz
      rcases ih y z hz with rfl | h
      · exact .inr ⟨p, hy⟩
      · exact .inr h
theorem may_not_syl {z : Int} (h : mayB z = true) : isSyl z = false := by
  unfold mayB at h
  cases hs : isSyl z with
  | false => rfl
  | true => rw [hs] at h; simp at h
theorem ends_end {t : List UInt8} {L : List Mk} {E : Int → List Int} (h : loadR t = .ok (L, E)) {p z : Int} (hp : isSyl p = false) (hz : z ∈ endsOfF E p) : isSyl z = false ∧ endsOfF E z = [z] := by
  obtain ⟨hlen, hl, hno, _, ord, ht, hord, he⟩ := load_says h
  have hok := (load_total hlen hl).1
  have hEz : ∀ z, partsAt L z = [] → endsOfF E z = [z] := fun z hG => by
    unfold endsOfF
    rw [if_pos (by rw [he _ (Nat.le_refl _)]; unfold endsG; rw [if_pos hG])]
  by_cases hG : partsAt L p = []
  · rw [hEz p hG] at hz
    simp at hz
    subst hz
    exact ⟨hp, hEz z hG⟩
  · obtain ⟨m, hm, e⟩ := partsAt_has hG
    have hEp : E p = (wh (partsAt L) (ord.length + 1) p).take 19 := by rw [he _ (Nat.le_refl _)]; unfold endsG; rw [if_neg hG]
    have hz2 : z ∈ wh (partsAt L) (ord.length + 1) p := by
      unfold endsOfF at hz
      split at hz
      · rename_i e0
        rw [hEp, List.take_eq_nil_iff] at e0
        rcases e0 with e0 | e0
        · omega
        · exact absurd e0 (wh_ne _ _)
      · rw [hEp] at hz; exact List.mem_of_mem_take hz
    have hpo : p ∈ ord := by rw [← e]; exact hord m hm
    obtain ⟨pre, post, hs⟩ := List.append_of_mem hpo
    have hGz := wh_ends ht (Nat.le_refl _) pre.length pre p post (Nat.le_refl _) hs z hz2
    refine ⟨?_, hEz z hGz⟩
    rcases wh_from _ _ _ hz2 with rfl | ⟨q, hq⟩
    · exact hp
    · obtain ⟨m', hm', _, hq'⟩ := partsAt_mem hq
      exact may_not_syl ((hok m' hm').2.1 z hq')
theorem mayB_in {z : Int} (h : mayB z = true) : InI z := by
  unfold mayB at h
  simp only [Bool.and_eq_true, decide_eq_true_eq] at h
  unfold InI
  omega
theorem ends_in {t : List UInt8} {L : List Mk} {E : Int → List Int} (h : loadR t = .ok (L, E)) {p z : Int} (hz : z ∈ endsOfF E p) : (InI p → InI z) := by
  obtain ⟨hlen, hl, hno, _, ord, ht, hord, he⟩ := load_says h
  have hok := (load_total hlen hl).1
  have hEz : ∀ z, partsAt L z = [] → endsOfF E z = [z] := fun z hG => by
    unfold endsOfF
    rw [if_pos (by rw [he _ (Nat.le_refl _)]; unfold endsG; rw [if_pos hG])]
  by_cases hG : partsAt L p = []
  · rw [hEz p hG] at hz
    simp at hz
    subst hz
    exact id
  · obtain ⟨m, hm, e⟩ := partsAt_has hG
    have hEp : E p = (wh (partsAt L) (ord.length + 1) p).take 19 := by rw [he _ (Nat.le_refl _)]; unfold endsG; rw [if_neg hG]
    have hz2 : z ∈ wh (partsAt L) (ord.length + 1) p := by
      unfold endsOfF at hz
      split at hz
      · rename_i e0
        rw [hEp, List.take_eq_nil_iff] at e0
        rcases e0 with e0 | e0
        · omega
        · exact absurd e0 (wh_ne _ _)
      · rw [hEp] at hz; exact List.mem_of_mem_take hz
    rcases wh_from _ _ _ hz2 with rfl | ⟨q, hq⟩
    · exact id
    · obtain ⟨m', hm', _, hq'⟩ := partsAt_mem hq
      exact fun _ => mayB_in ((hok m' hm').2.1 z hq')
theorem parts_in {t : List UInt8} {L : List Mk} {E : Int → List Int} (h : loadR t = .ok (L, E)) {p z : Int} (hp : InI p) (hz : z ∈ partsR' E p) : InI z := by
  unfold partsR' at hz
  split at hz
  · rename_i hs
    obtain ⟨q, hq, hz⟩ := List.mem_flatMap.1 hz
    exact ends_in h hz ((lettersR_in hs).1 q hq)
  · exact ends_in h hz hp
theorem class_in {L : List Mk} (hok : ∀ m ∈ L, MkOk m) (p : Int) : 0 ≤ classAt L p ∧ classAt L p ≤ 254 := by
  unfold classAt
  cases hm : markAt L p with
  | none => simp
  | some m => exact ⟨(hok m (List.mem_of_find?_eq_some hm)).2.2.1, (hok m (List.mem_of_find?_eq_some hm)).2.2.2⟩
end Go.Proofs.YtkcnjnccdafbfaaGreatDoor
