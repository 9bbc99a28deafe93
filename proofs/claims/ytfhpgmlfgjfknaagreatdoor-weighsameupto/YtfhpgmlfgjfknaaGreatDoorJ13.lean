/- Contracts and lemmas (nothing is claimed here). -/
import Derived.Test.YtfhpgmlfgjfknaaGreatDoorAsk
import Derived.OwnWalk
import Derived.Test.YtfhpgmlfgjfknaaGreatDoorJ12
import Derived.Deep.Cut
import Derived.Test.YtfhpgmlfgjfknaaGreatDoorJ6
import Derived.Test.YtfhpgmlfgjfknaaGreatDoorJ11
import Derived.Test.YtfhpgmlfgjfknaaGreatDoorJ9
import Derived.WalkMore
import Derived.Test.YtfhpgmlfgjfknaaGreatDoorJ8
namespace Go.Proofs.YtfhpgmlfgjfknaaGreatDoor
open Go.RowKit Go.Vf Go.Maps
def flatR (E : Int → List Int) (l : List Int) : List Int := l.flatMap (partsR' E)
theorem DataAt.plen {w : World} {bd : Nat} {L : List Mk} {E : Int → List Int} (h : DataAt w bd L E) (p : Int) : (partsR' E p).length ≤ 57 ∧ 0 < (partsR' E p).length := by
  unfold partsR'
  cases hs : isSyl p with
  | false => have := h.elen p; simp; omega
  | true =>
    simp only [if_true]
    obtain ⟨_, h3, h2⟩ := lettersR_in hs
    have : ∀ ls : List Int, (ls.flatMap (endsOfF E)).length ≤ 19 * ls.length ∧ ls.length ≤ (ls.flatMap (endsOfF E)).length := by
      intro ls
      induction ls with
      | nil => simp
      | cons x r ih => have := h.elen x; simp only [List.flatMap_cons, List.length_append, List.length_cons]; omega
    have := this (lettersR p)
    omega
set_option maxHeartbeats 4000000 in
set_option maxRecDepth 20000 in
theorem decompose_any (bd : Nat) (L : List Mk) (E : Int → List Int) (a : Option Addr) (kp cap : Nat) (ps : List Int) (w : World) (hps : ∀ q ∈ ps, InI q) (hd : DataAt w bd L E) (hin : Ints w.heap.size w (.slice a kp cap) ps) (hkp : kp = ps.length) (hkl : (flatR E ps).length ≤ 68719476736) (hkl2 : kp ≤ 68719476736) :
    Calls Tryz.prog 40 #[.pointer (some ⟨bd, 0, none⟩), .slice a kp cap] w fun e w' => ∃ g k' c', e = .returned (.slice (some ⟨g, 0, none⟩) k' c') ∧ IOwn w' w.heap.size (.slice (some ⟨g, 0, none⟩) k' c') (flatR E ps) ∧ Below w.heap.size w w' := by
  generalize hR : flatR E ps = R at hkl ⊢
  have HR : Hid ([] ++ flatR E ps = R) := hR
  have HKP : Hid (kp = ps.length) := hkp
  clear hR hkp
  obtain ⟨i0, hi0, hz0, hsz0, hby0⟩ := info_parts info3
  have HI0 : Hid (i0.bytes = 8) := hby0
  clear hby0
  go_enter Tryz.func40, Tryz.ntmps40
  go_wp2_with (first | (at_make; refine wpList_make_own _ rfl _ _ 46 rfl w.heap.size 3 i0 (.int .i64 0) 1 Tryz.underlying46 hi0 hz0 hsz0 .i64 .i64 _ kp rfl rfl rfl (by rw [HI0.out]; omega) (by unfold maxLen; omega) (Nat.le_refl _) ?_; intro w0 hown0 hgrow0))
  have hb0 : Below w.heap.size w w0 := (Below.refl _ w).grown hgrow0 (Nat.le_refl _) (fun j hj => by cases hj)
  have HOWN0 : Aside (IOwn w0 w.heap.size (.slice (some ⟨w.heap.size, 0, none⟩) 0 kp) []) := hown0
  clear hown0 hgrow0 hi0 hz0 hsz0 HI0
  go_wp2_with fail
  go_loopw [5, 13] (fun v i wr => ∃ (k : Nat) (acc : List Int) (g kk cc : Nat), k ≤ kp ∧ i = .int .i64 k ∧ v = .slice (some ⟨g, 0, none⟩) kk cc ∧ Aside (IOwn wr w.heap.size (.slice (some ⟨g, 0, none⟩) kk cc) acc) ∧ Hid (acc ++ flatR E (ps.drop k) = R) ∧ Below w.heap.size w wr) (fun _ i _ => kp - (intOf i).toNat)
  case atStart => exact ⟨0, [], w.heap.size, 0, kp, by omega, rfl, rfl, HOWN0, by simpa using HR, hb0⟩
  case round =>
    clear HOWN0 hb0 HR
    obtain ⟨k, acc, g, kk, cc, hk, rfl, rfl, HOWN, HK, hbel⟩ := hrel
    by_cases hlt : k < kp
    · have hltp : k < ps.length := by rw [← HKP.out]; exact hlt
      have hdr : ps.drop k = ps[k] :: ps.drop (k + 1) := List.drop_eq_getElem_cons hltp
      obtain ⟨bp, op, hao, hnk, hblt, hcell⟩ := (hin.below hbel (Nat.le_refl _)).cell (fun e => by rw [e] at hltp; simp at hltp)
      have hcj := hcell k hltp
      rw [show ps[k]?.getD 0 = ps[k] by simp [List.getElem?_eq_getElem hltp]] at hcj
      have hqI := hps _ (List.getElem_mem hltp)
      have hKK := HK.out
      rw [hdr, show flatR E (ps[k] :: ps.drop (k + 1)) = partsR' E ps[k] ++ flatR E (ps.drop (k + 1)) from rfl, ← List.append_assoc] at hKK
      generalize ps[k] = q at hcj hqI hKK
      subst hao
      have hddr := hd.below hbel
      have HLK : Hid ((acc ++ partsR' E q).length ≤ R.length) := by show _ ≤ _; rw [← hKK]; exact (List.prefix_append _ _).length_le
      have HKK : Hid ((acc ++ partsR' E q) ++ flatR E (ps.drop (k + 1)) = R) := hKK
      clear hcell hdr HK hKK hltp hnk
      go_wp2_with fail
      refine (parts_any bd L E q _ hqI hddr).mono ?_
      rintro e w3 ⟨a3, k3, c3, rfl, hown3p, hbel3⟩
      have hown3 := own_after HOWN.out hbel3
      have hsz3 : w.heap.size ≤ w3.heap.size := Nat.le_trans hbel.size hbel3.size
      obtain ⟨av, cv, hv⟩ := IOwn.val HOWN.out
      have hkk : kk = acc.length := by simpa using (Value.slice.inj hv).2.1
      have hint3 := hown3p.ints
      obtain ⟨av3, cv3, hv3⟩ := hown3p.val
      have hk3 : k3 = (partsR' E q).length := by simpa using (Value.slice.inj hv3).2.1
      have hL1 : (acc ++ partsR' E q).length ≤ R.length := HLK.out
      rw [List.length_append] at hL1
      have hpos := hddr.plen q
      generalize partsR' E q = en at HKK HLK hint3 hk3 hL1 hpos
      have hen : en ≠ [] := fun e => by rw [e] at hpos; simp at hpos
      · obtain ⟨b3, o3, hao3, hnk3, hblt3, hcell3⟩ := hint3.cell hen
        subst hao3 hk3 hkk
        have HC3 : Hid (∀ j, j < en.length → w3.cell? ((⟨b3, o3, none⟩ : Addr).add j) = some (.int .i64 (en[j]?.getD 0))) := fun j hj => by
          rw [show (⟨b3, o3, none⟩ : Addr).add j = ⟨b3, o3 + j, none⟩ by simp [Addr.add]]; exact hcell3 j hj
        have hsum : acc.length + en.length ≤ 1099511627776 := by omega
        have HOWN3 : Aside (IOwn w3 w.heap.size (.slice (some ⟨g, 0, none⟩) acc.length cc) acc) := hown3
        clear hcell3 hint3 hown3p hv hv3 HOWN hown3 hen hnk3 HLK
        go_wp2_with (first | (at_builtin; refine wpList_append_ints rfl _ _ rfl w.heap.size _ acc rfl HOWN3.out en ⟨b3, o3, none⟩ _ rfl HC3.out hsum hsz3 ?_; intro a4 c4 w4 hown4 hgr4 hnil4 hat4; obtain ⟨g4, rfl, hg4, hcap4⟩ := hown4.some_of (by rw [List.length_append]; omega)))
        have hb4 : Below w.heap.size w3 w4 := (Below.refl _ w3).grown hgr4 hsz3 (fun j hj => (own_ge HOWN3.out hj).1)
        have HOWN4 : Aside (IOwn w4 w.heap.size (.slice (some ⟨g4, 0, none⟩) (acc.length + en.length) c4) (acc ++ en)) := hown4
        clear hown4 hnil4 hat4 hcap4
        go_roundw
        case rel => exact ⟨k + 1, acc ++ en, g4, acc.length + en.length, c4, by omega, by simp, by simp, HOWN4, HKK, (hbel.trans (hbel3.mono hbel.size)).trans hb4⟩
        case measure => simp only [intOf]; omega
    · have hRR : R = acc := by rw [← HK.out, List.drop_of_length_le (by rw [← HKP.out]; omega)]; simp [flatR]
      clear HK
      go_wp2_with fail
      go_ret
      rw [hRR]
      exact ⟨_, _, _, rfl, HOWN.out, hbel⟩
theorem isNaN_any (x : Int) (w : World) : Calls Tryz.prog 74 #[.int .i64 x] w fun e w' => e = .returned (.bool false) ∧ w' = w := by
  go_enter Tryz.func74, Tryz.ntmps74
  go_wp2
  go_ret
  exact ⟨rfl, rfl⟩
theorem compare_any (key : Int → Int) (x y : Int) (w : World) : Calls Tryz.prog 42 #[.int .i64 (key x), .int .i64 (key y)] w fun e w' => e = .returned (.int .i64 (cmpK key x y)) ∧ w' = w := by
  generalize hc : cmpK key x y = c
  have HC : Hid (cmpK key x y = c) := hc
  clear hc
  go_enter Tryz.func42, Tryz.ntmps42
  go_wp2_with fail
  refine (isNaN_any (key x) w).mono ?_
  rintro e w1 ⟨rfl, rfl⟩
  go_wp2_with fail
  refine (isNaN_any (key y) w1).mono ?_
  rintro e w2 ⟨rfl, rfl⟩
  by_cases h1 : key x < key y
  · have E : Hid (c = -1) := by show _ = _; rw [← HC.out]; unfold cmpK; rw [if_pos h1]
    go_wp2
    go_ret
    rw [E.out]
    exact ⟨rfl, rfl⟩
  · by_cases h2 : key y < key x
    · have E : Hid (c = 1) := by show _ = _; rw [← HC.out]; unfold cmpK; rw [if_neg h1, if_pos h2]
      go_wp2
      go_ret
      rw [E.out]
      exact ⟨rfl, rfl⟩
    · have E : Hid (c = 0) := by show _ = _; rw [← HC.out]; unfold cmpK; rw [if_neg h1, if_neg h2]
      go_wp2
      go_ret
      rw [E.out]
      exact ⟨rfl, rfl⟩
theorem below_drewQ (w : World) (q : Nat) : Below w.heap.size w (w.drewN q) := ⟨rfl, rfl, rfl, Nat.le_refl _, fun _ _ => rfl⟩
set_option maxHeartbeats 8000000 in
set_option maxRecDepth 20000 in
theorem byClass_any (bx bd : Nat) (L : List Mk) (E : Int → List Int) (x y : Int) (w : World) (hx : InI x) (hy : InI y) (hb : w.cell? ⟨bx, 0, none⟩ = some (.pointer (some ⟨bd, 0, none⟩))) (hd : DataAt w bd L E) :
    Calls Tryz.prog 41 #[.int .i64 x, .int .i64 y, .pointer (some ⟨bx, 0, none⟩)] w fun e w' => e = .returned (.int .i64 (cmpK (classAt L) x y)) ∧ ∃ q, w' = w.drewN q := by
  have hb' : ∀ q, (w.drewN q).cell? ⟨bx, 0, none⟩ = some (.pointer (some ⟨bd, 0, none⟩)) := fun q => hb
  have h1 : ∀ p q, InI p → Calls Tryz.prog 43 #[.pointer (some ⟨bd, 0, none⟩), .int .i64 p] (w.drewN q) fun e w' => e = .returned (.int .i64 (classAt L p)) ∧ w' = w.drewN q := fun p q hp => (class_any bd L E p _ hp (hd.below (below_drewQ w q))).mono fun e w' h => ⟨h.1, h.2.symm⟩
  have h3 : ∀ q, Calls Tryz.prog 42 #[.int .i64 (classAt L x), .int .i64 (classAt L y)] (w.drewN q) fun e w' => e = .returned (.int .i64 (cmpK (classAt L) x y)) ∧ w' = w.drewN q := fun q => compare_any (classAt L) x y _
  generalize cmpK (classAt L) x y = c at h3 ⊢
  generalize classAt L = K at h1 h3
  clear hd hb
  go_enter Tryz.func41, Tryz.ntmps41
  go_wp2_with fail
  go_quiet (first | (go_at_call 43; exact Calls.quiet_of_same (h1 _ _ (by assumption))) | (go_at_call 42; exact Calls.quiet_of_same (h3 _)))
  go_wp2
  go_ret
  exact ⟨rfl, _, rfl⟩
structure RowEnds (cls : Int → Int) (X : List Int) (at0 en : Nat) : Prop where
  le : at0 ≤ en
  top : en ≤ X.length
  none : ∀ i, at0 ≤ i → i < en → cls (X.getD i 0) ≠ 0
  stop : en < X.length → cls (X.getD en 0) = 0
set_option maxHeartbeats 4000000 in
set_option maxRecDepth 20000 in
theorem rowEnd_any (bd : Nat) (L : List Mk) (E : Int → List Int) (a : Option Addr) (kp cap at0 n₀ : Nat) (X : List Int) (w : World) (hX : ∀ q ∈ X, InI q) (hd : DataAt w bd L E) (hin : Ints n₀ w (.slice a kp cap) X) (hkp : kp = X.length) (hkl : kp ≤ 68719476736) (hat : at0 ≤ kp) :
    Calls Tryz.prog 44 #[.pointer (some ⟨bd, 0, none⟩), .slice a kp cap, .int .i64 at0] w fun e w' => ∃ en : Nat, e = .returned (.int .i64 en) ∧ RowEnds (classAt L) X at0 en ∧ w = w' := by
  have HKP : Hid (kp = X.length) := hkp
  have HI : Aside (Ints n₀ w (.slice a kp cap) X) := hin
  have hX' : Aside _ := hX
  have hd' : Aside _ := hd
  clear hkp hin hX hd
  go_enter Tryz.func44, Tryz.ntmps44
  go_wp2_with fail
  go_loopw [2] (fun i wr => ∃ (k : Nat), k ≤ kp ∧ i = .int .i64 k ∧ at0 ≤ k ∧ Hid (∀ i, at0 ≤ i → i < k → classAt L (X.getD i 0) ≠ 0) ∧ wr = w) (fun i _ => kp - (intOf i).toNat)
  case atStart => exact ⟨at0, hat, rfl, Nat.le_refl _, fun i h1 h2 => absurd h2 (by omega), rfl⟩
  case round =>
    obtain ⟨k, hk, rfl, hak, HK, rfl⟩ := hrel
    by_cases hlt : k < kp
    · have hltz : (k : Int) < (kp : Int) := by omega
      have hltp : k < X.length := by rw [← HKP.out]; exact hlt
      obtain ⟨bp, op, hao, hnk, hblt, hcell⟩ := HI.out.cell (fun e => by rw [e] at hltp; simp at hltp)
      have hcj := hcell k hltp
      have hg : X[k]?.getD 0 = X.getD k 0 := (List.getD_eq_getElem?_getD ..).symm
      rw [hg] at hcj
      have hqI := hX'.out _ (getD_mem hltp)
      have hS : ∀ c, c = classAt L (X.getD k 0) → c = 0 → RowEnds (classAt L) X at0 k := fun c e e0 => ⟨hak, by omega, HK.out, fun _ => by rw [← e, e0]⟩
      have hN : ∀ c, c = classAt L (X.getD k 0) → c ≠ 0 → Hid (∀ i, at0 ≤ i → i < k + 1 → classAt L (X.getD i 0) ≠ 0) := fun c e e0 i h1 h2 => by
        rcases Nat.lt_or_ge i k with h | h
        · exact HK.out i h1 h
        · obtain rfl : i = k := by omega
          rw [← e]; exact e0
      have hc := class_any bd L E (X.getD k 0) wr hqI hd'.out
      generalize X.getD k 0 = q at hcj hqI hS hN hc
      generalize classAt L q = c at hS hN hc
      have hS := hS c rfl
      have hN := hN c rfl
      have HS : Aside _ := hS
      have HN : Aside _ := hN
      subst hao
      clear hcell hnk hltp hg HK hS hN
      by_cases hc0 : c = 0
      · have hfin := HS.out hc0
        subst hc0
        go_wp2_with fail
        refine hc.mono ?_
        rintro e w1 ⟨rfl, rfl⟩
        go_wp2
        go_ret
        exact ⟨k, rfl, hfin, rfl⟩
      · have hfin := HN.out hc0
        have hc0' : (c == 0) = false := by simpa using hc0
        go_wp2_with fail
        refine hc.mono ?_
        rintro e w1 ⟨rfl, rfl⟩
        go_wp2
        go_roundw
        case rel => exact ⟨k + 1, by omega, by simp, by omega, hfin, trivial⟩
        case measure => simp only [intOf]; omega
    · have hltz : ¬ (k : Int) < (kp : Int) := by omega
      have hfin : RowEnds (classAt L) X at0 k := ⟨hak, by rw [← HKP.out]; omega, HK.out, fun h => absurd h (by rw [← HKP.out]; omega)⟩
      clear HK
      go_wp2
      go_ret
      exact ⟨k, rfl, hfin, rfl⟩
end Go.Proofs.YtfhpgmlfgjfknaaGreatDoor
namespace Go.Proofs.YtfhpgmlfgjfknaaGreatDoor
open Go.RowKit Go.Vf Go.Maps Go.Shelf Go.Sort Go.Lib
theorem getD_left {P R : List Int} {j : Nat} (h : j < P.length) : (P ++ R).getD j 0 = P.getD j 0 := by
  simp only [List.getD_eq_getElem?_getD]
  rw [List.getElem?_append_left h]
theorem getD_right {P R : List Int} {j : Nat} (h : P.length ≤ j) : (P ++ R).getD j 0 = R.getD (j - P.length) 0 := by
  simp only [List.getD_eq_getElem?_getD]
  rw [List.getElem?_append_right h]
theorem SL.heap {w0 W : World} {g off n : Nat} {D : List Int} {cur : Array Value} {e : TypeId} {fr : Nat × Nat} (h : SL w0 g off n D W) (hb : w0.heap[g]? = some (.cells cur e fr)) : W.heap[g]? = some (.cells (putCells (Value.int .i64) off D.toArray cur) e fr) := by
  obtain ⟨m, os, rfl⟩ := h.sw
  have hg : g < w0.heap.size := (Array.getElem?_eq_some_iff.1 hb).1
  unfold sortWorld
  rw [heap_grow_old _ _ (by simpa [size_putRow] using hg)]
  simp [putRow, mapBlock, Sort.ahead, Array.getElem?_modify, hb, onCells]
theorem SL.below {w0 W : World} {g off n B : Nat} {D : List Int} (h : SL w0 g off n D W) (hB : B ≤ g) (hw : B ≤ w0.heap.size) : Below B w0 W := by
  have hle := h.sw.le
  obtain ⟨m, os, rfl⟩ := h.sw
  refine ⟨rfl, rfl, rfl, hle, fun k hk => ?_⟩
  unfold sortWorld
  rw [heap_grow_old _ _ (by rw [size_putRow]; exact Nat.lt_of_lt_of_le hk hw)]
  have : g ≠ k := by omega
  simp [putRow, mapBlock, Sort.ahead, Array.getElem?_modify, this]
theorem SL.own {w0 W : World} {base g cap kp off n : Nat} {X P A Q C : List Int} (h : SL w0 g off n C W) (hX : IOwn w0 base (.slice (some ⟨g, 0, none⟩) kp cap) X) (hs : X = P ++ A ++ Q) (hp : P.length = off) (ha : A.length = n) : IOwn W base (.slice (some ⟨g, 0, none⟩) kp cap) (P ++ C ++ Q) := by
  obtain ⟨h1, h2⟩ := hX
  have hl : (P ++ C ++ Q).length = X.length := by rw [hs]; simp only [List.length_append, h.len, ha]
  rcases h2 with ⟨h2, _⟩ | ⟨g', cap', cur, e1, hb, hh, hc1, hc2, hc3, hc4⟩
  · cases h2
  cases e1
  refine ⟨by rw [List.length_map, Nat.mul_one], .inr ⟨g, cap, _, by rw [hl], hb, h.heap hh, by rw [hl]; exact hc1, hc2, ?_, ?_⟩⟩
  · rw [← hc3]; simp [putCells]
  · rw [Nat.mul_one] at hc4 ⊢
    rw [hl]
    apply List.ext_getElem?
    intro j
    by_cases hj : j < X.length
    · have hcj : cur[j]? = some (.int .i64 (X.getD j 0)) := by
        have hx : (X.map (Value.int .i64))[j]? = some (.int .i64 (X.getD j 0)) := by simp [List.getD_eq_getElem?_getD, hj]
        rw [← hc4, List.getElem?_take_of_lt hj, Array.getElem?_toList] at hx
        exact hx
      have hy : ((P ++ C ++ Q).map (Value.int .i64))[j]? = some (.int .i64 ((P ++ C ++ Q).getD j 0)) := by rw [List.getElem?_map]; simp only [List.getD_eq_getElem?_getD]; rw [List.getElem?_eq_getElem (by omega)]; rfl
      rw [hy, List.getElem?_take_of_lt hj, Array.getElem?_toList]
      unfold putCells
      rw [Array.getElem?_mapIdx, hcj, Option.map_some]
      have hlen := h.len
      by_cases hin : off ≤ j ∧ j < off + C.toArray.size
      · rw [if_pos hin, toArray_at]
        have h2 : j < off + C.length := by simpa using hin.2
        rw [getD_mid (by omega) (by omega), hp]
      · rw [if_neg hin]
        have h2 : ¬ (off ≤ j ∧ j < off + C.length) := by simpa using hin
        congr 2
        rw [hs]
        rcases Nat.lt_or_ge j off with c | c
        · rw [List.append_assoc, List.append_assoc, getD_left (by omega), getD_left (by omega)]
        · rw [getD_right (by rw [List.length_append]; omega), getD_right (by rw [List.length_append]; omega)]
          congr 1
          simp only [List.length_append]
          omega
    · rw [List.getElem?_take_eq_none (by omega), List.getElem?_eq_none (by rw [List.length_map]; omega)]
theorem InI.i64 {x : Int} (h : InI x) : I64 x := h
theorem I64.inI {x : Int} (h : I64 x) : InI x := h
theorem oneCell_int : OneCell (Value.int .i64) := fun _ => rfl
structure FormAt (cls : Int → Int) (pts X : List Int) (at0 : Nat) : Prop where
  al : Alike0 cls pts X
  co : CO cls (X.take at0)
  ahead : at0 = 0 ∨ X.length < at0 ∨ cls (X.getD (at0 - 1) 0) = 0
  top : at0 ≤ X.length + 1
  mem : ∀ x ∈ X, x ∈ pts
  len : X.length = pts.length
theorem FormAt.start {cls : Int → Int} {pts : List Int} : FormAt cls pts pts 0 := ⟨Alike0.refl _, by rw [List.take_zero]; trivial, .inl rfl, by omega, fun _ h => h, rfl⟩
theorem FormAt.done {cls : Int → Int} {pts X : List Int} {at0 : Nat} (h : FormAt cls pts X at0) (hn : X.length ≤ at0) : FormOf cls pts X := ⟨by have := h.co; rwa [List.take_of_length_le hn] at this, h.al⟩
theorem three_parts (X : List Int) {a b : Nat} (h : a ≤ b) : X = X.take a ++ (X.drop a).take (b - a) ++ X.drop b := by
  have e1 := (List.take_append_drop a X).symm
  have e2 := (List.take_append_drop (b - a) (X.drop a)).symm
  rw [List.drop_drop, show a + (b - a) = b from by omega] at e2
  rw [List.append_assoc, ← e2]
  exact e1
theorem getLast_getD {P : List Int} {x : Int} (h : P.getLast? = some x) : P ≠ [] ∧ P.getD (P.length - 1) 0 = x := by
  cases P with
  | nil => cases h
  | cons y t =>
    refine ⟨by simp, ?_⟩
    rw [List.getLast?_eq_getElem?] at h
    rw [List.getD_eq_getElem?_getD, h]; rfl
theorem FormAt.step {cls : Int → Int} (hc0 : ∀ x, 0 ≤ cls x) {pts X C : List Int} {at0 en : Nat} (h : FormAt cls pts X at0) (hat : at0 < X.length) (hr : RowEnds cls X at0 en) (hs : SortedK cls C) (ha : AlikeK cls ((X.drop at0).take (en - at0)) C) (hl : C.length = en - at0) :
    FormAt cls pts (X.take at0 ++ C ++ X.drop en) (en + 1) := by
  have hX := three_parts X hr.le
  have hle := hr.le
  have htop := hr.top
  have lP : (X.take at0).length = at0 := by rw [List.length_take]; omega
  have lA : ((X.drop at0).take (en - at0)).length = en - at0 := by rw [List.length_take, List.length_drop]; omega
  have lX : (X.take at0 ++ C ++ X.drop en).length = X.length := by simp only [List.length_append, lP, hl, List.length_drop]; omega
  have hA : ∀ x ∈ (X.drop at0).take (en - at0), cls x ≠ 0 := by
    refine piece_all (P := X.take at0) (Q := X.drop en) (fun t h1 h2 => ?_)
    rw [← hX]
    exact hr.none t (by omega) (by omega)
  have hb : CO cls (X.take at0 ++ C) := by
    refine CO.append h.co hs.co (fun x y hx hy _ => ?_)
    obtain ⟨hne, e⟩ := getLast_getD hx
    have : cls x = 0 := by
      rcases h.ahead with h1 | h1 | h1
      · exfalso; rw [h1, List.take_zero] at hne; exact hne rfl
      · omega
      · rw [lP] at e
        have e2 : (X.take at0).getD (at0 - 1) 0 = X.getD (at0 - 1) 0 := by
          have h0 : 0 < at0 := by
            rcases Nat.eq_zero_or_pos at0 with e0 | e0
            · rw [e0, List.take_zero] at hne; exact absurd rfl hne
            · exact e0
          simp only [List.getD_eq_getElem?_getD]
          rw [List.getElem?_take_of_lt (by omega)]
        rw [← e, e2]; exact h1
    rw [this]; exact hc0 y
  have hPC : (X.take at0 ++ C).length = en := by rw [List.length_append, lP, hl]; omega
  refine ⟨?_, ?_, ?_, by rw [lX]; omega, ?_, by rw [lX]; exact h.len⟩
  · refine h.al.trans ?_
    have : Alike0 cls (X.take at0 ++ (X.drop at0).take (en - at0) ++ X.drop en) (X.take at0 ++ C ++ X.drop en) := Alike0.append (Alike0.append (Alike0.refl _) (ha.alike0 hA)) (Alike0.refl _)
    rwa [← hX] at this
  · rw [List.take_append, hPC, List.take_of_length_le (by omega), show en + 1 - en = 1 from by omega]
    cases hd : X.drop en with
    | nil => simpa using hb
    | cons q r =>
      have hlt : en < X.length := by
        rcases Nat.lt_or_ge en X.length with h1 | h1
        · exact h1
        · rw [List.drop_of_length_le h1] at hd; cases hd
      have hq : cls q = 0 := by
        have e := hr.stop hlt
        rw [hX, getD_right (by rw [List.length_append, lP, lA]; omega), List.length_append, lP, lA, show en - (at0 + (en - at0)) = 0 from by omega, hd] at e
        exact e
      refine CO.append hb (by trivial) (fun x y _ hy h0 => ?_)
      simp only [List.take_succ_cons, List.head?_cons, Option.some.injEq] at hy
      rw [← hy] at h0
      exact absurd hq h0
  · rcases Nat.lt_or_ge en X.length with h1 | h1
    · refine .inr (.inr ?_)
      rw [show en + 1 - 1 = en from by omega, getD_right (by omega), hPC, Nat.sub_self]
      have e := hr.stop h1
      rw [hX, getD_right (by rw [List.length_append, lP, lA]; omega), List.length_append, lP, lA, show en - (at0 + (en - at0)) = 0 from by omega] at e
      exact e
    · exact .inr (.inl (by rw [lX]; omega))
  · intro x hx
    refine h.mem x ?_
    rcases List.mem_append.1 hx with hx | hx
    · rcases List.mem_append.1 hx with hx | hx
      · exact List.mem_of_mem_take hx
      · exact List.mem_of_mem_drop (List.mem_of_mem_take (ha.symm.mem hx))
    · exact List.mem_of_mem_drop hx
structure FormW (L : List Mk) (E : Int → List Int) (w1 : World) (bd bx g kp cc : Nat) (pts X : List Int) (at0 : Nat) (wr : World) : Prop where
  own : IOwn wr w1.heap.size (.slice (some ⟨g, 0, none⟩) kp cc) X
  below : Below w1.heap.size w1 wr
  form : FormAt (classAt L) pts X at0
theorem rows_of_own {w : World} {base g kp cc off n : Nat} {X A : List Int} (h : IOwn w base (.slice (some ⟨g, 0, none⟩) kp cc) X) (hA : A = (X.drop off).take n) (ho : off + n ≤ X.length) (hI : ∀ x ∈ X, InI x) : RowN w g off n ∧ SL w g off n A w := by
  have hlen : A.length = n := by rw [hA, List.length_take, List.length_drop]; omega
  rcases h.form with ⟨h1, _⟩ | ⟨g', cap', e1, hb, hlt, hcap, hcell, hfr⟩
  · cases h1
  cases e1
  have hH : Holds (Value.int .i64) w g off A.toArray := fun j hj => by
    have hj' : j < n := by simpa [hlen] using hj
    refine ⟨?_, hfr _⟩
    rw [hcell (off + j) (by omega), toArray_at, hA]
    simp only [List.getD_eq_getElem?_getD]
    rw [List.getElem?_take_of_lt hj', List.getElem?_drop]
  exact ⟨⟨A, hlen, ⟨oneCell_int, hH, hlt⟩⟩, ⟨SW.start hH, hlen, fun x hx => (hI x (List.mem_of_mem_drop (List.mem_of_mem_take (by rw [hA] at hx; exact hx)))).i64⟩⟩
def FormPost (L : List Mk) (E : Int → List Int) (w : World) (ps : List Int) (e : Ending) (w' : World) : Prop := ∃ g k c X, e = .returned (.slice (some ⟨g, 0, none⟩) k c) ∧ IOwn w' w.heap.size (.slice (some ⟨g, 0, none⟩) k c) X ∧ FormOf (classAt L) (flatR E ps) X ∧ ((∀ x ∈ X, x ∈ flatR E ps) ∧ X.length = (flatR E ps).length) ∧ Below w.heap.size w w'
set_option maxHeartbeats 8000000 in
set_option maxRecDepth 20000 in
theorem form_any (bd : Nat) (L : List Mk) (E : Int → List Int) (a : Option Addr) (kp cap : Nat) (ps : List Int) (w : World) (hps : ∀ q ∈ ps, InI q) (hpt : ∀ q ∈ flatR E ps, InI q) (hc0 : ∀ p, 0 ≤ classAt L p) (hd : DataAt w bd L E) (hin : Ints w.heap.size w (.slice a kp cap) ps) (hkp : kp = ps.length) (hkl : (flatR E ps).length ≤ 68719476736) (hkl2 : kp ≤ 68719476736) :
    Calls Tryz.prog 20 #[.pointer (some ⟨bd, 0, none⟩), .slice a kp cap] w fun e w' => FormPost L E w ps e w' := by
  have hb1 := (Below.refl w.heap.size w).alloc (Nat.le_refl _) (.cells #[.pointer (some ⟨bd, 0, none⟩)] 43)
  have hd1 := hd.below hb1
  have hbx := Blk.new w 43 #[.pointer (some ⟨bd, 0, none⟩)]
  have hin1 : Ints (w.alloc (.cells #[.pointer (some ⟨bd, 0, none⟩)] 43)).heap.size _ (.slice a kp cap) ps := (hin.below hb1 (Nat.le_refl _)).mono hb1.size
  have hs1 : (w.alloc (.cells #[.pointer (some ⟨bd, 0, none⟩)] 43)).heap.size = w.heap.size + 1 := by simp
  clear hin hd
  go_enter Tryz.func20, Tryz.ntmps20
  go_upto_region 1 with fail
  generalize w.alloc (.cells #[.pointer (some ⟨bd, 0, none⟩)] 43) = w1 at hb1 hd1 hbx hin1 hs1 ⊢
  have hbc : w1.cell? ⟨w.heap.size, 0, none⟩ = some (.pointer (some ⟨bd, 0, none⟩)) := hbx.cell 0
  have HS1 : Hid (w1.heap.size = w.heap.size + 1) := hs1
  have HKP : Hid (kp = ps.length) := hkp
  clear hs1 hkp
  go_wp2_with fail
  refine (decompose_any bd L E a kp cap ps w1 hps hd1 hin1 HKP.out hkl hkl2).mono ?_
  rintro e w2 ⟨g, kq, cq, rfl, hown2, hbel2⟩
  obtain ⟨av, cv, hv⟩ := hown2.val
  have hkq : kq = (flatR E ps).length := by simpa using (Value.slice.inj hv).2.1
  have HKQ : Hid (kq = (flatR E ps).length) := hkq
  have hkql : kq ≤ 68719476736 := by omega
  have H0 : Aside (FormW L E w1 bd w.heap.size g kq cq (flatR E ps) (flatR E ps) 0 w2) := ⟨hown2, hbel2, FormAt.start⟩
  have HG : Hid (w1.heap.size ≤ g) := by
    rcases hown2.form with ⟨h1, _⟩ | ⟨g', cap', e1, hb, _⟩
    · cases h1
    · cases e1; exact hb
  have HPT : Aside _ := hpt
  have HC0 : Aside _ := hc0
  have HD : Aside (DataAt w1 bd L E) := hd1
  have HB1 : Aside (Below w.heap.size w w1) := hb1
  have hbc2 : w2.cell? ⟨w.heap.size, 0, none⟩ = some (.pointer (some ⟨bd, 0, none⟩)) := (hbel2.cell (p := ⟨w.heap.size, 0, none⟩) (show w.heap.size < w1.heap.size by rw [HS1.out]; omega)).trans hbc
  clear hown2 hbel2 hv hkq hpt hc0 hd1 hb1 hin1 hbx hkl hkl2 HKP hps
  go_wp2_with fail
  go_loopg [7] (kq + 1) (fun g1 vi wr => ∃ (at0 : Nat) (X : List Int), vi = .int .i64 at0 ∧ at0 ≤ kq + 1 ∧ kq + 1 - at0 ≤ g1 ∧ Aside (FormW L E w1 bd w.heap.size g kq cq (flatR E ps) X at0 wr))
  case atStart => exact ⟨0, flatR E ps, rfl, by omega, by omega, H0⟩
  case round =>
    have HBC : Aside (w1.cell? ⟨w.heap.size, 0, none⟩ = some (.pointer (some ⟨bd, 0, none⟩))) := hbc
    clear H0 hbc hbc2
    obtain ⟨at0, X, rfl, hat1, hg1, H1⟩ := hrel
    have hXl : kq = X.length := by
      obtain ⟨av, cv, hv⟩ := H1.out.own.val
      simpa using (Value.slice.inj hv).2.1
    have HXL : Hid (kq = X.length) := hXl
    have hcap : kq ≤ cq := by
      rcases H1.out.own.form with ⟨h1, _⟩ | ⟨g', cap', e1, _, _, hb, _⟩
      · cases h1
      · cases e1; omega
    by_cases hlt : at0 < kq
    · have hltz : (at0 : Int) < (kq : Int) := by omega
      have hbr : wr.cell? ⟨w.heap.size, 0, none⟩ = some (.pointer (some ⟨bd, 0, none⟩)) := (H1.out.below.cell (p := ⟨w.heap.size, 0, none⟩) (show w.heap.size < w1.heap.size by rw [HS1.out]; omega)).trans HBC.out
      have hdr : DataAt wr bd L E := HD.out.below H1.out.below
      have hXI : ∀ x ∈ X, InI x := fun x hx => HPT.out x (H1.out.form.mem x hx)
      have hre := rowEnd_any bd L E (some ⟨g, 0, none⟩) kq cq at0 wr.heap.size X wr hXI hdr H1.out.own.ints hXl hkql (by omega)
      have HXI : Aside _ := hXI
      clear hXI hdr hXl
      go_wp2_with fail
      refine hre.mono ?_
      rintro e w3 ⟨en, rfl, hr, rfl⟩
      have hr1 := hr.le
      have hr2 : en ≤ kq := by rw [HXL.out]; exact hr.top
      have hz1 : (at0 : Int) ≤ (en : Int) := by omega
      have hz2 : (en : Int) ≤ (cq : Int) := by omega
      have HR : Aside _ := hr
      clear hr hre
      go_wp2_with fail
      have hRS := rows_of_own (off := at0) (n := en - at0) H1.out.own rfl (by rw [← HXL.out]; omega) HXI.out
      have hCO : CmpOk 41 #[.pointer (some ⟨w.heap.size, 0, none⟩)] (classAt L) wr g at0 (en - at0) := fun W D hS x y hx hy => by
        have hbW : Below w1.heap.size wr W := hS.below HG.out H1.out.below.size
        have hbA := H1.out.below.trans hbW
        exact byClass_any w.heap.size bd L E x y W hx.inI hy.inI ((hbA.cell (p := ⟨w.heap.size, 0, none⟩) (show w.heap.size < w1.heap.size by rw [HS1.out]; omega)).trans HBC.out) (HD.out.below hbA)
      refine (sortStable_any hRS.1 (by omega) (fun _ _ => rfl) hCO (cq - at0) wr hRS.2).mono ?_
      rintro e w4 ⟨rfl, C, SC, sC, aC⟩
      have H2 : Aside (FormW L E w1 bd w.heap.size g kq cq (flatR E ps) (X.take at0 ++ C ++ X.drop en) (en + 1) w4) :=
        ⟨SC.own H1.out.own (three_parts X hr1) (by rw [List.length_take, ← HXL.out]; omega) (by rw [List.length_take, List.length_drop, ← HXL.out]; omega),
          H1.out.below.trans (SC.below HG.out H1.out.below.size), H1.out.form.step HC0.out (by rw [← HXL.out]; exact hlt) HR.out sC aC SC.len⟩
      generalize X.take at0 ++ C ++ X.drop en = X2 at H2
      clear hRS hCO SC sC aC HR H1 hbr
      go_wp2
      go_roundg (kq + 1 - (en + 1))
      case measure => omega
      case rel => exact ⟨en + 1, X2, by first | rfl | go_num, by omega, Nat.le_refl _, H2⟩
    · have hltz : ¬ (at0 : Int) < (kq : Int) := by omega
      clear hXl
      go_wp2_with fail
      go_ret
      have hsz : w.heap.size ≤ w1.heap.size := HB1.out.size
      exact ⟨g, kq, cq, X, rfl, H1.out.own.mono hsz, H1.out.form.done (by rw [← HXL.out]; omega), ⟨H1.out.form.mem, H1.out.form.len⟩, HB1.out.trans (H1.out.below.mono hsz)⟩
end Go.Proofs.YtfhpgmlfgjfknaaGreatDoor
namespace Go.Proofs.YtfhpgmlfgjfknaaGreatDoor
open Go.RowKit Go.Vf
theorem drop_getD (l : List Int) (k : Nat) (h : k < l.length) : l.drop k = (l[k]?.getD 0) :: l.drop (k + 1) := by
  rw [List.drop_eq_getElem_cons h, List.getElem?_eq_getElem h]; rfl
end Go.Proofs.YtfhpgmlfgjfknaaGreatDoor
namespace Go.Proofs.YtfhpgmlfgjfknaaGreatDoor
open Go.RowKit Go.Vf Go.Maps
def IsForm (L : List Mk) (E : Int → List Int) (ps X : List Int) : Prop := FormOf (classAt L) (flatR E ps) X
theorem load_cls {t : List UInt8} {L : List Mk} {E : Int → List Int} (h : loadR t = .ok (L, E)) (p : Int) : 0 ≤ classAt L p ∧ classAt L p ≤ 254 := by
  obtain ⟨hlen, hl, _⟩ := load_says h
  exact class_in (load_total hlen hl).1 p
theorem flat_in {t : List UInt8} {L : List Mk} {E : Int → List Int} (h : loadR t = .ok (L, E)) {ps : List Int} (hps : ∀ q ∈ ps, InI q) : ∀ q ∈ flatR E ps, InI q := fun q hq => by
  obtain ⟨p, hp, hq⟩ := List.mem_flatMap.1 hq
  exact parts_in h (hps p hp) hq
theorem flat_end {t : List UInt8} {L : List Mk} {E : Int → List Int} (h : loadR t = .ok (L, E)) {ps X : List Int} (hX : ∀ x ∈ X, x ∈ flatR E ps) : flatR E X = X := by
  induction X with
  | nil => rfl
  | cons x r ih =>
    obtain ⟨p, _, hq⟩ := List.mem_flatMap.1 (hX x (by simp))
    show partsR' E x ++ flatR E r = x :: r
    rw [(parts_end h hq).2, ih (fun y hy => hX y (by simp [hy]))]; rfl
theorem flat_len {w : World} {bd : Nat} {L : List Mk} {E : Int → List Int} (h : DataAt w bd L E) (ps : List Int) : (flatR E ps).length ≤ 57 * ps.length ∧ ps.length ≤ (flatR E ps).length := by
  induction ps with
  | nil => simp [flatR]
  | cons x r ih =>
    have := h.plen x
    rw [show flatR E (x :: r) = partsR' E x ++ flatR E r from rfl, List.length_append, List.length_cons]
    omega
structure Numb (w : World) (a : Option Addr) (k c : Nat) (zs : List Int) : Prop where
  ints : Ints w.heap.size w (.slice a k c) zs
  len : k = zs.length
  int : ∀ q ∈ zs, InI q
  few : zs.length ≤ 1000000000
theorem Numb.below {w w' : World} {a : Option Addr} {k c : Nat} {zs : List Int} (h : Numb w a k c zs) (hb : Below w.heap.size w w') : Numb w' a k c zs := ⟨(h.ints.below hb (Nat.le_refl _)).mono hb.size, h.len, h.int, h.few⟩
theorem form_load {t : List UInt8} {L : List Mk} {E : Int → List Int} (h : loadR t = .ok (L, E)) {bd : Nat} {a : Option Addr} {k c : Nat} {ps : List Int} {w : World} (hd : DataAt w bd L E) (hn : Numb w a k c ps) :
    Calls Tryz.prog 20 #[.pointer (some ⟨bd, 0, none⟩), .slice a k c] w fun e w' => FormPost L E w ps e w' := by
  have := flat_len hd ps
  have h1 := hn.few
  have h2 := hn.len
  exact form_any bd L E a k c ps w hn.int (flat_in h hn.int) (fun p => (load_cls h p).1) hd hn.ints hn.len (by omega) (by omega)
def Glob (w : World) : Prop := ∃ m, w.cell? ⟨2, 0, none⟩ = some (.int .i64 m)
theorem Glob.below {w w' : World} (h : Glob w) (hb : Below w.heap.size w w') : Glob w' := by
  obtain ⟨m, hm⟩ := h
  exact ⟨m, (hb.cell (p := ⟨2, 0, none⟩) (World.block_lt_of_cell? w _ hm)).trans hm⟩
theorem load_glob (s : ByteArray) (w : World) (hg : Glob w) (hbig : s.size ≤ 281474976710656) : Calls Tryz.prog 17 #[.string s] w fun e w' => LoadPost (loadR s.data.toList) w e w' := by
  obtain ⟨m, hm⟩ := hg
  exact load_any s m w hm hbig
theorem IOwn.form1 {w : World} {base : Nat} {a : Option Addr} {k c : Nat} {zs : List Int} (h : IOwn w base (.slice a k c) zs) : k = zs.length := by
  obtain ⟨a', c', e⟩ := h.val
  exact (Value.slice.inj e).2.1
set_option maxHeartbeats 4000000 in
theorem front_any {w₁ : World} {bd T B g off cap : Nat} {ps : List (List Int)} {W : World} (hk : MWk w₁ bd T B g off cap ps W) (hl : ps.length ≤ 4611686018427387904) (hpl : ∀ p ∈ ps, p.length ≤ 4611686018427387904) (most : Nat) (hm : most ≤ 8) :
    Calls Tryz.prog 208 #[.pointer (some ⟨B, 0, none⟩), .int .i64 most] W fun e W' => ∃ gr k c, e = .returned (.slice (some ⟨gr, 0, none⟩) k c) ∧ IOwn W' W.heap.size (.slice (some ⟨gr, 0, none⟩) k c) (ps.flatten.take most) ∧ Below W.heap.size W W' := by
  have HM : Hid (most ≤ 8) := hm
  clear hm
  generalize hR : ps.flatten.take most = R
  have HR : Hid (([] ++ (ps.drop 0).flatten).take most = R) := by show _ = _; simpa using hR
  clear hR
  obtain ⟨c0, c1, c2⟩ := hk.cells
  obtain ⟨i0, hi0, hz0, hsz0, hby0⟩ := info_parts info3
  have HI0 : Hid (i0.bytes = 8) := hby0
  clear hby0
  go_enter Tryz.func208, Tryz.ntmps208
  go_wp2
  go_step3
  go_wp2_with (first | (at_make; refine wpList_make_own _ rfl _ _ 46 rfl W.heap.size 3 i0 (.int .i64 0) 1 Tryz.underlying46 hi0 hz0 hsz0 .i64 .i64 _ most rfl rfl rfl (by have := HM.out; rw [HI0.out]; omega) (by have := HM.out; unfold maxLen; omega) (Nat.le_refl _) ?_; intro w0 hown0 hgrow0))
  have hb0 : Below W.heap.size W w0 := (Below.refl _ W).grown hgrow0 (Nat.le_refl _) (fun j hj => by cases hj)
  have HOWN0 : Aside (IOwn w0 W.heap.size (.slice (some ⟨W.heap.size, 0, none⟩) 0 most) []) := hown0
  have c2' := (hb0.cell (p := ⟨B, 2, none⟩) hk.blk.lt).trans c2
  clear hown0 hgrow0 hi0 hz0 hsz0 HI0
  go_step3
  go_wp2_with fail
  go_loopw [5, 17] (fun v i wr => ∃ (k : Nat) (acc : List Int) (gg kk cc : Nat), k ≤ ps.length ∧ i = .int .i64 k ∧ v = .slice (some ⟨gg, 0, none⟩) kk cc ∧ Aside (IOwn wr W.heap.size (.slice (some ⟨gg, 0, none⟩) kk cc) acc) ∧ Hid ((acc ++ (ps.drop k).flatten).take most = R) ∧ acc.length ≤ most ∧ Below W.heap.size W wr) (fun _ i _ => ps.length - (intOf i).toNat)
  case atStart => exact ⟨0, [], W.heap.size, 0, most, by omega, rfl, rfl, HOWN0, HR, by simp, hb0⟩
  case round =>
    clear HOWN0 hb0 HR c2'
    obtain ⟨k, acc, gg, kk, cc, hkk, rfl, rfl, HOWN, HK, hacc, hbel⟩ := hrel
    by_cases hlt : k < ps.length
    · obtain ⟨b3, o3, c, e0, d1, d2⟩ := hk.piece hlt
      obtain ⟨csg, hcg⟩ := hk.row
      have d0 := (hbel.cell (p := ⟨g, off + k, none⟩) hcg.lt).trans e0
      have hpk := hpl _ (List.getElem_mem hlt)
      have hdr : ps.drop k = ps[k] :: ps.drop (k + 1) := List.drop_eq_getElem_cons hlt
      have HK2 : Hid ((acc ++ (ps[k].drop 0) ++ (ps.drop (k + 1)).flatten).take most = R) := by
        show _ = _
        rw [← HK.out, hdr]
        simp only [List.drop_zero, List.flatten_cons, List.append_assoc]
      generalize ps[k] = p at e0 d0 d1 d2 HK2 hpk
      clear HK hdr e0
      have c2' := (hbel.cell (p := ⟨B, 2, none⟩) hk.blk.lt).trans c2
      go_wp2_with fail
      go_loopw [5, 23] (fun v j wr2 => ∃ (n : Nat) (ac : List Int) (gg kk cc : Nat), n ≤ p.length ∧ j = .int .i64 n ∧ v = .slice (some ⟨gg, 0, none⟩) kk cc ∧ Aside (IOwn wr2 W.heap.size (.slice (some ⟨gg, 0, none⟩) kk cc) ac) ∧ Hid ((ac ++ (p.drop n) ++ (ps.drop (k + 1)).flatten).take most = R) ∧ ac.length ≤ most ∧ Below W.heap.size W wr2) (fun _ j _ => p.length - (intOf j).toNat)
      case atStart => exact ⟨0, acc, gg, kk, cc, by omega, rfl, rfl, HOWN, HK2, hacc, hbel⟩
      case round =>
        clear HK2 HOWN hacc d0
        obtain ⟨n, ac, gg2, kk2, cc2, hn, rfl, rfl, HOWN, HK, hac, hbel2⟩ := hrel
        have hkk2 := HOWN.out.form1
        subst hkk2
        by_cases hln : n < p.length
        · have hcj := (hbel2.cell (p := ⟨b3, o3 + n, none⟩) (Nat.lt_of_lt_of_le d2.1 hk.below.size)).trans (d2.2 n hln)
          rw [show p[n]?.getD 0 = p[n] by simp [List.getElem?_eq_getElem hln]] at hcj
          have hdr : p.drop n = p[n] :: p.drop (n + 1) := List.drop_eq_getElem_cons hln
          by_cases hfull : ac.length = most
          · have hRR : R = ac := by rw [← HK.out, List.append_assoc, List.take_append_of_le_length (by omega), List.take_of_length_le (by omega)]
            clear HK hdr
            have hf2 : ((ac.length : Int) == (most : Int)) = true := by simp [hfull]
            clear hfull
            go_wp2_with fail
            try rw [Exit.noGoto_ret]
            go_ret
            rw [hRR]
            exact ⟨_, _, _, rfl, HOWN.out, hbel2⟩
          · have hf2 : ((ac.length : Int) == (most : Int)) = false := by simp; omega
            have HK2 : Hid (((ac ++ [p[n]]) ++ (p.drop (n + 1)) ++ (ps.drop (k + 1)).flatten).take most = R) := by
              show _ = _
              rw [← HK.out, hdr]
              simp only [List.append_assoc, List.cons_append, List.nil_append]
            have hlq : ac.length + 1 ≤ most := by omega
            have HM8 := HM.out
            generalize p[n] = q at hcj HK2
            clear HK hdr hfull
            have hsz2 : W.heap.size ≤ wr.heap.size := hbel2.size
            have hbA := (Below.refl wr.heap.size wr).alloc (Nat.le_refl _) (.cells #[.int .i64 q] 3)
            have hnb := Blk.new wr 3 #[.int .i64 q]
            have HOWN2 : Aside (IOwn (wr.alloc (.cells #[.int .i64 q] 3)) W.heap.size (.slice (some ⟨gg2, 0, none⟩) ac.length cc2) ac) := own_after HOWN.out hbA
            have hszA : W.heap.size ≤ (wr.alloc (.cells #[.int .i64 q] 3)).heap.size := Nat.le_trans hsz2 hbA.size
            go_wp2_with (first | (at_builtin; refine wpList_append_keep rfl _ _ rfl W.heap.size _ ac rfl HOWN2.out q ⟨wr.heap.size, 0, none⟩ _ rfl (hnb.cell 0) (by omega) hszA ?_; intro v4 w4 hown4 hold4 hgr4; obtain ⟨a4, c4, rfl⟩ := hown4.val; obtain ⟨g4, rfl, hg4, hcap4⟩ := hown4.some_of (by simp)))
            have hb4 : Below W.heap.size W w4 := (hbel2.alloc hsz2 _).grown hgr4 hszA (fun j hj => (own_ge HOWN2.out hj).1)
            have HOWN4 : Aside (IOwn w4 W.heap.size (.slice (some ⟨g4, 0, none⟩) (ac ++ [q]).length c4) (ac ++ [q])) := hown4
            clear hown4 hold4 hgr4 hcap4
            go_roundw
            case rel => exact ⟨n + 1, ac ++ [q], g4, (ac ++ [q]).length, c4, by omega, by simp, by simp, HOWN4, HK2, by simp; omega, hb4⟩
            case measure => simp only [intOf]; omega
        · have HK3 : Hid ((ac ++ (ps.drop (k + 1)).flatten).take most = R) := by
            show _ = _
            rw [← HK.out, List.drop_of_length_le (show p.length ≤ n by omega), List.append_nil]
          clear HK
          go_wp2_with fail
          go_roundw
          case rel => exact ⟨k + 1, ac, gg2, ac.length, cc2, by omega, by simp, by simp, HOWN, HK3, hac, hbel2⟩
          case measure => simp only [intOf]; omega
    · have hRR : R = acc := by rw [← HK.out, List.drop_of_length_le (by omega), List.flatten_nil, List.append_nil, List.take_of_length_le hacc]
      clear HK
      go_wp2_with fail
      try rw [Exit.noGoto_ret]
      go_ret
      rw [hRR]
      exact ⟨_, _, _, rfl, HOWN.out, hbel⟩
end Go.Proofs.YtfhpgmlfgjfknaaGreatDoor
