/- What dovetailref05's sorted does (a contract; nothing is claimed here). -/
import Derived.Test.YtkcnjnccdafbfaaGreatDoorJ29
import Derived.Test.YtkcnjnccdafbfaaGreatDoorJ17
import Derived.Test.YtkcnjnccdafbfaaGreatDoorJ20
namespace Go.Proofs.YtkcnjnccdafbfaaGreatDoor
open Go.RowKit Go.Vf Go.Maps
theorem MIn.up {n₀ n : Nat} {x : World} {v : Value} {l : List PM} (hn : n₀ ≤ n) : MIn n₀ x v l → MIn n x v l
 | .inl e => .inl e
 | .inr ⟨b, off, cap, e, hb, hc⟩ => .inr ⟨b, off, cap, e, Nat.lt_of_lt_of_le hb hn, fun j hj => by
  obtain ⟨pa, pk, pc, h1, h2, h3, h4⟩ := hc j hj
  exact ⟨pa, pk, pc, h1, h2, h3, h4.mono hn⟩⟩
theorem MIn.go {x y : World} {v : Value} {l : List PM} (h : MIn x.heap.size x v l) (hb : Below x.heap.size x y) : MIn y.heap.size y v l := MIn.up hb.size (h.below hb (Nat.le_refl _))
theorem load_few {t : List UInt8} {L : List Mk} {E : Int → List Int} (h : loadR t = .ok (L, E)) : (L.map Mk.point).Nodup ∧ (marksR L).length ≤ 1048576 := by
 obtain ⟨hlen, hl, _⟩ := load_says h
 obtain ⟨_, hnd, h4, _⟩ := load_total hlen hl
 exact ⟨hnd, by rw [marksR_length]; omega⟩
theorem rclass_load {t : List UInt8} {L : List Mk} {E : Int → List Int} (h : loadR t = .ok (L, E)) {a : Option Addr} {n c : Nat} (q : Int) {x : World} (hin : MIn x.heap.size x (.slice a n c) (marksR L)) :
  Calls Tryz.prog 73 #[.agg #[.slice a n c], .int .i64 q] x fun e w' => e = .returned (.int .i64 (classAt L q)) ∧ Below x.heap.size x w' := by
 obtain ⟨hnd, hll⟩ := load_few h
 have := refClassOf_any (marksR L) (marksR_rise hnd) hll a n c q x.heap.size x (Nat.le_refl _) hin
 rw [clsP_marks hnd] at this
 exact this
theorem rparts_load {t : List UInt8} {L : List Mk} {E : Int → List Int} (h : loadR t = .ok (L, E)) {a : Option Addr} {n c : Nat} (q : Int) (hl57 : (partsR' E q).length ≤ 57) {x : World} (hin : MIn x.heap.size x (.slice a n c) (marksR L)) :
  Calls Tryz.prog 72 #[.agg #[.slice a n c], .int .i64 q] x fun e w' => ∃ a n c, e = .returned (.slice a n c) ∧ IOwn w' x.heap.size (.slice a n c) (partsR' E q) ∧ Below x.heap.size x w' := by
 obtain ⟨hlen, hl, _⟩ := load_says h
 obtain ⟨hnd, hll⟩ := load_few h
 obtain ⟨k, hdep, he⟩ := depth_of h
 have := refParts_any (marksR L) (marksR_rise hnd) hll (fun p => (parts_plain hlen hl p).1) (fun p => (parts_plain hlen hl p).2) k (by rw [partsP_marks hnd]; exact hdep) a n c x.heap.size q (by rw [partsD_eq h he]; omega) x (Nat.le_refl _) hin
 rw [partsD_eq h he] at this
 exact this
theorem filter_snoc (p : Int → Bool) (zs : List Int) (i : Nat) (hi : i < zs.length) : (zs.take (i + 1)).filter p = (zs.take i).filter p ++ (if p zs[i] then [zs[i]] else []) := by
 rw [← List.take_append_getElem hi, List.filter_append]
 congr 1
 by_cases h : p zs[i] = true
 ·
  rw [if_pos h, List.filter_cons_of_pos h]; rfl
 ·
  rw [if_neg h, List.filter_cons_of_neg h]; rfl
def SortedPost (K : Int → Int) (zs : List Int) (w : World) (e : Ending) (w' : World) : Prop := ∃ a n c X, e = .returned (.slice a n c) ∧ IOwn w' w.heap.size (.slice a n c) X ∧ SortedK K X ∧ AlikeK K zs X ∧ X.length = zs.length ∧ Below w.heap.size w w'
set_option maxHeartbeats 8000000 in
set_option maxRecDepth 20000 in
theorem rsorted_load {t : List UInt8} {L : List Mk} {E : Int → List Int} (h : loadR t = .ok (L, E)) {da : Option Addr} {dn dc : Nat} (a : Option Addr) (kz cz : Nat) (zs : List Int) (w : World) (hin : MIn w.heap.size w (.slice da dn dc) (marksR L)) (hz : Ints w.heap.size w (.slice a kz cz) zs) (hkz : kz = zs.length) (hns : ∀ x ∈ zs, classAt L x ≠ 0) (hzl : kz ≤ 1000000000) :
  Calls Tryz.prog 74 #[.agg #[.slice da dn dc], .slice a kz cz] w fun e w' => SortedPost (classAt L) zs w e w' := by
 have hb0 := (Below.refl w.heap.size w).alloc (Nat.le_refl _) (.cells #[.slice da dn dc] 31)
 have hn0 := Blk.new w 31 #[.slice da dn dc]
 have HIN : Aside (MIn w.heap.size w (.slice da dn dc) (marksR L)) := hin
 have hI : ∀ x ∈ zs, 1 ≤ classAt L x ∧ classAt L x ≤ 254 := fun x hx => by have := load_cls h x; have := hns x hx; omega
 have HL : Aside (loadR t = .ok (L, E)) := h
 have HZ : Aside (Ints w.heap.size w (.slice a kz cz) zs) := hz
 have HKZ : Hid (kz = zs.length) := hkz
 have HI : Aside _ := hI
 clear h hz hkz hI hns hin
 go_enter Tryz.func74, Tryz.ntmps74
 go_upto_region 1 with fail
 generalize w.alloc (.cells #[.slice da dn dc] 31) = W at hb0 hn0 ⊢
 have HJ0 : Aside (Blk W w.heap.size 31 #[.slice da dn dc] ∧ Below w.heap.size w W ∧ IOwn W w.heap.size (.slice none 0 0) (pick (classAt L) zs 0)) := ⟨hn0, hb0, IOwn.nil _ _⟩
 clear hn0 hb0
 go_wp2_with fail
 go_loopg [5, 6] 256 (fun g1 vo vc wr => ∃ (cN : Nat) (oa : Option Addr) (ok oc : Nat), vc = .int .i64 ((cN : Int) + 1) ∧ vo = .slice oa ok oc ∧ cN ≤ 254 ∧ 254 - cN ≤ g1 ∧ ok ≤ kz ∧ Aside (Blk wr w.heap.size 31 #[.slice da dn dc] ∧ Below w.heap.size w wr ∧ IOwn wr w.heap.size (.slice oa ok oc) (pick (classAt L) zs cN)))
 case atStart => exact ⟨0, none, 0, 0, by simp, rfl, by omega, by omega, by omega, HJ0⟩
 case round =>
  clear HJ0
  obtain ⟨cN, oa, ok, oc, rfl, rfl, hc4, hg1, hok, HJ⟩ := hrel
  have hokl : ok = (pick (classAt L) zs cN).length := by obtain ⟨_, _, e⟩ := HJ.out.2.2.val; exact (Value.slice.inj e).2.1
  have hdone : (∀ x ∈ zs, 1 ≤ classAt L x ∧ classAt L x ≤ cN) → SortedPost (classAt L) zs w (.returned (.slice oa ok oc)) wr := fun hx => by
   have hal := pick_alike hx
   refine ⟨oa, ok, oc, _, rfl, HJ.out.2.2, pick_sorted cN, hal, ?_, HJ.out.2.1⟩
   rw [(pick_perm cN).length_eq, List.filter_eq_self.2 (fun x h' => by simpa using hx x h')]
  have HDONE : Aside _ := hdone
  have HOK : Hid (ok = (pick (classAt L) zs cN).length) := hokl
  clear hdone hokl
  by_cases hfull : ok < kz
  ·
   by_cases hcl : cN < 254
   ·
    have hclz : (cN : Int) + 1 ≤ 254 := by omega
    have hfz : (ok : Int) < (kz : Int) := by omega
    have H0 : Aside (Blk wr w.heap.size 31 #[.slice da dn dc] ∧ Below w.heap.size w wr ∧ IOwn wr w.heap.size (.slice oa ok oc) (pick (classAt L) zs cN ++ (zs.take 0).filter (fun x => classAt L x == ((cN + 1 : Nat) : Int)))) := ⟨HJ.out.1, HJ.out.2.1, by simpa using HJ.out.2.2⟩
    clear HDONE
    go_wp2_with fail
    go_loopg [5, 7] kz (fun g2 vo vi wr => ∃ (i : Nat) (oa : Option Addr) (ok oc : Nat), vi = .int .i64 i ∧ vo = .slice oa ok oc ∧ i ≤ kz ∧ kz - i ≤ g2 ∧ Aside (Blk wr w.heap.size 31 #[.slice da dn dc] ∧ Below w.heap.size w wr ∧ IOwn wr w.heap.size (.slice oa ok oc) (pick (classAt L) zs cN ++ (zs.take i).filter (fun x => classAt L x == ((cN + 1 : Nat) : Int)))))
    case atStart => exact ⟨0, oa, ok, oc, rfl, rfl, Nat.zero_le _, by omega, H0⟩
    case round =>
     clear H0 HJ HOK
     obtain ⟨i, ob, okb, obc, rfl, rfl, hik, hg2, HJ⟩ := hrel
     by_cases hil : i < kz
     ·
      have hilz : (i : Int) < (kz : Int) := by omega
      have hiz : i < zs.length := by rw [← HKZ.out]; exact hil
      obtain ⟨bp, op, hao, hnk, hblt, hcell⟩ := (HZ.out.below HJ.out.2.1 (Nat.le_refl _)).cell (fun e => by rw [e] at hiz; simp at hiz)
      have hcj := hcell i hiz
      rw [show zs[i]?.getD 0 = zs[i] by simp [List.getElem?_eq_getElem hiz]] at hcj
      have hfs := filter_snoc (fun x => classAt L x == ((cN + 1 : Nat) : Int)) zs i hiz
      have HFS : Hid ((zs.take (i + 1)).filter (fun x => classAt L x == ((cN + 1 : Nat) : Int)) = (zs.take i).filter (fun x => classAt L x == ((cN + 1 : Nat) : Int)) ++ (if (classAt L zs[i] == ((cN + 1 : Nat) : Int)) = true then [zs[i]] else [])) := hfs
      generalize zs[i] = q at hcj HFS
      subst hao
      have hbp : bp < wr.heap.size := Nat.lt_of_lt_of_le hblt HJ.out.2.1.size
      have xr : wr.cell? ⟨w.heap.size, 0, none⟩ = some (.slice da dn dc) := HJ.out.1.cell 0
      have hbxl := HJ.out.1.lt
      have s0 : (wr.drew.cell? ⟨w.heap.size, 0, none⟩ = some (.slice da dn dc) ∧ wr.drew.cell? ⟨bp, op + i, none⟩ = some (.int .i64 q)) ∧ Below wr.heap.size wr wr.drew := ⟨⟨xr, hcj⟩, (Below.refl _ _).drew⟩
      have HKK : Hid (∀ x y : World, ((x.cell? ⟨w.heap.size, 0, none⟩ = some (.slice da dn dc) ∧ x.cell? ⟨bp, op + i, none⟩ = some (.int .i64 q)) ∧ Below wr.heap.size wr x) → Below wr.heap.size x y → ((y.cell? ⟨w.heap.size, 0, none⟩ = some (.slice da dn dc) ∧ y.cell? ⟨bp, op + i, none⟩ = some (.int .i64 q)) ∧ Below wr.heap.size wr y)) := fun x y h1 h2 =>
       ⟨⟨(h2.cell (p := ⟨w.heap.size, 0, none⟩) hbxl).trans h1.1.1, (h2.cell (p := ⟨bp, op + i, none⟩) hbp).trans h1.1.2⟩, h1.2.trans h2⟩
      have HP1 : Hid (∀ x : World, ((x.cell? ⟨w.heap.size, 0, none⟩ = some (.slice da dn dc) ∧ x.cell? ⟨bp, op + i, none⟩ = some (.int .i64 q)) ∧ Below wr.heap.size wr x) → Calls Tryz.prog 73 #[.agg #[.slice da dn dc], .int .i64 q] x fun e w' => e = .returned (.int .i64 (classAt L q)) ∧ Below x.heap.size x w') := fun x hx => rclass_load HL.out q (MIn.up (Nat.le_trans HJ.out.2.1.size hx.2.size) (HIN.out.below (HJ.out.2.1.trans (hx.2.mono HJ.out.2.1.size)) (Nat.le_refl _)))
      generalize hkq : classAt L q = kq at HP1 HFS
      have HKQ : Hid (classAt L q = kq) := hkq
      clear hcell xr hnk hiz hfs hkq
      go_upto_region 8 with fail
      go_cut [32] from 19 to 39 (fun v wx => v = .bool (kq == (cN : Int) + 1) ∧ Aside (Below wr.heap.size wr wx))
      case first =>
       go_region_held (fun x => (x.cell? ⟨w.heap.size, 0, none⟩ = some (.slice da dn dc) ∧ x.cell? ⟨bp, op + i, none⟩ = some (.int .i64 q)) ∧ Below wr.heap.size wr x) (first | exact s0 | assumption | exact HKK.out _ _ (by assumption) (below_call (by assumption) (by assumption))) ((go_at_call 73; refine (HP1.out _ (by assumption)).mono ?_; rintro e w3 ⟨rfl, hb3⟩))
       all_goals go_wp2_with fail
       all_goals go_meet
       case rel => exact ⟨rfl, And.right (by assumption)⟩
      case rest =>
       obtain ⟨rfl, HBW⟩ := hcut
       have hcj2 : wc.cell? ⟨bp, op + i, none⟩ = some (.int .i64 q) := (HBW.out.cell (p := ⟨bp, op + i, none⟩) hbp).trans hcj
       have hown2 : IOwn wc w.heap.size (.slice ob okb obc) (pick (classAt L) zs cN ++ (zs.take i).filter (fun x => classAt L x == ((cN + 1 : Nat) : Int))) := own_after HJ.out.2.2 HBW.out
       have HJ2 : Aside (Blk wc w.heap.size 31 #[.slice da dn dc] ∧ Below w.heap.size w wc ∧ IOwn wc w.heap.size (.slice ob okb obc) (pick (classAt L) zs cN ++ (zs.take i).filter (fun x => classAt L x == ((cN + 1 : Nat) : Int)))) := ⟨HJ.out.1.below HBW.out HJ.out.1.lt, HJ.out.2.1.trans (HBW.out.mono HJ.out.2.1.size), hown2⟩
       clear s0 HKK HP1 HJ hown2 hcj
       cases hb : (kq == (cN : Int) + 1) with
       | false =>
        have HJ3 : Aside (Blk wc w.heap.size 31 #[.slice da dn dc] ∧ Below w.heap.size w wc ∧ IOwn wc w.heap.size (.slice ob okb obc) (pick (classAt L) zs cN ++ (zs.take (i + 1)).filter (fun x => classAt L x == ((cN + 1 : Nat) : Int)))) := by
         have e := HFS.out
         rw [show (kq == ((cN + 1 : Nat) : Int)) = false from hb] at e
         simp only [Bool.false_eq_true, if_false, List.append_nil] at e
         rw [e]
         exact HJ2
        clear HJ2 HFS
        go_wp2
        go_roundg (kz - (i + 1))
        case measure => omega
        case rel => exact ⟨i + 1, ob, okb, obc, by first | rfl | go_num, rfl, by omega, Nat.le_refl _, HJ3⟩
       | true =>
        have e2 : (zs.take (i + 1)).filter (fun x => classAt L x == ((cN + 1 : Nat) : Int)) = (zs.take i).filter (fun x => classAt L x == ((cN + 1 : Nat) : Int)) ++ [q] := by
         have e := HFS.out
         rw [show (kq == ((cN + 1 : Nat) : Int)) = true from hb] at e
         simpa using e
        have HE2 : Hid (pick (classAt L) zs cN ++ (zs.take (i + 1)).filter (fun x => classAt L x == ((cN + 1 : Nat) : Int)) = (pick (classAt L) zs cN ++ (zs.take i).filter (fun x => classAt L x == ((cN + 1 : Nat) : Int))) ++ [q]) := by show _ = _; rw [e2, List.append_assoc]
        have hll : (pick (classAt L) zs cN ++ (zs.take i).filter (fun x => classAt L x == ((cN + 1 : Nat) : Int))).length ≤ 2000000000 := by
         have h1 := pick_len (cls := classAt L) (l := zs) (c := cN)
         have h2 := List.length_filter_le (fun x => classAt L x == ((cN + 1 : Nat) : Int)) (zs.take i)
         rw [List.length_take] at h2
         rw [List.length_append]
         have h3 := HKZ.out
         omega
        generalize pick (classAt L) zs cN ++ (zs.take i).filter (fun x => classAt L x == ((cN + 1 : Nat) : Int)) = Z at HJ2 HE2 hll
        have hbA := (Below.refl wc.heap.size wc).alloc (Nat.le_refl _) (.cells #[.int .i64 q] 3)
        have hnA := Blk.new wc 3 #[.int .i64 q]
        have hcA : ∀ u, u < [q].length → (wc.alloc (.cells #[.int .i64 q] 3)).cell? ((⟨wc.heap.size, 0, none⟩ : Addr).add u) = some (.int .i64 ([q][u]?.getD 0)) := fun u hu => by
         obtain rfl : u = 0 := by simpa using hu
         rw [Go.WideShapes.add_plain]
         exact hnA.cell 0
        have HOA : Aside (IOwn (wc.alloc (.cells #[.int .i64 q] 3)) w.heap.size (.slice ob okb obc) Z) := own_after HJ2.out.2.2 hbA
        have HBA : Aside (Blk (wc.alloc (.cells #[.int .i64 q] 3)) w.heap.size 31 #[.slice da dn dc] ∧ Below w.heap.size w (wc.alloc (.cells #[.int .i64 q] 3))) := ⟨HJ2.out.1.below hbA HJ2.out.1.lt, HJ2.out.2.1.trans (hbA.mono HJ2.out.2.1.size)⟩
        have HCA : Aside _ := hcA
        have hpl : Z.length + [q].length ≤ 1099511627776 := by simp; omega
        have hbzA := HBA.out.2.size
        have hokb : okb = Z.length := by obtain ⟨_, _, e⟩ := HJ2.out.2.2.val; exact (Value.slice.inj e).2.1
        have HOKB : Hid (okb = Z.length) := hokb
        clear hbA hnA hcA HJ2 hb HFS e2 hokb
        go_wp2_with (first | (at_builtin; refine wpList_append_ints rfl _ _ rfl w.heap.size _ Z rfl HOA.out [q] ⟨wc.heap.size, 0, none⟩ _ rfl HCA.out hpl hbzA ?_; intro a8 c8 w8 hown8 hgr8 hnil8 hat8))
        have HJ4 : Aside (Blk w8 w.heap.size 31 #[.slice da dn dc] ∧ Below w.heap.size w w8 ∧ IOwn w8 w.heap.size (.slice a8 (Z.length + [q].length) c8) (pick (classAt L) zs cN ++ (zs.take (i + 1)).filter (fun x => classAt L x == ((cN + 1 : Nat) : Int)))) := ⟨blk_grown HBA.out.1 HOA.out (by decide) hgr8, HBA.out.2.grown hgr8 hbzA (fun k hk => (own_ge HOA.out hk).1), by rw [HE2.out]; exact hown8⟩
        clear hown8 hgr8 hnil8 hat8 HOA HBA HCA HE2
        go_roundg (kz - (i + 1))
        case measure => omega
        case rel => exact ⟨i + 1, a8, Z.length + [q].length, c8, by first | rfl | go_num, by first | rfl | simp, by omega, Nat.le_refl _, HJ4⟩
     ·
      have hilz : ¬ (i : Int) < (kz : Int) := by omega
      have e1 : pick (classAt L) zs cN ++ (zs.take i).filter (fun x => classAt L x == ((cN + 1 : Nat) : Int)) = pick (classAt L) zs (cN + 1) := by
       rw [List.take_of_length_le (by rw [← HKZ.out]; omega)]; rfl
      have HJ2 : Aside (Blk wr w.heap.size 31 #[.slice da dn dc] ∧ Below w.heap.size w wr ∧ IOwn wr w.heap.size (.slice ob okb obc) (pick (classAt L) zs (cN + 1))) := by rw [← e1]; exact HJ
      have hokb : okb ≤ kz := by
       obtain ⟨_, _, e⟩ := HJ2.out.2.2.val
       have := (Value.slice.inj e).2.1
       rw [this, HKZ.out]
       exact pick_len
      clear e1 HJ
      go_wp2_with fail
      go_roundg (254 - (cN + 1))
      case measure => omega
      case rel => exact ⟨cN + 1, ob, okb, obc, by first | rfl | go_num | (congr 1), rfl, by omega, Nat.le_refl _, hokb, HJ2⟩
   ·
    have hclz : ¬ (cN : Int) + 1 ≤ 254 := by omega
    have hfin := HDONE.out (fun x hx => by have := HI.out x hx; omega)
    clear HDONE
    go_wp2_with fail
    go_ret
    exact hfin
  ·
   have hfz : ¬ (ok : Int) < (kz : Int) := by omega
   have hfin := HDONE.out (pick_full (by rw [← HOK.out, ← HKZ.out]; omega))
   clear HDONE
   by_cases hcl : cN < 254
   ·
    have hclz : (cN : Int) + 1 ≤ 254 := by omega
    go_wp2_with fail
    go_ret
    exact hfin
   ·
    have hclz : ¬ (cN : Int) + 1 ≤ 254 := by omega
    go_wp2_with fail
    go_ret
    exact hfin
end Go.Proofs.YtkcnjnccdafbfaaGreatDoor
