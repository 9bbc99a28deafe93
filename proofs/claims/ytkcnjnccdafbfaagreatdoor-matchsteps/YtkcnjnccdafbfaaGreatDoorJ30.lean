/- Contracts and lemmas (nothing is claimed here). -/
import Derived.Test.YtkcnjnccdafbfaaGreatDoorFormR
import Derived.Test.YtkcnjnccdafbfaaGreatDoorJ15
namespace Go.Vf
structure FormB (cls : Int → Int) (pts out row : List Int) (i : Nat) : Prop where
 al : Alike0 cls (pts.take i) (out ++ row)
 co : CO cls out
 last : ∀ x, out.getLast? = some x → cls x = 0
 non : ∀ x ∈ row, cls x ≠ 0
 len : out.length + row.length = i
theorem FormB.start {cls : Int → Int} {pts : List Int} : FormB cls pts [] [] 0 := ⟨by rw [List.take_zero]; exact Alike0.refl _, trivial, fun x h => by simp at h, by simp, rfl⟩
theorem FormB.more {cls : Int → Int} {pts out row : List Int} {i : Nat} (h : FormB cls pts out row i) (hi : i < pts.length) (hx : cls pts[i] ≠ 0) : FormB cls pts out (row ++ [pts[i]]) (i + 1) where
 al := by
  rw [← List.take_append_getElem hi, ← List.append_assoc]
  exact Alike0.append h.al (Alike0.refl _)
 co := h.co
 last := h.last
 non := fun x hx' => by
  rcases List.mem_append.1 hx' with h' | h'
  ·
   exact h.non x h'
  ·
   rw [List.mem_singleton] at h'; rw [h']; exact hx
 len := by have := h.len; simp; omega
theorem FormB.co2 {cls : Int → Int} (hc0 : ∀ x, 0 ≤ cls x) {pts out row X : List Int} {i : Nat} (h : FormB cls pts out row i) (hs : SortedK cls X) : CO cls (out ++ X) :=
 CO.append h.co hs.co (fun x y hx _ _ => by rw [h.last x hx]; exact hc0 y)
theorem FormB.starter {cls : Int → Int} (hc0 : ∀ x, 0 ≤ cls x) {pts out row X : List Int} {i : Nat} (h : FormB cls pts out row i) (hi : i < pts.length) (hx : cls pts[i] = 0) (hs : SortedK cls X) (ha : AlikeK cls row X) (hl : X.length = row.length) : FormB cls pts (out ++ X ++ [pts[i]]) [] (i + 1) where
 al := by
  rw [← List.take_append_getElem hi, List.append_nil]
  exact Alike0.append (h.al.trans (Alike0.append (Alike0.refl _) (ha.alike0 h.non))) (Alike0.refl _)
 co := CO.append (h.co2 hc0 hs) trivial (fun x y _ hy h0 => by
  simp only [List.head?_cons, Option.some.injEq] at hy
  rw [← hy] at h0
  exact absurd hx h0)
 last := fun x h' => by
  simp only [List.getLast?_append, List.getLast?_singleton, Option.some_or, Option.some.injEq] at h'
  rw [← h']; exact hx
 non := by simp
 len := by have := h.len; simp; omega
theorem FormB.done {cls : Int → Int} (hc0 : ∀ x, 0 ≤ cls x) {pts out row X : List Int} {i : Nat} (h : FormB cls pts out row i) (hi : pts.length ≤ i) (hs : SortedK cls X) (ha : AlikeK cls row X) : FormOf cls pts (out ++ X) := by
 refine ⟨h.co2 hc0 hs, ?_⟩
 have := h.al
 rw [List.take_of_length_le hi] at this
 exact this.trans (Alike0.append (Alike0.refl _) (ha.alike0 h.non))
end Go.Vf
namespace Go.Proofs.YtkcnjnccdafbfaaGreatDoor
open Go.RowKit Go.Vf Go.Maps
structure O3 (w : World) (bv : Value) (va vo vr : Value) (la lo lr : List Int) (wr : World) : Prop where
 box : Blk wr w.heap.size 31 #[bv]
 below : Below w.heap.size w wr
 all : IOwn wr w.heap.size va la
 out : IOwn wr w.heap.size vo lo
 row : IOwn wr w.heap.size vr lr
 oa : Apt vo va
 ra : Apt vr va
 or : Apt vo vr
section
variable {w : World} {bv va vo vr : Value} {la lo lr : List Int} {wr : World}
theorem O3.go (h : O3 w bv va vo vr la lo lr wr) {w' : World} (hb : Below wr.heap.size wr w') : O3 w bv va vo vr la lo lr w' :=
 ⟨h.box.below hb h.box.lt, h.below.trans (hb.mono h.below.size), own_after h.all hb, own_after h.out hb, own_after h.row hb, h.oa, h.ra, h.or⟩
theorem O3.goOut (h : O3 w bv va vo vr la lo lr wr) {w' : World} {vo' : Value} {lo' : List Int} (hg : wr.grownBy w' vo.ownBlock) (ho : IOwn w' w.heap.size vo' lo') (hat : vo'.ownBlock = vo.ownBlock ∨ vo'.ownBlock = some wr.heap.size) : O3 w bv va vo' vr la lo' lr w' where
 box := blk_grown h.box h.out (by decide) hg
 below := h.below.grown hg h.below.size (fun k hk => (own_ge h.out hk).1)
 all := own_grown h.all hg h.oa
 out := ho
 row := own_grown h.row hg h.or
 oa := fun g hg1 hg2 => by
  rcases hat with e | e
  ·
   exact h.oa g (e.symm.trans hg1) hg2
  ·
   rw [e] at hg1; have := row_lt h.all hg2; simp at hg1; omega
 ra := h.ra
 or := fun g hg1 hg2 => by
  rcases hat with e | e
  ·
   exact h.or g (e.symm.trans hg1) hg2
  ·
   rw [e] at hg1; have := row_lt h.row hg2; simp at hg1; omega
theorem O3.goRow (h : O3 w bv va vo vr la lo lr wr) {w' : World} {vr' : Value} {lr' : List Int} (hg : wr.grownBy w' vr.ownBlock) (ho : IOwn w' w.heap.size vr' lr') (hat : vr'.ownBlock = vr.ownBlock ∨ vr'.ownBlock = some wr.heap.size) : O3 w bv va vo vr' la lo lr' w' where
 box := blk_grown h.box h.row (by decide) hg
 below := h.below.grown hg h.below.size (fun k hk => (own_ge h.row hk).1)
 all := own_grown h.all hg h.ra
 out := own_grown h.out hg h.or.symm
 row := ho
 oa := h.oa
 ra := fun g hg1 hg2 => by
  rcases hat with e | e
  ·
   exact h.ra g (e.symm.trans hg1) hg2
  ·
   rw [e] at hg1; have := row_lt h.all hg2; simp at hg1; omega
 or := fun g hg1 hg2 => by
  rcases hat with e | e
  ·
   exact h.or g hg1 (e.symm.trans hg2)
  ·
   rw [e] at hg2; have := row_lt h.out hg1; simp at hg2; omega
theorem O3.row0 (h : O3 w bv va vo vr la lo lr wr) : O3 w bv va vo (.slice none 0 0) la lo [] wr :=
 ⟨h.box, h.below, h.all, h.out, IOwn.nil _ _, h.oa, fun g hg => by simp [Value.ownBlock] at hg, fun g _ hg => by simp [Value.ownBlock] at hg⟩
end
def RFormPost (L : List Mk) (E : Int → List Int) (ps : List Int) (w : World) (e : Ending) (w' : World) : Prop := ∃ a n c X, e = .returned (.slice a n c) ∧ IOwn w' w.heap.size (.slice a n c) X ∧ FormOf (classAt L) (flatR E ps) X ∧ Below w.heap.size w w'
set_option maxHeartbeats 16000000 in
set_option maxRecDepth 20000 in
theorem rform_load {t : List UInt8} {L : List Mk} {E : Int → List Int} (h : loadR t = .ok (L, E)) {da : Option Addr} {dn dc : Nat} (a : Option Addr) (kz cz : Nat) (zs : List Int) (w : World) (hin : MIn w.heap.size w (.slice da dn dc) (marksR L)) (hz : Numb w a kz cz zs) (h57 : ∀ q, (partsR' E q).length ≤ 57 ∧ 0 < (partsR' E q).length) (hzl : zs.length ≤ 2097152) :
  Calls Tryz.prog 34 #[.agg #[.slice da dn dc], .slice a kz cz] w fun e w' => RFormPost L E zs w e w' := by
 have hb0 := (Below.refl w.heap.size w).alloc (Nat.le_refl _) (.cells #[.slice da dn dc] 31)
 have hn0 := Blk.new w 31 #[.slice da dn dc]
 have HL : Aside (loadR t = .ok (L, E)) := h
 have HIN : Aside (MIn w.heap.size w (.slice da dn dc) (marksR L)) := hin
 have HZ : Aside (Ints w.heap.size w (.slice a kz cz) zs) := hz.ints
 have HKZ : Hid (kz = zs.length) := hz.len
 have H57 : Aside (∀ q, (partsR' E q).length ≤ 57 ∧ 0 < (partsR' E q).length) := h57
 have hfl : (flatR E zs).length ≤ 57 * zs.length := by
  clear hz HZ HKZ hzl
  induction zs with
  | nil => simp [flatR]
  | cons x r ih => have := h57 x; rw [show flatR E (x :: r) = partsR' E x ++ flatR E r from rfl, List.length_append, List.length_cons]; omega
 have hkz : kz ≤ 2097152 := by rw [hz.len]; exact hzl
 clear h hz hin h57
 obtain ⟨pts, hpts⟩ : ∃ pts, pts = flatR E zs := ⟨_, rfl⟩
 have HPT : Hid (pts = flatR E zs) := hpts
 have hpl : pts.length ≤ 120000000 := by rw [hpts]; omega
 have HR0 : Hid ([] ++ flatR E (zs.drop 0) = pts) := by rw [hpts]; rfl
 clear hpts hfl
 go_enter Tryz.func34, Tryz.ntmps34
 go_upto_region 1 with fail
 generalize w.alloc (.cells #[.slice da dn dc] 31) = W at hb0 hn0 ⊢
 have HJ0 : Aside (Blk W w.heap.size 31 #[.slice da dn dc] ∧ Below w.heap.size w W ∧ IOwn W w.heap.size (.slice none 0 0) []) := ⟨hn0, hb0, IOwn.nil _ _⟩
 clear hn0 hb0
 go_wp2_with fail
 go_loopg [5, 8] kz (fun g1 va vi wr => ∃ (i : Nat) (aa : Option Addr) (ak ac : Nat) (acc : List Int), vi = .int .i64 i ∧ va = .slice aa ak ac ∧ i ≤ kz ∧ kz - i ≤ g1 ∧ Aside (Blk wr w.heap.size 31 #[.slice da dn dc] ∧ Below w.heap.size w wr ∧ IOwn wr w.heap.size (.slice aa ak ac) acc) ∧ Hid (acc ++ flatR E (zs.drop i) = pts))
 case atStart => exact ⟨0, none, 0, 0, [], rfl, rfl, Nat.zero_le _, by omega, HJ0, HR0⟩
 case round =>
  clear HJ0 HR0
  obtain ⟨i, aa, ak, ac, acc, rfl, rfl, hik, hg1, HJ, HR⟩ := hrel
  by_cases hil : i < kz
  ·
   have hilz : (i : Int) < (kz : Int) := by omega
   have hiz : i < zs.length := by rw [← HKZ.out]; exact hil
   obtain ⟨bp, op, hao, hnk, hblt, hcell⟩ := (HZ.out.below HJ.out.2.1 (Nat.le_refl _)).cell (fun e => by rw [e] at hiz; simp at hiz)
   have hcj := hcell i hiz
   rw [show zs[i]?.getD 0 = zs[i] by simp [List.getElem?_eq_getElem hiz]] at hcj
   have HR2 : Hid ((acc ++ partsR' E zs[i]) ++ flatR E (zs.drop (i + 1)) = pts) := by
    show _ = _
    rw [← HR.out, List.drop_eq_getElem_cons hiz, show flatR E (zs[i] :: zs.drop (i + 1)) = partsR' E zs[i] ++ flatR E (zs.drop (i + 1)) from rfl, List.append_assoc]
   generalize zs[i] = q at hcj HR2
   subst hao
   have hbp : bp < wr.heap.size := Nat.lt_of_lt_of_le hblt HJ.out.2.1.size
   have xr : wr.cell? ⟨w.heap.size, 0, none⟩ = some (.slice da dn dc) := HJ.out.1.cell 0
   have hbxl := HJ.out.1.lt
   have s0 : (wr.drew.cell? ⟨w.heap.size, 0, none⟩ = some (.slice da dn dc) ∧ wr.drew.cell? ⟨bp, op + i, none⟩ = some (.int .i64 q)) ∧ Below wr.heap.size wr wr.drew := ⟨⟨xr, hcj⟩, (Below.refl _ _).drew⟩
   have HKK : Hid (∀ x y : World, ((x.cell? ⟨w.heap.size, 0, none⟩ = some (.slice da dn dc) ∧ x.cell? ⟨bp, op + i, none⟩ = some (.int .i64 q)) ∧ Below wr.heap.size wr x) → Below wr.heap.size x y → ((y.cell? ⟨w.heap.size, 0, none⟩ = some (.slice da dn dc) ∧ y.cell? ⟨bp, op + i, none⟩ = some (.int .i64 q)) ∧ Below wr.heap.size wr y)) := fun x y h1 h2 =>
    ⟨⟨(h2.cell (p := ⟨w.heap.size, 0, none⟩) hbxl).trans h1.1.1, (h2.cell (p := ⟨bp, op + i, none⟩) hbp).trans h1.1.2⟩, h1.2.trans h2⟩
   have HP1 : Hid (∀ x : World, ((x.cell? ⟨w.heap.size, 0, none⟩ = some (.slice da dn dc) ∧ x.cell? ⟨bp, op + i, none⟩ = some (.int .i64 q)) ∧ Below wr.heap.size wr x) → Calls Tryz.prog 72 #[.agg #[.slice da dn dc], .int .i64 q] x fun e w' => ∃ a n c, e = .returned (.slice a n c) ∧ IOwn w' x.heap.size (.slice a n c) (partsR' E q) ∧ Below x.heap.size x w') := fun x hx => rparts_load HL.out q (H57.out q).1 (MIn.up (Nat.le_trans HJ.out.2.1.size hx.2.size) (HIN.out.below (HJ.out.2.1.trans (hx.2.mono HJ.out.2.1.size)) (Nat.le_refl _)))
   clear hcell xr hnk hiz hcj HR
   go_upto_region 5 with fail
   go_cut [9] from 13 to 27 (fun v wx => ∃ a3 n3 c3, v = .slice a3 n3 c3 ∧ Aside (Ints wx.heap.size wx (.slice a3 n3 c3) (partsR' E q) ∧ Below wr.heap.size wr wx))
   case first =>
    go_region_held (fun x => (x.cell? ⟨w.heap.size, 0, none⟩ = some (.slice da dn dc) ∧ x.cell? ⟨bp, op + i, none⟩ = some (.int .i64 q)) ∧ Below wr.heap.size wr x) (first | exact s0 | assumption | exact HKK.out _ _ (by assumption) (below_call (by assumption) (by assumption))) ((go_at_call 72; refine (HP1.out _ (by assumption)).mono ?_; rintro e w3 ⟨a3, n3, c3, rfl, ho3, hb3⟩))
    all_goals go_wp2_with fail
    all_goals go_meet
    case rel => exact ⟨a3, n3, c3, rfl, ho3.ints, And.right (by assumption)⟩
   case rest =>
    obtain ⟨a3, n3, c3, rfl, HI3⟩ := hcut
    have HOW : Aside (IOwn wc w.heap.size (.slice aa ak ac) acc) := own_after HJ.out.2.2 HI3.out.2
    have HBX : Aside (Blk wc w.heap.size 31 #[.slice da dn dc] ∧ Below w.heap.size w wc) := ⟨HJ.out.1.below HI3.out.2 HJ.out.1.lt, HJ.out.2.1.trans (HI3.out.2.mono HJ.out.2.1.size)⟩
    have hlen : acc.length + (partsR' E q).length ≤ 1099511627776 := by
     have := congrArg List.length HR2.out
     rw [List.length_append, List.length_append] at this
     omega
    have hsz := HBX.out.2.size
    clear s0 HKK HP1 HJ
    go_wp2_with (first | (at_builtin; refine wpList_append_any rfl _ _ rfl w.heap.size _ acc rfl HOW.out (partsR' E q) wc.heap.size _ rfl HI3.out.1 hlen hsz ?_; intro a4 c4 w4 hown4 hbel4 hgr4 hat4))
    have HJ4 : Aside (Blk w4 w.heap.size 31 #[.slice da dn dc] ∧ Below w.heap.size w w4 ∧ IOwn w4 w.heap.size (.slice a4 (acc.length + (partsR' E q).length) c4) (acc ++ partsR' E q)) := ⟨blk_grown HBX.out.1 HOW.out (by decide) hgr4, HBX.out.2.trans hbel4, hown4⟩
    clear hown4 hbel4 hgr4 hat4 HOW HBX HI3
    go_roundg (kz - (i + 1))
    case measure => omega
    case rel => exact ⟨i + 1, a4, _, c4, acc ++ partsR' E q, by first | rfl | go_num, rfl, by omega, Nat.le_refl _, HJ4, HR2⟩
  ·
   have hilz : ¬ (i : Int) < (kz : Int) := by omega
   have hacc : acc = pts := by
    have := HR.out
    rw [List.drop_of_length_le (by rw [← HKZ.out]; omega)] at this
    simpa [flatR] using this
   subst hacc
   have hak : ak = acc.length := by obtain ⟨_, _, e⟩ := HJ.out.2.2.val; exact (Value.slice.inj e).2.1
   have HAK : Hid (ak = acc.length) := hak
   have hakl : ak ≤ 120000000 := by omega
   have HC0 : Aside (∀ p, 0 ≤ classAt L p) := fun p => (load_cls HL.out p).1
   have HO0 : Aside (O3 w (.slice da dn dc) (.slice aa ak ac) (.slice none 0 0) (.slice none 0 0) acc [] [] wr) := ⟨HJ.out.1, HJ.out.2.1, HJ.out.2.2, IOwn.nil _ _, IOwn.nil _ _, fun g hg => by simp [Value.ownBlock] at hg, fun g hg => by simp [Value.ownBlock] at hg, fun g hg => by simp [Value.ownBlock] at hg⟩
   have HF0 : Hid (FormB (classAt L) acc [] [] 0) := FormB.start
   clear HJ HR hak hik hg1
   go_wp2_with fail
   go_loopg [6, 7, 10] ak (fun g2 vo vr vi wr => ∃ (i : Nat) (oa : Option Addr) (ok oc : Nat) (ra : Option Addr) (rk rc : Nat) (out row : List Int), vi = .int .i64 i ∧ vo = .slice oa ok oc ∧ vr = .slice ra rk rc ∧ i ≤ ak ∧ ak - i ≤ g2 ∧ Aside (O3 w (.slice da dn dc) (.slice aa ak ac) (.slice oa ok oc) (.slice ra rk rc) acc out row wr) ∧ Hid (FormB (classAt L) acc out row i))
   case atStart => exact ⟨0, none, 0, 0, none, 0, 0, [], [], rfl, rfl, rfl, Nat.zero_le _, by omega, HO0, HF0⟩
   case round =>
    clear HO0 HF0
    obtain ⟨i, oa, ok, oc, ra, rk, rc, out, row, rfl, rfl, rfl, hia, hg2, HO, HF⟩ := hrel
    have hrk : rk = row.length := by obtain ⟨_, _, e⟩ := HO.out.row.val; exact (Value.slice.inj e).2.1
    have hok : ok = out.length := by obtain ⟨_, _, e⟩ := HO.out.out.val; exact (Value.slice.inj e).2.1
    have HRK : Hid (rk = row.length ∧ ok = out.length) := ⟨hrk, hok⟩
    have hsum := HF.out.len
    have hb1 : row.length ≤ 120000000 := by omega
    have hb2 : out.length ≤ 120000000 := by omega
    have xr : wr.cell? ⟨w.heap.size, 0, none⟩ = some (.slice da dn dc) := HO.out.box.cell 0
    clear hrk hok hsum
    by_cases hil2 : i < ak
    ·
     have hil2z : (i : Int) < (ak : Int) := by omega
     have hia2 : i < acc.length := by rw [← HAK.out]; exact hil2
     obtain ⟨ga, ea, hga, hcj⟩ : ∃ ga, aa = some ⟨ga, 0, none⟩ ∧ ga < wr.heap.size ∧ wr.cell? ⟨ga, i, none⟩ = some (.int .i64 acc[i]) := by
      rcases HO.out.all.form with ⟨_, e⟩ | ⟨g, cap, e, _, hlt, _, hc, _⟩
      ·
       rw [e] at hia2; simp at hia2
      ·
       refine ⟨g, (Value.slice.inj e).1, hlt, ?_⟩
       rw [hc i hia2]
       simp [List.getElem?_eq_getElem hia2]
     have HMORE : Hid (classAt L acc[i] ≠ 0 → FormB (classAt L) acc out (row ++ [acc[i]]) (i + 1)) := fun h0 => HF.out.more hia2 h0
     have HSTA : Hid (classAt L acc[i] = 0 → ∀ X, SortedK (classAt L) X → AlikeK (classAt L) row X → X.length = row.length → FormB (classAt L) acc (out ++ X ++ [acc[i]]) [] (i + 1)) := fun h0 X h1 h2 h3 => HF.out.starter HC0.out hia2 h0 h1 h2 h3
     have HQ : Hid (acc[i]? = some acc[i]) := List.getElem?_eq_getElem hia2
     generalize acc[i] = q at hcj HMORE HSTA HQ
     subst ea
     have hbxl := HO.out.box.lt
     have s0 : (wr.drew.cell? ⟨w.heap.size, 0, none⟩ = some (.slice da dn dc) ∧ wr.drew.cell? ⟨ga, i, none⟩ = some (.int .i64 q)) ∧ Below wr.heap.size wr wr.drew := ⟨⟨xr, hcj⟩, (Below.refl _ _).drew⟩
     have HKK : Hid (∀ x y : World, ((x.cell? ⟨w.heap.size, 0, none⟩ = some (.slice da dn dc) ∧ x.cell? ⟨ga, i, none⟩ = some (.int .i64 q)) ∧ Below wr.heap.size wr x) → Below wr.heap.size x y → ((y.cell? ⟨w.heap.size, 0, none⟩ = some (.slice da dn dc) ∧ y.cell? ⟨ga, i, none⟩ = some (.int .i64 q)) ∧ Below wr.heap.size wr y)) := fun x y h1 h2 =>
      ⟨⟨(h2.cell (p := ⟨w.heap.size, 0, none⟩) hbxl).trans h1.1.1, (h2.cell (p := ⟨ga, i, none⟩) hga).trans h1.1.2⟩, h1.2.trans h2⟩
     have HP1 : Hid (∀ x : World, ((x.cell? ⟨w.heap.size, 0, none⟩ = some (.slice da dn dc) ∧ x.cell? ⟨ga, i, none⟩ = some (.int .i64 q)) ∧ Below wr.heap.size wr x) → Calls Tryz.prog 73 #[.agg #[.slice da dn dc], .int .i64 q] x fun e w' => e = .returned (.int .i64 (classAt L q)) ∧ Below x.heap.size x w') := fun x hx => rclass_load HL.out q (MIn.up (Nat.le_trans HO.out.below.size hx.2.size) (HIN.out.below (HO.out.below.trans (hx.2.mono HO.out.below.size)) (Nat.le_refl _)))
     have hk0 := HC0.out q
     generalize classAt L q = kq at HP1 HMORE HSTA hk0
     clear xr hia2
     go_upto_region 10 with fail
     go_cut [40] from 28 to 60 (fun v wx => v = .bool (decide ((0 : Int) < kq)) ∧ Aside (Below wr.heap.size wr wx))
     case first =>
      go_region_held (fun x => (x.cell? ⟨w.heap.size, 0, none⟩ = some (.slice da dn dc) ∧ x.cell? ⟨ga, i, none⟩ = some (.int .i64 q)) ∧ Below wr.heap.size wr x) (first | exact s0 | assumption | exact HKK.out _ _ (by assumption) (below_call (by assumption) (by assumption))) ((go_at_call 73; refine (HP1.out _ (by assumption)).mono ?_; rintro e w3 ⟨rfl, hb3⟩))
      all_goals go_wp2_with fail
      all_goals go_meet
      case rel => exact ⟨rfl, And.right (by assumption)⟩
     case rest =>
      obtain ⟨rfl, HBW⟩ := hcut
      have HO2 : Aside (O3 w (.slice da dn dc) (.slice (some ⟨ga, 0, none⟩) ak ac) (.slice oa ok oc) (.slice ra rk rc) acc out row wc) := HO.out.go HBW.out
      have hcj2 : wc.cell? ⟨ga, i, none⟩ = some (.int .i64 q) := (HBW.out.cell (p := ⟨ga, i, none⟩) hga).trans hcj
      have hgac : ga < wc.heap.size := Nat.lt_of_lt_of_le hga HBW.out.size
      clear s0 HKK HP1 HO hcj
      by_cases hkq : 0 < kq
      ·
       have HF2 : Hid (FormB (classAt L) acc out (row ++ [q]) (i + 1)) := HMORE.out (by omega)
       have hbA := (Below.refl wc.heap.size wc).alloc (Nat.le_refl _) (.cells #[.int .i64 q] 3)
       have hnA := Blk.new wc 3 #[.int .i64 q]
       have hcA : ∀ u, u < [q].length → (wc.alloc (.cells #[.int .i64 q] 3)).cell? ((⟨wc.heap.size, 0, none⟩ : Addr).add u) = some (.int .i64 ([q][u]?.getD 0)) := fun u hu => by
        obtain rfl : u = 0 := by simpa using hu
        rw [Go.WideShapes.add_plain]
        exact hnA.cell 0
       have HO3 : Aside (O3 w (.slice da dn dc) (.slice (some ⟨ga, 0, none⟩) ak ac) (.slice oa ok oc) (.slice ra rk rc) acc out row (wc.alloc (.cells #[.int .i64 q] 3))) := HO2.out.go hbA
       have HCA : Aside _ := hcA
       have hpl2 : row.length + [q].length ≤ 1099511627776 := by simp; omega
       have hbzA := HO3.out.below.size
       clear hbA hnA hcA HO2 HMORE HSTA HF
       go_wp2_with (first | (at_builtin; refine wpList_append_ints rfl _ _ rfl w.heap.size _ row rfl HO3.out.row [q] ⟨wc.heap.size, 0, none⟩ _ rfl HCA.out hpl2 hbzA ?_; intro a8 c8 w8 hown8 hgr8 hnil8 hat8))
       have HO4 : Aside (O3 w (.slice da dn dc) (.slice (some ⟨ga, 0, none⟩) ak ac) (.slice oa ok oc) (.slice a8 (row.length + [q].length) c8) acc out (row ++ [q]) w8) := HO3.out.goRow hgr8 hown8 hat8
       clear hown8 hgr8 hnil8 hat8 HO3 HCA
       go_roundg (ak - (i + 1))
       case measure => omega
       case rel => exact ⟨i + 1, oa, ok, oc, a8, _, c8, out, row ++ [q], by first | rfl | go_num, rfl, by first | rfl | simp, by omega, Nat.le_refl _, HO4, HF2⟩
      ·
       have hkq' : ¬ (0 : Int) < kq := hkq
       have HST : Hid (∀ X, SortedK (classAt L) X → AlikeK (classAt L) row X → X.length = row.length → FormB (classAt L) acc (out ++ X ++ [q]) [] (i + 1)) := HSTA.out (by omega)
       have xr2 : wc.cell? ⟨w.heap.size, 0, none⟩ = some (.slice da dn dc) := HO2.out.box.cell 0
       have hso := rsorted_load HL.out ra rk rc row wc (da := da) (dn := dn) (dc := dc) (MIn.up HO2.out.below.size (HIN.out.below HO2.out.below (Nat.le_refl _))) HO2.out.row.ints HRK.out.1 HF.out.non (by rw [HRK.out.1]; omega)
       clear HMORE HSTA HF
       go_wp2_with fail
       refine hso.mono ?_
       rintro e w5 ⟨a5, n5, c5, X, rfl, ho5, hs5, ha5, hl5, hb5⟩
       have HF2 : Hid (FormB (classAt L) acc (out ++ X ++ [q]) [] (i + 1)) := HST.out X hs5 ha5 hl5
       have HO5 : Aside (O3 w (.slice da dn dc) (.slice (some ⟨ga, 0, none⟩) ak ac) (.slice oa ok oc) (.slice ra rk rc) acc out row w5) := HO2.out.go hb5
       have HI5 : Aside (Ints w5.heap.size w5 (.slice a5 n5 c5) X) := ho5.ints
       have hcj5 : w5.cell? ⟨ga, i, none⟩ = some (.int .i64 q) := (hb5.cell (p := ⟨ga, i, none⟩) hgac).trans hcj2
       have hga5 : ga < w5.heap.size := Nat.lt_of_lt_of_le hgac hb5.size
       have hlx : out.length + X.length ≤ 1099511627776 := by omega
       have hX9 : X.length ≤ 120000000 := by omega
       have hsz5 := HO5.out.below.size
       clear hso ho5 hs5 ha5 hb5 HST HO2 xr2 hcj2 hl5
       go_upto_region 14 with (first | (at_builtin; refine wpList_append_any rfl _ _ rfl w.heap.size _ out rfl HO5.out.out X w5.heap.size _ rfl HI5.out hlx hsz5 ?_; intro a6 c6 w6 hown6 hbel6 hgr6 hat6))
       have hO6 := HO5.out.goOut hgr6 hown6 hat6
       have hcj6 : w6.cell? ⟨ga, i, none⟩ = some (.int .i64 q) := by
        rcases hO6.all.form with ⟨e, _⟩ | ⟨g, cap, e, _, _, _, hc, _⟩
        ·
         cases e
        ·
         obtain ⟨e1, _, _⟩ := Value.slice.inj e
         cases e1
         have := hc i (by rw [← HAK.out]; exact hil2)
         rw [HQ.out] at this
         exact this
       have hbA := (Below.refl w6.heap.size w6).alloc (Nat.le_refl _) (.cells #[.int .i64 q] 3)
       have hnA := Blk.new w6 3 #[.int .i64 q]
       have hcA : ∀ u, u < [q].length → (w6.alloc (.cells #[.int .i64 q] 3)).cell? ((⟨w6.heap.size, 0, none⟩ : Addr).add u) = some (.int .i64 ([q][u]?.getD 0)) := fun u hu => by
        obtain rfl : u = 0 := by simpa using hu
        rw [Go.WideShapes.add_plain]
        exact hnA.cell 0
       have HO7 : Aside (O3 w (.slice da dn dc) (.slice (some ⟨ga, 0, none⟩) ak ac) (.slice a6 (out.length + X.length) c6) (.slice ra rk rc) acc (out ++ X) row (w6.alloc (.cells #[.int .i64 q] 3))) := hO6.go hbA
       have HCA : Aside _ := hcA
       have hpl2 : (out ++ X).length + [q].length ≤ 1099511627776 := by rw [List.length_append]; simp; omega
       have hbzA := HO7.out.below.size
       have hol : (out ++ X).length = out.length + X.length := List.length_append
       have HOL : Hid ((out ++ X).length = out.length + X.length) := hol
       clear hbA hnA hcA hO6 HO5 HI5 hown6 hbel6 hgr6 hat6 hol hcj5
       go_wp2_with (first | (at_builtin; refine wpList_append_ints rfl _ _ rfl w.heap.size _ (out ++ X) rfl HO7.out.out [q] ⟨w6.heap.size, 0, none⟩ _ rfl HCA.out hpl2 hbzA ?_; intro a8 c8 w8 hown8 hgr8 hnil8 hat8))
       have HO8 : Aside (O3 w (.slice da dn dc) (.slice (some ⟨ga, 0, none⟩) ak ac) (.slice a8 ((out ++ X).length + [q].length) c8) (.slice none 0 0) acc (out ++ X ++ [q]) [] w8) := (HO7.out.goOut hgr8 hown8 hat8).row0
       clear hown8 hgr8 hnil8 hat8 HO7 HCA
       go_roundg (ak - (i + 1))
       case measure => omega
       case rel => exact ⟨i + 1, a8, _, c8, none, 0, 0, out ++ X ++ [q], [], by first | rfl | go_num, by first | rfl | simp, rfl, by omega, Nat.le_refl _, HO8, HF2⟩
    ·
     have hil2z : ¬ (i : Int) < (ak : Int) := by omega
     have hso := rsorted_load HL.out ra rk rc row wr (da := da) (dn := dn) (dc := dc) (MIn.up HO.out.below.size (HIN.out.below HO.out.below (Nat.le_refl _))) HO.out.row.ints HRK.out.1 HF.out.non (by rw [HRK.out.1]; omega)
     go_wp2_with fail
     refine hso.mono ?_
     rintro e w5 ⟨a5, n5, c5, X, rfl, ho5, hs5, ha5, hl5, hb5⟩
     have HFIN : Hid (FormOf (classAt L) (flatR E zs) (out ++ X)) := by
      have := HF.out.done HC0.out (by rw [← HAK.out]; omega) hs5 ha5
      rw [HPT.out] at this
      exact this
     have HO5 : Aside (O3 w (.slice da dn dc) (.slice aa ak ac) (.slice oa ok oc) (.slice ra rk rc) acc out row w5) := HO.out.go hb5
     have HI5 : Aside (Ints w5.heap.size w5 (.slice a5 n5 c5) X) := ho5.ints
     have hlx : out.length + X.length ≤ 1099511627776 := by omega
     have hsz5 := HO5.out.below.size
     clear hso ho5 hs5 ha5 hb5 HO HF hl5
     go_wp2_with (first | (at_builtin; refine wpList_append_any rfl _ _ rfl w.heap.size _ out rfl HO5.out.out X w5.heap.size _ rfl HI5.out hlx hsz5 ?_; intro a6 c6 w6 hown6 hbel6 hgr6 hat6))
     go_ret
     exact ⟨a6, _, c6, out ++ X, rfl, hown6, HFIN.out, HO5.out.below.trans hbel6⟩
theorem numB_pointS (u : Nat) : numB hexV 16 (pointS u) 0 = some u := by
  rw [pointS_pad, numB_pad, Nat.mod_eq_of_lt (Nat.lt_of_lt_of_le (upHex_lt u _ (Nat.le_refl _)) (Nat.pow_le_pow_right (by omega) (by omega)))]
  simp
theorem pointS_span {n : Nat} (hn : n < 16 ^ 6) : 4 ≤ (pointS n).length ∧ (pointS n).length ≤ 6 := by
  have h := upHex_len n 6 hn (by omega)
  rw [pointS_pad, padHex_len]
  omega
def NumOg (l : List UInt8) (x : Int) (b : Bool) : Prop := (b = true ∧ ∃ n : Nat, x = (n : Int) ∧ n < 16 ^ 6 ∧ l = pointS n) ∨ (b = false ∧ ∀ n : Nat, n < 16 ^ 6 → l ≠ pointS n)
theorem NumOg.bad {l : List UInt8} (h : ¬ (4 ≤ l.length ∧ l.length ≤ 6) ∨ numB hexV 16 l 0 = none) : NumOg l 0 false := by
  refine .inr ⟨rfl, fun n hn e => ?_⟩
  rcases h with h | h
  · rw [e] at h; exact h (pointS_span hn)
  · rw [e, numB_pointS] at h; cases h
theorem NumOg.done {l : List UInt8} {n : Nat} (h : numB hexV 16 l 0 = some n) (hn : n < 16 ^ 6) : NumOg l (n : Int) (decide (pointS n = l)) := by
  by_cases e : pointS n = l
  · exact .inl ⟨by simp [e], n, rfl, hn, e.symm⟩
  · refine .inr ⟨by simp [e], fun m _ hm => ?_⟩
    rw [hm, numB_pointS] at h
    have : m = n := by simpa using h
    subst this
    exact e hm.symm
def NumPog (l : List UInt8) (w : World) (e : Ending) (w' : World) : Prop := ∃ x b, e = .returned (.tuple #[.int .i64 x, .bool b]) ∧ NumOg l x b ∧ w = w'
set_option maxHeartbeats 2000000 in
set_option maxRecDepth 20000 in
theorem number_any2 (s : ByteArray) (hs : s.size ≤ 17179869184) (w : World) : Calls Tryz.prog 65 #[.string s] w fun e w' => NumPog s.data.toList w e w' := by
  have HSL : Hid (s.data.toList.length = s.size) := (Lib.size_eq s).symm
  by_cases h4 : s.size < 4
  · have HB : Hid (NumOg s.data.toList 0 false) := NumOg.bad (.inl (by rw [HSL.out]; omega))
    go_enter Tryz.func65, Tryz.ntmps65
    go_wp2_with fail
    refine bodyPost_ret (results71_runr rfl rfl) rfl ?_
    exact ⟨0, false, rfl, HB.out, rfl⟩
  · by_cases h6 : 6 < s.size
    · have HB : Hid (NumOg s.data.toList 0 false) := NumOg.bad (.inl (by rw [HSL.out]; omega))
      go_enter Tryz.func65, Tryz.ntmps65
      go_wp2_with fail
      refine bodyPost_ret (results71_runr rfl rfl) rfl ?_
      exact ⟨0, false, rfl, HB.out, rfl⟩
    · go_enter Tryz.func65, Tryz.ntmps65
      go_wp2_with fail
      go_loopw [4, 5, 6] (fun x i _ wr => ∃ (k m : Nat), k ≤ s.size ∧ i = .int .i64 k ∧ x = .int .i64 (m : Int) ∧ m < 16777216 ∧ Hid (m < 16 ^ k ∧ numB hexV 16 (s.data.toList.drop k) m = numB hexV 16 s.data.toList 0) ∧ wr = w) (fun _ i _ _ => s.size - (intOf i).toNat)
      case atStart => exact ⟨0, 0, by omega, rfl, rfl, by omega, ⟨by simp, by simp⟩, rfl⟩
      case round =>
        obtain ⟨k, m, hk, rfl, rfl, hm, HM, rfl⟩ := hrel
        by_cases hlt : k < s.size
        · have hstep := numB_at s k hlt m
          have hm6 : m * 16 + 15 < 16777216 := by
            have h1 := HM.out.1
            have h2 : 16 ^ k ≤ 16 ^ 5 := Nat.pow_le_pow_right (by omega) (by omega)
            omega
          have h256 : (s[k]).toNat < 256 := (s[k]).toNat_lt
          have HN : Hid (∀ d, hexV s[k] = some d → numB hexV 16 (s.data.toList.drop (k + 1)) (m * 16 + d) = numB hexV 16 s.data.toList 0) := fun d hd => by
            rw [← HM.out.2, hstep, hd]
          have HF : Hid (hexV s[k] = none → numB hexV 16 s.data.toList 0 = none) := fun hd => by
            rw [← HM.out.2, hstep, hd]
          have HP : Hid (∀ d, d < 16 → m * 16 + d < 16 ^ (k + 1)) := fun d hd => by
            have h1 := HM.out.1
            rw [Nat.pow_succ]; omega
          have hx : hexV s[k] = if 65 ≤ (s[k]).toNat ∧ (s[k]).toNat ≤ 70 then some ((s[k]).toNat - 55) else if 48 ≤ (s[k]).toNat ∧ (s[k]).toNat ≤ 57 then some ((s[k]).toNat - 48) else none := rfl
          have HX : Hid (hexV s[k] = if 65 ≤ (s[k]).toNat ∧ (s[k]).toNat ≤ 70 then some ((s[k]).toNat - 55) else if 48 ≤ (s[k]).toNat ∧ (s[k]).toNat ≤ 57 then some ((s[k]).toNat - 48) else none) := hx
          clear hstep hx HM
          by_cases hA : 65 ≤ (s[k]).toNat ∧ (s[k]).toNat ≤ 70
          · obtain ⟨hA1, hA2⟩ := hA
            go_wp2_with fail
            exact ⟨⟨k + 1, m * 16 + ((s[k]).toNat - 55), by omega, by go_num, congrArg (Value.int .i64) (by omega), by omega, ⟨HP.out _ (by omega), HN.out _ (by rw [HX.out, if_pos ⟨hA1, hA2⟩])⟩, trivial⟩, by simp only [intOf]; omega⟩
          · by_cases hB : 48 ≤ (s[k]).toNat ∧ (s[k]).toNat ≤ 57
            · obtain ⟨hB1, hB2⟩ := hB
              have HXB : Hid (hexV s[k] = some ((s[k]).toNat - 48)) := by show _ = _; rw [HX.out, if_neg hA, if_pos ⟨hB1, hB2⟩]
              have hA' : ¬ 65 ≤ (s[k]).toNat := by omega
              clear hA
              go_wp2_with fail
              exact ⟨⟨k + 1, m * 16 + ((s[k]).toNat - 48), by omega, by go_num, congrArg (Value.int .i64) (by omega), by omega, ⟨HP.out _ (by omega), HN.out _ HXB.out⟩, trivial⟩, by simp only [intOf]; omega⟩
            · have HB : Hid (NumOg s.data.toList 0 false) := NumOg.bad (.inr (HF.out (by rw [HX.out, if_neg hA, if_neg hB])))
              clear HX HN HF HP
              by_cases h1 : (s[k]).toNat < 48
              · clear hA hB
                go_wp2_with fail
                refine bodyPost_ret (results71_runr rfl rfl) rfl ?_
                exact ⟨0, false, rfl, HB.out, rfl⟩
              · by_cases h2 : 70 < (s[k]).toNat
                · clear hA hB
                  go_wp2_with fail
                  refine bodyPost_ret (results71_runr rfl rfl) rfl ?_
                  exact ⟨0, false, rfl, HB.out, rfl⟩
                · have h3 : 57 < (s[k]).toNat ∧ (s[k]).toNat < 65 := by omega
                  obtain ⟨h3a, h3b⟩ := h3
                  clear hA hB
                  by_cases h4' : 64 ≤ (s[k]).toNat
                  · skip
                    go_wp2_with fail
                    refine bodyPost_ret (results71_runr rfl rfl) rfl ?_
                    exact ⟨0, false, rfl, HB.out, rfl⟩
                  · have h5 : (s[k]).toNat ≤ 63 := by omega
                    go_wp2_with fail
                    refine bodyPost_ret (results71_runr rfl rfl) rfl ?_
                    exact ⟨0, false, rfl, HB.out, rfl⟩
        · obtain rfl : k = s.size := by omega
          have HNB : Hid (numB hexV 16 s.data.toList 0 = some m) := by
            show _ = _
            rw [← HM.out.2, drop_end s s.size (Nat.le_refl _)]
            rfl
          have hdm := digits_any m (by omega) wr
          have HD : Hid (NumOg s.data.toList (m : Int) (decide (pointS m = s.data.toList))) := NumOg.done HNB.out (by omega)
          go_wp2_with fail
          refine hdm.mono ?_
          rintro e w1 ⟨rfl, rfl⟩
          go_wp2_with fail
          refine bodyPost_ret (results71_runr rfl rfl) rfl ?_
          have e1 : (pointS m == s.toList) = decide (pointS m = s.data.toList) := by rw [ByteArray.toList_eq]; exact Bool.eq_iff_iff.2 (by simp)
          exact ⟨m, decide (pointS m = s.data.toList), by rw [← e1]; rfl, HD.out, rfl⟩
end Go.Proofs.YtkcnjnccdafbfaaGreatDoor
