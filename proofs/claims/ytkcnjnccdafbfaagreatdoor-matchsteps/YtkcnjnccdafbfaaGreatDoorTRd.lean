/- What strings.Split, strings.Cut and table's readElement do (contracts; nothing is claimed here). -/
import Derived.Test.YtkcnjnccdafbfaaGreatDoorJ3
import Derived.Test.YtkcnjnccdafbfaaGreatDoorJ23
namespace Go.Proofs.YtkcnjnccdafbfaaGreatDoor
open Go.RowKit Go.Vf Go.Maps
theorem cut_cut1 (c : UInt8) (l : List UInt8) : (Lib.cut l [c]).1 = (cut1 c l).1 ∧ (Lib.cut l [c]).2.1 = (cut1 c l).2 := by
 have hge := Lib.index_ge l [c]
 by_cases hm : Lib.index l [c] = -1
 ·
  unfold Lib.cut
  rw [if_neg (by omega), cut1_plain c l (index_none c l hm)]
  exact ⟨rfl, rfl⟩
 ·
  obtain ⟨i, hi⟩ : ∃ i : Nat, Lib.index l [c] = i := ⟨(Lib.index l [c]).toNat, by omega⟩
  obtain ⟨h1, h2, h3⟩ := index_some c l i hi
  unfold Lib.cut
  rw [if_pos (by omega), hi]
  have e : cut1 c l = (l.take i, l.drop (i + 1)) := by
   conv => lhs; rw [h3]
   exact cut1_split c _ _ h2
  rw [e]
  simp
theorem below_drewN6 (w : World) (n : Nat) : Below w.heap.size w (w.drewN n) := ⟨rfl, rfl, rfl, Nat.le_refl _, fun _ _ => rfl⟩
theorem cut_any (s : ByteArray) (m : Int) (w : World) (hs : s.size ≤ 65536) (hm : w.cell? ⟨0, 0, none⟩ = some (.int .i64 m)) :
  Calls Tryz.prog 115 #[.string s, .string ⟨#[59]⟩] w fun e w' => ∃ b, e = .returned (.tuple #[.string (bsz (cut1 59 s.data.toList).1), .string (bsz (cut1 59 s.data.toList).2), .bool b]) ∧ Below w.heap.size w w' := by
 refine (Tryz.strings_Cut s ⟨#[59]⟩ m w (by omega) hm).mono ?_
 rintro e w' ⟨rfl, n, rfl⟩
 have h := cut_cut1 59 s.data.toList
 rw [show (⟨#[59]⟩ : ByteArray).data.toList = [59] from rfl]
 refine ⟨_, by rw [h.1, h.2], ?_⟩
 exact below_drewN6 _ n
def fieldsL : List (List UInt8) → Option (List Int)
 | [] => some []
 | s :: r => match fieldR s with
  | none => none
  | some x => match fieldsL r with
   | none => none
   | some l => some (x :: l)
def el3 (va : Bool) : Option (List Int) → Option El
 | some [x, y, z] => some ⟨va, x, y, z⟩
 | _ => none
theorem fieldsR_L (va : Bool) (C : List (List UInt8)) (h : C.length = 3) : fieldsR va C = el3 va (fieldsL C) := by
 match C, h with
 | [a, b, c], _ =>
  unfold fieldsR
  simp only [fieldsL]
  cases fieldR a with
  | none => rfl
  | some x => cases fieldR b with
   | none => rfl
   | some y => cases fieldR c with
    | none => rfl
    | some z => rfl
theorem fieldsR_no (va : Bool) (C : List (List UInt8)) (h : C.length ≠ 3) : fieldsR va C = none := by
 unfold fieldsR
 split
 ·
  simp at h
 ·
  rfl
def gotE : Option El → Value
 | some e => .tuple #[elA e, .bool true]
 | none => .tuple #[elA ⟨false, 0, 0, 0⟩, .bool false]
theorem Blk.c4 {w : World} {b : Nat} {t : TypeId} {a0 a1 a2 a3 : Value} (h : Blk w b t #[a0, a1, a2, a3]) : (w.cell? ⟨b, 0, none⟩ = some a0 ∧ w.cell? ⟨b, 1, none⟩ = some a1 ∧ w.cell? ⟨b, 2, none⟩ = some a2 ∧ w.cell? ⟨b, 3, none⟩ = some a3) ∧ w.frozen? ⟨b, 0, none⟩ = false ∧ w.frozen? ⟨b, 1, none⟩ = false ∧ w.frozen? ⟨b, 2, none⟩ = false ∧ w.frozen? ⟨b, 3, none⟩ = false :=
 ⟨⟨h.cell 0, h.cell 1, h.cell 2, h.cell 3⟩, h.frozen 0, h.frozen 1, h.frozen 2, h.frozen 3⟩
theorem arr4 (x0 x1 x2 x3 a0 a1 a2 a3 : Value) : (((((#[x0, x1, x2, x3] : Array Value).setIfInBounds 0 a0).setIfInBounds 1 a1).setIfInBounds 2 a2).setIfInBounds 3 a3) = #[a0, a1, a2, a3] := by
 simp only [List.setIfInBounds_toArray, List.set]
theorem Blk.set4 {w : World} {b : Nat} {t : TypeId} {x0 x1 x2 x3 : Value} (h : Blk w b t #[x0, x1, x2, x3]) (a0 a1 a2 a3 : Value) :
  Blk ((((w.setCell ⟨b, 0, none⟩ a0).setCell ⟨b, 1, none⟩ a1).setCell ⟨b, 2, none⟩ a2).setCell ⟨b, 3, none⟩ a3) b t #[a0, a1, a2, a3] := by
 have := (((h.set 0 a0).set 1 a1).set 2 a2).set 3 a3
 rw [arr4] at this
 exact this
theorem below_set4 {B b : Nat} {w W : World} (h : Below B w W) (hB : B ≤ b) (a0 a1 a2 a3 : Value) : Below B w ((((W.setCell ⟨b, 0, none⟩ a0).setCell ⟨b, 1, none⟩ a1).setCell ⟨b, 2, none⟩ a2).setCell ⟨b, 3, none⟩ a3) :=
 (((h.setCell (p := ⟨b, 0, none⟩) hB _).setCell (p := ⟨b, 1, none⟩) hB _).setCell (p := ⟨b, 2, none⟩) hB _).setCell (p := ⟨b, 3, none⟩) hB _
theorem results86_run {tmps : Array Value} {w : World} {b : Nat} {a0 a1 a2 a3 v : Value} (h : Blk w b 54 #[a0, a1, a2, a3]) (t2 : tmps[2]?.getD undef = .pointer (some ⟨b, 0, none⟩)) (t3 : tmps[3]?.getD undef = v) :
  (results Tryz.f140 tmps).run Tryz.prog w = .ok (.tuple #[.agg #[a0, a1, a2, a3], v]) w := by
 obtain ⟨⟨c0, c1, c2, c3⟩, _⟩ := h.c4
 simp [results, Tryz.results140, go_sem, t2, t3, c0, c1, c2, c3]
theorem get_at (s : ByteArray) (k : Nat) (hk : k < s.size) : s.data.toList[k]? = some s[k] := by
 rw [List.getElem?_eq_getElem (by rw [← Lib.size_eq]; exact hk)]
 rfl
theorem extract_list (s : ByteArray) (a b : Nat) : (s.extract a b).data.toList = (s.data.toList.drop a).take (b - a) := by
 rw [ByteArray.data_extract, Array.toList_extract, List.extract_eq_take_drop]
theorem byte_neF {a b : UInt8} (h : a = b) : ((a.toNat : Int) != (b.toNat : Int)) = false := by subst h; simp
theorem byte_neT {a b : UInt8} (h : a ≠ b) : ((a.toNat : Int) != (b.toNat : Int)) = true := by
 rw [bne_iff_ne]
 intro e
 exact h (UInt8.toNat_inj.1 (by omega))
set_option maxHeartbeats 2000000 in
set_option maxRecDepth 20000 in
theorem readElement_any (s : ByteArray) (m : Int) (w : World) (hs : s.size = 17) (hm : w.cell? ⟨0, 0, none⟩ = some (.int .i64 m)) :
  Calls Tryz.prog 140 #[.string s] w fun e w' => e = .returned (gotE (elR s.data.toList)) ∧ Below w.heap.size w w' := by
 have hlt0 : 0 < w.heap.size := World.block_lt_of_cell? w _ hm
 have hB0 := Blk.new w 54 #[.bool false, .int .i64 0, .int .i64 0, .int .i64 0]
 have hbel := (Below.refl w.heap.size w).alloc (Nat.le_refl _) (.cells #[.bool false, .int .i64 0, .int .i64 0, .int .i64 0] 54)
 have g0 := get_at s 0 (by omega)
 have g1 := get_at s 1 (by omega)
 have g16 := get_at s 16 (by omega)
 have hno : ¬ (s[0]'(by omega) = 91 ∧ (s[1]'(by omega) = 46 ∨ s[1]'(by omega) = 42) ∧ s[16]'(by omega) = 93) → elR s.data.toList = none := fun h => by
  unfold elR
  rw [if_neg]
  rw [g0, g1, g16]
  simpa using h
 by_cases h0 : s[0]'(by omega) = 91
 ·
  have b0 : (((s[0]'(by omega)).toNat : Int) != 91) = false := byte_neF (b := 91) h0
  by_cases h1 : s[1]'(by omega) = 46 ∨ s[1]'(by omega) = 42
  ·
   by_cases h16 : s[16]'(by omega) = 93
   ·
    have b16 : (((s[16]'(by omega)).toNat : Int) != 93) = false := byte_neF (b := 93) h16
    rcases h1 with h1 | h1
    ·
     have b1 : (((s[1]'(by omega)).toNat : Int) != 46) = false := byte_neF (b := 46) h1
     have b2 : (((s[1]'(by omega)).toNat : Int) == 42) = false := byte_ne (b := 42) (by rw [h1]; decide)
     have hER : elR s.data.toList = fieldsR false (cutL 46 ((s.data.toList.drop 2).take 14)) := by
      unfold elR
      rw [g0, g1, g16, if_pos ⟨by rw [h0], by rw [h1]; simp, by rw [h16]⟩]
      rw [h1]; rfl
     have hel : (s.extract 2 16).data.toList = (s.data.toList.drop 2).take 14 := extract_list s 2 16
     have hes : (s.extract 2 16).size = 14 := by rw [ByteArray.size_extract, hs]; rfl
     rw [← hel] at hER
     generalize elR s.data.toList = R at hER ⊢
     have HER : Hid (R = fieldsR false (cutL 46 (s.extract 2 16).data.toList)) := hER
     clear hER hel hno g0 g1 g16 h0 h1 h16
     have hcs := cutL_sizes 46 (s.extract 2 16).data.toList
     have hcl := cutL_len_le 46 (s.extract 2 16).data.toList
     rw [← Lib.size_eq, hes] at hcs hcl
     have hsp := fun (W : World) => split_any 46 (s.extract 2 16) m W (by omega)
     generalize hC : cutL 46 (s.extract 2 16).data.toList = C at hcs hcl hsp HER
     clear hC
     have hm1 := (hbel.cell (p := ⟨0, 0, none⟩) hlt0).trans hm
     clear hes
     go_enter Tryz.func140, Tryz.ntmps140
     go_upto_region 4 with fail
     generalize hW : (w.alloc (.cells #[.bool false, .int .i64 0, .int .i64 0, .int .i64 0] 54)) = W at hB0 hbel hm1 ⊢
     have hwW : w.heap.size < W.heap.size := hB0.lt
     clear hW
     go_wp2_with fail
     refine (hsp W hm1).mono ?_
     rintro _ w1 ⟨rfl, hst, hb1, hsz1⟩
     have hbw1 : Below w.heap.size w w1 := hbel.trans (hb1.mono (by omega))
     have hB1 : Blk w1 w.heap.size 54 #[.bool false, .int .i64 0, .int .i64 0, .int .i64 0] := hB0.below hb1 hwW
     have hW1 : W.heap.size < w1.heap.size := by omega
     clear hsz1 hB0 hbel hb1
     by_cases h3 : C.length = 3
     ·
      have b3 : ((C.length : Int) != 3) = false := by rw [h3]; rfl
      have hRL : Hid (R = el3 false (fieldsL C)) := by show _ = _; rw [HER.out, fieldsR_L _ _ h3]
      have H3 : Hid (C.length = 3) := h3
      have hl3 : C.length ≤ 3 := by omega
      have hlo : (C.length : Int) ≤ 3 := by omega
      clear h3 HER hlo
      have hBw := Blk.new w1 198 #[.int .i64 0, .int .i64 0, .int .i64 0]
      have hb2 := hbw1.alloc (by omega) (.cells #[.int .i64 0, .int .i64 0, .int .i64 0] 198)
      have hB2 : Blk (w1.alloc (.cells #[.int .i64 0, .int .i64 0, .int .i64 0] 198)) w.heap.size 54 #[.bool false, .int .i64 0, .int .i64 0, .int .i64 0] := (Below.heap_alloc _ _ _ (by omega)).trans hB1
      have hst2 : Strs (w1.alloc (.cells #[.int .i64 0, .int .i64 0, .int .i64 0] 198)) W.heap.size C := (Below.heap_alloc _ _ _ (by omega)).trans hst
      go_upto_region 8 with fail
      generalize hW2 : (w1.alloc (.cells #[.int .i64 0, .int .i64 0, .int .i64 0] 198)) = W2 at hBw hb2 hB2 hst2 ⊢
      clear hW2 hst hB1 hbw1
      go_wp2_with fail
      go_loopw [44] (fun i wr => ∃ (k : Nat) (acc : List Int), k ≤ C.length ∧ i = .int .i64 k ∧ acc.length = k ∧ Blk wr w1.heap.size 198 (rc (acc ++ List.replicate (3 - k) 0)) ∧ Blk wr w.heap.size 54 #[.bool false, .int .i64 0, .int .i64 0, .int .i64 0] ∧ Strs wr W.heap.size C ∧ Hid (R = el3 false ((fieldsL (C.drop k)).map (acc ++ ·))) ∧ Below w.heap.size w wr) (fun i _ => C.length - (intOf i).toNat)
      case atStart => exact ⟨0, [], by omega, rfl, rfl, hBw, hB2, hst2, by show _ = _; rw [hRL.out]; simp, hb2⟩
      case round =>
       clear hBw hB2 hst2 hRL hb2
       obtain ⟨k, acc, hk, rfl, hal, hBw, hB2, hst, HK, hbel⟩ := hrel
       by_cases hlt : k < C.length
       ·
        have hck := hst.cell hlt
        have hkl := hcs C[k] (List.getElem_mem hlt)
        have hd : C.drop k = C[k] :: C.drop (k + 1) := List.drop_eq_getElem_cons hlt
        have hrh := fun w => readHex_any6 (bsz C[k]) w (by simp [ByteArray.size]; omega)
        rw [show (bsz C[k]).data.toList = C[k] by simp] at hrh
        have hk3 : k < 3 := by omega
        have hsk : (bsz C[k]).size = C[k].length := by simp [ByteArray.size]
        have hfr : fieldR C[k] = match hexN C[k] with
         | none => none
         | some n => if C[k].length = 4 then some (n : Int) else none := rfl
        have HK1 : Hid (R = el3 false ((fieldsL (C[k] :: C.drop (k + 1))).map (acc ++ ·))) := by show _ = _; rw [← hd]; exact HK.out
        clear hd HK hkl
        generalize bsz C[k] = t at hck hrh hsk
        generalize C[k] = c at hrh hsk hfr HK1
        have cz : ∃ u, wr.cell? ⟨w1.heap.size, k, none⟩ = some u := ⟨_, by rw [hBw.cell, rc_at _ _ (by simp; omega)]⟩
        obtain ⟨u0, cz⟩ := cz
        have fz := hBw.frozen k
        have hz4 := hB2.set4 (.bool false) (.int .i64 0) (.int .i64 0) (.int .i64 0)
        have hzb := below_set4 hbel (Nat.le_refl w.heap.size) (.bool false) (.int .i64 0) (.int .i64 0) (.int .i64 0)
        obtain ⟨⟨d0, d1, d2, d3⟩, e0, e1, e2, e3⟩ := hB2.c4
        cases hx : hexN c with
        | none =>
         rw [hx] at hrh hfr
         have hRn : Hid (R = none) := by show _ = _; rw [HK1.out, fieldsL, hfr]; rfl
         clear hfr HK1 hx hsk
         simp only [gotH] at hrh
         go_wp2_with fail
         refine (hrh _).mono ?_
         rintro _ w3 ⟨rfl, rfl⟩
         go_wp2_with fail
         refine bodyPost_ret (results86_run hz4 rfl rfl) rfl ?_
         exact ⟨by rw [hRn.out]; rfl, hzb⟩
        | some n =>
         rw [hx] at hrh hfr
         simp only [gotH] at hrh
         simp only at hfr
         by_cases h4 : t.size = 4
         ·
          rw [if_pos (by omega)] at hfr
          have HK2 : Hid (R = el3 false ((fieldsL (C.drop (k + 1))).map ((acc ++ [(n : Int)]) ++ ·))) := by
           show _ = _
           rw [HK1.out, fieldsL, hfr]
           cases fieldsL (C.drop (k + 1)) <;> simp
          have b4 : ((t.size : Int) != 4) = false := by rw [h4]; rfl
          have hset : (acc ++ List.replicate (3 - k) 0).set k (n : Int) = (acc ++ [(n : Int)]) ++ List.replicate (3 - (k + 1)) 0 := by
           rw [List.set_append_right _ _ (by omega), hal, Nat.sub_self, show 3 - k = (3 - (k + 1)) + 1 by omega, List.replicate_succ, List.set_cons_zero, List.append_assoc]
           rfl
          have hBw' := hBw.set k (.int .i64 (n : Int))
          rw [rc_set, hset] at hBw'
          have hne : w.heap.size ≠ w1.heap.size := by omega
          have hB2' := hB2.other (p := ⟨w1.heap.size, k, none⟩) hne (.int .i64 (n : Int))
          have hst' : Strs (wr.setCell ⟨w1.heap.size, k, none⟩ (.int .i64 (n : Int))) W.heap.size C := (Below.heap_setCell wr ⟨w1.heap.size, k, none⟩ _ W.heap.size (by show W.heap.size ≠ w1.heap.size; omega)).trans hst
          have hb' := hbel.setCell (p := ⟨w1.heap.size, k, none⟩) (by show w.heap.size ≤ w1.heap.size; omega) (.int .i64 (n : Int))
          clear hfr HK1 hx hsk h4 hset hz4 hzb hBw hB2 hst hbel
          go_wp2_with fail
          refine (hrh _).mono ?_
          rintro _ w3 ⟨rfl, rfl⟩
          go_wp2_with fail
          go_roundw
          case rel => exact ⟨k + 1, acc ++ [(n : Int)], by omega, by simp, by simp [hal], hBw', hB2', hst', HK2, hb'⟩
          case measure => simp only [intOf]; omega
         ·
          rw [if_neg (by omega)] at hfr
          have hRn : Hid (R = none) := by show _ = _; rw [HK1.out, fieldsL, hfr]; rfl
          have b4 : ((t.size : Int) != 4) = true := by rw [bne_iff_ne]; omega
          clear hfr HK1 hx hsk h4
          go_wp2_with fail
          refine (hrh _).mono ?_
          rintro _ w3 ⟨rfl, rfl⟩
          go_wp2_with fail
          refine bodyPost_ret (results86_run hz4 rfl rfl) rfl ?_
          exact ⟨by rw [hRn.out]; rfl, hzb⟩
       ·
        have hk3 : k = 3 := by have := H3.out; omega
        have ha3 : acc.length = 3 := by omega
        obtain ⟨x, y, z, rfl⟩ : ∃ x y z, acc = [x, y, z] := by
         match acc, ha3 with
         | [x, y, z], _ => exact ⟨x, y, z, rfl⟩
        have hBw' : Blk wr w1.heap.size 198 #[.int .i64 x, .int .i64 y, .int .i64 z] := by
         rw [hk3] at hBw
         exact hBw
        have hRs : Hid (R = some ⟨false, x, y, z⟩) := by show _ = _; rw [HK.out, List.drop_of_length_le (by omega)]; rfl
        have q0 : wr.cell? ⟨w1.heap.size, 0, none⟩ = some (.int .i64 x) := hBw'.cell 0
        have q1 : wr.cell? ⟨w1.heap.size, 1, none⟩ = some (.int .i64 y) := hBw'.cell 1
        have q2 : wr.cell? ⟨w1.heap.size, 2, none⟩ = some (.int .i64 z) := hBw'.cell 2
        have hne : w.heap.size ≠ w1.heap.size := by omega
        have hne' : ¬ w1.heap.size = w.heap.size := by omega
        have hz4 := hB2.set4 (.bool false) (.int .i64 x) (.int .i64 y) (.int .i64 z)
        have hzb := below_set4 hbel (Nat.le_refl w.heap.size) (.bool false) (.int .i64 x) (.int .i64 y) (.int .i64 z)
        obtain ⟨⟨d0, d1, d2, d3⟩, e0, e1, e2, e3⟩ := hB2.c4
        clear hBw hBw' HK hk3 ha3 hal hB2 hbel hst hcs hsp
        go_upto_region 16 with fail
        go_region
        go_wp2_with fail
        refine bodyPost_ret (results86_run (b := w.heap.size) (show Blk _ _ _ _ from hz4) rfl rfl) rfl ?_
        exact ⟨by rw [hRs.out]; rfl, hzb.drew⟩
     ·
      have b3 : ((C.length : Int) != 3) = true := by rw [bne_iff_ne]; omega
      have hRn : R = none := by rw [HER.out, fieldsR_no _ _ h3]
      have hz4 := hB1.set4 (.bool false) (.int .i64 0) (.int .i64 0) (.int .i64 0)
      have hzb := below_set4 hbw1 (Nat.le_refl w.heap.size) (.bool false) (.int .i64 0) (.int .i64 0) (.int .i64 0)
      obtain ⟨⟨d0, d1, d2, d3⟩, e0, e1, e2, e3⟩ := hB1.c4
      have hl3 : C.length ≤ 65536 := by omega
      clear h3 HER hst
      go_wp2_with fail
      refine bodyPost_ret (results86_run hz4 rfl rfl) rfl ?_
      exact ⟨by rw [hRn]; rfl, hzb⟩
    ·
     have b1 : (((s[1]'(by omega)).toNat : Int) != 46) = true := byte_neT (b := 46) (by rw [h1]; decide)
     have b3 : (((s[1]'(by omega)).toNat : Int) != 42) = false := byte_neF (b := 42) h1
     have b2 : (((s[1]'(by omega)).toNat : Int) == 42) = true := byte_eq (b := 42) h1
     have hER : elR s.data.toList = fieldsR true (cutL 46 ((s.data.toList.drop 2).take 14)) := by
      unfold elR
      rw [g0, g1, g16, if_pos ⟨by rw [h0], by rw [h1]; simp, by rw [h16]⟩]
      rw [h1]; rfl
     have hel : (s.extract 2 16).data.toList = (s.data.toList.drop 2).take 14 := extract_list s 2 16
     have hes : (s.extract 2 16).size = 14 := by rw [ByteArray.size_extract, hs]; rfl
     rw [← hel] at hER
     generalize elR s.data.toList = R at hER ⊢
     have HER : Hid (R = fieldsR true (cutL 46 (s.extract 2 16).data.toList)) := hER
     clear hER hel hno g0 g1 g16 h0 h1 h16
     have hcs := cutL_sizes 46 (s.extract 2 16).data.toList
     have hcl := cutL_len_le 46 (s.extract 2 16).data.toList
     rw [← Lib.size_eq, hes] at hcs hcl
     have hsp := fun (W : World) => split_any 46 (s.extract 2 16) m W (by omega)
     generalize hC : cutL 46 (s.extract 2 16).data.toList = C at hcs hcl hsp HER
     clear hC
     have hm1 := (hbel.cell (p := ⟨0, 0, none⟩) hlt0).trans hm
     clear hes
     go_enter Tryz.func140, Tryz.ntmps140
     go_upto_region 4 with fail
     generalize hW : (w.alloc (.cells #[.bool false, .int .i64 0, .int .i64 0, .int .i64 0] 54)) = W at hB0 hbel hm1 ⊢
     have hwW : w.heap.size < W.heap.size := hB0.lt
     clear hW
     go_wp2_with fail
     refine (hsp W hm1).mono ?_
     rintro _ w1 ⟨rfl, hst, hb1, hsz1⟩
     have hbw1 : Below w.heap.size w w1 := hbel.trans (hb1.mono (by omega))
     have hB1 : Blk w1 w.heap.size 54 #[.bool false, .int .i64 0, .int .i64 0, .int .i64 0] := hB0.below hb1 hwW
     have hW1 : W.heap.size < w1.heap.size := by omega
     clear hsz1 hB0 hbel hb1
     by_cases h3 : C.length = 3
     ·
      have b3 : ((C.length : Int) != 3) = false := by rw [h3]; rfl
      have hRL : Hid (R = el3 true (fieldsL C)) := by show _ = _; rw [HER.out, fieldsR_L _ _ h3]
      have H3 : Hid (C.length = 3) := h3
      have hl3 : C.length ≤ 3 := by omega
      have hlo : (C.length : Int) ≤ 3 := by omega
      clear h3 HER hlo
      have hBw := Blk.new w1 198 #[.int .i64 0, .int .i64 0, .int .i64 0]
      have hb2 := hbw1.alloc (by omega) (.cells #[.int .i64 0, .int .i64 0, .int .i64 0] 198)
      have hB2 : Blk (w1.alloc (.cells #[.int .i64 0, .int .i64 0, .int .i64 0] 198)) w.heap.size 54 #[.bool false, .int .i64 0, .int .i64 0, .int .i64 0] := (Below.heap_alloc _ _ _ (by omega)).trans hB1
      have hst2 : Strs (w1.alloc (.cells #[.int .i64 0, .int .i64 0, .int .i64 0] 198)) W.heap.size C := (Below.heap_alloc _ _ _ (by omega)).trans hst
      go_upto_region 8 with fail
      generalize hW2 : (w1.alloc (.cells #[.int .i64 0, .int .i64 0, .int .i64 0] 198)) = W2 at hBw hb2 hB2 hst2 ⊢
      clear hW2 hst hB1 hbw1
      go_wp2_with fail
      go_loopw [44] (fun i wr => ∃ (k : Nat) (acc : List Int), k ≤ C.length ∧ i = .int .i64 k ∧ acc.length = k ∧ Blk wr w1.heap.size 198 (rc (acc ++ List.replicate (3 - k) 0)) ∧ Blk wr w.heap.size 54 #[.bool false, .int .i64 0, .int .i64 0, .int .i64 0] ∧ Strs wr W.heap.size C ∧ Hid (R = el3 true ((fieldsL (C.drop k)).map (acc ++ ·))) ∧ Below w.heap.size w wr) (fun i _ => C.length - (intOf i).toNat)
      case atStart => exact ⟨0, [], by omega, rfl, rfl, hBw, hB2, hst2, by show _ = _; rw [hRL.out]; simp, hb2⟩
      case round =>
       clear hBw hB2 hst2 hRL hb2
       obtain ⟨k, acc, hk, rfl, hal, hBw, hB2, hst, HK, hbel⟩ := hrel
       by_cases hlt : k < C.length
       ·
        have hck := hst.cell hlt
        have hkl := hcs C[k] (List.getElem_mem hlt)
        have hd : C.drop k = C[k] :: C.drop (k + 1) := List.drop_eq_getElem_cons hlt
        have hrh := fun w => readHex_any6 (bsz C[k]) w (by simp [ByteArray.size]; omega)
        rw [show (bsz C[k]).data.toList = C[k] by simp] at hrh
        have hk3 : k < 3 := by omega
        have hsk : (bsz C[k]).size = C[k].length := by simp [ByteArray.size]
        have hfr : fieldR C[k] = match hexN C[k] with
         | none => none
         | some n => if C[k].length = 4 then some (n : Int) else none := rfl
        have HK1 : Hid (R = el3 true ((fieldsL (C[k] :: C.drop (k + 1))).map (acc ++ ·))) := by show _ = _; rw [← hd]; exact HK.out
        clear hd HK hkl
        generalize bsz C[k] = t at hck hrh hsk
        generalize C[k] = c at hrh hsk hfr HK1
        have cz : ∃ u, wr.cell? ⟨w1.heap.size, k, none⟩ = some u := ⟨_, by rw [hBw.cell, rc_at _ _ (by simp; omega)]⟩
        obtain ⟨u0, cz⟩ := cz
        have fz := hBw.frozen k
        have hz4 := hB2.set4 (.bool false) (.int .i64 0) (.int .i64 0) (.int .i64 0)
        have hzb := below_set4 hbel (Nat.le_refl w.heap.size) (.bool false) (.int .i64 0) (.int .i64 0) (.int .i64 0)
        obtain ⟨⟨d0, d1, d2, d3⟩, e0, e1, e2, e3⟩ := hB2.c4
        cases hx : hexN c with
        | none =>
         rw [hx] at hrh hfr
         have hRn : Hid (R = none) := by show _ = _; rw [HK1.out, fieldsL, hfr]; rfl
         clear hfr HK1 hx hsk
         simp only [gotH] at hrh
         go_wp2_with fail
         refine (hrh _).mono ?_
         rintro _ w3 ⟨rfl, rfl⟩
         go_wp2_with fail
         refine bodyPost_ret (results86_run hz4 rfl rfl) rfl ?_
         exact ⟨by rw [hRn.out]; rfl, hzb⟩
        | some n =>
         rw [hx] at hrh hfr
         simp only [gotH] at hrh
         simp only at hfr
         by_cases h4 : t.size = 4
         ·
          rw [if_pos (by omega)] at hfr
          have HK2 : Hid (R = el3 true ((fieldsL (C.drop (k + 1))).map ((acc ++ [(n : Int)]) ++ ·))) := by
           show _ = _
           rw [HK1.out, fieldsL, hfr]
           cases fieldsL (C.drop (k + 1)) <;> simp
          have b4 : ((t.size : Int) != 4) = false := by rw [h4]; rfl
          have hset : (acc ++ List.replicate (3 - k) 0).set k (n : Int) = (acc ++ [(n : Int)]) ++ List.replicate (3 - (k + 1)) 0 := by
           rw [List.set_append_right _ _ (by omega), hal, Nat.sub_self, show 3 - k = (3 - (k + 1)) + 1 by omega, List.replicate_succ, List.set_cons_zero, List.append_assoc]
           rfl
          have hBw' := hBw.set k (.int .i64 (n : Int))
          rw [rc_set, hset] at hBw'
          have hne : w.heap.size ≠ w1.heap.size := by omega
          have hB2' := hB2.other (p := ⟨w1.heap.size, k, none⟩) hne (.int .i64 (n : Int))
          have hst' : Strs (wr.setCell ⟨w1.heap.size, k, none⟩ (.int .i64 (n : Int))) W.heap.size C := (Below.heap_setCell wr ⟨w1.heap.size, k, none⟩ _ W.heap.size (by show W.heap.size ≠ w1.heap.size; omega)).trans hst
          have hb' := hbel.setCell (p := ⟨w1.heap.size, k, none⟩) (by show w.heap.size ≤ w1.heap.size; omega) (.int .i64 (n : Int))
          clear hfr HK1 hx hsk h4 hset hz4 hzb hBw hB2 hst hbel
          go_wp2_with fail
          refine (hrh _).mono ?_
          rintro _ w3 ⟨rfl, rfl⟩
          go_wp2_with fail
          go_roundw
          case rel => exact ⟨k + 1, acc ++ [(n : Int)], by omega, by simp, by simp [hal], hBw', hB2', hst', HK2, hb'⟩
          case measure => simp only [intOf]; omega
         ·
          rw [if_neg (by omega)] at hfr
          have hRn : Hid (R = none) := by show _ = _; rw [HK1.out, fieldsL, hfr]; rfl
          have b4 : ((t.size : Int) != 4) = true := by rw [bne_iff_ne]; omega
          clear hfr HK1 hx hsk h4
          go_wp2_with fail
          refine (hrh _).mono ?_
          rintro _ w3 ⟨rfl, rfl⟩
          go_wp2_with fail
          refine bodyPost_ret (results86_run hz4 rfl rfl) rfl ?_
          exact ⟨by rw [hRn.out]; rfl, hzb⟩
       ·
        have hk3 : k = 3 := by have := H3.out; omega
        have ha3 : acc.length = 3 := by omega
        obtain ⟨x, y, z, rfl⟩ : ∃ x y z, acc = [x, y, z] := by
         match acc, ha3 with
         | [x, y, z], _ => exact ⟨x, y, z, rfl⟩
        have hBw' : Blk wr w1.heap.size 198 #[.int .i64 x, .int .i64 y, .int .i64 z] := by
         rw [hk3] at hBw
         exact hBw
        have hRs : Hid (R = some ⟨true, x, y, z⟩) := by show _ = _; rw [HK.out, List.drop_of_length_le (by omega)]; rfl
        have q0 : wr.cell? ⟨w1.heap.size, 0, none⟩ = some (.int .i64 x) := hBw'.cell 0
        have q1 : wr.cell? ⟨w1.heap.size, 1, none⟩ = some (.int .i64 y) := hBw'.cell 1
        have q2 : wr.cell? ⟨w1.heap.size, 2, none⟩ = some (.int .i64 z) := hBw'.cell 2
        have hne : w.heap.size ≠ w1.heap.size := by omega
        have hne' : ¬ w1.heap.size = w.heap.size := by omega
        have hz4 := hB2.set4 (.bool true) (.int .i64 x) (.int .i64 y) (.int .i64 z)
        have hzb := below_set4 hbel (Nat.le_refl w.heap.size) (.bool true) (.int .i64 x) (.int .i64 y) (.int .i64 z)
        obtain ⟨⟨d0, d1, d2, d3⟩, e0, e1, e2, e3⟩ := hB2.c4
        clear hBw hBw' HK hk3 ha3 hal hB2 hbel hst hcs hsp
        go_upto_region 16 with fail
        go_region
        go_wp2_with fail
        refine bodyPost_ret (results86_run (b := w.heap.size) (show Blk _ _ _ _ from hz4) rfl rfl) rfl ?_
        exact ⟨by rw [hRs.out]; rfl, hzb.drew⟩
     ·
      have b3 : ((C.length : Int) != 3) = true := by rw [bne_iff_ne]; omega
      have hRn : R = none := by rw [HER.out, fieldsR_no _ _ h3]
      have hz4 := hB1.set4 (.bool false) (.int .i64 0) (.int .i64 0) (.int .i64 0)
      have hzb := below_set4 hbw1 (Nat.le_refl w.heap.size) (.bool false) (.int .i64 0) (.int .i64 0) (.int .i64 0)
      obtain ⟨⟨d0, d1, d2, d3⟩, e0, e1, e2, e3⟩ := hB1.c4
      have hl3 : C.length ≤ 65536 := by omega
      clear h3 HER hst
      go_wp2_with fail
      refine bodyPost_ret (results86_run hz4 rfl rfl) rfl ?_
      exact ⟨by rw [hRn]; rfl, hzb⟩
   ·
    rw [hno (fun h => h16 h.2.2)]
    have b16 : (((s[16]'(by omega)).toNat : Int) != 93) = true := byte_neT (b := 93) h16
    rcases h1 with h1 | h1
    ·
     have b1 : (((s[1]'(by omega)).toNat : Int) != 46) = false := byte_neF (b := 46) h1
     clear hno g0 g1 g16 h0 h1 h16
     go_enter Tryz.func140, Tryz.ntmps140
     go_wp2_with fail
     refine bodyPost_ret (results86_run hB0 rfl rfl) rfl ?_
     exact ⟨rfl, hbel⟩
    ·
     have b1 : (((s[1]'(by omega)).toNat : Int) != 46) = true := byte_neT (b := 46) (by rw [h1]; decide)
     have b2 : (((s[1]'(by omega)).toNat : Int) != 42) = false := byte_neF (b := 42) h1
     clear hno g0 g1 g16 h0 h1 h16
     go_enter Tryz.func140, Tryz.ntmps140
     go_wp2_with fail
     refine bodyPost_ret (results86_run hB0 rfl rfl) rfl ?_
     exact ⟨rfl, hbel⟩
  ·
   rw [hno (fun h => h1 h.2.1)]
   have b1 : (((s[1]'(by omega)).toNat : Int) != 46) = true := byte_neT (b := 46) (fun e => h1 (.inl e))
   have b2 : (((s[1]'(by omega)).toNat : Int) != 42) = true := byte_neT (b := 42) (fun e => h1 (.inr e))
   clear hno g0 g1 g16 h0 h1
   go_enter Tryz.func140, Tryz.ntmps140
   go_wp2_with fail
   refine bodyPost_ret (results86_run hB0 rfl rfl) rfl ?_
   exact ⟨rfl, hbel⟩
 ·
  rw [hno (fun h => h0 h.1)]
  have b0 : (((s[0]'(by omega)).toNat : Int) != 91) = true := byte_neT (b := 91) h0
  clear hno g0 g1 g16 h0
  go_enter Tryz.func140, Tryz.ntmps140
  go_wp2_with fail
  refine bodyPost_ret (results86_run hB0 rfl rfl) rfl ?_
  exact ⟨rfl, hbel⟩
end Go.Proofs.YtkcnjnccdafbfaaGreatDoor
