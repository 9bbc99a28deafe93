/- What table's Load, Find and Longest do (contracts; nothing is claimed here). -/
import Derived.Test.YtfeppbiodbhpcaaGreatDoorTab2
namespace Go.Proofs.YtfeppbiodbhpcaaGreatDoor
open Go.RowKit Go.Vf Go.Maps

def LoadPost (r : Except (Int × Int) (List Ent)) (w : World) (e : Ending) (w' : World) : Prop :=
  Below w.heap.size w w' ∧ match r with
    | .error (why, line) => e = .returned (.tuple #[.pointer none, .int .i64 why, .int .i64 line])
    | .ok E => ∃ T me ml val, e = .returned (.tuple #[.pointer (some ⟨T, 0, none⟩), .int .i64 0, .int .i64 0]) ∧ TabAt w' T me ml val E
theorem results7_run {tmps : Array Value} {w : World} {a b c : Value} (t2 : tmps[2]?.getD undef = a) (t3 : tmps[3]?.getD undef = b) (t4 : tmps[4]?.getD undef = c) : (results Tryz.f5 tmps).run Tryz.prog w = .ok (.tuple #[a, b, c]) w := by
  simp [results, Tryz.results5, go_sem, t2, t3, t4]
theorem entF_nil (val : List Int → Value) : entF val [] = fun _ => none := by funext l; simp [entF]
theorem longF_nil : longF [] = fun _ => none := by funext x; simp [longF, longT]
theorem takeR_len (E : List Ent) (o : Option Ent) (h : E.length ≤ 4096) : (takeR E o).2.length ≤ 4096 := by
  unfold takeR
  split
  · exact h
  · split
    · split
      · exact h
      · split
        · exact h
        · simp; omega
    · exact h
theorem tab_new (w : World) : TabAt (((w.alloc (.map #[] 0)).alloc (.map #[] 0)).alloc (.cells #[.map (some w.heap.size), .map (some (w.heap.size + 1))] 46)) (w.heap.size + 1 + 1) w.heap.size (w.heap.size + 1) (fun _ => .slice none 0 0) [] := by
  have h1 := MapR.made w
  have h2 := MapAt.made (w.alloc (.map #[] 0))
  have h3 := Blk.new ((w.alloc (.map #[] 0)).alloc (.map #[] 0)) 46 #[.map (some w.heap.size), .map (some (w.heap.size + 1))]
  rw [show (w.alloc (.map #[] 0)).heap.size = w.heap.size + 1 by simp] at h2
  rw [show ((w.alloc (.map #[] 0)).alloc (.map #[] 0)).heap.size = w.heap.size + 1 + 1 by simp] at h3
  refine ⟨h3, ?_, ?_, by omega, by simp, by simp⟩
  · rw [entF_nil]
    exact (h1.block (w' := (w.alloc (.map #[] 0)).alloc (.map #[] 0)) (Below.heap_alloc _ _ _ (by simp))).block (Below.heap_alloc _ _ _ (by simp; omega))
  · rw [longF_nil]
    exact h2.alloc _

set_option maxHeartbeats 2000000 in
set_option maxRecDepth 20000 in
theorem load_any (s : ByteArray) (m : Int) (w : World) (hm : w.cell? ⟨0, 0, none⟩ = some (.int .i64 m)) (hbig : s.size ≤ 281474976710656) :
    Calls Tryz.prog 5 #[.string s] w fun e w' => LoadPost (loadT s.data.toList) w e w' := by
  have hmm := @run_makeMap Tryz.prog
  have hsl : s.data.toList.length = s.size := (Lib.size_eq s).symm
  have hlt0 : 0 < w.heap.size := World.block_lt_of_cell? w _ hm
  by_cases hlong : 65536 < s.size
  · have hR : loadT s.data.toList = .error (2, 0) := by unfold loadT; rw [if_pos (by omega)]
    rw [hR]
    clear hR
    go_enter Tryz.func5, Tryz.ntmps5
    go_wp2_with fail
    refine bodyPost_ret (results7_run rfl rfl rfl) rfl ?_
    exact ⟨Below.refl _ _, rfl⟩
  · have hs : s.size ≤ 65536 := by omega
    have hR : loadT s.data.toList = tabL (cutL 10 s.data.toList) 0 [] := by unfold loadT; rw [if_neg (by omega)]
    have hcs := cutL_sizes 10 s.data.toList
    have hcl := cutL_len_le 10 s.data.toList
    have hsp := fun (W : World) => split_any 10 s m W hs
    rw [hR]
    generalize cutL 10 s.data.toList = C at hcs hcl hsp
    generalize hQ : tabL C 0 [] = R
    have HR : Hid (tabL C 0 [] = R) := hQ
    clear hR hQ
    have htn := tab_new w
    have hbn : Below w.heap.size w (((w.alloc (.map #[] 0)).alloc (.map #[] 0)).alloc (.cells #[.map (some w.heap.size), .map (some (w.heap.size + 1))] 46)) := (((Below.refl w.heap.size w).alloc (Nat.le_refl _) _).alloc (by simp) _).alloc (by simp; omega) _
    have hm1 := (hbn.cell (p := ⟨0, 0, none⟩) hlt0).trans hm
    go_enter Tryz.func5, Tryz.ntmps5
    go_upto_region 4 with fail
    generalize ((w.alloc (.map #[] 0)).alloc (.map #[] 0)).alloc (.cells #[.map (some w.heap.size), .map (some (w.heap.size + 1))] 46) = W at htn hbn hm1 ⊢
    have HBm : Hid (w.heap.size ≤ w.heap.size + 1) := Nat.le_succ _
    generalize hml : w.heap.size + 1 = ml at htn HBm
    generalize hT : ml + 1 = T at htn
    try rw [hml]
    try rw [hT]
    clear hml hT
    go_wp2_with fail
    refine (hsp W hm1).mono ?_
    rintro _ w1 ⟨rfl, hst, hb1, hsz1⟩
    have ht1 := htn.below hb1
    have hbw1 : Below w.heap.size w w1 := hbn.trans (hb1.mono hbn.size)
    have hlt1 : W.heap.size < w1.heap.size := by omega
    clear hsz1 hb1 htn hsp hbn hm1
    go_wp2_with fail
    go_loopw [19] (fun i wr => ∃ (k : Nat) (acc : List Ent) (val : List Int → Value), k ≤ C.length ∧ i = .int .i64 k ∧ TabAt wr T w.heap.size ml val acc ∧ acc.length ≤ 4096 ∧ Hid (tabL (C.drop k) (k : Int) acc = R) ∧ Strs wr W.heap.size C ∧ Below w.heap.size w wr) (fun i _ => C.length - (intOf i).toNat)
    case atStart => exact ⟨0, [], _, by omega, rfl, ht1, by simp, HR, hst, hbw1⟩
    case round =>
      clear HR ht1 hst hbw1
      obtain ⟨k, acc, val, hk, rfl, htk, hacc, HK, hstk, hbel⟩ := hrel
      by_cases hlt : k < C.length
      · have hd : C.drop k = C[k] :: C.drop (k + 1) := List.drop_eq_getElem_cons hlt
        have hck := hstk.cell hlt
        have hkl := hcs C[k] (List.getElem_mem hlt)
        have hszk : (bsz C[k]).size ≤ 65536 := by simp [ByteArray.size]; omega
        have hdat : C[k] = (bsz C[k]).data.toList := by simp
        generalize bsz C[k] = t at hck hszk hdat
        rw [hdat] at hd
        cases hsil : silentL t.data.toList with
        | true =>
          have HK2 : Hid (tabL (C.drop (k + 1)) ((k : Int) + 1) acc = R) := by show _ = _; rw [← HK.out, hd, tabL, if_pos hsil]
          clear HK hd hdat
          by_cases hemp : t.data.toList = []
          · have hemp' : t.toList.isEmpty = true := by rw [ByteArray.toList_eq]; simpa using hemp
            clear hsil hemp
            go_wp2_with fail
            go_roundw
            case rel => exact ⟨k + 1, acc, val, by omega, by simp, htk, hacc, by simpa using HK2, hstk, hbel⟩
            case measure => simp only [intOf]; omega
          · have hemp' : t.toList.isEmpty = false := by rw [ByteArray.toList_eq]; simpa using hemp
            have hpos : 0 < t.size := by rw [Lib.size_eq]; exact List.length_pos_iff.2 hemp
            have he' : (t[0].toNat : Int) = 35 := by
              unfold silentL at hsil
              rw [head_at t hpos] at hsil
              have hne : t.data.toList.isEmpty = false := by simpa using hemp
              rw [hne] at hsil
              simp at hsil
              rw [hsil]; rfl
            have he : ((t[0].toNat : Int) == 35) = true := by simpa using he'
            clear hsil hemp
            go_wp2_with fail
            go_roundw
            case rel => exact ⟨k + 1, acc, val, by omega, by simp, htk, hacc, by simpa using HK2, hstk, hbel⟩
            case measure => simp only [intOf]; omega
        | false =>
          have hemp : t.data.toList ≠ [] := fun e => by simp [silentL, e] at hsil
          have hemp' : t.toList.isEmpty = false := by rw [ByteArray.toList_eq]; simpa using hemp
          have hpos : 0 < t.size := by rw [Lib.size_eq]; exact List.length_pos_iff.2 hemp
          have he' : ¬ (t[0].toNat : Int) = 35 := by
            unfold silentL at hsil
            rw [head_at t hpos] at hsil
            have hne : t.data.toList.isEmpty = false := by simpa using hemp
            rw [hne] at hsil
            simp at hsil
            intro e
            exact hsil (UInt8.toNat_inj.1 (by have : t[0].toNat = 35 := by omega
                                              simpa using this))
          have he : ((t[0].toNat : Int) == 35) = false := by simpa using he'
          have HK1 : Hid (R = if (takeR acc (entR t.data.toList)).1 = 0 then tabL (C.drop (k + 1)) ((k : Int) + 1) (takeR acc (entR t.data.toList)).2 else .error ((takeR acc (entR t.data.toList)).1, (k : Int) + 1)) := by show _ = _; rw [← HK.out, hd, tabL_take _ _ _ _ hsil]
          have hmw := (hbel.cell (p := ⟨0, 0, none⟩) hlt0).trans hm
          have htk2 := take_any w.heap.size T w.heap.size ml val acc hacc t m wr hszk hmw (Nat.le_refl _) HBm.out htk
          have hac2 := takeR_len acc (entR t.data.toList) hacc
          generalize takeR acc (entR t.data.toList) = q at HK1 htk2 hac2
          obtain ⟨q1, q2⟩ := q
          simp only at HK1 htk2 hac2
          clear HK hd hsil hemp hdat he' htk
          go_wp2_with fail
          refine htk2.mono ?_
          rintro _ w2 ⟨rfl, ⟨val', ht2⟩, hb2, hk2⟩
          have hst2 : Strs w2 W.heap.size C := hk2 _ _ _ hstk
          have hbel2 := hbel.trans hb2
          by_cases h0 : q1 = 0
          · have HK2 : Hid (tabL (C.drop (k + 1)) ((k : Int) + 1) q2 = R) := by show _ = _; rw [HK1.out, if_pos h0]
            have b0 : (q1 != 0) = false := by rw [h0]; rfl
            clear HK1 h0
            go_wp2_with fail
            go_roundw
            case rel => exact ⟨k + 1, q2, val', by omega, by simp, ht2, hac2, by simpa using HK2, hst2, hbel2⟩
            case measure => simp only [intOf]; omega
          · have hRe : R = .error (q1, (k : Int) + 1) := by rw [HK1.out, if_neg h0]
            have b0 : (q1 != 0) = true := by rw [bne_iff_ne]; exact h0
            clear HK1 h0
            go_wp2_with fail
            refine bodyPost_ret (results7_run rfl rfl rfl) rfl ?_
            exact ⟨hbel2, by rw [hRe]; rfl⟩
      · have hRs : R = .ok acc := by rw [← HK.out, List.drop_of_length_le (by omega)]; rfl
        clear HK
        go_wp2_with fail
        refine bodyPost_ret (results7_run rfl rfl rfl) rfl ?_
        exact ⟨hbel, by rw [hRs]; exact ⟨T, _, _, _, rfl, htk⟩⟩

end Go.Proofs.YtfeppbiodbhpcaaGreatDoor
