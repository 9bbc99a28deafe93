/- What the reader's readLines does (a contract; nothing is claimed here). -/
import Derived.Test.YtadbkkakjekopaaDoorMark
namespace Go.Proofs.YtadbkkakjekopaaDoor
open Go.RowKit Go.Vf Go.Maps

/-- What the reader leaves of a text's lines. -/
def LinesPost (base b bm : Nat) (r : Except (Int × Int) (List Mk)) (w : World) (e : Ending) (w' : World) : Prop :=
  Below base w w' ∧
  match r with
  | .error (why, line) => e = lostE why line
  | .ok L => e = .returned (.tuple #[]) ∧ ∃ n vp pv, RD w' base b bm n vp pv L ∧ L.length ≤ 4096

theorem linesR_cons (s : List UInt8) (r : List (List UInt8)) (n : Int) (acc : List Mk) (h : silentL s = false) : linesR (s :: r) n acc = match markR s with
    | none => .error (40, n + 1)
    | some (p, k, l) =>
      if acc.any (fun m => m.point == p) then .error (41, n + 1)
      else if 4096 ≤ acc.length then .error (2, n + 1)
      else linesR r (n + 1) (acc ++ [⟨n + 1, p, k, l⟩]) := by
  rw [linesR]; simp [h]; rfl

theorem RD.bump {w : World} {base b bm : Nat} {line : Int} {vp : Value} {pv : Int → Value} {L : List Mk} (h : RD w base b bm line vp pv L) (n : Int) : RD (w.setCell ⟨b, 0, none⟩ (.int .i64 n)) base b bm n vp pv L := by
  have hb : Blk w b 50 #[.int .i64 line, .map (some bm), vp] := h.blk
  refine ⟨by simpa [Blk] using hb.set 0 (.int .i64 n), h.bge, h.mge, h.mp.setCell (a := ⟨b, 0, none⟩) (fun e => map_ne_blk hb h.mp e.symm) _, fun m hm => ?_, ?_⟩
  · exact ownsRow_setCell_other (h.parts m hm) (a := ⟨b, 0, none⟩) (fun e => own_ne_blk (h.parts m hm) hb (by decide) e.symm) _
  · exact ownsRow_setCell_other h.places (a := ⟨b, 0, none⟩) (fun e => own_ne_blk h.places hb (by decide) e.symm) _

set_option maxHeartbeats 4000000 in
set_option maxRecDepth 20000 in
theorem readLines_any (base b bm : Nat) (s : ByteArray) (m : Int) (vp : Value) (pv : Int → Value) (w : World) (hs : s.size ≤ 65536) (h0 : 0 < base) (hm : w.cell? ⟨0, 0, none⟩ = some (.int .i64 m))
    (hbw : base ≤ w.heap.size) (hrd : RD w base b bm 0 vp pv []) :
    Calls Tryd.prog 22 #[.pointer (some ⟨b, 0, none⟩), .string s] w fun e w' => LinesPost base b bm (linesR (cutL 10 s.data.toList) 0 []) w e w' := by
  have hsl : s.data.toList.length = s.size := (Lib.size_eq s).symm
  have hcs := cutL_sizes 10 s.data.toList
  have hcl := cutL_len_le 10 s.data.toList
  have hblt := (Array.getElem?_eq_some_iff.1 hrd.blk).1
  generalize hC : cutL 10 s.data.toList = C at hcs hcl
  generalize hR : linesR C 0 [] = R
  have HR : Hid (linesR C 0 [] = R) := hR
  clear hR
  go_enter Tryd.func22, Tryd.ntmps22
  go_wp2_with fail
  refine (split_any 10 s m _ hs hm).mono ?_
  rintro e w1 ⟨rfl, hst, hb1, hsz1⟩
  rw [hC] at hst ⊢
  have hlt1 : w.heap.size < w1.heap.size := by omega
  clear hsz1
  have hrd1 := hrd.below hb1
  have hbw1 : Below base w w1 := hb1.mono hbw
  clear hrd hC
  go_wp2_with fail
  go_loopw [9] (fun i wr => ∃ (k : Nat) (acc : List Mk) (vp : Value) (pv : Int → Value), k ≤ C.length ∧ i = .int .i64 k ∧ RD wr base b bm (k : Int) vp pv acc ∧ acc.length ≤ 4096 ∧ Hid (linesR (C.drop k) (k : Int) acc = R) ∧ Strs wr w.heap.size C ∧ Below base w wr) (fun i _ => C.length - (intOf i).toNat)
  case atStart => exact ⟨0, [], vp, pv, by omega, rfl, hrd1, by simp, by simpa using HR, hst, hbw1⟩
  case round =>
    clear hrd1 hst hbw1 HR
    obtain ⟨k, acc, vp', pv', hk, rfl, hrdk, hacc, HK, hstk, hbel⟩ := hrel
    by_cases hlt : k < C.length
    · have hd : C.drop k = C[k] :: C.drop (k + 1) := List.drop_eq_getElem_cons hlt
      have hck := hstk.cell hlt
      have hkl := hcs C[k] (List.getElem_mem hlt)
      have d0 := hrdk.c0
      have f0 := hrdk.fz 0
      have hszk : (bsz C[k]).size ≤ 65536 := by simp [ByteArray.size]; omega
      have hrd2 := hrdk.bump ((k : Int) + 1)
      have hbl2 : Blk wr b 50 #[.int .i64 (k : Int), .map (some bm), vp'] := hrdk.blk
      have hst2 : Strs (wr.setCell ⟨b, 0, none⟩ (.int .i64 ((k : Int) + 1))) w.heap.size C := (Below.heap_setCell wr ⟨b, 0, none⟩ _ w.heap.size (fun e => by
        have e1 := (show wr.heap[w.heap.size]? = _ from hstk)
        rw [e] at e1
        have e2 := e1.symm.trans hbl2
        simp only [Option.some.injEq, Obj.cells.injEq] at e2
        exact absurd e2.2.1 (by decide))).trans hstk
      have hbel2 : Below base w (wr.setCell ⟨b, 0, none⟩ (.int .i64 ((k : Int) + 1))) := hbel.setCell (p := ⟨b, 0, none⟩) hrdk.bge _
      have hdat : C[k] = (bsz C[k]).data.toList := by simp
      generalize bsz C[k] = t at hck hszk hdat
      rw [hdat] at hd
      cases hsil : silentL t.data.toList with
      | true =>
        have HK2 : Hid (linesR (C.drop (k + 1)) ((k : Int) + 1) acc = R) := by show _ = _; rw [← HK.out, hd, linesR, if_pos hsil]
        clear HK hd hdat
        by_cases hemp : t.data.toList = []
        · have hemp' : t.toList.isEmpty = true := by rw [ByteArray.toList_eq]; simpa using hemp
          clear hsil hemp
          go_wp2_with fail
          go_roundw
          case rel => exact ⟨k + 1, acc, vp', pv', by omega, by simp, by simpa using hrd2, hacc, by simpa using HK2, hst2, hbel2⟩
          case measure => simp only [intOf]; omega
        · have hemp' : t.toList.isEmpty = false := by rw [ByteArray.toList_eq]; simpa using hemp
          have hpos : 0 < t.size := by rw [Lib.size_eq]; exact List.length_pos_iff.2 hemp
          have he' : (t[0].toNat : Int) = 35 := by
            unfold silentL at hsil
            rw [head_at t hpos] at hsil
            have hne : t.data.toList.isEmpty = false := by simpa using hemp
            rw [hne] at hsil
            simp at hsil
            rw [hsil]; rfl
          have he : ((t[0].toNat : Int) == 35) = true := by simpa using he'
          clear hsil hemp
          go_wp2_with fail
          go_roundw
          case rel => exact ⟨k + 1, acc, vp', pv', by omega, by simp, by simpa using hrd2, hacc, by simpa using HK2, hst2, hbel2⟩
          case measure => simp only [intOf]; omega
      | false =>
        have hemp : t.data.toList ≠ [] := fun e => by simp [silentL, e] at hsil
        have hemp' : t.toList.isEmpty = false := by rw [ByteArray.toList_eq]; simpa using hemp
        have hpos : 0 < t.size := by rw [Lib.size_eq]; exact List.length_pos_iff.2 hemp
        have he' : ¬ (t[0].toNat : Int) = 35 := by
          unfold silentL at hsil
          rw [head_at t hpos] at hsil
          have hne : t.data.toList.isEmpty = false := by simpa using hemp
          rw [hne] at hsil
          simp at hsil
          intro e
          exact hsil (UInt8.toNat_inj.1 (by have : t[0].toNat = 35 := by omega
                                            simpa using this))
        have he : ((t[0].toNat : Int) == 35) = false := by simpa using he'
        have HK1 : Hid (R = match markR t.data.toList with
            | none => .error (40, (k : Int) + 1)
            | some (p, q, l) =>
              if acc.any (fun m => m.point == p) then .error (41, (k : Int) + 1)
              else if 4096 ≤ acc.length then .error (2, (k : Int) + 1)
              else linesR (C.drop (k + 1)) ((k : Int) + 1) (acc ++ [⟨(k : Int) + 1, p, q, l⟩])) := by show _ = _; rw [← HK.out, hd, linesR_cons _ _ _ _ hsil]
        have hmw : (wr.setCell ⟨b, 0, none⟩ (.int .i64 ((k : Int) + 1))).cell? ⟨0, 0, none⟩ = some (.int .i64 m) := (hbel2.cell (p := ⟨0, 0, none⟩) h0).trans hm
        have hbw2 : base ≤ (wr.setCell ⟨b, 0, none⟩ (.int .i64 ((k : Int) + 1))).heap.size := by have := hbel2.size; omega
        clear HK hd hsil hemp hdat
        go_wp2_with fail
        generalize wr.setCell ⟨b, 0, none⟩ (.int .i64 ((k : Int) + 1)) = W at hrd2 hst2 hbel2 hmw hbw2 ⊢
        refine (readMark_any base b bm t ((k : Int) + 1) m _ _ acc _ hszk h0 hmw hacc hbw2 hrd2).mono ?_
        rintro e w3 ⟨hb3, hpost⟩
        have hbel3 := hbel2.trans hb3
        cases hmk : markR t.data.toList with
        | none =>
          rw [hmk] at hpost
          obtain rfl := hpost
          have hRn := HK1.out
          rw [hmk] at hRn
          go_wp2
          refine ⟨rfl, hbel3, ?_⟩
          rw [hRn]
        | some q =>
          obtain ⟨p, q, l⟩ := q
          rw [hmk] at hpost
          have hRn := HK1.out
          rw [hmk] at hRn
          simp only at hpost hRn
          cases hany : acc.any (fun m => m.point == p) with
          | true =>
            rw [hany] at hpost hRn
            simp only [if_true] at hpost hRn
            subst hpost
            go_wp2
            refine ⟨rfl, hbel3, ?_⟩
            rw [hRn]
          | false =>
            rw [hany] at hpost hRn
            simp only [Bool.false_eq_true, if_false] at hpost hRn
            by_cases hfull : 4096 ≤ acc.length
            · rw [if_pos hfull] at hpost hRn
              subst hpost
              go_wp2
              refine ⟨rfl, hbel3, ?_⟩
              rw [hRn]
            · rw [if_neg hfull] at hpost hRn
              obtain ⟨rfl, ⟨vq, pq, hrd3⟩, hks⟩ := hpost
              have hst3 : Strs w3 w.heap.size C := hks _ _ hst2
              have HK2 : Hid (linesR (C.drop (k + 1)) ((k : Int) + 1) (acc ++ [⟨(k : Int) + 1, p, q, l⟩]) = R) := hRn.symm
              clear hRn HK1 hmk
              go_wp2_with fail
              go_roundw
              case rel => exact ⟨k + 1, acc ++ [⟨(k : Int) + 1, p, q, l⟩], vq, pq, by omega, by simp, by simpa using hrd3, by simp; omega, by simpa using HK2, hst3, hbel3⟩
              case measure => simp only [intOf]; omega
    · have hRs : R = .ok acc := by rw [← HK.out, List.drop_of_length_le (by omega)]; rfl
      go_wp2
      go_end0
      refine ⟨hbel, ?_⟩
      rw [hRs]
      exact ⟨rfl, _, _, _, hrdk, hacc⟩

end Go.Proofs.YtadbkkakjekopaaDoor
