/- What the document's Delete does (contracts; nothing is claimed here). -/
import Derived.Test.YtklnnkdcnaieoaaRfq
namespace Go.Proofs.Ytklnnkdcnaieoaa
open Go.RowKit Go.Vf

/-- The two appends of Delete. -/
theorem del_rows (w : World) (v2 v3 : Value) (l2 l3 : List Pr) (h2 : Cut w v2 l2) (h3 : Cut w v3 l3) (q3 : ∀ g, v3.ownBlock = some g → g < w.heap.size) (hl : l2.length + l3.length ≤ 4294967296) :
    ∃ va wa vc wc, Hid ((Builtin.append_ #[39, 39] 39 #[.slice none 0 0, v2]).run Try.prog w = .ok va wa) ∧
      Hid ((Builtin.append_ #[39, 39] 39 #[va, v3]).run Try.prog wa = .ok vc wc) ∧ Hid (Below w.heap.size w wa) ∧ Hid (Below w.heap.size w wc) ∧ Hid (PRow wc w.heap.size vc (l2 ++ l3)) := by
  obtain ⟨va, wa, r1, p1, g1⟩ := append_cut (show PRow w w.heap.size (.slice none 0 0) [] from World.ownsRow_nil w w.heap.size 45 2) h2 (by simp only [List.length_nil]; omega) (Nat.le_refl _)
  have b1 : Below w.heap.size w wa := below_grown g1 (fun g e => by cases e) (Nat.le_refl _)
  have p1' : PRow wa w.heap.size va l2 := by simpa using p1
  obtain ⟨vc, wc, r3, p3, g3⟩ := append_cut p1' (h3.old b1 q3) hl b1.size
  have b3 : Below w.heap.size w wc := b1.trans (below_grown g3 (fun g e => (p1'.own e).1) b1.size)
  exact ⟨va, wa, vc, wc, r1, r3, b1, b3, p3⟩
theorem Plc.del {L : List Pr} {key : ByteArray} {k : Nat} (h : Plc L key k true) (hs : Srt L) : L.take k ++ L.drop (k + 1) = Go.Vf.del key L := by
  obtain ⟨hk, e⟩ := h.yes rfl
  have e1 : L = L.take k ++ L[k] :: L.drop (k + 1) := by
    conv => lhs; rw [← List.take_append_drop k L]
    rw [List.drop_eq_getElem_cons hk]
  have h2 := hs
  rw [e1] at h2
  have h3 := del_here h2
  rw [← e1, e] at h3
  exact h3.symm
set_option maxHeartbeats 4000000 in
set_option maxRecDepth 20000 in
theorem rdelete_any (w : World) (C base : Nat) (v : Value) (L : List Pr) (key : ByteArray) (h : RfAt w C base v L) (hs : Srt L) (hl : L.length ≤ 4294967296) (hb : base ≤ C) : Calls Try.prog 27 #[.pointer (some ⟨C, 0, none⟩), .string key] w (RChg C base v (get key L).isSome (del key L) w) := by
  obtain ⟨G, HG⟩ : ∃ G, Hid (G = (get key L).isSome) := ⟨_, rfl⟩
  rw [← HG.out]
  have HH : Hid (RfAt w C base v L) := h
  have HS : Hid (Srt L) := hs
  have hp := place_any w C base v L key h (by omega)
  have HB : Hid (base ≤ C) := hb
  have HLl : Hid (L.length ≤ 4294967296) := hl
  clear h hs hb hl
  go_enter Try.func27, Try.ntmps27
  go_wp2_with fail
  refine hp.mono ?_
  clear hp
  rintro e w1 ⟨k, is, rfl, hp, hb1⟩
  have HP : Hid (Plc L key k is) := hp
  have HB1 : Hid (Below w.heap.size w w1) := hb1
  have HH1 : Hid (RfAt w1 C base v L) := HH.out.old hb1
  clear hp hb1
  cases is with
  | false =>
    have HV : Hid (G = false) := by show _ = _; rw [HG.out, HP.out.none HS.out]; rfl
    have HR : Hid (RChd C base v (del key L) w w1 v) := by
      have h1 := HB1.out
      refine ⟨?_, fun g e => .inl e, Frm.of h1, h1.mono (by have := HB.out; have := HH.out.box.lt; omega)⟩
      rw [del_none (HP.out.none HS.out)]
      exact HH1.out
    go_wp2
    go_ret
    exact ⟨by rw [HV.out]; rfl, _, HR.out⟩
  | true =>
    obtain ⟨hk, hke, hgv⟩ := HP.out.get HS.out
    have HV : Hid (G = true) := by show _ = _; rw [HG.out, hgv]; rfl
    have HI : Hid (L.take k ++ L.drop (k + 1) = del key L) := HP.out.del HS.out
    have c1 := HH1.out.box.c1
    rcases HH1.out.row.2 with ⟨_, h0⟩ | ⟨g, cap, cur, e, hbg, hg, hnc, hcm, hcs, ht⟩
    · omega
    obtain ⟨n, hn⟩ : ∃ n, n = L.length := ⟨_, rfl⟩
    rw [← hn] at e
    subst e
    have hB : Blk w1 g 45 cur := hg
    have hkn : (k : Int) < (n : Int) := by omega
    have hkc : (k : Int) ≤ (cap : Int) := by omega
    have hnc' : (n : Int) ≤ (cap : Int) := by omega
    have hnb : n ≤ 4294967296 := by have := HLl.out; omega
    have hcb : cap ≤ 9223372036854775807 := by unfold maxLen at hcm; omega
    have hkt : ((k : Int) + 1).toNat = k + 1 := by omega
    by_cases hck : k + 1 < cap
    · have hck' : (k : Int) + 1 < (cap : Int) := by omega
      obtain ⟨va, wa, vc, wc, r1, r3, b2, b3, p3⟩ := del_rows w1 (.slice (some ⟨g, 0, none⟩) k cap) (.slice (some ⟨g, (k + 1) * 2, none⟩) (n - (k + 1)) (cap - (k + 1))) (L.take k) (L.drop (k + 1)) (cut_take HH1.out.row k (by omega) cap) (cut_drop HH1.out.row (k + 1) (n - (k + 1)) (by rw [hn]) (cap - (k + 1))) (fun g' e => by cases e; exact hB.lt) (by rw [List.length_take, List.length_drop]; have := HLl.out; omega)
      have p4 : PRow wc w1.heap.size vc (del key L) := by rw [← HI.out]; exact p3.out
      obtain ⟨ac, cc, ec⟩ := p4.shape
      obtain ⟨nc, hnc0⟩ : ∃ nc, nc = (del key L).length := ⟨_, rfl⟩
      rw [← hnc0] at ec
      clear hnc0
      subst ec
      clear hn hke hgv hnc hcm hcs ht hg hB hk
      have c2 := (HH1.out.box.old b2.out).c1
      have c3 := (HH1.out.box.old b3.out).c1
      have f3 := (HH1.out.box.old b3.out).frozen 0
      have HR : Hid (RChd C base (.slice (some ⟨g, 0, none⟩) n cap) (del key L) w (wc.setCell ⟨C, 0, none⟩ (.slice ac nc cc)) (.slice ac nc cc)) := by
        have hbw : Below w.heap.size w wc := HB1.out.trans (b3.out.mono HB1.out.size)
        have hCl := HH.out.box.lt
        have hlow : Below base w wc := hbw.mono (by have := HB.out; omega)
        have hCr : (Value.slice ac nc cc).ownBlock ≠ some C := fun e => by have := (p4.own e).1; have := HH1.out.box.lt; omega
        refine ⟨⟨(HH1.out.box.old b3.out).set 0 _, ?_⟩, fun g' e => .inr (by have := (p4.own e).1; have := HB1.out.size; omega), ?_, ?_⟩
        · refine PRow.mono (b := w1.heap.size) ?_ (by have := HB.out; have := HH1.out.box.lt; omega)
          exact ownsRow_setCell_other p4 (a := ⟨C, 0, none⟩) hCr _
        · exact ⟨by rw [size_setCell]; exact hbw.size, fun j hj hC _ => (Below.heap_setCell wc ⟨C, 0, none⟩ _ j hC).trans (hbw.block j hj)⟩
        · exact ⟨hlow.os, hlow.tape, hlow.output, by rw [size_setCell]; exact hlow.size, fun j hj => (Below.heap_setCell wc ⟨C, 0, none⟩ _ j (by show j ≠ C; have := HB.out; omega)).trans (hlow.block j hj)⟩
      clear p4 p3 HH HH1 HP HI b2 b3
      go_wp2_with (at_builtin; first | refine wpList_append_want _ _ rfl rfl (by rfl) rfl rfl r1.out ?_ | refine wpList_append_want _ _ rfl rfl (by rfl) rfl rfl r3.out ?_)
      go_ret
      refine ⟨by rw [HV.out]; rfl, _, HR.out⟩
    · obtain rfl : cap = k + 1 := by omega
      have hnk : n = k + 1 := by omega
      have hd : L.drop (k + 1) = [] := List.drop_eq_nil_of_le (by omega)
      obtain ⟨va, wa, vc, wc, r1, r3, b2, b3, p3⟩ := del_rows w1 (.slice (some ⟨g, 0, none⟩) k (k + 1)) (.slice (some ⟨g, 0, none⟩) 0 0) (L.take k) [] (cut_take HH1.out.row k (by omega) (k + 1)) (.inr ⟨_, 0, rfl, fun j u hj => by simp [cellsP] at hj⟩) (fun g' e => by cases e; exact hB.lt) (by rw [List.length_take]; simp only [List.length_nil]; have := HLl.out; omega)
      have p4 : PRow wc w1.heap.size vc (del key L) := by rw [← HI.out, hd]; exact p3.out
      clear hd
      obtain ⟨ac, cc, ec⟩ := p4.shape
      obtain ⟨nc, hnc0⟩ : ∃ nc, nc = (del key L).length := ⟨_, rfl⟩
      rw [← hnc0] at ec
      clear hnc0
      subst ec
      clear hn hke hgv hnc hcm hcs ht hg hB hk
      subst hnk
      have c2 := (HH1.out.box.old b2.out).c1
      have c3 := (HH1.out.box.old b3.out).c1
      have f3 := (HH1.out.box.old b3.out).frozen 0
      have HR : Hid (RChd C base (.slice (some ⟨g, 0, none⟩) (k + 1) (k + 1)) (del key L) w (wc.setCell ⟨C, 0, none⟩ (.slice ac nc cc)) (.slice ac nc cc)) := by
        have hbw : Below w.heap.size w wc := HB1.out.trans (b3.out.mono HB1.out.size)
        have hCl := HH.out.box.lt
        have hlow : Below base w wc := hbw.mono (by have := HB.out; omega)
        have hCr : (Value.slice ac nc cc).ownBlock ≠ some C := fun e => by have := (p4.own e).1; have := HH1.out.box.lt; omega
        refine ⟨⟨(HH1.out.box.old b3.out).set 0 _, ?_⟩, fun g' e => .inr (by have := (p4.own e).1; have := HB1.out.size; omega), ?_, ?_⟩
        · refine PRow.mono (b := w1.heap.size) ?_ (by have := HB.out; have := HH1.out.box.lt; omega)
          exact ownsRow_setCell_other p4 (a := ⟨C, 0, none⟩) hCr _
        · exact ⟨by rw [size_setCell]; exact hbw.size, fun j hj hC _ => (Below.heap_setCell wc ⟨C, 0, none⟩ _ j hC).trans (hbw.block j hj)⟩
        · exact ⟨hlow.os, hlow.tape, hlow.output, by rw [size_setCell]; exact hlow.size, fun j hj => (Below.heap_setCell wc ⟨C, 0, none⟩ _ j (by show j ≠ C; have := HB.out; omega)).trans (hlow.block j hj)⟩
      clear p4 p3 HH HH1 HP HI b2 b3
      go_wp2_with (at_builtin; first | refine wpList_append_want _ _ rfl rfl (by rfl) rfl rfl r1.out ?_ | refine wpList_append_want _ _ rfl rfl (by rfl) rfl rfl r3.out ?_)
      go_ret
      refine ⟨by rw [HV.out]; rfl, _, HR.out⟩
end Go.Proofs.Ytklnnkdcnaieoaa
