/- What the document's Put does (contracts; nothing is claimed here). -/
import Derived.Test.YtklnnkdcnaieoaaRfp
namespace Go.Proofs.Ytklnnkdcnaieoaa
open Go.RowKit Go.Vf

theorem size_setCell (w : World) (p : Addr) (v : Value) : (w.setCell p v).heap.size = w.heap.size := by show (w.heap.modify _ _).size = _; simp
/-- The three appends of Put. -/
theorem put_rows (w : World) (base : Nat) (v2 v3 : Value) (l2 l3 : List Pr) (key val : ByteArray) (h2 : Cut w v2 l2) (h3 : Cut w v3 l3) (_q2 : ∀ g, v2.ownBlock = some g → g < w.heap.size) (q3 : ∀ g, v3.ownBlock = some g → g < w.heap.size) (hl : l2.length + l3.length < 4294967296) (_hb : base ≤ w.heap.size) :
    ∃ va wa vb wb vc wc, Hid ((Builtin.append_ #[39, 39] 39 #[.slice none 0 0, v2]).run Try.prog w = .ok va wa) ∧
      Hid ((Builtin.append_ #[39, 39] 39 #[va, .slice (some ⟨wa.heap.size, 0, none⟩) 1 1]).run Try.prog (wa.alloc (.cells #[.string key, .string val] 45)) = .ok vb wb) ∧
      Hid ((Builtin.append_ #[39, 39] 39 #[vb, v3]).run Try.prog wb = .ok vc wc) ∧ Hid (Below w.heap.size w wa) ∧ Hid (Below w.heap.size w wb) ∧ Hid (Below w.heap.size w wc) ∧ Hid (PRow wc w.heap.size vc (l2 ++ (key, val) :: l3)) := by
  obtain ⟨va, wa, r1, p1, g1⟩ := append_cut (show PRow w w.heap.size (.slice none 0 0) [] from World.ownsRow_nil w w.heap.size 45 2) h2 (by simp only [List.length_nil]; omega) (Nat.le_refl _)
  have b1 : Below w.heap.size w wa := below_grown g1 (fun g e => by cases e) (Nat.le_refl _)
  have ba := (Below.refl wa.heap.size wa).alloc (Nat.le_refl _) (.cells #[.string key, .string val] 45)
  have p1' : PRow (wa.alloc (.cells #[.string key, .string val] 45)) w.heap.size va l2 := by simpa using p1.old ba
  have s1 : w.heap.size ≤ (wa.alloc (.cells #[.string key, .string val] 45)).heap.size := Nat.le_trans b1.size ba.size
  obtain ⟨vb, wb, r2, p2, g2⟩ := append_cut p1' cut_one (by simp only [List.length_cons, List.length_nil]; omega) s1
  have b2 : Below w.heap.size w wb := (b1.trans (ba.mono b1.size)).trans (below_grown g2 (fun g e => (p1'.own e).1) s1)
  obtain ⟨vc, wc, r3, p3, g3⟩ := append_cut p2 (h3.old b2 q3) (by simp only [List.length_append, List.length_cons, List.length_nil]; omega) b2.size
  have b3 : Below w.heap.size w wc := b2.trans (below_grown g3 (fun g e => (p2.own e).1) b2.size)
  exact ⟨va, wa, vb, wb, vc, wc, r1, r2, r3, b1, b2, b3, show PRow _ _ _ _ by simpa using p3⟩
set_option maxHeartbeats 4000000 in
set_option maxRecDepth 20000 in
theorem rput_any (w : World) (C base : Nat) (v : Value) (L : List Pr) (key val : ByteArray) (h : RfAt w C base v L) (hs : Srt L) (hl : L.length < 4294967296) (hb : base ≤ C) : Calls Try.prog 25 #[.pointer (some ⟨C, 0, none⟩), .string key, .string val] w (RChg C base v (get key L).isSome (ins key val L) w) := by
  obtain ⟨G, HG⟩ : ∃ G, Hid (G = (get key L).isSome) := ⟨_, rfl⟩
  rw [← HG.out]
  have HH : Hid (RfAt w C base v L) := h
  have HS : Hid (Srt L) := hs
  have hp := place_any w C base v L key h (by omega)
  have HB : Hid (base ≤ C) := hb
  have HLl : Hid (L.length < 4294967296) := hl
  clear h hs hb hl
  go_enter Try.func25, Try.ntmps25
  go_wp2_with fail
  refine hp.mono ?_
  clear hp
  rintro e w1 ⟨k, is, rfl, hp, hb1⟩
  have HP : Hid (Plc L key k is) := hp
  have HB1 : Hid (Below w.heap.size w w1) := hb1
  have HH1 : Hid (RfAt w1 C base v L) := HH.out.old hb1
  clear hp hb1
  cases is with
  | true =>
    obtain ⟨hk, hke, hgv⟩ := HP.out.get HS.out
    rcases HH1.out.row.2 with ⟨_, h0⟩ | ⟨g, cap, cur, e, hbg, hg, hnc, hcm, hcs, ht⟩
    · omega
    obtain ⟨n, hn⟩ : ∃ n, n = L.length := ⟨_, rfl⟩
    rw [← hn] at e
    subst e
    have hB : Blk w1 g 45 cur := hg
    have hc : w1.cell? ⟨g, k * 2 + 1, none⟩ = some (.string L[k].2) := HH1.out.row.cells _ _ (cellsP_at L k hk).2
    have hf := hB.frozen (k * 2 + 1)
    have c1 := HH1.out.box.c1
    have hgC : C ≠ g := HH1.out.box.apart hB (by decide)
    have HGC : Hid (C ≠ g) := hgC
    have HR : Hid (RChd C base (.slice (some ⟨g, 0, none⟩) n cap) (ins key val L) w (w1.setCell ⟨g, k * 2 + 1, none⟩ (.string val)) (.slice (some ⟨g, 0, none⟩) n cap)) := by
      refine ⟨⟨HH1.out.box.other (p := ⟨g, k * 2 + 1, none⟩) hgC _, ?_⟩, fun g' e => .inl e, ?_, ?_⟩
      · rw [← HP.out.put HS.out hk]
        exact HH1.out.row.set k hk val
      · refine ⟨by rw [size_setCell]; exact HB1.out.size, fun j hj hC ho => ?_⟩
        exact (Below.heap_setCell w1 ⟨g, k * 2 + 1, none⟩ (.string val) j (fun e => ho (by rw [e]; rfl))).trans (HB1.out.block j hj)
      · have h1 := HB1.out
        exact ⟨h1.os, h1.tape, h1.output, by rw [size_setCell]; exact h1.size, fun j hj => (Below.heap_setCell w1 ⟨g, k * 2 + 1, none⟩ (.string val) j (by show j ≠ g; omega)).trans (h1.block j (by have := HH.out.box.lt; have := HB.out; omega))⟩
    have HV : Hid (G = true) := by show _ = _; rw [HG.out, hgv]; rfl
    obtain ⟨ov, hov⟩ : ∃ ov, ov = L[k].2 := ⟨_, rfl⟩
    rw [← hov] at hc
    have hkn : (k : Int) < (n : Int) := by omega
    have hnb : n < 4294967296 := by have := HLl.out; omega
    clear hn hov hke hgv hgC hnc hcm hcs ht hg hB hk
    go_wp2
    go_ret
    refine ⟨by rw [HV.out]; rfl, _, HR.out⟩
  | false =>
    have hkl := HP.out.le
    have HV : Hid (G = false) := by show _ = _; rw [HG.out, HP.out.none HS.out]; rfl
    have HI : Hid (L.take k ++ (key, val) :: L.drop k = ins key val L) := HP.out.ins HS.out
    have c1 := HH1.out.box.c1
    rcases HH1.out.row.2 with ⟨e, h0⟩ | ⟨g, cap, cur, e, hbg, hg, hnc, hcm, hcs, ht⟩
    · obtain rfl : L = [] := List.eq_nil_of_length_eq_zero h0
      obtain rfl : k = 0 := by simpa using hkl
      subst e
      obtain ⟨va, wa, vb, wb, vc, wc, r1, r2, r3, b1, b2, b3, p3⟩ := put_rows w1 base (.slice none 0 0) (.slice none 0 0) [] [] key val (.inl ⟨rfl, rfl⟩) (.inl ⟨rfl, rfl⟩) (fun g' e => by cases e) (fun g' e => by cases e) (by simp) (by have := HB.out; have := HH1.out.box.lt; omega)
      have p4 : PRow wc w1.heap.size vc (ins key val []) := by rw [← HI.out]; exact p3.out
      obtain ⟨ac, cc, ec⟩ := p4.shape
      obtain ⟨nc, hnc0⟩ : ∃ nc, nc = (ins key val []).length := ⟨_, rfl⟩
      rw [← hnc0] at ec
      clear hnc0
      subst ec
      have c2 := (HH1.out.box.old b2.out).c1
      have c3 := (HH1.out.box.old b3.out).c1
      have f3 := (HH1.out.box.old b3.out).frozen 0
      have HR : Hid (RChd C base (.slice none 0 0) (ins key val []) w (wc.setCell ⟨C, 0, none⟩ (.slice ac nc cc)) (.slice ac nc cc)) := by
        have hbw : Below w.heap.size w wc := HB1.out.trans (b3.out.mono HB1.out.size)
        have hCl := HH.out.box.lt
        have hlow : Below base w wc := hbw.mono (by have := HB.out; omega)
        have hCr : (Value.slice ac nc cc).ownBlock ≠ some C := fun e => by have := (p4.own e).1; have := HH1.out.box.lt; omega
        refine ⟨⟨(HH1.out.box.old b3.out).set 0 _, ?_⟩, fun g' e => .inr (by have := (p4.own e).1; have := HB1.out.size; omega), ?_, ?_⟩
        · refine PRow.mono (b := w1.heap.size) ?_ (by have := HB.out; have := HH1.out.box.lt; omega)
          exact ownsRow_setCell_other p4 (a := ⟨C, 0, none⟩) hCr _
        · exact ⟨by rw [size_setCell]; exact hbw.size, fun j hj hC _ => (Below.heap_setCell wc ⟨C, 0, none⟩ _ j hC).trans (hbw.block j hj)⟩
        · exact ⟨hlow.os, hlow.tape, hlow.output, by rw [size_setCell]; exact hlow.size, fun j hj => (Below.heap_setCell wc ⟨C, 0, none⟩ _ j (by show j ≠ C; have := HB.out; omega)).trans (hlow.block j hj)⟩
      clear p4 p3 HH HH1 HP HI b1 b2 b3
      go_wp2_with (at_builtin; first | refine wpList_append_want _ _ rfl rfl (by rfl) rfl rfl r1.out ?_ | refine wpList_append_want _ _ rfl rfl (by rfl) rfl rfl r2.out ?_ | refine wpList_append_want _ _ rfl rfl (by rfl) rfl rfl r3.out ?_)
      go_ret
      refine ⟨by rw [HV.out]; rfl, _, HR.out⟩
    · obtain ⟨n, hn⟩ : ∃ n, n = L.length := ⟨_, rfl⟩
      rw [← hn] at e
      subst e
      have hB : Blk w1 g 45 cur := hg
      have hkn : (k : Int) ≤ (n : Int) := by omega
      have hkc : (k : Int) ≤ (cap : Int) := by omega
      have hnc' : (n : Int) ≤ (cap : Int) := by omega
      have hcb : cap ≤ 9223372036854775807 := by unfold maxLen at hcm; omega
      have hnL : n - k = L.length - k := by rw [hn]
      by_cases hck : k < cap
      · have hck' : (k : Int) < (cap : Int) := by omega
        obtain ⟨va, wa, vb, wb, vc, wc, r1, r2, r3, b1, b2, b3, p3⟩ := put_rows w1 base (.slice (some ⟨g, 0, none⟩) k cap) (.slice (some ⟨g, k * 2, none⟩) (n - k) (cap - k)) (L.take k) (L.drop k) key val (cut_take HH1.out.row k hkl cap) (cut_drop HH1.out.row k (n - k) (by rw [hn]) (cap - k)) (fun g' e => by cases e; exact hB.lt) (fun g' e => by cases e; exact hB.lt) (by rw [List.length_take, List.length_drop]; have := HLl.out; omega) (by have := HB.out; have := HH1.out.box.lt; omega)
        have p4 : PRow wc w1.heap.size vc (ins key val L) := by rw [← HI.out]; exact p3.out
        obtain ⟨ac, cc, ec⟩ := p4.shape
        obtain ⟨nc, hnc0⟩ : ∃ nc, nc = (ins key val L).length := ⟨_, rfl⟩
        rw [← hnc0] at ec
        clear hnc0
        subst ec
        clear hn hnL hnc hcm hcs ht hg hB
        have c2 := (HH1.out.box.old b2.out).c1
        have c3 := (HH1.out.box.old b3.out).c1
        have f3 := (HH1.out.box.old b3.out).frozen 0
        have HR : Hid (RChd C base (.slice (some ⟨g, 0, none⟩) n cap) (ins key val L) w (wc.setCell ⟨C, 0, none⟩ (.slice ac nc cc)) (.slice ac nc cc)) := by
          have hbw : Below w.heap.size w wc := HB1.out.trans (b3.out.mono HB1.out.size)
          have hCl := HH.out.box.lt
          have hlow : Below base w wc := hbw.mono (by have := HB.out; omega)
          have hCr : (Value.slice ac nc cc).ownBlock ≠ some C := fun e => by have := (p4.own e).1; have := HH1.out.box.lt; omega
          refine ⟨⟨(HH1.out.box.old b3.out).set 0 _, ?_⟩, fun g' e => .inr (by have := (p4.own e).1; have := HB1.out.size; omega), ?_, ?_⟩
          · refine PRow.mono (b := w1.heap.size) ?_ (by have := HB.out; have := HH1.out.box.lt; omega)
            exact ownsRow_setCell_other p4 (a := ⟨C, 0, none⟩) hCr _
          · exact ⟨by rw [size_setCell]; exact hbw.size, fun j hj hC _ => (Below.heap_setCell wc ⟨C, 0, none⟩ _ j hC).trans (hbw.block j hj)⟩
          · exact ⟨hlow.os, hlow.tape, hlow.output, by rw [size_setCell]; exact hlow.size, fun j hj => (Below.heap_setCell wc ⟨C, 0, none⟩ _ j (by show j ≠ C; have := HB.out; omega)).trans (hlow.block j hj)⟩
        clear p4 p3 HH HH1 HP HI b1 b2 b3
        go_wp2_with (at_builtin; first | refine wpList_append_want _ _ rfl rfl (by rfl) rfl rfl r1.out ?_ | refine wpList_append_want _ _ rfl rfl (by rfl) rfl rfl r2.out ?_ | refine wpList_append_want _ _ rfl rfl (by rfl) rfl rfl r3.out ?_)
        go_ret
        refine ⟨by rw [HV.out]; rfl, _, HR.out⟩
      · obtain rfl : cap = k := by omega
        have hnk : n = cap := by omega
        have hd : L.drop cap = [] := List.drop_eq_nil_of_le (by omega)
        obtain ⟨va, wa, vb, wb, vc, wc, r1, r2, r3, b1, b2, b3, p3⟩ := put_rows w1 base (.slice (some ⟨g, 0, none⟩) cap cap) (.slice (some ⟨g, 0, none⟩) 0 0) (L.take cap) [] key val (cut_take HH1.out.row cap hkl cap) (.inr ⟨_, 0, rfl, fun j u hj => by simp [cellsP] at hj⟩) (fun g' e => by cases e; exact hB.lt) (fun g' e => by cases e; exact hB.lt) (by rw [List.length_take]; simp only [List.length_nil]; have := HLl.out; omega) (by have := HB.out; have := HH1.out.box.lt; omega)
        have p4 : PRow wc w1.heap.size vc (ins key val L) := by rw [← HI.out, hd]; exact p3.out
        obtain ⟨ac, cc, ec⟩ := p4.shape
        obtain ⟨nc, hnc0⟩ : ∃ nc, nc = (ins key val L).length := ⟨_, rfl⟩
        rw [← hnc0] at ec
        clear hnc0
        subst ec
        subst hnk
        clear hn hnL hnc hcm hcs ht hg hB hd
        have c2 := (HH1.out.box.old b2.out).c1
        have c3 := (HH1.out.box.old b3.out).c1
        have f3 := (HH1.out.box.old b3.out).frozen 0
        have HR : Hid (RChd C base (.slice (some ⟨g, 0, none⟩) n n) (ins key val L) w (wc.setCell ⟨C, 0, none⟩ (.slice ac nc cc)) (.slice ac nc cc)) := by
          have hbw : Below w.heap.size w wc := HB1.out.trans (b3.out.mono HB1.out.size)
          have hCl := HH.out.box.lt
          have hlow : Below base w wc := hbw.mono (by have := HB.out; omega)
          have hCr : (Value.slice ac nc cc).ownBlock ≠ some C := fun e => by have := (p4.own e).1; have := HH1.out.box.lt; omega
          refine ⟨⟨(HH1.out.box.old b3.out).set 0 _, ?_⟩, fun g' e => .inr (by have := (p4.own e).1; have := HB1.out.size; omega), ?_, ?_⟩
          · refine PRow.mono (b := w1.heap.size) ?_ (by have := HB.out; have := HH1.out.box.lt; omega)
            exact ownsRow_setCell_other p4 (a := ⟨C, 0, none⟩) hCr _
          · exact ⟨by rw [size_setCell]; exact hbw.size, fun j hj hC _ => (Below.heap_setCell wc ⟨C, 0, none⟩ _ j hC).trans (hbw.block j hj)⟩
          · exact ⟨hlow.os, hlow.tape, hlow.output, by rw [size_setCell]; exact hlow.size, fun j hj => (Below.heap_setCell wc ⟨C, 0, none⟩ _ j (by show j ≠ C; have := HB.out; omega)).trans (hlow.block j hj)⟩
        clear p4 p3 HH HH1 HP HI b1 b2 b3
        go_wp2_with (at_builtin; first | refine wpList_append_want _ _ rfl rfl (by rfl) rfl rfl r1.out ?_ | refine wpList_append_want _ _ rfl rfl (by rfl) rfl rfl r2.out ?_ | refine wpList_append_want _ _ rfl rfl (by rfl) rfl rfl r3.out ?_)
        go_ret
        refine ⟨by rw [HV.out]; rfl, _, HR.out⟩
end Go.Proofs.Ytklnnkdcnaieoaa
