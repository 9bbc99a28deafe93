/- What Tell answers lies apart (contracts; nothing is claimed here). -/
import Derived.Test.YtnjfkijekohdkaaDoorSof
namespace Go.Proofs.YtnjfkijekohdkaaDoor
open Go.RowKit Go.Vf
/-- The contract of Tell at a part: its rows lie apart. -/
def TellOk2 (p : Prt) : Prop := ∀ (v : Value) (lo n₀ : Nat) (w : World), n₀ ≤ w.heap.size → VIn w lo n₀ v p →
    Calls Tryd.prog 17 #[v] w fun e w' => ∃ a c, e = .returned (pV p a c) ∧ WIn w' w.heap.size w'.heap.size p a c ∧ Below w.heap.size w w'
theorem truthPart_nil (y : Bool) (w : World) : Calls Tryd.prog 85 #[.agg #[.bool y]] w fun e w' => e = .returned (pV (.mk 1 y false ⟨#[]⟩ ⟨#[]⟩ []) none 0) ∧ Below w.heap.size w w' := by
  have hb1 := (Below.refl w.heap.size w).alloc (Nat.le_refl _) (.cells #[.bool y] 79)
  have hb2 := hb1.alloc hb1.size (.cells #[.int .u8 1, .bool y, .bool false, .string ⟨#[]⟩, .string ⟨#[]⟩, .slice none 0 0] 29)
  have hB := Blk.new (w.alloc (.cells #[.bool y] 79)) 29 #[.int .u8 1, .bool y, .bool false, .string ⟨#[]⟩, .string ⟨#[]⟩, .slice none 0 0]
  rw [alloc_size] at hB
  go_enter Tryd.func85, Tryd.ntmps85
  go_wp2_with fail
  refine bodyPost_ret (res71_run hB rfl) rfl ?_
  exact ⟨rfl, hb2⟩

theorem numPart_nil (b : Bool) (m : ByteArray) (w : World) : Calls Tryd.prog 87 #[.agg #[.bool b, .string m]] w fun e w' => e = .returned (pV (.mk 2 false b m ⟨#[]⟩ []) none 0) ∧ Below w.heap.size w w' := by
  have hb1 := (Below.refl w.heap.size w).alloc (Nat.le_refl _) (.cells #[.bool b, .string m] 81)
  have hb2 := hb1.alloc hb1.size (.cells #[.int .u8 2, .bool false, .bool b, .string m, .string ⟨#[]⟩, .slice none 0 0] 29)
  have hB := Blk.new (w.alloc (.cells #[.bool b, .string m] 81)) 29 #[.int .u8 2, .bool false, .bool b, .string m, .string ⟨#[]⟩, .slice none 0 0]
  rw [alloc_size] at hB
  go_enter Tryd.func87, Tryd.ntmps87
  go_wp2_with fail
  refine bodyPost_ret (res74_run hB rfl) rfl ?_
  exact ⟨rfl, hb2⟩

theorem rawPart_nil (k : Int) (r : ByteArray) (w : World) : Calls Tryd.prog 94 #[.agg #[.int .u8 k, .string r]] w fun e w' => e = .returned (pV (.mk k false false ⟨#[]⟩ r []) none 0) ∧ Below w.heap.size w w' := by
  have hb1 := (Below.refl w.heap.size w).alloc (Nat.le_refl _) (.cells #[.int .u8 k, .string r] 86)
  have hb2 := hb1.alloc hb1.size (.cells #[.int .u8 k, .bool false, .bool false, .string ⟨#[]⟩, .string r, .slice none 0 0] 29)
  have hB := Blk.new (w.alloc (.cells #[.int .u8 k, .string r] 86)) 29 #[.int .u8 k, .bool false, .bool false, .string ⟨#[]⟩, .string r, .slice none 0 0]
  rw [alloc_size] at hB
  go_enter Tryd.func94, Tryd.ntmps94
  go_wp2_with fail
  refine bodyPost_ret (res77_run hB rfl) rfl ?_
  exact ⟨rfl, hb2⟩

set_option maxHeartbeats 4000000 in
set_option maxRecDepth 20000 in
theorem tuplePart_two (l : List Prt) (hl : l.length ≤ 8388608) (ih : ∀ x ∈ l, TellOk2 x) (g c lo n₀ : Nat) (a : Option Addr) (V : Nat → Value) (w : World) (hn₀ : n₀ ≤ w.heap.size) (hg : g < n₀)
    (hB : Blk w g 115 #[.slice a l.length c, .int .i64 ((depL l + 1 : Nat) : Int)])
    (hc : ∀ j, j < l.length → ∃ h off, a = some ⟨h, off, none⟩ ∧ lo ≤ h ∧ h < n₀ ∧ w.cell? ⟨h, off + j, none⟩ = some (V j)) (hv : ∀ j (hj : j < l.length), VIn w lo n₀ (V j) l[j]) :
    Calls Tryd.prog 91 #[.pointer (some ⟨g, 0, none⟩)] w fun e w' => ∃ a c, e = .returned (pV (.mk 7 false false ⟨#[]⟩ ⟨#[]⟩ l) a c) ∧ WIn w' w.heap.size w'.heap.size (.mk 7 false false ⟨#[]⟩ ⟨#[]⟩ l) a c ∧ Below w.heap.size w w' := by
  obtain ⟨ln, hln⟩ : ∃ ln, l.length = ln := ⟨_, rfl⟩
  have HLN : Hid (l.length = ln) := hln
  rw [hln] at hl hB
  clear hln
  have hk0 : w.cell? ⟨g, 0, none⟩ = some (.slice a ln c) := hB.cell 0
  have hmk := run_make27 ln (by omega)
  have ha1 := (Below.refl w.heap.size w).alloc (Nat.le_refl _) (.cells #[.int .u8 0, .bool false, .bool false, .string ⟨#[]⟩, .string ⟨#[]⟩, .slice none 0 0] 29)
  have hs1 := alloc_size w (.cells #[.int .u8 0, .bool false, .bool false, .string ⟨#[]⟩, .string ⟨#[]⟩, .slice none 0 0] 29)
  have hB0 := Blk.new w 29 #[.int .u8 0, .bool false, .bool false, .string ⟨#[]⟩, .string ⟨#[]⟩, .slice none 0 0]
  have ha2 := ha1.alloc ha1.size (.cells (madeCells #[.int .u8 0, .bool false, .bool false, .string ⟨#[]⟩, .string ⟨#[]⟩, .slice none 0 0] (ln * 6)) 29)
  have hs2 := alloc_size (w.alloc (.cells #[.int .u8 0, .bool false, .bool false, .string ⟨#[]⟩, .string ⟨#[]⟩, .slice none 0 0] 29)) (.cells (madeCells #[.int .u8 0, .bool false, .bool false, .string ⟨#[]⟩, .string ⟨#[]⟩, .slice none 0 0] (ln * 6)) 29)
  have hB1 := Blk.new (w.alloc (.cells #[.int .u8 0, .bool false, .bool false, .string ⟨#[]⟩, .string ⟨#[]⟩, .slice none 0 0] 29)) 29 (madeCells #[.int .u8 0, .bool false, .bool false, .string ⟨#[]⟩, .string ⟨#[]⟩, .slice none 0 0] (ln * 6))
  have hk1 : (w.alloc (.cells #[.int .u8 0, .bool false, .bool false, .string ⟨#[]⟩, .string ⟨#[]⟩, .slice none 0 0] 29)).cell? ⟨g, 0, none⟩ = some (.slice a ln c) := (cell_block (ha1.block g (by omega)) 0).trans hk0
  go_enter Tryd.func91, Tryd.ntmps91
  go_upto_region 2 with fail
  have ha3 := ha2.alloc ha2.size (.cells #[.int .u8 7, .bool false, .bool false, .string ⟨#[]⟩, .string ⟨#[]⟩, .slice (some ⟨w.heap.size + 1, 0, none⟩) ln ln] 29)
  have hs3 := alloc_size ((w.alloc (.cells #[.int .u8 0, .bool false, .bool false, .string ⟨#[]⟩, .string ⟨#[]⟩, .slice none 0 0] 29)).alloc (.cells (madeCells #[.int .u8 0, .bool false, .bool false, .string ⟨#[]⟩, .string ⟨#[]⟩, .slice none 0 0] (ln * 6)) 29)) (.cells #[.int .u8 7, .bool false, .bool false, .string ⟨#[]⟩, .string ⟨#[]⟩, .slice (some ⟨w.heap.size + 1, 0, none⟩) ln ln] 29)
  have hB2 := Blk.new ((w.alloc (.cells #[.int .u8 0, .bool false, .bool false, .string ⟨#[]⟩, .string ⟨#[]⟩, .slice none 0 0] 29)).alloc (.cells (madeCells #[.int .u8 0, .bool false, .bool false, .string ⟨#[]⟩, .string ⟨#[]⟩, .slice none 0 0] (ln * 6)) 29)) 29 #[.int .u8 7, .bool false, .bool false, .string ⟨#[]⟩, .string ⟨#[]⟩, .slice (some ⟨w.heap.size + 1, 0, none⟩) ln ln]
  have hB1' := hB1.old ((Below.refl _ _).alloc (Nat.le_refl _) (.cells #[.int .u8 7, .bool false, .bool false, .string ⟨#[]⟩, .string ⟨#[]⟩, .slice (some ⟨w.heap.size + 1, 0, none⟩) ln ln] 29))
  have hB0' := (hB0.old ((Below.refl _ _).alloc (Nat.le_refl _) (.cells (madeCells #[.int .u8 0, .bool false, .bool false, .string ⟨#[]⟩, .string ⟨#[]⟩, .slice none 0 0] (ln * 6)) 29))).old ((Below.refl _ _).alloc (Nat.le_refl _) (.cells #[.int .u8 7, .bool false, .bool false, .string ⟨#[]⟩, .string ⟨#[]⟩, .slice (some ⟨w.heap.size + 1, 0, none⟩) ln ln] 29))
  rw [hs2, hs1] at hB2 hs3
  rw [hs1] at hB1'
  have hk2 : (((w.alloc (.cells #[.int .u8 0, .bool false, .bool false, .string ⟨#[]⟩, .string ⟨#[]⟩, .slice none 0 0] 29)).alloc (.cells (madeCells #[.int .u8 0, .bool false, .bool false, .string ⟨#[]⟩, .string ⟨#[]⟩, .slice none 0 0] (ln * 6)) 29)).alloc (.cells #[.int .u8 7, .bool false, .bool false, .string ⟨#[]⟩, .string ⟨#[]⟩, .slice (some ⟨w.heap.size + 1, 0, none⟩) ln ln] 29)).cell? ⟨g, 0, none⟩ = some (.slice a ln c) := (cell_block (ha3.block g (by omega)) 0).trans hk0
  generalize ((w.alloc (.cells #[.int .u8 0, .bool false, .bool false, .string ⟨#[]⟩, .string ⟨#[]⟩, .slice none 0 0] 29)).alloc (.cells (madeCells #[.int .u8 0, .bool false, .bool false, .string ⟨#[]⟩, .string ⟨#[]⟩, .slice none 0 0] (ln * 6)) 29)).alloc (.cells #[.int .u8 7, .bool false, .bool false, .string ⟨#[]⟩, .string ⟨#[]⟩, .slice (some ⟨w.heap.size + 1, 0, none⟩) ln ln] 29) = w3 at ha3 hs3 hB2 hB1' hB0' hk2 ⊢
  clear ha1 ha2 hs1 hs2 hB0 hB1 hk1 hmk
  go_wp2_with fail
  have hS0 : SofarQ WIn w3 (w.heap.size + 1) 0 (madeCells #[.int .u8 0, .bool false, .bool false, .string ⟨#[]⟩, .string ⟨#[]⟩, .slice none 0 0] (ln * 6)) l ln (fun _ => none) (fun _ => 0) (fun _ => w.heap.size + 1 + 1 + 1) := ⟨hB1', made_size _ _, by omega, fun _ _ _ _ => Nat.le_refl _, by omega, fun i _ h => by omega, fun i _ h => by omega⟩
  clear hk2
  go_loopw [18] (fun i wr => ∃ (j : Nat) (cs : Array Value) (A : Nat → Option Addr) (C P : Nat → Nat), j ≤ ln ∧ i = .int .i64 j ∧ SofarQ WIn wr (w.heap.size + 1) j cs l ln A C P ∧ Blk wr w.heap.size 29 #[.int .u8 0, .bool false, .bool false, .string ⟨#[]⟩, .string ⟨#[]⟩, .slice none 0 0] ∧ Blk wr (w.heap.size + 1 + 1) 29 #[.int .u8 7, .bool false, .bool false, .string ⟨#[]⟩, .string ⟨#[]⟩, .slice (some ⟨w.heap.size + 1, 0, none⟩) ln ln] ∧ Below w.heap.size w wr) (fun i _ => ln - (intOf i).toNat)
  case atStart => exact ⟨0, _, _, _, _, by omega, rfl, hS0, hB0', hB2, ha3⟩
  case round =>
    clear hS0 hB1' hB0' hB2 hs3 ha3
    obtain ⟨j, cs, A, C, P, hj, rfl, hS, hBz, hBp, hbel⟩ := hrel
    have hsz := hbel.size
    have hgt := hBp.lt
    by_cases hlt : j < ln
    · have hlt2 : j < l.length := by rw [HLN.out]; exact hlt
      obtain ⟨h, off, ha, q1, q2, q3⟩ := hc j hlt2
      subst ha
      have r0 : wr.cell? ⟨h, off + j, none⟩ = some (V j) := (cell_block (hbel.block h (by omega)) _).trans q3
      have hdr : Below wr.heap.size wr wr.drew := (Below.refl _ _).drew
      have hcall := ih l[j] (List.getElem_mem hlt2) (V j) lo n₀ wr.drew (by show n₀ ≤ wr.heap.size; omega) (((hv j hlt2).old hbel hn₀).old hdr (by omega))
      unfold pV at hcall
      have hszd : wr.drew.heap.size = wr.heap.size := rfl
      rw [hszd] at hcall
      have hcs := hS.size
      have hp5 : wr.cell? ⟨w.heap.size + 1 + 1, 5, none⟩ = some (.slice (some ⟨w.heap.size + 1, 0, none⟩) ln ln) := hBp.cell 5
      have HF : Hid (∀ w4, Below wr.heap.size wr.drew w4 → w4.cell? ⟨w.heap.size + 1 + 1, 5, none⟩ = some (.slice (some ⟨w.heap.size + 1, 0, none⟩) ln ln) ∧
          ((∃ y, w4.cell? ⟨w.heap.size + 1, j * 6, none⟩ = some y) ∧ (∃ y, w4.cell? ⟨w.heap.size + 1, j * 6 + 1, none⟩ = some y) ∧ (∃ y, w4.cell? ⟨w.heap.size + 1, j * 6 + 2, none⟩ = some y) ∧ (∃ y, w4.cell? ⟨w.heap.size + 1, j * 6 + 3, none⟩ = some y) ∧ (∃ y, w4.cell? ⟨w.heap.size + 1, j * 6 + 4, none⟩ = some y) ∧ (∃ y, w4.cell? ⟨w.heap.size + 1, j * 6 + 5, none⟩ = some y)) ∧
          w4.frozen? ⟨w.heap.size + 1, j * 6, none⟩ = false ∧ w4.frozen? ⟨w.heap.size + 1, j * 6 + 1, none⟩ = false ∧ w4.frozen? ⟨w.heap.size + 1, j * 6 + 2, none⟩ = false ∧ w4.frozen? ⟨w.heap.size + 1, j * 6 + 3, none⟩ = false ∧ w4.frozen? ⟨w.heap.size + 1, j * 6 + 4, none⟩ = false ∧ w4.frozen? ⟨w.heap.size + 1, j * 6 + 5, none⟩ = false) := by
        intro w4 hb4
        have hB4 := (hS.blk.old hdr).below hb4 hS.blk.lt
        have hP4 := (hBp.old hdr).below hb4 hBp.lt
        have y : ∀ k, k ≤ 5 → ∃ y, w4.cell? ⟨w.heap.size + 1, j * 6 + k, none⟩ = some y := fun k hk => ⟨_, (hB4.cell _).trans (Array.getElem?_eq_getElem (by omega))⟩
        exact ⟨hP4.cell 5, ⟨y 0 (by omega), y 1 (by omega), y 2 (by omega), y 3 (by omega), y 4 (by omega), y 5 (by omega)⟩, hB4.frozen _, hB4.frozen _, hB4.frozen _, hB4.frozen _, hB4.frozen _, hB4.frozen _⟩
      obtain ⟨x, hx⟩ : ∃ x, l[j] = x := ⟨_, rfl⟩
      have HX : Hid (l[j] = x) := hx
      rw [hx] at hcall
      generalize V j = vj at r0 hcall
      have hji : (j : Int) < (ln : Int) := by omega
      have HS : Hid (SofarQ WIn wr (w.heap.size + 1) j cs l ln A C P) := hS
      have HBz : Hid (Blk wr w.heap.size 29 #[.int .u8 0, .bool false, .bool false, .string ⟨#[]⟩, .string ⟨#[]⟩, .slice none 0 0]) := hBz
      have HBp : Hid (Blk wr (w.heap.size + 1 + 1) 29 #[.int .u8 7, .bool false, .bool false, .string ⟨#[]⟩, .string ⟨#[]⟩, .slice (some ⟨w.heap.size + 1, 0, none⟩) ln ln]) := hBp
      clear hx hS hBz hBp hc hv ih hB hk0 q3 hszd hcs
      go_wp2_with fail
      go_region_with (go_at_call 17; refine hcall.mono ?_; rintro _ w4 ⟨ax, cx, rfl, hpin, hb4⟩; obtain ⟨p5, ⟨⟨y0, p60⟩, ⟨y1, p61⟩, ⟨y2, p62⟩, ⟨y3, p63⟩, ⟨y4, p64⟩, ⟨y5, p65⟩⟩, f0, f1, f2, f3, f4, f5⟩ := HF.out w4 hb4)
      all_goals
        have hbx : Below wr.heap.size wr w4 := hdr.trans hb4
        have hst := HS.out.step rowyW (cx := cx) hlt (fun _ => HX.out) hbx hpin
        have hz5 : Blk (set6 w4 (w.heap.size + 1) (j * 6) (.int .u8 x.kind) (.bool x.yes) (.bool x.neg) (.string x.mag) (.string x.raw) (.slice ax x.items.length cx)) w.heap.size 29 #[.int .u8 0, .bool false, .bool false, .string ⟨#[]⟩, .string ⟨#[]⟩, .slice none 0 0] := (set6_other (by omega)).trans (HBz.out.old hbx)
        have hp6 : Blk (set6 w4 (w.heap.size + 1) (j * 6) (.int .u8 x.kind) (.bool x.yes) (.bool x.neg) (.string x.mag) (.string x.raw) (.slice ax x.items.length cx)) (w.heap.size + 1 + 1) 29 #[.int .u8 7, .bool false, .bool false, .string ⟨#[]⟩, .string ⟨#[]⟩, .slice (some ⟨w.heap.size + 1, 0, none⟩) ln ln] := (set6_other (by omega)).trans (HBp.out.old hbx)
        have hbw := set6_below (hbel.trans (hbx.mono hsz)) (show w.heap.size ≤ w.heap.size + 1 by omega) (j * 6) (.int .u8 x.kind) (.bool x.yes) (.bool x.neg) (.string x.mag) (.string x.raw) (.slice ax x.items.length cx)
        change Exit.inBlock 1 (Exit.then _ _) Exit.normal _ (set6 w4 (w.heap.size + 1) (j * 6) (.int .u8 x.kind) (.bool x.yes) (.bool x.neg) (.string x.mag) (.string x.raw) (.slice ax x.items.length cx))
        generalize set6 w4 (w.heap.size + 1) (j * 6) (.int .u8 x.kind) (.bool x.yes) (.bool x.neg) (.string x.mag) (.string x.raw) (.slice ax x.items.length cx) = w5 at hst hz5 hp6 hbw ⊢
        clear HF hcall p5 p60 p61 p62 p63 p64 p65 f0 f1 f2 f3 f4 f5 HS HBz HBp hpin hp5 r0
        go_wp2_with fail
        go_roundw
        case rel => exact ⟨j + 1, _, _, _, _, by omega, by simp, hst, hz5, hp6, hbw⟩
        case measure => simp only [intOf]; omega
    · have hjl : j = ln := by omega
      obtain ⟨c0, c1, c2, c3, c4, c5⟩ := hBp.c6
      obtain ⟨d0, d1, d2, d3, d4, d5⟩ := hBz.c6
      have f0 := hBz.frozen 0
      have f1 := hBz.frozen 1
      have f2 := hBz.frozen 2
      have f3 := hBz.frozen 3
      have f4 := hBz.frozen 4
      have f5 := hBz.frozen 5
      have hfin := hBz.set6 (.int .u8 7) (.bool false) (.bool false) (.string ⟨#[]⟩) (.string ⟨#[]⟩) (.slice (some ⟨w.heap.size + 1, 0, none⟩) ln ln)
      have hbw := set6_below hbel (Nat.le_refl _) 0 (.int .u8 7) (.bool false) (.bool false) (.string ⟨#[]⟩) (.string ⟨#[]⟩) (.slice (some ⟨w.heap.size + 1, 0, none⟩) ln ln)
      have hPin : WIn (set6 wr w.heap.size 0 (.int .u8 7) (.bool false) (.bool false) (.string ⟨#[]⟩) (.string ⟨#[]⟩) (.slice (some ⟨w.heap.size + 1, 0, none⟩) ln ln)) w.heap.size (set6 wr w.heap.size 0 (.int .u8 7) (.bool false) (.bool false) (.string ⟨#[]⟩) (.string ⟨#[]⟩) (.slice (some ⟨w.heap.size + 1, 0, none⟩) ln ln)).heap.size (.mk 7 false false ⟨#[]⟩ ⟨#[]⟩ l) (some ⟨w.heap.size + 1, 0, none⟩) ln := by
        have hblk : ∀ b, w.heap.size + 1 ≤ b → (set6 wr w.heap.size 0 (.int .u8 7) (.bool false) (.bool false) (.string ⟨#[]⟩) (.string ⟨#[]⟩) (.slice (some ⟨w.heap.size + 1, 0, none⟩) ln ln)).heap[b]? = wr.heap[b]? := fun b hb => set6_other (by omega)
        rw [set6_size]
        have hln2 := HLN.out
        have hp0 := hS.p0
        have q := fun k => cell_of_block (hblk (w.heap.size + 1) (Nat.le_refl _)) k
        refine .row A C P (by omega) hS.p0 (fun i' k' h1 h2 => hS.mono i' k' h1 (by simp only [Prt.items] at h2; omega)) (by simp only [Prt.items]; rw [hln2, ← hjl]; exact hS.top) ((hblk _ (Nat.le_refl _)).trans hS.blk) hS.size (by simp only [Prt.items]; omega) (by omega) (fun i hi => ?_) (fun i hi => ?_)
        · simp only [Prt.items] at hi ⊢
          obtain ⟨e0, e1, e2, e3, e4, e5⟩ := hS.row i hi (by omega)
          exact ⟨(q _).trans e0, (q _).trans e1, (q _).trans e2, (q _).trans e3, (q _).trans e4, (q _).trans e5⟩
        · simp only [Prt.items] at hi ⊢
          have hm := hS.mono 0 i (Nat.zero_le _) (by omega)
          exact (hS.win i hi (by omega)).keep fun b' q1 q2 => hblk b' (by omega)
      clear hjl hS hBp hBz hc hv ih hB hk0
      go_wp2_with fail
      refine bodyPost_ret (res69_run (b := w.heap.size) hfin rfl) rfl ?_
      refine ⟨some ⟨w.heap.size + 1, 0, none⟩, ln, ?_, hPin, hbw⟩
      unfold pV
      simp only [Prt.kind, Prt.yes, Prt.neg, Prt.mag, Prt.raw, Prt.items]
      rw [HLN.out]

set_option maxHeartbeats 2000000 in
set_option maxRecDepth 20000 in
theorem tell_two : ∀ (p : Prt), may p = true → TellOk2 p := by
  intro p
  induction p using Prt.ind with
  | h k y n m r l ih =>
    intro hf v lo n₀ w hn₀ hv
    have hb1 := (Below.refl w.heap.size w).alloc (Nat.le_refl _) (.cells #[.int .u8 0, .bool false, .bool false, .string ⟨#[]⟩, .string ⟨#[]⟩, .slice none 0 0] 29)
    have hB0 := Blk.new w 29 #[.int .u8 0, .bool false, .bool false, .string ⟨#[]⟩, .string ⟨#[]⟩, .slice none 0 0]
    have hs1 := alloc_size w (.cells #[.int .u8 0, .bool false, .bool false, .string ⟨#[]⟩, .string ⟨#[]⟩, .slice none 0 0] 29)
    cases hv with
    | null =>
      have hfin := hB0.set6 (.int .u8 0) (.bool false) (.bool false) (.string ⟨#[]⟩) (.string ⟨#[]⟩) (.slice none 0 0)
      clear ih hf
      go_enter Tryd.func17, Tryd.ntmps17
      go_wp2_with fail
      refine bodyPost_ret (res18_run (b := w.heap.size) hB0 rfl) rfl ?_
      exact ⟨none, 0, rfl, .none rfl, hb1⟩
    | truth y =>
      have hm := mPart_81 y
      have hc := truthPart_nil y
      unfold pV at hc ⊢
      simp only [Prt.kind, Prt.yes, Prt.neg, Prt.mag, Prt.raw, Prt.items, List.length_nil] at hc ⊢
      obtain ⟨d0, d1, d2, d3, d4, d5⟩ := hB0.c6
      clear ih hf
      go_enter Tryd.func17, Tryd.ntmps17
      go_wp2_with fail
      refine (hc _).mono ?_
      rintro _ w2 ⟨rfl, hb2⟩
      have hB2 := hB0.old hb2
      obtain ⟨d0, d1, d2, d3, d4, d5⟩ := hB2.c6
      have f0 := hB2.frozen 0
      have f1 := hB2.frozen 1
      have f2 := hB2.frozen 2
      have f3 := hB2.frozen 3
      have f4 := hB2.frozen 4
      have f5 := hB2.frozen 5
      have hfin := hB2.set6 (.int .u8 1) (.bool y) (.bool false) (.string ⟨#[]⟩) (.string ⟨#[]⟩) (.slice none 0 0)
      have hbw := set6_below (hb1.trans (hb2.mono hb1.size)) (Nat.le_refl _) 0 (.int .u8 1) (.bool y) (.bool false) (.string ⟨#[]⟩) (.string ⟨#[]⟩) (.slice none 0 0)
      go_wp2_with fail
      refine bodyPost_ret (res18_run (b := w.heap.size) hfin rfl) rfl ?_
      exact ⟨none, 0, rfl, .none rfl, hbw⟩
    | num b m =>
      have hm := mPart_83 n m
      have hc := numPart_nil n m
      unfold pV at hc ⊢
      simp only [Prt.kind, Prt.yes, Prt.neg, Prt.mag, Prt.raw, Prt.items, List.length_nil] at hc ⊢
      obtain ⟨d0, d1, d2, d3, d4, d5⟩ := hB0.c6
      clear ih hf
      go_enter Tryd.func17, Tryd.ntmps17
      go_wp2_with fail
      refine (hc _).mono ?_
      rintro _ w2 ⟨rfl, hb2⟩
      have hB2 := hB0.old hb2
      obtain ⟨d0, d1, d2, d3, d4, d5⟩ := hB2.c6
      have f0 := hB2.frozen 0
      have f1 := hB2.frozen 1
      have f2 := hB2.frozen 2
      have f3 := hB2.frozen 3
      have f4 := hB2.frozen 4
      have f5 := hB2.frozen 5
      have hfin := hB2.set6 (.int .u8 2) (.bool false) (.bool n) (.string m) (.string ⟨#[]⟩) (.slice none 0 0)
      have hbw := set6_below (hb1.trans (hb2.mono hb1.size)) (Nat.le_refl _) 0 (.int .u8 2) (.bool false) (.bool n) (.string m) (.string ⟨#[]⟩) (.slice none 0 0)
      go_wp2_with fail
      refine bodyPost_ret (res18_run (b := w.heap.size) hfin rfl) rfl ?_
      exact ⟨none, 0, rfl, .none rfl, hbw⟩
    | raw k r hk =>
      have hm := mPart_85 k r
      have hc := rawPart_nil k r
      unfold pV at hc ⊢
      simp only [Prt.kind, Prt.yes, Prt.neg, Prt.mag, Prt.raw, Prt.items, List.length_nil] at hc ⊢
      obtain ⟨d0, d1, d2, d3, d4, d5⟩ := hB0.c6
      clear ih hf
      go_enter Tryd.func17, Tryd.ntmps17
      go_wp2_with fail
      refine (hc _).mono ?_
      rintro _ w2 ⟨rfl, hb2⟩
      have hB2 := hB0.old hb2
      obtain ⟨d0, d1, d2, d3, d4, d5⟩ := hB2.c6
      have f0 := hB2.frozen 0
      have f1 := hB2.frozen 1
      have f2 := hB2.frozen 2
      have f3 := hB2.frozen 3
      have f4 := hB2.frozen 4
      have f5 := hB2.frozen 5
      have hfin := hB2.set6 (.int .u8 k) (.bool false) (.bool false) (.string ⟨#[]⟩) (.string r) (.slice none 0 0)
      have hbw := set6_below (hb1.trans (hb2.mono hb1.size)) (Nat.le_refl _) 0 (.int .u8 k) (.bool false) (.bool false) (.string ⟨#[]⟩) (.string r) (.slice none 0 0)
      go_wp2_with fail
      refine bodyPost_ret (res18_run (b := w.heap.size) hfin rfl) rfl ?_
      exact ⟨none, 0, rfl, .none rfl, hbw⟩
    | @tup _ g c a V h1 h2 h3 h4 h5 =>
      have hm := mPart_74
      obtain ⟨hl, hml⟩ := may_tup hf
      have hcall := tuplePart_two l (by omega) (fun x hx => ih x hx (hml x hx)) g c lo n₀ a V (w.alloc (.cells #[.int .u8 0, .bool false, .bool false, .string ⟨#[]⟩, .string ⟨#[]⟩, .slice none 0 0] 29)) (by omega) h2 (h3.below hb1 (by omega)) (fun j hj => by
        obtain ⟨h, off, e, q1, q2, q3⟩ := h4 j hj
        exact ⟨h, off, e, q1, q2, (cell_block (hb1.block h (by omega)) _).trans q3⟩) (fun j hj => (h5 j hj).old hb1 hn₀)
      clear ih hf h3 h4 h5 hml hl
      unfold pV at hcall ⊢
      simp only [Prt.kind, Prt.yes, Prt.neg, Prt.mag, Prt.raw, Prt.items] at hcall ⊢
      go_enter Tryd.func17, Tryd.ntmps17
      go_wp2_with fail
      refine hcall.mono ?_
      rintro _ w2 ⟨ax, cx, rfl, hpx, hb2⟩
      have hB2 := hB0.old hb2
      obtain ⟨d0, d1, d2, d3, d4, d5⟩ := hB2.c6
      have f0 := hB2.frozen 0
      have f1 := hB2.frozen 1
      have f2 := hB2.frozen 2
      have f3 := hB2.frozen 3
      have f4 := hB2.frozen 4
      have f5 := hB2.frozen 5
      have hfin := hB2.set6 (.int .u8 7) (.bool false) (.bool false) (.string ⟨#[]⟩) (.string ⟨#[]⟩) (.slice ax l.length cx)
      have hbw := set6_below (hb1.trans (hb2.mono hb1.size)) (Nat.le_refl _) 0 (.int .u8 7) (.bool false) (.bool false) (.string ⟨#[]⟩) (.string ⟨#[]⟩) (.slice ax l.length cx)
      have hP : WIn (set6 w2 w.heap.size 0 (.int .u8 7) (.bool false) (.bool false) (.string ⟨#[]⟩) (.string ⟨#[]⟩) (.slice ax l.length cx)) w.heap.size (set6 w2 w.heap.size 0 (.int .u8 7) (.bool false) (.bool false) (.string ⟨#[]⟩) (.string ⟨#[]⟩) (.slice ax l.length cx)).heap.size (.mk 7 false false ⟨#[]⟩ ⟨#[]⟩ l) ax cx := by
        rw [set6_size]
        exact (hpx.keep (fun b q1 q2 => set6_other (by omega))).lower (by omega) (Nat.le_refl _)
      go_wp2_with fail
      refine bodyPost_ret (res18_run (b := w.heap.size) hfin rfl) rfl ?_
      exact ⟨ax, cx, rfl, hP, hbw⟩
end Go.Proofs.YtnjfkijekohdkaaDoor
