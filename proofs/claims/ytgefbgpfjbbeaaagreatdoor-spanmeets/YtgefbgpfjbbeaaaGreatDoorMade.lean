/- What value.made and Make do (contracts; nothing is claimed here). -/
import Derived.Test.YtgefbgpfjbbeaaaGreatDoorJ2
namespace Go.Proofs.YtgefbgpfjbbeaaaGreatDoor
open Go.RowKit Go.Vf

/-- What a part that may be looks like. -/
inductive Shp : Prt → Prop where
  | null : Shp (.mk 0 false false ⟨#[]⟩ ⟨#[]⟩ [])
  | truth (y : Bool) : Shp (.mk 1 y false ⟨#[]⟩ ⟨#[]⟩ [])
  | num (b : Bool) (m : ByteArray) : Shp (.mk 2 false b m ⟨#[]⟩ [])
  | raw (k : Int) (r : ByteArray) : isRawK k = true → Shp (.mk k false false ⟨#[]⟩ r [])
  | tup (l : List Prt) : l.length ≤ 1024 → l.all may = true → Shp (.mk 7 false false ⟨#[]⟩ ⟨#[]⟩ l)
theorem empty_of {m : ByteArray} (h : m.size = 0) : m = ⟨#[]⟩ := by
  obtain ⟨⟨l⟩⟩ := m
  cases l with
  | nil => rfl
  | cons a r => simp [ByteArray.size] at h
theorem may_shape {p : Prt} (h : may p = true) : Shp p := by
  cases p with | mk k y n m r l =>
  rw [may_mk] at h
  simp only [Bool.and_eq_true, Bool.or_eq_true, Bool.not_eq_true', beq_iff_eq, bne_iff_ne, decide_eq_true_eq] at h
  obtain ⟨⟨⟨⟨h1, h2⟩, h3⟩, h4⟩, h5, h6⟩ := h
  have hm : k ≠ 2 → n = false ∧ m = ⟨#[]⟩ := fun hk => by
    rcases h2 with h2 | ⟨h2, h3⟩
    · exact absurd h2 hk
    · exact ⟨h2, empty_of h3⟩
  have hy : k ≠ 1 → y = false := fun hk => by
    rcases h1 with h1 | h1
    · exact absurd h1 hk
    · exact h1
  have hl : k ≠ 7 → l = [] := fun hk => by
    rcases h4 with h4 | h4
    · exact absurd h4 hk
    · exact List.eq_nil_of_length_eq_zero h4
  have hr : isRawK k = false → r = ⟨#[]⟩ := fun hk => by
    rcases h3 with h3 | h3
    · rw [hk] at h3; cases h3
    · exact empty_of h3
  by_cases hk : isRawK k = true
  · have h7 : k ≠ 7 := by rintro rfl; simp [isRawK] at hk
    have h2' : k ≠ 2 := by rintro rfl; simp [isRawK] at hk
    have h1' : k ≠ 1 := by rintro rfl; simp [isRawK] at hk
    obtain ⟨rfl, rfl⟩ := hm h2'
    obtain rfl := hy h1'
    obtain rfl := hl h7
    exact .raw k r hk
  · have hk' : isRawK k = false := by simpa using hk
    obtain rfl := hr hk'
    rcases h5 with ((((h5 | h5) | h5) | h5) | h5) | h5
    · subst h5
      obtain ⟨rfl, rfl⟩ := hm (by decide)
      obtain rfl := hy (by decide)
      obtain rfl := hl (by decide)
      exact .null
    · subst h5
      obtain ⟨rfl, rfl⟩ := hm (by decide)
      obtain rfl := hl (by decide)
      exact .truth y
    · obtain ⟨h5, _⟩ := h5
      subst h5
      obtain rfl := hy (by decide)
      obtain rfl := hl (by decide)
      exact .num n m
    · obtain ⟨h5, _⟩ := h5
      exfalso
      rcases h5 with (h5 | h5) | h5 <;> (subst h5; simp [isRawK] at hk')
    · obtain ⟨h5, _⟩ := h5
      subst h5; simp [isRawK] at hk'
    · obtain ⟨h5, h8⟩ := h5
      subst h5
      obtain ⟨rfl, rfl⟩ := hm (by decide)
      obtain rfl := hy (by decide)
      exact .tup l h8 (h6.resolve_left (by simp))

theorem info31 : (Tryz.prog.info? 36).map (fun i => (i.zero, i.size, i.bytes)) = some (some .nilIface, 1, 16) := by kernel_rfl
theorem made_at (n j : Nat) (h : j < n) : (madeCells #[.nilIface] n)[j]? = some .nilIface := by simp [madeCells, h, Nat.mod_one]
theorem made_size (z : Array Value) (n : Nat) : (madeCells z n).size = n := size_madeCells z n

/-- Cells of a block whose first j are the values of these parts. -/
structure Sofar (w : World) (h0 j : Nat) (cs : Array Value) (l : List Prt) (ln : Nat) : Prop where
  blk : Blk w h0 36 cs
  size : cs.size = ln
  vals : ∀ i (hi : i < l.length) (hc : i < cs.size), i < j → VIn w (h0 + 1) w.heap.size cs[i] l[i]

set_option maxHeartbeats 2000000 in
set_option maxRecDepth 20000 in
theorem made_any : ∀ (p : Prt), Fits p → may p = true → dep p ≤ 1000 → ∀ (a : Option Addr) (c lo n₀ : Nat) (w : World), n₀ ≤ w.heap.size → PIn w lo n₀ p a →
    Calls Tryz.prog 22 #[pV p a c] w fun e w' => ∃ v, e = .returned v ∧ VIn w' w.heap.size w'.heap.size v p ∧ Below w.heap.size w w' := by
  intro p
  induction p using Prt.ind with
  | h k y n m r l ih =>
    intro hf hmay hdep a c lo n₀ w hn₀ hin
    have hsh := may_shape hmay
    generalize hp : Prt.mk k y n m r l = p at hsh hmay hf hin hdep ⊢
    cases hsh with
    | null =>
      clear ih hf hin hp hmay
      have hb1 := (Below.refl w.heap.size w).alloc (Nat.le_refl _) (.cells #[.int .u8 0, .bool false, .bool false, .string ⟨#[]⟩, .string ⟨#[]⟩, .slice a 0 c] 44)
      unfold pV
      simp only [Prt.kind, Prt.yes, Prt.neg, Prt.mag, Prt.raw, Prt.items, List.length_nil]
      go_enter Tryz.func22, Tryz.ntmps22
      go_wp2_with fail
      go_ret
      exact ⟨_, rfl, .null, hb1⟩
    | truth y =>
      clear ih hf hin hp hmay
      have hb1 := (Below.refl w.heap.size w).alloc (Nat.le_refl _) (.cells #[.int .u8 1, .bool y, .bool false, .string ⟨#[]⟩, .string ⟨#[]⟩, .slice a 0 c] 44)
      unfold pV
      simp only [Prt.kind, Prt.yes, Prt.neg, Prt.mag, Prt.raw, Prt.items, List.length_nil]
      go_enter Tryz.func22, Tryz.ntmps22
      go_wp2_with fail
      go_ret
      exact ⟨_, rfl, .truth y, hb1⟩
    | num b m =>
      clear ih hf hin hp hmay
      have hb1 := (Below.refl w.heap.size w).alloc (Nat.le_refl _) (.cells #[.int .u8 2, .bool false, .bool b, .string m, .string ⟨#[]⟩, .slice a 0 c] 44)
      unfold pV
      simp only [Prt.kind, Prt.yes, Prt.neg, Prt.mag, Prt.raw, Prt.items, List.length_nil]
      go_enter Tryz.func22, Tryz.ntmps22
      go_wp2_with fail
      go_ret
      exact ⟨_, rfl, .num b m, hb1⟩
    | raw k r hk =>
      clear ih hf hin hp hmay
      have hb1 := (Below.refl w.heap.size w).alloc (Nat.le_refl _) (.cells #[.int .u8 k, .bool false, .bool false, .string ⟨#[]⟩, .string r, .slice a 0 c] 44)
      have t0 : (k == 0) = false := beq_eq_false_iff_ne.2 (by rintro rfl; simp [isRawK] at hk)
      have t1 : (k == 1) = false := beq_eq_false_iff_ne.2 (by rintro rfl; simp [isRawK] at hk)
      have t2 : (k == 2) = false := beq_eq_false_iff_ne.2 (by rintro rfl; simp [isRawK] at hk)
      have t7 : (k == 7) = false := beq_eq_false_iff_ne.2 (by rintro rfl; simp [isRawK] at hk)
      unfold pV
      simp only [Prt.kind, Prt.yes, Prt.neg, Prt.mag, Prt.raw, Prt.items, List.length_nil]
      have HK : Hid (isRawK k = true) := hk
      clear hk
      go_enter Tryz.func22, Tryz.ntmps22
      go_wp2_with fail
      go_ret
      exact ⟨_, rfl, .raw k r HK.out, hb1⟩
    | tup l' hlen hall =>
      injection hp with e1 e2 e3 e4 e5 e6
      subst e6
      clear e1 e2 e3 e4 e5
      have hd : dep (.mk 7 false false ⟨#[]⟩ ⟨#[]⟩ l) = depL l + 1 := by rw [dep, if_pos rfl]
      rw [hd] at hdep
      obtain ⟨ln, hln⟩ : ∃ ln, l.length = ln := ⟨_, rfl⟩
      have HLN : Hid (l.length = ln) := hln
      unfold pV
      simp only [Prt.kind, Prt.yes, Prt.neg, Prt.mag, Prt.raw, Prt.items]
      rw [hln] at hlen ⊢
      clear hln hd
      have hb1 := (Below.refl w.heap.size w).alloc (Nat.le_refl _) (.cells #[.int .u8 7, .bool false, .bool false, .string ⟨#[]⟩, .string ⟨#[]⟩, .slice a ln c] 44)
      have hb0 := Blk.new w 44 #[.int .u8 7, .bool false, .bool false, .string ⟨#[]⟩, .string ⟨#[]⟩, .slice a ln c]
      have hs1 := alloc_size w (.cells #[.int .u8 7, .bool false, .bool false, .string ⟨#[]⟩, .string ⟨#[]⟩, .slice a ln c] 44)
      obtain ⟨c0, c1, c2, c3, c4, c5⟩ := hb0.c6
      have hmk : ∀ w : World, (Instr.makeSlice 107 (.int .i64 (ln : Int)) (.int .i64 (ln : Int))).run Tryz.prog w = .ok (.slice (some ⟨w.heap.size, 0, none⟩) ln ln) (w.alloc (.cells (madeCells #[.nilIface] ln) 36)) := fun w =>
        run_make_row' (P := Tryz.prog) 107 36 .nilIface 16 Tryz.underlying107 info31 rfl .i64 .i64 ln (by omega) (by omega) w
      go_enter Tryz.func22, Tryz.ntmps22
      go_upto_region 10 with fail
      have hb2 := hb1.alloc hb1.size (.cells (madeCells #[.nilIface] ln) 36)
      have hB := Blk.new (w.alloc (.cells #[.int .u8 7, .bool false, .bool false, .string ⟨#[]⟩, .string ⟨#[]⟩, .slice a ln c] 44)) 36 (madeCells #[.nilIface] ln)
      have hs2 := alloc_size (w.alloc (.cells #[.int .u8 7, .bool false, .bool false, .string ⟨#[]⟩, .string ⟨#[]⟩, .slice a ln c] 44)) (.cells (madeCells #[.nilIface] ln) 36)
      have hb5 := (Below.refl _ (w.alloc (.cells #[.int .u8 7, .bool false, .bool false, .string ⟨#[]⟩, .string ⟨#[]⟩, .slice a ln c] 44))).alloc (Nat.le_refl _) (.cells (madeCells #[.nilIface] ln) 36)
      have c5' := (hb0.old hb5).cell 5
      rw [hs1] at hB hs2
      generalize (w.alloc (.cells #[.int .u8 7, .bool false, .bool false, .string ⟨#[]⟩, .string ⟨#[]⟩, .slice a ln c] 44)).alloc (.cells (madeCells #[.nilIface] ln) 36) = w2 at hb2 hB hs2 c5' ⊢
      have c6 : w2.cell? ⟨w.heap.size, 5, none⟩ = some (.slice a ln c) := c5'
      clear c5' c0 c1 c2 c3 c4 c5 hb5 hb1 hb0 hs1
      go_wp2_with fail
      have hS0 : Sofar w2 (w.heap.size + 1) 0 (madeCells #[.nilIface] ln) l ln := ⟨hB, made_size _ _, fun i _ _ h => by omega⟩
      go_loopw [31] (fun i wr => ∃ (j : Nat) (cs : Array Value), j ≤ ln ∧ i = .int .i64 j ∧ Sofar wr (w.heap.size + 1) j cs l ln ∧ Below w.heap.size w wr ∧ w.heap.size + 2 ≤ wr.heap.size) (fun i _ => ln - (intOf i).toNat)
      case atStart => exact ⟨0, _, by omega, rfl, hS0, hb2, by omega⟩
      case round =>
        clear hS0 hB c6
        obtain ⟨j, cs, hj, rfl, hS, hbel, hgt⟩ := hrel
        by_cases hlt : j < ln
        · have hlt2 : j < l.length := by rw [HLN.out]; exact hlt
          obtain ⟨bb, off, aj, cj, ha, _, _, hrow, hinj⟩ := (hin.keep hbel hn₀).at hlt2
          simp only [Prt.items] at ha hrow hinj
          subst ha
          obtain ⟨r0, r1, r2, r3, r4, r5⟩ := hrow
          have hfj := hf.mem (p := .mk 7 false false ⟨#[]⟩ ⟨#[]⟩ l) (List.getElem_mem hlt2)
          have hmj : may l[j] = true := List.all_eq_true.1 hall _ (List.getElem_mem hlt2)
          have hdj : dep l[j] ≤ 1000 := by have := depL_mem (List.getElem_mem hlt2); omega
          have ihj := ih _ (List.getElem_mem hlt2) hfj hmj hdj
          clear hfj hmj hdj
          obtain ⟨x, hx⟩ : ∃ x, l[j] = x := ⟨_, rfl⟩
          have HX : Hid (l[j] = x) := hx
          rw [hx] at r0 r1 r2 r3 r4 r5 hinj ihj
          clear hx
          have hsz := hbel.size
          have hby := (Below.refl wr.heap.size wr).alloc (Nat.le_refl _) (.cells #[.int .u8 x.kind, .bool x.yes, .bool x.neg, .string x.mag, .string x.raw, .slice aj x.items.length cj] 44)
          have hbz := alloc_size wr (.cells #[.int .u8 x.kind, .bool x.yes, .bool x.neg, .string x.mag, .string x.raw, .slice aj x.items.length cj] 44)
          have hcall := ihj aj cj lo n₀ _ (Nat.le_trans (by omega) hby.size) (hinj.keep hby (by omega))
          unfold pV at hcall
          have hB2 := hS.blk.below hby hS.blk.lt
          clear ihj hinj ih hin hf hall hmay
          go_wp2_with fail
          refine hcall.mono ?_
          rintro _ w3 ⟨v, rfl, hv, hb3⟩
          have hB3 := hB2.old hb3
          have hcs := hS.size
          have s0 : w3.cell? ⟨w.heap.size + 1, j, none⟩ = some (cs[j]'(by omega)) := by
            rw [hB3.cell]; simp
          have s1 := hB3.frozen j
          have hs3 := hb3.size
          rw [hbz] at hs3 hb3 hv
          have hB4 := hB3.set j v
          have hbw : Below w.heap.size w (w3.setCell ⟨w.heap.size + 1, j, none⟩ v) := (hbel.trans ((hby.mono hsz).trans (hb3.mono (by omega)))).setCell (p := ⟨w.heap.size + 1, j, none⟩) (by show _ ≤ w.heap.size + 1; omega) v
          have hkeep : ∀ b, w.heap.size + 2 ≤ b → (w3.setCell ⟨w.heap.size + 1, j, none⟩ v).heap[b]? = w3.heap[b]? := fun b hb => Below.heap_setCell w3 ⟨w.heap.size + 1, j, none⟩ v b (by show b ≠ w.heap.size + 1; omega)
          have hsz4 : (w3.setCell ⟨w.heap.size + 1, j, none⟩ v).heap.size = w3.heap.size := by simp [World.setCell]
          have hS4 : Sofar (w3.setCell ⟨w.heap.size + 1, j, none⟩ v) (w.heap.size + 1) (j + 1) (cs.setIfInBounds j v) l ln := by
            refine ⟨hB4, by simp [hcs], fun i hi hc hij => ?_⟩
            rw [hsz4]
            by_cases e : i = j
            · subst e
              rw [Array.getElem_setIfInBounds_self]
              have hx := HX.out
              rw [hx]
              exact (hv.keep (fun b h1 h2 => hkeep b (by omega))).mono (Nat.le_refl _) (by omega)
            · rw [show (cs.setIfInBounds j v)[i]'hc = cs[i]'(by simpa using hc) by rw [Array.getElem_setIfInBounds (by simpa using hc)]; rw [if_neg (Ne.symm e)]]
              have h0 := hS.vals i hi (by simpa using hc) (by omega)
              have h1 := h0.old (hby.trans (hb3.mono (by omega))) (Nat.le_refl _)
              exact (h1.keep (fun b q1 q2 => hkeep b (by omega))).mono (by omega) (Nat.le_refl _)
          have hform := hv.form
          clear hS hv hB4 hB3 hB2 hkeep hcall
          rcases hform with rfl | ⟨tv, xv, rfl⟩
          · go_wp2_with fail
            go_roundw
            case rel => exact ⟨j + 1, _, by omega, by simp, hS4, hbw, by omega⟩
            case measure => simp only [intOf]; omega
          · go_wp2_with fail
            go_roundw
            case rel => exact ⟨j + 1, _, by omega, by simp, hS4, hbw, by omega⟩
            case measure => simp only [intOf]; omega
        · have hjl : j = ln := by omega
          have hcs := hS.size
          have hBl := hS.blk
          have htup := tupleOf_any l (by rw [HLN.out]; omega) (by omega) (some ⟨w.heap.size + 1, 0, none⟩) ln (w.heap.size + 1) wr.heap.size (fun i => cs[i]?.getD .nilIface) wr
            (fun i hi => ⟨w.heap.size + 1, 0, rfl, Nat.le_refl _, by omega, by
              rw [hBl.cell, Nat.zero_add]
              have : i < cs.size := by rw [hcs, ← HLN.out]; exact hi
              simp [this]⟩)
            (fun i hi => by
              have hc : i < cs.size := by rw [hcs, ← HLN.out]; exact hi
              have := hS.vals i hi hc (by rw [hjl, ← HLN.out]; exact hi)
              simp only [Array.getElem?_eq_getElem hc, Option.getD_some]
              exact this.mono (Nat.le_refl _) (by omega))
          rw [HLN.out] at htup
          have hfin : ∀ w5, w5 = wr.alloc (.cells #[.slice (some ⟨w.heap.size + 1, 0, none⟩) ln ln, .int .i64 ((depL l + 1 : Nat) : Int)] 147) → VIn w5 w.heap.size w5.heap.size (.iface 108 (.pointer (some ⟨wr.heap.size, 0, none⟩))) (.mk 7 false false ⟨#[]⟩ ⟨#[]⟩ l) ∧ Below w.heap.size w w5 := by
            rintro _ rfl
            have q1 := (Below.refl wr.heap.size wr).alloc (Nat.le_refl _) (.cells #[.slice (some ⟨w.heap.size + 1, 0, none⟩) ln ln, .int .i64 ((depL l + 1 : Nat) : Int)] 147)
            have q2 := alloc_size wr (.cells #[.slice (some ⟨w.heap.size + 1, 0, none⟩) ln ln, .int .i64 ((depL l + 1 : Nat) : Int)] 147)
            have q3 := Blk.new wr 147 #[.slice (some ⟨w.heap.size + 1, 0, none⟩) ln ln, .int .i64 ((depL l + 1 : Nat) : Int)]
            refine ⟨?_, hbel.alloc hbel.size _⟩
            refine .tup (fun i => cs[i]?.getD .nilIface) (c := ln) (a := some ⟨w.heap.size + 1, 0, none⟩) (by have := hbel.size; omega) (by omega) (by rw [HLN.out]; exact q3) (fun i hi => ⟨w.heap.size + 1, 0, rfl, by omega, by omega, ?_⟩) (fun i hi => ?_)
            · rw [cell_block (q1.block _ (by omega)), hBl.cell, Nat.zero_add]
              have : i < cs.size := by rw [hcs, ← HLN.out]; exact hi
              simp [this]
            · have hc : i < cs.size := by rw [hcs, ← HLN.out]; exact hi
              have := hS.vals i hi hc (by rw [hjl, ← HLN.out]; exact hi)
              simp only [Array.getElem?_eq_getElem hc, Option.getD_some]
              exact (this.old q1 (Nat.le_refl _)).mono (by omega) (by omega)
          clear hS ih hin hf hall hmay hjl hBl
          go_wp2_with fail
          refine htup.mono ?_
          rintro _ w5 ⟨rfl, h5⟩
          obtain ⟨f1, f2⟩ := hfin w5 h5
          clear hfin h5
          go_wp2_with fail
          go_ret
          exact ⟨_, rfl, f1, f2⟩

theorem make_any (p : Prt) (hf : Fits p) (a : Option Addr) (c lo n₀ : Nat) (w : World) (hn₀ : n₀ ≤ w.heap.size) (hin : PIn w lo n₀ p a) :
    Calls Tryz.prog 14 #[pV p a c] w fun e w' => Below w.heap.size w w' ∧
      ((deeper 16 p = true ∧ e = .returned (.tuple #[.nilIface, .int .i64 91])) ∨ (deeper 16 p = false ∧ may p = false ∧ e = .returned (.tuple #[.nilIface, .int .i64 90])) ∨
        (deeper 16 p = false ∧ may p = true ∧ ∃ v, e = .returned (.tuple #[v, .int .i64 0]) ∧ VIn w' w.heap.size w'.heap.size v p)) := by
  have hb0 := Blk.new w 44 #[.int .u8 p.kind, .bool p.yes, .bool p.neg, .string p.mag, .string p.raw, .slice a p.items.length c]
  have hb1 := (Below.refl w.heap.size w).alloc (Nat.le_refl _) (.cells #[.int .u8 p.kind, .bool p.yes, .bool p.neg, .string p.mag, .string p.raw, .slice a p.items.length c] 44)
  have hc := deeper_any 16 (by omega) p hf a c lo n₀ _ (Nat.le_trans hn₀ hb1.size) (hin.keep hb1 hn₀)
  have hm := fun w' (h : n₀ ≤ w'.heap.size) hi => mayBe_any p hf a c lo n₀ w' h hi
  have hmd := fun h1 h2 w' (h : n₀ ≤ w'.heap.size) hi => made_any p hf h1 h2 a c lo n₀ w' h hi
  have hin1 := hin.keep hb1 hn₀
  have hsz := hb1.size
  have hdd := deeper_dep 16 p
  unfold pV at hc hm hmd ⊢
  clear hin hf
  cases hd : deeper 16 p with
  | true =>
    rw [hd] at hc
    clear hd hm hin1 hmd hdd
    go_enter Tryz.func14, Tryz.ntmps14
    go_wp2_with fail
    refine hc.mono ?_
    rintro _ w2 ⟨rfl, hb3⟩
    go_wp2_with fail
    go_ret2
    exact ⟨hb1.trans (hb3.mono hb1.size), .inl ⟨trivial, rfl⟩⟩
  | false =>
    rw [hd] at hc hdd
    have hdp : dep p ≤ 16 := by
      have := of_decide_eq_false hdd.symm
      omega
    clear hd hdd
    cases hy : may p with
    | true =>
      rw [hy] at hm
      have hmd2 := hmd hy (by omega)
      clear hy hmd
      go_enter Tryz.func14, Tryz.ntmps14
      go_wp2_with fail
      refine hc.mono ?_
      rintro _ w2 ⟨rfl, hb3⟩
      have h3 := hm w2 (by have := hb3.size; omega) (hin1.keep hb3 (by omega))
      obtain ⟨c0, c1, c2, c3, c4, c5⟩ := (hb0.old hb3).c6
      clear hm
      go_wp2_with fail
      refine h3.mono ?_
      rintro _ w3 ⟨rfl, hb4⟩
      have h5 := hmd2 w3 (by have := hb3.size; have := hb4.size; omega) ((hin1.keep hb3 (by omega)).keep hb4 (by have := hb3.size; omega))
      obtain ⟨c0, c1, c2, c3, c4, c5⟩ := ((hb0.old hb3).old hb4).c6
      clear hmd2 hin1
      go_wp2_with fail
      refine h5.mono ?_
      rintro _ w4 ⟨v, rfl, hv, hb5⟩
      go_wp2_with fail
      go_ret2
      have e3 := hb3.size
      have e4 := hb4.size
      exact ⟨hb1.trans ((hb3.mono hb1.size).trans ((hb4.mono (by omega)).trans (hb5.mono (by omega)))), .inr (.inr ⟨trivial, trivial, v, rfl, hv.mono (Nat.le_refl _) (by omega)⟩)⟩
    | false =>
      rw [hy] at hm
      clear hy hmd
      go_enter Tryz.func14, Tryz.ntmps14
      go_wp2_with fail
      refine hc.mono ?_
      rintro _ w2 ⟨rfl, hb3⟩
      have h3 := hm w2 (by have := hb3.size; omega) (hin1.keep hb3 (by omega))
      obtain ⟨c0, c1, c2, c3, c4, c5⟩ := (hb0.old hb3).c6
      clear hm hin1
      go_wp2_with fail
      refine h3.mono ?_
      rintro _ w3 ⟨rfl, hb4⟩
      go_wp2_with fail
      go_ret2
      have e3 := hb3.size
      exact ⟨hb1.trans ((hb3.mono hb1.size).trans (hb4.mono (by omega))), .inr (.inl ⟨trivial, trivial, rfl⟩)⟩
end Go.Proofs.YtgefbgpfjbbeaaaGreatDoor
