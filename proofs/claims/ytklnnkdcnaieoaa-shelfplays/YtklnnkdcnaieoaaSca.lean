/- What the statements' scan does (a contract; nothing is claimed here). -/
import Derived.Test.YtklnnkdcnaieoaaBxs
import Derived.Laws.EntriesVeiled
import Derived.Test.YtklnnkdcnaieoaaStt
import Derived.Test.YtklnnkdcnaieoaaCal
import Derived.Test.YtklnnkdcnaieoaaRnv
namespace Go.Proofs.Ytklnnkdcnaieoaa
open Go.RowKit Go.Vf
attribute [local go_sem] Oper.semAt_some

set_option maxRecDepth 100000 in
set_option maxHeartbeats 8000000 in
theorem scan_in (n : Nat) (hn : 12 ≤ n) (B C base : Nat) (L : List Pr) (v : Value) (x : Ca) (S : Nat) (w : World) (hs : ShAt w B L) (hr : RfAt w C base v L) (_hbB : base ≤ B) (hbC : base ≤ C) (hl : L.length ≤ 2147483646) (hS : S ≤ 8589934592) (hk1 : ∀ p ∈ L, p.1.size ≤ S) (hk2 : x.key.size ≤ S) (hf : x.f.size ≤ S) (ht : x.t.size ≤ S) :
    CallsIn Fence.wide n Try.prog 29 #[.pointer (some ⟨B, 0, none⟩), .pointer (some ⟨C, 0, none⟩), x.v] w (ActPost B C base L v S w) := by
  have b0 := (((((Below.refl w.heap.size w).alloc (Nat.le_refl _) (.cells #[.pointer (some ⟨B, 0, none⟩)] 24)).alloc (by simp) (.cells #[.pointer (some ⟨C, 0, none⟩)] 26)).alloc (by simp; omega) (.cells x.cells 31)).alloc (by simp; omega) (.cells #[.bool false] 4))
  have q0 : Blk ((((w.alloc (.cells #[.pointer (some ⟨B, 0, none⟩)] 24)).alloc (.cells #[.pointer (some ⟨C, 0, none⟩)] 26)).alloc (.cells x.cells 31)).alloc (.cells #[.bool false] 4)) w.heap.size 24 #[.pointer (some ⟨B, 0, none⟩)] ∧
      Blk ((((w.alloc (.cells #[.pointer (some ⟨B, 0, none⟩)] 24)).alloc (.cells #[.pointer (some ⟨C, 0, none⟩)] 26)).alloc (.cells x.cells 31)).alloc (.cells #[.bool false] 4)) (w.heap.size + 1) 26 #[.pointer (some ⟨C, 0, none⟩)] ∧
      Blk ((((w.alloc (.cells #[.pointer (some ⟨B, 0, none⟩)] 24)).alloc (.cells #[.pointer (some ⟨C, 0, none⟩)] 26)).alloc (.cells x.cells 31)).alloc (.cells #[.bool false] 4)) (w.heap.size + 1 + 1) 31 x.cells ∧
      Blk ((((w.alloc (.cells #[.pointer (some ⟨B, 0, none⟩)] 24)).alloc (.cells #[.pointer (some ⟨C, 0, none⟩)] 26)).alloc (.cells x.cells 31)).alloc (.cells #[.bool false] 4)) (w.heap.size + 1 + 1 + 1) 4 #[.bool false] := by
    have al : ∀ (W : World) (o : Obj), Below W.heap.size W (W.alloc o) := fun W o => (Below.refl W.heap.size W).alloc (Nat.le_refl _) o
    have e1 := Blk.new w 24 #[.pointer (some ⟨B, 0, none⟩)]
    have e2 := Blk.new (w.alloc (.cells #[.pointer (some ⟨B, 0, none⟩)] 24)) 26 #[.pointer (some ⟨C, 0, none⟩)]
    have e3 := Blk.new ((w.alloc (.cells #[.pointer (some ⟨B, 0, none⟩)] 24)).alloc (.cells #[.pointer (some ⟨C, 0, none⟩)] 26)) 31 x.cells
    have e4 := Blk.new (((w.alloc (.cells #[.pointer (some ⟨B, 0, none⟩)] 24)).alloc (.cells #[.pointer (some ⟨C, 0, none⟩)] 26)).alloc (.cells x.cells 31)) 4 #[.bool false]
    rw [alloc_size] at e2
    rw [alloc_size, alloc_size] at e3
    rw [alloc_size, alloc_size, alloc_size] at e4
    exact ⟨((e1.old (al _ _)).old (al _ _)).old (al _ _), (e2.old (al _ _)).old (al _ _), e3.old (al _ _), e4⟩
  have hs0 := hs.keep (KeepC.of b0)
  have hr0 := hr.keep (KeepC.of b0)
  obtain ⟨kind, oth, key, val, f, t, o, back, early⟩ := x
  dsimp only [Ca.v, Ca.cells] at *
  refine callsIn_of_wp_marks Try.func29 rfl trivial ?_ rfl
  simp only [Try.ntmps29, List.size_toArray, List.length_cons, List.length_nil, Nat.reduceAdd, Nat.reduceSub, Array.replicate_succ, Array.replicate_zero, List.push_toArray, List.append_toArray, List.nil_append, List.cons_append]
  gi_wp2
  generalize ((((w.alloc (.cells #[.pointer (some ⟨B, 0, none⟩)] 24)).alloc (.cells #[.pointer (some ⟨C, 0, none⟩)] 26)).alloc (.cells #[.int .i64 kind, .bool oth, .string key, .string val, .string f, .string t, .bool o, .bool back, .int .i64 early] 31)).alloc (.cells #[.bool false] 4)) = W0 at *
  obtain ⟨all, Hall⟩ : ∃ all, Hid (all = tellP f t o back L) := ⟨_, rfl⟩
  refine ⟨trivial, fun h => (by cases h), (callsIn_wide.2 (rscan_any W0 C base v L f t o back hr0 (by omega) (by omega) (by omega) (fun p hp => Nat.le_trans (hk1 p hp) (by omega)))).mono ?_⟩
  rintro e W1 ⟨wv, rfl, hrow, hb1⟩
  rw [← Hall.out] at hrow
  obtain ⟨aw, cw, ew⟩ := hrow.shape
  obtain ⟨nw, hnw⟩ : ∃ nw, nw = all.length := ⟨_, rfl⟩
  rw [← hnw] at ew
  have Hnw : Hid (nw = all.length) := hnw
  have hnwb : nw ≤ 2147483646 := by
    rw [hnw, Hall.out]
    refine Nat.le_trans ?_ hl
    unfold tellP
    split
    · rw [List.length_reverse]; exact List.length_filter_le _ _
    · exact List.length_filter_le _ _
  subst ew
  clear hnw
  have b2 := (Below.refl W1.heap.size W1).alloc (Nat.le_refl _) (.cells #[.slice aw nw cw] 39)
  have B2 := Blk.new W1 39 #[.slice aw nw cw]
  have b02 : Below W0.heap.size W0 (W1.alloc (.cells #[.slice aw nw cw] 39)) := hb1.trans (b2.mono hb1.size)
  have Hrow2 : Hid (PRow (W1.alloc (.cells #[.slice aw nw cw] 39)) W0.heap.size (.slice aw nw cw) all) := hrow.old b2
  obtain ⟨q1, q2, q3, q4⟩ := q0
  have HQ2 : Hid (Blk (W1.alloc (.cells #[.slice aw nw cw] 39)) w.heap.size 24 #[.pointer (some ⟨B, 0, none⟩)] ∧ Blk (W1.alloc (.cells #[.slice aw nw cw] 39)) (w.heap.size + 1) 26 #[.pointer (some ⟨C, 0, none⟩)] ∧ Blk (W1.alloc (.cells #[.slice aw nw cw] 39)) (w.heap.size + 1 + 1) 31 (Ca.cells ⟨kind, oth, key, val, f, t, o, back, early⟩) ∧ Blk (W1.alloc (.cells #[.slice aw nw cw] 39)) (w.heap.size + 1 + 1 + 1) 4 #[.bool false]) := ⟨q1.old b02, q2.old b02, q3.old b02, q4.old b02⟩
  have s2 := hs0.old b02
  have HR2 : Hid (RfAt (W1.alloc (.cells #[.slice aw nw cw] 39)) C base v L) := hr0.old b02
  have HB2 : Hid (Below w.heap.size w (W1.alloc (.cells #[.slice aw nw cw] 39))) := b0.trans (b02.mono b0.size)
  have HWB : Hid (w.heap.size ≤ W0.heap.size) := b0.size
  obtain ⟨x1, x2, x3, x4, x5, x6, x7, x8, x9⟩ := Blk.c9 (x := ⟨kind, oth, key, val, f, t, o, back, early⟩) (q3.old b02)
  have x0 := (q1.old b02).c1
  dsimp only at x1 x2 x3 x4 x5 x6 x7 x8 x9
  have hb1s := hb1.size
  have b2s := b2.size
  clear q1 q2 q3 q4 b0 b02 hb1 hs0 hr0 b2 hrow
  gi_wp2
  generalize W1.alloc (.cells #[.slice aw nw cw] 39) = W2 at *
  refine ⟨trivial, fun h => (by cases h), (callsIn_wide.2 (scan_sh B L f t o back W2 s2)).mono ?_⟩
  rintro e W3 ⟨rfl, hsc, hb3⟩
  have b4 := (Below.refl W3.heap.size W3).alloc (Nat.le_refl _) (.cells #[itV W2.heap.size] 50)
  have B4 := Blk.new W3 50 #[itV W2.heap.size]
  have b24 : Below W2.heap.size W2 (W3.alloc (.cells #[itV W2.heap.size] 50)) := hb3.trans (b4.mono hb3.size)
  have b5 := (Below.refl (W3.alloc (.cells #[itV W2.heap.size] 50)).heap.size (W3.alloc (.cells #[itV W2.heap.size] 50))).alloc (Nat.le_refl _) (.cells #[.int .i64 0] 3)
  have B5 := Blk.new (W3.alloc (.cells #[itV W2.heap.size] 50)) 3 #[.int .i64 0]
  have b25 : Below W2.heap.size W2 ((W3.alloc (.cells #[itV W2.heap.size] 50)).alloc (.cells #[.int .i64 0] 3)) := b24.trans (b5.mono b24.size)
  have i4 := B4.c1
  have i5 := (B4.old b5).c1
  have hs45 := (hsc.old b4).old b5
  have HBX : Hid (Bxs w.heap.size W1.heap.size W3.heap.size W2.heap.size W0.heap.size B C ⟨kind, oth, key, val, f, t, o, back, early⟩ (.slice aw nw cw) all ((W3.alloc (.cells #[itV W2.heap.size] 50)).alloc (.cells #[.int .i64 0] 3))) :=
    ⟨HQ2.out.1.old b25, HQ2.out.2.1.old b25, HQ2.out.2.2.1.old b25, HQ2.out.2.2.2.old b25, B2.old b25, B4.old b5, hs45.bs, hs45.ba, hs45.bb, Hrow2.out.old b25⟩
  have HS5 : Hid (ShAt ((W3.alloc (.cells #[itV W2.heap.size] 50)).alloc (.cells #[.int .i64 0] 3)) B L) := hs45.sh
  have HR5 : Hid (RfAt ((W3.alloc (.cells #[itV W2.heap.size] 50)).alloc (.cells #[.int .i64 0] 3)) C base v L) := HR2.out.old b25
  have HN5 : Hid (Blk ((W3.alloc (.cells #[itV W2.heap.size] 50)).alloc (.cells #[.int .i64 0] 3)) (W3.heap.size + 1) 3 #[.int .i64 0]) := by
    rw [alloc_size] at B5
    exact B5
  have HB5 : Hid (Below w.heap.size w ((W3.alloc (.cells #[itV W2.heap.size] 50)).alloc (.cells #[.int .i64 0] 3))) := HB2.out.trans (b25.mono HB2.out.size)
  have hnf := no_func #[.pointer (some ⟨W2.heap.size, 0, none⟩), .pointer (some ⟨W2.heap.size + 1, 0, none⟩), .pointer (some ⟨W2.heap.size + 1 + 1, 0, none⟩)] (W3.alloc (.cells #[itV W2.heap.size] 50))
  have HNi : Hid (w.heap.size ≤ W3.heap.size) := Nat.le_trans HWB.out (Nat.le_trans (Nat.le_trans hb1s b2s) hb3.size)
  have HWO : Hid (∀ g, (Value.slice aw nw cw).ownBlock = some g → w.heap.size ≤ g) := fun g e => Nat.le_trans HWB.out (Hrow2.out.own e).1
  clear hb1s b2s x0 x1 x2 x3 x4 x5 x6 x7 x8 x9 B4 B5 hsc hb3 b24 b25 HR2 HB2 HQ2 Hrow2 B2 b4 b5 s2
  dsimp only [itV] at *
  gi_wp2
  generalize hW5 : (W3.alloc (.cells #[.func (.func 36) #[] #[.pointer (some ⟨W2.heap.size, 0, none⟩), .pointer (some ⟨W2.heap.size + 1, 0, none⟩), .pointer (some ⟨W2.heap.size + 1 + 1, 0, none⟩)]] 50)).alloc (.cells #[.int .i64 0] 3) = W5 at *
  generalize hW4 : (W3.alloc (.cells #[.func (.func 36) #[] #[.pointer (some ⟨W2.heap.size, 0, none⟩), .pointer (some ⟨W2.heap.size + 1, 0, none⟩), .pointer (some ⟨W2.heap.size + 1 + 1, 0, none⟩)]] 50)) = W4 at *
  generalize W3.heap.size = Ni at *
  generalize W2.heap.size = N at *
  generalize W1.heap.size = Nw at *
  generalize W0.heap.size = wb at *
  clear hW4 hW5 hnf i4
  have HE1 : Hid (OfT W5 (fun k => k = Ni + 1) TX) := ofT_one HN5.out
  have HW1 : Hid (∀ g, (Value.slice aw nw cw).ownBlock = some g → ¬ g = Ni + 1) := fun g e h => HBX.out.row.notbox HN5.out (by decide) (e.trans (by rw [h]))
  have HSC : Hid (ScnAt W5 N (N + 1) (N + 1 + 1) B f t o back L) := ⟨HBX.out.n1, HBX.out.n2, HBX.out.n3, HS5.out⟩
  refine range_break (all := all) (by omega) rfl (enters_of Try.func36 (by kernel_rfl) rfl) (by rw [Hall.out]; exact scan1_tells (n - 1) (by omega) _ _ _ _ _ _ _ _ _ W5 HSC.out)
    (fun pre V => KeepX (fun k => k = Ni + 1) W5 V ∧ Blk V (Ni + 1) 3 #[.int .i64 (pre.length : Int)]) (fun V => KeepX (fun k => k = Ni + 1) W5 V ∧ ∃ m : Int, Blk V (Ni + 1) 3 #[.int .i64 m])
    (OwnFrom.and (KeepX.own (Nat.le_refl _)) (own_keepC (fun s A C h k => k.same _ _ _ h))) (OwnFrom.and (KeepX.own (Nat.le_refl _)) (own_keepC (fun s A C h k => by obtain ⟨m, h⟩ := h; exact ⟨m, k.same _ _ _ h⟩)))
    ⟨KeepX.refl _ _, HN5.out⟩ (fun V h => ⟨h.1, _, h.2⟩)
    (fun x a' V => ∃ Bp, Blk V Bp 45 #[.string x.1, .string x.2] ∧ a' = { tmps := #[Value.pointer (some { block := B, off := 0 }), Value.pointer (some { block := C, off := 0 }), Value.agg #[Value.int IntKind.i64 kind, Value.bool oth, Value.string key, Value.string val, Value.string f, Value.string t, Value.bool o, Value.bool back, Value.int IntKind.i64 early], Value.pointer (some { block := w.heap.size, off := 0 }), Value.pointer (some { block := w.heap.size + 1, off := 0 }), Value.pointer (some { block := w.heap.size + 1 + 1, off := 0 }), Value.pointer (some { block := w.heap.size + 1 + 1 + 1, off := 0 }), Value.pointer (some { block := Nw, off := 0 }), Value.pointer (some { block := Ni, off := 0 }), Value.pointer (some { block := Ni + 1, off := 0 }), Value.pointer (some { block := Bp, off := 0 }), undef, undef, undef, undef, undef, undef, Value.pointer (some { block := C, off := 0 }), Value.pointer (some { block := w.heap.size + 1 + 1, off := 4 }), Value.agg #[Value.string f, Value.string t, Value.bool o], Value.pointer (some { block := w.heap.size + 1 + 1, off := 7 }), Value.bool back, Value.slice aw nw cw, Value.pointer (some { block := B, off := 0 }), Value.pointer (some { block := w.heap.size + 1 + 1, off := 4 }), Value.agg #[Value.string f, Value.string t, Value.bool o], Value.pointer (some { block := w.heap.size + 1 + 1, off := 7 }), Value.bool back, Value.func (Fn.func 36) #[] #[Value.pointer (some { block := N, off := 0 }), Value.pointer (some { block := N + 1, off := 0 }), Value.pointer (some { block := N + 1 + 1, off := 0 })], Value.func (Fn.func 36) #[] #[Value.pointer (some { block := N, off := 0 }), Value.pointer (some { block := N + 1, off := 0 }), Value.pointer (some { block := N + 1 + 1, off := 0 })], Value.bool false, Value.func (Fn.func 36) #[] #[Value.pointer (some { block := N, off := 0 }), Value.pointer (some { block := N + 1, off := 0 }), Value.pointer (some { block := N + 1 + 1, off := 0 })], Value.agg #[Value.string x.1, Value.string x.2], undef, undef, undef, undef, undef, undef, undef, undef, undef, undef, undef, undef, undef, undef, undef, undef, undef, undef, undef, undef, undef, undef, undef, undef, undef, undef, undef, undef, undef, undef, undef, undef, undef, undef, undef, undef, undef, undef, undef, undef, undef, undef, undef, undef, undef, undef, undef, undef, undef, undef, undef, undef, undef, undef, undef, undef, undef, undef, undef, undef, undef, undef, undef, undef, undef, undef, undef, undef, undef, undef, undef, undef, undef, undef, undef, undef, undef, undef, undef, undef, undef, undef, undef, undef, undef, undef, undef, undef, undef, undef, undef, undef, undef, undef, undef, undef, undef, undef, undef, undef, undef, undef, undef, undef, undef, undef, undef, undef, undef, undef, undef, undef, undef, undef, undef, undef, undef, undef], defers := [] })
    (fun x a' => own_keepC (fun s A C h k => by obtain ⟨Bp, h2, h3⟩ := h; exact ⟨Bp, k.same _ _ _ h2, h3⟩)) ?assign ?body ?hend
  case assign =>
    intro l2 pre x V K hi hp hK
    have hb := (Below.refl V.heap.size V).alloc (Nat.le_refl _) (.cells #[.string x.1, .string x.2] 45)
    have hB := Blk.new V 45 #[.string x.1, .string x.2]
    dsimp only [encP]
    gi_wp2
    exact hK _ _ ((KeepsOthers.alloc _ _).from _) (KeepT.of hb) ⟨hi.1.old hb, hi.2.old hb⟩ ⟨V.heap.size, hB, rfl⟩
  case body =>
    rintro l2 pre x a' V hl2 ⟨r, hrr⟩ ⟨hkx, hN⟩ ⟨Bp, hx, rfl⟩ hpx
    have hbx := hkx.bxs HE1.out HW1.out HBX.out
    have hat : all[pre.length]? = some x := by
      obtain ⟨z, hz⟩ := hpx
      rw [← hz]
      simp
    obtain ⟨hpl, hxe⟩ := List.getElem?_eq_some_iff.1 hat
    obtain ⟨g, cc, _, hg, eg, hcs⟩ := PRow.at hbx.row (by omega)
    obtain ⟨z0, z1⟩ := hcs pre.length hpl
    rw [hxe] at z0 z1
    injection eg with eg1 eg2 eg3
    clear eg2 eg3
    subst eg1
    obtain ⟨m, hm⟩ : ∃ m, m = pre.length := ⟨_, rfl⟩
    have hmn : (m : Int) < (nw : Int) := by rw [hm, Hnw.out]; omega
    have hmn2 : m < nw := by omega
    have HPL : Hid ((pre ++ [x]).length = m + 1) := by rw [hm]; simp [Hid]
    rw [← hm] at hN z0 z1
    have c1 := hN.c1
    have c2 := hbx.w.c1
    obtain ⟨y0, y1⟩ := hx.c2
    have hdr : Below V.heap.size V V.drew := (Below.refl _ _).drew
    have hO : KeepX (fun k => k = Ni + 1) W5 (V.drew.setCell ⟨Ni + 1, 0, none⟩ (.int .i64 ((m : Int) + 1))) := (hkx.old hdr).set ⟨Ni + 1, 0, none⟩ _ (fun _ => rfl)
    have HO2 : Hid (KeepX (fun k => k = Ni + 1) V (V.drew.setCell ⟨Ni + 1, 0, none⟩ (.int .i64 ((m : Int) + 1)))) := (KeepX.of hdr).set ⟨Ni + 1, 0, none⟩ _ (fun _ => rfl)
    have HNV : Hid (OfT V (fun k => k = Ni + 1) TX) := ofT_one hN
    have hN1 := hN.old hdr
    have hN2 : Blk (V.drew.setCell ⟨Ni + 1, 0, none⟩ (.int .i64 ((m : Int) + 1))) (Ni + 1) 3 #[.int .i64 ((m : Int) + 1)] := hN1.set 0 _
    have n1 := hN1.c1
    have f1 := hN1.frozen 0
    have d1 := hN2.c1
    have HN2 : Hid (Blk (V.drew.setCell ⟨Ni + 1, 0, none⟩ (.int .i64 ((m : Int) + 1))) (Ni + 1) 3 #[.int .i64 ((m : Int) + 1)]) := hN2
    have HO : Hid (KeepX (fun k => k = Ni + 1) W5 (V.drew.setCell ⟨Ni + 1, 0, none⟩ (.int .i64 ((m : Int) + 1)))) := hO
    have d3 := (Blk.c9 (x := ⟨kind, oth, key, val, f, t, o, back, early⟩) (hO.bxs HE1.out HW1.out HBX.out).o).2.2.2.2.2.2.2.2
    dsimp only at d3
    obtain ⟨xk, xv⟩ := x
    dsimp only at *
    clear hat hpl hxe hcs hm hbx hx hdr hO hN1 hN2
    have HF : Hid (∀ x, Below V.heap.size V x → x.cell? ⟨Ni + 1, 0, none⟩ = some (.int .i64 (m : Int)) ∧ x.cell? ⟨Nw, 0, none⟩ = some (.slice (some ⟨g, 0, none⟩) nw cw) ∧ x.cell? ⟨Bp, 0, none⟩ = some (.string xk) ∧ x.cell? ⟨Bp, 1, none⟩ = some (.string xv) ∧ x.cell? ⟨g, m * 2, none⟩ = some (.string xk) ∧ x.cell? ⟨g, m * 2 + 1, none⟩ = some (.string xv)) := fun x hx =>
      ⟨(hx.cell (p := ⟨Ni + 1, 0, none⟩) (cell_lt c1)).trans c1, (hx.cell (p := ⟨Nw, 0, none⟩) (cell_lt c2)).trans c2, (hx.cell (p := ⟨Bp, 0, none⟩) (cell_lt y0)).trans y0, (hx.cell (p := ⟨Bp, 1, none⟩) (cell_lt y1)).trans y1, (hx.cell (p := ⟨g, _, none⟩) hg).trans z0, (hx.cell (p := ⟨g, _, none⟩) hg).trans z1⟩
    clear c1 c2 y0 y1 z0 z1
    gi_wp2
    refine wpIn_region_any (by kernel_rfl) (anyIn_of_any (fun _ => trivial) (fun h => by obtain ⟨_, _, h⟩ := h; exact h) (calm_arr (by kernel_rfl)) _ _ _ _ ?_)
    rw [show ({ V with drawn := V.drawn + 1 } : World) = V.drew from rfl]
    refine wpAny_of_held (S := fun x => Below V.heap.size V x) _ _ _ _ ?_
    have hHelda : Below V.heap.size V V.drew := (Below.refl _ _).drew
    refine wpAnyH_takeD (i := 0) (some 33) (v := ?va0) rfl rfl (by kernel_rfl) (by kernel_rfl) (by kernel_rfl) (fun _ _ _ h => h) (Or.inl ⟨by kernel_rfl, ?hya0⟩) (by assumption) ?resta0
    case hya0 => (intro x hSx; (try dsimp only at hSx); obtain ⟨u0, u1, u2, u3, u4, u5⟩ := HF.out x hSx; go_simp; first | done | with_reducible rfl)
    try simp only [Act.put, List.setIfInBounds_toArray, List.set_cons_zero, List.set_cons_succ]
    refine wpAnyH_takeD (i := 1) (some 34) (v := ?va1) rfl rfl (by kernel_rfl) (by kernel_rfl) (by kernel_rfl) (fun _ _ _ h => h) (Or.inl ⟨by kernel_rfl, ?hya1⟩) (by assumption) ?resta1
    case hya1 => (intro x hSx; (try dsimp only at hSx); obtain ⟨u0, u1, u2, u3, u4, u5⟩ := HF.out x hSx; go_simp; first | done | with_reducible rfl)
    try simp only [Act.put, List.setIfInBounds_toArray, List.set_cons_zero, List.set_cons_succ]
    refine wpAnyH_takeD (i := 2) (some 35) (v := ?va2) rfl rfl (by kernel_rfl) (by kernel_rfl) (by kernel_rfl) (fun _ _ _ h => h) (Or.inl ⟨by kernel_rfl, ?hya2⟩) (by assumption) ?resta2
    case hya2 => (intro x hSx; (try dsimp only at hSx); go_simp; first | done | with_reducible rfl)
    try simp only [Act.put, List.setIfInBounds_toArray, List.set_cons_zero, List.set_cons_succ]
    refine wpAnyH_takeD (i := 3) (some 36) (v := .bool false) rfl rfl (by kernel_rfl) (by kernel_rfl) (by kernel_rfl) (fun _ _ _ h => h) (Or.inl ⟨by kernel_rfl, ?hya3⟩) (by assumption) ?resta3
    case hya3 => (intro x hSx; (try dsimp only at hSx); go_simp; first | done | with_reducible rfl)
    try simp only [Act.put, List.setIfInBounds_toArray, List.set_cons_zero, List.set_cons_succ]
    refine wpAnyH_takeD (i := 4) (some 37) (v := .bool false) rfl rfl (by kernel_rfl) (by kernel_rfl) (by kernel_rfl) (fun _ _ _ h => h) (Or.inl ⟨by kernel_rfl, ?hya4⟩) (by assumption) ?resta4
    case hya4 => (intro x hSx; (try dsimp only at hSx); go_simp; first | done | with_reducible rfl)
    try simp only [Act.put, List.setIfInBounds_toArray, List.set_cons_zero, List.set_cons_succ]
    refine wpAnyH_takeD (i := 5) (some 38) (v := ?va5) rfl rfl (by kernel_rfl) (by kernel_rfl) (by kernel_rfl) (fun _ _ _ h => h) (Or.inl ⟨by kernel_rfl, ?hya5⟩) (by assumption) ?resta5
    case hya5 => (intro x hSx; (try dsimp only at hSx); obtain ⟨u0, u1, u2, u3, u4, u5⟩ := HF.out x hSx; go_simp; first | done | with_reducible rfl)
    try simp only [Act.put, List.setIfInBounds_toArray, List.set_cons_zero, List.set_cons_succ]
    refine wpAnyH_takeD (i := 6) (some 39) (v := ?va6) rfl rfl (by kernel_rfl) (by kernel_rfl) (by kernel_rfl) (fun _ _ _ h => h) (Or.inl ⟨by kernel_rfl, ?hya6⟩) (by assumption) ?resta6
    case hya6 => (intro x hSx; (try dsimp only at hSx); obtain ⟨u0, u1, u2, u3, u4, u5⟩ := HF.out x hSx; go_simp; first | done | with_reducible rfl)
    try simp only [Act.put, List.setIfInBounds_toArray, List.set_cons_zero, List.set_cons_succ]
    refine wpAnyH_takeD (i := 7) (some 40) (v := ?va7) rfl rfl (by kernel_rfl) (by kernel_rfl) (by kernel_rfl) (fun _ _ _ h => h) (Or.inl ⟨by kernel_rfl, ?hya7⟩) (by assumption) ?resta7
    case hya7 => (intro x hSx; (try dsimp only at hSx); obtain ⟨u0, u1, u2, u3, u4, u5⟩ := HF.out x hSx; go_simp; first | done | with_reducible rfl)
    try simp only [Act.put, List.setIfInBounds_toArray, List.set_cons_zero, List.set_cons_succ]
    refine wpAnyH_takeD (i := 8) (some 41) (v := ?va8) rfl rfl (by kernel_rfl) (by kernel_rfl) (by kernel_rfl) (fun _ _ _ h => h) (Or.inl ⟨by kernel_rfl, ?hya8⟩) (by assumption) ?resta8
    case hya8 => (intro x hSx; (try dsimp only at hSx); go_simp; first | done | with_reducible rfl)
    try simp only [Act.put, List.setIfInBounds_toArray, List.set_cons_zero, List.set_cons_succ]
    refine wpAnyH_takeD (i := 9) (some 42) (v := ?va9) rfl rfl (by kernel_rfl) (by kernel_rfl) (by kernel_rfl) (fun _ _ _ h => h) (Or.inl ⟨by kernel_rfl, ?hya9⟩) (by assumption) ?resta9
    case hya9 => (intro x hSx; (try dsimp only at hSx); obtain ⟨u0, u1, u2, u3, u4, u5⟩ := HF.out x hSx; go_simp; first | done | with_reducible rfl)
    try simp only [Act.put, List.setIfInBounds_toArray, List.set_cons_zero, List.set_cons_succ]
    refine wpAnyH_takeD (i := 10) (some 43) (v := .bool false) rfl rfl (by kernel_rfl) (by kernel_rfl) (by kernel_rfl) (fun _ _ _ h => h) (Or.inl ⟨by kernel_rfl, ?hya10⟩) (by assumption) ?resta10
    case hya10 => (intro x hSx; (try dsimp only at hSx); go_simp; first | done | with_reducible rfl)
    try simp only [Act.put, List.setIfInBounds_toArray, List.set_cons_zero, List.set_cons_succ]
    refine wpAnyH_takeD (i := 11) (some 44) (v := ?va11) rfl rfl (by kernel_rfl) (by kernel_rfl) (by kernel_rfl) (fun _ _ _ h => h) (Or.inl ⟨by kernel_rfl, ?hya11⟩) (by assumption) ?resta11
    case hya11 => (intro x hSx; (try dsimp only at hSx); go_simp; first | done | with_reducible rfl)
    try simp only [Act.put, List.setIfInBounds_toArray, List.set_cons_zero, List.set_cons_succ]
    refine wpAnyH_done (by kernel_rfl) ?_ _
    clear hHelda HF
    generalize V.drew = V1 at *
    by_cases hea : early < (m : Int) + 1
    · have hea2 : decide (early < (m : Int) + 1) = true := by simpa using hea
      gi_wp2
      exact ⟨HO2.out.keepsFrom HNV.out _, rfl, HO.out, _, HN2.out⟩
    · have hea2 : decide (early < (m : Int) + 1) = false := by simpa using hea
      gi_wp2
      exact ⟨HO2.out.keepsFrom HNV.out _, HO2.out.keepT HNV.out (fun t ht => ht.nkt), HO.out, by rw [HPL.out]; exact HN2.out⟩
  case hend =>
    rintro D V hD ⟨hkx, m0, hN⟩ hK
    have hnc := hN.c1
    have hnf := hN.frozen 0
    have HN6 : Hid (Blk (V.setCell ⟨Ni + 1, 0, none⟩ (.int .i64 0)) (Ni + 1) 3 #[.int .i64 0]) := hN.set 0 _
    have hk6 : KeepX (fun k => k = Ni + 1) W5 (V.setCell ⟨Ni + 1, 0, none⟩ (.int .i64 0)) := hkx.set ⟨Ni + 1, 0, none⟩ _ (fun _ => rfl)
    have HBX6 : Hid (Bxs w.heap.size Nw Ni N wb B C ⟨kind, oth, key, val, f, t, o, back, early⟩ (.slice aw nw cw) all (V.setCell ⟨Ni + 1, 0, none⟩ (.int .i64 0))) := hk6.bxs HE1.out HW1.out HBX.out
    have HS6 : Hid (ShAt (V.setCell ⟨Ni + 1, 0, none⟩ (.int .i64 0)) B L) := hk6.sh HE1.out (fun t ht => ht.n66) (fun e => by obtain ⟨ds, hb⟩ := HS5.out.blk; exact hb.apart HN5.out (by decide) e) HS5.out
    have HR6 : Hid (RfAt (V.setCell ⟨Ni + 1, 0, none⟩ (.int .i64 0)) C base v L) := hk6.rf HR5.out (fun e => HR5.out.box.apart HN5.out (by decide) e) (fun g e e2 => by obtain ⟨ds, hb⟩ := HR5.out.row.blk e; exact hb.apart HN5.out (by decide) e2)
    have HD6 : Hid ((V.setCell ⟨Ni + 1, 0, none⟩ (.int .i64 0)).heap[D]? = some (.deferred (some []))) := (KeepsOthers.setCell V ⟨Ni + 1, 0, none⟩ (.int .i64 0)).same D _ hK rfl
    have HB6 : Hid (Below w.heap.size w (V.setCell ⟨Ni + 1, 0, none⟩ (.int .i64 0))) := HB5.out.trans (hk6.below HB5.out.size (fun k hk e => by have := HNi.out; omega))
    have HDw : Hid (w.heap.size ≤ D) := Nat.le_trans HB5.out.size hD
    have hit := HBX6.out.i.c1
    dsimp only [itV] at hit
    clear hN hk6 hkx HSC hK
    gi_wp2
    generalize V.setCell ⟨Ni + 1, 0, none⟩ (.int .i64 0) = W6 at *
    have HE6 : Hid (OfT W6 (EX (Ni + 1) B C v) TX) := EX.ofT HN6.out HS6.out HR6.out
    have HW6 : Hid (∀ g, (Value.slice aw nw cw).ownBlock = some g → ¬ EX (Ni + 1) B C v g) := fun g e h => by
      obtain ⟨ds, hb⟩ := HBX6.out.row.blk e
      rcases h with h | h | h | h
      · exact hb.apart HN6.out (by decide) h
      · obtain ⟨ds2, hb2⟩ := HS6.out.blk; exact hb.apart hb2 (by decide) h
      · exact hb.apart HR6.out.box (by decide) h
      · have h1 := HWO.out g e; have h2 := (hr.row.own h).2; omega
    have HSC : Hid (ScnAt W6 N (N + 1) (N + 1 + 1) B f t o back L) := ⟨HBX6.out.n1, HBX6.out.n2, HBX6.out.n3, HS6.out⟩
    clear HBX HS5 HR5 HB5 HN5 HE1 HW1 hD hnc hnf i5
    refine range_tellsK (all := all) (by omega) rfl (enters_of Try.func36 (by kernel_rfl) rfl) (by rw [Hall.out]; exact scan1_tells (n - 1) (by omega) _ _ _ _ _ _ _ _ _ W6 HSC.out)
      (fun pre V => Blk V (Ni + 1) 3 #[.int .i64 (pre.length : Int)] ∧ ∃ vc, (pre = [] → vc = v) ∧ St W6 (Ni + 1) B C base v (curP key val L pre) (curP key val L pre) V vc) (fun _ _ _ => False)
      (OwnFrom.and (own_keepC (fun s A C h k => k.same _ _ _ h)) (St.own_keep (fun pre => curP key val L pre) (fun pre vc => pre = [] → vc = v) (Nat.le_refl _))) (fun c s A C row hs hg hr => hs)
      ⟨HN6.out, v, fun _ => rfl, KeepX.refl _ _, HS6.out, HR6.out, fun g e => .inl e⟩
      (fun x a' V => ∃ Bp, W6.heap.size ≤ Bp ∧ Blk V Bp 45 #[.string x.1, .string x.2] ∧ a' = { tmps := #[Value.pointer (some { block := B, off := 0 }), Value.pointer (some { block := C, off := 0 }), Value.agg #[Value.int IntKind.i64 kind, Value.bool oth, Value.string key, Value.string val, Value.string f, Value.string t, Value.bool o, Value.bool back, Value.int IntKind.i64 early], Value.pointer (some { block := w.heap.size, off := 0 }), Value.pointer (some { block := w.heap.size + 1, off := 0 }), Value.pointer (some { block := w.heap.size + 1 + 1, off := 0 }), Value.pointer (some { block := w.heap.size + 1 + 1 + 1, off := 0 }), Value.pointer (some { block := Nw, off := 0 }), Value.pointer (some { block := Ni, off := 0 }), Value.pointer (some { block := Ni + 1, off := 0 }), undef, Value.pointer (some { block := Bp, off := 0 }), undef, undef, undef, undef, undef, Value.pointer (some { block := C, off := 0 }), Value.pointer (some { block := w.heap.size + 1 + 1, off := 4 }), Value.agg #[Value.string f, Value.string t, Value.bool o], Value.pointer (some { block := w.heap.size + 1 + 1, off := 7 }), Value.bool back, Value.slice aw nw cw, Value.pointer (some { block := B, off := 0 }), Value.pointer (some { block := w.heap.size + 1 + 1, off := 4 }), Value.agg #[Value.string f, Value.string t, Value.bool o], Value.pointer (some { block := w.heap.size + 1 + 1, off := 7 }), Value.bool back, Value.func (Fn.func 36) #[] #[Value.pointer (some { block := N, off := 0 }), Value.pointer (some { block := N + 1, off := 0 }), Value.pointer (some { block := N + 1 + 1, off := 0 })], Value.func (Fn.func 36) #[] #[Value.pointer (some { block := N, off := 0 }), Value.pointer (some { block := N + 1, off := 0 }), Value.pointer (some { block := N + 1 + 1, off := 0 })], Value.bool false, Value.func (Fn.func 36) #[] #[Value.pointer (some { block := N, off := 0 }), Value.pointer (some { block := N + 1, off := 0 }), Value.pointer (some { block := N + 1 + 1, off := 0 })], undef, undef, undef, undef, undef, undef, undef, undef, undef, undef, undef, undef, undef, undef, undef, undef, undef, undef, undef, Value.func (Fn.func 36) #[] #[Value.pointer (some { block := N, off := 0 }), Value.pointer (some { block := N + 1, off := 0 }), Value.pointer (some { block := N + 1 + 1, off := 0 })], Value.agg #[Value.string x.1, Value.string x.2], undef, undef, undef, undef, undef, undef, undef, undef, undef, undef, undef, undef, undef, undef, undef, undef, undef, undef, undef, undef, undef, undef, undef, undef, undef, undef, undef, undef, undef, undef, undef, undef, undef, undef, undef, undef, undef, undef, undef, undef, undef, undef, undef, undef, undef, undef, undef, undef, undef, undef, undef, undef, undef, undef, undef, undef, undef, undef, undef, undef, undef, undef, undef, undef, undef, undef, undef, undef, undef, undef, undef, undef, undef, undef, undef, undef, undef, undef, undef, undef, undef, undef, undef, undef, undef, undef, undef, undef, undef, undef, undef, undef, undef, undef, undef, undef, undef, undef], defers := [] })
      (fun x a' => own_keepC (fun s A C h k => by obtain ⟨Bp, h1, h2, h3⟩ := h; exact ⟨Bp, h1, k.same _ _ _ h2, h3⟩)) ?assign2 ?body2 ?done2 ?stop2
    case stop2 =>
      rintro D2 c pre V hD2 hpre hx hK
      exact hx.elim
    case assign2 =>
      intro l2 pre x V K hi hp hK
      have hb := (Below.refl V.heap.size V).alloc (Nat.le_refl _) (.cells #[.string x.1, .string x.2] 45)
      have hB := Blk.new V 45 #[.string x.1, .string x.2]
      obtain ⟨h1, vc, h2, h3⟩ := hi
      have hsz := h3.kx.size
      dsimp only [encP]
      gi_wp2
      exact hK _ _ ((KeepsOthers.alloc _ _).from _) (KeepT.of hb) ⟨h1.old hb, vc, h2, h3.old hb⟩ ⟨V.heap.size, hsz, hB, rfl⟩
    case done2 =>
      rintro D2 V hD2 ⟨hN, vc, hv0, hst⟩ hK
      obtain ⟨M, HMM⟩ : ∃ M, Hid (M = curP key val L all) := ⟨_, rfl⟩
      rw [← HMM.out] at hst
      have hall : ∀ p ∈ all, p ∈ L := fun p hp => by rw [Hall.out] at hp; exact tellP_mem hp
      have hml : M.length ≤ L.length + 1 := by rw [HMM.out]; exact cur_length hs.srt hall
      have HML : Hid (M.length ≤ L.length + 1) := hml
      have HMS : Hid (∀ p ∈ M, p.1.size ≤ S + 1) := fun p hp => by rw [HMM.out] at hp; exact cur_size hk1 hk2 hall p hp
      have HDV : Hid (V.heap[D]? = some (.deferred (some []))) := hst.kx.obj HE6.out HD6.out rfl
      have hbx := hst.kx.bxs HE6.out HW6.out HBX6.out
      rw [← Hnw.out] at hN
      have c1 := hN.c1
      have c2 := hbx.w.c1
      obtain ⟨x1, x2, x3, x4, x5, x6, x7, x8, x9⟩ := Blk.c9 (x := ⟨kind, oth, key, val, f, t, o, back, early⟩) hbx.o
      have x0 := hbx.s.c1
      dsimp only at x1 x2 x3 x4 x5 x6 x7 x8 x9
      have HBXv : Hid (Bxs w.heap.size Nw Ni N wb B C ⟨kind, oth, key, val, f, t, o, back, early⟩ (.slice aw nw cw) all V) := hbx
      have HSTv : Hid (St W6 (Ni + 1) B C base v M M V vc) := hst
      have HKv : Hid (V.heap[D2]? = some (.deferred (some []))) := hK
      have HTo := told_in (n - 1) (by omega) B M f t o back V hst.sh (by omega)
      clear hall hbx hst hK hN hv0
      gi_wp2
      refine ⟨trivial, fun h => (by cases h), HTo.mono ?_⟩
      clear HTo x0 x1 x2 x3 x4 x5 x6 x7 x8 x9 c1 c2
      rintro e V2 ⟨tv, rfl, hrt, hb2⟩
      obtain ⟨at2, ct2, et2⟩ := hrt.shape
      obtain ⟨nt, hnt⟩ : ∃ nt, nt = (tellP f t o back M).length := ⟨_, rfl⟩
      rw [← hnt] at et2
      subst et2
      clear hnt
      have HBX2 : Hid (Bxs w.heap.size Nw Ni N wb B C ⟨kind, oth, key, val, f, t, o, back, early⟩ (.slice aw nw cw) all V2) := HBXv.out.old hb2
      have HST2 : Hid (St W6 (Ni + 1) B C base v M M V2 vc) := HSTv.out.old hb2
      have HRt : Hid (PRow V2 V.heap.size (.slice at2 nt ct2) (tellP f t o back M)) := hrt
      have HK2 : Hid (V2.heap[D2]? = some (.deferred (some []))) := (hb2.block D2 (Array.getElem?_eq_some_iff.1 HKv.out).1).trans HKv.out
      have HD2' : Hid (V2.heap[D]? = some (.deferred (some []))) := (hb2.block D (Array.getElem?_eq_some_iff.1 HDV.out).1).trans HDV.out
      obtain ⟨x1, x2, x3, x4, x5, x6, x7, x8, x9⟩ := Blk.c9 (x := ⟨kind, oth, key, val, f, t, o, back, early⟩) HBX2.out.o
      have x0 := HBX2.out.r.c1
      dsimp only at x1 x2 x3 x4 x5 x6 x7 x8 x9
      have HCn := rscan_any V2 C base vc M f t o back HST2.out.rf (by omega) (by omega) (by omega) (fun p hp => Nat.le_trans (HMS.out p hp) (by omega))
      clear hrt hb2 HBXv HSTv HKv HDV
      gi_wp2
      refine ⟨trivial, fun h => (by cases h), (callsIn_wide.2 HCn).mono ?_⟩
      clear HCn x0 x1 x2 x3 x4 x5 x6 x7 x8 x9
      rintro e V3 ⟨sv, rfl, hrs, hb3⟩
      have HSm := same_any V3 V.heap.size V2.heap.size (.slice at2 nt ct2) sv (tellP f t o back M) (tellP f t o back M) (HRt.out.old hb3) hrs (Nat.le_trans (by
        unfold tellP
        split
        · rw [List.length_reverse]; exact List.length_filter_le _ _
        · exact List.length_filter_le _ _) (Nat.le_trans hml (by omega)))
      rw [decide_eq_true rfl] at HSm
      have HBX3 : Hid (Bxs w.heap.size Nw Ni N wb B C ⟨kind, oth, key, val, f, t, o, back, early⟩ (.slice aw nw cw) all V3) := HBX2.out.old hb3
      have HST3 : Hid (St W6 (Ni + 1) B C base v M M V3 vc) := HST2.out.old hb3
      have HK3 : Hid (V3.heap[D2]? = some (.deferred (some []))) := (hb3.block D2 (Array.getElem?_eq_some_iff.1 HK2.out).1).trans HK2.out
      have HD3 : Hid (V3.heap[D]? = some (.deferred (some []))) := (hb3.block D (Array.getElem?_eq_some_iff.1 HD2'.out).1).trans HD2'.out
      clear hrs hb3 HRt HBX2 HST2 HK2 HD2'
      gi_wp2
      refine ⟨trivial, fun h => (by cases h), (callsIn_wide.2 HSm).mono ?_⟩
      clear HSm
      rintro e V4 ⟨rfl, hb4⟩
      have HBX4 : Hid (Bxs w.heap.size Nw Ni N wb B C ⟨kind, oth, key, val, f, t, o, back, early⟩ (.slice aw nw cw) all V4) := HBX3.out.old hb4
      have HST4 : Hid (St W6 (Ni + 1) B C base v M M V4 vc) := HST3.out.old hb4
      have hk4 : V4.heap[D2]? = some (.deferred (some [])) := (hb4.block D2 (Array.getElem?_eq_some_iff.1 HK3.out).1).trans HK3.out
      have hd4 : V4.heap[D]? = some (.deferred (some [])) := (hb4.block D (Array.getElem?_eq_some_iff.1 HD3.out).1).trans HD3.out
      have q1 := HBX4.out.q.c1
      have q2 := HBX4.out.q.frozen 0
      have HW4 : Hid (Blk (V4.setCell ⟨w.heap.size + 1 + 1 + 1, 0, none⟩ (.bool true)) (w.heap.size + 1 + 1 + 1) 4 #[.bool true]) := HBX4.out.q.set 0 _
      have HS4 : Hid (St w B B C base v M M (V4.setCell ⟨w.heap.size + 1 + 1 + 1, 0, none⟩ (.bool true)) vc) := (HST4.out.since HB6.out (by have := HNi.out; omega)).box HBX4.out.q (by decide) (by decide) (by decide) (by decide) (by omega) _
      have HK5 : Hid ((V4.setCell ⟨w.heap.size + 1 + 1 + 1, 0, none⟩ (.bool true)).heap[D2]? = some (.deferred (some []))) := (KeepsOthers.setCell V4 ⟨w.heap.size + 1 + 1 + 1, 0, none⟩ (.bool true)).same D2 _ hk4 rfl
      have HD5 : Hid ((V4.setCell ⟨w.heap.size + 1 + 1 + 1, 0, none⟩ (.bool true)).heap[D]? = some (.deferred (some []))) := (KeepsOthers.setCell V4 ⟨w.heap.size + 1 + 1 + 1, 0, none⟩ (.bool true)).same D _ hd4 rfl
      have HDD : Hid (D ≠ D2) := fun e => by
        have h1 := (Array.getElem?_eq_some_iff.1 HD6.out).1
        omega
      have HD2w : Hid (w.heap.size ≤ D2) := Nat.le_trans HB6.out.size hD2
      clear hb4 HBX3 HST3 HK3 HD3 HBX4 HST4 hk4 hd4
      gi_wp2
      generalize V4.setCell ⟨w.heap.size + 1 + 1 + 1, 0, none⟩ (.bool true) = U at *
      have hK5 := HK5.out
      have hD5 : (U.putObj D2 (.deferred none)).heap[D]? = some (.deferred (some [])) := (World.putObj_heap_other HDD.out).trans HD5.out
      have hput : ∀ (X : World) (q : Nat) (oo : Obj), X.heap[q]? = some (.deferred (some [])) → Blk X (w.heap.size + 1 + 1 + 1) 4 #[.bool true] → Blk (X.putObj q oo) (w.heap.size + 1 + 1 + 1) 4 #[.bool true] := fun X q oo hq hb =>
        (World.putObj_heap_other (fun e => by subst e; have e2 := hq.symm.trans hb; injection e2 with e2; cases e2)).trans hb
      have c9 := (hput _ D (.deferred none) hD5 (hput U D2 (.deferred none) hK5 HW4.out)).c1
      have HEN : Hid (St w B B C base v M M ((U.putObj D2 (.deferred none)).putObj D (.deferred none)) vc) := (HS4.out.put hK5 rfl HD2w.out _).put hD5 rfl HDw.out _
      clear hput
      refine ⟨by simp, .inl ⟨_, _, rfl, run_takeDeferred hK5, ?_⟩⟩
      refine ⟨by simp, .inl ⟨_, _, rfl, run_takeDeferred hD5, ?_⟩⟩
      exact ⟨_, by simp [results, Try.results29, go_sem, c9], rfl, M, vc, HEN.out, HML.out, HMS.out⟩
    case body2 =>
      rintro l2 pre x a' V hl2 ⟨r, hrr⟩ ⟨hN, vc, hv0, hst⟩ ⟨Bp, hBp, hx, rfl⟩ hpx
      have hdr : Below V.heap.size V V.drew := (Below.refl _ _).drew
      have hbx := hst.kx.bxs HE6.out HW6.out HBX6.out
      have hat : all[pre.length]? = some x := by
        obtain ⟨z, hz⟩ := hpx
        rw [← hz]
        simp
      obtain ⟨hpl, hxe⟩ := List.getElem?_eq_some_iff.1 hat
      obtain ⟨g, cc, _, hg, eg, hcs⟩ := PRow.at hbx.row (by omega)
      obtain ⟨z0, z1⟩ := hcs pre.length hpl
      rw [hxe] at z0 z1
      injection eg with eg1 eg2 eg3
      clear eg2 eg3
      subst eg1
      have hxL : x ∈ L := by
        have h := List.getElem_mem hpl
        rw [hxe, Hall.out] at h
        exact tellP_mem h
      have hpL : ∀ p ∈ pre, p ∈ L := fun p hp => tellP_mem (by
        obtain ⟨z, hz⟩ := hpx
        rw [← Hall.out, ← hz]
        simp [hp])
      obtain ⟨m, hm⟩ : ∃ m, m = pre.length := ⟨_, rfl⟩
      have hmn : (m : Int) < (nw : Int) := by rw [hm, Hnw.out]; omega
      have hmn2 : m < nw := by omega
      have HPL : Hid ((pre ++ [x]).length = m + 1) := by rw [hm]; simp [Hid]
      have HM : Hid (m = pre.length) := hm
      rw [← hm] at hN z0 z1
      have c1 := hN.c1
      have c2 := hbx.w.c1
      obtain ⟨y0, y1⟩ := hx.c2
      have HXL : Hid (x ∈ L) := hxL
      have HPI : Hid (∀ p ∈ pre, p ∈ L) := hpL
      have HBX1 : Hid (Bxs w.heap.size Nw Ni N wb B C ⟨kind, oth, key, val, f, t, o, back, early⟩ (.slice (some ⟨g, 0, none⟩) nw cw) all V.drew) := hbx.old hdr
      have HN1 : Hid (Blk V.drew (Ni + 1) 3 #[.int .i64 (m : Int)]) := hN.old hdr
      have HX1 : Hid (Blk V.drew Bp 45 #[.string x.1, .string x.2]) := hx.old hdr
      have HST1 : Hid (St W6 (Ni + 1) B C base v (curP key val L pre) (curP key val L pre) V.drew vc) := hst.old hdr
      have HVV : Hid (KeepX (EX (Ni + 1) B C vc) V V.drew) := KeepX.of hdr
      have HEV : Hid (OfT V (EX (Ni + 1) B C vc) TX) := EX.ofT hN hst.sh hst.rf
      have HV0 : Hid (pre = [] → vc = v) := hv0
      have HLP : Hid (∃ r, V.drew.heap[l2]? = some (.loop r)) := ⟨r, hrr⟩
      obtain ⟨xk, xv⟩ := x
      dsimp only at *
      have HF : Hid (∀ x, Below V.heap.size V x → x.cell? ⟨Ni + 1, 0, none⟩ = some (.int .i64 (m : Int)) ∧ x.cell? ⟨Nw, 0, none⟩ = some (.slice (some ⟨g, 0, none⟩) nw cw) ∧ x.cell? ⟨Bp, 0, none⟩ = some (.string xk) ∧ x.cell? ⟨Bp, 1, none⟩ = some (.string xv) ∧ x.cell? ⟨g, m * 2, none⟩ = some (.string xk) ∧ x.cell? ⟨g, m * 2 + 1, none⟩ = some (.string xv)) := fun x hx =>
        ⟨(hx.cell (p := ⟨Ni + 1, 0, none⟩) (cell_lt c1)).trans c1, (hx.cell (p := ⟨Nw, 0, none⟩) (cell_lt c2)).trans c2, (hx.cell (p := ⟨Bp, 0, none⟩) (cell_lt y0)).trans y0, (hx.cell (p := ⟨Bp, 1, none⟩) (cell_lt y1)).trans y1, (hx.cell (p := ⟨g, _, none⟩) hg).trans z0, (hx.cell (p := ⟨g, _, none⟩) hg).trans z1⟩
      clear c1 c2 y0 y1 z0 z1 hat hpl hxe hcs hm hbx hx hdr hN hst hv0 hxL hpL hrr
      gi_wp2
      refine wpIn_region_any (by kernel_rfl) (anyIn_of_any (fun _ => trivial) (fun h => by obtain ⟨_, _, h⟩ := h; exact h) (calm_arr (by kernel_rfl)) _ _ _ _ ?_)
      rw [show ({ V with drawn := V.drawn + 1 } : World) = V.drew from rfl]
      refine wpAny_of_held (S := fun x => Below V.heap.size V x) _ _ _ _ ?_
      have hHeldb : Below V.heap.size V V.drew := (Below.refl _ _).drew
      refine wpAnyH_takeD (i := 0) (some 53) (v := ?vb0) rfl rfl (by kernel_rfl) (by kernel_rfl) (by kernel_rfl) (fun _ _ _ h => h) (Or.inl ⟨by kernel_rfl, ?hyb0⟩) (by assumption) ?restb0
      case hyb0 => (intro x hSx; (try dsimp only at hSx); obtain ⟨u0, u1, u2, u3, u4, u5⟩ := HF.out x hSx; go_simp; first | done | with_reducible rfl)
      try simp only [Act.put, List.setIfInBounds_toArray, List.set_cons_zero, List.set_cons_succ]
      refine wpAnyH_takeD (i := 1) (some 54) (v := ?vb1) rfl rfl (by kernel_rfl) (by kernel_rfl) (by kernel_rfl) (fun _ _ _ h => h) (Or.inl ⟨by kernel_rfl, ?hyb1⟩) (by assumption) ?restb1
      case hyb1 => (intro x hSx; (try dsimp only at hSx); obtain ⟨u0, u1, u2, u3, u4, u5⟩ := HF.out x hSx; go_simp; first | done | with_reducible rfl)
      try simp only [Act.put, List.setIfInBounds_toArray, List.set_cons_zero, List.set_cons_succ]
      refine wpAnyH_takeD (i := 2) (some 55) (v := ?vb2) rfl rfl (by kernel_rfl) (by kernel_rfl) (by kernel_rfl) (fun _ _ _ h => h) (Or.inl ⟨by kernel_rfl, ?hyb2⟩) (by assumption) ?restb2
      case hyb2 => (intro x hSx; (try dsimp only at hSx); go_simp; first | done | with_reducible rfl)
      try simp only [Act.put, List.setIfInBounds_toArray, List.set_cons_zero, List.set_cons_succ]
      refine wpAnyH_takeD (i := 3) (some 56) (v := .bool false) rfl rfl (by kernel_rfl) (by kernel_rfl) (by kernel_rfl) (fun _ _ _ h => h) (Or.inl ⟨by kernel_rfl, ?hyb3⟩) (by assumption) ?restb3
      case hyb3 => (intro x hSx; (try dsimp only at hSx); go_simp; first | done | with_reducible rfl)
      try simp only [Act.put, List.setIfInBounds_toArray, List.set_cons_zero, List.set_cons_succ]
      refine wpAnyH_takeD (i := 4) (some 57) (v := .bool false) rfl rfl (by kernel_rfl) (by kernel_rfl) (by kernel_rfl) (fun _ _ _ h => h) (Or.inl ⟨by kernel_rfl, ?hyb4⟩) (by assumption) ?restb4
      case hyb4 => (intro x hSx; (try dsimp only at hSx); go_simp; first | done | with_reducible rfl)
      try simp only [Act.put, List.setIfInBounds_toArray, List.set_cons_zero, List.set_cons_succ]
      refine wpAnyH_takeD (i := 5) (some 58) (v := ?vb5) rfl rfl (by kernel_rfl) (by kernel_rfl) (by kernel_rfl) (fun _ _ _ h => h) (Or.inl ⟨by kernel_rfl, ?hyb5⟩) (by assumption) ?restb5
      case hyb5 => (intro x hSx; (try dsimp only at hSx); obtain ⟨u0, u1, u2, u3, u4, u5⟩ := HF.out x hSx; go_simp; first | done | with_reducible rfl)
      try simp only [Act.put, List.setIfInBounds_toArray, List.set_cons_zero, List.set_cons_succ]
      refine wpAnyH_takeD (i := 6) (some 59) (v := ?vb6) rfl rfl (by kernel_rfl) (by kernel_rfl) (by kernel_rfl) (fun _ _ _ h => h) (Or.inl ⟨by kernel_rfl, ?hyb6⟩) (by assumption) ?restb6
      case hyb6 => (intro x hSx; (try dsimp only at hSx); obtain ⟨u0, u1, u2, u3, u4, u5⟩ := HF.out x hSx; go_simp; first | done | with_reducible rfl)
      try simp only [Act.put, List.setIfInBounds_toArray, List.set_cons_zero, List.set_cons_succ]
      refine wpAnyH_takeD (i := 7) (some 60) (v := ?vb7) rfl rfl (by kernel_rfl) (by kernel_rfl) (by kernel_rfl) (fun _ _ _ h => h) (Or.inl ⟨by kernel_rfl, ?hyb7⟩) (by assumption) ?restb7
      case hyb7 => (intro x hSx; (try dsimp only at hSx); obtain ⟨u0, u1, u2, u3, u4, u5⟩ := HF.out x hSx; go_simp; first | done | with_reducible rfl)
      try simp only [Act.put, List.setIfInBounds_toArray, List.set_cons_zero, List.set_cons_succ]
      refine wpAnyH_takeD (i := 8) (some 61) (v := ?vb8) rfl rfl (by kernel_rfl) (by kernel_rfl) (by kernel_rfl) (fun _ _ _ h => h) (Or.inl ⟨by kernel_rfl, ?hyb8⟩) (by assumption) ?restb8
      case hyb8 => (intro x hSx; (try dsimp only at hSx); go_simp; first | done | with_reducible rfl)
      try simp only [Act.put, List.setIfInBounds_toArray, List.set_cons_zero, List.set_cons_succ]
      refine wpAnyH_takeD (i := 9) (some 62) (v := ?vb9) rfl rfl (by kernel_rfl) (by kernel_rfl) (by kernel_rfl) (fun _ _ _ h => h) (Or.inl ⟨by kernel_rfl, ?hyb9⟩) (by assumption) ?restb9
      case hyb9 => (intro x hSx; (try dsimp only at hSx); obtain ⟨u0, u1, u2, u3, u4, u5⟩ := HF.out x hSx; go_simp; first | done | with_reducible rfl)
      try simp only [Act.put, List.setIfInBounds_toArray, List.set_cons_zero, List.set_cons_succ]
      refine wpAnyH_takeD (i := 10) (some 63) (v := .bool false) rfl rfl (by kernel_rfl) (by kernel_rfl) (by kernel_rfl) (fun _ _ _ h => h) (Or.inl ⟨by kernel_rfl, ?hyb10⟩) (by assumption) ?restb10
      case hyb10 => (intro x hSx; (try dsimp only at hSx); go_simp; first | done | with_reducible rfl)
      try simp only [Act.put, List.setIfInBounds_toArray, List.set_cons_zero, List.set_cons_succ]
      refine wpAnyH_takeD (i := 11) (some 64) (v := ?vb11) rfl rfl (by kernel_rfl) (by kernel_rfl) (by kernel_rfl) (fun _ _ _ h => h) (Or.inl ⟨by kernel_rfl, ?hyb11⟩) (by assumption) ?restb11
      case hyb11 => (intro x hSx; (try dsimp only at hSx); go_simp; first | done | with_reducible rfl)
      try simp only [Act.put, List.setIfInBounds_toArray, List.set_cons_zero, List.set_cons_succ]
      refine wpAnyH_done (by kernel_rfl) ?_ _
      clear hHeldb HF
      generalize V.drew = V1 at *
      by_cases h0 : m = 0
      · subst h0
        obtain rfl : pre = [] := List.eq_nil_of_length_eq_zero HM.out.symm
        obtain rfl : vc = v := HV0.out rfl
        have HNE : Hid (vc.ownBlock ≠ some Bp) := fun e => by have h1 := (hr.row.own e).2; have h2 := HB6.out.size; omega
        have HS1 : Hid (ShAt V1 B L) := HST1.out.sh
        have HR1 : Hid (RfAt V1 C base vc L) := HST1.out.rf
        have HSL : Hid (Srt L) := hs.srt
        have hxs : xk.size ≤ S := hk1 _ HXL.out
        have hlx : (del xk L).length ≤ 2147483646 := Nat.le_trans (List.length_filter_le _ _) hl
        have hly : (ins key val (del xk L)).length ≤ 2147483647 := Nat.le_trans (ins_le (HSL.out.del xk)) (Nat.succ_le_succ hlx)
        have st0 : St V1 B B C base vc L L V1 vc := St.start HS1.out HR1.out
        have HSTa1 : Hid (St V1 B B C base vc L L V1 vc) := st0
        clear st0
        have st1 := HSTa1.out
        have w1s := (st1.blk HS1.out HR1.out HBX1.out.s (by decide) (by decide) (.inl (by decide))).c1
        have w1n := (st1.blk HS1.out HR1.out HN1.out (by decide) (by decide) (.inl (by decide))).c1
        have w1p := (st1.blk HS1.out HR1.out HX1.out (by decide) (by decide) (.inr HNE.out)).c2.1
        clear st1
        gi_wp2
        have HCa1 := delete_any V1 B L xk HSTa1.out.sh (by omega)
        refine ⟨trivial, fun h => (by cases h), (callsIn_wide.2 HCa1).mono ?_⟩
        clear HCa1
        rintro e V2 hc1
        have HSTa2 : Hid (St V1 B B C base vc (del xk L) L V2 vc) := HSTa1.out.s hc1
        obtain ⟨rfl, _, _, _⟩ := hc1
        clear w1s w1n w1p
        clear HSTa1
        have st2 := HSTa2.out
        have w2r := (st2.blk HS1.out HR1.out HBX1.out.r (by decide) (by decide) (.inl (by decide))).c1
        have w2p := (st2.blk HS1.out HR1.out HX1.out (by decide) (by decide) (.inr HNE.out)).c2.1
        clear st2
        gi_wp2
        have HCa2 := rdelete_any V2 C base vc L xk HSTa2.out.rf HSL.out (by omega) hbC
        refine ⟨trivial, fun h => (by cases h), (callsIn_wide.2 HCa2).mono ?_⟩
        clear HCa2
        rintro e V3 ⟨rfl, v2x, hc2⟩
        have HSTa3 : Hid (St V1 B B C base vc (del xk L) (del xk L) V3 v2x) := HSTa2.out.r hc2
        clear hc2
        clear w2r w2p
        clear HSTa2
        have st3 := HSTa3.out
        have w3s := (st3.blk HS1.out HR1.out HBX1.out.s (by decide) (by decide) (.inl (by decide))).c1
        have w3o := Blk.c9 (x := ⟨kind, oth, key, val, f, t, o, back, early⟩) (st3.blk HS1.out HR1.out HBX1.out.o (by decide) (by decide) (.inl (by decide)))
        have w3k := w3o.2.2.1
        have w3v := w3o.2.2.2.1
        clear w3o
        dsimp only at w3k w3v
        clear st3
        gi_wp2
        have HCa3 := put_any V3 B (del xk L) key val HSTa3.out.sh (Nat.lt_of_le_of_lt hlx (by decide))
        refine ⟨trivial, fun h => (by cases h), (callsIn_wide.2 HCa3).mono ?_⟩
        clear HCa3
        rintro e V4 hc3
        have HSTa4 : Hid (St V1 B B C base vc (ins key val (del xk L)) (del xk L) V4 v2x) := HSTa3.out.s hc3
        obtain ⟨rfl, _, _, _⟩ := hc3
        clear w3s w3k w3v
        clear HSTa3
        have st4 := HSTa4.out
        have w4r := (st4.blk HS1.out HR1.out HBX1.out.r (by decide) (by decide) (.inl (by decide))).c1
        have w4o := Blk.c9 (x := ⟨kind, oth, key, val, f, t, o, back, early⟩) (st4.blk HS1.out HR1.out HBX1.out.o (by decide) (by decide) (.inl (by decide)))
        have w4k := w4o.2.2.1
        have w4v := w4o.2.2.2.1
        clear w4o
        dsimp only at w4k w4v
        clear st4
        gi_wp2
        have HCa4 := rput_any V4 C base v2x (del xk L) key val HSTa4.out.rf (HSL.out.del xk) (Nat.lt_of_le_of_lt hlx (by decide)) hbC
        refine ⟨trivial, fun h => (by cases h), (callsIn_wide.2 HCa4).mono ?_⟩
        clear HCa4
        rintro e V5 ⟨rfl, v4x, hc4⟩
        have HSTa5 : Hid (St V1 B B C base vc (ins key val (del xk L)) (ins key val (del xk L)) V5 v4x) := HSTa4.out.r hc4
        clear hc4
        clear w4r w4k w4v
        clear HSTa4
        have st5 := HSTa5.out
        have w5s := (st5.blk HS1.out HR1.out HBX1.out.s (by decide) (by decide) (.inl (by decide))).c1
        have w5p := (st5.blk HS1.out HR1.out HX1.out (by decide) (by decide) (.inr HNE.out)).c2.1
        clear st5
        gi_wp2
        have HCa5 := put_any V5 B (ins key val (del xk L)) (xk ++ ⟨#[0]⟩) ⟨#[109, 111, 114, 101]⟩ HSTa5.out.sh (Nat.lt_of_le_of_lt hly (by decide))
        refine ⟨trivial, fun h => (by cases h), (callsIn_wide.2 HCa5).mono ?_⟩
        clear HCa5
        rintro e V6 hc5
        have HSTa6 : Hid (St V1 B B C base vc (ins (xk ++ ⟨#[0]⟩) ⟨#[109, 111, 114, 101]⟩ (ins key val (del xk L))) (ins key val (del xk L)) V6 v4x) := HSTa5.out.s hc5
        obtain ⟨rfl, _, _, _⟩ := hc5
        clear w5s w5p
        clear HSTa5
        have st6 := HSTa6.out
        have w6r := (st6.blk HS1.out HR1.out HBX1.out.r (by decide) (by decide) (.inl (by decide))).c1
        have w6p := (st6.blk HS1.out HR1.out HX1.out (by decide) (by decide) (.inr HNE.out)).c2.1
        clear st6
        gi_wp2
        have HCa6 := rput_any V6 C base v4x (ins key val (del xk L)) (xk ++ ⟨#[0]⟩) ⟨#[109, 111, 114, 101]⟩ HSTa6.out.rf ((HSL.out.del xk).ins key val) (Nat.lt_of_le_of_lt hly (by decide)) hbC
        refine ⟨trivial, fun h => (by cases h), (callsIn_wide.2 HCa6).mono ?_⟩
        clear HCa6
        rintro e V7 ⟨rfl, v6x, hc6⟩
        have HSTa7 : Hid (St V1 B B C base vc (ins (xk ++ ⟨#[0]⟩) ⟨#[109, 111, 114, 101]⟩ (ins key val (del xk L))) (ins (xk ++ ⟨#[0]⟩) ⟨#[109, 111, 114, 101]⟩ (ins key val (del xk L))) V7 v6x) := HSTa6.out.r hc6
        clear hc6
        clear w6r w6p
        clear HSTa6
        have st7 := HSTa7.out
        have B7 := st7.blk HS1.out HR1.out HN1.out (by decide) (by decide) (.inl (by decide))
        have w7n := B7.c1
        have w7f := B7.frozen 0
        have HK7 : Hid (KeepX (EX (Ni + 1) B C vc) V V7) := HVV.out.trans st7.kx (fun x _ e => by rcases e with e | e | e | e; exact .inr (.inl e); exact .inr (.inl e); exact .inr (.inr (.inl e)); exact .inr (.inr (.inr e)))
        have HT7 : Hid (St W6 (Ni + 1) B C base vc (ins (xk ++ ⟨#[0]⟩) ⟨#[109, 111, 114, 101]⟩ (ins key val (del xk L))) (ins (xk ++ ⟨#[0]⟩) ⟨#[109, 111, 114, 101]⟩ (ins key val (del xk L))) (V7.setCell ⟨Ni + 1, 0, none⟩ (.int .i64 1)) v6x) := (HST1.out.comp st7).set B7 _
        have HB7 : Hid (Blk (V7.setCell ⟨Ni + 1, 0, none⟩ (.int .i64 1)) (Ni + 1) 3 #[.int .i64 1]) := B7.set 0 _
        clear st7 B7
        gi_wp2
        exact ⟨(HK7.out.set ⟨Ni + 1, 0, none⟩ _ (fun _ => .inl rfl)).keepsFrom HEV.out _, (HK7.out.set ⟨Ni + 1, 0, none⟩ _ (fun _ => .inl rfl)).keepT HEV.out (fun t ht => ht.nkt), HB7.out, v6x, fun e => by simp at e, HT7.out⟩
      · have n1 := HN1.out.c1
        have f1 := HN1.out.frozen 0
        have HPN : Hid (pre ≠ []) := fun e => h0 (by rw [HM.out, e]; rfl)
        by_cases h1 : m = 1
        · subst h1
          obtain ⟨M, HMM⟩ : ∃ M, Hid (M = curP key val L pre) := ⟨_, rfl⟩
          rw [← HMM.out] at HST1
          have hml : M.length ≤ 2147483647 := by rw [HMM.out]; exact Nat.le_trans (cur_length hs.srt HPI.out) (by omega)
          have HMS : Hid (∀ p ∈ M, p.1.size ≤ 17179869184) := fun p hp => by rw [HMM.out] at hp; exact Nat.le_trans (cur_size hk1 hk2 HPI.out p hp) (by omega)
          obtain ⟨now, Hnow⟩ : ∃ now, Hid (now = tellP f t o back M) := ⟨_, rfl⟩
          obtain ⟨x1, x2, x3, x4, x5, x6, x7, x8, x9⟩ := Blk.c9 (x := ⟨kind, oth, key, val, f, t, o, back, early⟩) HBX1.out.o
          have x0 := HBX1.out.r.c1
          dsimp only at x1 x2 x3 x4 x5 x6 x7 x8 x9
          have HCn := rscan_any V1 C base vc M f t o back HST1.out.rf (by omega) (by omega) (by omega) HMS.out
          gi_wp2
          refine ⟨trivial, fun h => (by cases h), (callsIn_wide.2 HCn).mono ?_⟩
          clear HCn x0 x1 x2 x3 x4 x5 x6 x7 x8 x9 n1 f1
          rintro e V2 ⟨nv, rfl, hrn, hb2⟩
          rw [← Hnow.out] at hrn
          obtain ⟨an, cn, en⟩ := hrn.shape
          obtain ⟨nn, hnn⟩ : ∃ nn, nn = now.length := ⟨_, rfl⟩
          rw [← hnn] at en
          have Hnn : Hid (nn = now.length) := hnn
          have hnnb : nn ≤ 2147483647 := by
            rw [hnn, Hnow.out]
            refine Nat.le_trans ?_ hml
            unfold tellP
            split
            · rw [List.length_reverse]; exact List.length_filter_le _ _
            · exact List.length_filter_le _ _
          subst en
          clear hnn
          have b3 := (Below.refl V2.heap.size V2).alloc (Nat.le_refl _) (.cells #[.slice an nn cn] 39)
          have B3 := Blk.new V2 39 #[.slice an nn cn]
          have b4 := (Below.refl (V2.alloc (.cells #[.slice an nn cn] 39)).heap.size (V2.alloc (.cells #[.slice an nn cn] 39))).alloc (Nat.le_refl _) (.cells #[.int .i64 0] 3)
          have B4 := Blk.new (V2.alloc (.cells #[.slice an nn cn] 39)) 3 #[.int .i64 0]
          rw [alloc_size] at B4
          have b14 : Below V1.heap.size V1 ((V2.alloc (.cells #[.slice an nn cn] 39)).alloc (.cells #[.int .i64 0] 3)) := (hb2.trans (b3.mono hb2.size)).trans (b4.mono (Nat.le_trans hb2.size b3.size))
          have HBX4 : Hid (Bxs w.heap.size Nw Ni N wb B C ⟨kind, oth, key, val, f, t, o, back, early⟩ (.slice (some ⟨g, 0, none⟩) nw cw) all ((V2.alloc (.cells #[.slice an nn cn] 39)).alloc (.cells #[.int .i64 0] 3))) := HBX1.out.old b14
          have HST4 : Hid (St W6 (Ni + 1) B C base v M M ((V2.alloc (.cells #[.slice an nn cn] 39)).alloc (.cells #[.int .i64 0] 3)) vc) := HST1.out.old b14
          have HN4 : Hid (Blk ((V2.alloc (.cells #[.slice an nn cn] 39)).alloc (.cells #[.int .i64 0] 3)) (Ni + 1) 3 #[.int .i64 1]) := HN1.out.old b14
          have HVV4 : Hid (KeepX (EX (Ni + 1) B C vc) V ((V2.alloc (.cells #[.slice an nn cn] 39)).alloc (.cells #[.int .i64 0] 3))) := HVV.out.old b14
          have HNb : Hid (Blk ((V2.alloc (.cells #[.slice an nn cn] 39)).alloc (.cells #[.int .i64 0] 3)) V2.heap.size 39 #[.slice an nn cn]) := B3.old b4
          have HRn : Hid (PRow ((V2.alloc (.cells #[.slice an nn cn] 39)).alloc (.cells #[.int .i64 0] 3)) V1.heap.size (.slice an nn cn) now) := (hrn.old b3).old b4
          have HKb : Hid (Blk ((V2.alloc (.cells #[.slice an nn cn] 39)).alloc (.cells #[.int .i64 0] 3)) (V2.heap.size + 1) 3 #[.int .i64 0]) := B4
          have HLP4 : Hid (∃ r, ((V2.alloc (.cells #[.slice an nn cn] 39)).alloc (.cells #[.int .i64 0] 3)).heap[l2]? = some (.loop r)) := by
            obtain ⟨r, hrr⟩ := HLP.out
            exact ⟨r, (b14.block l2 (Array.getElem?_eq_some_iff.1 hrr).1).trans hrr⟩
          have HVb : Hid (V.heap.size ≤ V2.heap.size) := Nat.le_trans HVV.out.size hb2.size
          have HWb : Hid (W6.heap.size ≤ V2.heap.size) := Nat.le_trans HST1.out.kx.size hb2.size
          have hit4 := HBX4.out.i.c1
          dsimp only [itV] at hit4
          clear hrn hb2 b3 B3 b4 B4 b14 HST1 HBX1 HX1 HN1 HLP
          gi_wp2
          generalize (V2.alloc (.cells #[.slice an nn cn] 39)).alloc (.cells #[.int .i64 0] 3) = V4 at *
          generalize V2.heap.size = bn at *
          obtain ⟨r4, hl4⟩ := HLP4.out
          have HSC4 : Hid (ScnAt V4 N (N + 1) (N + 1 + 1) B f t o back M) := ⟨HBX4.out.n1, HBX4.out.n2, HBX4.out.n3, HST4.out.sh⟩
          have HE4 : Hid (OfT V4 (fun k => k = bn + 1) TX) := ofT_one HKb.out
          have HW4 : Hid (∀ g, (Value.slice an nn cn).ownBlock = some g → ¬ g = bn + 1) := fun g e h => HRn.out.notbox HKb.out (by decide) (e.trans (by rw [h]))
          clear HLP4 hit4
          refine range_tellsN (all := now) (r₀ := r4) (by omega) hl4 rfl (enters_of Try.func36 (by kernel_rfl) rfl) (by rw [Hnow.out]; exact scan1_tells (n - 1 - 1 - 1) (by omega) _ _ _ _ _ _ _ _ _ V4 HSC4.out)
            (fun pre U => KeepX (fun k => k = bn + 1) V4 U ∧ Blk U (bn + 1) 3 #[.int .i64 (pre.length : Int)]) (fun _ _ _ => False)
            (OwnFrom.and (KeepX.own (Nat.le_refl _)) (own_keepC (fun s A C h k => k.same _ _ _ h))) (fun c s A C row hs hg hr => hs)
            ⟨KeepX.refl _ _, HKb.out⟩
            (fun x a' U => ∃ Bq, Blk U Bq 45 #[.string x.1, .string x.2] ∧ a' = { tmps := #[Value.pointer (some { block := B, off := 0 }), Value.pointer (some { block := C, off := 0 }), Value.agg #[Value.int IntKind.i64 kind, Value.bool oth, Value.string key, Value.string val, Value.string f, Value.string t, Value.bool o, Value.bool back, Value.int IntKind.i64 early], Value.pointer (some { block := w.heap.size, off := 0 }), Value.pointer (some { block := w.heap.size + 1, off := 0 }), Value.pointer (some { block := w.heap.size + 1 + 1, off := 0 }), Value.pointer (some { block := w.heap.size + 1 + 1 + 1, off := 0 }), Value.pointer (some { block := Nw, off := 0 }), Value.pointer (some { block := Ni, off := 0 }), Value.pointer (some { block := Ni + 1, off := 0 }), undef, Value.pointer (some { block := Bp, off := 0 }), Value.pointer (some { block := bn, off := 0 }), Value.pointer (some { block := bn + 1, off := 0 }), Value.pointer (some { block := Bq, off := 0 }), undef, undef, Value.pointer (some { block := C, off := 0 }), Value.pointer (some { block := w.heap.size + 1 + 1, off := 4 }), Value.agg #[Value.string f, Value.string t, Value.bool o], Value.pointer (some { block := w.heap.size + 1 + 1, off := 7 }), Value.bool back, Value.slice (some { block := g, off := 0 }) nw cw, Value.pointer (some { block := B, off := 0 }), Value.pointer (some { block := w.heap.size + 1 + 1, off := 4 }), Value.agg #[Value.string f, Value.string t, Value.bool o], Value.pointer (some { block := w.heap.size + 1 + 1, off := 7 }), Value.bool back, Value.func (Fn.func 36) #[] #[Value.pointer (some { block := N, off := 0 }), Value.pointer (some { block := N + 1, off := 0 }), Value.pointer (some { block := N + 1 + 1, off := 0 })], Value.func (Fn.func 36) #[] #[Value.pointer (some { block := N, off := 0 }), Value.pointer (some { block := N + 1, off := 0 }), Value.pointer (some { block := N + 1 + 1, off := 0 })], Value.bool false, Value.func (Fn.func 36) #[] #[Value.pointer (some { block := N, off := 0 }), Value.pointer (some { block := N + 1, off := 0 }), Value.pointer (some { block := N + 1 + 1, off := 0 })], undef, undef, undef, undef, undef, undef, undef, undef, undef, undef, undef, undef, undef, undef, undef, undef, undef, undef, undef, Value.func (Fn.func 36) #[] #[Value.pointer (some { block := N, off := 0 }), Value.pointer (some { block := N + 1, off := 0 }), Value.pointer (some { block := N + 1 + 1, off := 0 })], Value.agg #[Value.string xk, Value.string xv], Value.int IntKind.i64 1, Value.slice (some { block := g, off := 0 }) nw cw, Value.int IntKind.i64 ↑nw, Value.bool false, Value.bool false, Value.agg #[Value.string xk, Value.string xv], Value.slice (some { block := g, off := 0 }) nw cw, Value.int IntKind.i64 1, Value.pointer (some { block := g, off := 2 }), Value.agg #[Value.string xk, Value.string xv], Value.bool false, Value.bool false, Value.int IntKind.i64 1, Value.bool true, Value.pointer (some { block := C, off := 0 }), Value.pointer (some { block := w.heap.size + 1 + 1, off := 4 }), Value.agg #[Value.string f, Value.string t, Value.bool o], Value.pointer (some { block := w.heap.size + 1 + 1, off := 7 }), Value.bool back, Value.slice an nn cn, Value.func (Fn.func 36) #[] #[Value.pointer (some { block := N, off := 0 }), Value.pointer (some { block := N + 1, off := 0 }), Value.pointer (some { block := N + 1 + 1, off := 0 })], Value.agg #[Value.string x.1, Value.string x.2], undef, undef, undef, undef, undef, undef, undef, undef, undef, undef, undef, undef, undef, undef, undef, undef, undef, undef, undef, undef, undef, undef, undef, undef, undef, undef, undef, undef, undef, undef, undef, undef, undef, undef, undef, undef, undef, undef, undef, undef, undef, undef, undef, undef, undef, undef, undef, undef, undef, undef, undef, undef, undef, undef, undef, undef, undef, undef, undef, undef, undef, undef, undef, undef, undef, undef, undef, undef, undef, undef, undef, undef, undef, undef, undef, undef], defers := [] })
            (fun x a' => own_keepC (fun s A C h k => by obtain ⟨Bq, h2, h3⟩ := h; exact ⟨Bq, k.same _ _ _ h2, h3⟩)) ?assign3 ?body3 ?done3 ?stop3
          case stop3 =>
            rintro c pre3 U hpre hx
            exact hx.elim
          case assign3 =>
            intro l3 pre3 x U K hi hp hK
            have hb := (Below.refl U.heap.size U).alloc (Nat.le_refl _) (.cells #[.string x.1, .string x.2] 45)
            have hB := Blk.new U 45 #[.string x.1, .string x.2]
            dsimp only [encP]
            gi_wp2
            exact hK _ _ ((KeepsOthers.alloc _ _).from _) (KeepT.of hb) ⟨hi.1.old hb, hi.2.old hb⟩ ⟨U.heap.size, hB, rfl⟩
          case body3 =>
            rintro l3 pre3 x a' U hl3 ⟨r3, hr3⟩ ⟨hkx, hN⟩ ⟨Bq, hx, rfl⟩ hpx3
            have hrow := hkx.row HRn.out HW4.out
            have hbxw := hkx.blk HNb.out (HE4.out.non HNb.out (by unfold TX; decide))
            have hat : now[pre3.length]? = some x := by
              obtain ⟨z, hz⟩ := hpx3
              rw [← hz]
              simp
            obtain ⟨hpl, hxe⟩ := List.getElem?_eq_some_iff.1 hat
            obtain ⟨g3, cc3, _, hg3, eg3, hcs3⟩ := PRow.at hrow (by omega)
            obtain ⟨z0, z1⟩ := hcs3 pre3.length hpl
            rw [hxe] at z0 z1
            injection eg3 with eg1 eg2 eg4
            clear eg2 eg4
            subst eg1
            obtain ⟨k, hk⟩ : ∃ k, k = pre3.length := ⟨_, rfl⟩
            have hkn : (k : Int) < (nn : Int) := by rw [hk, Hnn.out]; omega
            have hkn2 : k < nn := by omega
            have HPL3 : Hid ((pre3 ++ [x]).length = k + 1) := by rw [hk]; simp [Hid]
            rw [← hk] at hN z0 z1
            have c1 := hN.c1
            have c2 := hbxw.c1
            obtain ⟨y0, y1⟩ := hx.c2
            have hdr : Below U.heap.size U U.drew := (Below.refl _ _).drew
            have HO : Hid (KeepX (fun k => k = bn + 1) V4 (U.drew.setCell ⟨bn + 1, 0, none⟩ (.int .i64 ((k : Int) + 1)))) := (hkx.old hdr).set ⟨bn + 1, 0, none⟩ _ (fun _ => rfl)
            have HO2 : Hid (KeepX (fun k => k = bn + 1) U (U.drew.setCell ⟨bn + 1, 0, none⟩ (.int .i64 ((k : Int) + 1)))) := (KeepX.of hdr).set ⟨bn + 1, 0, none⟩ _ (fun _ => rfl)
            have HNU : Hid (OfT U (fun k => k = bn + 1) TX) := ofT_one hN
            have hN1 := hN.old hdr
            have HN2 : Hid (Blk (U.drew.setCell ⟨bn + 1, 0, none⟩ (.int .i64 ((k : Int) + 1))) (bn + 1) 3 #[.int .i64 ((k : Int) + 1)]) := hN1.set 0 _
            have n1 := hN1.c1
            have f1 := hN1.frozen 0
            obtain ⟨qk, qv⟩ := x
            dsimp only at *
            have HF : Hid (∀ x, Below U.heap.size U x → x.cell? ⟨bn + 1, 0, none⟩ = some (.int .i64 (k : Int)) ∧ x.cell? ⟨bn, 0, none⟩ = some (.slice (some ⟨g3, 0, none⟩) nn cn) ∧ x.cell? ⟨Bq, 0, none⟩ = some (.string qk) ∧ x.cell? ⟨Bq, 1, none⟩ = some (.string qv) ∧ x.cell? ⟨g3, k * 2, none⟩ = some (.string qk) ∧ x.cell? ⟨g3, k * 2 + 1, none⟩ = some (.string qv)) := fun x hx =>
              ⟨(hx.cell (p := ⟨bn + 1, 0, none⟩) (cell_lt c1)).trans c1, (hx.cell (p := ⟨bn, 0, none⟩) (cell_lt c2)).trans c2, (hx.cell (p := ⟨Bq, 0, none⟩) (cell_lt y0)).trans y0, (hx.cell (p := ⟨Bq, 1, none⟩) (cell_lt y1)).trans y1, (hx.cell (p := ⟨g3, _, none⟩) hg3).trans z0, (hx.cell (p := ⟨g3, _, none⟩) hg3).trans z1⟩
            clear c1 c2 y0 y1 z0 z1 hat hpl hxe hcs3 hk hbxw hx hdr hN1 hrow hkx hN hr3
            gi_wp2
            refine wpIn_region_any (by kernel_rfl) (anyIn_of_any (fun _ => trivial) (fun h => by obtain ⟨_, _, h⟩ := h; exact h) (calm_arr (by kernel_rfl)) _ _ _ _ ?_)
            rw [show ({ U with drawn := U.drawn + 1 } : World) = U.drew from rfl]
            refine wpAny_of_held (S := fun x => Below U.heap.size U x) _ _ _ _ ?_
            have hHeldc : Below U.heap.size U U.drew := (Below.refl _ _).drew
            refine wpAnyH_takeD (i := 0) (some 75) (v := ?vc0) rfl rfl (by kernel_rfl) (by kernel_rfl) (by kernel_rfl) (fun _ _ _ h => h) (Or.inl ⟨by kernel_rfl, ?hyc0⟩) (by assumption) ?restc0
            case hyc0 => (intro x hSx; (try dsimp only at hSx); obtain ⟨u0, u1, u2, u3, u4, u5⟩ := HF.out x hSx; go_simp; first | done | with_reducible rfl)
            try simp only [Act.put, List.setIfInBounds_toArray, List.set_cons_zero, List.set_cons_succ]
            refine wpAnyH_takeD (i := 1) (some 76) (v := ?vc1) rfl rfl (by kernel_rfl) (by kernel_rfl) (by kernel_rfl) (fun _ _ _ h => h) (Or.inl ⟨by kernel_rfl, ?hyc1⟩) (by assumption) ?restc1
            case hyc1 => (intro x hSx; (try dsimp only at hSx); obtain ⟨u0, u1, u2, u3, u4, u5⟩ := HF.out x hSx; go_simp; first | done | with_reducible rfl)
            try simp only [Act.put, List.setIfInBounds_toArray, List.set_cons_zero, List.set_cons_succ]
            refine wpAnyH_takeD (i := 2) (some 77) (v := ?vc2) rfl rfl (by kernel_rfl) (by kernel_rfl) (by kernel_rfl) (fun _ _ _ h => h) (Or.inl ⟨by kernel_rfl, ?hyc2⟩) (by assumption) ?restc2
            case hyc2 => (intro x hSx; (try dsimp only at hSx); go_simp; first | done | with_reducible rfl)
            try simp only [Act.put, List.setIfInBounds_toArray, List.set_cons_zero, List.set_cons_succ]
            refine wpAnyH_takeD (i := 3) (some 78) (v := .bool false) rfl rfl (by kernel_rfl) (by kernel_rfl) (by kernel_rfl) (fun _ _ _ h => h) (Or.inl ⟨by kernel_rfl, ?hyc3⟩) (by assumption) ?restc3
            case hyc3 => (intro x hSx; (try dsimp only at hSx); go_simp; first | done | with_reducible rfl)
            try simp only [Act.put, List.setIfInBounds_toArray, List.set_cons_zero, List.set_cons_succ]
            refine wpAnyH_takeD (i := 4) (some 79) (v := .bool false) rfl rfl (by kernel_rfl) (by kernel_rfl) (by kernel_rfl) (fun _ _ _ h => h) (Or.inl ⟨by kernel_rfl, ?hyc4⟩) (by assumption) ?restc4
            case hyc4 => (intro x hSx; (try dsimp only at hSx); go_simp; first | done | with_reducible rfl)
            try simp only [Act.put, List.setIfInBounds_toArray, List.set_cons_zero, List.set_cons_succ]
            refine wpAnyH_takeD (i := 5) (some 80) (v := ?vc5) rfl rfl (by kernel_rfl) (by kernel_rfl) (by kernel_rfl) (fun _ _ _ h => h) (Or.inl ⟨by kernel_rfl, ?hyc5⟩) (by assumption) ?restc5
            case hyc5 => (intro x hSx; (try dsimp only at hSx); obtain ⟨u0, u1, u2, u3, u4, u5⟩ := HF.out x hSx; go_simp; first | done | with_reducible rfl)
            try simp only [Act.put, List.setIfInBounds_toArray, List.set_cons_zero, List.set_cons_succ]
            refine wpAnyH_takeD (i := 6) (some 81) (v := ?vc6) rfl rfl (by kernel_rfl) (by kernel_rfl) (by kernel_rfl) (fun _ _ _ h => h) (Or.inl ⟨by kernel_rfl, ?hyc6⟩) (by assumption) ?restc6
            case hyc6 => (intro x hSx; (try dsimp only at hSx); obtain ⟨u0, u1, u2, u3, u4, u5⟩ := HF.out x hSx; go_simp; first | done | with_reducible rfl)
            try simp only [Act.put, List.setIfInBounds_toArray, List.set_cons_zero, List.set_cons_succ]
            refine wpAnyH_takeD (i := 7) (some 82) (v := ?vc7) rfl rfl (by kernel_rfl) (by kernel_rfl) (by kernel_rfl) (fun _ _ _ h => h) (Or.inl ⟨by kernel_rfl, ?hyc7⟩) (by assumption) ?restc7
            case hyc7 => (intro x hSx; (try dsimp only at hSx); obtain ⟨u0, u1, u2, u3, u4, u5⟩ := HF.out x hSx; go_simp; first | done | with_reducible rfl)
            try simp only [Act.put, List.setIfInBounds_toArray, List.set_cons_zero, List.set_cons_succ]
            refine wpAnyH_takeD (i := 8) (some 83) (v := ?vc8) rfl rfl (by kernel_rfl) (by kernel_rfl) (by kernel_rfl) (fun _ _ _ h => h) (Or.inl ⟨by kernel_rfl, ?hyc8⟩) (by assumption) ?restc8
            case hyc8 => (intro x hSx; (try dsimp only at hSx); go_simp; first | done | with_reducible rfl)
            try simp only [Act.put, List.setIfInBounds_toArray, List.set_cons_zero, List.set_cons_succ]
            refine wpAnyH_takeD (i := 9) (some 84) (v := ?vc9) rfl rfl (by kernel_rfl) (by kernel_rfl) (by kernel_rfl) (fun _ _ _ h => h) (Or.inl ⟨by kernel_rfl, ?hyc9⟩) (by assumption) ?restc9
            case hyc9 => (intro x hSx; (try dsimp only at hSx); obtain ⟨u0, u1, u2, u3, u4, u5⟩ := HF.out x hSx; go_simp; first | done | with_reducible rfl)
            try simp only [Act.put, List.setIfInBounds_toArray, List.set_cons_zero, List.set_cons_succ]
            refine wpAnyH_takeD (i := 10) (some 85) (v := .bool false) rfl rfl (by kernel_rfl) (by kernel_rfl) (by kernel_rfl) (fun _ _ _ h => h) (Or.inl ⟨by kernel_rfl, ?hyc10⟩) (by assumption) ?restc10
            case hyc10 => (intro x hSx; (try dsimp only at hSx); go_simp; first | done | with_reducible rfl)
            try simp only [Act.put, List.setIfInBounds_toArray, List.set_cons_zero, List.set_cons_succ]
            refine wpAnyH_takeD (i := 11) (some 86) (v := ?vc11) rfl rfl (by kernel_rfl) (by kernel_rfl) (by kernel_rfl) (fun _ _ _ h => h) (Or.inl ⟨by kernel_rfl, ?hyc11⟩) (by assumption) ?restc11
            case hyc11 => (intro x hSx; (try dsimp only at hSx); go_simp; first | done | with_reducible rfl)
            try simp only [Act.put, List.setIfInBounds_toArray, List.set_cons_zero, List.set_cons_succ]
            refine wpAnyH_done (by kernel_rfl) ?_ _
            clear hHeldc HF
            generalize U.drew = U1 at *
            gi_wp2
            exact ⟨HO2.out.keepsFrom HNU.out _, HO2.out.keepT HNU.out (fun t ht => ht.nkt), HO.out, by rw [HPL3.out]; exact HN2.out⟩
          case done3 =>
            rintro U ⟨hkx, hN⟩
            rw [← Hnn.out] at hN
            have c1 := hN.c1
            have c2 := (hkx.blk HNb.out (HE4.out.non HNb.out (by unfold TX; decide))).c1
            have hNU := hkx.blk HN4.out (fun e => by have := HWb.out; have := HN6.out.lt; omega)
            have c3 := hNU.c1
            have f3 := hNU.frozen 0
            have HSU : Hid (St W6 (Ni + 1) B C base v M M (U.setCell ⟨Ni + 1, 0, none⟩ (.int .i64 2)) vc) := (HST4.out.kx1 hkx HKb.out (by decide) (by decide) (by decide) (by decide) (by have := HWb.out; omega)).set hNU _
            have HKU : Hid (KeepX (EX (Ni + 1) B C vc) V U) := HVV4.out.trans hkx (fun x hx e => by have e2 : x = bn + 1 := e; have := HVb.out; omega)
            have HNU : Hid (Blk (U.setCell ⟨Ni + 1, 0, none⟩ (.int .i64 2)) (Ni + 1) 3 #[.int .i64 2]) := hNU.set 0 _
            clear hkx hN hNU
            gi_wp2
            exact ⟨(HKU.out.set ⟨Ni + 1, 0, none⟩ _ (fun _ => .inl rfl)).keepsFrom HEV.out _, (HKU.out.set ⟨Ni + 1, 0, none⟩ _ (fun _ => .inl rfl)).keepT HEV.out (fun t ht => ht.nkt), by rw [HPL.out]; exact HNU.out, vc, fun e => by simp at e, by rw [curP_snoc HPN.out, ← HMM.out]; exact HSU.out⟩
        · have h2 : ((m : Int) == 1) = false := by rw [beq_eq_false_iff_ne]; omega
          have h3 : ((m : Int) == 0) = false := by rw [beq_eq_false_iff_ne]; omega
          gi_wp2
          exact ⟨(HVV.out.set ⟨Ni + 1, 0, none⟩ _ (fun _ => .inl rfl)).keepsFrom HEV.out _, (HVV.out.set ⟨Ni + 1, 0, none⟩ _ (fun _ => .inl rfl)).keepT HEV.out (fun t ht => ht.nkt), by rw [HPL.out]; exact HN1.out.set 0 _, vc, fun e => by simp at e, by rw [curP_snoc HPN.out]; exact HST1.out.set HN1.out _⟩
end Go.Proofs.Ytklnnkdcnaieoaa
