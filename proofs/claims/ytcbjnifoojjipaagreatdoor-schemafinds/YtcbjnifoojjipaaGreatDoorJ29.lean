/- Contracts and lemmas (nothing is claimed here). -/
import Derived.Test.YtcbjnifoojjipaaGreatDoorJ15
import Derived.Test.YtcbjnifoojjipaaGreatDoorJ6
import Derived.Test.YtcbjnifoojjipaaGreatDoorJ26
import Derived.Deep.RegionHeld
namespace Go.Proofs.YtcbjnifoojjipaaGreatDoor
open Go.RowKit Go.Vf Go.Maps
def CopyOk (l : List Fld) : Prop := ∀ (o : Own) (a : Option Addr) (c n₀ : Nat) (w : World), OwnFits 67108864 o → FIn w 0 n₀ l a → n₀ ≤ w.heap.size →
  Calls Tryz.prog 35 #[fV o a l.length c] w fun e w' => ∃ a' c', e = .returned (fV o a' l.length c') ∧ FT w' w.heap.size none l a' c' ∧ l.length ≤ c' ∧ Below w.heap.size w w'
theorem results35_run {tmps : Array Value} {w : World} {h : Nat} {o : Own} {a : Option Addr} {n c : Nat} (hb : Blk w h 48 (cellsF o a n c)) (t2 : tmps[2]?.getD undef = .pointer (some ⟨h, 0, none⟩)) : (results Tryz.f35 tmps).run Tryz.prog w = .ok (fV o a n c) w := by
  obtain ⟨r0, r1, r2, r3, r4, r5, r6, r7, r8, r9, r10, r11, r12, r13⟩ := hb.rowF
  simp only [Nat.zero_add] at r1 r2 r3 r4 r5 r6 r7 r8 r9 r10 r11 r12 r13
  simp [results, Tryz.results35, go_sem, t2, r0, r1, r2, r3, r4, r5, r6, r7, r8, r9, r10, r11, r12, r13, fV]
theorem wpList_append_fieldB {w : World} {ops : Array Oper} {rest : List Oper} {o : Oper} {a : Act} {Q : Exit → Act → World → Prop} (hgd : o.guard = none) (s x : Operand)
    (ho : o.op = .call { callee := .builtin .append, args := #[s, x], argTypes := #[23, 23] })
    (lo : Nat) (v : Value) (qs : List FQ) (hs : a.eval s = v) (hrow : FRow w lo v qs) (q : FQ) (hq : q.1.fields.length ≤ q.2.2 ∧ FT w lo v.ownBlock q.1.fields q.2.1 q.2.2) (b c : Nat) (hx : a.eval x = .slice (some ⟨b, 0, none⟩) 1 c)
    (hb : Blk w b 48 (cellQ q).toArray) (hlen : qs.length ≤ 67108864) (hbase : lo ≤ w.heap.size)
    (h : ∀ a' c' w', FRow w' lo (.slice a' (qs.length + 1) c') (qs ++ [q]) → w.grownBy w' v.ownBlock → ((Value.slice a' (qs.length + 1) c').ownBlock = v.ownBlock ∨ (Value.slice a' (qs.length + 1) c').ownBlock = some w.heap.size) → wpList Tryz.prog ops Q rest (a.put o.dst (.slice a' (qs.length + 1) c')) w') :
    wpList Tryz.prog ops Q (o :: rest) a w := by
  obtain ⟨i, hi, hz, hsz, hby⟩ := info_parts info57
  refine wpList_append_own_at (P := Tryz.prog) _ hgd s x 23 ho lo 48 i _ 14 120 Tryz.underlying23 hi hz hsz hby rfl (by decide) v qs.length (qs.flatMap cellQ) hs hrow.own ⟨b, 0, none⟩ 1 c (cellQ q) hx rfl ?_ ?_ ?_ ?_ hbase ?_
  · intro j u hu
    rw [show (⟨b, 0, none⟩ : Addr).add j = ⟨b, j, none⟩ by simp [Addr.add]; omega, hb.cell j]
    simpa using hu
  · intro u hu
    simp only [cellQ, List.mem_cons, List.not_mem_nil, or_false] at hu
    rcases hu with h | h | h | h | h | h | h | h | h | h | h | h | h | h <;> (subst h; rfl)
  · unfold maxLen; omega
  · omega
  · intro v' w' h1 h2 h3 hat
    have h4 : FRow w' lo v' (qs ++ [q]) := by
      refine ⟨by rw [List.flatMap_append, List.length_append]; simpa using h1, fun p hp => ?_⟩
      have hpp : p.1.fields.length ≤ p.2.2 ∧ FT w lo v.ownBlock p.1.fields p.2.1 p.2.2 := by
        rcases List.mem_append.1 hp with hp | hp
        · exact hrow.inn p hp
        · rw [List.mem_singleton] at hp; subst hp; exact hq
      refine ⟨hpp.1, ?_⟩
      refine hpp.2.kept (Nat.le_refl _) (fun b _ e1 e2 => ⟨h2.block b e2.lt e1, ?_⟩)
      rcases hat with e | e
      · rw [e]; exact e1
      · rw [e]; have := e2.lt; simp; omega
    obtain ⟨a', c', hv⟩ := h4.val
    rw [List.length_append] at hv
    subst hv
    exact h a' c' w' h4 h2 hat
theorem blk_set_same {w : World} {b i : Nat} {t : TypeId} {cs : Array Value} {v : Value} (h : Blk w b t cs) (hv : cs[i]? = some v) : Blk (w.setCell ⟨b, i, none⟩ v) b t cs := by
  have := h.set i v
  have e : cs.setIfInBounds i v = cs := by
    apply Array.ext_getElem?
    intro j
    by_cases hj : i = j
    · subst hj
      rw [Array.getElem?_setIfInBounds_self_of_lt (Array.getElem?_eq_some_iff.1 hv).1, hv]
    · rw [Array.getElem?_setIfInBounds_ne hj]
  rw [e] at this
  exact this
theorem setL_full {w : World} {b : Nat} {t : TypeId} {cs : Array Value} (vs : List Value) (h : Blk w b t cs) (hz : cs.size = vs.length) : Blk (setL w b 0 vs) b t vs.toArray := by
  obtain ⟨cs2, h1, h2, h3, _⟩ := setL_blk vs w 0 cs h (by omega)
  have e : cs2 = vs.toArray := by
    apply Array.ext_getElem?
    intro i
    by_cases hi : i < vs.length
    · have := h3 i hi
      rw [Nat.zero_add] at this
      rw [this]
      simp
    · rw [Array.getElem?_eq_none (by omega), Array.getElem?_eq_none (by simp; omega)]
  rw [e] at h1
  exact h1
set_option maxHeartbeats 8000000 in
set_option maxRecDepth 20000 in
theorem copied_step (l : List Fld) (hll : l.length ≤ 67108864) (hfit : ∀ x ∈ l, FitsF 67108864 x) (ih : ∀ x ∈ l, CopyOk x.fields) : CopyOk l := by
  intro o a c n₀ w ho hin hn₀
  obtain ⟨n, hn⟩ : ∃ n, l.length = n := ⟨_, rfl⟩
  have HN : Hid (l.length = n) := hn
  rw [hn] at hll ⊢
  have hbA := (Below.refl w.heap.size w).alloc (Nat.le_refl _) (.cells (cellsF o a n c) 48)
  have hb0 := hbA.alloc (by simp) (.cells #[.string ⟨#[]⟩, .int .u8 0, .bool false, .int .u8 0, .bool false, .bool false, .string ⟨#[]⟩, .bool false, .string ⟨#[]⟩, .int .i64 0, .int .i64 0, .bool false, .bool false, .slice none 0 0] 48)
  have hX := Blk.new w 48 (cellsF o a n c)
  have hR := Blk.new (w.alloc (.cells (cellsF o a n c) 48)) 48 #[.string ⟨#[]⟩, .int .u8 0, .bool false, .int .u8 0, .bool false, .bool false, .string ⟨#[]⟩, .bool false, .string ⟨#[]⟩, .int .i64 0, .int .i64 0, .bool false, .bool false, .slice none 0 0]
  have hX1 := hX.below ((Below.refl _ (w.alloc (.cells (cellsF o a n c) 48))).alloc (Nat.le_refl _) (.cells #[.string ⟨#[]⟩, .int .u8 0, .bool false, .int .u8 0, .bool false, .bool false, .string ⟨#[]⟩, .bool false, .string ⟨#[]⟩, .int .i64 0, .int .i64 0, .bool false, .bool false, .slice none 0 0] 48)) (by simp)
  rw [show (w.alloc (.cells (cellsF o a n c) 48)).heap.size = w.heap.size + 1 by simp] at hR
  have hsz : ((w.alloc (.cells (cellsF o a n c) 48)).alloc (.cells #[.string ⟨#[]⟩, .int .u8 0, .bool false, .int .u8 0, .bool false, .bool false, .string ⟨#[]⟩, .bool false, .string ⟨#[]⟩, .int .i64 0, .int .i64 0, .bool false, .bool false, .slice none 0 0] 48)).heap.size = w.heap.size + 1 + 1 := by simp
  have HIN : Hid (FIn w 0 n₀ l a) := hin
  have HFIT : Hid (∀ x ∈ l, FitsF 67108864 x) := hfit
  have HIH : Hid (∀ x ∈ l, CopyOk x.fields) := ih
  have HO : Hid (OwnFits 67108864 o) := ho
  have hk1 := fun w => clone_any o.name w (by have := ho.nm; omega)
  have hk2 := fun w => clone_any o.lm w (by have := ho.lm; omega)
  have hk3 := fun w => clone_any o.hm w (by have := ho.hm; omega)
  clear hn hbA hX hin hfit ih ho
  unfold fV
  unfold cellsF at hb0 hX1 hR hsz
  go_enter Tryz.func35, Tryz.ntmps35
  go_upto_region 1 with fail
  generalize (w.alloc _).alloc _ = W at hb0 hX1 hR hsz ⊢
  have HX0 : Hid (Blk W w.heap.size 48 (cellsF o a n c)) := hX1
  have HR0 : Hid (Blk W (w.heap.size + 1) 48 #[.string ⟨#[]⟩, .int .u8 0, .bool false, .int .u8 0, .bool false, .bool false, .string ⟨#[]⟩, .bool false, .string ⟨#[]⟩, .int .i64 0, .int .i64 0, .bool false, .bool false, .slice none 0 0]) := hR
  have HB0 : Hid (Below w.heap.size w W) := hb0
  have HZ0 : Hid (W.heap.size = w.heap.size + 1 + 1) := hsz
  have HBW0 : Hid (Below W.heap.size W W) := Below.refl _ _
  clear hX1 hR hb0 hsz
  obtain ⟨V0, hV0⟩ : ∃ V0, V0 = W := ⟨_, rfl⟩
  rw [← hV0]
  rw [← hV0] at HX0 HR0 HB0
  have HBV0 : Hid (Below (w.heap.size + 1 + 1) W V0) := by rw [hV0]; exact Below.refl _ _
  clear hV0 HBW0
  have x0 : V0.cell? ⟨w.heap.size, 0, none⟩ = some (.string o.name) := HX0.out.cell 0
  have hcl := hk1 V0
  go_wp2_with fail
  refine hcl.mono ?_
  clear hcl x0
  rintro _ u1 ⟨rfl, hbq⟩
  have hXq := HX0.out.old hbq
  have x0 : u1.cell? ⟨w.heap.size, 0, none⟩ = some (.string o.name) := hXq.cell 0
  have f0 : u1.frozen? ⟨w.heap.size, 0, none⟩ = false := hXq.frozen 0
  have HX1 : Hid (Blk (u1.setCell ⟨w.heap.size, 0, none⟩ (.string o.name)) w.heap.size 48 (cellsF o a n c)) := blk_set_same hXq rfl
  have HR1 : Hid (Blk (u1.setCell ⟨w.heap.size, 0, none⟩ (.string o.name)) (w.heap.size + 1) 48 #[.string ⟨#[]⟩, .int .u8 0, .bool false, .int .u8 0, .bool false, .bool false, .string ⟨#[]⟩, .bool false, .string ⟨#[]⟩, .int .i64 0, .int .i64 0, .bool false, .bool false, .slice none 0 0]) := (HR0.out.old hbq).other (p := ⟨w.heap.size, 0, none⟩) (by show w.heap.size + 1 ≠ w.heap.size; omega) _
  have HB1 : Hid (Below w.heap.size w (u1.setCell ⟨w.heap.size, 0, none⟩ (.string o.name))) := (HB0.out.trans (hbq.mono HB0.out.size)).setCell (p := ⟨w.heap.size, 0, none⟩) (Nat.le_refl _) _
  clear hXq hbq HX0 HR0 HB0
  go_upto_region 2 with fail
  clear x0 f0
  generalize u1.setCell ⟨w.heap.size, 0, none⟩ (.string o.name) = V1 at HX1 HR1 HB1 ⊢
  have x1 : V1.cell? ⟨w.heap.size, 6, none⟩ = some (.string o.lm) := HX1.out.cell 6
  have hcl := hk2 V1
  go_wp2_with fail
  refine hcl.mono ?_
  clear hcl x1
  rintro _ u2 ⟨rfl, hbq⟩
  have hXq := HX1.out.old hbq
  have x1 : u2.cell? ⟨w.heap.size, 6, none⟩ = some (.string o.lm) := hXq.cell 6
  have f1 : u2.frozen? ⟨w.heap.size, 6, none⟩ = false := hXq.frozen 6
  have HX2 : Hid (Blk (u2.setCell ⟨w.heap.size, 6, none⟩ (.string o.lm)) w.heap.size 48 (cellsF o a n c)) := blk_set_same hXq rfl
  have HR2 : Hid (Blk (u2.setCell ⟨w.heap.size, 6, none⟩ (.string o.lm)) (w.heap.size + 1) 48 #[.string ⟨#[]⟩, .int .u8 0, .bool false, .int .u8 0, .bool false, .bool false, .string ⟨#[]⟩, .bool false, .string ⟨#[]⟩, .int .i64 0, .int .i64 0, .bool false, .bool false, .slice none 0 0]) := (HR1.out.old hbq).other (p := ⟨w.heap.size, 6, none⟩) (by show w.heap.size + 1 ≠ w.heap.size; omega) _
  have HB2 : Hid (Below w.heap.size w (u2.setCell ⟨w.heap.size, 6, none⟩ (.string o.lm))) := (HB1.out.trans (hbq.mono HB1.out.size)).setCell (p := ⟨w.heap.size, 6, none⟩) (Nat.le_refl _) _
  clear hXq hbq HX1 HR1 HB1
  go_upto_region 3 with fail
  clear x1 f1
  generalize u2.setCell ⟨w.heap.size, 6, none⟩ (.string o.lm) = V2 at HX2 HR2 HB2 ⊢
  have x2 : V2.cell? ⟨w.heap.size, 8, none⟩ = some (.string o.hm) := HX2.out.cell 8
  have hcl := hk3 V2
  go_wp2_with fail
  refine hcl.mono ?_
  clear hcl x2
  rintro _ u3 ⟨rfl, hbq⟩
  have hXq := HX2.out.old hbq
  have x2 : u3.cell? ⟨w.heap.size, 8, none⟩ = some (.string o.hm) := hXq.cell 8
  have f2 : u3.frozen? ⟨w.heap.size, 8, none⟩ = false := hXq.frozen 8
  have HX3 : Hid (Blk (u3.setCell ⟨w.heap.size, 8, none⟩ (.string o.hm)) w.heap.size 48 (cellsF o a n c)) := blk_set_same hXq rfl
  have HR3 : Hid (Blk (u3.setCell ⟨w.heap.size, 8, none⟩ (.string o.hm)) (w.heap.size + 1) 48 #[.string ⟨#[]⟩, .int .u8 0, .bool false, .int .u8 0, .bool false, .bool false, .string ⟨#[]⟩, .bool false, .string ⟨#[]⟩, .int .i64 0, .int .i64 0, .bool false, .bool false, .slice none 0 0]) := (HR2.out.old hbq).other (p := ⟨w.heap.size, 8, none⟩) (by show w.heap.size + 1 ≠ w.heap.size; omega) _
  have HB3 : Hid (Below w.heap.size w (u3.setCell ⟨w.heap.size, 8, none⟩ (.string o.hm))) := (HB2.out.trans (hbq.mono HB2.out.size)).setCell (p := ⟨w.heap.size, 8, none⟩) (Nat.le_refl _) _
  clear hXq hbq HX2 HR2 HB2
  go_upto_region 4 with fail
  clear x2 f2
  generalize u3.setCell ⟨w.heap.size, 8, none⟩ (.string o.hm) = V3 at HX3 HR3 HB3 ⊢
  clear HBV0 HZ0 hk1 hk2 hk3
  have x13 : V3.cell? ⟨w.heap.size, 13, none⟩ = some (.slice a n c) := HX3.out.cell 13
  have hlo : w.heap.size + 1 + 1 ≤ V3.heap.size := HR3.out.lt
  go_wp2_with fail
  clear x13
  go_loopw [3, 25] (fun vv iv wr => ∃ (j : Nat) (ra : Option Addr) (rn rc : Nat) (qs : List FQ), j ≤ n ∧ iv = .int .i64 (j : Int) ∧ vv = .slice ra rn rc ∧ Hid (rn = qs.length ∧ qs.map Prod.fst = l.take j) ∧ Hid (FRow wr V3.heap.size (.slice ra rn rc) qs) ∧ Hid (Below V3.heap.size V3 wr)) (fun _ iv _ => n - (intOf iv).toNat)
  case atStart => exact ⟨0, none, 0, 0, [], Nat.zero_le _, rfl, rfl, ⟨rfl, by simp⟩, FRow.nil _ _, Below.refl _ _⟩
  case round =>
    obtain ⟨j, ra, rn, rc, qs, hj, rfl, rfl, HQ, HF, HBR⟩ := hrel
    have HBw : Hid (Below w.heap.size w wr) := HB3.out.trans (HBR.out.mono HB3.out.size)
    by_cases hlt : j < n
    · have tl : decide ((j : Int) < (n : Int)) = true := decide_eq_true (by omega)
      have hjl : j < l.length := by rw [HN.out]; exact hlt
      obtain ⟨bb, off, aj, cj, rfl, _, hbn, hrow, hinj, hcj⟩ := (HIN.out.keep HBw.out hn₀).atC hjl
      have hcp := HIH.out _ (List.getElem_mem hjl)
      have hft := HFIT.out _ (List.getElem_mem hjl)
      have htk : l.take (j + 1) = l.take j ++ [l[j]] := List.take_succ_eq_append_getElem hjl
      obtain ⟨x, hx⟩ : ∃ x, l[j] = x := ⟨_, rfl⟩
      rw [hx] at hrow hinj hcj hcp hft htk
      have HTK : Hid (l.take (j + 1) = l.take j ++ [x]) := htk
      have hbA := (Below.refl wr.heap.size wr).alloc (Nat.le_refl _) (.cells (cellsF x.own aj x.fields.length cj) 48)
      have hX5 := Blk.new wr 48 (cellsF x.own aj x.fields.length cj)
      have hcall := hcp x.own aj cj n₀ (wr.alloc (.cells (cellsF x.own aj x.fields.length cj) 48)) hft.own (hinj.keep hbA (Nat.le_trans hn₀ HBw.out.size)) (Nat.le_trans (Nat.le_trans hn₀ HBw.out.size) hbA.size)
      obtain ⟨r0, r1, r2, r3, r4, r5, r6, r7, r8, r9, r10, r11, r12, r13⟩ := hrow
      obtain ⟨y0, y1, y2, y3, y4, y5, y6, y7, y8, y9, y10, y11, y12, y13⟩ := hX5.rowF
      simp only [Nat.zero_add] at y1 y2 y3 y4 y5 y6 y7 y8 y9 y10 y11 y12 y13
      have HBA : Hid (Below wr.heap.size wr (wr.alloc (.cells (cellsF x.own aj x.fields.length cj) 48))) := hbA
      unfold fV at hcall
      unfold cellsF at hcall HBA y0 y1 y2 y3 y4 y5 y6 y7 y8 y9 y10 y11 y12 y13
      obtain ⟨m, hm⟩ : ∃ m, x.fields.length = m := ⟨_, rfl⟩
      have HM : Hid (x.fields.length = m) := hm
      rw [hm] at hcall HBA y13 r13
      clear hm
      clear hx hcp hft hinj hX5 hbA htk hcj
      go_wp2_with fail
      refine hcall.mono ?_
      clear hcall r0 r1 r2 r3 r4 r5 r6 r7 r8 r9 r10 r11 r12 r13 y0 y1 y2 y3 y4 y5 y6 y7 y8 y9 y10 y11 y12 y13
      rintro _ w5 ⟨a', c', rfl, hft5, hmc, hb5⟩
      have HB5 : Hid (Below wr.heap.size wr w5) := HBA.out.trans (hb5.mono HBA.out.size)
      have hz5 : wr.heap.size < w5.heap.size := Nat.lt_of_lt_of_le (by simp) hb5.size
      have hF5 : FRow w5 V3.heap.size (.slice ra rn rc) qs := HF.out.keep fun b _ h => HB5.out.block b h.lt
      have hbY := (Below.refl w5.heap.size w5).alloc (Nat.le_refl _) (.cells (cellQ (x, a', c')).toArray 48)
      have HF6 : Hid (FRow (w5.alloc (.cells (cellQ (x, a', c')).toArray 48)) V3.heap.size (.slice ra rn rc) qs) := hF5.keep fun b _ h => hbY.block b h.lt
      have HT6 : Hid (x.fields.length ≤ c' ∧ FT (w5.alloc (.cells (cellQ (x, a', c')).toArray 48)) V3.heap.size (Value.slice ra rn rc).ownBlock x.fields a' c') := by
        refine ⟨by rw [HM.out]; exact hmc, ((hft5.keep fun b _ _ h => hbY.block b h.lt).mono (Nat.le_trans HBR.out.size (by simp)) fun b h1 _ _ e => ?_)⟩
        have h2 := (HF.out.t48 e.symm).2.lt
        simp at h1
        omega
      have HQB : Hid (Blk (w5.alloc (.cells (cellQ (x, a', c')).toArray 48)) w5.heap.size 48 (cellQ (x, a', c')).toArray) := Blk.new w5 48 _
      have HBY : Hid (Below V3.heap.size V3 (w5.alloc (.cells (cellQ (x, a', c')).toArray 48))) := (HBR.out.trans (HB5.out.mono HBR.out.size)).trans (hbY.mono (Nat.le_trans HBR.out.size HB5.out.size))
      have hql : qs.length ≤ 67108864 := by
        have h1 := congrArg List.length HQ.out.2
        rw [List.length_map, List.length_take] at h1
        omega
      have hbase := HBY.out.size
      clear hft5 hmc hb5 hF5 hbY HBA
      have HT6b : Hid _ := HT6.out
      clear HT6
      have hcq : (Obj.cells (cellQ (x, a', c')).toArray 48) = .cells #[.string x.own.name, .int .u8 x.own.kind, .bool x.own.down, .int .u8 x.own.nulls, .bool x.own.bnd, .bool x.own.ln, .string x.own.lm, .bool x.own.hn, .string x.own.hm, .int .i64 x.own.most, .int .i64 x.own.str, .bool x.own.shf, .bool x.own.bck, .slice a' m c'] 48 := by unfold cellQ; simp only []; rw [HM.out]
      rw [hcq] at HF6 HT6b HBY hbase
      have HQB2 : Hid (Blk (w5.alloc (.cells #[.string x.own.name, .int .u8 x.own.kind, .bool x.own.down, .int .u8 x.own.nulls, .bool x.own.bnd, .bool x.own.ln, .string x.own.lm, .bool x.own.hn, .string x.own.hm, .int .i64 x.own.most, .int .i64 x.own.str, .bool x.own.shf, .bool x.own.bck, .slice a' m c'] 48)) w5.heap.size 48 (cellQ (x, a', c')).toArray) := by rw [← hcq]; exact HQB.out
      clear hcq HQB
      go_wp2_with (at_builtin; go_loud (refine wpList_append_fieldB rfl _ _ rfl V3.heap.size _ qs rfl HF6.out (x, a', c') HT6b.out w5.heap.size _ rfl HQB2.out hql hbase ?_); intro a7 c7 w7 hrow7 hgr7 hat7; have HR7 : Hid _ := hrow7; have HG7 : Hid _ := hgr7; clear hrow7 hgr7 hat7)
      have HB7 : Hid (Below V3.heap.size V3 w7) := HBY.out.grown HG7.out hbase (fun k hk => (HF6.out.t48 hk).1)
      have HQ7 : Hid (qs.length + 1 = (qs ++ [(x, a', c')]).length ∧ (qs ++ [(x, a', c')]).map Prod.fst = l.take (j + 1)) := ⟨by simp, by rw [List.map_append, HQ.out.2, HTK.out]; rfl⟩
      clear HF6 HT6b HQB2 HBY hbase HG7
      go_roundw
      case rel => exact ⟨j + 1, a7, qs.length + 1, c7, qs ++ [(x, a', c')], by omega, by simp, rfl, HQ7, HR7, HB7⟩
      case measure => simp only [intOf]; omega
    · have hjn : j = n := by omega
      subst hjn
      have tl : decide ((j : Int) < (j : Int)) = false := decide_eq_false (by omega)
      have hfin := HF.out.fin
      have hmp : qs.map Prod.fst = l := by rw [HQ.out.2]; exact List.take_of_length_le (by rw [HN.out]; exact Nat.le_refl _)
      rw [hmp] at hfin
      have hrn : rn = j := by rw [hfin.1, ← HN.out, ← hmp, List.length_map]
      subst hrn
      have HFT : Hid (rn ≤ rc ∧ FT wr V3.heap.size none l ra rc) := hfin.2
      have HXr : Hid (Blk wr w.heap.size 48 (cellsF o a rn c)) := HX3.out.below HBR.out (Nat.lt_of_lt_of_le (by omega) hlo)
      have HRr : Hid (Blk wr (w.heap.size + 1) 48 #[.string ⟨#[]⟩, .int .u8 0, .bool false, .int .u8 0, .bool false, .bool false, .string ⟨#[]⟩, .bool false, .string ⟨#[]⟩, .int .i64 0, .int .i64 0, .bool false, .bool false, .slice none 0 0]) := HR3.out.below HBR.out (Nat.lt_of_lt_of_le (by omega) hlo)
      have x13 : wr.cell? ⟨w.heap.size, 13, none⟩ = some (.slice a rn c) := HXr.out.cell 13
      have f13 : wr.frozen? ⟨w.heap.size, 13, none⟩ = false := HXr.out.frozen 13
      clear hfin hmp HF HQ HX3 HR3
      go_upto_region 11 with fail
      have HX4 : Hid (Blk (wr.setCell ⟨w.heap.size, 13, none⟩ (.slice ra rn rc)) w.heap.size 48 (cellsF o ra rn rc)) := HXr.out.set 13 (.slice ra rn rc)
      have HR4 : Hid (Blk (wr.setCell ⟨w.heap.size, 13, none⟩ (.slice ra rn rc)) (w.heap.size + 1) 48 #[.string ⟨#[]⟩, .int .u8 0, .bool false, .int .u8 0, .bool false, .bool false, .string ⟨#[]⟩, .bool false, .string ⟨#[]⟩, .int .i64 0, .int .i64 0, .bool false, .bool false, .slice none 0 0]) := HRr.out.other (p := ⟨w.heap.size, 13, none⟩) (by show w.heap.size + 1 ≠ w.heap.size; omega) _
      have HB4 : Hid (Below w.heap.size w (wr.setCell ⟨w.heap.size, 13, none⟩ (.slice ra rn rc))) := HBw.out.setCell (p := ⟨w.heap.size, 13, none⟩) (Nat.le_refl _) _
      have HFT4 : Hid (rn ≤ rc ∧ FT (wr.setCell ⟨w.heap.size, 13, none⟩ (.slice ra rn rc)) V3.heap.size none l ra rc) := ⟨HFT.out.1, HFT.out.2.keep fun b h1 _ _ => Below.heap_setCell wr ⟨w.heap.size, 13, none⟩ _ b (by show b ≠ w.heap.size; omega)⟩
      clear x13 f13 HXr HRr HFT
      generalize wr.setCell ⟨w.heap.size, 13, none⟩ (.slice ra rn rc) = V4 at HX4 HR4 HB4 HFT4 ⊢
      have y0 : V4.cell? ⟨w.heap.size, 0, none⟩ = some (.string o.name) := HX4.out.cell 0
      have y1 : V4.cell? ⟨w.heap.size, 1, none⟩ = some (.int .u8 o.kind) := HX4.out.cell 1
      have y2 : V4.cell? ⟨w.heap.size, 2, none⟩ = some (.bool o.down) := HX4.out.cell 2
      have y3 : V4.cell? ⟨w.heap.size, 3, none⟩ = some (.int .u8 o.nulls) := HX4.out.cell 3
      have y4 : V4.cell? ⟨w.heap.size, 4, none⟩ = some (.bool o.bnd) := HX4.out.cell 4
      have y5 : V4.cell? ⟨w.heap.size, 5, none⟩ = some (.bool o.ln) := HX4.out.cell 5
      have y6 : V4.cell? ⟨w.heap.size, 6, none⟩ = some (.string o.lm) := HX4.out.cell 6
      have y7 : V4.cell? ⟨w.heap.size, 7, none⟩ = some (.bool o.hn) := HX4.out.cell 7
      have y8 : V4.cell? ⟨w.heap.size, 8, none⟩ = some (.string o.hm) := HX4.out.cell 8
      have y9 : V4.cell? ⟨w.heap.size, 9, none⟩ = some (.int .i64 o.most) := HX4.out.cell 9
      have y10 : V4.cell? ⟨w.heap.size, 10, none⟩ = some (.int .i64 o.str) := HX4.out.cell 10
      have y11 : V4.cell? ⟨w.heap.size, 11, none⟩ = some (.bool o.shf) := HX4.out.cell 11
      have y12 : V4.cell? ⟨w.heap.size, 12, none⟩ = some (.bool o.bck) := HX4.out.cell 12
      have y13 : V4.cell? ⟨w.heap.size, 13, none⟩ = some (.slice ra rn rc) := HX4.out.cell 13
      obtain ⟨z0, z1, z2, z3, z4, z5, z6, z7, z8, z9, z10, z11, z12, z13⟩ := HR4.out.c14
      have g0 := HR4.out.frozen 0
      have g1 := HR4.out.frozen 1
      have g2 := HR4.out.frozen 2
      have g3 := HR4.out.frozen 3
      have g4 := HR4.out.frozen 4
      have g5 := HR4.out.frozen 5
      have g6 := HR4.out.frozen 6
      have g7 := HR4.out.frozen 7
      have g8 := HR4.out.frozen 8
      have g9 := HR4.out.frozen 9
      have g10 := HR4.out.frozen 10
      have g11 := HR4.out.frozen 11
      have g12 := HR4.out.frozen 12
      have g13 := HR4.out.frozen 13
      go_wp2_with fail
      have hfull := setL_full [.string o.name, .int .u8 o.kind, .bool o.down, .int .u8 o.nulls, .bool o.bnd, .bool o.ln, .string o.lm, .bool o.hn, .string o.hm, .int .i64 o.most, .int .i64 o.str, .bool o.shf, .bool o.bck, .slice ra rn rc] HR4.out rfl
      have HB5 : Hid (Below w.heap.size w (setL V4 (w.heap.size + 1) 0 [.string o.name, .int .u8 o.kind, .bool o.down, .int .u8 o.nulls, .bool o.bnd, .bool o.ln, .string o.lm, .bool o.hn, .string o.hm, .int .i64 o.most, .int .i64 o.str, .bool o.shf, .bool o.bck, .slice ra rn rc])) := setL_below (Nat.le_succ _) _ V4 0 HB4.out
      have HF5 : Hid (FT (setL V4 (w.heap.size + 1) 0 [.string o.name, .int .u8 o.kind, .bool o.down, .int .u8 o.nulls, .bool o.bnd, .bool o.ln, .string o.lm, .bool o.hn, .string o.hm, .int .i64 o.most, .int .i64 o.str, .bool o.shf, .bool o.bck, .slice ra rn rc]) w.heap.size none l ra rc) := (HFT4.out.2.keep fun b h1 _ _ => setL_other (by omega) _ V4 0).mono (by omega) (fun _ _ _ _ => by simp)
      clear z0 z1 z2 z3 z4 z5 z6 z7 z8 z9 z10 z11 z12 z13 y0 y1 y2 y3 y4 y5 y6 y7 y8 y9 y10 y11 y12 y13
      change bodyPost _ _ _ _ _ (setL V4 (w.heap.size + 1) 0 [.string o.name, .int .u8 o.kind, .bool o.down, .int .u8 o.nulls, .bool o.bnd, .bool o.ln, .string o.lm, .bool o.hn, .string o.hm, .int .i64 o.most, .int .i64 o.str, .bool o.shf, .bool o.bck, .slice ra rn rc])
      generalize setL V4 (w.heap.size + 1) 0 [.string o.name, .int .u8 o.kind, .bool o.down, .int .u8 o.nulls, .bool o.bnd, .bool o.ln, .string o.lm, .bool o.hn, .string o.hm, .int .i64 o.most, .int .i64 o.str, .bool o.shf, .bool o.bck, .slice ra rn rc] = V5 at hfull HB5 HF5 ⊢
      refine bodyPost_ret (results35_run (o := o) (a := ra) (n := rn) (c := rc) hfull rfl) rfl ?_
      exact ⟨ra, rc, rfl, HF5.out, HFT4.out.1, HB5.out⟩
theorem copied_any (f : Fld) : FitsF 67108864 f → CopyOk f.fields := by
  induction f using Fld.ind with
  | h o l ih => intro hf; exact copied_step l hf.len (fun x hx => hf.mem hx) (fun x hx => ih x hx (hf.mem hx))
end Go.Proofs.YtcbjnifoojjipaaGreatDoor
namespace Go.Vf
def findF : List Fld → List Int → Option Fld
  | _, [] => none
  | l, i :: p => if h : 0 ≤ i ∧ i.toNat < l.length then (if p = [] then some (l[i.toNat]'h.2) else findF (l[i.toNat]'h.2).fields p) else none
def ownNo : Own := { name := ⟨#[]⟩, kind := 0, down := false, nulls := 0, bnd := false, ln := false, lm := ⟨#[]⟩, hn := false, hm := ⟨#[]⟩, most := 0, str := 0, shf := false, bck := false }
def ownO (r : Option Fld) : Own := (r.map Fld.own).getD ownNo
def fldO (r : Option Fld) : List Fld := (r.map Fld.fields).getD []
def AtF (R cur : Option Fld) (fl : List Fld) (p : List Int) : Prop := if p = [] then R = cur else R = findF fl p
theorem AtF.end {R cur : Option Fld} {fl : List Fld} (h : AtF R cur fl []) : R = cur := by unfold AtF at h; simpa using h
theorem AtF.off {R cur : Option Fld} {fl : List Fld} {i : Int} {p : List Int} (h : AtF R cur fl (i :: p)) (hr : ¬ (0 ≤ i ∧ i.toNat < fl.length)) : R = none := by
  unfold AtF at h
  rw [if_neg (by simp)] at h
  rw [h, findF, dif_neg hr]
theorem AtF.on {R cur : Option Fld} {fl : List Fld} {i : Int} {p : List Int} (h : AtF R cur fl (i :: p)) (h0 : 0 ≤ i) (hl : i.toNat < fl.length) : AtF R (some fl[i.toNat]) fl[i.toNat].fields p := by
  unfold AtF at h ⊢
  rw [if_neg (by simp)] at h
  rw [h, findF, dif_pos ⟨h0, hl⟩]
  split <;> rfl
theorem AtF.start (l : List Fld) (p : List Int) : AtF (findF l p) none l p := by
  unfold AtF
  split
  · rename_i h; subst h; cases l <;> rfl
  · rfl
end Go.Vf
namespace Go.Proofs.YtcbjnifoojjipaaGreatDoor
open Go.RowKit Go.Vf Go.Maps
theorem results19_run {tmps : Array Value} {w : World} {h : Nat} {o : Own} {a : Option Addr} {n c : Nat} {b : Bool} (hb : Blk w h 48 (cellsF o a n c)) (t4 : tmps[4]?.getD undef = .pointer (some ⟨h, 0, none⟩)) (t5 : tmps[5]?.getD undef = .bool b) : (results Tryz.f19 tmps).run Tryz.prog w = .ok (.tuple #[fV o a n c, .bool b]) w := by
  obtain ⟨r0, r1, r2, r3, r4, r5, r6, r7, r8, r9, r10, r11, r12, r13⟩ := hb.rowF
  simp only [Nat.zero_add] at r1 r2 r3 r4 r5 r6 r7 r8 r9 r10 r11 r12 r13
  simp [results, Tryz.results19, go_sem, t4, t5, r0, r1, r2, r3, r4, r5, r6, r7, r8, r9, r10, r11, r12, r13, fV]
def FndPost (R : Option Fld) (w : World) (e : Ending) (w' : World) : Prop := Below w.heap.size w w' ∧ ∃ a c, e = .returned (.tuple #[fV (ownO R) a (fldO R).length c, .bool R.isSome]) ∧ FT w' w.heap.size none (fldO R) a c ∧ (fldO R).length ≤ c
theorem cells0 : cellsF ownNo none 0 0 = #[.string ⟨#[]⟩, .int .u8 0, .bool false, .int .u8 0, .bool false, .bool false, .string ⟨#[]⟩, .bool false, .string ⟨#[]⟩, .int .i64 0, .int .i64 0, .bool false, .bool false, .slice none 0 0] := rfl
theorem ints_nth {n₀ : Nat} {w : World} {a : Option Addr} {k c : Nat} {zs : List Int} (h : Ints n₀ w (.slice a k c) zs) {j : Nat} (hj : j < zs.length) : ∃ b off, a = some ⟨b, off, none⟩ ∧ b < n₀ ∧ w.cell? ⟨b, off + j, none⟩ = some (.int .i64 zs[j]) := by
  rcases h with ⟨_, _, _, e⟩ | ⟨b, off, cap, e, hb, hc⟩
  · subst e; simp at hj
  · obtain ⟨rfl, _, _⟩ := Value.slice.inj e
    have := hc j hj
    rw [List.getElem?_eq_getElem hj] at this
    exact ⟨b, off, rfl, hb, this⟩
theorem ownNo_fits : OwnFits 67108864 ownNo := ⟨by decide, by decide, by decide, by decide, by decide, by decide, by decide, by decide, by decide, by decide, by decide⟩
theorem fits_cur {cur : Option Fld} (h : ∀ x, cur = some x → FitsF 67108864 x) : FitsF 67108864 (.mk (ownO cur) (fldO cur)) := by
  cases cur with
  | none => exact .mk ownNo_fits (by show (0 : Nat) ≤ _; omega) (fun x hx => by cases hx)
  | some x =>
    have hx := h x rfl
    exact .mk hx.own hx.len (fun y hy => hx.mem hy)
set_option maxHeartbeats 8000000 in
set_option maxRecDepth 20000 in
theorem find_any (limit : Int) (l : List Fld) (_hll : l.length ≤ 67108864) (hfit : ∀ x ∈ l, FitsF 67108864 x) (a : Option Addr) (c : Nat) (pa : Option Addr) (pc : Nat) (p : List Int) (hpl : p.length ≤ 4611686018427387904) (n₀ : Nat) (w : World) (hin : FIn w 0 n₀ l a) (hn₀ : n₀ ≤ w.heap.size) (hp : Ints w.heap.size w (.slice pa p.length pc) p) :
    Calls Tryz.prog 19 #[.agg #[.int .i64 limit, .slice a l.length c], .slice pa p.length pc] w fun e w' => FndPost (findF l p) w e w' := by
  obtain ⟨R, hR⟩ : ∃ R, R = findF l p := ⟨_, rfl⟩
  have HAT0 : Hid (AtF R none l (p.drop 0)) := by rw [hR]; exact AtF.start l p
  rw [← hR]
  clear hR
  have HIN : Hid (FIn w 0 n₀ l a) := hin
  have HFIT : Hid (∀ x ∈ l, FitsF 67108864 x) := hfit
  have HP : Hid (Ints w.heap.size w (.slice pa p.length pc) p) := hp
  obtain ⟨pn, hpn⟩ : ∃ pn, p.length = pn := ⟨_, rfl⟩
  have HPN : Hid (p.length = pn) := hpn
  have hA := (Below.refl w.heap.size w).alloc (Nat.le_refl _) (.cells #[.int .i64 limit, .slice a l.length c] 25)
  have hB := hA.alloc (by simp) (.cells #[.string ⟨#[]⟩, .int .u8 0, .bool false, .int .u8 0, .bool false, .bool false, .string ⟨#[]⟩, .bool false, .string ⟨#[]⟩, .int .i64 0, .int .i64 0, .bool false, .bool false, .slice none 0 0] 48)
  have hC := hB.alloc (by simp; omega) (.cells #[.string ⟨#[]⟩, .int .u8 0, .bool false, .int .u8 0, .bool false, .bool false, .string ⟨#[]⟩, .bool false, .string ⟨#[]⟩, .int .i64 0, .int .i64 0, .bool false, .bool false, .slice none 0 0] 48)
  have hS := Blk.new w 25 #[.int .i64 limit, .slice a l.length c]
  have hR1 := Blk.new (w.alloc (.cells #[.int .i64 limit, .slice a l.length c] 25)) 48 #[.string ⟨#[]⟩, .int .u8 0, .bool false, .int .u8 0, .bool false, .bool false, .string ⟨#[]⟩, .bool false, .string ⟨#[]⟩, .int .i64 0, .int .i64 0, .bool false, .bool false, .slice none 0 0]
  have hF1 := Blk.new ((w.alloc (.cells #[.int .i64 limit, .slice a l.length c] 25)).alloc (.cells #[.string ⟨#[]⟩, .int .u8 0, .bool false, .int .u8 0, .bool false, .bool false, .string ⟨#[]⟩, .bool false, .string ⟨#[]⟩, .int .i64 0, .int .i64 0, .bool false, .bool false, .slice none 0 0] 48)) 48 #[.string ⟨#[]⟩, .int .u8 0, .bool false, .int .u8 0, .bool false, .bool false, .string ⟨#[]⟩, .bool false, .string ⟨#[]⟩, .int .i64 0, .int .i64 0, .bool false, .bool false, .slice none 0 0]
  rw [show (w.alloc (.cells #[.int .i64 limit, .slice a l.length c] 25)).heap.size = w.heap.size + 1 by simp] at hR1
  rw [show ((w.alloc (.cells #[.int .i64 limit, .slice a l.length c] 25)).alloc (.cells #[.string ⟨#[]⟩, .int .u8 0, .bool false, .int .u8 0, .bool false, .bool false, .string ⟨#[]⟩, .bool false, .string ⟨#[]⟩, .int .i64 0, .int .i64 0, .bool false, .bool false, .slice none 0 0] 48)).heap.size = w.heap.size + 1 + 1 by simp] at hF1
  have hR2 : Blk (((w.alloc (.cells #[.int .i64 limit, .slice a l.length c] 25)).alloc (.cells #[.string ⟨#[]⟩, .int .u8 0, .bool false, .int .u8 0, .bool false, .bool false, .string ⟨#[]⟩, .bool false, .string ⟨#[]⟩, .int .i64 0, .int .i64 0, .bool false, .bool false, .slice none 0 0] 48)).alloc (.cells #[.string ⟨#[]⟩, .int .u8 0, .bool false, .int .u8 0, .bool false, .bool false, .string ⟨#[]⟩, .bool false, .string ⟨#[]⟩, .int .i64 0, .int .i64 0, .bool false, .bool false, .slice none 0 0] 48)) (w.heap.size + 1) 48 #[.string ⟨#[]⟩, .int .u8 0, .bool false, .int .u8 0, .bool false, .bool false, .string ⟨#[]⟩, .bool false, .string ⟨#[]⟩, .int .i64 0, .int .i64 0, .bool false, .bool false, .slice none 0 0] := (Below.heap_alloc _ _ _ (by simp)).trans hR1
  have hS2 : Blk (((w.alloc (.cells #[.int .i64 limit, .slice a l.length c] 25)).alloc (.cells #[.string ⟨#[]⟩, .int .u8 0, .bool false, .int .u8 0, .bool false, .bool false, .string ⟨#[]⟩, .bool false, .string ⟨#[]⟩, .int .i64 0, .int .i64 0, .bool false, .bool false, .slice none 0 0] 48)).alloc (.cells #[.string ⟨#[]⟩, .int .u8 0, .bool false, .int .u8 0, .bool false, .bool false, .string ⟨#[]⟩, .bool false, .string ⟨#[]⟩, .int .i64 0, .int .i64 0, .bool false, .bool false, .slice none 0 0] 48)) w.heap.size 25 #[.int .i64 limit, .slice a l.length c] := (Below.heap_alloc _ _ _ (by simp; omega)).trans ((Below.heap_alloc _ _ _ (by simp)).trans hS)
  have hsz : (((w.alloc (.cells #[.int .i64 limit, .slice a l.length c] 25)).alloc (.cells #[.string ⟨#[]⟩, .int .u8 0, .bool false, .int .u8 0, .bool false, .bool false, .string ⟨#[]⟩, .bool false, .string ⟨#[]⟩, .int .i64 0, .int .i64 0, .bool false, .bool false, .slice none 0 0] 48)).alloc (.cells #[.string ⟨#[]⟩, .int .u8 0, .bool false, .int .u8 0, .bool false, .bool false, .string ⟨#[]⟩, .bool false, .string ⟨#[]⟩, .int .i64 0, .int .i64 0, .bool false, .bool false, .slice none 0 0] 48)).heap.size = w.heap.size + 1 + 1 + 1 := by simp
  obtain ⟨ln, hln⟩ : ∃ ln, l.length = ln := ⟨_, rfl⟩
  have HLN : Hid (l.length = ln) := hln
  rw [hpn] at hpl ⊢
  rw [hln] at _hll hC hF1 hR2 hS2 hsz ⊢
  clear hin hfit hp hA hB hS hR1 hpn hln
  go_enter Tryz.func19, Tryz.ntmps19
  go_upto_region 2 with fail
  generalize ((w.alloc (.cells #[.int .i64 limit, .slice a ln c] 25)).alloc (.cells #[.string ⟨#[]⟩, .int .u8 0, .bool false, .int .u8 0, .bool false, .bool false, .string ⟨#[]⟩, .bool false, .string ⟨#[]⟩, .int .i64 0, .int .i64 0, .bool false, .bool false, .slice none 0 0] 48)).alloc (.cells #[.string ⟨#[]⟩, .int .u8 0, .bool false, .int .u8 0, .bool false, .bool false, .string ⟨#[]⟩, .bool false, .string ⟨#[]⟩, .int .i64 0, .int .i64 0, .bool false, .bool false, .slice none 0 0] 48) = W at hC hF1 hR2 hS2 hsz ⊢
  have s1 : W.cell? ⟨w.heap.size, 1, none⟩ = some (.slice a ln c) := hS2.cell 1
  have HB0 : Hid (Below w.heap.size w W) := hC
  have HR0 : Hid (Blk W (w.heap.size + 1) 48 (cellsF ownNo none 0 0)) := hR2
  have HF0 : Hid (Blk W (w.heap.size + 1 + 1) 48 (cellsF ownNo none 0 0)) := hF1
  clear hC hF1 hR2 hS2 hsz
  go_wp2_with fail
  clear s1
  go_loopw [7, 14] (fun fv iv wr => ∃ (j : Nat) (cur : Option Fld) (fl : List Fld) (fa : Option Addr) (fn fc : Nat) (ca : Option Addr) (cn cc : Nat), j ≤ pn ∧ iv = .int .i64 (j : Int) ∧ fv = .slice fa fn fc ∧ Hid (fn = fl.length ∧ cn = (fldO cur).length ∧ (0 < j ↔ cur.isSome = true)) ∧ Hid (AtF R cur fl (p.drop j)) ∧ Hid (∀ x ∈ fl, FitsF 67108864 x) ∧ Hid (∀ x, cur = some x → FitsF 67108864 x) ∧ Hid (FIn w 0 n₀ fl fa) ∧ Hid (FIn w 0 n₀ (fldO cur) ca) ∧ Hid (Blk wr (w.heap.size + 1 + 1) 48 (cellsF (ownO cur) ca cn cc)) ∧ Hid (Blk wr (w.heap.size + 1) 48 (cellsF ownNo none 0 0)) ∧ Hid (Below w.heap.size w wr)) (fun _ iv _ => pn - (intOf iv).toNat)
  case atStart => exact ⟨0, none, l, a, ln, c, none, 0, 0, Nat.zero_le _, rfl, rfl, ⟨HLN.out.symm, rfl, by simp⟩, HAT0.out, HFIT.out, (fun x h => by cases h), HIN.out, .nil, HF0.out, HR0.out, HB0.out⟩
  case round =>
    clear HAT0 HF0 HR0 HB0
    obtain ⟨j, cur, fl, fa, fn, fc, ca, cn, cc, hj, rfl, rfl, HN, HAT, HFF, HFC, HFI, HFA, HBF, HBR, HB⟩ := hrel
    by_cases hlt : j < pn
    · have tl : decide ((j : Int) < (pn : Int)) = true := decide_eq_true (by omega)
      have hjp : j < p.length := by rw [HPN.out]; exact hlt
      obtain ⟨b, off, rfl, hbw, hcell⟩ := ints_nth HP.out hjp
      have cj : wr.cell? ⟨b, off + j, none⟩ = some (.int .i64 p[j]) := (HB.out.cell (p := ⟨b, off + j, none⟩) hbw).trans hcell
      have hdr : p.drop j = p[j] :: p.drop (j + 1) := List.drop_eq_getElem_cons hjp
      have HAT2 : Hid (AtF R cur fl (p[j] :: p.drop (j + 1))) := by rw [← hdr]; exact HAT.out
      generalize p[j] = z at cj HAT2
      clear hcell hdr HAT
      by_cases h0 : z < 0
      · have t0 : decide (z < 0) = true := decide_eq_true h0
        have hRn : R = none := HAT2.out.off (fun h => by omega)
        obtain ⟨z0, z1, z2, z3, z4, z5, z6, z7, z8, z9, z10, z11, z12, z13⟩ := Blk.c14 (show Blk wr (w.heap.size + 1) 48 #[.string ⟨#[]⟩, .int .u8 0, .bool false, .int .u8 0, .bool false, .bool false, .string ⟨#[]⟩, .bool false, .string ⟨#[]⟩, .int .i64 0, .int .i64 0, .bool false, .bool false, .slice none 0 0] from HBR.out)
        have g0 := HBR.out.frozen 0
        have g1 := HBR.out.frozen 1
        have g2 := HBR.out.frozen 2
        have g3 := HBR.out.frozen 3
        have g4 := HBR.out.frozen 4
        have g5 := HBR.out.frozen 5
        have g6 := HBR.out.frozen 6
        have g7 := HBR.out.frozen 7
        have g8 := HBR.out.frozen 8
        have g9 := HBR.out.frozen 9
        have g10 := HBR.out.frozen 10
        have g11 := HBR.out.frozen 11
        have g12 := HBR.out.frozen 12
        have g13 := HBR.out.frozen 13
        have hfull : Blk (setL wr (w.heap.size + 1) 0 [.string ⟨#[]⟩, .int .u8 0, .bool false, .int .u8 0, .bool false, .bool false, .string ⟨#[]⟩, .bool false, .string ⟨#[]⟩, .int .i64 0, .int .i64 0, .bool false, .bool false, .slice none 0 0]) (w.heap.size + 1) 48 (cellsF ownNo none 0 0) := setL_full [.string ⟨#[]⟩, .int .u8 0, .bool false, .int .u8 0, .bool false, .bool false, .string ⟨#[]⟩, .bool false, .string ⟨#[]⟩, .int .i64 0, .int .i64 0, .bool false, .bool false, .slice none 0 0] HBR.out (by unfold cellsF; rfl)
        have HFU : Hid _ := hfull
        have HB2 : Hid (Below w.heap.size w (setL wr (w.heap.size + 1) 0 [.string ⟨#[]⟩, .int .u8 0, .bool false, .int .u8 0, .bool false, .bool false, .string ⟨#[]⟩, .bool false, .string ⟨#[]⟩, .int .i64 0, .int .i64 0, .bool false, .bool false, .slice none 0 0])) := setL_below (by omega) _ wr 0 HB.out
        clear HAT2 HFI HFA HFC HFF HBF HN hfull
        go_wp2_with fail
        change bodyPost _ _ _ _ _ (setL wr (w.heap.size + 1) 0 [.string ⟨#[]⟩, .int .u8 0, .bool false, .int .u8 0, .bool false, .bool false, .string ⟨#[]⟩, .bool false, .string ⟨#[]⟩, .int .i64 0, .int .i64 0, .bool false, .bool false, .slice none 0 0])
        generalize setL wr (w.heap.size + 1) 0 [.string ⟨#[]⟩, .int .u8 0, .bool false, .int .u8 0, .bool false, .bool false, .string ⟨#[]⟩, .bool false, .string ⟨#[]⟩, .int .i64 0, .int .i64 0, .bool false, .bool false, .slice none 0 0] = w2 at HFU HB2 ⊢
        refine bodyPost_ret (results19_run (o := ownNo) (a := none) (n := 0) (c := 0) (b := false) HFU.out rfl rfl) rfl ?_
        try rw [hRn]
        exact ⟨HB2.out, none, 0, rfl, .nil, Nat.le_refl _⟩
      · have t0 : decide (z < 0) = false := decide_eq_false h0
        by_cases h1 : (fn : Int) ≤ z
        · have t1 : decide ((fn : Int) ≤ z) = true := decide_eq_true h1
          have hRn : R = none := HAT2.out.off (fun h => by have := HN.out.1; omega)
          obtain ⟨z0, z1, z2, z3, z4, z5, z6, z7, z8, z9, z10, z11, z12, z13⟩ := Blk.c14 (show Blk wr (w.heap.size + 1) 48 #[.string ⟨#[]⟩, .int .u8 0, .bool false, .int .u8 0, .bool false, .bool false, .string ⟨#[]⟩, .bool false, .string ⟨#[]⟩, .int .i64 0, .int .i64 0, .bool false, .bool false, .slice none 0 0] from HBR.out)
          have g0 := HBR.out.frozen 0
          have g1 := HBR.out.frozen 1
          have g2 := HBR.out.frozen 2
          have g3 := HBR.out.frozen 3
          have g4 := HBR.out.frozen 4
          have g5 := HBR.out.frozen 5
          have g6 := HBR.out.frozen 6
          have g7 := HBR.out.frozen 7
          have g8 := HBR.out.frozen 8
          have g9 := HBR.out.frozen 9
          have g10 := HBR.out.frozen 10
          have g11 := HBR.out.frozen 11
          have g12 := HBR.out.frozen 12
          have g13 := HBR.out.frozen 13
          have hfull : Blk (setL wr (w.heap.size + 1) 0 [.string ⟨#[]⟩, .int .u8 0, .bool false, .int .u8 0, .bool false, .bool false, .string ⟨#[]⟩, .bool false, .string ⟨#[]⟩, .int .i64 0, .int .i64 0, .bool false, .bool false, .slice none 0 0]) (w.heap.size + 1) 48 (cellsF ownNo none 0 0) := setL_full [.string ⟨#[]⟩, .int .u8 0, .bool false, .int .u8 0, .bool false, .bool false, .string ⟨#[]⟩, .bool false, .string ⟨#[]⟩, .int .i64 0, .int .i64 0, .bool false, .bool false, .slice none 0 0] HBR.out (by unfold cellsF; rfl)
          have HFU : Hid _ := hfull
          have HB2 : Hid (Below w.heap.size w (setL wr (w.heap.size + 1) 0 [.string ⟨#[]⟩, .int .u8 0, .bool false, .int .u8 0, .bool false, .bool false, .string ⟨#[]⟩, .bool false, .string ⟨#[]⟩, .int .i64 0, .int .i64 0, .bool false, .bool false, .slice none 0 0])) := setL_below (by omega) _ wr 0 HB.out
          clear HAT2 HFI HFA HFC HFF HBF HN hfull
          go_wp2_with fail
          change bodyPost _ _ _ _ _ (setL wr (w.heap.size + 1) 0 [.string ⟨#[]⟩, .int .u8 0, .bool false, .int .u8 0, .bool false, .bool false, .string ⟨#[]⟩, .bool false, .string ⟨#[]⟩, .int .i64 0, .int .i64 0, .bool false, .bool false, .slice none 0 0])
          generalize setL wr (w.heap.size + 1) 0 [.string ⟨#[]⟩, .int .u8 0, .bool false, .int .u8 0, .bool false, .bool false, .string ⟨#[]⟩, .bool false, .string ⟨#[]⟩, .int .i64 0, .int .i64 0, .bool false, .bool false, .slice none 0 0] = w2 at HFU HB2 ⊢
          refine bodyPost_ret (results19_run (o := ownNo) (a := none) (n := 0) (c := 0) (b := false) HFU.out rfl rfl) rfl ?_
          try rw [hRn]
          exact ⟨HB2.out, none, 0, rfl, .nil, Nat.le_refl _⟩
        · have t1 : decide ((fn : Int) ≤ z) = false := decide_eq_false h1
          obtain ⟨k, rfl⟩ : ∃ k : Nat, z = (k : Int) := ⟨z.toNat, by omega⟩
          have hk : k < fn := by omega
          have hkf : k < fl.length := by rw [← HN.out.1]; exact hk
          have HAT3 := HAT2.out.on (by omega) (by simpa using hkf)
          simp only [Int.toNat_natCast] at HAT3
          have HAT4 : Hid (AtF R (some fl[k]) fl[k].fields (p.drop (j + 1))) := HAT3
          obtain ⟨bb, off2, aj, cj2, rfl, _, hbn, hrow, hinj, hcj⟩ := HFI.out.atC hkf
          have hfk := HFF.out _ (List.getElem_mem hkf)
          have hrw := hrow.below HB.out (by omega)
          generalize fl[k] = x at HAT4 hrw hinj hcj hfk
          have HIJ : Hid (FIn w 0 n₀ x.fields aj) := hinj
          have HFK : Hid (FitsF 67108864 x) := hfk
          obtain ⟨r0, r1, r2, r3, r4, r5, r6, r7, r8, r9, r10, r11, r12, r13⟩ := hrw
          have HBF2 : Hid _ := HBF.out
          obtain ⟨z0, z1, z2, z3, z4, z5, z6, z7, z8, z9, z10, z11, z12, z13⟩ := HBF.out.c14
          have g0 := HBF.out.frozen 0
          have g1 := HBF.out.frozen 1
          have g2 := HBF.out.frozen 2
          have g3 := HBF.out.frozen 3
          have g4 := HBF.out.frozen 4
          have g5 := HBF.out.frozen 5
          have g6 := HBF.out.frozen 6
          have g7 := HBF.out.frozen 7
          have g8 := HBF.out.frozen 8
          have g9 := HBF.out.frozen 9
          have g10 := HBF.out.frozen 10
          have g11 := HBF.out.frozen 11
          have g12 := HBF.out.frozen 12
          have g13 := HBF.out.frozen 13
          obtain ⟨m, hm⟩ : ∃ m, x.fields.length = m := ⟨_, rfl⟩
          have HM : Hid (m = x.fields.length) := hm.symm
          rw [hm] at r13
          clear HAT2 HAT3 hrow hinj hcj hfk hm HFI HFA HFC HFF hkf
          have hfull : Hid (Blk (setL wr (w.heap.size + 1 + 1) 0 [.string x.own.name, .int .u8 x.own.kind, .bool x.own.down, .int .u8 x.own.nulls, .bool x.own.bnd, .bool x.own.ln, .string x.own.lm, .bool x.own.hn, .string x.own.hm, .int .i64 x.own.most, .int .i64 x.own.str, .bool x.own.shf, .bool x.own.bck, .slice aj m cj2]) (w.heap.size + 1 + 1) 48 (cellsF x.own aj m cj2)) := setL_full [.string x.own.name, .int .u8 x.own.kind, .bool x.own.down, .int .u8 x.own.nulls, .bool x.own.bnd, .bool x.own.ln, .string x.own.lm, .bool x.own.hn, .string x.own.hm, .int .i64 x.own.most, .int .i64 x.own.str, .bool x.own.shf, .bool x.own.bck, .slice aj m cj2] HBF.out (by unfold cellsF; rfl)
          have HR2 : Hid (Blk (setL wr (w.heap.size + 1 + 1) 0 [.string x.own.name, .int .u8 x.own.kind, .bool x.own.down, .int .u8 x.own.nulls, .bool x.own.bnd, .bool x.own.ln, .string x.own.lm, .bool x.own.hn, .string x.own.hm, .int .i64 x.own.most, .int .i64 x.own.str, .bool x.own.shf, .bool x.own.bck, .slice aj m cj2]) (w.heap.size + 1) 48 (cellsF ownNo none 0 0)) := (setL_other (by omega) [.string x.own.name, .int .u8 x.own.kind, .bool x.own.down, .int .u8 x.own.nulls, .bool x.own.bnd, .bool x.own.ln, .string x.own.lm, .bool x.own.hn, .string x.own.hm, .int .i64 x.own.most, .int .i64 x.own.str, .bool x.own.shf, .bool x.own.bck, .slice aj m cj2] wr 0).trans HBR.out
          have HB2 : Hid (Below w.heap.size w (setL wr (w.heap.size + 1 + 1) 0 [.string x.own.name, .int .u8 x.own.kind, .bool x.own.down, .int .u8 x.own.nulls, .bool x.own.bnd, .bool x.own.ln, .string x.own.lm, .bool x.own.hn, .string x.own.hm, .int .i64 x.own.most, .int .i64 x.own.str, .bool x.own.shf, .bool x.own.bck, .slice aj m cj2])) := setL_below (by omega) _ wr 0 HB.out
          go_upto_region 9 with fail
          clear z0 z1 z2 z3 z4 z5 z6 z7 z8 z9 z10 z11 z12 z13 r0 r1 r2 r3 r4 r5 r6 r7 r8 r9 r10 r11 r12 r13 cj HBF HBF2 HBR HB g0 g1 g2 g3 g4 g5 g6 g7 g8 g9 g10 g11 g12 g13
          change Code.wp _ _ _ _ (setL wr (w.heap.size + 1 + 1) 0 [.string x.own.name, .int .u8 x.own.kind, .bool x.own.down, .int .u8 x.own.nulls, .bool x.own.bnd, .bool x.own.ln, .string x.own.lm, .bool x.own.hn, .string x.own.hm, .int .i64 x.own.most, .int .i64 x.own.str, .bool x.own.shf, .bool x.own.bck, .slice aj m cj2])
          generalize setL wr (w.heap.size + 1 + 1) 0 [.string x.own.name, .int .u8 x.own.kind, .bool x.own.down, .int .u8 x.own.nulls, .bool x.own.bnd, .bool x.own.ln, .string x.own.lm, .bool x.own.hn, .string x.own.hm, .int .i64 x.own.most, .int .i64 x.own.str, .bool x.own.shf, .bool x.own.bck, .slice aj m cj2] = w2 at hfull HR2 HB2 ⊢
          have q13 : w2.cell? ⟨w.heap.size + 1 + 1, 13, none⟩ = some (.slice aj m cj2) := hfull.out.cell 13
          go_wp2_with fail
          go_roundw
          case rel => exact ⟨j + 1, some x, x.fields, aj, m, cj2, aj, m, cj2, by omega, by simp, rfl, ⟨HM.out, HM.out, by simp⟩, HAT4.out, (fun y hy => HFK.out.mem hy), (fun y hy => by cases hy; exact HFK.out), HIJ.out, HIJ.out, hfull.out, HR2.out, HB2.out⟩
          case measure => simp only [intOf]; omega
    · have hjn : j = pn := by omega
      subst hjn
      have tl : decide ((j : Int) < (j : Int)) = false := decide_eq_false (by omega)
      have hRc : R = cur := by
        have := HAT.out
        rw [List.drop_of_length_le (by rw [HPN.out]; exact Nat.le_refl _)] at this
        exact this.end
      subst hRc
      have hff := fits_cur HFC.out
      have hcp := copied_any _ hff (ownO R) ca cc n₀ wr hff.own (HFA.out.keep HB.out hn₀) (Nat.le_trans hn₀ HB.out.size)
      rw [show (Fld.mk (ownO R) (fldO R)).fields = fldO R from rfl, ← HN.out.2.1] at hcp
      have y := HBF.out.rowF
      obtain ⟨y0, y1, y2, y3, y4, y5, y6, y7, y8, y9, y10, y11, y12, y13⟩ := y
      simp only [Nat.zero_add] at y1 y2 y3 y4 y5 y6 y7 y8 y9 y10 y11 y12 y13
      have HS : Hid (decide (0 < (j : Int)) = R.isSome) := by
        show _ = _
        have := HN.out.2.2
        cases hR : R.isSome with
        | true => rw [hR] at this; exact decide_eq_true (by have := this.2 rfl; omega)
        | false => rw [hR] at this; exact decide_eq_false (fun h => by have := this.1 (by omega); cases this)
      have HCN : Hid (cn = (fldO R).length) := HN.out.2.1
      have HK : Hid (∀ x, Below wr.heap.size wr x → ((∃ v, x.cell? ⟨w.heap.size + 1, 0, none⟩ = some v) ∧ Blk x (w.heap.size + 1) 48 #[.string ⟨#[]⟩, .int .u8 0, .bool false, .int .u8 0, .bool false, .bool false, .string ⟨#[]⟩, .bool false, .string ⟨#[]⟩, .int .i64 0, .int .i64 0, .bool false, .bool false, .slice none 0 0])) := fun x hx => ⟨⟨_, (HBR.out.old hx).cell 0⟩, HBR.out.old hx⟩
      obtain ⟨o, ho⟩ : ∃ o, ownO R = o := ⟨_, rfl⟩
      have HOE : Hid (o = ownO R) := ho.symm
      rw [ho] at hcp y0 y1 y2 y3 y4 y5 y6 y7 y8 y9 y10 y11 y12
      clear ho
      unfold fV at hcp
      obtain ⟨bs, hbs⟩ : ∃ bs, bs = R.isSome := ⟨_, rfl⟩
      have HBS : Hid (bs = R.isSome) := hbs
      have tj : decide ((0 : Int) < (j : Int)) = bs := by rw [hbs]; exact HS.out
      have tj2 : decide (0 < j) = bs := by rw [hbs, ← HS.out]; simp
      clear HAT HFF HFC HFI HFA HN hff HBF hbs HS
      go_wp2_with fail
      refine hcp.mono ?_
      clear hcp y0 y1 y2 y3 y4 y5 y6 y7 y8 y9 y10 y11 y12 y13
      rintro _ w3 ⟨a', c', rfl, hft, hcc, hb3⟩
      have HFT : Hid (FT w3 wr.heap.size none (fldO R) a' c') := hft
      have HCC : Hid (cn ≤ c') := hcc
      have HR3 : Hid (Blk w3 (w.heap.size + 1) 48 #[.string ⟨#[]⟩, .int .u8 0, .bool false, .int .u8 0, .bool false, .bool false, .string ⟨#[]⟩, .bool false, .string ⟨#[]⟩, .int .i64 0, .int .i64 0, .bool false, .bool false, .slice none 0 0]) := (HK.out w3 hb3).2
      have HB3 : Hid (Below w.heap.size w w3) := HB.out.trans (hb3.mono HB.out.size)
      have hws : w.heap.size + 1 < wr.heap.size := HBR.out.lt
      obtain ⟨z0, z1, z2, z3, z4, z5, z6, z7, z8, z9, z10, z11, z12, z13⟩ := HR3.out.c14
      have g0 := HR3.out.frozen 0
      have g1 := HR3.out.frozen 1
      have g2 := HR3.out.frozen 2
      have g3 := HR3.out.frozen 3
      have g4 := HR3.out.frozen 4
      have g5 := HR3.out.frozen 5
      have g6 := HR3.out.frozen 6
      have g7 := HR3.out.frozen 7
      have g8 := HR3.out.frozen 8
      have g9 := HR3.out.frozen 9
      have g10 := HR3.out.frozen 10
      have g11 := HR3.out.frozen 11
      have g12 := HR3.out.frozen 12
      have g13 := HR3.out.frozen 13
      have HFU : Hid (Blk (setL w3 (w.heap.size + 1) 0 [.string o.name, .int .u8 o.kind, .bool o.down, .int .u8 o.nulls, .bool o.bnd, .bool o.ln, .string o.lm, .bool o.hn, .string o.hm, .int .i64 o.most, .int .i64 o.str, .bool o.shf, .bool o.bck, .slice a' cn c']) (w.heap.size + 1) 48 (cellsF o a' cn c')) := setL_full [.string o.name, .int .u8 o.kind, .bool o.down, .int .u8 o.nulls, .bool o.bnd, .bool o.ln, .string o.lm, .bool o.hn, .string o.hm, .int .i64 o.most, .int .i64 o.str, .bool o.shf, .bool o.bck, .slice a' cn c'] HR3.out (by rfl)
      have HB4 : Hid (Below w.heap.size w (setL w3 (w.heap.size + 1) 0 [.string o.name, .int .u8 o.kind, .bool o.down, .int .u8 o.nulls, .bool o.bnd, .bool o.ln, .string o.lm, .bool o.hn, .string o.hm, .int .i64 o.most, .int .i64 o.str, .bool o.shf, .bool o.bck, .slice a' cn c'])) := setL_below (by omega) _ w3 0 HB3.out
      have HF4 : Hid (FT (setL w3 (w.heap.size + 1) 0 [.string o.name, .int .u8 o.kind, .bool o.down, .int .u8 o.nulls, .bool o.bnd, .bool o.ln, .string o.lm, .bool o.hn, .string o.hm, .int .i64 o.most, .int .i64 o.str, .bool o.shf, .bool o.bck, .slice a' cn c']) w.heap.size none (fldO R) a' c') := (HFT.out.keep fun b h1 _ _ => setL_other (by omega) _ w3 0).mono (by omega) (fun _ _ _ _ => by simp)
      clear hft hcc hb3 HK HBR HB HB3 HFT
      go_wp2_with fail
      change bodyPost _ _ _ _ _ (setL w3 (w.heap.size + 1) 0 [.string o.name, .int .u8 o.kind, .bool o.down, .int .u8 o.nulls, .bool o.bnd, .bool o.ln, .string o.lm, .bool o.hn, .string o.hm, .int .i64 o.most, .int .i64 o.str, .bool o.shf, .bool o.bck, .slice a' cn c'])
      generalize setL w3 (w.heap.size + 1) 0 [.string o.name, .int .u8 o.kind, .bool o.down, .int .u8 o.nulls, .bool o.bnd, .bool o.ln, .string o.lm, .bool o.hn, .string o.hm, .int .i64 o.most, .int .i64 o.str, .bool o.shf, .bool o.bck, .slice a' cn c'] = w4 at HFU HB4 HF4 ⊢
      refine bodyPost_ret (results19_run (o := o) (a := a') (n := cn) (c := c') (b := bs) HFU.out rfl rfl) rfl ?_
      refine ⟨HB4.out, a', c', ?_, HF4.out, by rw [← HCN.out]; exact HCC.out⟩
      rw [← HOE.out, ← HCN.out, ← HBS.out]
def FldsOk (l : List Fld) : Prop := ∀ (a : Option Addr) (c n₀ : Nat) (w : World), FIn w 0 n₀ l a → n₀ ≤ w.heap.size → l.length ≤ 67108864 →
  Calls Tryz.prog 34 #[.slice a l.length c] w fun e w' => ∃ a' c', e = .returned (.slice a' l.length c') ∧ FT w' w.heap.size none l a' c' ∧ l.length ≤ c' ∧ Below w.heap.size w w'
set_option maxHeartbeats 8000000 in
set_option maxRecDepth 20000 in
theorem flds_step (l : List Fld) (hfit : ∀ x ∈ l, FitsF 67108864 x) (ih : ∀ x ∈ l, FldsOk x.fields) : FldsOk l := by
  intro a c n₀ w hin hn₀ hll
  obtain ⟨n, hn⟩ : ∃ n, l.length = n := ⟨_, rfl⟩
  have HN : Hid (l.length = n) := hn
  rw [hn] at hll ⊢
  have HIN : Hid (FIn w 0 n₀ l a) := hin
  have HFIT : Hid (∀ x ∈ l, FitsF 67108864 x) := hfit
  have HIH : Hid (∀ x ∈ l, FldsOk x.fields) := ih
  clear hn hin hfit ih
  go_enter Tryz.func34, Tryz.ntmps34
  go_wp2_with fail
  go_loopw [3, 4] (fun vv iv wr => ∃ (j : Nat) (ra : Option Addr) (rn rc : Nat) (qs : List FQ), j ≤ n ∧ iv = .int .i64 (j : Int) ∧ vv = .slice ra rn rc ∧ Hid (rn = qs.length ∧ qs.map Prod.fst = l.take j) ∧ Hid (FRow wr w.heap.size (.slice ra rn rc) qs) ∧ Hid (Below w.heap.size w wr)) (fun _ iv _ => n - (intOf iv).toNat)
  case atStart => exact ⟨0, none, 0, 0, [], Nat.zero_le _, rfl, rfl, ⟨rfl, by simp⟩, FRow.nil _ _, Below.refl _ _⟩
  case round =>
    obtain ⟨j, ra, rn, rc, qs, hj, rfl, rfl, HQ, HF, HBR⟩ := hrel
    by_cases hlt : j < n
    · have tl : decide ((j : Int) < (n : Int)) = true := decide_eq_true (by omega)
      have hjl : j < l.length := by rw [HN.out]; exact hlt
      obtain ⟨bb, off, aj, cj, rfl, _, hbn, hrow, hinj, hcj⟩ := (HIN.out.keep HBR.out hn₀).atC hjl
      have hcp := HIH.out _ (List.getElem_mem hjl)
      have hft := HFIT.out _ (List.getElem_mem hjl)
      have htk : l.take (j + 1) = l.take j ++ [l[j]] := List.take_succ_eq_append_getElem hjl
      obtain ⟨x, hx⟩ : ∃ x, l[j] = x := ⟨_, rfl⟩
      rw [hx] at hrow hinj hcj hcp hft htk
      have HTK : Hid (l.take (j + 1) = l.take j ++ [x]) := htk
      have hbA := (Below.refl wr.heap.size wr).alloc (Nat.le_refl _) (.cells (cellsF x.own aj x.fields.length cj) 48)
      have hX5 := Blk.new wr 48 (cellsF x.own aj x.fields.length cj)
      have hcall := hcp aj cj n₀ (wr.alloc (.cells (cellsF x.own aj x.fields.length cj) 48)) (hinj.keep hbA (Nat.le_trans hn₀ HBR.out.size)) (Nat.le_trans (Nat.le_trans hn₀ HBR.out.size) hbA.size) hft.len
      have hr13 := (hrow.below hbA (Nat.lt_of_lt_of_le hbn (Nat.le_trans hn₀ HBR.out.size))).c13
      obtain ⟨r0, r1, r2, r3, r4, r5, r6, r7, r8, r9, r10, r11, r12, r13⟩ := hrow
      have HBA : Hid (Below wr.heap.size wr (wr.alloc (.cells (cellsF x.own aj x.fields.length cj) 48))) := hbA
      have HX5 : Hid (Blk (wr.alloc (.cells (cellsF x.own aj x.fields.length cj) 48)) wr.heap.size 48 (cellsF x.own aj x.fields.length cj)) := hX5
      obtain ⟨m, hm⟩ : ∃ m, x.fields.length = m := ⟨_, rfl⟩
      have HM : Hid (x.fields.length = m) := hm
      rw [hm] at hcall HBA r13 hr13 HX5
      obtain ⟨W5, hW5⟩ : ∃ W5, W5 = wr.alloc (.cells (cellsF x.own aj m cj) 48) := ⟨_, rfl⟩
      rw [← hW5] at hcall HBA hr13 HX5
      have hsz5 : W5.heap.size = wr.heap.size + 1 := by rw [hW5]; simp
      have HZ5 : Hid (W5.heap.size = wr.heap.size + 1) := hsz5
      unfold cellsF at hW5
      clear hm hx hcp hft hinj hX5 hbA htk hcj hsz5
      go_upto_region 6 with fail
      clear r0 r1 r2 r3 r4 r5 r6 r7 r8 r9 r10 r11 r12 r13
      rw [← hW5]
      clear hW5
      go_wp2_with fail
      refine hcall.mono ?_
      clear hcall hr13
      rintro _ w5 ⟨a', c', rfl, hft5, hmc, hb5⟩
      have hX6 := HX5.out.old hb5
      have x13 : w5.cell? ⟨wr.heap.size, 13, none⟩ = some (.slice aj m cj) := hX6.cell 13
      have f13 : w5.frozen? ⟨wr.heap.size, 13, none⟩ = false := hX6.frozen 13
      have HY : Hid (Blk (w5.setCell ⟨wr.heap.size, 13, none⟩ (.slice a' m c')) wr.heap.size 48 (cellsF x.own a' m c')) := hX6.set 13 (.slice a' m c')
      have HB6 : Hid (Below wr.heap.size wr (w5.setCell ⟨wr.heap.size, 13, none⟩ (.slice a' m c'))) := (HBA.out.trans (hb5.mono HBA.out.size)).setCell (p := ⟨wr.heap.size, 13, none⟩) (Nat.le_refl _) _
      have HT6 : Hid (FT (w5.setCell ⟨wr.heap.size, 13, none⟩ (.slice a' m c')) W5.heap.size none x.fields a' c') := hft5.keep fun b h1 _ _ => Below.heap_setCell w5 ⟨wr.heap.size, 13, none⟩ _ b (by show b ≠ wr.heap.size; have := HZ5.out; omega)
      have HMC : Hid (m ≤ c') := hmc
      clear hft5 hmc hb5 hX6
      go_upto_region 7 with fail
      clear x13 f13
      generalize w5.setCell ⟨wr.heap.size, 13, none⟩ (.slice a' m c') = w6 at HY HB6 HT6 ⊢
      have y0 : w6.cell? ⟨wr.heap.size, 0, none⟩ = some (.string x.own.name) := HY.out.cell 0
      have y1 : w6.cell? ⟨wr.heap.size, 1, none⟩ = some (.int .u8 x.own.kind) := HY.out.cell 1
      have y2 : w6.cell? ⟨wr.heap.size, 2, none⟩ = some (.bool x.own.down) := HY.out.cell 2
      have y3 : w6.cell? ⟨wr.heap.size, 3, none⟩ = some (.int .u8 x.own.nulls) := HY.out.cell 3
      have y4 : w6.cell? ⟨wr.heap.size, 4, none⟩ = some (.bool x.own.bnd) := HY.out.cell 4
      have y5 : w6.cell? ⟨wr.heap.size, 5, none⟩ = some (.bool x.own.ln) := HY.out.cell 5
      have y6 : w6.cell? ⟨wr.heap.size, 6, none⟩ = some (.string x.own.lm) := HY.out.cell 6
      have y7 : w6.cell? ⟨wr.heap.size, 7, none⟩ = some (.bool x.own.hn) := HY.out.cell 7
      have y8 : w6.cell? ⟨wr.heap.size, 8, none⟩ = some (.string x.own.hm) := HY.out.cell 8
      have y9 : w6.cell? ⟨wr.heap.size, 9, none⟩ = some (.int .i64 x.own.most) := HY.out.cell 9
      have y10 : w6.cell? ⟨wr.heap.size, 10, none⟩ = some (.int .i64 x.own.str) := HY.out.cell 10
      have y11 : w6.cell? ⟨wr.heap.size, 11, none⟩ = some (.bool x.own.shf) := HY.out.cell 11
      have y12 : w6.cell? ⟨wr.heap.size, 12, none⟩ = some (.bool x.own.bck) := HY.out.cell 12
      have y13 : w6.cell? ⟨wr.heap.size, 13, none⟩ = some (.slice a' m c') := HY.out.cell 13
      have hF6 : FRow w6 w.heap.size (.slice ra rn rc) qs := HF.out.keep fun b _ h => HB6.out.block b h.lt
      have hbY := (Below.refl w6.heap.size w6).alloc (Nat.le_refl _) (.cells (cellQ (x, a', c')).toArray 48)
      have HF7 : Hid (FRow (w6.alloc (.cells (cellQ (x, a', c')).toArray 48)) w.heap.size (.slice ra rn rc) qs) := hF6.keep fun b _ h => hbY.block b h.lt
      have HT7 : Hid (x.fields.length ≤ c' ∧ FT (w6.alloc (.cells (cellQ (x, a', c')).toArray 48)) w.heap.size (Value.slice ra rn rc).ownBlock x.fields a' c') := by
        refine ⟨by rw [HM.out]; exact HMC.out, ((HT6.out.keep fun b _ _ h => hbY.block b h.lt).mono (Nat.le_trans HBR.out.size (by have := HZ5.out; omega)) fun b h1 _ _ e => ?_)⟩
        have h2 := (HF.out.t48 e.symm).2.lt
        have := HZ5.out
        omega
      have HQB : Hid (Blk (w6.alloc (.cells (cellQ (x, a', c')).toArray 48)) w6.heap.size 48 (cellQ (x, a', c')).toArray) := Blk.new w6 48 _
      have HBY : Hid (Below w.heap.size w (w6.alloc (.cells (cellQ (x, a', c')).toArray 48))) := (HBR.out.trans (HB6.out.mono HBR.out.size)).trans (hbY.mono (Nat.le_trans HBR.out.size HB6.out.size))
      have hql : qs.length ≤ 67108864 := by
        have h1 := congrArg List.length HQ.out.2
        rw [List.length_map, List.length_take] at h1
        omega
      have hbase := HBY.out.size
      clear hF6 hbY
      have hcq : (Obj.cells (cellQ (x, a', c')).toArray 48) = .cells #[.string x.own.name, .int .u8 x.own.kind, .bool x.own.down, .int .u8 x.own.nulls, .bool x.own.bnd, .bool x.own.ln, .string x.own.lm, .bool x.own.hn, .string x.own.hm, .int .i64 x.own.most, .int .i64 x.own.str, .bool x.own.shf, .bool x.own.bck, .slice a' m c'] 48 := by unfold cellQ; simp only []; rw [HM.out]
      rw [hcq] at HF7 HT7 HBY hbase
      have HQB2 : Hid (Blk (w6.alloc (.cells #[.string x.own.name, .int .u8 x.own.kind, .bool x.own.down, .int .u8 x.own.nulls, .bool x.own.bnd, .bool x.own.ln, .string x.own.lm, .bool x.own.hn, .string x.own.hm, .int .i64 x.own.most, .int .i64 x.own.str, .bool x.own.shf, .bool x.own.bck, .slice a' m c'] 48)) w6.heap.size 48 (cellQ (x, a', c')).toArray) := by rw [← hcq]; exact HQB.out
      clear hcq HQB HY
      go_wp2_with (at_builtin; refine wpList_append_fieldB rfl _ _ rfl w.heap.size _ qs rfl HF7.out (x, a', c') HT7.out w6.heap.size _ rfl HQB2.out hql hbase ?_; intro a7 c7 w7 hrow7 hgr7 hat7; have HR7 : Hid _ := hrow7; have HG7 : Hid _ := hgr7; clear hrow7 hgr7 hat7)
      have HB7 : Hid (Below w.heap.size w w7) := HBY.out.grown HG7.out hbase (fun k hk => (HF7.out.t48 hk).1)
      have HQ7 : Hid (qs.length + 1 = (qs ++ [(x, a', c')]).length ∧ (qs ++ [(x, a', c')]).map Prod.fst = l.take (j + 1)) := ⟨by simp, by rw [List.map_append, HQ.out.2, HTK.out]; rfl⟩
      clear HF7 HT7 HQB2 HBY hbase HG7 y0 y1 y2 y3 y4 y5 y6 y7 y8 y9 y10 y11 y12 y13
      go_roundw
      case rel => exact ⟨j + 1, a7, qs.length + 1, c7, qs ++ [(x, a', c')], by omega, by simp, rfl, HQ7, HR7, HB7⟩
      case measure => simp only [intOf]; omega
    · have hjn : j = n := by omega
      subst hjn
      have tl : decide ((j : Int) < (j : Int)) = false := decide_eq_false (by omega)
      have hfin := HF.out.fin
      have hmp : qs.map Prod.fst = l := by rw [HQ.out.2]; exact List.take_of_length_le (by rw [HN.out]; exact Nat.le_refl _)
      rw [hmp] at hfin
      have hrn : rn = j := by rw [hfin.1, ← HN.out, ← hmp, List.length_map]
      subst hrn
      have HFT : Hid (rn ≤ rc ∧ FT wr w.heap.size none l ra rc) := hfin.2
      clear hfin hmp HF HQ
      go_wp2_with fail
      go_ret
      exact ⟨ra, rc, rfl, HFT.out.2, HFT.out.1, HBR.out⟩
theorem flds_any (f : Fld) : FitsF 67108864 f → FldsOk f.fields := by
  induction f using Fld.ind with
  | h o l ih => intro hf; exact flds_step l (fun x hx => hf.mem hx) (fun x hx => ih x hx (hf.mem hx))
theorem findF_off {fl : List Fld} {i : Int} {p : List Int} (hr : ¬ (0 ≤ i ∧ i.toNat < fl.length)) : findF fl (i :: p) = none := by rw [findF, dif_neg hr]
theorem findF_last {fl : List Fld} {k : Nat} (hl : k < fl.length) : findF fl [(k : Int)] = some fl[k] := by
  rw [findF, dif_pos ⟨by omega, by simpa using hl⟩, if_pos rfl]
  simp
theorem findF_on {fl : List Fld} {k : Nat} {p : List Int} (hl : k < fl.length) (hp : p ≠ []) : findF fl ((k : Int) :: p) = findF fl[k].fields p := by
  rw [findF, dif_pos ⟨by omega, by simpa using hl⟩, if_neg hp]
  simp
theorem findF_nil (fl : List Fld) : findF fl [] = none := by cases fl <;> rfl
theorem FIn.single {w : World} {lo n₀ : Nat} {l : List Fld} {b off : Nat} (h : FIn w lo n₀ l (some ⟨b, off, none⟩)) {k : Nat} (hk : k < l.length) : FIn w lo n₀ [l[k]] (some ⟨b, off + k * 14, none⟩) := by
  obtain ⟨b', off', aj, cj, e, h1, h2, h3, h4, h5⟩ := h.atC hk
  cases e
  refine .cons (fun _ => aj) (fun _ => cj) h1 h2 (fun j hj => ?_) (fun j hj => ?_) (fun j hj => ?_)
  all_goals
    obtain rfl : j = 0 := by simpa using hj
  · simpa using h3
  · exact h5
  · exact h4
theorem results18_run {tmps : Array Value} {w : World} {h : Nat} {o : Own} {a : Option Addr} {n c : Nat} {b : Bool} (hb : Blk w h 48 (cellsF o a n c)) (t4 : tmps[4]?.getD undef = .pointer (some ⟨h, 0, none⟩)) (t5 : tmps[5]?.getD undef = .bool b) : (results Tryz.f18 tmps).run Tryz.prog w = .ok (.tuple #[fV o a n c, .bool b]) w := by
  obtain ⟨r0, r1, r2, r3, r4, r5, r6, r7, r8, r9, r10, r11, r12, r13⟩ := hb.rowF
  simp only [Nat.zero_add] at r1 r2 r3 r4 r5 r6 r7 r8 r9 r10 r11 r12 r13
  simp [results, Tryz.results18, go_sem, t4, t5, r0, r1, r2, r3, r4, r5, r6, r7, r8, r9, r10, r11, r12, r13, fV]
set_option maxHeartbeats 8000000 in
set_option maxRecDepth 20000 in
theorem rfindF_any (limit : Int) (l : List Fld) (hll : l.length ≤ 67108864) (hfit : ∀ x ∈ l, FitsF 67108864 x) (a : Option Addr) (c : Nat) (hlc : l.length ≤ c) (pa : Option Addr) (pc : Nat) (p : List Int) (hpl : p.length ≤ 4611686018427387904) (n₀ : Nat) (w : World) (hin : FIn w 0 n₀ l a) (hn₀ : n₀ ≤ w.heap.size) (hp : Ints w.heap.size w (.slice pa p.length pc) p) :
    Calls Tryz.prog 18 #[.agg #[.int .i64 limit, .slice a l.length c], .slice pa p.length pc] w fun e w' => FndPost (findF l p) w e w' := by
  obtain ⟨R, hR⟩ : ∃ R, R = findF l p := ⟨_, rfl⟩
  have HAT0 : Hid (R = findF l (p.drop 0)) := hR
  rw [← hR]
  clear hR
  have HIN : Hid (FIn w 0 n₀ l a) := hin
  have HFIT : Hid (∀ x ∈ l, FitsF 67108864 x) := hfit
  have HP : Hid (Ints w.heap.size w (.slice pa p.length pc) p) := hp
  obtain ⟨pn, hpn⟩ : ∃ pn, p.length = pn := ⟨_, rfl⟩
  have HPN : Hid (p.length = pn) := hpn
  have hA := (Below.refl w.heap.size w).alloc (Nat.le_refl _) (.cells #[.int .i64 limit, .slice a l.length c] 25)
  have hB := hA.alloc (by simp) (.cells #[.string ⟨#[]⟩, .int .u8 0, .bool false, .int .u8 0, .bool false, .bool false, .string ⟨#[]⟩, .bool false, .string ⟨#[]⟩, .int .i64 0, .int .i64 0, .bool false, .bool false, .slice none 0 0] 48)
  have hS := Blk.new w 25 #[.int .i64 limit, .slice a l.length c]
  have hR1 := Blk.new (w.alloc (.cells #[.int .i64 limit, .slice a l.length c] 25)) 48 #[.string ⟨#[]⟩, .int .u8 0, .bool false, .int .u8 0, .bool false, .bool false, .string ⟨#[]⟩, .bool false, .string ⟨#[]⟩, .int .i64 0, .int .i64 0, .bool false, .bool false, .slice none 0 0]
  rw [show (w.alloc (.cells #[.int .i64 limit, .slice a l.length c] 25)).heap.size = w.heap.size + 1 by simp] at hR1
  have hS2 : Blk ((w.alloc (.cells #[.int .i64 limit, .slice a l.length c] 25)).alloc (.cells #[.string ⟨#[]⟩, .int .u8 0, .bool false, .int .u8 0, .bool false, .bool false, .string ⟨#[]⟩, .bool false, .string ⟨#[]⟩, .int .i64 0, .int .i64 0, .bool false, .bool false, .slice none 0 0] 48)) w.heap.size 25 #[.int .i64 limit, .slice a l.length c] := (Below.heap_alloc _ _ _ (by simp)).trans hS
  obtain ⟨ln, hln⟩ : ∃ ln, l.length = ln := ⟨_, rfl⟩
  have HLN : Hid (l.length = ln) := hln
  rw [hpn] at hpl ⊢
  rw [hln] at hll hB hR1 hS2 hlc ⊢
  clear hin hfit hp hA hS hpn hln
  go_enter Tryz.func18, Tryz.ntmps18
  go_upto_region 1 with fail
  generalize (w.alloc (.cells #[.int .i64 limit, .slice a ln c] 25)).alloc (.cells #[.string ⟨#[]⟩, .int .u8 0, .bool false, .int .u8 0, .bool false, .bool false, .string ⟨#[]⟩, .bool false, .string ⟨#[]⟩, .int .i64 0, .int .i64 0, .bool false, .bool false, .slice none 0 0] 48) = W at hB hR1 hS2 ⊢
  have s1 : W.cell? ⟨w.heap.size, 1, none⟩ = some (.slice a ln c) := hS2.cell 1
  have HB0 : Hid (Below w.heap.size w W) := hB
  have HR0 : Hid (Blk W (w.heap.size + 1) 48 (cellsF ownNo none 0 0)) := hR1
  clear hB hR1 hS2
  go_wp2_with fail
  clear s1
  go_loopw [6, 7] (fun fv iv wr => ∃ (j : Nat) (fl : List Fld) (fa : Option Addr) (fn fc : Nat), j ≤ pn ∧ iv = .int .i64 (j : Int) ∧ fv = .slice fa fn fc ∧ fn ≤ fc ∧ fn ≤ 67108864 ∧ Hid (fn = fl.length) ∧ Hid (R = findF fl (p.drop j)) ∧ Hid (∀ x ∈ fl, FitsF 67108864 x) ∧ Hid (FIn w 0 n₀ fl fa) ∧ Hid (Blk wr (w.heap.size + 1) 48 (cellsF ownNo none 0 0)) ∧ Hid (Below w.heap.size w wr)) (fun _ iv _ => pn - (intOf iv).toNat)
  case atStart => exact ⟨0, l, a, ln, c, Nat.zero_le _, rfl, rfl, hlc, hll, HLN.out.symm, HAT0.out, HFIT.out, HIN.out, HR0.out, HB0.out⟩
  case round =>
    clear HAT0 HR0 HB0
    obtain ⟨j, fl, fa, fn, fc, hj, rfl, rfl, hfc, hf26, HN, HAT, HFF, HFI, HBR, HB⟩ := hrel
    by_cases hlt : j < pn
    · have tl : decide ((j : Int) < (pn : Int)) = true := decide_eq_true (by omega)
      have hjp : j < p.length := by rw [HPN.out]; exact hlt
      obtain ⟨b, off, rfl, hbw, hcell⟩ := ints_nth HP.out hjp
      have HCJ : Hid (∀ x, Below wr.heap.size wr x → x.cell? ⟨b, off + j, none⟩ = some (.int .i64 p[j])) := fun x hx => ((HB.out.trans (hx.mono HB.out.size)).cell (p := ⟨b, off + j, none⟩) hbw).trans hcell
      have cj := HCJ.out wr (Below.refl _ _)
      have hdr : p.drop j = p[j] :: p.drop (j + 1) := List.drop_eq_getElem_cons hjp
      have HAT2 : Hid (R = findF fl (p[j] :: p.drop (j + 1))) := by rw [← hdr]; exact HAT.out
      generalize p[j] = z at cj HAT2 HCJ
      clear hcell hdr HAT
      by_cases h0 : z < 0
      · have t0 : decide (z < 0) = true := decide_eq_true h0
        have hRn : R = none := by rw [HAT2.out]; exact findF_off (fun h => by omega)
        obtain ⟨z0, z1, z2, z3, z4, z5, z6, z7, z8, z9, z10, z11, z12, z13⟩ := Blk.c14 (show Blk wr (w.heap.size + 1) 48 #[.string ⟨#[]⟩, .int .u8 0, .bool false, .int .u8 0, .bool false, .bool false, .string ⟨#[]⟩, .bool false, .string ⟨#[]⟩, .int .i64 0, .int .i64 0, .bool false, .bool false, .slice none 0 0] from HBR.out)
        have g0 := HBR.out.frozen 0
        have g1 := HBR.out.frozen 1
        have g2 := HBR.out.frozen 2
        have g3 := HBR.out.frozen 3
        have g4 := HBR.out.frozen 4
        have g5 := HBR.out.frozen 5
        have g6 := HBR.out.frozen 6
        have g7 := HBR.out.frozen 7
        have g8 := HBR.out.frozen 8
        have g9 := HBR.out.frozen 9
        have g10 := HBR.out.frozen 10
        have g11 := HBR.out.frozen 11
        have g12 := HBR.out.frozen 12
        have g13 := HBR.out.frozen 13
        have hfull : Blk (setL wr (w.heap.size + 1) 0 [.string ⟨#[]⟩, .int .u8 0, .bool false, .int .u8 0, .bool false, .bool false, .string ⟨#[]⟩, .bool false, .string ⟨#[]⟩, .int .i64 0, .int .i64 0, .bool false, .bool false, .slice none 0 0]) (w.heap.size + 1) 48 (cellsF ownNo none 0 0) := setL_full [.string ⟨#[]⟩, .int .u8 0, .bool false, .int .u8 0, .bool false, .bool false, .string ⟨#[]⟩, .bool false, .string ⟨#[]⟩, .int .i64 0, .int .i64 0, .bool false, .bool false, .slice none 0 0] HBR.out (by unfold cellsF; rfl)
        have HFU : Hid _ := hfull
        have HB2 : Hid (Below w.heap.size w (setL wr (w.heap.size + 1) 0 [.string ⟨#[]⟩, .int .u8 0, .bool false, .int .u8 0, .bool false, .bool false, .string ⟨#[]⟩, .bool false, .string ⟨#[]⟩, .int .i64 0, .int .i64 0, .bool false, .bool false, .slice none 0 0])) := setL_below (by omega) _ wr 0 HB.out
        clear HAT2 HFI HFF HN hfull
        go_wp2_with fail
        change bodyPost _ _ _ _ _ (setL wr (w.heap.size + 1) 0 [.string ⟨#[]⟩, .int .u8 0, .bool false, .int .u8 0, .bool false, .bool false, .string ⟨#[]⟩, .bool false, .string ⟨#[]⟩, .int .i64 0, .int .i64 0, .bool false, .bool false, .slice none 0 0])
        generalize setL wr (w.heap.size + 1) 0 [.string ⟨#[]⟩, .int .u8 0, .bool false, .int .u8 0, .bool false, .bool false, .string ⟨#[]⟩, .bool false, .string ⟨#[]⟩, .int .i64 0, .int .i64 0, .bool false, .bool false, .slice none 0 0] = w2 at HFU HB2 ⊢
        refine bodyPost_ret (results18_run (o := ownNo) (a := none) (n := 0) (c := 0) (b := false) HFU.out rfl rfl) rfl ?_
        try rw [hRn]
        exact ⟨HB2.out, none, 0, rfl, .nil, Nat.le_refl _⟩
      · have t0 : decide (z < 0) = false := decide_eq_false h0
        by_cases h1 : (fn : Int) ≤ z
        · have t1 : decide ((fn : Int) ≤ z) = true := decide_eq_true h1
          have hRn : R = none := by rw [HAT2.out]; exact findF_off (fun h => by have := HN.out; omega)
          obtain ⟨z0, z1, z2, z3, z4, z5, z6, z7, z8, z9, z10, z11, z12, z13⟩ := Blk.c14 (show Blk wr (w.heap.size + 1) 48 #[.string ⟨#[]⟩, .int .u8 0, .bool false, .int .u8 0, .bool false, .bool false, .string ⟨#[]⟩, .bool false, .string ⟨#[]⟩, .int .i64 0, .int .i64 0, .bool false, .bool false, .slice none 0 0] from HBR.out)
          have g0 := HBR.out.frozen 0
          have g1 := HBR.out.frozen 1
          have g2 := HBR.out.frozen 2
          have g3 := HBR.out.frozen 3
          have g4 := HBR.out.frozen 4
          have g5 := HBR.out.frozen 5
          have g6 := HBR.out.frozen 6
          have g7 := HBR.out.frozen 7
          have g8 := HBR.out.frozen 8
          have g9 := HBR.out.frozen 9
          have g10 := HBR.out.frozen 10
          have g11 := HBR.out.frozen 11
          have g12 := HBR.out.frozen 12
          have g13 := HBR.out.frozen 13
          have hfull : Blk (setL wr (w.heap.size + 1) 0 [.string ⟨#[]⟩, .int .u8 0, .bool false, .int .u8 0, .bool false, .bool false, .string ⟨#[]⟩, .bool false, .string ⟨#[]⟩, .int .i64 0, .int .i64 0, .bool false, .bool false, .slice none 0 0]) (w.heap.size + 1) 48 (cellsF ownNo none 0 0) := setL_full [.string ⟨#[]⟩, .int .u8 0, .bool false, .int .u8 0, .bool false, .bool false, .string ⟨#[]⟩, .bool false, .string ⟨#[]⟩, .int .i64 0, .int .i64 0, .bool false, .bool false, .slice none 0 0] HBR.out (by unfold cellsF; rfl)
          have HFU : Hid _ := hfull
          have HB2 : Hid (Below w.heap.size w (setL wr (w.heap.size + 1) 0 [.string ⟨#[]⟩, .int .u8 0, .bool false, .int .u8 0, .bool false, .bool false, .string ⟨#[]⟩, .bool false, .string ⟨#[]⟩, .int .i64 0, .int .i64 0, .bool false, .bool false, .slice none 0 0])) := setL_below (by omega) _ wr 0 HB.out
          clear HAT2 HFI HFF HN hfull
          go_wp2_with fail
          change bodyPost _ _ _ _ _ (setL wr (w.heap.size + 1) 0 [.string ⟨#[]⟩, .int .u8 0, .bool false, .int .u8 0, .bool false, .bool false, .string ⟨#[]⟩, .bool false, .string ⟨#[]⟩, .int .i64 0, .int .i64 0, .bool false, .bool false, .slice none 0 0])
          generalize setL wr (w.heap.size + 1) 0 [.string ⟨#[]⟩, .int .u8 0, .bool false, .int .u8 0, .bool false, .bool false, .string ⟨#[]⟩, .bool false, .string ⟨#[]⟩, .int .i64 0, .int .i64 0, .bool false, .bool false, .slice none 0 0] = w2 at HFU HB2 ⊢
          refine bodyPost_ret (results18_run (o := ownNo) (a := none) (n := 0) (c := 0) (b := false) HFU.out rfl rfl) rfl ?_
          try rw [hRn]
          exact ⟨HB2.out, none, 0, rfl, .nil, Nat.le_refl _⟩
        · have t1 : decide ((fn : Int) ≤ z) = false := decide_eq_false h1
          obtain ⟨k, rfl⟩ : ∃ k : Nat, z = (k : Int) := ⟨z.toNat, by omega⟩
          have hk : k < fn := by omega
          have hkf : k < fl.length := by rw [← HN.out]; exact hk
          obtain ⟨bb, off2, aj, cj2, rfl, _, hbn, hrow, hinj, hcj⟩ := HFI.out.atC hkf
          have hfk := HFF.out _ (List.getElem_mem hkf)
          by_cases hl2 : j + 1 = pn
          · have t2 : ((j : Int) == (pn : Int) - 1) = true := by simp; omega
            have t3 : decide ((j : Int) = (pn : Int) - 1) = true := decide_eq_true (by omega)
            have hRx : R = some fl[k] := by
              rw [HAT2.out, List.drop_of_length_le (by rw [HPN.out]; omega)]
              exact findF_last hkf
            have hsg := HFI.out.single hkf
            have hfl1 := flds_any (.mk ownNo [fl[k]]) (.mk ownNo_fits (by show 1 ≤ 67108864; omega) (fun y hy => by obtain rfl : y = fl[k] := (by simpa [Fld.fields] using hy); exact hfk))
            have HFL : Hid (∀ x, Below wr.heap.size wr x → Calls Tryz.prog 34 #[.slice (some ⟨bb, off2 + k * 14, none⟩) 1 (fc - k)] x fun e w' => ∃ a' c', e = .returned (.slice a' 1 c') ∧ FT w' x.heap.size none [fl[k]] a' c' ∧ Below x.heap.size x w') := fun x hx => (hfl1 (some ⟨bb, off2 + k * 14, none⟩) (fc - k) n₀ x (hsg.keep (HB.out.trans (hx.mono HB.out.size)) hn₀) (Nat.le_trans hn₀ (Nat.le_trans HB.out.size hx.size)) (by show 1 ≤ 67108864; omega)).mono fun e w' ⟨a', c', q1, q2, _, q3⟩ => ⟨a', c', q1, q2, q3⟩
            obtain ⟨x, hx⟩ : ∃ x, x = fl[k] := ⟨_, rfl⟩
            rw [← hx] at hRx HFL
            subst hRx
            have hck : ¬ fc = k := by omega
            have hk1 : (k : Int) + 1 ≤ (fc : Int) := by omega
            have hk2 : k + 1 ≤ fc := by omega
            have hk3 : (k : Int) ≤ (fc : Int) := by omega
            have hk4 : k + 1 - k = 1 := by omega
            have hk5 : IntKind.i64.wrap ((k : Int) + 1) = ((k + 1 : Nat) : Int) := by rw [IntWalk.i64_in _ (by omega)]; omega
            have hk6 : ((k + 1 : Nat) : Int) ≤ (fc : Int) := by omega
            have hk7 : (0 : Int) ≤ ((k + 1 : Nat) : Int) := by omega
            have hk8 : k ≤ k + 1 := by omega
            have hk9 : (0 : Int) ≤ (k : Int) + 1 := by omega
            have hw1 : w.heap.size + 1 < wr.heap.size := HBR.out.lt
            clear HAT2 hsg hfl1 hrow hinj hcj hfk HFI HFF hkf hx
            go_upto_region 8 with fail
            clear cj
            refine wp_region_held_drew (S := fun x => (x.cell? ⟨b, off + j, none⟩ = some (.int .i64 (k : Int)))) (by kernel_rfl) (HCJ.out _ (Below.refl _ _).drew) (fun hHeldq => ?_)
            refine wpAnyH_takeD (i := 0) (some 36) (v := ?vq0) rfl rfl (by kernel_rfl) (by kernel_rfl) (by kernel_rfl) (fun _ _ _ h => h) (Or.inl ⟨by kernel_rfl, ?hyq0⟩) (by assumption) ?restq0
            case hyq0 => (intro x hSx; (try dsimp only at hSx); go_simp; first | done | with_reducible rfl)
            try simp only [Act.put, List.setIfInBounds_toArray, List.set_cons_zero, List.set_cons_succ]
            refine wpAnyH_takeD (i := 1) (some 37) (v := ?vq1) rfl rfl (by kernel_rfl) (by kernel_rfl) (by kernel_rfl) (fun _ _ _ h => h) (Or.inl ⟨by kernel_rfl, ?hyq1⟩) (by assumption) ?restq1
            case hyq1 => (intro x hSx; (try dsimp only at hSx); go_simp; first | done | with_reducible rfl)
            try simp only [Act.put, List.setIfInBounds_toArray, List.set_cons_zero, List.set_cons_succ]
            refine wpAnyH_takeD (i := 2) (some 38) (v := ?vq2) rfl rfl (by kernel_rfl) (by kernel_rfl) (by kernel_rfl) (fun _ _ _ h => h) (Or.inl ⟨by kernel_rfl, ?hyq2⟩) (by assumption) ?restq2
            case hyq2 => (intro x hSx; (try dsimp only at hSx); go_simp; first | done | with_reducible rfl)
            try simp only [Act.put, List.setIfInBounds_toArray, List.set_cons_zero, List.set_cons_succ]
            refine wpAnyH_takeD (i := 3) (some 39) (v := ?vq3) rfl rfl (by kernel_rfl) (by kernel_rfl) (by kernel_rfl) (fun _ _ _ h => h) (Or.inl ⟨by kernel_rfl, ?hyq3⟩) (by assumption) ?restq3
            case hyq3 => (intro x hSx; (try dsimp only at hSx); go_simp; first | done | with_reducible rfl)
            try simp only [Act.put, List.setIfInBounds_toArray, List.set_cons_zero, List.set_cons_succ]
            refine wpAnyH_takeD (i := 4) (some 40) (v := ?vq4) rfl rfl (by kernel_rfl) (by kernel_rfl) (by kernel_rfl) (fun _ _ _ h => h) (Or.inl ⟨by kernel_rfl, ?hyq4⟩) (by assumption) ?restq4
            case hyq4 => (intro x hSx; (try dsimp only at hSx); go_simp; first | done | with_reducible rfl)
            try simp only [Act.put, List.setIfInBounds_toArray, List.set_cons_zero, List.set_cons_succ]
            refine wpAnyH_takeD (i := 5) (some 41) (v := ?vq5) rfl rfl (by kernel_rfl) (by kernel_rfl) (by kernel_rfl) (fun _ _ _ h => h) (Or.inl ⟨by kernel_rfl, ?hyq5⟩) (by assumption) ?restq5
            case hyq5 => (intro x hSx; (try dsimp only at hSx); go_simp; first | done | with_reducible rfl)
            try simp only [Act.put, List.setIfInBounds_toArray, List.set_cons_zero, List.set_cons_succ]
            refine wpAnyH_takeD (i := 6) (some 42) (v := ?vq6) rfl rfl (by kernel_rfl) (by kernel_rfl) (by kernel_rfl) (fun _ _ _ h => h) (Or.inl ⟨by kernel_rfl, ?hyq6⟩) (by assumption) ?restq6
            case hyq6 => (intro x hSx; (try dsimp only at hSx); go_simp; first | done | with_reducible rfl)
            try simp only [Act.put, List.setIfInBounds_toArray, List.set_cons_zero, List.set_cons_succ]
            refine wpAnyH_takeD (i := 7) (some 43) (v := ?vq7) rfl rfl (by kernel_rfl) (by kernel_rfl) (by kernel_rfl) (fun _ _ _ h => h) (Or.inl ⟨by kernel_rfl, ?hyq7⟩) (by assumption) ?restq7
            case hyq7 => (intro x hSx; (try dsimp only at hSx); go_simp; first | done | with_reducible rfl)
            try simp only [Act.put, List.setIfInBounds_toArray, List.set_cons_zero, List.set_cons_succ]
            refine wpAnyH_takeD (i := 8) (some 44) (v := ?vq8) rfl rfl (by kernel_rfl) (by kernel_rfl) (by kernel_rfl) (fun _ _ _ h => h) (Or.inl ⟨by kernel_rfl, ?hyq8⟩) (by assumption) ?restq8
            case hyq8 => (intro x hSx; (try dsimp only at hSx); go_simp; first | done | with_reducible rfl)
            try simp only [Act.put, List.setIfInBounds_toArray, List.set_cons_zero, List.set_cons_succ]
            refine wpAnyH_takeD (i := 9) (some 45) (v := ?vq9) rfl rfl (by kernel_rfl) (by kernel_rfl) (by kernel_rfl) (fun _ _ _ h => h) (Or.inl ⟨by kernel_rfl, ?hyq9⟩) (by assumption) ?restq9
            case hyq9 => (intro x hSx; (try dsimp only at hSx); go_simp; first | done | with_reducible rfl)
            try simp only [Act.put, List.setIfInBounds_toArray, List.set_cons_zero, List.set_cons_succ]
            refine wpAnyH_takeD (i := 10) (some 46) (v := ?vq10) rfl rfl (by kernel_rfl) (by kernel_rfl) (by kernel_rfl) (fun _ _ _ h => h) (Or.inl ⟨by kernel_rfl, ?hyq10⟩) (by assumption) ?restq10
            case hyq10 => (intro x hSx; (try dsimp only at hSx); go_simp; first | done | with_reducible rfl)
            try simp only [Act.put, List.setIfInBounds_toArray, List.set_cons_zero, List.set_cons_succ]
            refine wpAnyH_ready (rs := [11]) (by kernel_rfl) (by simp) ?_
            refine AllReadyH.cons rfl (fun K hK => ?_) AllReadyH.nil
            go_simp
            go_wp2_with (go_at_call 34; refine (HFL.out _ (Below.refl wr.heap.size wr).drew).mono ?_; rintro e y11 ⟨a1, c1, rfl, hft, hq11⟩)
            have HY : Hid (Below wr.heap.size wr y11) := (Below.refl wr.heap.size wr).drew.trans (hq11.mono (Below.refl wr.heap.size wr).drew.size)
            obtain ⟨gb, ax, cx, rfl, hgl, hrw, hin1, hmx⟩ : ∃ gb ax cx, a1 = some ⟨gb, 0, none⟩ ∧ wr.heap.size ≤ gb ∧ RowF y11 gb 0 x.own ax x.fields.length cx ∧ FT y11 wr.heap.size none x.fields ax cx ∧ x.fields.length ≤ cx := by
              cases hft with
              | cons A C cs q1 q2 q3 q4 q5 q6 q7 q8 => exact ⟨_, A 0, C 0, rfl, Nat.le_trans (Nat.le_refl _) q1, by simpa using q6 0 (by simp), q8 0 (by simp), q7 0 (by simp)⟩
            have HFT : Hid (FT y11 wr.heap.size none x.fields ax cx) := hin1
            have HMX : Hid (x.fields.length ≤ cx) := hmx
            obtain ⟨m, hm⟩ : ∃ m, x.fields.length = m := ⟨_, rfl⟩
            have HM : Hid (x.fields.length = m) := hm
            rw [hm] at hrw
            obtain ⟨e0, e1, e2, e3, e4, e5, e6, e7, e8, e9, e10, e11, e12, e13⟩ := hrw
            simp only [Nat.zero_add] at e1 e2 e3 e4 e5 e6 e7 e8 e9 e10 e11 e12 e13
            clear hft hin1 hmx hm
            refine hK.out _ _ (HCJ.out _ HY.out) (fun hHeldY => ?_)
            clear hK K
            try simp only [Act.put, List.setIfInBounds_toArray, List.set_cons_zero, List.set_cons_succ]
            refine wpAnyH_takeD (i := 12) (some 48) (v := ?vq12) rfl rfl (by kernel_rfl) (by kernel_rfl) (by kernel_rfl) (fun _ _ _ h => h) (Or.inl ⟨by kernel_rfl, ?hyq12⟩) (by assumption) ?restq12
            case hyq12 => (intro x hSx; (try dsimp only at hSx); go_simp; first | done | with_reducible rfl)
            try simp only [Act.put, List.setIfInBounds_toArray, List.set_cons_zero, List.set_cons_succ]
            refine wpAnyH_ready (rs := [13]) (by kernel_rfl) (by simp) ?_
            refine AllReadyH.cons rfl (fun K hK => ?_) AllReadyH.nil
            go_simp
            refine hK.out _ _ (HCJ.out _ HY.out) (fun hHeldL => ?_)
            clear e0 e1 e2 e3 e4 e5 e6 e7 e8 e9 e10 e11 e12 e13
            clear hK K
            try simp only [Act.put, List.setIfInBounds_toArray, List.set_cons_zero, List.set_cons_succ]
            refine wpAnyH_ready (rs := [14]) (by kernel_rfl) (by simp) ?_
            refine AllReadyH.cons rfl (fun K hK => ?_) AllReadyH.nil
            have HBY : Hid (Blk y11 (w.heap.size + 1) 48 #[.string ⟨#[]⟩, .int .u8 0, .bool false, .int .u8 0, .bool false, .bool false, .string ⟨#[]⟩, .bool false, .string ⟨#[]⟩, .int .i64 0, .int .i64 0, .bool false, .bool false, .slice none 0 0]) := HBR.out.old HY.out
            obtain ⟨z0, z1, z2, z3, z4, z5, z6, z7, z8, z9, z10, z11, z12, z13⟩ := HBY.out.c14
            have g0 := HBY.out.frozen 0
            have g1 := HBY.out.frozen 1
            have g2 := HBY.out.frozen 2
            have g3 := HBY.out.frozen 3
            have g4 := HBY.out.frozen 4
            have g5 := HBY.out.frozen 5
            have g6 := HBY.out.frozen 6
            have g7 := HBY.out.frozen 7
            have g8 := HBY.out.frozen 8
            have g9 := HBY.out.frozen 9
            have g10 := HBY.out.frozen 10
            have g11 := HBY.out.frozen 11
            have g12 := HBY.out.frozen 12
            have g13 := HBY.out.frozen 13
            have HFU : Hid (Blk (setL y11 (w.heap.size + 1) 0 [.string x.own.name, .int .u8 x.own.kind, .bool x.own.down, .int .u8 x.own.nulls, .bool x.own.bnd, .bool x.own.ln, .string x.own.lm, .bool x.own.hn, .string x.own.hm, .int .i64 x.own.most, .int .i64 x.own.str, .bool x.own.shf, .bool x.own.bck, .slice ax m cx]) (w.heap.size + 1) 48 (cellsF x.own ax m cx)) := setL_full [.string x.own.name, .int .u8 x.own.kind, .bool x.own.down, .int .u8 x.own.nulls, .bool x.own.bnd, .bool x.own.ln, .string x.own.lm, .bool x.own.hn, .string x.own.hm, .int .i64 x.own.most, .int .i64 x.own.str, .bool x.own.shf, .bool x.own.bck, .slice ax m cx] HBY.out (by rfl)
            have HB4 : Hid (Below w.heap.size w (setL y11 (w.heap.size + 1) 0 [.string x.own.name, .int .u8 x.own.kind, .bool x.own.down, .int .u8 x.own.nulls, .bool x.own.bnd, .bool x.own.ln, .string x.own.lm, .bool x.own.hn, .string x.own.hm, .int .i64 x.own.most, .int .i64 x.own.str, .bool x.own.shf, .bool x.own.bck, .slice ax m cx])) := setL_below (by omega) _ y11 0 (HB.out.trans (HY.out.mono HB.out.size))
            have HF4 : Hid (FT (setL y11 (w.heap.size + 1) 0 [.string x.own.name, .int .u8 x.own.kind, .bool x.own.down, .int .u8 x.own.nulls, .bool x.own.bnd, .bool x.own.ln, .string x.own.lm, .bool x.own.hn, .string x.own.hm, .int .i64 x.own.most, .int .i64 x.own.str, .bool x.own.shf, .bool x.own.bck, .slice ax m cx]) w.heap.size none x.fields ax cx) := (HFT.out.keep fun b h1 _ _ => setL_other (by omega) _ y11 0).mono HB.out.size (fun _ _ _ _ => by simp)
            go_simp
            refine hK.out _ (setL y11 (w.heap.size + 1) 0 [.string x.own.name, .int .u8 x.own.kind, .bool x.own.down, .int .u8 x.own.nulls, .bool x.own.bnd, .bool x.own.ln, .string x.own.lm, .bool x.own.hn, .string x.own.hm, .int .i64 x.own.most, .int .i64 x.own.str, .bool x.own.shf, .bool x.own.bck, .slice ax m cx]) ((World.cell?_of_block (setL_other (by show b ≠ w.heap.size + 1; omega) _ y11 0)).trans (HCJ.out _ HY.out)) (fun hHeldS => ?_)
            clear hK K
            try simp only [Act.put, List.setIfInBounds_toArray, List.set_cons_zero, List.set_cons_succ]
            refine wpAnyH_takeD (i := 15) (some 5) (v := ?vq15) rfl rfl (by kernel_rfl) (by kernel_rfl) (by kernel_rfl) (fun _ _ _ h => h) (Or.inl ⟨by kernel_rfl, ?hyq15⟩) (by assumption) ?restq15
            case hyq15 => (intro x hSx; (try dsimp only at hSx); go_simp; first | done | with_reducible rfl)
            try simp only [Act.put, List.setIfInBounds_toArray, List.set_cons_zero, List.set_cons_succ]
            refine wpAnyH_done (by kernel_rfl) ?_ _
            go_wp2_with fail
            generalize setL y11 (w.heap.size + 1) 0 [.string x.own.name, .int .u8 x.own.kind, .bool x.own.down, .int .u8 x.own.nulls, .bool x.own.bnd, .bool x.own.ln, .string x.own.lm, .bool x.own.hn, .string x.own.hm, .int .i64 x.own.most, .int .i64 x.own.str, .bool x.own.shf, .bool x.own.bck, .slice ax m cx] = w4 at HFU HB4 HF4 ⊢
            refine bodyPost_ret (results18_run (o := x.own) (a := ax) (n := m) (c := cx) (b := true) HFU.out rfl rfl) rfl ?_
            refine ⟨HB4.out, ax, cx, ?_, HF4.out, HMX.out⟩
            rw [← HM.out]
            rfl
          · have t2 : ((j : Int) == (pn : Int) - 1) = false := by simp; omega
            have t3 : decide ((j : Int) = (pn : Int) - 1) = false := decide_eq_false (by omega)
            have HAT3 : Hid (R = findF fl[k].fields (p.drop (j + 1))) := by
              show _ = _
              rw [HAT2.out]
              exact findF_on hkf (fun e => by have := congrArg List.length e; rw [List.length_drop, HPN.out] at this; simp at this; omega)
            have hc13 := (hrow.below HB.out (by omega)).c13
            generalize fl[k] = x at HAT3 hc13 hinj hcj hfk
            have HIJ : Hid (FIn w 0 n₀ x.fields aj) := hinj
            have HFK : Hid (FitsF 67108864 x) := hfk
            obtain ⟨m, hm⟩ : ∃ m, x.fields.length = m := ⟨_, rfl⟩
            have HM : Hid (m = x.fields.length) := hm.symm
            have hm26 : m ≤ 67108864 := by rw [← hm]; exact hfk.len
            rw [hm] at hc13 hcj
            clear HAT2 hrow hinj hfk hm HFI HFF hkf
            go_wp2_with fail
            go_roundw
            case rel => exact ⟨j + 1, x.fields, aj, m, cj2, by omega, by simp, rfl, hcj, hm26, HM.out, HAT3.out, (fun y hy => HFK.out.mem hy), HIJ.out, HBR.out, HB.out⟩
            case measure => simp only [intOf]; omega
    · have hRn : R = none := by rw [HAT.out, List.drop_of_length_le (by rw [HPN.out]; omega)]; exact findF_nil _
      have tl : decide ((j : Int) < (pn : Int)) = false := decide_eq_false (by omega)
      have HAT2 : Hid True := trivial
      obtain ⟨z0, z1, z2, z3, z4, z5, z6, z7, z8, z9, z10, z11, z12, z13⟩ := Blk.c14 (show Blk wr (w.heap.size + 1) 48 #[.string ⟨#[]⟩, .int .u8 0, .bool false, .int .u8 0, .bool false, .bool false, .string ⟨#[]⟩, .bool false, .string ⟨#[]⟩, .int .i64 0, .int .i64 0, .bool false, .bool false, .slice none 0 0] from HBR.out)
      have g0 := HBR.out.frozen 0
      have g1 := HBR.out.frozen 1
      have g2 := HBR.out.frozen 2
      have g3 := HBR.out.frozen 3
      have g4 := HBR.out.frozen 4
      have g5 := HBR.out.frozen 5
      have g6 := HBR.out.frozen 6
      have g7 := HBR.out.frozen 7
      have g8 := HBR.out.frozen 8
      have g9 := HBR.out.frozen 9
      have g10 := HBR.out.frozen 10
      have g11 := HBR.out.frozen 11
      have g12 := HBR.out.frozen 12
      have g13 := HBR.out.frozen 13
      have hfull : Blk (setL wr (w.heap.size + 1) 0 [.string ⟨#[]⟩, .int .u8 0, .bool false, .int .u8 0, .bool false, .bool false, .string ⟨#[]⟩, .bool false, .string ⟨#[]⟩, .int .i64 0, .int .i64 0, .bool false, .bool false, .slice none 0 0]) (w.heap.size + 1) 48 (cellsF ownNo none 0 0) := setL_full [.string ⟨#[]⟩, .int .u8 0, .bool false, .int .u8 0, .bool false, .bool false, .string ⟨#[]⟩, .bool false, .string ⟨#[]⟩, .int .i64 0, .int .i64 0, .bool false, .bool false, .slice none 0 0] HBR.out (by unfold cellsF; rfl)
      have HFU : Hid _ := hfull
      have HB2 : Hid (Below w.heap.size w (setL wr (w.heap.size + 1) 0 [.string ⟨#[]⟩, .int .u8 0, .bool false, .int .u8 0, .bool false, .bool false, .string ⟨#[]⟩, .bool false, .string ⟨#[]⟩, .int .i64 0, .int .i64 0, .bool false, .bool false, .slice none 0 0])) := setL_below (by omega) _ wr 0 HB.out
      clear HAT2 HFI HFF HN hfull
      go_wp2_with fail
      change bodyPost _ _ _ _ _ (setL wr (w.heap.size + 1) 0 [.string ⟨#[]⟩, .int .u8 0, .bool false, .int .u8 0, .bool false, .bool false, .string ⟨#[]⟩, .bool false, .string ⟨#[]⟩, .int .i64 0, .int .i64 0, .bool false, .bool false, .slice none 0 0])
      generalize setL wr (w.heap.size + 1) 0 [.string ⟨#[]⟩, .int .u8 0, .bool false, .int .u8 0, .bool false, .bool false, .string ⟨#[]⟩, .bool false, .string ⟨#[]⟩, .int .i64 0, .int .i64 0, .bool false, .bool false, .slice none 0 0] = w2 at HFU HB2 ⊢
      refine bodyPost_ret (results18_run (o := ownNo) (a := none) (n := 0) (c := 0) (b := false) HFU.out rfl rfl) rfl ?_
      try rw [hRn]
      exact ⟨HB2.out, none, 0, rfl, .nil, Nat.le_refl _⟩
end Go.Proofs.YtcbjnifoojjipaaGreatDoor
