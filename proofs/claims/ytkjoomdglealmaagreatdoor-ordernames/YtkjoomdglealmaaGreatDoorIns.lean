/- What slices.Insert does with a row of ints, at its front (a contract; nothing is claimed here). -/
import Derived.Test.YtkjoomdglealmaaGreatDoorJ15
import Derived.Laws.CopyOwn
import Derived.Deep.RegionLaw
namespace Go.Proofs.YtkjoomdglealmaaGreatDoor
open Go.RowKit Go.Vf

theorem int3 : Tryz.prog.underlying 3 = some (.int .i64) := by kernel_rfl
theorem run_append_zeros (ty : TypeId) (b : Addr) (cap m : Nat) (hm : cap < m) (hb : m ≤ 1000000) (w : World) :
    (Builtin.append_ #[45, 3] ty #[.slice (some b) 0 cap, .int .i64 (m : Int)]).run Tryz.prog w =
      .ok (.slice (some ⟨w.heap.size, 0, none⟩) m (grownCap w m cap 3)) (w.drew.alloc (.cells (Builtin.zeroCells #[.int .i64 0] m ++ Builtin.zeroCells #[.int .i64 0] (grownCap w m cap 3 - m)) 3)) := by
  obtain ⟨i, hi, hz, hsz, hby⟩ := info_parts info3
  have hn : ¬ (m ≤ cap) := by omega
  have hm0 : m ≠ 0 := by omega
  have h48 : Builtin.nextslicecap m cap * i.bytes ≤ 281474976710656 := by
    rw [hby]
    exact growslice_fits hm (by omega)
  have h48' : ¬ (281474976710656 < Builtin.nextslicecap m cap * i.bytes) := by omega
  have h63' : ¬ (9223372036854775807 < (m : Int)) := by omega
  have hw : IntKind.i64.wrap (m : Int) = (m : Int) := by rw [IntKind.wrap_i64] <;> omega
  have hbig : ¬ (281474976710656 < (m : Int) * (i.bytes : Int)) := by rw [hby]; omega
  have hf := run_firstCells_some (P := Tryz.prog) w.drew 1 0 b 0 cap [] (by simp) (by simp)
  have hp : ¬ ((m : Int) < 0) := by omega
  have hq : ¬ ((m : Int) ≤ (cap : Int)) := by omega
  have hr : ¬ ((m : Int) ≤ 0) := by omega
  have hmx : max (m : Int) 0 = (m : Int) := by omega
  simp [Builtin.append_, run_underlying Tryz.underlying45, run_underlying int3, sizeOf, typeInfo, zeroValue, hi, hz, hsz, asInt, asIntOf, hw, hbig, hm0, hf, hp, hq, hmx, h63', h48', Question.forced, newRow, grownCap, Value.cells]

theorem ints1 : (Tryz.prog.info? 3).map (·.size) = some 1 := by kernel_rfl
theorem IOwn.row {w : World} {base : Nat} {a : Option Addr} {n c : Nat} {zs : List Int} (h : IOwn w base (.slice a n c) zs) (hz : zs ≠ []) : ∃ g cur, a = some ⟨g, 0, none⟩ ∧ base ≤ g ∧ w.heap[g]? = some (.cells cur 3 (0, 0)) ∧ zs.length ≤ c ∧ c ≤ maxLen ∧ cur.size = c ∧ cur.toList.take zs.length = zs.map (Value.int .i64) := by
  rcases h.2 with ⟨hv, hn⟩ | ⟨g, cap, cur, hv, hb, hh, hc1, hc2, hc3, hc4⟩
  · exact absurd (List.eq_nil_of_length_eq_zero hn) hz
  · simp only [Value.slice.injEq] at hv
    obtain ⟨rfl, rfl, rfl⟩ := hv
    exact ⟨g, cur, rfl, hb, hh, hc1, hc2, by simpa using hc3, by simpa using hc4⟩
theorem IOwn.of_row {w : World} {base g c : Nat} {zs : List Int} {cur : List Value} (hh : w.heap[g]? = some (.cells cur.toArray 3 (0, 0))) (hb : base ≤ g) (h1 : zs.length ≤ c) (h2 : c ≤ maxLen) (h3 : cur.length = c) (h4 : cur.take zs.length = zs.map (Value.int .i64)) : IOwn w base (.slice (some ⟨g, 0, none⟩) zs.length c) zs :=
  ⟨by simp, .inr ⟨g, c, cur.toArray, rfl, hb, hh, h1, h2, by simpa using h3, by simpa using h4⟩⟩
theorem add0 (g : Nat) : ((⟨g, 0, none⟩ : Addr).add 0) = ⟨g, 0, none⟩ := by simp [Addr.add]
theorem addj (g j : Nat) : ((⟨g, 0, none⟩ : Addr).add j) = ⟨g, j, none⟩ := by by_cases hj : j = 0 <;> simp [Addr.add, hj]
set_option maxHeartbeats 2000000 in
set_option maxRecDepth 20000 in
theorem insert0_nil (a : Option Addr) (c : Nat) (x : Int) (vb base : Nat) (w : World) (h : IOwn w base (.slice a 0 c) []) (hv : Blk w vb 3 #[.int .i64 x]) (hbase : base ≤ w.heap.size) :
    Calls Tryz.prog 109 #[.slice a 0 c, .int .i64 0, .slice (some ⟨vb, 0, none⟩) 1 1] w fun e w' => ∃ a' c', e = .returned (.slice a' 1 c') ∧ IOwn w' base (.slice a' 1 c') [x] ∧ w.grownBy w' (Value.slice a 0 c).ownBlock := by
  have HC : Hid (∀ j, j < [x].length → w.cell? ((⟨vb, 0, none⟩ : Addr).add j) = some (.int .i64 ([x][j]?.getD 0))) := fun j hj => by
    have hj0 : j = 0 := by simp at hj; omega
    subst hj0
    rw [add0]
    exact hv.cell 0
  have hl2 : ([] : List Int).length + [x].length ≤ 1099511627776 := by simp
  clear hv
  go_enter Tryz.func109, Tryz.ntmps109
  go_upto_region 7 with fail
  go_wp2_with (first | (at_builtin; refine wpList_append_ints rfl _ _ rfl base _ [] rfl h [x] ⟨vb, 0, none⟩ _ rfl HC.out hl2 hbase ?_; intro a4 c4 w4 hown4 hgr4 hnil4 hat4))
  go_ret
  exact ⟨a4, c4, rfl, hown4, hgr4⟩
theorem copy_ex (w : World) (ty : TypeId) (g off dLen dCap : Nat) (ad : Addr) (sLen sCap : Nat) (cur : List Value) (cs : List Value) (hg : w.heap[g]? = some (.cells cur.toArray 3 (0, 0))) (hn : cs.length = Nat.min sLen dLen) (hsrc : ∀ j v, cs[j]? = some v → w.cell? (ad.add j) = some v) (hfit : off + cs.length ≤ cur.length) (h1 : ∀ v ∈ cs, v.oneCell' = true) :
    ∃ w3, (Builtin.copy_ #[45, 45] ty #[.slice (some ⟨g, off, none⟩) dLen dCap, .slice (some ad) sLen sCap]).run Tryz.prog w = .ok (.int .i64 (cs.length : Int)) w3 ∧ w3.heap[g]? = some (.cells (splice cur off cs).toArray 3 (0, 0)) ∧ (∀ k, k ≠ g → w3.heap[k]? = w.heap[k]?) ∧ w3.heap.size = w.heap.size ∧ w3.os = w.os ∧ w3.tape = w.tape ∧ w3.output = w.output := by
  have hrun := run_copy_row (P := Tryz.prog) w 45 45 ty 3 g off dLen dCap ad sLen sCap cur.toArray 3 cs Tryz.underlying45 ints1 hg hn hsrc (by simpa using hfit) h1
  refine ⟨_, hrun, ?_, fun k hk => setRow_other w g k _ (by omega), by simp [World.setRow], rfl, rfl, rfl⟩
  simpa [splice] using setRow_heap w g _ _ 3 _ hg
theorem wpList_app_run {P : Program} {w w2 : World} {ops : Array Oper} {rest : List Oper} {o : Oper} {a : Act} {Q : Exit → Act → World → Prop} (hgd : o.guard = none) (d s : Operand) (dT sT : TypeId)
    (ho : o.op = .call { callee := .builtin .append, args := #[d, s], argTypes := #[dT, sT] }) (v : Value) (hrun : (Builtin.append_ #[dT, sT] o.type #[a.eval d, a.eval s]).run P w = .ok v w2) (h : wpList P ops Q rest (a.put o.dst v) w2) : wpList P ops Q (o :: rest) a w := by
  refine wpList_plain hgd fun K hK => ?_
  unfold Oper.wp
  simp [execOp, ho, resolve, invoke, builtin, hrun, Result.andThen]
  exact hK _ _ h
set_option maxHeartbeats 4000000 in
set_option maxRecDepth 20000 in
theorem insert0_grow (zs : List Int) (hz : zs ≠ []) (hl : zs.length ≤ 1000) (g c : Nat) (x : Int) (vb : Nat) (w : World) (cur : Array Value) (hh : w.heap[g]? = some (.cells cur 3 (0, 0))) (hc1 : zs.length ≤ c) (hcs : cur.size = c) (ht : cur.toList.take zs.length = zs.map (Value.int .i64)) (hv : Blk w vb 3 #[.int .i64 x]) (hfull : c < zs.length + 1) :
    Calls Tryz.prog 109 #[.slice (some ⟨g, 0, none⟩) zs.length c, .int .i64 0, .slice (some ⟨vb, 0, none⟩) 1 1] w fun e w' => ∃ a' c', e = .returned (.slice a' (zs.length + 1) c') ∧ IOwn w' w.heap.size (.slice a' (zs.length + 1) c') (x :: zs) ∧ Below w.heap.size w w' := by
  obtain ⟨n, hn⟩ : ∃ n, zs.length = n := ⟨_, rfl⟩
  have hn1 : 1 ≤ n := by rw [← hn]; exact List.length_pos_iff.2 hz
  have HN : Hid (zs.length = n) := hn
  rw [hn] at hl hc1 ht hfull ⊢
  have hcn : c = n := by omega
  subst hcn
  have hrun := run_append_zeros 45 ⟨g, 0, none⟩ c (c + 1) (by omega) (by omega) w
  have hge := grownCap_ge w (c + 1) c 3
  have hle := grownCap_le_maxLen w (c + 1) c 3 (by unfold maxLen; omega)
  generalize grownCap w (c + 1) c 3 = c2 at hrun hge hle
  have hb2 : Below w.heap.size w (w.drew.alloc (.cells (Builtin.zeroCells #[.int .i64 0] (c + 1) ++ Builtin.zeroCells #[.int .i64 0] (c2 - (c + 1))) 3)) := ((Below.refl w.heap.size w).drew).alloc (Nat.le_refl _) _
  obtain ⟨Z, hZ⟩ : ∃ Z : List Value, Z = (Builtin.zeroCells #[.int .i64 0] (c + 1) ++ Builtin.zeroCells #[.int .i64 0] (c2 - (c + 1))).toList := ⟨_, rfl⟩
  have hZl : Z.length = c2 := by rw [hZ, Array.length_toList]; simp [size_zeroCells]; omega
  have hg2 : (w.drew.alloc (.cells (Builtin.zeroCells #[.int .i64 0] (c + 1) ++ Builtin.zeroCells #[.int .i64 0] (c2 - (c + 1))) 3)).heap[w.heap.size]? = some (.cells Z.toArray 3 (0, 0)) := by
    rw [hZ]
    exact heap_alloc_new w.drew _
  generalize w.drew.alloc (.cells (Builtin.zeroCells #[.int .i64 0] (c + 1) ++ Builtin.zeroCells #[.int .i64 0] (c2 - (c + 1))) 3) = w2 at hrun hb2 hg2
  have HX : Hid (∀ j v, [Value.int .i64 x][j]? = some v → w2.cell? ((⟨vb, 0, none⟩ : Addr).add j) = some v) := fun j v hj => by
    have hj0 : j = 0 := by have := (List.getElem?_eq_some_iff.1 hj).1; simp at this; omega
    subst hj0
    rw [add0, ← hj]
    exact (hv.old hb2).cell 0
  have hgl : g < w.heap.size := (Array.getElem?_eq_some_iff.1 hh).1
  obtain ⟨V, hV⟩ : ∃ V : List Value, V = zs.map (Value.int .i64) := ⟨_, rfl⟩
  have hVl : V.length = c := by rw [hV, List.length_map]; exact HN.out
  have HV : Hid (∀ W, Below w.heap.size w W → ∀ j v, V[j]? = some v → W.cell? ((⟨g, 0, none⟩ : Addr).add j) = some v) := fun W hW j v hj => by
    rw [addj, hW.cell (p := ⟨g, j, none⟩) hgl]
    have hjl : j < c := by have := (List.getElem?_eq_some_iff.1 hj).1; omega
    rw [hV, ← ht, List.getElem?_take_of_lt hjl] at hj
    simp only [World.cell?, hh]
    simpa using hj
  have HV1 : Hid (∀ v ∈ V, v.oneCell' = true) := fun v hv => by
    rw [hV] at hv
    obtain ⟨y, _, rfl⟩ := List.mem_map.1 hv
    rfl
  have HZ : Hid (Z.length = c2) := hZl
  have HVl : Hid (V.length = c) := hVl
  have HVq : Hid (V = zs.map (Value.int .i64)) := hV
  have e0 : (c : Int) + 1 - 0 = (c : Int) + 1 := by omega
  clear hn hz ht hcs hh hv hV hVl hZ hZl
  go_enter Tryz.func109, Tryz.ntmps109
  go_upto_region 9 with fail
  rw [show ((c + 1 : Nat) : Int) = (c : Int) + 1 from rfl] at hrun
  go_upto_region 10 with (first | (at_builtin; refine wpList_app_run rfl (.tmp 34) (.tmp 39) 45 3 rfl _ hrun ?_))
  obtain ⟨w3, hcp1, hg3, hk3, hz3, ho3, ht3, hp3⟩ := copy_ex w2 3 w.heap.size 0 (c + 1) c2 ⟨vb, 0, none⟩ 1 1 Z [.int .i64 x] hg2 (by simp) HX.out (by have := HZ.out; simp; omega) (by simp [Value.oneCell'])
  have hb3 : Below w.heap.size w w3 := ⟨ho3.trans hb2.os, ht3.trans hb2.tape, hp3.trans hb2.output, by rw [hz3]; exact hb2.size, fun k hk => (hk3 k (by omega)).trans (hb2.block k hk)⟩
  rw [show (([Value.int .i64 x].length : Nat) : Int) = 1 from rfl] at hcp1
  have hb3d := hb3.drew
  obtain ⟨Z2, hZ2⟩ : ∃ Z2, splice Z 0 [Value.int .i64 x] = Z2 := ⟨_, rfl⟩
  rw [hZ2] at hg3
  have hZ2l : Z2.length = c2 := by rw [← hZ2, length_splice _ _ _ (by have := HZ.out; simp; omega)]; exact HZ.out
  obtain ⟨w4, hcp2, hg4, hk4, hz4, ho4, ht4, hp4⟩ := copy_ex w3.drew 3 w.heap.size 1 c (c2 - 1) ⟨g, 0, none⟩ c c Z2 V hg3 (by rw [HVl.out]; exact (Nat.min_self c).symm) (HV.out _ hb3d) (by rw [HVl.out]; omega) HV1.out
  have hb4 : Below w.heap.size w w4 := ⟨ho4.trans hb3d.os, ht4.trans hb3d.tape, hp4.trans hb3d.output, by rw [hz4]; exact hb3d.size, fun k hk => (hk4 k (by omega)).trans (hb3d.block k hk)⟩
  rw [HVl.out] at hcp2
  have hown : IOwn w4 w.heap.size (.slice (some ⟨w.heap.size, 0, none⟩) (c + 1) c2) (x :: zs) := by
    have hxl : (x :: zs).length = c + 1 := by rw [List.length_cons, HN.out]
    have := IOwn.of_row (zs := x :: zs) (base := w.heap.size) (c := c2) hg4 (Nat.le_refl _) (by rw [hxl]; exact hge) hle (by rw [length_splice _ _ _ (by rw [HVl.out]; omega)]; exact hZ2l) (by
      rw [hxl, ← hZ2, List.map_cons, ← HVq.out]
      have hq := HVl.out
      have e1 : splice Z 0 [Value.int .i64 x] = Value.int .i64 x :: Z.drop 1 := by simp [splice]
      have e2 : splice (Value.int .i64 x :: Z.drop 1) 1 V = Value.int .i64 x :: (V ++ (Z.drop 1).drop V.length) := by
        simp only [splice, List.take_succ_cons, List.take_zero, List.singleton_append, Nat.add_comm 1, List.drop_succ_cons]
      rw [e1, e2, List.take_succ_cons]
      congr 1
      rw [← hq]
      exact List.take_left)
    rwa [hxl] at this
  clear hg2 hg3 hg4 hk3 hk4 ho3 ho4 ht3 ht4 hp3 hp4 hz3 hz4 hb2 hb3 hb3d hZ2l
  go_upto_region 11 with fail
  go_region
  go_wp2_with fail
  go_ret
  exact ⟨_, _, rfl, hown, hb4⟩

theorem rthen {α β : Type} {m : Sem α} {g : α → Sem β} {P : Program} {w w₁ : World} {a : α} (h : m.run P w = .ok a w₁) : (m >>= g).run P w = (g a).run P w₁ := by
  rw [Sem.run_bind, h]; rfl
theorem noView_cells (b off : Nat) (w : World) (cs : Array Value) (h : w.heap[b]? = some (.cells cs 3 (0, 0))) : (noView ⟨b, off, none⟩).run Tryz.prog w = .ok () w := by
  simp [noView, viewAt, World.shape?, h]
theorem mayBeOne_no (b o g p : Nat) (w : World) (cs ds : Array Value) (h : w.heap[b]? = some (.cells cs 3 (0, 0))) (h2 : w.heap[g]? = some (.cells ds 3 (0, 0))) : (mayBeOne ⟨b, o, none⟩ ⟨g, p, none⟩).run Tryz.prog w = .ok false w := by
  simp [mayBeOne, stringish, World.frozen?, World.shape?, h, h2]
set_option maxRecDepth 20000 in
theorem run_overlaps (vb g la lb ca cb ob : Nat) (w : World) (cv cur : Array Value) (hv : w.heap[vb]? = some (.cells cv 3 (0, 0))) (hg : w.heap[g]? = some (.cells cur 3 (0, 0))) (hne : vb ≠ g) :
    (Extern.SlicesOverlaps.overlaps #[45, 45] #[4] #[.slice (some ⟨vb, 0, none⟩) la ca, .slice (some ⟨g, ob, none⟩) lb cb]).run Tryz.prog w = .ok (.bool false) w := by
  have hs : ∀ w, (sizeOf 3).run Tryz.prog w = .ok 1 w := fun w => by kernel_rfl
  have hne' : ¬ vb = g := hne
  have hu : ∀ w, (underlying 45).run Tryz.prog w = .ok (.slice 3) w := fun w => by kernel_rfl
  refine (rthen (hu w)).trans ?_
  refine (rthen (hs w)).trans ?_
  have n1 := noView_cells vb 0 w cv hv
  have n2 := noView_cells g ob w cur hg
  have m1 := mayBeOne_no vb 0 g ob w cv cur hv hg
  have f1 : w.frozen? ⟨vb, 0, none⟩ = false := by simp [World.frozen?, hv]
  by_cases h0 : la = 0 ∨ lb = 0
  · have h0' : la = 0 ∨ lb = 0 ∨ (1 : Nat) = 0 := by omega
    simp
    intro h1 h2
    omega
  · simp [hne', n1, n2, m1, f1, Result.andThen]
theorem overlaps_no (vb g la lb ca cb ob : Nat) (w : World) (cv cur : Array Value) (hv : w.heap[vb]? = some (.cells cv 3 (0, 0))) (hg : w.heap[g]? = some (.cells cur 3 (0, 0))) (hne : vb ≠ g) :
    (callFunc 144 #[.slice (some ⟨vb, 0, none⟩) la ca, .slice (some ⟨g, ob, none⟩) lb cb]).run Tryz.prog w = .ok (.value (.bool false)) w := by
  rw [run_callFunc_extern Tryz.func144 (by kernel_rfl) (by kernel_rfl) (by kernel_rfl) (e := Extern.SlicesOverlaps.overlaps #[45, 45] #[4]) (by kernel_rfl), run_overlaps vb g la lb ca cb ob w cv cur hv hg hne]
  rfl

set_option maxHeartbeats 4000000 in
set_option maxRecDepth 20000 in
theorem insert0_room (zs : List Int) (hz : zs ≠ []) (hl : zs.length ≤ 1000) (g c base : Nat) (x : Int) (vb : Nat) (w : World) (cur : Array Value) (hh : w.heap[g]? = some (.cells cur 3 (0, 0))) (hbg : base ≤ g) (hc1 : zs.length + 1 ≤ c) (hc2 : c ≤ maxLen) (hcs : cur.size = c) (ht : cur.toList.take zs.length = zs.map (Value.int .i64)) (hv : Blk w vb 3 #[.int .i64 x]) (hne : vb ≠ g) :
    Calls Tryz.prog 109 #[.slice (some ⟨g, 0, none⟩) zs.length c, .int .i64 0, .slice (some ⟨vb, 0, none⟩) 1 1] w fun e w' => ∃ a' c', e = .returned (.slice a' (zs.length + 1) c') ∧ IOwn w' base (.slice a' (zs.length + 1) c') (x :: zs) ∧ w.grownBy w' (some g) := by
  obtain ⟨n, hn⟩ : ∃ n, zs.length = n := ⟨_, rfl⟩
  have hn1 : 1 ≤ n := by rw [← hn]; exact List.length_pos_iff.2 hz
  have HN : Hid (zs.length = n) := hn
  rw [hn] at hl hc1 ht ⊢
  have hgl : g < w.heap.size := (Array.getElem?_eq_some_iff.1 hh).1
  have hov := overlaps_no vb g 1 n 1 (c - 1) 1 w _ cur hv hh hne
  obtain ⟨V, hV⟩ : ∃ V : List Value, V = zs.map (Value.int .i64) := ⟨_, rfl⟩
  have hVl : V.length = n := by rw [hV, List.length_map]; exact HN.out
  have HV : Hid (∀ j v, V[j]? = some v → w.drew.cell? ((⟨g, 0, none⟩ : Addr).add j) = some v) := fun j v hj => by
    rw [addj]
    have hjl : j < n := by have := (List.getElem?_eq_some_iff.1 hj).1; omega
    rw [hV, ← ht, List.getElem?_take_of_lt hjl] at hj
    show w.cell? ⟨g, j, none⟩ = some v
    simp only [World.cell?, hh]
    simpa using hj
  have HV1 : Hid (∀ v ∈ V, v.oneCell' = true) := fun v hv => by
    rw [hV] at hv
    obtain ⟨y, _, rfl⟩ := List.mem_map.1 hv
    rfl
  have hcl : cur.toList.length = c := by rw [Array.length_toList]; exact hcs
  have hhd : w.drew.heap[g]? = some (.cells cur.toList.toArray 3 (0, 0)) := by rw [Array.toArray_toList]; exact hh
  obtain ⟨w3, hcp1, hg3, hk3, hz3, ho3, ht3, hp3⟩ := copy_ex w.drew 3 g 1 n (c - 1) ⟨g, 0, none⟩ (n + 1) c cur.toList V hhd (by rw [hVl]; exact (Nat.min_eq_right (by omega)).symm) HV.out (by rw [hVl, hcl]; omega) HV1.out
  rw [hVl] at hcp1
  have hX : ∀ j v, [Value.int .i64 x][j]? = some v → w3.cell? ((⟨vb, 0, none⟩ : Addr).add j) = some v := fun j v hj => by
    have hj0 : j = 0 := by have := (List.getElem?_eq_some_iff.1 hj).1; simp at this; omega
    subst hj0
    rw [add0, ← hj]
    exact (show Blk w3 vb 3 #[.int .i64 x] from (hk3 vb hne).trans hv).cell 0
  have hs3 : (splice cur.toList 1 V).length = c := by rw [length_splice _ _ _ (by rw [hVl, hcl]; omega)]; exact hcl
  obtain ⟨w4, hcp2, hg4, hk4, hz4, ho4, ht4, hp4⟩ := copy_ex w3 3 g 0 (n + 1) c ⟨vb, 0, none⟩ 1 1 (splice cur.toList 1 V) [.int .i64 x] hg3 (by simp) hX (by rw [hs3]; simp; omega) (by simp [Value.oneCell'])
  rw [show (([Value.int .i64 x].length : Nat) : Int) = 1 from rfl] at hcp2
  have hgr : w.grownBy w4 (some g) := ⟨ho4.trans ho3, ht4.trans ht3, hp4.trans hp3, by rw [hz4, hz3]; exact Nat.le_refl _, fun k _ hk => (hk4 k (fun e => hk (by rw [e]))).trans (hk3 k (fun e => hk (by rw [e])))⟩
  have hown : IOwn w4 base (.slice (some ⟨g, 0, none⟩) (n + 1) c) (x :: zs) := by
    have hxl : (x :: zs).length = n + 1 := by rw [List.length_cons, HN.out]
    have := IOwn.of_row (zs := x :: zs) (base := base) (c := c) hg4 hbg (by rw [hxl]; exact hc1) hc2 (by rw [length_splice _ _ _ (by rw [hs3]; simp; omega)]; exact hs3) (by
      rw [hxl, List.map_cons, ← hV]
      cases hcur : cur.toList with
      | nil => rw [hcur] at hcl; simp at hcl; omega
      | cons y Y =>
        have e1 : splice (splice (y :: Y) 1 V) 0 [Value.int .i64 x] = Value.int .i64 x :: (V ++ Y.drop V.length) := by
          simp [splice, Nat.add_comm 1]
        rw [e1, List.take_succ_cons]
        congr 1
        rw [← hVl]
        exact List.take_left)
    rwa [hxl] at this
  clear hn hz ht hcs hh hv hV hVl HV HV1 hcl hhd hg3 hg4 hk3 hk4 hz3 hz4 ho3 ho4 ht3 ht4 hp3 hp4 hX hs3
  go_enter Tryz.func109, Tryz.ntmps109
  go_upto_region 14 with fail
  go_upto_region 15 with fail
  go_region
  go_wp2_with fail
  go_ret
  exact ⟨_, _, rfl, hown, hgr⟩

theorem insert0_any (zs : List Int) (hl : zs.length ≤ 1000) (a : Option Addr) (c : Nat) (x : Int) (vb base : Nat) (w : World) (h : IOwn w base (.slice a zs.length c) zs) (hv : Blk w vb 3 #[.int .i64 x]) (hbase : base ≤ w.heap.size) (hvb : some vb ≠ (Value.slice a zs.length c).ownBlock) :
    Calls Tryz.prog 109 #[.slice a zs.length c, .int .i64 0, .slice (some ⟨vb, 0, none⟩) 1 1] w fun e w' => ∃ a' c', e = .returned (.slice a' (zs.length + 1) c') ∧ IOwn w' base (.slice a' (zs.length + 1) c') (x :: zs) ∧ w.grownBy w' (Value.slice a zs.length c).ownBlock := by
  by_cases hz : zs = []
  · subst hz
    exact insert0_nil a c x vb base w h hv hbase
  · obtain ⟨g, cur, rfl, hbg, hh, hc1, hc2, hcs, ht⟩ := h.row hz
    have hlp := List.length_pos_iff.2 hz
    have hob : (Value.slice (some ⟨g, 0, none⟩) zs.length c).ownBlock = some g := by simp [Value.ownBlock]
    by_cases hf : c < zs.length + 1
    · refine (insert0_grow zs hz hl g c x vb w cur hh hc1 hcs ht hv hf).mono ?_
      rintro e w' ⟨a', c', he, ho, hb⟩
      exact ⟨a', c', he, ho.mono hbase, ⟨hb.os, hb.tape, hb.output, hb.size, fun k hk _ => hb.block k hk⟩⟩
    · have hne : vb ≠ g := fun e => hvb (by rw [hob, e])
      rw [hob]
      exact insert0_room zs hz hl g c base x vb w cur hh hbg (by omega) hc2 hcs ht hv hne

end Go.Proofs.YtkjoomdglealmaaGreatDoor
