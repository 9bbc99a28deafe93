/- Contracts and lemmas (nothing is claimed here). -/
import Derived.Test.YtkcnjnccdafbfaaGreatDoorTRd
namespace Go.Proofs.YtkcnjnccdafbfaaGreatDoor
open Go.RowKit Go.Vf Go.Maps
theorem info49 : (Tryz.prog.info? 54).map (fun i => (i.zero, i.size, i.bytes)) = some (some (.agg #[.bool false, .int .i64 0, .int .i64 0, .int .i64 0]), 4, 32) := by kernel_rfl
theorem wpList_append_el {w : World} {ops : Array Oper} {rest : List Oper} {o : Oper} {a : Act} {Q : Exit → Act → World → Prop} (hgd : o.guard = none) (s x : Operand)
    (ho : o.op = .call { callee := .builtin .append, args := #[s, x], argTypes := #[43, 43] })
    (base : Nat) (v : Value) (l : List El) (hs : a.eval s = v) (hown : EOwn w base v l) (va : Bool) (pr se te : Int) (hx : a.eval x = .slice (some ⟨w.heap.size, 0, none⟩) 1 1)
    (hlen : l.length ≤ 1099511627776) (hbase : base ≤ w.heap.size)
    (h : ∀ a' c' w', EOwn w' base (.slice a' (l.length + 1) c') (l ++ [⟨va, pr, se, te⟩]) → (w.alloc (.cells #[.bool va, .int .i64 pr, .int .i64 se, .int .i64 te] 54)).grownBy w' v.ownBlock → wpList Tryz.prog ops Q rest (a.put o.dst (.slice a' (l.length + 1) c')) w') :
    wpList Tryz.prog ops Q (o :: rest) a (w.alloc (.cells #[.bool va, .int .i64 pr, .int .i64 se, .int .i64 te] 54)) := by
  obtain ⟨i, hi, hz, hsz, hby⟩ := info_parts info49
  have hb := Blk.new w 54 #[.bool va, .int .i64 pr, .int .i64 se, .int .i64 te]
  refine wpList_append_own_at (P := Tryz.prog) _ hgd s x 43 ho base 54 i _ 4 32 Tryz.underlying43 hi hz hsz hby rfl (by decide) v l.length (elsV l) hs (World.ownsRow.alloc hown _) ⟨w.heap.size, 0, none⟩ 1 1 [.bool va, .int .i64 pr, .int .i64 se, .int .i64 te] hx (by rfl) ?_ ?_ ?_ ?_ ?_ ?_
  · intro j u hu
    match j, hu with
    | 0, hu => simp at hu; subst hu; exact hb.cell 0
    | 1, hu => simp at hu; subst hu; exact hb.cell 1
    | 2, hu => simp at hu; subst hu; exact hb.cell 2
    | 3, hu => simp at hu; subst hu; exact hb.cell 3
  · intro u hu; simp at hu; rcases hu with rfl | rfl | rfl | rfl <;> rfl
  · unfold maxLen; omega
  · omega
  · simp; omega
  · intro v' w' h1 h2 _ _
    obtain ⟨a', c', rfl⟩ := row_val h1
    refine h a' c' w' ?_ h2
    unfold EOwn
    rw [elsV_append, List.length_append]
    exact h1
def ElsPost (w : World) (r : Option (List El)) (e : Ending) (w' : World) : Prop :=
  Below w.heap.size w w' ∧ match r with
  | none => e = .returned (.tuple #[.slice none 0 0, .bool false])
  | some l => ∃ a n cap, e = .returned (.tuple #[.slice a n cap, .bool true]) ∧ EOwn w' w.heap.size (.slice a n cap) l
theorem take17 (s : ByteArray) (k : Nat) (h : k + 17 ≤ s.size) : (s.extract k (k + 17)).data.toList = (s.data.toList.drop k).take 17 ∧ (s.extract k (k + 17)).size = 17 := by
  refine ⟨?_, ?_⟩
  · rw [extract_list]; congr 1; omega
  · rw [ByteArray.size_extract]; omega
set_option maxHeartbeats 2000000 in
set_option maxRecDepth 20000 in
theorem readElements_any (s : ByteArray) (m : Int) (w : World) (hs : s.size ≤ 65536) (hm : w.cell? ⟨0, 0, none⟩ = some (.int .i64 m)) :
    Calls Tryz.prog 117 #[.string s] w fun e w' => ElsPost w (elsR s.data.toList) e w' := by
  have hsl : s.data.toList.length = s.size := (Lib.size_eq s).symm
  have hlt0 : 0 < w.heap.size := World.block_lt_of_cell? w _ hm
  by_cases hemp : s.data.toList = []
  · have hemp' : s.toList.isEmpty = true := by rw [ByteArray.toList_eq]; simpa using hemp
    rw [show elsR s.data.toList = none by simp [elsR, hemp]]
    clear hemp
    go_enter Tryz.func117, Tryz.ntmps117
    go_wp2
    go_ret2
    exact ⟨Below.refl _ _, rfl⟩
  · have hemp' : s.toList.isEmpty = false := by rw [ByteArray.toList_eq]; simpa using hemp
    by_cases hbig : 272 < s.size
    · rw [show elsR s.data.toList = none by unfold elsR; rw [if_pos (.inr (.inl (by omega)))]]
      clear hemp
      go_enter Tryz.func117, Tryz.ntmps117
      go_wp2
      go_ret2
      exact ⟨Below.refl _ _, rfl⟩
    · by_cases hmod : s.size % 17 = 0
      · have hR : elsR s.data.toList = elsL (s.size / 17) s.data.toList := by
          unfold elsR
          rw [hsl, if_neg (by rintro (h | h | h) <;> first | exact hemp h | omega)]
        have bm : (((s.size : Int) % 17) != 0) = false := by
          rw [show ((s.size : Int) % 17) = 0 by omega]; rfl
        have bm' : ((Int.tmod (s.size : Int) 17) != 0) = false := by
          rw [Int.tmod_eq_emod_of_nonneg (by omega), show ((s.size : Int) % 17) = 0 by omega]; rfl
        generalize elsR s.data.toList = R at hR ⊢
        have HR : Hid (elsL ((s.size - 0) / 17) (s.data.toList.drop 0) = R) := by show _ = _; rw [hR]; rfl
        have HM : Hid (s.size % 17 = 0) := hmod
        clear hR hmod hemp
        go_enter Tryz.func117, Tryz.ntmps117
        go_wp2_with fail
        go_loopw [4, 5] (fun v i wr => ∃ (k : Nat) (acc : List El), k ≤ s.size ∧ k % 17 = 0 ∧ i = .int .i64 k ∧ EOwn wr w.heap.size v acc ∧ acc.length ≤ k ∧ Hid ((elsL ((s.size - k) / 17) (s.data.toList.drop k)).map (acc ++ ·) = R) ∧ Below w.heap.size w wr) (fun _ i _ => s.size - (intOf i).toNat)
        case atStart => exact ⟨0, [], by omega, by omega, rfl, EOwn.nil _ _, by simp, by show _ = _; rw [← HR.out]; simp, Below.refl _ _⟩
        case round =>
          clear HR
          obtain ⟨k, acc, hk, hk17, rfl, hown, hal, HK, hbel⟩ := hrel
          obtain ⟨av, cv, rfl⟩ := row_val hown
          have hM := HM.out
          by_cases hlt : k < s.size
          · have h17 : k + 17 ≤ s.size := by omega
            obtain ⟨ht, hts⟩ := take17 s k h17
            have hmr := (hbel.cell (p := ⟨0, 0, none⟩) hlt0).trans hm
            have hre := readElement_any (s.extract k (k + 17)) m wr hts hmr
            rw [ht] at hre
            have hstep : elsL ((s.size - k) / 17) (s.data.toList.drop k) = match elR ((s.data.toList.drop k).take 17) with
              | none => none
              | some e => match elsL ((s.size - (k + 17)) / 17) (s.data.toList.drop (k + 17)) with
                | none => none
                | some l => some (e :: l) := by
              rw [show (s.size - k) / 17 = (s.size - (k + 17)) / 17 + 1 by omega, elsL, List.drop_drop]
              rfl
            have hKK := HK.out
            rw [hstep] at hKK
            generalize elR ((s.data.toList.drop k).take 17) = E at hre hKK
            clear hstep HK ht hts hM
            cases E with
            | none =>
              have hRn : R = none := by rw [← hKK]; rfl
              clear hKK
              simp only [gotE] at hre
              go_wp2_with fail
              refine hre.mono ?_
              rintro _ w1 ⟨rfl, hb1⟩
              have hb2 := (hbel.trans (hb1.mono hbel.size)).alloc (hbel.trans (hb1.mono hbel.size)).size (.cells #[.bool false, .int .i64 0, .int .i64 0, .int .i64 0] 54)
              go_wp2
              go_ret2
              exact ⟨hb2, by rw [hRn]; rfl⟩
            | some e =>
              obtain ⟨va, pr, se, te⟩ := e
              have HK2 : Hid ((elsL ((s.size - (k + 17)) / 17) (s.data.toList.drop (k + 17))).map ((acc ++ [⟨va, pr, se, te⟩]) ++ ·) = R) := by
                show _ = _
                rw [← hKK]
                cases elsL ((s.size - (k + 17)) / 17) (s.data.toList.drop (k + 17)) <;> simp
              clear hKK
              simp only [gotE] at hre
              go_wp2_with fail
              refine hre.mono ?_
              rintro _ w1 ⟨rfl, hb1⟩
              have hbx : Below w.heap.size w w1 := hbel.trans (hb1.mono hbel.size)
              have hb2 := hbx.alloc hbx.size (.cells #[.bool va, .int .i64 pr, .int .i64 se, .int .i64 te] 54)
              have hown2 : EOwn (w1.alloc (.cells #[.bool va, .int .i64 pr, .int .i64 se, .int .i64 te] 54)) w.heap.size _ acc := World.ownsRow.alloc (own_after hown hb1) _
              have hB2 := Blk.new w1 54 #[.bool va, .int .i64 pr, .int .i64 se, .int .i64 te]
              go_upto_region 10 with fail
              generalize hW : w1.alloc (.cells #[.bool va, .int .i64 pr, .int .i64 se, .int .i64 te] 54) = W at hb2 hown2 hB2 ⊢
              clear hW
              obtain ⟨⟨d0, d1, d2, d3⟩, _⟩ := hB2.c4
              have hb3 := hb2.alloc hb2.size (.cells #[.bool va, .int .i64 pr, .int .i64 se, .int .i64 te] 54)
              go_wp2_with (first | (at_builtin; refine wpList_append_el rfl _ _ rfl w.heap.size _ acc rfl hown2 va pr se te rfl (by omega) hb2.size ?_; intro a' c' w3 hown3 hgr3))
              have hb4 : Below w.heap.size w w3 := hb3.grown hgr3 hb3.size (fun j hj => (own_ge hown2 hj).1)
              go_wp2
              go_roundw
              case rel => exact ⟨k + 17, acc ++ [⟨va, pr, se, te⟩], by omega, by omega, by simp, by simpa using hown3, by simp; omega, HK2, hb4⟩
              case measure => simp only [intOf]; omega
          · have hRs : R = some acc := by
              rw [← HK.out, show (s.size - k) / 17 = 0 by omega]
              simp [elsL]
            clear HK
            go_wp2
            go_ret2
            exact ⟨hbel, by rw [hRs]; exact ⟨_, _, _, rfl, hown⟩⟩
      · rw [show elsR s.data.toList = none by unfold elsR; rw [if_pos (.inr (.inr (by omega)))]]
        have bm : (((s.size : Int) % 17) != 0) = true := by
          rw [bne_iff_ne]; omega
        have bm' : ((Int.tmod (s.size : Int) 17) != 0) = true := by
          rw [Int.tmod_eq_emod_of_nonneg (by omega), bne_iff_ne]; omega
        clear hemp hmod
        go_enter Tryz.func117, Tryz.ntmps117
        go_wp2
        go_ret2
        exact ⟨Below.refl _ _, rfl⟩
theorem results71_run {tmps : Array Value} {w : World} {b : Nat} {a0 a1 a2 a3 a4 a5 a6 a7 v : Value} (h : Blk w b 96 #[a0, a1, a2, a3, a4, a5, a6, a7]) (t2 : tmps[2]?.getD undef = .pointer (some ⟨b, 0, none⟩)) (t3 : tmps[3]?.getD undef = v) :
    (results Tryz.f116 tmps).run Tryz.prog w = .ok (.tuple #[.agg #[a0, a1, a2, a3, a4, a5, a6, a7], v]) w := by
  obtain ⟨c0, c1, c2, c3, c4, c5, c6, c7, _⟩ := h.c8
  simp [results, Tryz.results116, go_sem, t2, t3, c0, c1, c2, c3, c4, c5, c6, c7]
theorem results53_run {tmps : Array Value} {w : World} {b : Nat} {a0 a1 a2 a3 a4 a5 a6 a7 u v : Value} (h : Blk w b 96 #[a0, a1, a2, a3, a4, a5, a6, a7]) (t2 : tmps[2]?.getD undef = .pointer (some ⟨b, 0, none⟩)) (t3 : tmps[3]?.getD undef = u) (t4 : tmps[4]?.getD undef = v) :
    (results Tryz.f94 tmps).run Tryz.prog w = .ok (.tuple #[.agg #[a0, a1, a2, a3, a4, a5, a6, a7], u, v]) w := by
  obtain ⟨c0, c1, c2, c3, c4, c5, c6, c7, _⟩ := h.c8
  simp [results, Tryz.results94, go_sem, t2, t3, t4, c0, c1, c2, c3, c4, c5, c6, c7]
def gotRow : Option (List Int) → Value
  | some p => .tuple #[rowA (padL p), .bool true]
  | none => .tuple #[rowA zero8, .bool false]
theorem gotR_row (zs : List Int) : gotR zs = gotRow (if rowB zs then some zs else none) := by
  unfold gotR
  cases rowB zs <;> rfl
theorem gotRow_form (o : Option (List Int)) (ho : ∀ p, o = some p → p.length ≤ 8) : ∃ a0 a1 a2 a3 a4 a5 a6 a7 : Int, gotRow o = .tuple #[.agg #[.int .i64 a0, .int .i64 a1, .int .i64 a2, .int .i64 a3, .int .i64 a4, .int .i64 a5, .int .i64 a6, .int .i64 a7], .bool o.isSome] := by
  cases o with
  | none => exact ⟨0, 0, 0, 0, 0, 0, 0, 0, rfl⟩
  | some p =>
    obtain ⟨a0, a1, a2, a3, a4, a5, a6, a7, h⟩ := eight (padL_len (ho p rfl))
    refine ⟨a0, a1, a2, a3, a4, a5, a6, a7, ?_⟩
    show Value.tuple #[.agg (rc (padL p)), .bool true] = _
    rw [h]; rfl
theorem rowB_len {p : List Int} (h : rowB p = true) : 1 ≤ p.length ∧ p.length ≤ 8 := by
  unfold rowB at h
  simp only [Bool.and_eq_true, decide_eq_true_eq] at h
  exact h.1
set_option maxHeartbeats 2000000 in
set_option maxRecDepth 20000 in
theorem readRow_any (s : ByteArray) (m : Int) (w : World) (hs : s.size ≤ 65536) (hm : w.cell? ⟨0, 0, none⟩ = some (.int .i64 m)) :
    Calls Tryz.prog 116 #[.string s] w fun e w' => e = .returned (gotRow (rowR s.data.toList)) ∧ Below w.heap.size w w' := by
  have hsl : s.data.toList.length = s.size := (Lib.size_eq s).symm
  have hlt0 : 0 < w.heap.size := World.block_lt_of_cell? w _ hm
  have hcl := cutL_len_le 32 s.data.toList
  have hcs := cutL_sizes 32 s.data.toList
  have hsp := fun (W : World) => split_any 32 s m W hs
  have hR : rowR s.data.toList = match ptsR (cutL 32 s.data.toList) with
    | none => none
    | some l => if rowB l then some l else none := rfl
  generalize rowR s.data.toList = R at hR ⊢
  generalize cutL 32 s.data.toList = C at hcl hcs hsp hR
  have HR : Hid (R = match ptsR C with
    | none => none
    | some l => if rowB l then some l else none) := hR
  clear hR
  have hB0 := Blk.new w 96 #[.int .i64 0, .int .i64 0, .int .i64 0, .int .i64 0, .int .i64 0, .int .i64 0, .int .i64 0, .int .i64 0]
  have hbel := (Below.refl w.heap.size w).alloc (Nat.le_refl _) (.cells #[.int .i64 0, .int .i64 0, .int .i64 0, .int .i64 0, .int .i64 0, .int .i64 0, .int .i64 0, .int .i64 0] 96)
  have hm1 := (hbel.cell (p := ⟨0, 0, none⟩) hlt0).trans hm
  go_enter Tryz.func116, Tryz.ntmps116
  go_upto_region 2 with fail
  generalize hW : (w.alloc (.cells #[.int .i64 0, .int .i64 0, .int .i64 0, .int .i64 0, .int .i64 0, .int .i64 0, .int .i64 0, .int .i64 0] 96)) = W at hB0 hbel hm1 ⊢
  clear hW
  have hwW := hB0.lt
  go_wp2_with fail
  refine (hsp W hm1).mono ?_
  rintro _ w1 ⟨rfl, hst, hb1, hsz1⟩
  have hbw1 : Below w.heap.size w w1 := hbel.trans (hb1.mono (by omega))
  have hB1 := hB0.below hb1 hwW
  have hW1 : W.heap.size < w1.heap.size := by omega
  clear hsz1 hB0 hbel hb1 hsp
  go_wp2_with fail
  go_loopw [4, 12] (fun v i wr => ∃ (k : Nat) (acc : List Int), k ≤ C.length ∧ i = .int .i64 k ∧ IOwn wr w1.heap.size v acc ∧ acc.length = k ∧ Hid (R = match (ptsR (C.drop k)).map (acc ++ ·) with
    | none => none
    | some l => if rowB l then some l else none) ∧ Below w1.heap.size w1 wr ∧ w1.heap.size ≤ wr.heap.size) (fun _ i _ => C.length - (intOf i).toNat)
  case atStart => exact ⟨0, [], by omega, rfl, IOwn.nil _ _, rfl, by show _ = _; rw [HR.out]; simp, Below.refl _ _, Nat.le_refl _⟩
  case round =>
    clear HR
    obtain ⟨k, acc, hk, rfl, hown, hal, HK, hbel, hsz⟩ := hrel
    have hbel0 : Below w.heap.size w wr := hbw1.trans (hbel.mono hbw1.size)
    have hBr : Blk wr w.heap.size 96 #[.int .i64 0, .int .i64 0, .int .i64 0, .int .i64 0, .int .i64 0, .int .i64 0, .int .i64 0, .int .i64 0] := hB1.below hbel (by omega)
    by_cases hlt : k < C.length
    · have hd : C.drop k = C[k] :: C.drop (k + 1) := List.drop_eq_getElem_cons hlt
      have hck := (hst.below hbel (by omega)).cell hlt
      have hkl := hcs C[k] (List.getElem_mem hlt)
      have hrp := fun w => readPoint_any6 (bsz C[k]) w (by simp [ByteArray.size]; omega)
      rw [show (bsz C[k]).data.toList = C[k] by simp] at hrp
      have HK1 : Hid (R = match (ptsR (C[k] :: C.drop (k + 1))).map (acc ++ ·) with
        | none => none
        | some l => if rowB l then some l else none) := by show _ = _; rw [← hd]; exact HK.out
      clear hd HK hkl
      generalize bsz C[k] = t at hck hrp
      generalize C[k] = c at hrp HK1
      cases hp : ptR c with
      | none =>
        have hRn : R = none := by rw [HK1.out, ptsR, hp]; rfl
        rw [hp] at hrp
        simp only [gotP] at hrp
        have hz8 := hBr.set8 rfl (.int .i64 0) (.int .i64 0) (.int .i64 0) (.int .i64 0) (.int .i64 0) (.int .i64 0) (.int .i64 0) (.int .i64 0)
        have hzb := below_set8 hbel0 (Nat.le_refl w.heap.size) (.int .i64 0) (.int .i64 0) (.int .i64 0) (.int .i64 0) (.int .i64 0) (.int .i64 0) (.int .i64 0) (.int .i64 0)
        obtain ⟨d0, d1, d2, d3, d4, d5, d6, d7, df⟩ := hBr.c8
        have f0' := df 0
        have f1' := df 1
        have f2' := df 2
        have f3' := df 3
        have f4' := df 4
        have f5' := df 5
        have f6' := df 6
        have f7' := df 7
        clear HK1 hp df hBr
        go_wp2_with fail
        refine (hrp _).mono ?_
        rintro _ w2 ⟨rfl, rfl⟩
        go_wp2_with fail
        refine bodyPost_ret (results71_run hz8 rfl rfl) rfl ?_
        exact ⟨by rw [hRn]; rfl, hzb⟩
      | some q =>
        rw [hp] at hrp
        simp only [gotP] at hrp
        have HK2 : Hid (R = match (ptsR (C.drop (k + 1))).map ((acc ++ [q]) ++ ·) with
          | none => none
          | some l => if rowB l then some l else none) := by
          show _ = _
          rw [HK1.out, ptsR, hp]
          cases ptsR (C.drop (k + 1)) <;> simp
        clear HK1 hp hBr
        go_wp2_with fail
        refine (hrp _).mono ?_
        rintro _ w2 ⟨rfl, rfl⟩
        go_wp2_with (first | (at_builtin; refine wpList_append_ints rfl _ _ rfl w1.heap.size _ acc rfl (World.ownsRow.alloc hown _) [q] ⟨wr.heap.size, 0, none⟩ 1 rfl (cell_one q wr) (by simp; omega) (by simp; omega) ?_; intro a' c' w3 hown3 hgr3 _ _))
        have hb3 : Below w1.heap.size wr w3 := ((Below.refl _ wr).alloc hsz _).grown hgr3 (by simp; omega) (fun j hj => (own_ge hown hj).1)
        have hs3 := hgr3.size
        go_wp2
        go_roundw
        case rel => exact ⟨k + 1, acc ++ [q], by omega, by simp, by first | exact hown3 | (rw [hal] at hown3; exact hown3), by simp [hal], HK2, hbel.trans hb3, by simp at hs3; omega⟩
        case measure => simp only [intOf]; omega
    · have hRs : R = if rowB acc then some acc else none := by rw [HK.out, List.drop_of_length_le (by omega)]; simp [ptsR]
      have hro := rowOf_any wr.heap.size _ acc wr (Nat.le_refl _) hown.ints (by omega)
      rw [gotR_row, ← hRs] at hro
      obtain ⟨a0, a1, a2, a3, a4, a5, a6, a7, hg⟩ := gotRow_form R (fun p hp => by
        rw [hRs] at hp
        split at hp
        · rename_i hb; cases hp; exact (rowB_len hb).2
        · cases hp)
      rw [hg] at hro
      have HG : Hid (gotRow R = .tuple #[.agg #[.int .i64 a0, .int .i64 a1, .int .i64 a2, .int .i64 a3, .int .i64 a4, .int .i64 a5, .int .i64 a6, .int .i64 a7], .bool R.isSome]) := hg
      generalize R.isSome = rb at hro HG
      obtain ⟨av, cv, rfl⟩ := hown.val
      clear HK hRs hg hal
      go_wp2_with fail
      refine hro.mono ?_
      rintro _ w2 ⟨rfl, hb2⟩
      have hbz : Below w.heap.size w w2 := hbel0.trans (hb2.mono hbel0.size)
      have hBz : Blk w2 w.heap.size 96 #[.int .i64 0, .int .i64 0, .int .i64 0, .int .i64 0, .int .i64 0, .int .i64 0, .int .i64 0, .int .i64 0] := hBr.below hb2 hBr.lt
      have hz8 := hBz.set8 rfl (.int .i64 a0) (.int .i64 a1) (.int .i64 a2) (.int .i64 a3) (.int .i64 a4) (.int .i64 a5) (.int .i64 a6) (.int .i64 a7)
      have hzb := below_set8 hbz (Nat.le_refl w.heap.size) (.int .i64 a0) (.int .i64 a1) (.int .i64 a2) (.int .i64 a3) (.int .i64 a4) (.int .i64 a5) (.int .i64 a6) (.int .i64 a7)
      obtain ⟨d0, d1, d2, d3, d4, d5, d6, d7, df⟩ := hBz.c8
      have f0' := df 0
      have f1' := df 1
      have f2' := df 2
      have f3' := df 3
      have f4' := df 4
      have f5' := df 5
      have f6' := df 6
      have f7' := df 7
      clear df hBr hBz
      go_wp2_with fail
      refine bodyPost_ret (results71_run hz8 rfl rfl) rfl ?_
      exact ⟨by rw [HG.out]; rfl, hzb⟩
def EntPost (w : World) (r : Option Ent) (e : Ending) (w' : World) : Prop :=
  Below w.heap.size w w' ∧ match r with
  | none => ∃ a0 a1 a2 a3 a4 a5 a6 a7 : Int, e = .returned (.tuple #[.agg #[.int .i64 a0, .int .i64 a1, .int .i64 a2, .int .i64 a3, .int .i64 a4, .int .i64 a5, .int .i64 a6, .int .i64 a7], .slice none 0 0, .bool false])
  | some x => ∃ a n cap, e = .returned (.tuple #[rowA (padL x.1), .slice a n cap, .bool true]) ∧ EOwn w' w.heap.size (.slice a n cap) x.2
theorem own_set8 {w : World} {base : Nat} {e : TypeId} {size : Nat} {v : Value} {k b : Nat} {xs : List Value} (h : w.ownsRow base e size v k xs) (hb : b < base) (a0 a1 a2 a3 a4 a5 a6 a7 : Value) :
    ((((((((w.setCell ⟨b, 0, none⟩ a0).setCell ⟨b, 1, none⟩ a1).setCell ⟨b, 2, none⟩ a2).setCell ⟨b, 3, none⟩ a3).setCell ⟨b, 4, none⟩ a4).setCell ⟨b, 5, none⟩ a5).setCell ⟨b, 6, none⟩ a6).setCell ⟨b, 7, none⟩ a7).ownsRow base e size v k xs :=
  own_setCell (own_setCell (own_setCell (own_setCell (own_setCell (own_setCell (own_setCell (own_setCell h (p := ⟨b, 0, none⟩) hb _) (p := ⟨b, 1, none⟩) hb _) (p := ⟨b, 2, none⟩) hb _) (p := ⟨b, 3, none⟩) hb _) (p := ⟨b, 4, none⟩) hb _) (p := ⟨b, 5, none⟩) hb _) (p := ⟨b, 6, none⟩) hb _) (p := ⟨b, 7, none⟩) hb _
def entO (a : Option (List Int)) (b : Option (List El)) : Option Ent := a.bind fun p => b.map fun l => (p, l)
theorem entR_O (s : List UInt8) : entR s = entO (rowR (cut1 59 s).1) (elsR (cut1 59 s).2) := by
  unfold entR entO
  cases rowR (cut1 59 s).1 with
  | none => rfl
  | some p => cases elsR (cut1 59 s).2 <;> rfl
set_option maxHeartbeats 2000000 in
set_option maxRecDepth 20000 in
theorem readEntry_any (s : ByteArray) (m : Int) (w : World) (hs : s.size ≤ 65536) (hm : w.cell? ⟨0, 0, none⟩ = some (.int .i64 m)) :
    Calls Tryz.prog 94 #[.string s] w fun e w' => EntPost w (entR s.data.toList) e w' := by
  have hsl : s.data.toList.length = s.size := (Lib.size_eq s).symm
  have hlt0 : 0 < w.heap.size := World.block_lt_of_cell? w _ hm
  have hl1 := cut1_len 59 s.data.toList
  have hcut := fun (W : World) => cut_any s m W hs
  have hR := entR_O s.data.toList
  have hok : ∀ x, entR s.data.toList = some x → x.1.length ≤ 8 := fun x hx => (rowB_len (entR_ok hx).1).2
  generalize entR s.data.toList = R at hR hok ⊢
  generalize (cut1 59 s.data.toList).1 = L at hl1 hcut hR
  generalize (cut1 59 s.data.toList).2 = Rr at hl1 hcut hR
  have hrow := fun (W : World) => readRow_any (bsz L) m W (by simp [ByteArray.size]; omega)
  have hels := fun (W : World) => readElements_any (bsz Rr) m W (by simp [ByteArray.size]; omega)
  rw [show (bsz L).data.toList = L by simp] at hrow
  rw [show (bsz Rr).data.toList = Rr by simp] at hels
  generalize bsz L = bl at hcut hrow
  generalize bsz Rr = br at hcut hels
  obtain ⟨a0, a1, a2, a3, a4, a5, a6, a7, hg⟩ := gotRow_form (rowR L) (fun p hp => (rowB_len (rowR_ok hp)).2)
  generalize rowR L = RO at hR hrow hg
  generalize elsR Rr = EO at hR hels
  rw [hg] at hrow
  have HG : Hid (gotRow RO = .tuple #[.agg #[.int .i64 a0, .int .i64 a1, .int .i64 a2, .int .i64 a3, .int .i64 a4, .int .i64 a5, .int .i64 a6, .int .i64 a7], .bool RO.isSome]) := hg
  clear hg
  have hB0 := Blk.new w 96 #[.int .i64 0, .int .i64 0, .int .i64 0, .int .i64 0, .int .i64 0, .int .i64 0, .int .i64 0, .int .i64 0]
  have hbel := (Below.refl w.heap.size w).alloc (Nat.le_refl _) (.cells #[.int .i64 0, .int .i64 0, .int .i64 0, .int .i64 0, .int .i64 0, .int .i64 0, .int .i64 0, .int .i64 0] 96)
  have hm1 := (hbel.cell (p := ⟨0, 0, none⟩) hlt0).trans hm
  have HR : Hid (R = entO RO EO) := hR
  clear hR hl1
  go_enter Tryz.func94, Tryz.ntmps94
  go_upto_region 1 with fail
  generalize hW : (w.alloc (.cells #[.int .i64 0, .int .i64 0, .int .i64 0, .int .i64 0, .int .i64 0, .int .i64 0, .int .i64 0, .int .i64 0] 96)) = W at hB0 hbel hm1 ⊢
  clear hW
  have hwW := hB0.lt
  go_wp2_with fail
  refine (hcut W hm1).mono ?_
  rintro _ w1 ⟨fb, rfl, hb1⟩
  have hbw1 : Below w.heap.size w w1 := hbel.trans (hb1.mono (by omega))
  have hB1 := hB0.below hb1 hwW
  have hm2 := (hbw1.cell (p := ⟨0, 0, none⟩) hlt0).trans hm
  clear hB0 hbel hb1 hcut hm1
  go_wp2_with fail
  refine (hrow w1 hm2).mono ?_
  rintro _ w2 ⟨rfl, hb2⟩
  have hbw2 : Below w.heap.size w w2 := hbw1.trans (hb2.mono hbw1.size)
  have hB2 := hB1.below hb2 hB1.lt
  have hBn := Blk.new w2 96 #[.int .i64 a0, .int .i64 a1, .int .i64 a2, .int .i64 a3, .int .i64 a4, .int .i64 a5, .int .i64 a6, .int .i64 a7]
  have hbw3 := hbw2.alloc hbw2.size (.cells #[.int .i64 a0, .int .i64 a1, .int .i64 a2, .int .i64 a3, .int .i64 a4, .int .i64 a5, .int .i64 a6, .int .i64 a7] 96)
  have hB3 : Blk (w2.alloc (.cells #[.int .i64 a0, .int .i64 a1, .int .i64 a2, .int .i64 a3, .int .i64 a4, .int .i64 a5, .int .i64 a6, .int .i64 a7] 96)) w.heap.size 96 _ := (Below.heap_alloc _ _ _ hB2.lt).trans hB2
  have hm3 := (hbw3.cell (p := ⟨0, 0, none⟩) hlt0).trans hm
  have hlt2 := hB2.lt
  clear hbw1 hB1 hm2 hb2 hrow hbw2 hB2
  cases hRO : RO with
  | none =>
    have hRn : R = none := by rw [HR.out, hRO]; rfl
    clear hRO HR HG
    simp only [Option.isSome]
    go_upto_region 3 with fail
    generalize hW : (w2.alloc (.cells #[.int .i64 a0, .int .i64 a1, .int .i64 a2, .int .i64 a3, .int .i64 a4, .int .i64 a5, .int .i64 a6, .int .i64 a7] 96)) = W3 at hBn hbw3 hB3 hm3 ⊢
    have hz8 := hB3.set8 rfl (.int .i64 0) (.int .i64 0) (.int .i64 0) (.int .i64 0) (.int .i64 0) (.int .i64 0) (.int .i64 0) (.int .i64 0)
    have hzb := below_set8 hbw3 (Nat.le_refl w.heap.size) (.int .i64 0) (.int .i64 0) (.int .i64 0) (.int .i64 0) (.int .i64 0) (.int .i64 0) (.int .i64 0) (.int .i64 0)
    obtain ⟨d0, d1, d2, d3, d4, d5, d6, d7, df⟩ := hB3.c8
    have f0' := df 0
    have f1' := df 1
    have f2' := df 2
    have f3' := df 3
    have f4' := df 4
    have f5' := df 5
    have f6' := df 6
    have f7' := df 7
    clear df hB3 hW
    go_wp2_with fail
    refine bodyPost_ret (results53_run hz8 rfl rfl rfl) rfl ?_
    exact ⟨hzb, by rw [hRn]; exact ⟨_, _, _, _, _, _, _, _, rfl⟩⟩
  | some p =>
    have hRp : R = entO (some p) EO := by rw [HR.out, hRO]
    have hpad : Hid (rowA (padL p) = .agg #[.int .i64 a0, .int .i64 a1, .int .i64 a2, .int .i64 a3, .int .i64 a4, .int .i64 a5, .int .i64 a6, .int .i64 a7]) := by
      have h := HG.out
      rw [hRO] at h
      unfold gotRow at h
      simp only [Value.tuple.injEq, Array.mk.injEq, List.cons.injEq] at h
      exact h.1
    have HRp : Hid (R = entO (some p) EO) := hRp
    clear hRO HR HG hRp
    simp only [Option.isSome]
    go_upto_region 3 with fail
    generalize hW : (w2.alloc (.cells #[.int .i64 a0, .int .i64 a1, .int .i64 a2, .int .i64 a3, .int .i64 a4, .int .i64 a5, .int .i64 a6, .int .i64 a7] 96)) = W3 at hBn hbw3 hB3 hm3 ⊢
    have hsz3 : w2.heap.size < W3.heap.size := hBn.lt
    clear hW
    go_wp2_with fail
    refine (hels W3 hm3).mono ?_
    rintro _ w4 ⟨hb4, hpost⟩
    have hbw4 : Below w.heap.size w w4 := hbw3.trans (hb4.mono hbw3.size)
    have hB4 := hB3.below hb4 hB3.lt
    have hBn4 := hBn.below hb4 hBn.lt
    obtain ⟨e0, e1, e2, e3, e4, e5, e6, e7, _⟩ := hBn4.c8
    have hz8 := hB4.set8 rfl (.int .i64 a0) (.int .i64 a1) (.int .i64 a2) (.int .i64 a3) (.int .i64 a4) (.int .i64 a5) (.int .i64 a6) (.int .i64 a7)
    have hzb := below_set8 hbw4 (Nat.le_refl w.heap.size) (.int .i64 a0) (.int .i64 a1) (.int .i64 a2) (.int .i64 a3) (.int .i64 a4) (.int .i64 a5) (.int .i64 a6) (.int .i64 a7)
    have hz9 := below_set8 (Below.refl w.heap.size w4) (Nat.le_refl w.heap.size) (.int .i64 a0) (.int .i64 a1) (.int .i64 a2) (.int .i64 a3) (.int .i64 a4) (.int .i64 a5) (.int .i64 a6) (.int .i64 a7)
    obtain ⟨d0, d1, d2, d3, d4, d5, d6, d7, df⟩ := hB4.c8
    have f0' := df 0
    have f1' := df 1
    have f2' := df 2
    have f3' := df 3
    have f4' := df 4
    have f5' := df 5
    have f6' := df 6
    have f7' := df 7
    have hne : w.heap.size ≠ w2.heap.size := by omega
    have hne' : ¬ w2.heap.size = w.heap.size := by omega
    cases EO with
    | none =>
      obtain rfl := hpost
      have hRn : R = none := HRp.out
      clear df hB3 hB4 hBn hBn4 hels HRp
      go_wp2_with fail
      refine bodyPost_ret (results53_run hz8 rfl rfl rfl) rfl ?_
      exact ⟨hzb, by rw [hRn]; exact ⟨_, _, _, _, _, _, _, _, rfl⟩⟩
    | some l =>
      obtain ⟨ae, ne, ce, rfl, hown⟩ := hpost
      have hRs : R = some (p, l) := HRp.out
      clear df hB3 hBn hBn4 hels HRp
      go_wp2_with fail
      refine bodyPost_ret (results53_run hz8 rfl rfl rfl) rfl ?_
      refine ⟨hzb, ?_⟩
      rw [hRs]
      refine ⟨_, _, _, by rw [hpad.out]; rfl, ?_⟩
      exact ownsRow_mono (own_set8 hown (show w.heap.size < W3.heap.size by omega) _ _ _ _ _ _ _ _) (by omega)
end Go.Proofs.YtkcnjnccdafbfaaGreatDoor
