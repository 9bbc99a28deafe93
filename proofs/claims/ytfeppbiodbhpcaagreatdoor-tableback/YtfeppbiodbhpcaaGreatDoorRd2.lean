/- What table's readElements, readRow and readEntry do (contracts; nothing is claimed here). -/
import Derived.Test.YtfeppbiodbhpcaaGreatDoorRd
namespace Go.Proofs.YtfeppbiodbhpcaaGreatDoor
open Go.RowKit Go.Vf Go.Maps

theorem info49 : (Tryz.prog.info? 52).map (fun i => (i.zero, i.size, i.bytes)) = some (some (.agg #[.bool false, .int .i64 0, .int .i64 0, .int .i64 0]), 4, 32) := by kernel_rfl
/-- 'l = append(l, e)' of an element. -/
theorem wpList_append_el {w : World} {ops : Array Oper} {rest : List Oper} {o : Oper} {a : Act} {Q : Exit → Act → World → Prop} (hgd : o.guard = none) (s x : Operand)
    (ho : o.op = .call { callee := .builtin .append, args := #[s, x], argTypes := #[33, 33] })
    (base : Nat) (v : Value) (l : List El) (hs : a.eval s = v) (hown : EOwn w base v l) (va : Bool) (pr se te : Int) (hx : a.eval x = .slice (some ⟨w.heap.size, 0, none⟩) 1 1)
    (hlen : l.length ≤ 1099511627776) (hbase : base ≤ w.heap.size)
    (h : ∀ a' c' w', EOwn w' base (.slice a' (l.length + 1) c') (l ++ [⟨va, pr, se, te⟩]) → (w.alloc (.cells #[.bool va, .int .i64 pr, .int .i64 se, .int .i64 te] 52)).grownBy w' v.ownBlock → wpList Tryz.prog ops Q rest (a.put o.dst (.slice a' (l.length + 1) c')) w') :
    wpList Tryz.prog ops Q (o :: rest) a (w.alloc (.cells #[.bool va, .int .i64 pr, .int .i64 se, .int .i64 te] 52)) := by
  obtain ⟨i, hi, hz, hsz, hby⟩ := info_parts info49
  have hb := Blk.new w 52 #[.bool va, .int .i64 pr, .int .i64 se, .int .i64 te]
  refine wpList_append_own_at (P := Tryz.prog) _ hgd s x 33 ho base 52 i _ 4 32 Tryz.underlying33 hi hz hsz hby rfl (by decide) v l.length (elsV l) hs (World.ownsRow.alloc hown _) ⟨w.heap.size, 0, none⟩ 1 1 [.bool va, .int .i64 pr, .int .i64 se, .int .i64 te] hx (by rfl) ?_ ?_ ?_ ?_ ?_ ?_
  · intro j u hu
    match j, hu with
    | 0, hu => simp at hu; subst hu; exact hb.cell 0
    | 1, hu => simp at hu; subst hu; exact hb.cell 1
    | 2, hu => simp at hu; subst hu; exact hb.cell 2
    | 3, hu => simp at hu; subst hu; exact hb.cell 3
  · intro u hu; simp at hu; rcases hu with rfl | rfl | rfl | rfl <;> rfl
  · unfold maxLen; omega
  · omega
  · simp; omega
  · intro v' w' h1 h2 _ _
    obtain ⟨a', c', rfl⟩ := row_val h1
    refine h a' c' w' ?_ h2
    unfold EOwn
    rw [elsV_append, List.length_append]
    exact h1

/-- What a reader of elements leaves. -/
def ElsPost (w : World) (r : Option (List El)) (e : Ending) (w' : World) : Prop :=
  Below w.heap.size w w' ∧ match r with
  | none => e = .returned (.tuple #[.slice none 0 0, .bool false])
  | some l => ∃ a n cap, e = .returned (.tuple #[.slice a n cap, .bool true]) ∧ EOwn w' w.heap.size (.slice a n cap) l
theorem take17 (s : ByteArray) (k : Nat) (h : k + 17 ≤ s.size) : (s.extract k (k + 17)).data.toList = (s.data.toList.drop k).take 17 ∧ (s.extract k (k + 17)).size = 17 := by
  refine ⟨?_, ?_⟩
  · rw [extract_list]; congr 1; omega
  · rw [ByteArray.size_extract]; omega

set_option maxHeartbeats 2000000 in
set_option maxRecDepth 20000 in
theorem readElements_any (s : ByteArray) (m : Int) (w : World) (hs : s.size ≤ 65536) (hm : w.cell? ⟨0, 0, none⟩ = some (.int .i64 m)) :
    Calls Tryz.prog 45 #[.string s] w fun e w' => ElsPost w (elsR s.data.toList) e w' := by
  have hsl : s.data.toList.length = s.size := (Lib.size_eq s).symm
  have hlt0 : 0 < w.heap.size := World.block_lt_of_cell? w _ hm
  by_cases hemp : s.data.toList = []
  · have hemp' : s.toList.isEmpty = true := by rw [ByteArray.toList_eq]; simpa using hemp
    rw [show elsR s.data.toList = none by simp [elsR, hemp]]
    clear hemp
    go_enter Tryz.func45, Tryz.ntmps45
    go_wp2
    go_ret2
    exact ⟨Below.refl _ _, rfl⟩
  · have hemp' : s.toList.isEmpty = false := by rw [ByteArray.toList_eq]; simpa using hemp
    by_cases hbig : 272 < s.size
    · rw [show elsR s.data.toList = none by unfold elsR; rw [if_pos (.inr (.inl (by omega)))]]
      clear hemp
      go_enter Tryz.func45, Tryz.ntmps45
      go_wp2
      go_ret2
      exact ⟨Below.refl _ _, rfl⟩
    · by_cases hmod : s.size % 17 = 0
      · have hR : elsR s.data.toList = elsL (s.size / 17) s.data.toList := by
          unfold elsR
          rw [hsl, if_neg (by rintro (h | h | h) <;> first | exact hemp h | omega)]
        have bm : (((s.size : Int) % 17) != 0) = false := by
          rw [show ((s.size : Int) % 17) = 0 by omega]; rfl
        have bm' : ((Int.tmod (s.size : Int) 17) != 0) = false := by
          rw [Int.tmod_eq_emod_of_nonneg (by omega), show ((s.size : Int) % 17) = 0 by omega]; rfl
        generalize elsR s.data.toList = R at hR ⊢
        have HR : Hid (elsL ((s.size - 0) / 17) (s.data.toList.drop 0) = R) := by show _ = _; rw [hR]; rfl
        have HM : Hid (s.size % 17 = 0) := hmod
        clear hR hmod hemp
        go_enter Tryz.func45, Tryz.ntmps45
        go_wp2_with fail
        go_loopw [4, 5] (fun v i wr => ∃ (k : Nat) (acc : List El), k ≤ s.size ∧ k % 17 = 0 ∧ i = .int .i64 k ∧ EOwn wr w.heap.size v acc ∧ acc.length ≤ k ∧ Hid ((elsL ((s.size - k) / 17) (s.data.toList.drop k)).map (acc ++ ·) = R) ∧ Below w.heap.size w wr) (fun _ i _ => s.size - (intOf i).toNat)
        case atStart => exact ⟨0, [], by omega, by omega, rfl, EOwn.nil _ _, by simp, by show _ = _; rw [← HR.out]; simp, Below.refl _ _⟩
        case round =>
          clear HR
          obtain ⟨k, acc, hk, hk17, rfl, hown, hal, HK, hbel⟩ := hrel
          obtain ⟨av, cv, rfl⟩ := row_val hown
          have hM := HM.out
          by_cases hlt : k < s.size
          · have h17 : k + 17 ≤ s.size := by omega
            obtain ⟨ht, hts⟩ := take17 s k h17
            have hmr := (hbel.cell (p := ⟨0, 0, none⟩) hlt0).trans hm
            have hre := readElement_any (s.extract k (k + 17)) m wr hts hmr
            rw [ht] at hre
            have hstep : elsL ((s.size - k) / 17) (s.data.toList.drop k) = match elR ((s.data.toList.drop k).take 17) with
              | none => none
              | some e => match elsL ((s.size - (k + 17)) / 17) (s.data.toList.drop (k + 17)) with
                | none => none
                | some l => some (e :: l) := by
              rw [show (s.size - k) / 17 = (s.size - (k + 17)) / 17 + 1 by omega, elsL, List.drop_drop]
              rfl
            have hKK := HK.out
            rw [hstep] at hKK
            generalize elR ((s.data.toList.drop k).take 17) = E at hre hKK
            clear hstep HK ht hts hM
            cases E with
            | none =>
              have hRn : R = none := by rw [← hKK]; rfl
              clear hKK
              simp only [gotE] at hre
              go_wp2_with fail
              refine hre.mono ?_
              rintro _ w1 ⟨rfl, hb1⟩
              have hb2 := (hbel.trans (hb1.mono hbel.size)).alloc (hbel.trans (hb1.mono hbel.size)).size (.cells #[.bool false, .int .i64 0, .int .i64 0, .int .i64 0] 52)
              go_wp2
              go_ret2
              exact ⟨hb2, by rw [hRn]; rfl⟩
            | some e =>
              obtain ⟨va, pr, se, te⟩ := e
              have HK2 : Hid ((elsL ((s.size - (k + 17)) / 17) (s.data.toList.drop (k + 17))).map ((acc ++ [⟨va, pr, se, te⟩]) ++ ·) = R) := by
                show _ = _
                rw [← hKK]
                cases elsL ((s.size - (k + 17)) / 17) (s.data.toList.drop (k + 17)) <;> simp
              clear hKK
              simp only [gotE] at hre
              go_wp2_with fail
              refine hre.mono ?_
              rintro _ w1 ⟨rfl, hb1⟩
              have hbx : Below w.heap.size w w1 := hbel.trans (hb1.mono hbel.size)
              have hb2 := hbx.alloc hbx.size (.cells #[.bool va, .int .i64 pr, .int .i64 se, .int .i64 te] 52)
              have hown2 : EOwn (w1.alloc (.cells #[.bool va, .int .i64 pr, .int .i64 se, .int .i64 te] 52)) w.heap.size _ acc := World.ownsRow.alloc (own_after hown hb1) _
              have hB2 := Blk.new w1 52 #[.bool va, .int .i64 pr, .int .i64 se, .int .i64 te]
              go_upto_region 10 with fail
              generalize hW : w1.alloc (.cells #[.bool va, .int .i64 pr, .int .i64 se, .int .i64 te] 52) = W at hb2 hown2 hB2 ⊢
              clear hW
              obtain ⟨⟨d0, d1, d2, d3⟩, _⟩ := hB2.c4
              have hb3 := hb2.alloc hb2.size (.cells #[.bool va, .int .i64 pr, .int .i64 se, .int .i64 te] 52)
              go_wp2_with (first | (at_builtin; refine wpList_append_el rfl _ _ rfl w.heap.size _ acc rfl hown2 va pr se te rfl (by omega) hb2.size ?_; intro a' c' w3 hown3 hgr3))
              have hb4 : Below w.heap.size w w3 := hb3.grown hgr3 hb3.size (fun j hj => (own_ge hown2 hj).1)
              go_wp2
              go_roundw
              case rel => exact ⟨k + 17, acc ++ [⟨va, pr, se, te⟩], by omega, by omega, by simp, by simpa using hown3, by simp; omega, HK2, hb4⟩
              case measure => simp only [intOf]; omega
          · have hRs : R = some acc := by
              rw [← HK.out, show (s.size - k) / 17 = 0 by omega]
              simp [elsL]
            clear HK
            go_wp2
            go_ret2
            exact ⟨hbel, by rw [hRs]; exact ⟨_, _, _, rfl, hown⟩⟩
      · rw [show elsR s.data.toList = none by unfold elsR; rw [if_pos (.inr (.inr (by omega)))]]
        have bm : (((s.size : Int) % 17) != 0) = true := by
          rw [bne_iff_ne]; omega
        have bm' : ((Int.tmod (s.size : Int) 17) != 0) = true := by
          rw [Int.tmod_eq_emod_of_nonneg (by omega), bne_iff_ne]; omega
        clear hemp hmod
        go_enter Tryz.func45, Tryz.ntmps45
        go_wp2
        go_ret2
        exact ⟨Below.refl _ _, rfl⟩

end Go.Proofs.YtfeppbiodbhpcaaGreatDoor
