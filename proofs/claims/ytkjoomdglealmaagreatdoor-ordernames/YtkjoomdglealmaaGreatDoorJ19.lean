/- Contracts and lemmas (nothing is claimed here). -/
import Derived.Test.YtkjoomdglealmaaGreatDoorJ18
import Derived.Test.YtkjoomdglealmaaGreatDoorIns
import Derived.Test.YtkjoomdglealmaaGreatDoorJ4
import Derived.Test.YtkjoomdglealmaaGreatDoorJ12
namespace Go.Proofs.YtkjoomdglealmaaGreatDoor
open Go.RowKit Go.Vf

theorem own_blocks {w w' : World} {base : Nat} {e : TypeId} {size : Nat} {v : Value} {k : Nat} {xs : List Value} (h : w.ownsRow base e size v k xs) (hb : ∀ j, v.ownBlock = some j → w'.heap[j]? = w.heap[j]?) : w'.ownsRow base e size v k xs := by
  obtain ⟨h1, h2⟩ := h
  refine ⟨h1, ?_⟩
  rcases h2 with h2 | ⟨g, cap, cur, e1, e2, e3, e4⟩
  · exact .inl h2
  · exact .inr ⟨g, cap, cur, e1, e2, (hb g (by rw [e1]; simp [Value.ownBlock])).trans e3, e4⟩
theorem WhyAt.blocks {w w' : World} {why : Value} {y : Int} (h : WhyAt w why y) (hb : ∀ G a n c, why = .iface 98 (.pointer (some ⟨G, 0, none⟩)) → Blk w G 100 #[.int .i64 y, .int .i64 0, .slice a n c, .nilIface] → w'.heap[G]? = w.heap[G]?) : WhyAt w' why y := by
  rcases h with h | h | ⟨h0, F, a, n, c, h1, h2⟩
  · exact .inl h
  · exact .inr (.inl h)
  · exact .inr (.inr ⟨h0, F, a, n, c, h1, (hb F a n c h1 h2).trans h2⟩)
theorem WhyAt.old {w w' : World} {why : Value} {y : Int} (h : WhyAt w why y) (hb : Below w.heap.size w w') : WhyAt w' why y := h.blocks fun G _ _ _ _ hG => hb.block G hG.lt

theorem asW_below (w : World) (t e : Addr) : Below w.heap.size w (asW w t e) := by
  unfold asW
  exact ((((Below.refl w.heap.size w).alloc (Nat.le_refl _) _).alloc (by simp) _).alloc (by simp; omega) _).alloc (by simp; omega) _
theorem as_after {y : World} {T F : Nat} {base : Nat} {c a : Int} {P : List Int} {why : Value} {yy : Int} {pa : Option Addr} {pc : Nat} (hT : Blk y T 98 #[.pointer none]) (hTb : T < base) (hbF : base ≤ F) (hF : Blk y F 100 #[.int .i64 c, .int .i64 a, .slice pa P.length pc, why]) (hO : IOwn y base (.slice pa P.length pc) P) (hW : WhyAt y why yy) :
    let w5 := (asW y ⟨T, 0, none⟩ ⟨F, 0, none⟩).setCell ⟨T, 0, none⟩ (.pointer (some ⟨F, 0, none⟩))
    Blk w5 T 98 #[.pointer (some ⟨F, 0, none⟩)] ∧ Blk w5 F 100 #[.int .i64 c, .int .i64 a, .slice pa P.length pc, why] ∧ IOwn w5 base (.slice pa P.length pc) P ∧ WhyAt w5 why yy ∧ Below T y w5 := by
  intro w5
  have hA := asW_below y ⟨T, 0, none⟩ ⟨F, 0, none⟩
  have hb : ∀ k, k ≠ T → k < y.heap.size → w5.heap[k]? = y.heap[k]? := fun k h1 h2 => (Below.heap_setCell _ _ _ _ h1).trans (hA.block k h2)
  refine ⟨?_, ?_, ?_, ?_, ?_⟩
  · have := (hT.old hA).set 0 (.pointer (some ⟨F, 0, none⟩))
    simpa using this
  · exact (hb F (by omega) hF.lt).trans hF
  · refine own_blocks hO fun j hj => hb j ?_ ?_
    · have := (own_ge hO hj).1; omega
    · obtain ⟨_, cs, f, hh⟩ := own_ge hO hj
      exact (Array.getElem?_eq_some_iff.1 hh).1
  · refine hW.blocks fun G _ _ _ _ hG => hb G ?_ hG.lt
    intro e
    rw [e, Blk, show y.heap[T]? = _ from hT] at hG
    cases hG
  · exact (hA.mono (Nat.le_of_lt hT.lt)).setCell (p := ⟨T, 0, none⟩) (Nat.le_refl _) _
theorem after_insert {w w6 w7 : World} {T F base : Nat} {c a : Int} {P : List Int} {why : Value} {yy : Int} {pa : Option Addr} {pc : Nat} {a7 : Option Addr} {c7 : Nat} {j : Int} (hb06 : Below w.heap.size w w6) (hW : WhyAt w6 why yy) (hT : Blk w6 T 98 #[.pointer (some ⟨F, 0, none⟩)]) (hF : Blk w6 F 100 #[.int .i64 c, .int .i64 a, .slice pa P.length pc, why]) (hbF : w.heap.size ≤ F ∧ w.heap.size ≤ base) (hO : IOwn w6 base (.slice pa P.length pc) P) (_hne : some F ≠ (Value.slice pa P.length pc).ownBlock) (h7 : IOwn w7 base (.slice a7 (P.length + 1) c7) (j :: P)) (hg : w6.grownBy w7 (Value.slice pa P.length pc).ownBlock) :
    Blk w7 T 98 #[.pointer (some ⟨F, 0, none⟩)] ∧ Blk w7 F 100 #[.int .i64 c, .int .i64 a, .slice pa P.length pc, why] ∧ ErrPost (some (c, a, j :: P, yy)) w (.returned (.iface 98 (.pointer (some ⟨F, 0, none⟩)))) (w7.setCell ⟨F, 2, none⟩ (.slice a7 (P.length + 1) c7)) := by
  have hk : ∀ k t cs, Blk w6 k t cs → t ≠ 3 → w7.heap[k]? = w6.heap[k]? := fun k t cs hB ht => hg.block k hB.lt fun e => by
    obtain ⟨_, cs', f, hh⟩ := own_ge hO e.symm
    rw [show w6.heap[k]? = _ from hB] at hh
    cases hh; exact ht rfl
  have hT7 : Blk w7 T 98 #[.pointer (some ⟨F, 0, none⟩)] := (hk T _ _ hT (by decide)).trans hT
  have hF7 : Blk w7 F 100 #[.int .i64 c, .int .i64 a, .slice pa P.length pc, why] := (hk F _ _ hF (by decide)).trans hF
  have hnF : ∀ i, (Value.slice a7 (P.length + 1) c7).ownBlock = some i → i ≠ F := fun i hi e => by
    obtain ⟨_, cs', f, hh⟩ := own_ge h7 hi
    rw [e, show w7.heap[F]? = _ from hF7] at hh
    cases hh
  refine ⟨hT7, hF7, ?_, .iface 98 (.pointer (some ⟨F, 0, none⟩)), why, rfl, ⟨F, a7, c7, rfl, hbF.1, ?_, ?_, ?_⟩, ?_⟩
  · refine (hb06.grown hg hb06.size fun k hk => ?_).setCell (p := ⟨F, 2, none⟩) hbF.1 _
    have := (own_ge hO hk).1; omega
  · have := hF7.set 2 (.slice a7 (P.length + 1) c7)
    simpa using this
  · have q : IOwn (w7.setCell ⟨F, 2, none⟩ (.slice a7 (P.length + 1) c7)) base (.slice a7 (P.length + 1) c7) (j :: P) := own_blocks h7 fun i hi => Below.heap_setCell w7 ⟨F, 2, none⟩ _ i (hnF i hi)
    exact q.mono hbF.2
  · intro e; exact hnF F e.symm rfl
  · refine hW.blocks fun G a' n' c' hwy hG => ?_
    have hGF : G ≠ F := fun e => by
      have hG' : w6.heap[F]? = _ := e ▸ hG
      rw [show w6.heap[F]? = _ from hF] at hG'
      have hq : #[Value.int .i64 c, .int .i64 a, .slice pa P.length pc, why] = #[.int .i64 yy, .int .i64 0, .slice a' n' c', .nilIface] := by injection hG' with hG'; injection hG'
      have hwhy : why = .nilIface := by have hq' := congrArg Array.toList hq; simp only [List.cons.injEq] at hq'; exact hq'.2.2.2.1
      rw [hwhy] at hwy; cases hwy
    exact (Below.heap_setCell _ _ _ _ hGF).trans (hk G _ _ hG (by decide))

set_option maxHeartbeats 4000000 in
set_option maxRecDepth 20000 in
theorem unfitItems_any (U : ByteArray → Int) (l : List Fld) (t : List Prt) (hll : l.length ≤ 17179869184) (htl : t.length ≤ 281474976710656) (a : Option Addr) (c lo n₀ g : Nat) (ta : Option Addr) (tc : Nat) (d : Value) (V : Nat → Value) (lo' n₁ : Nat) (w : World) (hn₀ : n₀ ≤ w.heap.size) (hn₁ : n₁ ≤ w.heap.size) (hin : FIn w lo n₀ l a)
    (hB : Blk w g 116 #[.slice ta t.length tc, d]) (hcl : ∀ j, j < t.length → ∃ h off, ta = some ⟨h, off, none⟩ ∧ lo' ≤ h ∧ h < n₁ ∧ w.cell? ⟨h, off + j, none⟩ = some (V j)) (hV : ∀ j (hj : j < t.length), VIn w lo' n₁ (V j) t[j])
    (hG : w.cell? ⟨0, 0, none⟩ = some (.iface 215 (.agg #[hnd 42]))) (hG0 : 0 < w.heap.size)
    (ih : ∀ j (h1 : j < l.length) (h2 : j < t.length) (aj : Option Addr) (cj : Nat) (v : Value) (W : World), Below w.heap.size w W → l[j].fields.length ≤ cj → FIn W lo n₀ l[j].fields aj → VIn W lo' n₁ v t[j] → Calls Tryz.prog 46 #[fV l[j].own aj l[j].fields.length cj, v] W (ErrPost (unf U l[j] t[j]) W))
    (hP : ∀ j (h1 : j < l.length) (h2 : j < t.length) cc aa P y, unf U l[j] t[j] = some (cc, aa, P, y) → P.length ≤ 1000) :
    Calls Tryz.prog 72 #[.slice a l.length c, .iface 112 (.pointer (some ⟨g, 0, none⟩))] w (ErrPost (if t.length ≠ l.length then some (122, 0, [], 0) else unfL U 0 l t) w) := by
  have hmL := mLenU ⟨g, 0, none⟩
  have hlen := lenTup g ta t.length tc d w hB
  by_cases hne : t.length ≠ l.length
  · rw [if_pos hne]
    have hF := fault_new w w (Below.refl _ _) 122 0 .nilIface
    have hb := (Below.refl w.heap.size w).alloc (Nat.le_refl _) (.cells #[.int .i64 122, .int .i64 0, .slice none 0 0, .nilIface] 100)
    clear ih hP hcl hV hin hB
    generalize l.length = ln at *
    generalize t.length = tn at *
    have z1 : ((tn : Int) != (ln : Int)) = true := bne_iff_ne.2 (by omega)
    have z2 : (decide ((tn : Int) = (ln : Int))) = false := decide_eq_false (by omega)
    clear hne
    go_enter Tryz.func72, Tryz.ntmps72
    go_wp2_with fail
    refine hlen.mono ?_
    rintro _ _ ⟨rfl, rfl⟩
    go_wp2_with fail
    go_ret
    exact ⟨hb, _, _, rfl, hF, .inl ⟨rfl, rfl⟩⟩
  have heq : t.length = l.length := Classical.byContradiction hne
  rw [if_neg hne]
  obtain ⟨R, hR⟩ : ∃ R, unfL U 0 l t = R := ⟨_, rfl⟩
  rw [hR]
  have HR : Hid (R = unfL U 0 (l.drop 0) (t.drop 0)) := hR.symm
  obtain ⟨ln, hln⟩ : ∃ ln, l.length = ln := ⟨_, rfl⟩
  have HL : Hid (l.length = ln) := hln
  have HT : Hid (t.length = ln) := heq.trans hln
  rw [HT.out] at hlen hB htl
  rw [hln] at hll ⊢
  clear hR hne heq hln
  go_enter Tryz.func72, Tryz.ntmps72
  go_wp2_with fail
  refine hlen.mono ?_
  rintro _ w' ⟨rfl, hw'⟩
  rw [hw']
  clear hlen hmL hw'
  go_wp2_with fail
  go_loopw [18] (fun i wr => ∃ (j : Nat), j ≤ ln ∧ i = .int .i64 j ∧ Hid (R = unfL U j (l.drop j) (t.drop j)) ∧ Below w.heap.size w wr) (fun i _ => ln - (intOf i).toNat)
  case atStart => exact ⟨0, by omega, rfl, HR, Below.refl _ _⟩
  case round =>
    clear HR
    obtain ⟨j, hj, rfl, HS, hbel⟩ := hrel
    have hsz := hbel.size
    by_cases hlt : j < ln
    · have hlt1 : j < l.length := by rw [HL.out]; exact hlt
      have hlt2 : j < t.length := by rw [HT.out]; exact hlt
      obtain ⟨bb, off, aj, cj, ha, _, hbn, hrow, hinj, hcj⟩ := (hin.keep hbel hn₀).atC hlt1
      subst ha
      obtain ⟨r0, r1, r2, r3, r4, r5, r6, r7, r8, r9, r10, r11, r12, r13⟩ := hrow
      obtain ⟨hh, hoff, hta, _, hhn, hcv⟩ := hcl j hlt2
      have hvj := hV j hlt2
      have hihj := ih j hlt1 hlt2 aj cj
      have hPj := hP j hlt1 hlt2
      obtain ⟨Z, hZ⟩ : ∃ Z, unf U l[j] t[j] = Z := ⟨_, rfl⟩
      have HZn : Hid (Z = none → R = unfL U (j + 1) (l.drop (j + 1)) (t.drop (j + 1))) := fun h => by
        rw [HS.out, List.drop_eq_getElem_cons hlt1, List.drop_eq_getElem_cons hlt2, unfL_on (hZ.trans h)]
      have HZs : Hid (∀ r, Z = some r → R = ahead j (some r)) := fun r h => by
        rw [HS.out, List.drop_eq_getElem_cons hlt1, List.drop_eq_getElem_cons hlt2, unfL_hit (hZ.trans h)]
      rw [hZ] at hihj hPj
      generalize l[j] = x at *
      generalize t[j] = z at *
      generalize V j = vj at *
      have hb1 := (Below.refl wr.heap.size wr).alloc (Nat.le_refl _) (.cells #[.string x.own.name, .int .u8 x.own.kind, .bool x.own.down, .int .u8 x.own.nulls, .bool x.own.bnd, .bool x.own.ln, .string x.own.lm, .bool x.own.hn, .string x.own.hm, .int .i64 x.own.most, .int .i64 x.own.str, .bool x.own.shf, .bool x.own.bck, .slice aj x.fields.length cj] 57)
      have hN1 := Blk.new wr 57 #[.string x.own.name, .int .u8 x.own.kind, .bool x.own.down, .int .u8 x.own.nulls, .bool x.own.bnd, .bool x.own.ln, .string x.own.lm, .bool x.own.hn, .string x.own.hm, .int .i64 x.own.most, .int .i64 x.own.str, .bool x.own.shf, .bool x.own.bck, .slice aj x.fields.length cj]
      have HPj : Hid (∀ cc aa P y, Z = some (cc, aa, P, y) → P.length ≤ 1000) := hPj
      clear ih hP hcl hV hin HS hZ hPj
      go_upto_region 6 with fail
      generalize wr.alloc (.cells #[.string x.own.name, .int .u8 x.own.kind, .bool x.own.down, .int .u8 x.own.nulls, .bool x.own.bnd, .bool x.own.ln, .string x.own.lm, .bool x.own.hn, .string x.own.hm, .int .i64 x.own.most, .int .i64 x.own.str, .bool x.own.shf, .bool x.own.bck, .slice aj x.fields.length cj] 57) = w1 at *
      have hb12 := (Below.refl w1.heap.size w1).alloc (Nat.le_refl _) (.cells #[.pointer none] 98)
      have hT2 := Blk.new w1 98 #[.pointer none]
      have hs12 : w1.heap.size ≤ (w1.alloc (.cells #[.pointer none] 98)).heap.size := hb12.size
      have HS2 : Hid ((w1.alloc (.cells #[.pointer none] 98)).heap.size = w1.heap.size + 1) := alloc_size w1 (.cells #[.pointer none] 98)
      go_upto_region 7 with fail
      generalize w1.alloc (.cells #[.pointer none] 98) = w2 at hb12 hT2 hs12 HS2 ⊢
      have hbw1 : Below w.heap.size w w1 := hbel.trans (hb1.mono hbel.size)
      have hbw2 : Below w.heap.size w w2 := hbw1.trans (hb12.mono hbw1.size)
      have hd2 : Below w2.heap.size w2 w2.drew := (Below.refl _ _).drew
      have hat : ∀ y, Below w2.heap.size w2 y → Calls Tryz.prog 335 #[.pointer (some ⟨g, 0, none⟩), .int .i64 (j : Int)] y fun e w' => e = .returned vj ∧ w' = y := fun y hy => by
        have hby := hbw2.trans (hy.mono hbw2.size)
        subst hta
        exact atTup g hh hoff ln tc j vj d hlt htl y (hB.old hby) ((hby.cell (p := ⟨hh, hoff + j, none⟩) (by show hh < _; omega)).trans hcv)
      have hun : ∀ y, Below w2.heap.size w2 y → Calls Tryz.prog 46 #[.agg #[.string x.own.name, .int .u8 x.own.kind, .bool x.own.down, .int .u8 x.own.nulls, .bool x.own.bnd, .bool x.own.ln, .string x.own.lm, .bool x.own.hn, .string x.own.hm, .int .i64 x.own.most, .int .i64 x.own.str, .bool x.own.shf, .bool x.own.bck, .slice aj x.fields.length cj], vj] y (ErrPost Z y) := fun y hy => by
        have hby := hbw2.trans (hy.mono hbw2.size)
        have h1y : Below wr.heap.size wr y := hb1.trans ((hb12.trans (hy.mono hs12)).mono hb1.size)
        exact hihj vj y hby hcj (hinj.keep h1y (by omega)) (hvj.old hby hn₁)
      have hmA := mAtU ⟨g, 0, none⟩
      have hGy : ∀ y, Below w2.heap.size w2 y → y.cell? ⟨0, 0, none⟩ = some (.iface 215 (.agg #[hnd 42])) := fun y hy => ((hbw2.trans (hy.mono hbw2.size)).cell (p := ⟨0, 0, none⟩) hG0).trans hG
      clear hihj hinj hvj hcv r0 r1 r2 r3 r4 r5 r6 r7 r8 r9 r10 r11 r12 r13 hB
      refine wp_region_held_drew (S := fun x => Below w1.heap.size w1 x) (by kernel_rfl) ((hb12.trans ((Below.refl w2.heap.size w2).mono hs12)).drew) (fun hHeld => ?_)
      refine wpAnyH_takeD (i := 0) (some 23) (v := .agg #[.string x.own.name, .int .u8 x.own.kind, .bool x.own.down, .int .u8 x.own.nulls, .bool x.own.bnd, .bool x.own.ln, .string x.own.lm, .bool x.own.hn, .string x.own.hm, .int .i64 x.own.most, .int .i64 x.own.str, .bool x.own.shf, .bool x.own.bck, .slice aj x.fields.length cj]) rfl rfl (by kernel_rfl) (by kernel_rfl) (by kernel_rfl) (fun _ _ _ h => h) (Or.inl ⟨by kernel_rfl, ?hy0⟩) (by assumption) ?rest0
      case hy0 => (intro x hSx; obtain ⟨p0, p1, p2, p3, p4, p5, p6, p7, p8, p9, p10, p11, p12, p13⟩ := (hN1.old hSx).c14; (try dsimp only at hSx); go_simp; first | done | with_reducible rfl)
      try simp only [Act.put, List.setIfInBounds_toArray, List.set_cons_zero, List.set_cons_succ]
      refine wpAnyH_takeD (i := 1) (some 24) (v := .iface 112 (.pointer (some ⟨g, 0, none⟩))) rfl rfl (by kernel_rfl) (by kernel_rfl) (by kernel_rfl) (fun _ _ _ h => h) (Or.inl ⟨by kernel_rfl, ?hy1⟩) (by assumption) ?rest1
      case hy1 => (intro x hSx; (try dsimp only at hSx); go_simp; first | done | with_reducible rfl)
      try simp only [Act.put, List.setIfInBounds_toArray, List.set_cons_zero, List.set_cons_succ]
      refine wpAnyH_takeD (i := 2) (some 25) (v := .int .i64 (j : Int)) rfl rfl (by kernel_rfl) (by kernel_rfl) (by kernel_rfl) (fun _ _ _ h => h) (Or.inl ⟨by kernel_rfl, ?hy2⟩) (by assumption) ?rest2
      case hy2 => (intro x hSx; (try dsimp only at hSx); go_simp; first | done | with_reducible rfl)
      try simp only [Act.put, List.setIfInBounds_toArray, List.set_cons_zero, List.set_cons_succ]
      refine wpAnyH_takeD (i := 5) (some 28) (v := .iface 107 (.pointer (some ⟨w1.heap.size, 0, none⟩))) rfl rfl (by kernel_rfl) (by kernel_rfl) (by kernel_rfl) (fun _ _ _ h => h) (Or.inl ⟨by kernel_rfl, ?hy5⟩) (by assumption) ?rest5
      case hy5 => (intro x hSx; (try dsimp only at hSx); go_simp; first | done | with_reducible rfl)
      try simp only [Act.put, List.setIfInBounds_toArray, List.set_cons_zero, List.set_cons_succ]
      refine wpAnyH_ready (rs := [3]) (by kernel_rfl) (by simp) ?_
      refine AllReadyH.cons rfl (fun K hK => ?_) AllReadyH.nil
      go_simp
      go_wp2_with (go_at_call 335; refine (hat _ hd2).mono ?_; rintro e _ ⟨rfl, rfl⟩)
      refine hK.out _ _ (hHeld) (fun hHeld3 => ?_)
      clear hK K
      try simp only [Act.put, List.setIfInBounds_toArray, List.set_cons_zero, List.set_cons_succ]
      refine wpAnyH_ready (rs := [4]) (by kernel_rfl) (by simp) ?_
      refine AllReadyH.cons rfl (fun K hK => ?_) AllReadyH.nil
      go_simp
      go_wp2_with (go_at_call 46; refine (hun _ hd2).mono ?_; intro e y4 hE; obtain ⟨v4, rfl, hE⟩ := hE.val)
      have hb4 : Below w2.heap.size w2 y4 := hd2.trans (hE.1.mono hd2.size)
      have hb14 : Below w1.heap.size w1 y4 := hb12.trans (hb4.mono hs12)
      have HE : Hid (ErrPost Z w2.drew (.returned v4) y4) := hE
      clear hE
      refine hK.out _ _ (hb14) (fun hHeld4 => ?_)
      clear hK K
      try simp only [Act.put, List.setIfInBounds_toArray, List.set_cons_zero, List.set_cons_succ]
      cases hZ : Z with
      | none =>
        rw [hZ] at HE
        have he : v4 = .nilIface := by have := HE.out.2; injection this
        subst he
        have HR' := HZn.out hZ
        have HR1 : Hid (R = unfL U (j + 1) (l.drop (j + 1)) (t.drop (j + 1))) := HR'
        have has := fun y => as_none (.iface 107 (.pointer (some ⟨w1.heap.size, 0, none⟩))) y
        have hbw4 : Below w.heap.size w y4 := hbw2.trans (hb4.mono hbw2.size)
        clear HR' HZn HZs HE hun hat
        refine wpAnyH_ready (rs := [6]) (by kernel_rfl) (by simp) ?_
        refine AllReadyH.cons rfl (fun K hK => ?_) AllReadyH.nil
        go_simp
        go_wp2_with (go_at_call 52; refine (has _).mono ?_; rintro e _ ⟨rfl, rfl⟩)
        refine hK.out _ _ hb14 (fun hHeld6 => ?_)
        clear hK K
        try simp only [Act.put, List.setIfInBounds_toArray, List.set_cons_zero, List.set_cons_succ]
        refine wpAnyH_done (by kernel_rfl) ?_ _
        clear has
        go_wp2_with fail
        go_roundw
        case rel => exact ⟨j + 1, by omega, by simp, HR1, hbw4⟩
        case measure => simp only [intOf]; omega
      | some rr =>
        obtain ⟨cc, aa, P, yy⟩ := rr
        rw [hZ] at HE
        obtain ⟨hE1, v', why, hev, ⟨F, pa, pc, hv', hF0, hF1, hF2, hF3⟩, hWy⟩ := HE.out
        cases hev
        subst hv'
        have hPl := HPj.out _ _ _ _ hZ
        have hs2 := HS2.out
        have hRq : R = some (cc, aa, (j : Int) :: P, yy) := HZs.out _ hZ
        have hT4 : Blk y4 w1.heap.size 98 #[.pointer none] := hT2.old hb4
        have hFT : w1.heap.size < F := by have : w2.drew.heap.size = w2.heap.size := rfl; omega
        obtain ⟨k1, k2, k3, k4, k5⟩ := as_after hT4 (base := w2.heap.size) (by omega) hF0 hF1 hF2 hWy
        have has := as_fault ⟨F, 0, none⟩ ⟨w1.heap.size, 0, none⟩ (.pointer none) y4 (hGy y4 hb4) (hT4.cell 0) (hT4.frozen 0)
        have hb15 : Below w1.heap.size w1 ((asW y4 ⟨w1.heap.size, 0, none⟩ ⟨F, 0, none⟩).setCell ⟨w1.heap.size, 0, none⟩ (.pointer (some ⟨F, 0, none⟩))) := hb14.trans k5
        clear HZn HZs HE hun hat hGy hZ HPj hE1 hF1 hF2 hWy k5 hs2
        refine wpAnyH_ready (rs := [6]) (by kernel_rfl) (by simp) ?_
        refine AllReadyH.cons rfl (fun K hK => ?_) AllReadyH.nil
        go_simp
        go_wp2_with (go_at_call 52; refine has.mono ?_; rintro e _ ⟨rfl, rfl⟩)
        refine hK.out _ _ hb15 (fun hHeld6 => ?_)
        clear hK K has
        try simp only [Act.put, List.setIfInBounds_toArray, List.set_cons_zero, List.set_cons_succ]
        refine wpAnyH_done (by kernel_rfl) ?_ _
        generalize (asW y4 ⟨w1.heap.size, 0, none⟩ ⟨F, 0, none⟩).setCell ⟨w1.heap.size, 0, none⟩ (.pointer (some ⟨F, 0, none⟩)) = w5 at *
        have hbw5 : Below w.heap.size w w5 := hbw1.trans (hb15.mono hbw1.size)
        have hd5 : Blk w5.drew w1.heap.size 98 #[.pointer (some ⟨F, 0, none⟩)] := k1
        have hdF : Blk w5.drew F 100 #[.int .i64 cc, .int .i64 aa, .slice pa P.length pc, why] := k2
        have cF5 := hdF.cell 2
        have hb56 := (Below.refl w5.heap.size w5).drew.alloc (o := .cells #[.int .i64 (j : Int)] 3) (Nat.le_refl _)
        have hv6 := Blk.new w5.drew 3 #[.int .i64 (j : Int)]
        have hT6 : Blk (w5.drew.alloc (.cells #[.int .i64 (j : Int)] 3)) w1.heap.size 98 #[.pointer (some ⟨F, 0, none⟩)] := k1.old hb56
        have hF6 : Blk (w5.drew.alloc (.cells #[.int .i64 (j : Int)] 3)) F 100 #[.int .i64 cc, .int .i64 aa, .slice pa P.length pc, why] := k2.old hb56
        have cF6 := hF6.cell 2
        have hown6 : IOwn (w5.drew.alloc (.cells #[.int .i64 (j : Int)] 3)) w2.heap.size (.slice pa P.length pc) P := own_after k3 hb56
        have HW6 : Hid (WhyAt (w5.drew.alloc (.cells #[.int .i64 (j : Int)] 3)) why yy) := k4.old hb56
        have hb06 : Below w.heap.size w (w5.drew.alloc (.cells #[.int .i64 (j : Int)] 3)) := hbw5.trans (hb56.mono hbw5.size)
        have hne6 : some F ≠ (Value.slice pa P.length pc).ownBlock := hF3
        have hin6 : w.heap.size ≤ F ∧ w.heap.size ≤ w2.heap.size := ⟨Nat.le_trans hbw2.size hF0, hbw2.size⟩
        have hs6 : w2.heap.size ≤ (w5.drew.alloc (.cells #[.int .i64 (j : Int)] 3)).heap.size := by have h1 := hF6.lt; have h2 : w2.heap.size ≤ F := hF0; omega
        have hvne : some w5.drew.heap.size ≠ (Value.slice pa P.length pc).ownBlock := fun e => by
          obtain ⟨_, cs', f, hh⟩ := own_ge k3 e.symm
          have := (Array.getElem?_eq_some_iff.1 hh).1
          exact absurd this (Nat.lt_irrefl _)
        have hins := insert0_any P hPl pa pc (j : Int) w5.drew.heap.size w2.heap.size _ hown6 hv6 hs6 hvne
        have hTF : w1.heap.size ≠ F := by omega
        clear k1 k2 k3 k4 hF3 hs6 hvne
        go_upto_region 8 with fail
        refine wp_region_held_drew (S := fun x => x.cell? ⟨w1.heap.size, 0, none⟩ = some (.pointer (some ⟨F, 0, none⟩))) (by kernel_rfl) (hd5.cell 0) (fun hHeldb => ?_)
        refine wpAnyH_takeD (i := 0) (some 30) (v := .pointer (some ⟨F, 0, none⟩)) rfl rfl (by kernel_rfl) (by kernel_rfl) (by kernel_rfl) (fun _ _ _ h => h) (Or.inl ⟨by kernel_rfl, ?hyb0⟩) (by assumption) ?restb0
        case hyb0 => (intro x hSx; (try dsimp only at hSx); go_simp; first | done | with_reducible rfl)
        try simp only [Act.put, List.setIfInBounds_toArray, List.set_cons_zero, List.set_cons_succ]
        refine wpAnyH_takeD (i := 1) (some 31) (v := .pointer (some ⟨F, 0, none⟩)) rfl rfl (by kernel_rfl) (by kernel_rfl) (by kernel_rfl) (fun _ _ _ h => h) (Or.inl ⟨by kernel_rfl, ?hyb1⟩) (by assumption) ?restb1
        case hyb1 => (intro x hSx; (try dsimp only at hSx); go_simp; first | done | with_reducible rfl)
        try simp only [Act.put, List.setIfInBounds_toArray, List.set_cons_zero, List.set_cons_succ]
        refine wpAnyH_takeD (i := 2) (some 32) (v := .pointer (some ⟨F, 0, none⟩)) rfl rfl (by kernel_rfl) (by kernel_rfl) (by kernel_rfl) (fun _ _ _ h => h) (Or.inl ⟨by kernel_rfl, ?hyb2⟩) (by assumption) ?restb2
        case hyb2 => (intro x hSx; (try dsimp only at hSx); go_simp; first | done | with_reducible rfl)
        try simp only [Act.put, List.setIfInBounds_toArray, List.set_cons_zero, List.set_cons_succ]
        refine wpAnyH_takeD (i := 3) (some 33) (v := .pointer (some ⟨F, 2, none⟩)) rfl rfl (by kernel_rfl) (by kernel_rfl) (by kernel_rfl) (fun _ _ _ h => h) (Or.inl ⟨by kernel_rfl, ?hyb3⟩) (by assumption) ?restb3
        case hyb3 => (intro x hSx; (try dsimp only at hSx); go_simp; first | done | with_reducible rfl)
        try simp only [Act.put, List.setIfInBounds_toArray, List.set_cons_zero, List.set_cons_succ]
        refine wpAnyH_takeD (i := 5) (some 35) (v := .int .i64 (j : Int)) rfl rfl (by kernel_rfl) (by kernel_rfl) (by kernel_rfl) (fun _ _ _ h => h) (Or.inl ⟨by kernel_rfl, ?hyb5⟩) (by assumption) ?restb5
        case hyb5 => (intro x hSx; (try dsimp only at hSx); go_simp; first | done | with_reducible rfl)
        try simp only [Act.put, List.setIfInBounds_toArray, List.set_cons_zero, List.set_cons_succ]
        refine wpAnyH_ready (rs := [4, 6]) (by kernel_rfl) (by simp) ?_
        refine AllReadyH.cons rfl (fun K hK => ?_) (AllReadyH.cons rfl (fun K hK => ?_) AllReadyH.nil)
        · skip
          go_simp
          refine hK.out _ _ (hd5.cell 0) (fun hs1 => ?_)
          clear hK K
          try simp only [Act.put, List.setIfInBounds_toArray, List.set_cons_zero, List.set_cons_succ]
          refine wpAnyH_ready (rs := [6]) (by kernel_rfl) (by simp) ?_
          refine AllReadyH.cons rfl (fun K hK => ?_) AllReadyH.nil
          go_simp
          refine hK.out _ _ (hT6.cell 0) (fun hs2 => ?_)
          clear hK K
          try simp only [Act.put, List.setIfInBounds_toArray, List.set_cons_zero, List.set_cons_succ]
          refine wpAnyH_ready (rs := [7]) (by kernel_rfl) (by simp) ?_
          refine AllReadyH.cons rfl (fun K hK => ?_) AllReadyH.nil
          go_simp
          go_wp2_with (go_at_call 109; refine hins.mono ?_; rintro e w7 ⟨a7, c7, rfl, hown7, hgr7⟩)
          obtain ⟨HT7, HF7, HP⟩ := after_insert hb06 HW6.out hT6 hF6 hin6 hown6 hne6 hown7 hgr7
          have ct7 := HT7.cell 0; have cf7 := HF7.cell 2; have ff7 := HF7.frozen 2
          refine hK.out _ _ ct7 (fun hs3 => ?_)
          clear hK K
          try simp only [Act.put, List.setIfInBounds_toArray, List.set_cons_zero, List.set_cons_succ]
          refine wpAnyH_takeD (i := 8) (some 38) (v := .pointer (some ⟨F, 0, none⟩)) rfl rfl (by kernel_rfl) (by kernel_rfl) (by kernel_rfl) (fun _ _ _ h => h) (Or.inl ⟨by kernel_rfl, ?hyc8⟩) (by assumption) ?restc8
          case hyc8 => (intro x hSx; (try dsimp only at hSx); go_simp; first | done | with_reducible rfl)
          try simp only [Act.put, List.setIfInBounds_toArray, List.set_cons_zero, List.set_cons_succ]
          refine wpAnyH_takeD (i := 9) (some 39) (v := .pointer (some ⟨F, 2, none⟩)) rfl rfl (by kernel_rfl) (by kernel_rfl) (by kernel_rfl) (fun _ _ _ h => h) (Or.inl ⟨by kernel_rfl, ?hyc9⟩) (by assumption) ?restc9
          case hyc9 => (intro x hSx; (try dsimp only at hSx); go_simp; first | done | with_reducible rfl)
          try simp only [Act.put, List.setIfInBounds_toArray, List.set_cons_zero, List.set_cons_succ]
          refine wpAnyH_ready (rs := [10]) (by kernel_rfl) (by simp) ?_
          refine AllReadyH.cons rfl (fun K hK => ?_) AllReadyH.nil
          go_simp
          have ct8 : (w7.setCell ⟨F, 2, none⟩ (.slice a7 (P.length + 1) c7)).cell? ⟨w1.heap.size, 0, none⟩ = some (.pointer (some ⟨F, 0, none⟩)) := (HT7.other (p := ⟨F, 2, none⟩) hTF _).cell 0
          refine hK.out _ _ ct8 (fun hs4 => ?_)
          clear hK K
          try simp only [Act.put, List.setIfInBounds_toArray, List.set_cons_zero, List.set_cons_succ]
          refine wpAnyH_done (by kernel_rfl) ?_ _
          have HPE : Hid (ErrPost R w (.returned (.iface 98 (.pointer (some ⟨F, 0, none⟩)))) (w7.setCell ⟨F, 2, none⟩ (.slice a7 (P.length + 1) c7))) := by
            show ErrPost R w _ _
            rw [hRq]; exact HP
          generalize w7.setCell ⟨F, 2, none⟩ (.slice a7 (P.length + 1) c7) = w8 at ct8 HPE ⊢
          clear HT7 HF7 HP ct7 cf7 ff7 hown7 hgr7
          go_wp2_with fail
          go_ret
          exact HPE.out
        · skip
          go_simp
          refine hK.out _ _ (hT6.cell 0) (fun hs1 => ?_)
          clear hK K
          try simp only [Act.put, List.setIfInBounds_toArray, List.set_cons_zero, List.set_cons_succ]
          refine wpAnyH_ready (rs := [4]) (by kernel_rfl) (by simp) ?_
          refine AllReadyH.cons rfl (fun K hK => ?_) AllReadyH.nil
          have cF7 : (w5.alloc (.cells #[.int .i64 (j : Int)] 3)).cell? ⟨F, 2, none⟩ = some (.slice pa P.length pc) := hF6.cell 2
          go_simp
          refine hK.out _ _ (hT6.cell 0) (fun hs2 => ?_)
          clear hK K
          try simp only [Act.put, List.setIfInBounds_toArray, List.set_cons_zero, List.set_cons_succ]
          refine wpAnyH_ready (rs := [7]) (by kernel_rfl) (by simp) ?_
          refine AllReadyH.cons rfl (fun K hK => ?_) AllReadyH.nil
          go_simp
          go_wp2_with (go_at_call 109; refine hins.mono ?_; rintro e w7 ⟨a7, c7, rfl, hown7, hgr7⟩)
          obtain ⟨HT7, HF7, HP⟩ := after_insert hb06 HW6.out hT6 hF6 hin6 hown6 hne6 hown7 hgr7
          have ct7 := HT7.cell 0; have cf7 := HF7.cell 2; have ff7 := HF7.frozen 2
          refine hK.out _ _ ct7 (fun hs3 => ?_)
          clear hK K
          try simp only [Act.put, List.setIfInBounds_toArray, List.set_cons_zero, List.set_cons_succ]
          refine wpAnyH_takeD (i := 8) (some 38) (v := .pointer (some ⟨F, 0, none⟩)) rfl rfl (by kernel_rfl) (by kernel_rfl) (by kernel_rfl) (fun _ _ _ h => h) (Or.inl ⟨by kernel_rfl, ?hyd8⟩) (by assumption) ?restd8
          case hyd8 => (intro x hSx; (try dsimp only at hSx); go_simp; first | done | with_reducible rfl)
          try simp only [Act.put, List.setIfInBounds_toArray, List.set_cons_zero, List.set_cons_succ]
          refine wpAnyH_takeD (i := 9) (some 39) (v := .pointer (some ⟨F, 2, none⟩)) rfl rfl (by kernel_rfl) (by kernel_rfl) (by kernel_rfl) (fun _ _ _ h => h) (Or.inl ⟨by kernel_rfl, ?hyd9⟩) (by assumption) ?restd9
          case hyd9 => (intro x hSx; (try dsimp only at hSx); go_simp; first | done | with_reducible rfl)
          try simp only [Act.put, List.setIfInBounds_toArray, List.set_cons_zero, List.set_cons_succ]
          refine wpAnyH_ready (rs := [10]) (by kernel_rfl) (by simp) ?_
          refine AllReadyH.cons rfl (fun K hK => ?_) AllReadyH.nil
          go_simp
          have ct8 : (w7.setCell ⟨F, 2, none⟩ (.slice a7 (P.length + 1) c7)).cell? ⟨w1.heap.size, 0, none⟩ = some (.pointer (some ⟨F, 0, none⟩)) := (HT7.other (p := ⟨F, 2, none⟩) hTF _).cell 0
          refine hK.out _ _ ct8 (fun hs4 => ?_)
          clear hK K
          try simp only [Act.put, List.setIfInBounds_toArray, List.set_cons_zero, List.set_cons_succ]
          refine wpAnyH_done (by kernel_rfl) ?_ _
          have HPE : Hid (ErrPost R w (.returned (.iface 98 (.pointer (some ⟨F, 0, none⟩)))) (w7.setCell ⟨F, 2, none⟩ (.slice a7 (P.length + 1) c7))) := by
            show ErrPost R w _ _
            rw [hRq]; exact HP
          generalize w7.setCell ⟨F, 2, none⟩ (.slice a7 (P.length + 1) c7) = w8 at ct8 HPE ⊢
          clear HT7 HF7 HP ct7 cf7 ff7 hown7 hgr7
          go_wp2_with fail
          go_ret
          exact HPE.out
    · have hjn : j = ln := by omega
      have hRn : R = none := by rw [HS.out, List.drop_of_length_le (by rw [HL.out]; omega), unfL_nil]
      clear ih hP hcl hV hin HS
      go_wp2_with fail
      go_ret
      exact ⟨hbel, by rw [hRn]; rfl⟩
end Go.Proofs.YtkjoomdglealmaaGreatDoor

namespace Go.Vf

theorem byte_of {n : Nat} {c : UInt8} (h : n = c.toNat) : UInt8.ofNat n = c := by subst h; simp

theorem whole_enc {l : List UInt8} {k : Nat} (hne : l ≠ []) (hk : rowBU (l[0]?.getD 0).toNat = some k) (hw : wholeL k l = true) : ∃ p, IsPt p ∧ l = enc p ++ l.drop (enc p).length := by
  obtain ⟨hk9, h1, h2⟩ := rowB_lt hk
  cases l with
  | nil => exact absurd rfl hne
  | cons a l =>
    simp only [List.getElem?_cons_zero, Option.getD_some] at h1 h2
    have ha := a.toNat_lt
    simp only [wholeL, Bool.and_eq_true, decide_eq_true_eq, Bool.or_eq_true] at hw
    obtain ⟨w1, w2, w3⟩ := hw
    have hcase : k = 0 ∨ k = 1 ∨ (k = 2 ∨ k = 3 ∨ k = 4 ∨ k = 5) ∨ (k = 6 ∨ k = 7 ∨ k = 8) := by omega
    rcases hcase with rfl | rfl | hk3 | hk4
    · simp only [utab] at h1 h2
      refine ⟨a.toNat, by unfold IsPt; omega, ?_⟩
      have e : enc a.toNat = [a] := by unfold enc; rw [if_pos (by omega), byte_of rfl]
      rw [e]; simp
    · simp only [utab, secB, List.length_cons] at h1 h2 w1 w2
      cases l with
      | nil => simp at w1
      | cons b l =>
        simp at w2
        have e : enc ((a.toNat - 0xc0) * 64 + (b.toNat - 0x80)) = [a, b] := by
          unfold enc
          rw [if_neg (by omega), if_pos (by omega), byte_of (c := a) (by omega), byte_of (c := b) (by omega)]
        exact ⟨(a.toNat - 0xc0) * 64 + (b.toNat - 0x80), by unfold IsPt; omega, by rw [e]; simp⟩
    · have hz : (utab k).size = 3 := by rcases hk3 with rfl | rfl | rfl | rfl <;> rfl
      rw [hz] at w1 w2 w3
      match l, w1, w2, w3 with
      | b :: c :: l, _, w2, w3 =>
        simp [secB] at w2
        simp [tailB] at w3
        have e : ∀ p, p = ((a.toNat - 0xe0) * 64 + (b.toNat - 0x80)) * 64 + (c.toNat - 0x80) → 0x800 ≤ p → p < 0x10000 → 0xe0 ≤ a.toNat → 0x80 ≤ b.toNat → b.toNat ≤ 0xbf → enc p = [a, b, c] := by
          intro p hp g1 g2 g3 g4 g5
          unfold enc
          rw [if_neg (by omega), if_neg (by omega), if_pos (by omega), byte_of (c := a) (by omega), byte_of (c := b) (by omega), byte_of (c := c) (by omega)]
        rcases hk3 with rfl | rfl | rfl | rfl <;> simp only [utab] at h1 h2 w2 <;>
          exact ⟨((a.toNat - 0xe0) * 64 + (b.toNat - 0x80)) * 64 + (c.toNat - 0x80), by unfold IsPt; omega, by rw [e _ rfl (by omega) (by omega) (by omega) (by omega) (by omega)]; simp⟩
      | [b], w1, _, _ => simp at w1
      | [], w1, _, _ => simp at w1
    · have hz : (utab k).size = 4 := by rcases hk4 with rfl | rfl | rfl <;> rfl
      rw [hz] at w1 w2 w3
      match l, w1, w2, w3 with
      | b :: c :: d :: l, _, w2, w3 =>
        simp [secB] at w2
        simp [tailB] at w3
        have e : ∀ p, p = (((a.toNat - 0xf0) * 64 + (b.toNat - 0x80)) * 64 + (c.toNat - 0x80)) * 64 + (d.toNat - 0x80) → 0x10000 ≤ p → 0xf0 ≤ a.toNat → 0x80 ≤ b.toNat → b.toNat ≤ 0xbf → enc p = [a, b, c, d] := by
          intro p hp g1 g3 g4 g5
          unfold enc
          rw [if_neg (by omega), if_neg (by omega), if_neg (by omega), byte_of (c := a) (by omega), byte_of (c := b) (by omega), byte_of (c := c) (by omega), byte_of (c := d) (by omega)]
        rcases hk4 with rfl | rfl | rfl <;> simp only [utab] at h1 h2 w2 <;>
          exact ⟨(((a.toNat - 0xf0) * 64 + (b.toNat - 0x80)) * 64 + (c.toNat - 0x80)) * 64 + (d.toNat - 0x80), by unfold IsPt; omega, by rw [e _ rfl (by omega) (by omega) (by omega) (by omega)]; simp⟩
      | [b, c], w1, _, _ => simp at w1
      | [b], w1, _, _ => simp at w1
      | [], w1, _, _ => simp at w1

theorem split_bytes (l : List UInt8) : ∃ (ps : List Nat) (rest : List UInt8), l = encs ps ++ rest ∧ (∀ p ∈ ps, IsPt p) ∧ (rest = [] ∨ noChar rest) := by
  generalize hn : l.length = n
  induction n using Nat.strongRecOn generalizing l with
  | ind n ih =>
    by_cases hne : l = []
    · exact ⟨[], [], by simp [hne, encs], by simp, .inl rfl⟩
    · by_cases hc : ∃ k, rowBU (l[0]?.getD 0).toNat = some k ∧ wholeL k l = true
      · obtain ⟨k, h1, h2⟩ := hc
        obtain ⟨p, hp, hl⟩ := whole_enc hne h1 h2
        have hlen := congrArg List.length hl
        rw [List.length_append] at hlen
        have hpos := enc_pos p
        obtain ⟨ps, rest, e1, e2, e3⟩ := ih (l.drop (enc p).length).length (by omega) (l.drop (enc p).length) rfl
        exact ⟨p :: ps, rest, by rw [hl, e1]; simp [encs], by simpa using ⟨hp, e2⟩, e3⟩
      · exact ⟨[], l, by simp [encs], by simp, .inr ⟨hne, fun k h1 => by
          cases h2 : wholeL k l with
          | false => rfl
          | true => exact absurd ⟨k, h1, h2⟩ hc⟩⟩
end Go.Vf
