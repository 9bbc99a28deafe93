/- The walk of ShelfLast (contracts; nothing is claimed here). -/
import Derived.Test.YtklnnkdcnaieoaaLst
import Derived.Test.YtklnnkdcnaieoaaVst
import Derived.Test.YtklnnkdcnaieoaaSam
import Derived.Test.YtklnnkdcnaieoaaAwk
namespace Go.Proofs.Ytklnnkdcnaieoaa
open Go.RowKit Go.Vf

theorem AcIn.mono {w : World} {n₀ n₁ : Nat} {a : Option Addr} {l : List Ac} (h : AcIn w n₀ a l) (hn : n₀ ≤ n₁) : AcIn w n₁ a l := fun j hj => by
  obtain ⟨b, off, e, hbn, q⟩ := h j hj
  exact ⟨b, off, e, Nat.lt_of_lt_of_le hbn hn, q⟩
/-- A row of texts, in blocks from base on. -/
def KRow (w : World) (base : Nat) (v : Value) (l : List ByteArray) : Prop := w.ownsRow base 9 1 v l.length (l.map Value.string)
theorem KRow.shape {w : World} {base : Nat} {v : Value} {l : List ByteArray} (h : KRow w base v l) : ∃ a c, v = .slice a l.length c := by
  rcases h.2 with ⟨rfl, h0⟩ | ⟨g, cap, cur, rfl, _⟩
  · exact ⟨none, 0, by rw [h0]⟩
  · exact ⟨_, _, rfl⟩
theorem KRow.keepB {w w' : World} {base : Nat} {v : Value} {l : List ByteArray} (h : KRow w base v l) (hk : ∀ b cs, base ≤ b → Blk w b 9 cs → Blk w' b 9 cs) : KRow w' base v l := by
  refine ⟨h.1, ?_⟩
  rcases h.2 with h0 | ⟨g, cap, cur, rfl, hb, hg, hr⟩
  · exact .inl h0
  · exact .inr ⟨g, cap, cur, rfl, hb, hk g cur hb hg, hr⟩
theorem KRow.old {w w' : World} {base : Nat} {v : Value} {l : List ByteArray} (h : KRow w base v l) (hb : Below w.heap.size w w') : KRow w' base v l := h.keepB fun _ _ _ q => q.old hb
theorem KRow.oth {w w' : World} {base C : Nat} {v : Value} {l : List ByteArray} {cs : Array Value} (h : KRow w base v l) (hC : Blk w C 56 cs) (ho : Oth C w w') : KRow w' base v l := h.keepB fun _ _ _ q => ho.blk q (q.apart hC (by decide))
theorem PRow.oth {w w' : World} {base C : Nat} {v : Value} {l : List Pr} {cs : Array Value} (h : PRow w base v l) (hC : Blk w C 56 cs) (ho : Oth C w w') : PRow w' base v l := h.keepB fun _ _ _ q => ho.blk q (q.apart hC (by decide))
theorem KRow.at {w : World} {base : Nat} {v : Value} {l : List ByteArray} (h : KRow w base v l) (hl : 0 < l.length) : ∃ g c, v = .slice (some ⟨g, 0, none⟩) l.length c ∧ g < w.heap.size ∧ ∀ i (hi : i < l.length), w.cell? ⟨g, i, none⟩ = some (.string l[i]) := by
  rcases h.2 with ⟨_, h0⟩ | ⟨g, cap, cur, rfl, hb, hg, _, _, _, ht⟩
  · omega
  · refine ⟨g, cap, rfl, (Array.getElem?_eq_some_iff.1 hg).1, fun i hi => ?_⟩
    have hB : Blk w g 9 cur := hg
    rw [hB.cell i]
    have hj : (l.map Value.string)[i]? = some (.string l[i]) := by simp [hi]
    rw [← ht, List.getElem?_take] at hj
    split at hj
    · simpa using hj
    · cases hj
theorem Try.info9 : (Try.prog.info? 9).map (fun i => (i.zero, i.size, i.bytes)) = some (some (.string ⟨#[]⟩), 1, 16) := by kernel_rfl
/-- What stands while ShelfLast goes on. -/
structure LI (w : World) (B : Nat) (a : Option Addr) (m c : Nat) (R : List Pr) (kv : Value) (ks : List ByteArray) (wr : World) : Prop where
  bel : Below w.heap.size w wr
  box : Blk wr w.heap.size 22 #[.slice a m c]
  sh : ShAt wr B R
  row : KRow wr w.heap.size kv ks
  lt : w.heap.size < B
theorem LI.old {w wr wr' : World} {B : Nat} {a : Option Addr} {m c : Nat} {R : List Pr} {kv : Value} {ks : List ByteArray} (h : LI w B a m c R kv ks wr) (hb : Below wr.heap.size wr wr') : LI w B a m c R kv ks wr' :=
  ⟨h.bel.trans (hb.mono h.bel.size), h.box.old hb, h.sh.old hb, h.row.old hb, h.lt⟩
/-- Its own shelf has changed. -/
theorem LI.chg {w wr wr' : World} {B : Nat} {a : Option Addr} {m c : Nat} {R R' : List Pr} {kv : Value} {ks : List ByteArray} (h : LI w B a m c R kv ks wr) (hs : ShAt wr' B R') (ho : Oth B wr wr') (hb : Below B wr wr') : LI w B a m c R' kv ks wr' := by
  obtain ⟨cs, hC⟩ := h.sh.blk
  exact ⟨h.bel.trans (hb.mono (Nat.le_of_lt h.lt)), h.box.below hb h.lt, hs, h.row.oth hC ho, h.lt⟩
/-- Another shelf has changed. -/
theorem LI.other {w wr wr' : World} {B C : Nat} {a : Option Addr} {m c : Nat} {R M : List Pr} {kv : Value} {ks : List ByteArray} (h : LI w B a m c R kv ks wr) (hC : ShAt wr C M) (hBC : B < C) (ho : Oth C wr wr') (hb : Below C wr wr') : LI w B a m c R kv ks wr' := by
  obtain ⟨cs, hC2⟩ := hC.blk
  exact ⟨h.bel.trans (hb.mono (by have := h.lt; omega)), h.box.below hb (by have := h.lt; omega), h.sh.other hC ho (by omega), h.row.oth hC2 ho, h.lt⟩
theorem grow_keep {V w1 : World} {base k : Nat} {v : Value} {xs : List Value} {tmp : Obj} {b : Nat} {t : TypeId} {cs : Array Value} (hrow : V.ownsRow base 9 1 v k xs) (hgrow : (V.alloc tmp).grownBy w1 v.ownBlock)
    (hb : Blk V b t cs) (h9 : t ≠ 9) : Blk w1 b t cs := by
  have h1 : Blk (V.alloc tmp) b t cs := hb.old ((Below.refl _ _).alloc (Nat.le_refl _) _)
  refine (hgrow.block b h1.lt (fun e => ?_)).trans h1
  rcases hrow.2 with ⟨rfl, _⟩ | ⟨g, cap, cur, rfl, _, hg, _⟩
  · cases e
  · have e2 : b = g := by simpa [Value.ownBlock] using e
    subst e2
    exact (Blk.apart hb (u := 9) (ds := cur) hg h9) rfl
/-- A text has been appended to the keys. -/
theorem LI.app {w wr w1 : World} {B : Nat} {a : Option Addr} {m c k : Nat} {R : List Pr} {kv kv' : Value} {ks : List ByteArray} {tmp : Obj} {x : ByteArray} (h : LI w B a m c R kv ks wr) (hrow : wr.ownsRow w.heap.size 9 1 kv k (ks.map Value.string))
    (hgrow : (wr.alloc tmp).grownBy w1 kv.ownBlock) (hown : w1.ownsRow w.heap.size 9 1 kv' (ks ++ [x]).length ((ks ++ [x]).map Value.string)) : LI w B a m c R kv' (ks ++ [x]) w1 := by
  have hbl : Below w.heap.size wr w1 := ((Below.refl w.heap.size wr).alloc h.bel.size tmp).grown hgrow (by rw [alloc_size]; have := h.bel.size; omega) (fun j ej => by
    rcases hrow.2 with ⟨rfl, _⟩ | ⟨g, cap, cur, rfl, hb, _, _⟩
    · simp [Value.ownBlock] at ej
    · obtain rfl : g = j := by simpa [Value.ownBlock] using ej
      exact hb)
  obtain ⟨T, t1, t2, t3⟩ := h.sh.tree
  have hkn : KeepN wr w1 := ⟨hbl.size, fun b cs q => grow_keep hrow hgrow q (by decide)⟩
  exact ⟨h.bel.trans hbl, grow_keep hrow hgrow h.box (by decide), ⟨h.sh.srt, T, t1, t2.keep hkn, grow_keep hrow hgrow t3 (by decide)⟩, hown, h.lt⟩
def TruePost (w : World) (e : Ending) (w' : World) : Prop := e = .returned (.bool true) ∧ Below w.heap.size w w'
set_option maxHeartbeats 16000000 in
set_option maxRecDepth 20000 in
theorem last_walk (w : World) (a : Option Addr) (c : Nat) (l : List Ac) (h : AcIn w w.heap.size a l) (hl : l.length ≤ maxLen) : Calls Try.prog 4 #[.slice a l.length c] w (TruePost w) := by
  obtain ⟨m, hm⟩ : ∃ m, m = l.length := ⟨_, rfl⟩
  have HV : ∀ W, AcIn W W.heap.size a l → Calls Try.prog 7 #[.slice a m c] W (VstPost m W) := fun W hW => by rw [hm]; exact vast_any W a c l hW hl
  rw [← hm]
  have Hm : Hid (m = l.length) := hm
  have hmx : (m : Int) ≤ 9223372036854775807 := by rw [hm]; unfold maxLen at hl; omega
  have HA : Hid (AcIn w w.heap.size a l) := h
  clear h hl hm
  have b1 := (Below.refl w.heap.size w).alloc (Nat.le_refl _) (.cells #[.slice a m c] 22)
  have B1 := Blk.new w 22 #[.slice a m c]
  go_enter Try.func4, Try.ntmps4
  go_upto_region 1 with fail
  generalize w.alloc (.cells #[.slice a m c] 22) = w1 at *
  have c1 := B1.c1
  go_wp2_with fail
  refine (HV w1 ((HA.out.keep b1 (Nat.le_refl _)).mono b1.size)).mono ?_
  clear HV
  rintro e w2 ⟨bb, rfl, hbb, hb2⟩
  cases bb with
  | true =>
    go_wp2
    go_ret
    exact ⟨rfl, b1.trans (hb2.mono b1.size)⟩
  | false =>
    have hm2 : m ≤ 2147483647 := hbb rfl
    have HB2 : Hid (Below w.heap.size w w2) := b1.trans (hb2.mono b1.size)
    have HX2 : Hid (Blk w2 w.heap.size 22 #[.slice a m c]) := B1.old hb2
    clear hbb b1 hb2 B1 c1 hmx
    go_wp2_with fail
    refine (new_any w2).mono ?_
    rintro e w3 ⟨rfl, hs3, hb3⟩
    have hLI : LI w w2.heap.size a m c [] (.slice none 0 0) [] w3 := ⟨HB2.out.trans (hb3.mono HB2.out.size), HX2.out.old hb3, hs3, World.ownsRow_nil _ _ _ _, HX2.out.lt⟩
    clear HB2 HX2 hs3 hb3
    generalize w2.heap.size = B at *
    go_wp2
    have HI0 : Hid (LI w B a m c [] (.slice none 0 0) [] w3) := hLI
    clear hLI
    obtain ⟨i0, hi, hz0, hz1, hz2⟩ := info_parts Try.info9
    go_loopw [4, 5] (fun kv i wr => ∃ j : Nat, j ≤ m ∧ i = .int .i64 (j : Int) ∧ (∃ ka kn kc, kv = .slice ka kn kc) ∧ Hid (LI w B a m c (runA (l.take j)) kv (keysA (l.take j)) wr)) (fun _ i _ => m - (intOf i).toNat)
    case atStart => exact ⟨0, Nat.zero_le _, rfl, ⟨_, _, _, rfl⟩, HI0⟩
    case round =>
      obtain ⟨j, hj, rfl, ⟨ka, kn, kc, rfl⟩, HI⟩ := hrel
      clear HI0
      have cS := HI.out.box.c1
      by_cases hjm : j < m
      · have hji : (j : Int) < (m : Int) := by omega
        have hj1 : j < l.length := by rw [← Hm.out]; exact hjm
        obtain ⟨b, off, ha, hbn, c0, c2, c3, _, _⟩ := HA.out.keep HI.out.bel (Nat.le_refl _) j hj1
        obtain ⟨y, hy⟩ : ∃ y, y = l[j] := ⟨_, rfl⟩
        rw [← hy] at c0 c2 c3
        have HST : Hid (runA (l.take (j + 1)) = stepA (runA (l.take j)) y) := by show _ = _; rw [hy]; exact runA_take l j hj1
        have HKT : Hid (keysA (l.take (j + 1)) = keysA (l.take j) ++ (if y.kind = 1 then [y.key] else [])) := by show _ = _; rw [hy]; exact keysA_take l j hj1
        have HLN : Hid ((runA (l.take j)).length < 288230376151711744) := by have := runA_len l j (by omega); show _ < _; omega
        have HKL : Hid ((keysA (l.take j)).length ≤ 2147483647) := by
          have h1 := keysA_len (l.take j)
          rw [List.length_take] at h1
          show _ ≤ _
          omega
        obtain ⟨yk, y1, y2, y3, y4⟩ := y
        dsimp only at c0 c2 c3 HKT
        subst ha
        have hbB : b < B := Nat.lt_trans hbn HI.out.lt
        clear hy
        by_cases h1 : yk = 1
        · have HS1 : Hid (runA (l.take (j + 1)) = ins y1 y2 (runA (l.take j))) := by show _ = _; rw [HST.out, stepA]; exact if_pos h1
          have HK1 : Hid (keysA (l.take (j + 1)) = keysA (l.take j) ++ [y1]) := by show _ = _; rw [HKT.out, if_pos h1]
          have h1b : (yk == 1) = true := by rw [h1]; rfl
          clear HST HKT h1
          go_upto_region 12 with fail
          have hsB : w.heap.size < B := HI.out.lt
          have HF : Hid (∀ x, Below B wr x ∧ Oth B wr x → x.cell? ⟨w.heap.size, 0, none⟩ = some (.slice (some ⟨b, off, none⟩) m c) ∧ x.cell? ⟨b, off + j * 9 + 2, none⟩ = some (.string y1) ∧ x.cell? ⟨b, off + j * 9 + 3, none⟩ = some (.string y2)) := fun x hx =>
            ⟨(hx.1.cell (p := ⟨w.heap.size, 0, none⟩) hsB).trans cS, (hx.1.cell (p := ⟨b, _, none⟩) hbB).trans c2, (hx.1.cell (p := ⟨b, _, none⟩) hbB).trans c3⟩
          have hnd : Nat.succ 0 = 1 := rfl
          clear hnd
          go_upto_region 12 with fail
          refine wp_region_held_drew (S := fun x => Below B wr x ∧ Oth B wr x) (by kernel_rfl) (⟨(Below.refl _ _).drew, Oth.of ((Below.refl _ _).drew)⟩) (fun hHelda => ?_)
          refine wpAnyH_takeD (i := 0) (some 37) (v := ?va0) rfl rfl (by kernel_rfl) (by kernel_rfl) (by kernel_rfl) (fun _ _ _ h => h) (Or.inl ⟨by kernel_rfl, ?hya0⟩) (by assumption) ?resta0
          case hya0 => (intro x hSx; (try dsimp only at hSx); go_simp; first | done | with_reducible rfl)
          try simp only [Act.put, List.setIfInBounds_toArray, List.set_cons_zero, List.set_cons_succ]
          refine wpAnyH_takeD (i := 1) (some 38) (v := ?va1) rfl rfl (by kernel_rfl) (by kernel_rfl) (by kernel_rfl) (fun _ _ _ h => h) (Or.inl ⟨by kernel_rfl, ?hya1⟩) (by assumption) ?resta1
          case hya1 => (intro x hSx; (try dsimp only at hSx); obtain ⟨z0, z1, z2⟩ := HF.out x hSx; go_simp; first | done | with_reducible rfl)
          try simp only [Act.put, List.setIfInBounds_toArray, List.set_cons_zero, List.set_cons_succ]
          refine wpAnyH_takeD (i := 2) (some 39) (v := ?va2) rfl rfl (by kernel_rfl) (by kernel_rfl) (by kernel_rfl) (fun _ _ _ h => h) (Or.inl ⟨by kernel_rfl, ?hya2⟩) (by assumption) ?resta2
          case hya2 => (intro x hSx; (try dsimp only at hSx); go_simp; first | done | with_reducible rfl)
          try simp only [Act.put, List.setIfInBounds_toArray, List.set_cons_zero, List.set_cons_succ]
          refine wpAnyH_takeD (i := 3) (some 40) (v := ?va3) rfl rfl (by kernel_rfl) (by kernel_rfl) (by kernel_rfl) (fun _ _ _ h => h) (Or.inl ⟨by kernel_rfl, ?hya3⟩) (by assumption) ?resta3
          case hya3 => (intro x hSx; (try dsimp only at hSx); go_simp; first | done | with_reducible rfl)
          try simp only [Act.put, List.setIfInBounds_toArray, List.set_cons_zero, List.set_cons_succ]
          refine wpAnyH_takeD (i := 4) (some 41) (v := ?va4) rfl rfl (by kernel_rfl) (by kernel_rfl) (by kernel_rfl) (fun _ _ _ h => h) (Or.inl ⟨by kernel_rfl, ?hya4⟩) (by assumption) ?resta4
          case hya4 => (intro x hSx; (try dsimp only at hSx); go_simp; first | done | with_reducible rfl)
          try simp only [Act.put, List.setIfInBounds_toArray, List.set_cons_zero, List.set_cons_succ]
          refine wpAnyH_takeD (i := 5) (some 42) (v := ?va5) rfl rfl (by kernel_rfl) (by kernel_rfl) (by kernel_rfl) (fun _ _ _ h => h) (Or.inl ⟨by kernel_rfl, ?hya5⟩) (by assumption) ?resta5
          case hya5 => (intro x hSx; (try dsimp only at hSx); obtain ⟨z0, z1, z2⟩ := HF.out x hSx; go_simp; first | done | with_reducible rfl)
          try simp only [Act.put, List.setIfInBounds_toArray, List.set_cons_zero, List.set_cons_succ]
          refine wpAnyH_takeD (i := 6) (some 43) (v := ?va6) rfl rfl (by kernel_rfl) (by kernel_rfl) (by kernel_rfl) (fun _ _ _ h => h) (Or.inl ⟨by kernel_rfl, ?hya6⟩) (by assumption) ?resta6
          case hya6 => (intro x hSx; (try dsimp only at hSx); obtain ⟨z0, z1, z2⟩ := HF.out x hSx; go_simp; first | done | with_reducible rfl)
          try simp only [Act.put, List.setIfInBounds_toArray, List.set_cons_zero, List.set_cons_succ]
          refine wpAnyH_takeD (i := 7) (some 44) (v := ?va7) rfl rfl (by kernel_rfl) (by kernel_rfl) (by kernel_rfl) (fun _ _ _ h => h) (Or.inl ⟨by kernel_rfl, ?hya7⟩) (by assumption) ?resta7
          case hya7 => (intro x hSx; (try dsimp only at hSx); go_simp; first | done | with_reducible rfl)
          try simp only [Act.put, List.setIfInBounds_toArray, List.set_cons_zero, List.set_cons_succ]
          refine wpAnyH_takeD (i := 8) (some 45) (v := ?va8) rfl rfl (by kernel_rfl) (by kernel_rfl) (by kernel_rfl) (fun _ _ _ h => h) (Or.inl ⟨by kernel_rfl, ?hya8⟩) (by assumption) ?resta8
          case hya8 => (intro x hSx; (try dsimp only at hSx); go_simp; first | done | with_reducible rfl)
          try simp only [Act.put, List.setIfInBounds_toArray, List.set_cons_zero, List.set_cons_succ]
          refine wpAnyH_takeD (i := 9) (some 46) (v := ?va9) rfl rfl (by kernel_rfl) (by kernel_rfl) (by kernel_rfl) (fun _ _ _ h => h) (Or.inl ⟨by kernel_rfl, ?hya9⟩) (by assumption) ?resta9
          case hya9 => (intro x hSx; (try dsimp only at hSx); go_simp; first | done | with_reducible rfl)
          try simp only [Act.put, List.setIfInBounds_toArray, List.set_cons_zero, List.set_cons_succ]
          refine wpAnyH_takeD (i := 10) (some 47) (v := ?va10) rfl rfl (by kernel_rfl) (by kernel_rfl) (by kernel_rfl) (fun _ _ _ h => h) (Or.inl ⟨by kernel_rfl, ?hya10⟩) (by assumption) ?resta10
          case hya10 => (intro x hSx; (try dsimp only at hSx); obtain ⟨z0, z1, z2⟩ := HF.out x hSx; go_simp; first | done | with_reducible rfl)
          try simp only [Act.put, List.setIfInBounds_toArray, List.set_cons_zero, List.set_cons_succ]
          refine wpAnyH_ready (rs := [11]) (by kernel_rfl) (by simp) ?_
          refine AllReadyH.cons rfl (fun K hK => ?_) AllReadyH.nil
          go_simp
          go_wp2_with (go_at_call 15; refine (put_any wr.drew B (runA (l.take j)) y1 y2 (HI.out.sh.old (Below.refl _ _).drew) HLN.out).mono ?_; rintro e y11 ⟨rfl, hs11, ho11, hb11⟩)
          refine hK.out _ _ ⟨hHelda.1.trans hb11, hHelda.2.trans ho11⟩ (fun hHelda11 => ?_)
          clear hK K
          try simp only [Act.put, List.setIfInBounds_toArray, List.set_cons_zero, List.set_cons_succ]
          refine wpAnyH_done (by kernel_rfl) ?_ _
          have hI2 : LI w B (some ⟨b, off, none⟩) m c (ins y1 y2 (runA (l.take j))) (.slice ka kn kc) (keysA (l.take j)) y11 := HI.out.chg hs11 hHelda11.2 hHelda11.1
          generalize (get y1 (runA (l.take j))).isSome = gb
          obtain ⟨z0, z1, z2⟩ := HF.out y11 hHelda11
          clear HF cS c0 c2 c3 hs11 ho11 hb11 hHelda11 hHelda HI
          obtain ⟨ka', kc', hsl⟩ := hI2.row.shape
          injection hsl with q1 q2 q3
          subst q1 q2 q3
          have hrow : y11.ownsRow w.heap.size 9 1 (.slice ka (keysA (l.take j)).length kc) (keysA (l.take j)).length ((keysA (l.take j)).map Value.string) := hI2.row
          have HI2 : Hid (LI w B (some ⟨b, off, none⟩) m c (ins y1 y2 (runA (l.take j))) (.slice ka (keysA (l.take j)).length kc) (keysA (l.take j)) y11) := hI2
          have hsz : w.heap.size ≤ y11.heap.size := hI2.bel.size
          clear hI2
          obtain ⟨kl, hkl⟩ : ∃ kl, kl = (keysA (l.take j)).length := ⟨_, rfl⟩
          have Hkl : Hid (kl = (keysA (l.take j)).length) := hkl
          have hklb : kl ≤ 2147483647 := by rw [hkl]; exact HKL.out
          rw [← hkl] at hrow
          have HR2 : Hid (LI w B (some ⟨b, off, none⟩) m c (ins y1 y2 (runA (l.take j))) (.slice ka kl kc) (keysA (l.take j)) y11) := by rw [hkl]; exact HI2.out
          rw [← hkl]
          clear hkl HI2
          have q2 : ∀ i u, [Value.string y1][i]? = some u → (y11.alloc (.cells #[.string y1] 9)).cell? ((⟨y11.heap.size, 0, none⟩ : Addr).add i) = some u := World.news_of_block (cs := #[.string y1]) (t := 9) (fr := (0, 0)) (heap_alloc_new y11 _)
          have q3 : ∀ u ∈ [Value.string y1], u.oneCell' = true := by simp [Value.oneCell']
          have q4 : kl + 1 ≤ maxLen := by unfold maxLen; omega
          have q5 : (kl + 1) * 16 ≤ 140737488355328 := by omega
          have q6 : w.heap.size ≤ (y11.alloc (.cells #[.string y1] 9)).heap.size := by rw [alloc_size]; omega
          go_wp2_with (at_builtin; refine wpList_append_own _ rfl _ _ 35 rfl w.heap.size 9 i0 _ 1 16 Try.underlying35 hi hz0 hz1 hz2 rfl (by decide) _ kl ((keysA (l.take j)).map Value.string) rfl (hrow.alloc _) ⟨y11.heap.size, 0, none⟩ 1 1 [.string y1] rfl rfl q2 q3 q4 q5 q6 ?_; clear q2 q3 q4 q5 q6; intro v' w1 hown' hgrow _; obtain ⟨g', cap', rfl⟩ := ownsRow_succ hown')
          refine ⟨⟨j + 1, by omega, by go_num, ⟨_, _, _, rfl⟩, ?_⟩, by simp [intOf]; omega⟩
          show LI _ _ _ _ _ _ _ _ _
          rw [HS1.out, HK1.out]
          refine HR2.out.app hrow hgrow ?_
          rw [Hkl.out] at hown' ⊢
          exact (by simpa using hown')
        · have h1b : (yk == 1) = false := by simpa using h1
          have HK1 : Hid (keysA (l.take (j + 1)) = keysA (l.take j)) := by show _ = _; rw [HKT.out, if_neg h1, List.append_nil]
          by_cases h3 : yk = 3
          · have HS1 : Hid (runA (l.take (j + 1)) = del y1 (runA (l.take j))) := by show _ = _; rw [HST.out, stepA]; exact (if_neg h1).trans (if_pos h3)
            have h3b : (yk == 3) = true := by rw [h3]; rfl
            clear HST HKT h1 h3
            go_wp2_with fail
            refine (delete_any wr B (runA (l.take j)) y1 HI.out.sh HLN.out).mono ?_
            rintro e w4 ⟨rfl, hs4, ho4, hb4⟩
            have HI2 : Hid (LI w B (some ⟨b, off, none⟩) m c (del y1 (runA (l.take j))) (.slice ka kn kc) (keysA (l.take j)) w4) := HI.out.chg hs4 ho4 hb4
            generalize (get y1 (runA (l.take j))).isSome = gb
            clear hs4 ho4 hb4 HI cS c0 c2 c3
            go_wp2
            go_roundw
            case rel => exact ⟨j + 1, by omega, by go_num, ⟨_, _, _, rfl⟩, by rw [HS1.out, HK1.out]; exact HI2⟩
            case measure => simp [intOf]; omega
          · have HS1 : Hid (runA (l.take (j + 1)) = runA (l.take j)) := by show _ = _; rw [HST.out, stepA]; exact (if_neg h1).trans (if_neg h3)
            have h3b : (yk == 3) = false := by simpa using h3
            clear HST HKT h1 h3
            go_wp2
            go_roundw
            case rel => exact ⟨j + 1, by omega, by go_num, ⟨_, _, _, rfl⟩, by rw [HS1.out, HK1.out]; exact HI⟩
            case measure => simp [intOf]; omega
      · have hjm2 : j = m := by omega
        have HI1 : Hid (LI w B a m c (runA l) (.slice ka kn kc) (keysA l) wr) := by
          have e := HI.out
          rw [hjm2, Hm.out, List.take_length] at e
          rw [Hm.out]
          exact e
        have hji : ¬ (j : Int) < (m : Int) := by omega
        clear HI hjm2

        go_upto_region 17 with fail
        have HRL : Hid ((runA l).length ≤ 2147483648) := by
          have h1 := runA_len l l.length (Nat.le_refl _)
          rw [List.take_length] at h1
          have h2 := Hm.out
          show _ ≤ _
          omega
        have hAc : AcIn wr w.heap.size a l := HA.out.keep HI1.out.bel (Nat.le_refl _)
        have HT := callsIn_wide.1 (told_in 6 (Nat.le_refl _) B (runA l) ⟨#[]⟩ ⟨#[]⟩ true false wr HI1.out.sh HRL.out)
        go_wp2_with fail
        refine HT.mono ?_
        clear HT
        rintro e w5 ⟨lv, rfl, hrow, hb5⟩
        rw [tell_all] at hrow
        have HI5 : Hid (LI w B a m c (runA l) (.slice ka kn kc) (keysA l) w5) := HI1.out.old hb5
        have HAc : Hid (AcIn w5 w.heap.size a l) := hAc.keep hb5 (HI1.out.bel.size)
        have hb5s : wr.heap.size ≤ w5.heap.size := hb5.size
        generalize wr.heap.size = base5 at *
        clear hAc HI1 hb5 cS
        obtain ⟨la, lc, hsl⟩ := hrow.shape
        obtain ⟨rn, hrn⟩ : ∃ rn, rn = (runA l).length := ⟨_, rfl⟩
        rw [← hrn] at hsl
        have Hrn : Hid (rn = (runA l).length) := hrn
        have hrb : rn ≤ 2147483648 := by rw [hrn]; exact HRL.out
        subst hsl
        have HROW : Hid (PRow w5 base5 (.slice la rn lc) (runA l)) := hrow
        have HLN := len_any w5 B (runA l) HI5.out.sh
        rw [← hrn] at HLN
        clear hrow hrn HRL
        go_wp2_with fail
        refine HLN.mono ?_
        clear HLN
        rintro e w6 ⟨rfl, rfl⟩
        go_wp2
        have hkn : Hid (kn = (keysA l).length) := by
          obtain ⟨x1, x2, e1⟩ := HI5.out.row.shape
          injection e1
        have hknb : kn ≤ 2147483647 := by
          have h1 := keysA_len l
          rw [hkn.out]
          have h2 := Hm.out
          omega
        go_loopw [9] (fun i wr2 => ∃ j2 : Nat, j2 ≤ rn ∧ i = .int .i64 (j2 : Int) ∧ Hid (Below w5.heap.size w5 wr2)) (fun i _ => rn - (intOf i).toNat)
        case atStart => exact ⟨0, Nat.zero_le _, rfl, Below.refl _ _⟩
        case round =>
          obtain ⟨j2, hj2, rfl, hb⟩ := hrel
          by_cases hjr : j2 < rn
          · have hji2 : (j2 : Int) < (rn : Int) := by omega
            have hj1 : j2 < (runA l).length := by rw [← Hrn.out]; exact hjr
            obtain ⟨g, cc, _, hg, q1, pat⟩ := PRow.at (HROW.out.old hb.out) (by omega)
            obtain ⟨z0, z1⟩ := pat j2 hj1
            have HGV : Hid (get (runA l)[j2].1 (runA l) = some (runA l)[j2].2) := (get_mem (runA_srt l)).2 (List.getElem_mem hj1)
            have HPV : Hid (∀ j3, j2 = j3 + 1 → ∃ k0, wr.cell? ⟨g, j3 * 2, none⟩ = some (.string k0) ∧ lt k0 (runA l)[j2].1 = true) := fun j3 e => by
              have hj3 : j3 < (runA l).length := by omega
              refine ⟨(runA l)[j3].1, (pat j3 hj3).1, ?_⟩
              have hs := runA_srt l
              unfold Srt at hs
              rw [List.pairwise_iff_getElem] at hs
              exact hs j3 j2 hj3 hj1 (by omega)
            obtain ⟨pr, hpr⟩ : ∃ pr, pr = (runA l)[j2] := ⟨_, rfl⟩
            rw [← hpr] at z0 z1 HGV HPV
            obtain ⟨pk, pv⟩ := pr
            dsimp only at z0 z1 HGV HPV
            injection q1 with q1 q2 q3
            subst q1
            clear hpr pat q2 q3
            have hLS := last_any wr w.heap.size w.heap.size a c l pk (by rw [← Hm.out]; exact (HI5.out.old hb.out).box.c1) (HAc.out.keep hb.out HI5.out.bel.size) (by rw [← Hm.out]; exact hm2)
            rw [getV, HGV.out] at hLS
            simp only [Option.getD_some, Option.isSome_some] at hLS
            go_wp2_with fail
            refine hLS.mono ?_
            clear hLS
            rintro e wq ⟨rfl, rfl⟩
            have hgs : g < wr.heap.size := hg
            cases j2 with
            | zero =>
              have HF : Hid (∀ x, Below wr.heap.size wr x → x.cell? ⟨g, 0 * 2, none⟩ = some (.string pk) ∧ x.cell? ⟨g, 0 * 2 + 1, none⟩ = some (.string pv)) := fun x hx => ⟨(hx.cell (p := ⟨g, _, none⟩) hgs).trans z0, (hx.cell (p := ⟨g, _, none⟩) hgs).trans z1⟩
              clear z0 z1 HPV
              go_upto_region 24 with fail
              refine wp_region_held_drew (S := fun x => Below wr.heap.size wr x) (by kernel_rfl) ((Below.refl _ _).drew) (fun hHeldb => ?_)
              refine wpAnyH_takeD (i := 0) (some 98) (v := ?vb0) rfl rfl (by kernel_rfl) (by kernel_rfl) (by kernel_rfl) (fun _ _ _ h => h) (Or.inl ⟨by kernel_rfl, ?hyb0⟩) (by assumption) ?restb0
              case hyb0 => (intro x hSx; (try dsimp only at hSx); go_simp; first | done | with_reducible rfl)
              try simp only [Act.put, List.setIfInBounds_toArray, List.set_cons_zero, List.set_cons_succ]
              refine wpAnyH_takeD (i := 1) (some 99) (v := .bool false) rfl rfl (by kernel_rfl) (by kernel_rfl) (by kernel_rfl) (fun _ _ _ h => h) (Or.inl ⟨by kernel_rfl, ?hyb1⟩) (by assumption) ?restb1
              case hyb1 => (intro x hSx; (try dsimp only at hSx); go_simp; first | done | with_reducible rfl)
              try simp only [Act.put, List.setIfInBounds_toArray, List.set_cons_zero, List.set_cons_succ]
              refine wpAnyH_takeD (i := 2) (some 100) (v := ?vb2) rfl rfl (by kernel_rfl) (by kernel_rfl) (by kernel_rfl) (fun _ _ _ h => h) (Or.inl ⟨by kernel_rfl, ?hyb2⟩) (by assumption) ?restb2
              case hyb2 => (intro x hSx; (try dsimp only at hSx); go_simp; first | done | with_reducible rfl)
              try simp only [Act.put, List.setIfInBounds_toArray, List.set_cons_zero, List.set_cons_succ]
              refine wpAnyH_takeD (i := 3) (some 101) (v := ?vb3) rfl rfl (by kernel_rfl) (by kernel_rfl) (by kernel_rfl) (fun _ _ _ h => h) (Or.inl ⟨by kernel_rfl, ?hyb3⟩) (by assumption) ?restb3
              case hyb3 => (intro x hSx; (try dsimp only at hSx); go_simp; first | done | with_reducible rfl)
              try simp only [Act.put, List.setIfInBounds_toArray, List.set_cons_zero, List.set_cons_succ]
              refine wpAnyH_takeD (i := 4) (some 102) (v := ?vb4) rfl rfl (by kernel_rfl) (by kernel_rfl) (by kernel_rfl) (fun _ _ _ h => h) (Or.inl ⟨by kernel_rfl, ?hyb4⟩) (by assumption) ?restb4
              case hyb4 => (intro x hSx; (try dsimp only at hSx); go_simp; first | done | with_reducible rfl)
              try simp only [Act.put, List.setIfInBounds_toArray, List.set_cons_zero, List.set_cons_succ]
              refine wpAnyH_takeD (i := 5) (some 103) (v := ?vb5) rfl rfl (by kernel_rfl) (by kernel_rfl) (by kernel_rfl) (fun _ _ _ h => h) (Or.inl ⟨by kernel_rfl, ?hyb5⟩) (by assumption) ?restb5
              case hyb5 => (intro x hSx; (try dsimp only at hSx); go_simp; first | done | with_reducible rfl)
              try simp only [Act.put, List.setIfInBounds_toArray, List.set_cons_zero, List.set_cons_succ]
              refine wpAnyH_takeD (i := 6) (some 104) (v := ?vb6) rfl rfl (by kernel_rfl) (by kernel_rfl) (by kernel_rfl) (fun _ _ _ h => h) (Or.inl ⟨by kernel_rfl, ?hyb6⟩) (by assumption) ?restb6
              case hyb6 => (intro x hSx; (try dsimp only at hSx); go_simp; first | done | with_reducible rfl)
              try simp only [Act.put, List.setIfInBounds_toArray, List.set_cons_zero, List.set_cons_succ]
              refine wpAnyH_takeD (i := 7) (some 105) (v := ?vb7) rfl rfl (by kernel_rfl) (by kernel_rfl) (by kernel_rfl) (fun _ _ _ h => h) (Or.inl ⟨by kernel_rfl, ?hyb7⟩) (by assumption) ?restb7
              case hyb7 => (intro x hSx; (try dsimp only at hSx); go_simp; first | done | with_reducible rfl)
              try simp only [Act.put, List.setIfInBounds_toArray, List.set_cons_zero, List.set_cons_succ]
              refine wpAnyH_takeD (i := 8) (some 106) (v := ?vb8) rfl rfl (by kernel_rfl) (by kernel_rfl) (by kernel_rfl) (fun _ _ _ h => h) (Or.inl ⟨by kernel_rfl, ?hyb8⟩) (by assumption) ?restb8
              case hyb8 => (intro x hSx; (try dsimp only at hSx); obtain ⟨z0, z1⟩ := HF.out x hSx; go_simp; first | done | with_reducible rfl)
              try simp only [Act.put, List.setIfInBounds_toArray, List.set_cons_zero, List.set_cons_succ]
              refine wpAnyH_takeD (i := 9) (some 107) (v := .bool false) rfl rfl (by kernel_rfl) (by kernel_rfl) (by kernel_rfl) (fun _ _ _ h => h) (Or.inl ⟨by kernel_rfl, ?hyb9⟩) (by assumption) ?restb9
              case hyb9 => (intro x hSx; (try dsimp only at hSx); go_simp; first | done | with_reducible rfl)
              try simp only [Act.put, List.setIfInBounds_toArray, List.set_cons_zero, List.set_cons_succ]
              refine wpAnyH_takeD (i := 10) (some 108) (v := ?vb10) rfl rfl (by kernel_rfl) (by kernel_rfl) (by kernel_rfl) (fun _ _ _ h => h) (Or.inl ⟨by kernel_rfl, ?hyb10⟩) (by assumption) ?restb10
              case hyb10 => (intro x hSx; (try dsimp only at hSx); go_simp; first | done | with_reducible rfl)
              try simp only [Act.put, List.setIfInBounds_toArray, List.set_cons_zero, List.set_cons_succ]
              refine wpAnyH_takeD (i := 11) (some 109) (v := ?vb11) rfl rfl (by kernel_rfl) (by kernel_rfl) (by kernel_rfl) (fun _ _ _ h => h) (Or.inl ⟨by kernel_rfl, ?hyb11⟩) (by assumption) ?restb11
              case hyb11 => (intro x hSx; (try dsimp only at hSx); go_simp; first | done | with_reducible rfl)
              try simp only [Act.put, List.setIfInBounds_toArray, List.set_cons_zero, List.set_cons_succ]
              refine wpAnyH_takeD (i := 12) (some 110) (v := ?vb12) rfl rfl (by kernel_rfl) (by kernel_rfl) (by kernel_rfl) (fun _ _ _ h => h) (Or.inl ⟨by kernel_rfl, ?hyb12⟩) (by assumption) ?restb12
              case hyb12 => (intro x hSx; (try dsimp only at hSx); go_simp; first | done | with_reducible rfl)
              try simp only [Act.put, List.setIfInBounds_toArray, List.set_cons_zero, List.set_cons_succ]
              refine wpAnyH_takeD (i := 13) (some 111) (v := .bool false) rfl rfl (by kernel_rfl) (by kernel_rfl) (by kernel_rfl) (fun _ _ _ h => h) (Or.inl ⟨by kernel_rfl, ?hyb13⟩) (by assumption) ?restb13
              case hyb13 => (intro x hSx; (try dsimp only at hSx); go_simp; first | done | with_reducible rfl)
              try simp only [Act.put, List.setIfInBounds_toArray, List.set_cons_zero, List.set_cons_succ]
              refine wpAnyH_takeD (i := 14) (some 112) (v := ?vb14) rfl rfl (by kernel_rfl) (by kernel_rfl) (by kernel_rfl) (fun _ _ _ h => h) (Or.inl ⟨by kernel_rfl, ?hyb14⟩) (by assumption) ?restb14
              case hyb14 => (intro x hSx; (try dsimp only at hSx); go_simp; first | done | with_reducible rfl)
              try simp only [Act.put, List.setIfInBounds_toArray, List.set_cons_zero, List.set_cons_succ]
              refine wpAnyH_takeD (i := 15) (some 113) (v := undef) rfl rfl (by kernel_rfl) (by kernel_rfl) (by kernel_rfl) (fun _ _ _ h => h) (Or.inr ⟨by kernel_rfl, rfl⟩) (by assumption) ?_
              try simp only [Act.put, List.setIfInBounds_toArray, List.set_cons_zero, List.set_cons_succ]
              refine wpAnyH_takeD (i := 16) (some 114) (v := undef) rfl rfl (by kernel_rfl) (by kernel_rfl) (by kernel_rfl) (fun _ _ _ h => h) (Or.inr ⟨by kernel_rfl, rfl⟩) (by assumption) ?_
              try simp only [Act.put, List.setIfInBounds_toArray, List.set_cons_zero, List.set_cons_succ]
              refine wpAnyH_takeD (i := 17) (some 115) (v := undef) rfl rfl (by kernel_rfl) (by kernel_rfl) (by kernel_rfl) (fun _ _ _ h => h) (Or.inr ⟨by kernel_rfl, rfl⟩) (by assumption) ?_
              try simp only [Act.put, List.setIfInBounds_toArray, List.set_cons_zero, List.set_cons_succ]
              refine wpAnyH_takeD (i := 18) (some 116) (v := undef) rfl rfl (by kernel_rfl) (by kernel_rfl) (by kernel_rfl) (fun _ _ _ h => h) (Or.inr ⟨by kernel_rfl, rfl⟩) (by assumption) ?_
              try simp only [Act.put, List.setIfInBounds_toArray, List.set_cons_zero, List.set_cons_succ]
              refine wpAnyH_takeD (i := 19) (some 117) (v := undef) rfl rfl (by kernel_rfl) (by kernel_rfl) (by kernel_rfl) (fun _ _ _ h => h) (Or.inr ⟨by kernel_rfl, rfl⟩) (by assumption) ?_
              try simp only [Act.put, List.setIfInBounds_toArray, List.set_cons_zero, List.set_cons_succ]
              refine wpAnyH_takeD (i := 20) (some 118) (v := undef) rfl rfl (by kernel_rfl) (by kernel_rfl) (by kernel_rfl) (fun _ _ _ h => h) (Or.inr ⟨by kernel_rfl, rfl⟩) (by assumption) ?_
              try simp only [Act.put, List.setIfInBounds_toArray, List.set_cons_zero, List.set_cons_succ]
              refine wpAnyH_takeD (i := 21) (some 119) (v := undef) rfl rfl (by kernel_rfl) (by kernel_rfl) (by kernel_rfl) (fun _ _ _ h => h) (Or.inr ⟨by kernel_rfl, rfl⟩) (by assumption) ?_
              try simp only [Act.put, List.setIfInBounds_toArray, List.set_cons_zero, List.set_cons_succ]
              refine wpAnyH_takeD (i := 22) (some 120) (v := undef) rfl rfl (by kernel_rfl) (by kernel_rfl) (by kernel_rfl) (fun _ _ _ h => h) (Or.inr ⟨by kernel_rfl, rfl⟩) (by assumption) ?_
              try simp only [Act.put, List.setIfInBounds_toArray, List.set_cons_zero, List.set_cons_succ]
              refine wpAnyH_takeD (i := 23) (some 121) (v := undef) rfl rfl (by kernel_rfl) (by kernel_rfl) (by kernel_rfl) (fun _ _ _ h => h) (Or.inr ⟨by kernel_rfl, rfl⟩) (by assumption) ?_
              try simp only [Act.put, List.setIfInBounds_toArray, List.set_cons_zero, List.set_cons_succ]
              refine wpAnyH_takeD (i := 24) (some 122) (v := undef) rfl rfl (by kernel_rfl) (by kernel_rfl) (by kernel_rfl) (fun _ _ _ h => h) (Or.inr ⟨by kernel_rfl, rfl⟩) (by assumption) ?_
              try simp only [Act.put, List.setIfInBounds_toArray, List.set_cons_zero, List.set_cons_succ]
              refine wpAnyH_takeD (i := 25) (some 123) (v := undef) rfl rfl (by kernel_rfl) (by kernel_rfl) (by kernel_rfl) (fun _ _ _ h => h) (Or.inr ⟨by kernel_rfl, rfl⟩) (by assumption) ?_
              try simp only [Act.put, List.setIfInBounds_toArray, List.set_cons_zero, List.set_cons_succ]
              refine wpAnyH_takeD (i := 26) (some 124) (v := undef) rfl rfl (by kernel_rfl) (by kernel_rfl) (by kernel_rfl) (fun _ _ _ h => h) (Or.inr ⟨by kernel_rfl, rfl⟩) (by assumption) ?_
              try simp only [Act.put, List.setIfInBounds_toArray, List.set_cons_zero, List.set_cons_succ]
              refine wpAnyH_takeD (i := 27) (some 125) (v := ?vb27) rfl rfl (by kernel_rfl) (by kernel_rfl) (by kernel_rfl) (fun _ _ _ h => h) (Or.inl ⟨by kernel_rfl, ?hyb27⟩) (by assumption) ?restb27
              case hyb27 => (intro x hSx; (try dsimp only at hSx); go_simp; first | done | with_reducible rfl)
              try simp only [Act.put, List.setIfInBounds_toArray, List.set_cons_zero, List.set_cons_succ]
              refine wpAnyH_takeD (i := 28) (some 126) (v := ?vb28) rfl rfl (by kernel_rfl) (by kernel_rfl) (by kernel_rfl) (fun _ _ _ h => h) (Or.inl ⟨by kernel_rfl, ?hyb28⟩) (by assumption) ?restb28
              case hyb28 => (intro x hSx; (try dsimp only at hSx); go_simp; first | done | with_reducible rfl)
              try simp only [Act.put, List.setIfInBounds_toArray, List.set_cons_zero, List.set_cons_succ]
              refine wpAnyH_done (by kernel_rfl) ?_ _
              clear HF
              go_wp2
              go_roundw
              case rel => exact ⟨0 + 1, by omega, by go_num, hb.out.trans (hHeldb.mono hb.out.size)⟩
              case measure => simp [intOf]; omega
            | succ j3 =>
              obtain ⟨k0, z2, hlt⟩ := HPV.out j3 rfl
              have hltb : Op.bytesLess k0.toList pk.toList = true := hlt
              have HF : Hid (∀ x, Below wr.heap.size wr x → x.cell? ⟨g, (j3 + 1) * 2, none⟩ = some (.string pk) ∧ x.cell? ⟨g, (j3 + 1) * 2 + 1, none⟩ = some (.string pv) ∧ x.cell? ⟨g, j3 * 2, none⟩ = some (.string k0)) := fun x hx => ⟨(hx.cell (p := ⟨g, _, none⟩) hgs).trans z0, (hx.cell (p := ⟨g, _, none⟩) hgs).trans z1, (hx.cell (p := ⟨g, _, none⟩) hgs).trans z2⟩
              have hwr : IntKind.i64.wrap (j3 : Int) = (j3 : Int) := IntWalk.i64_in _ (by omega)
              have hpos : (0 : Int) < (j3 : Int) + 1 := by omega
              have hx0 : (0 : Int) ≤ (j3 : Int) + 1 := by omega
              have hx1 : (j3 : Int) + 1 < (rn : Int) := by omega
              have hx2 : (0 : Int) ≤ (j3 : Int) := by omega
              have hj3r : (j3 : Int) < (rn : Int) := by omega
              clear z0 z1 z2 HPV hlt
              go_upto_region 24 with fail
              refine wp_region_held_drew (S := fun x => Below wr.heap.size wr x) (by kernel_rfl) ((Below.refl _ _).drew) (fun hHeldd => ?_)
              refine wpAnyH_takeD (i := 0) (some 98) (v := ?vd0) rfl rfl (by kernel_rfl) (by kernel_rfl) (by kernel_rfl) (fun _ _ _ h => h) (Or.inl ⟨by kernel_rfl, ?hyd0⟩) (by assumption) ?restd0
              case hyd0 => (intro x hSx; (try dsimp only at hSx); go_simp; first | done | with_reducible rfl)
              try simp only [Act.put, List.setIfInBounds_toArray, List.set_cons_zero, List.set_cons_succ]
              refine wpAnyH_takeD (i := 1) (some 99) (v := .bool false) rfl rfl (by kernel_rfl) (by kernel_rfl) (by kernel_rfl) (fun _ _ _ h => h) (Or.inl ⟨by kernel_rfl, ?hyd1⟩) (by assumption) ?restd1
              case hyd1 => (intro x hSx; (try dsimp only at hSx); go_simp; first | done | with_reducible rfl)
              try simp only [Act.put, List.setIfInBounds_toArray, List.set_cons_zero, List.set_cons_succ]
              refine wpAnyH_takeD (i := 2) (some 100) (v := ?vd2) rfl rfl (by kernel_rfl) (by kernel_rfl) (by kernel_rfl) (fun _ _ _ h => h) (Or.inl ⟨by kernel_rfl, ?hyd2⟩) (by assumption) ?restd2
              case hyd2 => (intro x hSx; (try dsimp only at hSx); go_simp; first | done | with_reducible rfl)
              try simp only [Act.put, List.setIfInBounds_toArray, List.set_cons_zero, List.set_cons_succ]
              refine wpAnyH_takeD (i := 3) (some 101) (v := ?vd3) rfl rfl (by kernel_rfl) (by kernel_rfl) (by kernel_rfl) (fun _ _ _ h => h) (Or.inl ⟨by kernel_rfl, ?hyd3⟩) (by assumption) ?restd3
              case hyd3 => (intro x hSx; (try dsimp only at hSx); go_simp; first | done | with_reducible rfl)
              try simp only [Act.put, List.setIfInBounds_toArray, List.set_cons_zero, List.set_cons_succ]
              refine wpAnyH_takeD (i := 4) (some 102) (v := ?vd4) rfl rfl (by kernel_rfl) (by kernel_rfl) (by kernel_rfl) (fun _ _ _ h => h) (Or.inl ⟨by kernel_rfl, ?hyd4⟩) (by assumption) ?restd4
              case hyd4 => (intro x hSx; (try dsimp only at hSx); go_simp; first | done | with_reducible rfl)
              try simp only [Act.put, List.setIfInBounds_toArray, List.set_cons_zero, List.set_cons_succ]
              refine wpAnyH_takeD (i := 5) (some 103) (v := ?vd5) rfl rfl (by kernel_rfl) (by kernel_rfl) (by kernel_rfl) (fun _ _ _ h => h) (Or.inl ⟨by kernel_rfl, ?hyd5⟩) (by assumption) ?restd5
              case hyd5 => (intro x hSx; (try dsimp only at hSx); go_simp; first | done | with_reducible rfl)
              try simp only [Act.put, List.setIfInBounds_toArray, List.set_cons_zero, List.set_cons_succ]
              refine wpAnyH_takeD (i := 6) (some 104) (v := ?vd6) rfl rfl (by kernel_rfl) (by kernel_rfl) (by kernel_rfl) (fun _ _ _ h => h) (Or.inl ⟨by kernel_rfl, ?hyd6⟩) (by assumption) ?restd6
              case hyd6 => (intro x hSx; (try dsimp only at hSx); go_simp; first | done | with_reducible rfl)
              try simp only [Act.put, List.setIfInBounds_toArray, List.set_cons_zero, List.set_cons_succ]
              refine wpAnyH_takeD (i := 7) (some 105) (v := ?vd7) rfl rfl (by kernel_rfl) (by kernel_rfl) (by kernel_rfl) (fun _ _ _ h => h) (Or.inl ⟨by kernel_rfl, ?hyd7⟩) (by assumption) ?restd7
              case hyd7 => (intro x hSx; (try dsimp only at hSx); go_simp; first | done | with_reducible rfl)
              try simp only [Act.put, List.setIfInBounds_toArray, List.set_cons_zero, List.set_cons_succ]
              refine wpAnyH_takeD (i := 8) (some 106) (v := ?vd8) rfl rfl (by kernel_rfl) (by kernel_rfl) (by kernel_rfl) (fun _ _ _ h => h) (Or.inl ⟨by kernel_rfl, ?hyd8⟩) (by assumption) ?restd8
              case hyd8 => (intro x hSx; (try dsimp only at hSx); obtain ⟨z0, z1, z2⟩ := HF.out x hSx; go_simp; first | done | with_reducible rfl)
              try simp only [Act.put, List.setIfInBounds_toArray, List.set_cons_zero, List.set_cons_succ]
              refine wpAnyH_takeD (i := 9) (some 107) (v := .bool false) rfl rfl (by kernel_rfl) (by kernel_rfl) (by kernel_rfl) (fun _ _ _ h => h) (Or.inl ⟨by kernel_rfl, ?hyd9⟩) (by assumption) ?restd9
              case hyd9 => (intro x hSx; (try dsimp only at hSx); go_simp; first | done | with_reducible rfl)
              try simp only [Act.put, List.setIfInBounds_toArray, List.set_cons_zero, List.set_cons_succ]
              refine wpAnyH_takeD (i := 10) (some 108) (v := ?vd10) rfl rfl (by kernel_rfl) (by kernel_rfl) (by kernel_rfl) (fun _ _ _ h => h) (Or.inl ⟨by kernel_rfl, ?hyd10⟩) (by assumption) ?restd10
              case hyd10 => (intro x hSx; (try dsimp only at hSx); go_simp; first | done | with_reducible rfl)
              try simp only [Act.put, List.setIfInBounds_toArray, List.set_cons_zero, List.set_cons_succ]
              refine wpAnyH_takeD (i := 11) (some 109) (v := ?vd11) rfl rfl (by kernel_rfl) (by kernel_rfl) (by kernel_rfl) (fun _ _ _ h => h) (Or.inl ⟨by kernel_rfl, ?hyd11⟩) (by assumption) ?restd11
              case hyd11 => (intro x hSx; (try dsimp only at hSx); go_simp; first | done | with_reducible rfl)
              try simp only [Act.put, List.setIfInBounds_toArray, List.set_cons_zero, List.set_cons_succ]
              refine wpAnyH_takeD (i := 12) (some 110) (v := ?vd12) rfl rfl (by kernel_rfl) (by kernel_rfl) (by kernel_rfl) (fun _ _ _ h => h) (Or.inl ⟨by kernel_rfl, ?hyd12⟩) (by assumption) ?restd12
              case hyd12 => (intro x hSx; (try dsimp only at hSx); go_simp; first | done | with_reducible rfl)
              try simp only [Act.put, List.setIfInBounds_toArray, List.set_cons_zero, List.set_cons_succ]
              refine wpAnyH_takeD (i := 13) (some 111) (v := .bool true) rfl rfl (by kernel_rfl) (by kernel_rfl) (by kernel_rfl) (fun _ _ _ h => h) (Or.inl ⟨by kernel_rfl, ?hyd13⟩) (by assumption) ?restd13
              case hyd13 => (intro x hSx; (try dsimp only at hSx); go_simp; first | done | with_reducible rfl)
              try simp only [Act.put, List.setIfInBounds_toArray, List.set_cons_zero, List.set_cons_succ]
              refine wpAnyH_takeD (i := 14) (some 112) (v := ?vd14) rfl rfl (by kernel_rfl) (by kernel_rfl) (by kernel_rfl) (fun _ _ _ h => h) (Or.inl ⟨by kernel_rfl, ?hyd14⟩) (by assumption) ?restd14
              case hyd14 => (intro x hSx; (try dsimp only at hSx); go_simp; first | done | with_reducible rfl)
              try simp only [Act.put, List.setIfInBounds_toArray, List.set_cons_zero, List.set_cons_succ]
              refine wpAnyH_takeD (i := 15) (some 113) (v := ?vd15) rfl rfl (by kernel_rfl) (by kernel_rfl) (by kernel_rfl) (fun _ _ _ h => h) (Or.inl ⟨by kernel_rfl, ?hyd15⟩) (by assumption) ?restd15
              case hyd15 => (intro x hSx; (try dsimp only at hSx); go_simp; first | done | with_reducible rfl)
              try simp only [Act.put, List.setIfInBounds_toArray, List.set_cons_zero, List.set_cons_succ]
              refine wpAnyH_takeD (i := 16) (some 114) (v := ?vd16) rfl rfl (by kernel_rfl) (by kernel_rfl) (by kernel_rfl) (fun _ _ _ h => h) (Or.inl ⟨by kernel_rfl, ?hyd16⟩) (by assumption) ?restd16
              case hyd16 => (intro x hSx; (try dsimp only at hSx); go_simp; first | done | with_reducible rfl)
              try simp only [Act.put, List.setIfInBounds_toArray, List.set_cons_zero, List.set_cons_succ]
              refine wpAnyH_takeD (i := 17) (some 115) (v := .int .i64 (j3 : Int)) rfl rfl (by kernel_rfl) (by kernel_rfl) (by kernel_rfl) (fun _ _ _ h => h) (Or.inl ⟨by kernel_rfl, ?hyd17⟩) (by assumption) ?restd17
              case hyd17 => (intro x hSx; (try dsimp only at hSx); go_simp; first | done | with_reducible rfl)
              try simp only [Act.put, List.setIfInBounds_toArray, List.set_cons_zero, List.set_cons_succ]
              refine wpAnyH_takeD (i := 18) (some 116) (v := ?vd18) rfl rfl (by kernel_rfl) (by kernel_rfl) (by kernel_rfl) (fun _ _ _ h => h) (Or.inl ⟨by kernel_rfl, ?hyd18⟩) (by assumption) ?restd18
              case hyd18 => (intro x hSx; (try dsimp only at hSx); go_simp; first | done | with_reducible rfl)
              try simp only [Act.put, List.setIfInBounds_toArray, List.set_cons_zero, List.set_cons_succ]
              refine wpAnyH_takeD (i := 19) (some 117) (v := ?vd19) rfl rfl (by kernel_rfl) (by kernel_rfl) (by kernel_rfl) (fun _ _ _ h => h) (Or.inl ⟨by kernel_rfl, ?hyd19⟩) (by assumption) ?restd19
              case hyd19 => (intro x hSx; (try dsimp only at hSx); go_simp; first | done | with_reducible rfl)
              try simp only [Act.put, List.setIfInBounds_toArray, List.set_cons_zero, List.set_cons_succ]
              refine wpAnyH_takeD (i := 20) (some 118) (v := ?vd20) rfl rfl (by kernel_rfl) (by kernel_rfl) (by kernel_rfl) (fun _ _ _ h => h) (Or.inl ⟨by kernel_rfl, ?hyd20⟩) (by assumption) ?restd20
              case hyd20 => (intro x hSx; (try dsimp only at hSx); obtain ⟨z0, z1, z2⟩ := HF.out x hSx; go_simp; first | done | with_reducible rfl)
              try simp only [Act.put, List.setIfInBounds_toArray, List.set_cons_zero, List.set_cons_succ]
              refine wpAnyH_takeD (i := 21) (some 119) (v := ?vd21) rfl rfl (by kernel_rfl) (by kernel_rfl) (by kernel_rfl) (fun _ _ _ h => h) (Or.inl ⟨by kernel_rfl, ?hyd21⟩) (by assumption) ?restd21
              case hyd21 => (intro x hSx; (try dsimp only at hSx); go_simp; first | done | with_reducible rfl)
              try simp only [Act.put, List.setIfInBounds_toArray, List.set_cons_zero, List.set_cons_succ]
              refine wpAnyH_takeD (i := 22) (some 120) (v := ?vd22) rfl rfl (by kernel_rfl) (by kernel_rfl) (by kernel_rfl) (fun _ _ _ h => h) (Or.inl ⟨by kernel_rfl, ?hyd22⟩) (by assumption) ?restd22
              case hyd22 => (intro x hSx; (try dsimp only at hSx); go_simp; first | done | with_reducible rfl)
              try simp only [Act.put, List.setIfInBounds_toArray, List.set_cons_zero, List.set_cons_succ]
              refine wpAnyH_takeD (i := 23) (some 121) (v := ?vd23) rfl rfl (by kernel_rfl) (by kernel_rfl) (by kernel_rfl) (fun _ _ _ h => h) (Or.inl ⟨by kernel_rfl, ?hyd23⟩) (by assumption) ?restd23
              case hyd23 => (intro x hSx; (try dsimp only at hSx); go_simp; first | done | with_reducible rfl)
              try simp only [Act.put, List.setIfInBounds_toArray, List.set_cons_zero, List.set_cons_succ]
              refine wpAnyH_takeD (i := 24) (some 122) (v := ?vd24) rfl rfl (by kernel_rfl) (by kernel_rfl) (by kernel_rfl) (fun _ _ _ h => h) (Or.inl ⟨by kernel_rfl, ?hyd24⟩) (by assumption) ?restd24
              case hyd24 => (intro x hSx; (try dsimp only at hSx); go_simp; first | done | with_reducible rfl)
              try simp only [Act.put, List.setIfInBounds_toArray, List.set_cons_zero, List.set_cons_succ]
              refine wpAnyH_takeD (i := 25) (some 123) (v := ?vd25) rfl rfl (by kernel_rfl) (by kernel_rfl) (by kernel_rfl) (fun _ _ _ h => h) (Or.inl ⟨by kernel_rfl, ?hyd25⟩) (by assumption) ?restd25
              case hyd25 => (intro x hSx; (try dsimp only at hSx); obtain ⟨z0, z1, z2⟩ := HF.out x hSx; go_simp; first | done | with_reducible rfl)
              try simp only [Act.put, List.setIfInBounds_toArray, List.set_cons_zero, List.set_cons_succ]
              refine wpAnyH_takeD (i := 26) (some 124) (v := .bool false) rfl rfl (by kernel_rfl) (by kernel_rfl) (by kernel_rfl) (fun _ _ _ h => h) (Or.inl ⟨by kernel_rfl, ?hyd26⟩) (by assumption) ?restd26
              case hyd26 => (intro x hSx; (try dsimp only at hSx); go_simp; first | done | with_reducible rfl)
              try simp only [Act.put, List.setIfInBounds_toArray, List.set_cons_zero, List.set_cons_succ]
              refine wpAnyH_takeD (i := 27) (some 125) (v := ?vd27) rfl rfl (by kernel_rfl) (by kernel_rfl) (by kernel_rfl) (fun _ _ _ h => h) (Or.inl ⟨by kernel_rfl, ?hyd27⟩) (by assumption) ?restd27
              case hyd27 => (intro x hSx; (try dsimp only at hSx); go_simp; first | done | with_reducible rfl)
              try simp only [Act.put, List.setIfInBounds_toArray, List.set_cons_zero, List.set_cons_succ]
              refine wpAnyH_takeD (i := 28) (some 126) (v := ?vd28) rfl rfl (by kernel_rfl) (by kernel_rfl) (by kernel_rfl) (fun _ _ _ h => h) (Or.inl ⟨by kernel_rfl, ?hyd28⟩) (by assumption) ?restd28
              case hyd28 => (intro x hSx; (try dsimp only at hSx); go_simp; first | done | with_reducible rfl)
              try simp only [Act.put, List.setIfInBounds_toArray, List.set_cons_zero, List.set_cons_succ]
              refine wpAnyH_done (by kernel_rfl) ?_ _
              clear HF
              go_wp2
              go_roundw
              case rel => exact ⟨j3 + 1 + 1, by omega, by go_num, hb.out.trans (hHeldd.mono hb.out.size)⟩
              case measure => simp [intOf]; omega
          · have hji2 : ¬ (j2 : Int) < (rn : Int) := by omega
            have HI6 : Hid (LI w B a m c (runA l) (.slice ka kn kc) (keysA l) wr) := HI5.out.old hb.out
            have HR6 : Hid (PRow wr base5 (.slice la rn lc) (runA l)) := HROW.out.old hb.out
            go_wp2_with fail
            refine (new_any wr).mono ?_
            rintro e w7 ⟨rfl, hs7, hb7⟩
            have hBC : B < wr.heap.size := HI6.out.sh.lt
            have HI7 : Hid (LI w B a m c (runA l) (.slice ka kn kc) (keysA l) w7) := HI6.out.old hb7
            have HR7 : Hid (PRow w7 base5 (.slice la rn lc) (runA l)) := HR6.out.old hb7
            have HS7 : Hid (ShAt w7 wr.heap.size []) := hs7
            clear HI6 HR6 hs7 hb7 HROW HI5 HAc hb hb5s
            generalize wr.heap.size = C at *
            go_wp2
            go_loopw [13] (fun i wr3 => ∃ (j3 : Nat) (M : List Pr), j3 ≤ kn ∧ i = .int .i64 ((j3 : Int) - 1) ∧ Hid (LI w B a m c (runA l) (.slice ka kn kc) (keysA l) wr3) ∧ Hid (ShAt wr3 C M) ∧ Hid (Given (runA l) M ((keysA l).drop j3)) ∧ Hid (PRow wr3 base5 (.slice la rn lc) (runA l))) (fun i _ => (intOf i + 1).toNat)
            case atStart =>
              refine ⟨kn, [], Nat.le_refl _, by go_num, HI7, HS7, ?_, HR7⟩
              show Given _ _ _
              rw [hkn.out, List.drop_length]
              exact Given.nil _
            case round =>
              obtain ⟨j3, M, hj3, rfl, HI8, HS8, HG8, HR8⟩ := hrel
              clear HI7 HR7 HS7
              cases j3 with
              | zero =>
                have e0 : ((0 : Nat) : Int) - 1 = -1 := rfl
                rw [e0]
                have HMR : Hid (M = runA l) := by
                  have := HG8.out
                  rw [List.drop_zero] at this
                  exact this.all
                have HRL2 : Hid ((runA l).length ≤ 2147483648) := by show _ ≤ _; rw [← Hrn.out]; exact hrb
                have HSR : Hid (ShAt wr C (runA l)) := by rw [← HMR.out]; exact HS8
                clear HS8 HG8 e0
                have HT := callsIn_wide.1 (told_in 6 (Nat.le_refl _) C (runA l) ⟨#[]⟩ ⟨#[]⟩ true false wr HSR.out HRL2.out)
                go_wp2_with fail
                refine HT.mono ?_
                clear HT
                rintro e w9 ⟨mv, rfl, hrow9, hb9⟩
                rw [tell_all] at hrow9
                have HB9 : Hid (Below w.heap.size w w9) := HI8.out.bel.trans (hb9.mono HI8.out.bel.size)
                have hR9 := HR8.out.old hb9
                have HSM := same_any w9 base5 wr.heap.size (.slice la rn lc) mv (runA l) (runA l) hR9 hrow9 (Nat.le_trans HRL2.out (by decide))
                obtain ⟨ma, mc, e9⟩ := hrow9.shape
                obtain ⟨mn, hmn⟩ : ∃ mn, mn = (runA l).length := ⟨_, rfl⟩
                rw [← hmn] at e9
                subst e9
                rw [decide_eq_true rfl] at HSM
                clear hmn hrow9 hR9 hb9 HI8 HR8 HSR HMR
                go_wp2_with fail
                refine HSM.mono ?_
                clear HSM
                rintro e w10 ⟨rfl, hb10⟩
                have HB10 : Hid (Below w.heap.size w w10) := HB9.out.trans (hb10.mono HB9.out.size)
                clear HB9 hb10
                go_wp2_with fail
                refine (callsIn_wide.1 (awake_in 8 (Nat.le_refl _) w10)).mono ?_
                rintro e w11 ⟨rfl, hb11⟩
                go_wp2
                go_ret
                exact ⟨rfl, HB10.out.trans (hb11.mono HB10.out.size)⟩
              | succ j3 =>
                have e0 : ((j3 + 1 : Nat) : Int) - 1 = (j3 : Int) := by omega
                rw [e0]
                have hj30 : (0 : Int) ≤ (j3 : Int) := by omega
                have hj3k : (j3 : Int) < (kn : Int) := by omega
                have hj31 : j3 < (keysA l).length := by rw [← hkn.out]; omega
                obtain ⟨g, cc, q1, hg, pat⟩ := HI8.out.row.at (by omega)
                have z0 := pat j3 hj31
                obtain ⟨ky, hky⟩ : ∃ ky, ky = (keysA l)[j3] := ⟨_, rfl⟩
                rw [← hky] at z0
                have HDR : Hid ((keysA l).drop j3 = ky :: (keysA l).drop (j3 + 1)) := by show _ = _; rw [hky]; exact List.drop_eq_getElem_cons hj31
                injection q1 with q1 q2 q3
                subst q1
                clear q2 q3 pat hky e0
                have hLS := last_any wr w.heap.size w.heap.size a c l ky (by rw [← Hm.out]; exact HI8.out.box.c1) (HA.out.keep HI8.out.bel (Nat.le_refl _)) (by rw [← Hm.out]; exact hm2)
                have hGT := get_any wr B (runA l) ky HI8.out.sh
                have hgs : g < wr.heap.size := hg
                cases hgv : get ky (runA l) with
                | none =>
                  have HGN : Hid (Given (runA l) M ((keysA l).drop j3)) := by rw [HDR.out]; exact HG8.out.skip hgv
                  rw [getV, hgv] at hLS hGT
                  simp only [Option.getD_none, Option.isSome_none] at hLS hGT
                  clear hgv
                  go_wp2_with fail
                  refine hLS.mono ?_
                  clear hLS
                  rintro e wq ⟨rfl, rfl⟩
                  go_wp2_with fail
                  refine hGT.mono ?_
                  clear hGT
                  rintro e w9 ⟨rfl, hb9⟩
                  have HI9 : Hid (LI w B a m c (runA l) (.slice (some ⟨g, 0, none⟩) kn kc) (keysA l) w9) := HI8.out.old hb9
                  have HS9 : Hid (ShAt w9 C M) := HS8.out.old hb9
                  have HR9 : Hid (PRow w9 base5 (.slice la rn lc) (runA l)) := HR8.out.old hb9
                  clear HI8 HS8 HR8 HG8 hb9 z0
                  go_wp2
                  go_roundw
                  case rel => exact ⟨j3, M, by omega, by go_num, HI9, HS9, HGN, HR9⟩
                  case measure => simp [intOf]
                | some vv =>
                  have HGN : Hid (Given (runA l) (ins ky vv M) ((keysA l).drop j3)) := by rw [HDR.out]; exact HG8.out.put hgv
                  have HML : Hid (M.length < 288230376151711744) := by
                    have h1 := HG8.out.2.1
                    rw [List.length_drop] at h1
                    have h2 := hkn.out
                    show _ < _
                    omega
                  rw [getV, hgv] at hLS hGT
                  simp only [Option.getD_some, Option.isSome_some] at hLS hGT
                  clear hgv
                  go_wp2_with fail
                  refine hLS.mono ?_
                  clear hLS
                  rintro e wq ⟨rfl, rfl⟩
                  go_wp2_with fail
                  refine hGT.mono ?_
                  clear hGT
                  rintro e w9 ⟨rfl, hb9⟩
                  have HI9 : Hid (LI w B a m c (runA l) (.slice (some ⟨g, 0, none⟩) kn kc) (keysA l) w9) := HI8.out.old hb9
                  have HS9 : Hid (ShAt w9 C M) := HS8.out.old hb9
                  have HR9 : Hid (PRow w9 base5 (.slice la rn lc) (runA l)) := HR8.out.old hb9
                  have z9 : w9.cell? ⟨g, j3, none⟩ = some (.string ky) := (hb9.cell (p := ⟨g, j3, none⟩) hgs).trans z0
                  clear HI8 HS8 HR8 HG8 hb9 z0
                  go_wp2_with fail
                  refine (put_any w9 C M ky vv HS9.out HML.out).mono ?_
                  rintro e w10 ⟨rfl, hs10, ho10, hb10⟩
                  have HI10 : Hid (LI w B a m c (runA l) (.slice (some ⟨g, 0, none⟩) kn kc) (keysA l) w10) := HI9.out.other HS9.out hBC ho10 hb10
                  have HR10 : Hid (PRow w10 base5 (.slice la rn lc) (runA l)) := by
                    obtain ⟨cs, hC⟩ := HS9.out.blk
                    exact HR9.out.oth hC ho10
                  have HS10 : Hid (ShAt w10 C (ins ky vv M)) := hs10
                  generalize (get ky M).isSome = gb
                  clear HI9 HS9 HR9 hs10 ho10 hb10 z9
                  go_wp2
                  go_roundw
                  case rel => exact ⟨j3, ins ky vv M, by omega, by go_num, HI10, HS10, HGN, HR10⟩
                  case measure => simp [intOf]
end Go.Proofs.Ytklnnkdcnaieoaa
