/- What the document's inner of layer 12 does with a tuple (contracts; nothing is claimed here). -/
import Derived.Test.YtkjoomdglealmaaGreatDoorRInB
namespace Go.Proofs.YtkjoomdglealmaaGreatDoor
open Go.RowKit Go.Vf

theorem InnPost.val {r : Bad} {w w' : World} {e : Ending} (h : InnPost r w e w') : ∃ v, e = .returned v ∧ InnPost r w (.returned v) w' := by
  obtain ⟨h1, h2⟩ := h
  cases r with
  | none => exact ⟨_, h2, h1, rfl⟩
  | some q =>
    obtain ⟨c, a, P, y⟩ := q
    obtain ⟨v, he, hv⟩ := h2
    exact ⟨_, he, h1, v, rfl, hv⟩
theorem own_far {w : World} {base b : Nat} {v : Value} {zs : List Int} {ty : TypeId} {cs : Array Value} (h : IOwn w base v zs) (hB : Blk w b ty cs) (ht : ty ≠ 3) (k : Nat) (x : Value) : IOwn (w.setCell ⟨b, k, none⟩ x) base v zs :=
  own_blocks h fun i hi => Below.heap_setCell w ⟨b, k, none⟩ x i (fun e => by
    obtain ⟨_, cs', f, hh⟩ := own_ge h hi
    rw [show i = b from e, show w.heap[b]? = _ from hB] at hh
    cases hh
    exact ht rfl)
theorem unf_code {U : ByteArray → Int} : ∀ (p : Prt) (f : Fld) (c a : Int) (P : List Int) (y : Int), unf U f p = some (c, a, P, y) → c ≠ 0 := by
  intro p
  induction p using Prt.ind with
  | h k yy b m r t ih =>
    rintro ⟨o, l⟩ c a P y
    rw [unf]
    split
    · split
      · intro h; cases h; decide
      · intro h; cases h
    split
    · intro h; cases h; decide
    split
    · split
      · intro h; cases h; decide
      · intro h; cases h
    split
    · rw [bytE]; split
      · intro h; cases h
      · intro h; cases h; assumption
    split
    · split
      · intro h; cases h; decide
      · have : ∀ (l : List Fld) (q : List Prt) (i : Nat), (∀ x ∈ q, x ∈ t) → unfL U i l q = some (c, a, P, y) → c ≠ 0 := by
          intro l
          induction l with
          | nil => intro q i _ h; rw [unfL_nil] at h; cases h
          | cons f l ihl =>
            intro q i hq h
            cases q with
            | nil => rw [unfL] at h; cases h; simp
            | cons p q =>
              cases hu : unf U f p with
              | none => rw [unfL_on hu] at h; exact ihl q (i + 1) (fun x hx => hq x (by simp [hx])) h
              | some z =>
                rw [unfL_hit hu] at h
                obtain ⟨c', a', P', y'⟩ := z
                have := ih p (hq p (by simp)) f _ _ _ _ hu
                simp only [ahead, Option.some.injEq, Prod.mk.injEq] at h
                rw [← h.1]; exact this
        exact this l t 0 (fun x hx => hx)
    · intro h; cases h

set_option maxHeartbeats 4000000 in
set_option maxRecDepth 20000 in
theorem inn_7 (o : Go.Vf.Own) (l : List Fld) (a pa : Option Addr) (c pc : Nat) (y b : Bool) (m r : ByteArray) (t : List Prt) (w : World) (hll : l.length ≤ 17179869184) (lo n₀ : Nat) (hn₀ : n₀ ≤ w.heap.size) (hin : FIn w lo n₀ l a) (hpin : PIn w lo n₀ (.mk 7 y b m r t) pa)
    (hPm : ∀ j (h1 : j < l.length) (h2 : j < t.length) cc aa P yy, unf utfAt l[j] t[j] = some (cc, aa, P, yy) → P.length ≤ 1000) (ih : ∀ j (h1 : j < l.length) (h2 : j < t.length) (aj : Option Addr) (cj : Nat) (az : Option Addr) (cz : Nat) (W : World), Below w.heap.size w W → FIn W lo n₀ l[j].fields aj → PIn W lo n₀ t[j] az → Calls Tryz.prog 49 #[fV l[j].own aj l[j].fields.length cj, pV t[j] az cz] W (InnPost (unf utfAt l[j] t[j]) W)) :
    Calls Tryz.prog 49 #[.agg #[.string o.name, .int .u8 7, .bool o.down, .int .u8 o.nulls, .bool o.bnd, .bool o.ln, .string o.lm, .bool o.hn, .string o.hm, .int .i64 o.most, .int .i64 o.str, .bool o.shf, .bool o.bck, .slice a l.length c], .agg #[.int .u8 7, .bool y, .bool b, .string m, .string r, .slice pa t.length pc]] w (InnPost (if t.length ≠ l.length then some (122, 0, [], 0) else unfL utfAt 0 l t) w) := by
  by_cases hne : t.length ≠ l.length
  · rw [if_pos hne]
    clear ih hPm hin hpin
    generalize l.length = ln at *
    generalize t.length = tn at *
    have z1 : ((tn : Int) != (ln : Int)) = true := bne_iff_ne.2 (by omega)
    have z2 : (decide ((tn : Int) = (ln : Int))) = false := decide_eq_false (by omega)
    clear hne
    have hb1 := (Below.refl w.heap.size w).alloc (Nat.le_refl _) (.cells #[.string o.name, .int .u8 7, .bool o.down, .int .u8 o.nulls, .bool o.bnd, .bool o.ln, .string o.lm, .bool o.hn, .string o.hm, .int .i64 o.most, .int .i64 o.str, .bool o.shf, .bool o.bck, .slice a ln c] 57)
    have hs1 := alloc_size w (.cells #[.string o.name, .int .u8 7, .bool o.down, .int .u8 o.nulls, .bool o.bnd, .bool o.ln, .string o.lm, .bool o.hn, .string o.hm, .int .i64 o.most, .int .i64 o.str, .bool o.shf, .bool o.bck, .slice a ln c] 57)
    have hA1 := Blk.new w 57 #[.string o.name, .int .u8 7, .bool o.down, .int .u8 o.nulls, .bool o.bnd, .bool o.ln, .string o.lm, .bool o.hn, .string o.hm, .int .i64 o.most, .int .i64 o.str, .bool o.shf, .bool o.bck, .slice a ln c]
    have hb12 := (Below.refl _ (w.alloc (.cells #[.string o.name, .int .u8 7, .bool o.down, .int .u8 o.nulls, .bool o.bnd, .bool o.ln, .string o.lm, .bool o.hn, .string o.hm, .int .i64 o.most, .int .i64 o.str, .bool o.shf, .bool o.bck, .slice a ln c] 57))).alloc (Nat.le_refl _) (.cells #[.int .u8 7, .bool y, .bool b, .string m, .string r, .slice pa tn pc] 30)
    have hs2 := alloc_size (w.alloc (.cells #[.string o.name, .int .u8 7, .bool o.down, .int .u8 o.nulls, .bool o.bnd, .bool o.ln, .string o.lm, .bool o.hn, .string o.hm, .int .i64 o.most, .int .i64 o.str, .bool o.shf, .bool o.bck, .slice a ln c] 57)) (.cells #[.int .u8 7, .bool y, .bool b, .string m, .string r, .slice pa tn pc] 30)
    have hP2 := Blk.new (w.alloc (.cells #[.string o.name, .int .u8 7, .bool o.down, .int .u8 o.nulls, .bool o.bnd, .bool o.ln, .string o.lm, .bool o.hn, .string o.hm, .int .i64 o.most, .int .i64 o.str, .bool o.shf, .bool o.bck, .slice a ln c] 57)) 30 #[.int .u8 7, .bool y, .bool b, .string m, .string r, .slice pa tn pc]
    have hb23 := (Below.refl _ ((w.alloc (.cells #[.string o.name, .int .u8 7, .bool o.down, .int .u8 o.nulls, .bool o.bnd, .bool o.ln, .string o.lm, .bool o.hn, .string o.hm, .int .i64 o.most, .int .i64 o.str, .bool o.shf, .bool o.bck, .slice a ln c] 57)).alloc (.cells #[.int .u8 7, .bool y, .bool b, .string m, .string r, .slice pa tn pc] 30))).alloc (Nat.le_refl _) (.cells #[.int .i64 0, .int .i64 0, .slice none 0 0] 47)
    have hR3 := Blk.new ((w.alloc (.cells #[.string o.name, .int .u8 7, .bool o.down, .int .u8 o.nulls, .bool o.bnd, .bool o.ln, .string o.lm, .bool o.hn, .string o.hm, .int .i64 o.most, .int .i64 o.str, .bool o.shf, .bool o.bck, .slice a ln c] 57)).alloc (.cells #[.int .u8 7, .bool y, .bool b, .string m, .string r, .slice pa tn pc] 30)) 47 #[.int .i64 0, .int .i64 0, .slice none 0 0]
    have hA3 := (hA1.old hb12).old hb23
    have hP3 := hP2.old hb23
    have hb3 := hb1.trans ((hb12.trans (hb23.mono hb12.size)).mono hb1.size)
    rw [hs1] at hP3 hs2
    rw [hs2] at hR3
    go_enter Tryz.func49, Tryz.ntmps49
    go_upto_region 1 with fail
    generalize (((w.alloc (.cells #[.string o.name, .int .u8 7, .bool o.down, .int .u8 o.nulls, .bool o.bnd, .bool o.ln, .string o.lm, .bool o.hn, .string o.hm, .int .i64 o.most, .int .i64 o.str, .bool o.shf, .bool o.bck, .slice a ln c] 57)).alloc (.cells #[.int .u8 7, .bool y, .bool b, .string m, .string r, .slice pa tn pc] 30)).alloc (.cells #[.int .i64 0, .int .i64 0, .slice none 0 0] 47)) = w3 at *
    clear hb1 hb12 hb23 hs1 hs2 hA1 hP2
    obtain ⟨c0, c1, c2, c3, c4, c5, c6, c7, c8, c9, c10, c11, c12, c13⟩ := hA3.c14
    obtain ⟨p0, p1, p2, p3, p4, p5⟩ := hP3.c6
    have z0 : w3.cell? ⟨w.heap.size + 1 + 1, 0, none⟩ = some (.int .i64 0) := hR3.cell 0
    have z1 : w3.cell? ⟨w.heap.size + 1 + 1, 1, none⟩ = some (.int .i64 0) := hR3.cell 1
    have z2 : w3.cell? ⟨w.heap.size + 1 + 1, 2, none⟩ = some (.slice none 0 0) := hR3.cell 2
    have f0 := hR3.frozen 0
    have f1 := hR3.frozen 1
    have f2 := hR3.frozen 2
    have hfin := hR3.set3 (.int .i64 122) (.int .i64 0) (.slice none 0 0)
    have hbw := ((hb3.setCell (p := ⟨w.heap.size + 1 + 1, 0, none⟩) (by show w.heap.size ≤ w.heap.size + 1 + 1; omega) (.int .i64 122)).setCell (p := ⟨w.heap.size + 1 + 1, 1, none⟩) (by show w.heap.size ≤ w.heap.size + 1 + 1; omega) (.int .i64 0)).setCell (p := ⟨w.heap.size + 1 + 1, 2, none⟩) (by show w.heap.size ≤ w.heap.size + 1 + 1; omega) (.slice none 0 0)
    clear hA3 hP3 hR3
    go_wp2_with fail
    refine bodyPost_ret (res49_run (b := w.heap.size + 1 + 1) (v5 := .int .i64 0) hfin rfl rfl) rfl ?_
    exact ⟨hbw, _, rfl, IOwn.nil _ _⟩

  have heq : t.length = l.length := Classical.byContradiction hne
  rw [if_neg hne]
  obtain ⟨R, hR⟩ : ∃ R, unfL utfAt 0 l t = R := ⟨_, rfl⟩
  rw [hR]
  have HR : Hid (R = unfL utfAt 0 (l.drop 0) (t.drop 0)) := hR.symm
  obtain ⟨ln, hln⟩ : ∃ ln, l.length = ln := ⟨_, rfl⟩
  have HL : Hid (l.length = ln) := hln
  have HT : Hid (t.length = ln) := heq.trans hln
  rw [HT.out]
  rw [hln] at hll ⊢
  clear hR hne heq hln
  have hb1 := (Below.refl w.heap.size w).alloc (Nat.le_refl _) (.cells #[.string o.name, .int .u8 7, .bool o.down, .int .u8 o.nulls, .bool o.bnd, .bool o.ln, .string o.lm, .bool o.hn, .string o.hm, .int .i64 o.most, .int .i64 o.str, .bool o.shf, .bool o.bck, .slice a ln c] 57)
  have hs1 := alloc_size w (.cells #[.string o.name, .int .u8 7, .bool o.down, .int .u8 o.nulls, .bool o.bnd, .bool o.ln, .string o.lm, .bool o.hn, .string o.hm, .int .i64 o.most, .int .i64 o.str, .bool o.shf, .bool o.bck, .slice a ln c] 57)
  have hA1 := Blk.new w 57 #[.string o.name, .int .u8 7, .bool o.down, .int .u8 o.nulls, .bool o.bnd, .bool o.ln, .string o.lm, .bool o.hn, .string o.hm, .int .i64 o.most, .int .i64 o.str, .bool o.shf, .bool o.bck, .slice a ln c]
  have hb12 := (Below.refl _ (w.alloc (.cells #[.string o.name, .int .u8 7, .bool o.down, .int .u8 o.nulls, .bool o.bnd, .bool o.ln, .string o.lm, .bool o.hn, .string o.hm, .int .i64 o.most, .int .i64 o.str, .bool o.shf, .bool o.bck, .slice a ln c] 57))).alloc (Nat.le_refl _) (.cells #[.int .u8 7, .bool y, .bool b, .string m, .string r, .slice pa ln pc] 30)
  have hs2 := alloc_size (w.alloc (.cells #[.string o.name, .int .u8 7, .bool o.down, .int .u8 o.nulls, .bool o.bnd, .bool o.ln, .string o.lm, .bool o.hn, .string o.hm, .int .i64 o.most, .int .i64 o.str, .bool o.shf, .bool o.bck, .slice a ln c] 57)) (.cells #[.int .u8 7, .bool y, .bool b, .string m, .string r, .slice pa ln pc] 30)
  have hP2 := Blk.new (w.alloc (.cells #[.string o.name, .int .u8 7, .bool o.down, .int .u8 o.nulls, .bool o.bnd, .bool o.ln, .string o.lm, .bool o.hn, .string o.hm, .int .i64 o.most, .int .i64 o.str, .bool o.shf, .bool o.bck, .slice a ln c] 57)) 30 #[.int .u8 7, .bool y, .bool b, .string m, .string r, .slice pa ln pc]
  have hb23 := (Below.refl _ ((w.alloc (.cells #[.string o.name, .int .u8 7, .bool o.down, .int .u8 o.nulls, .bool o.bnd, .bool o.ln, .string o.lm, .bool o.hn, .string o.hm, .int .i64 o.most, .int .i64 o.str, .bool o.shf, .bool o.bck, .slice a ln c] 57)).alloc (.cells #[.int .u8 7, .bool y, .bool b, .string m, .string r, .slice pa ln pc] 30))).alloc (Nat.le_refl _) (.cells #[.int .i64 0, .int .i64 0, .slice none 0 0] 47)
  have hR3 := Blk.new ((w.alloc (.cells #[.string o.name, .int .u8 7, .bool o.down, .int .u8 o.nulls, .bool o.bnd, .bool o.ln, .string o.lm, .bool o.hn, .string o.hm, .int .i64 o.most, .int .i64 o.str, .bool o.shf, .bool o.bck, .slice a ln c] 57)).alloc (.cells #[.int .u8 7, .bool y, .bool b, .string m, .string r, .slice pa ln pc] 30)) 47 #[.int .i64 0, .int .i64 0, .slice none 0 0]
  have hA3 := (hA1.old hb12).old hb23
  have hP3 := hP2.old hb23
  have hb3 := hb1.trans ((hb12.trans (hb23.mono hb12.size)).mono hb1.size)
  rw [hs1] at hP3 hs2
  rw [hs2] at hR3
  go_enter Tryz.func49, Tryz.ntmps49
  go_upto_region 1 with fail
  generalize (((w.alloc (.cells #[.string o.name, .int .u8 7, .bool o.down, .int .u8 o.nulls, .bool o.bnd, .bool o.ln, .string o.lm, .bool o.hn, .string o.hm, .int .i64 o.most, .int .i64 o.str, .bool o.shf, .bool o.bck, .slice a ln c] 57)).alloc (.cells #[.int .u8 7, .bool y, .bool b, .string m, .string r, .slice pa ln pc] 30)).alloc (.cells #[.int .i64 0, .int .i64 0, .slice none 0 0] 47)) = w3 at *
  clear hb1 hb12 hb23 hs1 hs2 hA1 hP2
  obtain ⟨c0, c1, c2, c3, c4, c5, c6, c7, c8, c9, c10, c11, c12, c13⟩ := hA3.c14
  obtain ⟨p0, p1, p2, p3, p4, p5⟩ := hP3.c6
  have z0 : w3.cell? ⟨w.heap.size + 1 + 1, 0, none⟩ = some (.int .i64 0) := hR3.cell 0
  have z1 : w3.cell? ⟨w.heap.size + 1 + 1, 1, none⟩ = some (.int .i64 0) := hR3.cell 1
  have z2 : w3.cell? ⟨w.heap.size + 1 + 1, 2, none⟩ = some (.slice none 0 0) := hR3.cell 2
  have f0 := hR3.frozen 0
  have f1 := hR3.frozen 1
  have f2 := hR3.frozen 2
  have HR3 : Hid (Blk w3 (w.heap.size + 1 + 1) 47 #[.int .i64 0, .int .i64 0, .slice none 0 0]) := hR3
  clear hR3
  go_wp2_with fail
  go_loopw [11] (fun i wr => ∃ (j : Nat), j ≤ ln ∧ i = .int .i64 j ∧ Hid (R = unfL utfAt j (l.drop j) (t.drop j)) ∧ Below w3.heap.size w3 wr) (fun i _ => ln - (intOf i).toNat)
  case atStart => exact ⟨0, Nat.zero_le _, rfl, HR, Below.refl _ _⟩
  case round =>
    clear HR z0 z1 z2 f0 f1 f2 c0 c1 c2 c3 c4 c5 c6 c7 c8 c9 c10 c11 c12 c13 p0 p1 p2 p3 p4 p5
    obtain ⟨j, hj, rfl, HS, hbel⟩ := hrel
    have hb0r := hb3.trans (hbel.mono hb3.size)
    have hzr := hb0r.size
    have hAr := hA3.old hbel
    have hPr := hP3.old hbel
    have hRr : Blk wr (w.heap.size + 1 + 1) 47 #[.int .i64 0, .int .i64 0, .slice none 0 0] := Blk.old HR3.out hbel
    have b13 : wr.cell? ⟨w.heap.size, 13, none⟩ = some (.slice a ln c) := hAr.cell 13
    by_cases hlt : j < ln
    · have hlt1 : j < l.length := by rw [HL.out]; exact hlt
      have hlt2 : j < t.length := by rw [HT.out]; exact hlt
      have tl : decide ((j : Int) < (ln : Int)) = true := decide_eq_true (by omega)
      have tl2 : decide (j < ln) = true := decide_eq_true hlt
      obtain ⟨bb, off, aj, cj, ha, _, hbn, hrow, hinj, _⟩ := (hin.keep hb0r hn₀).atC hlt1
      obtain ⟨pb, poff, az, cz, hpa, _, hpbn, hrp, hpj⟩ := (hpin.keep hb0r hn₀).at (p := .mk 7 y b m r t) (j := j) hlt2
      simp only [Prt.items] at hrp hpj
      subst ha hpa
      have hihj := ih j hlt1 hlt2 aj cj az cz
      obtain ⟨Z, hZ0⟩ : ∃ Z, unf utfAt l[j] t[j] = Z := ⟨_, rfl⟩
      have HZn : Hid (Z = none → R = unfL utfAt (j + 1) (l.drop (j + 1)) (t.drop (j + 1))) := fun h => by
        rw [HS.out, List.drop_eq_getElem_cons hlt1, List.drop_eq_getElem_cons hlt2, unfL_on (hZ0.trans h)]
      have HZs : Hid (∀ r, Z = some r → R = ahead j (some r)) := fun r h => by
        rw [HS.out, List.drop_eq_getElem_cons hlt1, List.drop_eq_getElem_cons hlt2, unfL_hit (hZ0.trans h)]
      have HCN : Hid (∀ cc aa P yy, Z = some (cc, aa, P, yy) → cc ≠ 0) := fun cc aa P yy h => unf_code _ _ cc aa P yy (hZ0.trans h)
      have HPL : Hid (∀ cc aa P yy, Z = some (cc, aa, P, yy) → P.length ≤ 1000) := fun cc aa P yy h => hPm j hlt1 hlt2 cc aa P yy (hZ0.trans h)
      rw [hZ0] at hihj
      generalize l[j] = x at *
      generalize t[j] = z at *
      have HRow : Hid (∀ yy, Below wr.heap.size wr yy → RowF yy bb (off + j * 14) x.own aj x.fields.length cj) := fun yy hy => hrow.below hy (by omega)
      have HRp : Hid (∀ yy, Below wr.heap.size wr yy → Row6 yy pb (poff + j * 6) z az cz) := fun yy hy => hrp.below hy (by omega)
      have hun : ∀ yy, Below wr.heap.size wr yy → Calls Tryz.prog 49 #[.agg #[.string x.own.name, .int .u8 x.own.kind, .bool x.own.down, .int .u8 x.own.nulls, .bool x.own.bnd, .bool x.own.ln, .string x.own.lm, .bool x.own.hn, .string x.own.hm, .int .i64 x.own.most, .int .i64 x.own.str, .bool x.own.shf, .bool x.own.bck, .slice aj x.fields.length cj], .agg #[.int .u8 z.kind, .bool z.yes, .bool z.neg, .string z.mag, .string z.raw, .slice az z.items.length cz]] yy (InnPost Z yy) := fun yy hy =>
        hihj yy (hb0r.trans (hy.mono hb0r.size)) (hinj.keep hy (by omega)) (hpj.keep hy (by omega))
      have hji : (j : Int) < (ln : Int) := by omega
      clear ih hPm hin hpin hihj hinj hpj hrow hrp HS hZ0
      go_upto_region 25 with fail
      refine wp_region_held_drew (S := fun zz => Below wr.heap.size wr zz) (by kernel_rfl) ((Below.refl _ _).drew) (fun hHeld => ?_)
      refine wpAnyH_takeD (i := 0) (some 110) (v := .pointer (some ⟨w.heap.size, 13, none⟩)) rfl rfl (by kernel_rfl) (by kernel_rfl) (by kernel_rfl) (fun _ _ _ h => h) (Or.inl ⟨by kernel_rfl, ?hy0⟩) (by assumption) ?rest0
      case hy0 => (intro zz hSx; (try dsimp only at hSx); go_simp; first | done | with_reducible rfl)
      try simp only [Act.put, List.setIfInBounds_toArray, List.set_cons_zero, List.set_cons_succ]
      refine wpAnyH_takeD (i := 1) (some 111) (v := .slice (some ⟨bb, off, none⟩) ln c) rfl rfl (by kernel_rfl) (by kernel_rfl) (by kernel_rfl) (fun _ _ _ h => h) (Or.inl ⟨by kernel_rfl, ?hy1⟩) (by assumption) ?rest1
      case hy1 => (intro zz hSx; have z13 := (hAr.old hSx).cell 13; (try dsimp only at hSx); go_simp; first | done | with_reducible rfl)
      try simp only [Act.put, List.setIfInBounds_toArray, List.set_cons_zero, List.set_cons_succ]
      refine wpAnyH_takeD (i := 2) (some 112) (v := .int .i64 (j : Int)) rfl rfl (by kernel_rfl) (by kernel_rfl) (by kernel_rfl) (fun _ _ _ h => h) (Or.inl ⟨by kernel_rfl, ?hy2⟩) (by assumption) ?rest2
      case hy2 => (intro zz hSx; (try dsimp only at hSx); go_simp; first | done | with_reducible rfl)
      try simp only [Act.put, List.setIfInBounds_toArray, List.set_cons_zero, List.set_cons_succ]
      refine wpAnyH_takeD (i := 3) (some 113) (v := .pointer (some ⟨bb, off + j * 14, none⟩)) rfl rfl (by kernel_rfl) (by kernel_rfl) (by kernel_rfl) (fun _ _ _ h => h) (Or.inl ⟨by kernel_rfl, ?hy3⟩) (by assumption) ?rest3
      case hy3 => (intro zz hSx; (try dsimp only at hSx); go_simp; first | done | with_reducible rfl)
      try simp only [Act.put, List.setIfInBounds_toArray, List.set_cons_zero, List.set_cons_succ]
      refine wpAnyH_takeD (i := 4) (some 114) (v := .agg #[.string x.own.name, .int .u8 x.own.kind, .bool x.own.down, .int .u8 x.own.nulls, .bool x.own.bnd, .bool x.own.ln, .string x.own.lm, .bool x.own.hn, .string x.own.hm, .int .i64 x.own.most, .int .i64 x.own.str, .bool x.own.shf, .bool x.own.bck, .slice aj x.fields.length cj]) rfl rfl (by kernel_rfl) (by kernel_rfl) (by kernel_rfl) (fun _ _ _ h => h) (Or.inl ⟨by kernel_rfl, ?hy4⟩) (by assumption) ?rest4
      case hy4 => (intro zz hSx; obtain ⟨g0, g1, g2, g3, g4, g5, g6, g7, g8, g9, g10, g11, g12, g13⟩ := HRow.out _ hSx; (try dsimp only at hSx); go_simp; first | done | with_reducible rfl)
      try simp only [Act.put, List.setIfInBounds_toArray, List.set_cons_zero, List.set_cons_succ]
      refine wpAnyH_takeD (i := 5) (some 115) (v := .pointer (some ⟨w.heap.size + 1, 5, none⟩)) rfl rfl (by kernel_rfl) (by kernel_rfl) (by kernel_rfl) (fun _ _ _ h => h) (Or.inl ⟨by kernel_rfl, ?hy5⟩) (by assumption) ?rest5
      case hy5 => (intro zz hSx; (try dsimp only at hSx); go_simp; first | done | with_reducible rfl)
      try simp only [Act.put, List.setIfInBounds_toArray, List.set_cons_zero, List.set_cons_succ]
      refine wpAnyH_takeD (i := 6) (some 116) (v := .slice (some ⟨pb, poff, none⟩) ln pc) rfl rfl (by kernel_rfl) (by kernel_rfl) (by kernel_rfl) (fun _ _ _ h => h) (Or.inl ⟨by kernel_rfl, ?hy6⟩) (by assumption) ?rest6
      case hy6 => (intro zz hSx; have z5 := (hPr.old hSx).cell 5; (try dsimp only at hSx); go_simp; first | done | with_reducible rfl)
      try simp only [Act.put, List.setIfInBounds_toArray, List.set_cons_zero, List.set_cons_succ]
      refine wpAnyH_takeD (i := 7) (some 117) (v := .int .i64 (j : Int)) rfl rfl (by kernel_rfl) (by kernel_rfl) (by kernel_rfl) (fun _ _ _ h => h) (Or.inl ⟨by kernel_rfl, ?hy7⟩) (by assumption) ?rest7
      case hy7 => (intro zz hSx; (try dsimp only at hSx); go_simp; first | done | with_reducible rfl)
      try simp only [Act.put, List.setIfInBounds_toArray, List.set_cons_zero, List.set_cons_succ]
      refine wpAnyH_takeD (i := 8) (some 118) (v := .pointer (some ⟨pb, poff + j * 6, none⟩)) rfl rfl (by kernel_rfl) (by kernel_rfl) (by kernel_rfl) (fun _ _ _ h => h) (Or.inl ⟨by kernel_rfl, ?hy8⟩) (by assumption) ?rest8
      case hy8 => (intro zz hSx; (try dsimp only at hSx); go_simp; first | done | with_reducible rfl)
      try simp only [Act.put, List.setIfInBounds_toArray, List.set_cons_zero, List.set_cons_succ]
      refine wpAnyH_takeD (i := 9) (some 119) (v := .agg #[.int .u8 z.kind, .bool z.yes, .bool z.neg, .string z.mag, .string z.raw, .slice az z.items.length cz]) rfl rfl (by kernel_rfl) (by kernel_rfl) (by kernel_rfl) (fun _ _ _ h => h) (Or.inl ⟨by kernel_rfl, ?hy9⟩) (by assumption) ?rest9
      case hy9 => (intro zz hSx; obtain ⟨g0, g1, g2, g3, g4, g5⟩ := HRp.out _ hSx; (try dsimp only at hSx); go_simp; first | done | with_reducible rfl)
      try simp only [Act.put, List.setIfInBounds_toArray, List.set_cons_zero, List.set_cons_succ]
      refine wpAnyH_ready (rs := [10, 14]) (by kernel_rfl) (by simp) ?_
      refine AllReadyH.cons rfl (fun K hK => ?_) (AllReadyH.cons rfl (fun K hK => ?_) AllReadyH.nil)
      · skip
        go_simp
        go_wp2_with (go_at_call 49; refine (hun _ hHeld).mono ?_; intro e y10 hEP; obtain ⟨v10, rfl, hEP⟩ := hEP.val)
        have hb10 := hEP.1
        have hH10 : Below wr.heap.size wr y10 := hHeld.trans (hb10.mono hHeld.size)
        cases hZ : Z with
        | none =>
          rw [hZ] at hEP
          have hev : v10 = .tuple #[.agg #[.int .i64 0, .int .i64 0, .slice none 0 0], .int .i64 0] := by have := hEP.2; injection this
          subst hev
          refine hK.out _ _ hH10 (fun hs10 => ?_)
          clear hK K hEP
          try simp only [Act.put, List.setIfInBounds_toArray, List.set_cons_zero, List.set_cons_succ]
          refine wpAnyH_takeD (i := 11) (some 109) (v := .tuple #[.agg #[.int .i64 0, .int .i64 0, .slice none 0 0], .int .i64 0]) rfl rfl (by kernel_rfl) (by kernel_rfl) (by kernel_rfl) (fun _ _ _ h => h) (Or.inl ⟨by kernel_rfl, ?hync11⟩) (by assumption) ?restnc11
          case hync11 => (intro x hSx; (try dsimp only at hSx); go_simp; first | done | with_reducible rfl)
          try simp only [Act.put, List.setIfInBounds_toArray, List.set_cons_zero, List.set_cons_succ]
          refine wpAnyH_takeD (i := 12) (some 121) (v := .agg #[.int .i64 0, .int .i64 0, .slice none 0 0]) rfl rfl (by kernel_rfl) (by kernel_rfl) (by kernel_rfl) (fun _ _ _ h => h) (Or.inl ⟨by kernel_rfl, ?hync12⟩) (by assumption) ?restnc12
          case hync12 => (intro x hSx; (try dsimp only at hSx); go_simp; first | done | with_reducible rfl)
          try simp only [Act.put, List.setIfInBounds_toArray, List.set_cons_zero, List.set_cons_succ]
          refine wpAnyH_takeD (i := 13) (some 122) (v := .int .i64 0) rfl rfl (by kernel_rfl) (by kernel_rfl) (by kernel_rfl) (fun _ _ _ h => h) (Or.inl ⟨by kernel_rfl, ?hync13⟩) (by assumption) ?restnc13
          case hync13 => (intro x hSx; (try dsimp only at hSx); go_simp; first | done | with_reducible rfl)
          try simp only [Act.put, List.setIfInBounds_toArray, List.set_cons_zero, List.set_cons_succ]
          have hN := Blk.new y10 47 #[.int .i64 0, .int .i64 0, .slice none 0 0]
          have hbn := (Below.refl y10.heap.size y10).alloc (Nat.le_refl _) (.cells #[.int .i64 0, .int .i64 0, .slice none 0 0] 47)
          have hHn : Below wr.heap.size wr (y10.alloc (.cells #[.int .i64 0, .int .i64 0, .slice none 0 0] 47)) := hH10.trans (hbn.mono hH10.size)
          refine wpAnyH_ready (rs := [14]) (by kernel_rfl) (by simp) ?_
          refine AllReadyH.cons rfl (fun K hK => ?_) AllReadyH.nil
          go_simp
          refine hK.out _ _ hHn (fun hs14 => ?_)
          clear hK K
          try simp only [Act.put, List.setIfInBounds_toArray, List.set_cons_zero, List.set_cons_succ]
          generalize hwN : y10.alloc (.cells #[.int .i64 0, .int .i64 0, .slice none 0 0] 47) = wN at *
          obtain ⟨nb, hnb⟩ : ∃ nb, y10.heap.size = nb := ⟨_, rfl⟩
          have hnbl : wr.heap.size ≤ nb := by rw [← hnb]; exact hH10.size
          rw [hnb] at hN ⊢
          have n0 := hN.cell 0; have n1 := hN.cell 1; have n2 := hN.cell 2; have m0 := hN.frozen 0; have m1 := hN.frozen 1; have m2 := hN.frozen 2
          have hS15 : Below wr.heap.size wr (((wN.setCell ⟨nb, 0, none⟩ (.int .i64 0)).setCell ⟨nb, 1, none⟩ (.int .i64 0)).setCell ⟨nb, 2, none⟩ (.slice none 0 0)) := ((hHn.setCell (p := ⟨nb, 0, none⟩) hnbl _).setCell (p := ⟨nb, 1, none⟩) hnbl _).setCell (p := ⟨nb, 2, none⟩) hnbl _
          have hN15 := hN.set3 (.int .i64 0) (.int .i64 0) (.slice none 0 0)
          refine wpAnyH_ready (rs := [15]) (by kernel_rfl) (by simp) ?_
          refine AllReadyH.cons rfl (fun K hK => ?_) AllReadyH.nil
          go_simp
          refine hK.out _ _ hS15 (fun hs15 => ?_)
          clear hK K
          try simp only [Act.put, List.setIfInBounds_toArray, List.set_cons_zero, List.set_cons_succ]
          refine wpAnyH_takeD (i := 16) (some 13) (v := .int .i64 0) rfl rfl (by kernel_rfl) (by kernel_rfl) (by kernel_rfl) (fun _ _ _ h => h) (Or.inl ⟨by kernel_rfl, ?hync16⟩) (by assumption) ?restnc16
          case hync16 => (intro x hSx; (try dsimp only at hSx); go_simp; first | done | with_reducible rfl)
          try simp only [Act.put, List.setIfInBounds_toArray, List.set_cons_zero, List.set_cons_succ]
          refine wpAnyH_done (by kernel_rfl) ?_ _
          generalize (((wN.setCell ⟨nb, 0, none⟩ (.int .i64 0)).setCell ⟨nb, 1, none⟩ (.int .i64 0)).setCell ⟨nb, 2, none⟩ (.slice none 0 0)) = w6 at *
          have hb06 := hb0r.trans (hS15.mono hb0r.size)
          have n60 := hN15.cell 0; have n61 := hN15.cell 1; have n62 := hN15.cell 2; have k60 := hN15.frozen 2
          have hR1 : Hid (R = unfL utfAt (j + 1) (l.drop (j + 1)) (t.drop (j + 1))) := HZn.out hZ
          have hb36 : Below w3.heap.size w3 w6 := hbel.trans (hS15.mono hbel.size)
          clear hun hN n0 n1 n2 m0 m1 m2 hN15 HZn HZs HRow HRp
          go_wp2_with fail
          go_roundw
          case rel => exact ⟨j + 1, by omega, by simp, hR1, hb36⟩
          case measure => simp only [intOf]; omega
        | some rr =>
          obtain ⟨cc, aa, P, yy⟩ := rr
          rw [hZ] at hEP
          obtain ⟨_, v, hev0, hV0⟩ := hEP
          have hev : v10 = .tuple #[.agg #[.int .i64 cc, .int .i64 aa, v], .int .i64 yy] := by injection hev0
          subst hev
          clear hev0
          obtain ⟨va, vc, rfl⟩ := hV0.val
          have hV : IOwn y10 w.heap.size (.slice va P.length vc) P := hV0.mono hb0r.size
          have hcne : cc ≠ 0 := HCN.out cc aa P yy hZ
          refine hK.out _ _ hH10 (fun hs10 => ?_)
          clear hK K
          try simp only [Act.put, List.setIfInBounds_toArray, List.set_cons_zero, List.set_cons_succ]
          refine wpAnyH_takeD (i := 11) (some 109) (v := .tuple #[.agg #[.int .i64 cc, .int .i64 aa, .slice va P.length vc], .int .i64 yy]) rfl rfl (by kernel_rfl) (by kernel_rfl) (by kernel_rfl) (fun _ _ _ h => h) (Or.inl ⟨by kernel_rfl, ?hysc11⟩) (by assumption) ?restsc11
          case hysc11 => (intro x hSx; (try dsimp only at hSx); go_simp; first | done | with_reducible rfl)
          try simp only [Act.put, List.setIfInBounds_toArray, List.set_cons_zero, List.set_cons_succ]
          refine wpAnyH_takeD (i := 12) (some 121) (v := .agg #[.int .i64 cc, .int .i64 aa, .slice va P.length vc]) rfl rfl (by kernel_rfl) (by kernel_rfl) (by kernel_rfl) (fun _ _ _ h => h) (Or.inl ⟨by kernel_rfl, ?hysc12⟩) (by assumption) ?restsc12
          case hysc12 => (intro x hSx; (try dsimp only at hSx); go_simp; first | done | with_reducible rfl)
          try simp only [Act.put, List.setIfInBounds_toArray, List.set_cons_zero, List.set_cons_succ]
          refine wpAnyH_takeD (i := 13) (some 122) (v := .int .i64 yy) rfl rfl (by kernel_rfl) (by kernel_rfl) (by kernel_rfl) (fun _ _ _ h => h) (Or.inl ⟨by kernel_rfl, ?hysc13⟩) (by assumption) ?restsc13
          case hysc13 => (intro x hSx; (try dsimp only at hSx); go_simp; first | done | with_reducible rfl)
          try simp only [Act.put, List.setIfInBounds_toArray, List.set_cons_zero, List.set_cons_succ]
          have hN := Blk.new y10 47 #[.int .i64 0, .int .i64 0, .slice none 0 0]
          have hbn := (Below.refl y10.heap.size y10).alloc (Nat.le_refl _) (.cells #[.int .i64 0, .int .i64 0, .slice none 0 0] 47)
          have hHn : Below wr.heap.size wr (y10.alloc (.cells #[.int .i64 0, .int .i64 0, .slice none 0 0] 47)) := hH10.trans (hbn.mono hH10.size)
          have hV2 := own_after hV hbn
          refine wpAnyH_ready (rs := [14]) (by kernel_rfl) (by simp) ?_
          refine AllReadyH.cons rfl (fun K hK => ?_) AllReadyH.nil
          go_simp
          refine hK.out _ _ hHn (fun hs14 => ?_)
          clear hK K
          try simp only [Act.put, List.setIfInBounds_toArray, List.set_cons_zero, List.set_cons_succ]
          generalize hwN : y10.alloc (.cells #[.int .i64 0, .int .i64 0, .slice none 0 0] 47) = wN at *
          obtain ⟨nb, hnb⟩ : ∃ nb, y10.heap.size = nb := ⟨_, rfl⟩
          have hnbl : wr.heap.size ≤ nb := by rw [← hnb]; exact hH10.size
          rw [hnb] at hN ⊢
          have n0 := hN.cell 0; have n1 := hN.cell 1; have n2 := hN.cell 2; have m0 := hN.frozen 0; have m1 := hN.frozen 1; have m2 := hN.frozen 2
          have hS15 : Below wr.heap.size wr (((wN.setCell ⟨nb, 0, none⟩ (.int .i64 cc)).setCell ⟨nb, 1, none⟩ (.int .i64 aa)).setCell ⟨nb, 2, none⟩ (.slice va P.length vc)) := ((hHn.setCell (p := ⟨nb, 0, none⟩) hnbl _).setCell (p := ⟨nb, 1, none⟩) hnbl _).setCell (p := ⟨nb, 2, none⟩) hnbl _
          have hN15 := hN.set3 (.int .i64 cc) (.int .i64 aa) (.slice va P.length vc)
          have hV15 : IOwn (((wN.setCell ⟨nb, 0, none⟩ (.int .i64 cc)).setCell ⟨nb, 1, none⟩ (.int .i64 aa)).setCell ⟨nb, 2, none⟩ (.slice va P.length vc)) w.heap.size (.slice va P.length vc) P := own_far (own_far (own_far hV2 hN (by decide) 0 _) (hN.set 0 _) (by decide) 1 _) ((hN.set 0 _).set 1 _) (by decide) 2 _
          refine wpAnyH_ready (rs := [15]) (by kernel_rfl) (by simp) ?_
          refine AllReadyH.cons rfl (fun K hK => ?_) AllReadyH.nil
          go_simp
          refine hK.out _ _ hS15 (fun hs15 => ?_)
          clear hK K
          try simp only [Act.put, List.setIfInBounds_toArray, List.set_cons_zero, List.set_cons_succ]
          refine wpAnyH_takeD (i := 16) (some 13) (v := .int .i64 yy) rfl rfl (by kernel_rfl) (by kernel_rfl) (by kernel_rfl) (fun _ _ _ h => h) (Or.inl ⟨by kernel_rfl, ?hysc16⟩) (by assumption) ?restsc16
          case hysc16 => (intro x hSx; (try dsimp only at hSx); go_simp; first | done | with_reducible rfl)
          try simp only [Act.put, List.setIfInBounds_toArray, List.set_cons_zero, List.set_cons_succ]
          refine wpAnyH_done (by kernel_rfl) ?_ _
          generalize (((wN.setCell ⟨nb, 0, none⟩ (.int .i64 cc)).setCell ⟨nb, 1, none⟩ (.int .i64 aa)).setCell ⟨nb, 2, none⟩ (.slice va P.length vc)) = w6 at *
          have hb06 := hb0r.trans (hS15.mono hb0r.size)
          have n60 := hN15.cell 0; have n61 := hN15.cell 1; have n62 := hN15.cell 2; have k60 := hN15.frozen 2
          have hRq : R = some (cc, aa, (j : Int) :: P, yy) := HZs.out _ hZ
          have hR6 := hRr.old hS15
          have hcn := hcne
          have tc1 : (cc != 0) = true := bne_iff_ne.2 hcn
          have tc2 : (cc == 0) = false := by simpa using hcn
          have tc3 : decide (cc = 0) = false := decide_eq_false hcn
          have hPl := HPL.out cc aa P yy hZ
          have hb67 := (Below.refl w6.heap.size w6).alloc (Nat.le_refl _) (.cells #[.int .i64 (j : Int)] 3)
          have hs7 := alloc_size w6 (.cells #[.int .i64 (j : Int)] 3)
          have hown7 : IOwn (w6.alloc (.cells #[.int .i64 (j : Int)] 3)) w.heap.size (.slice (some ⟨w6.heap.size, 0, none⟩) 1 1) [(j : Int)] := ⟨by simp, .inr ⟨w6.heap.size, 1, #[.int .i64 (j : Int)], rfl, hb06.size, heap_alloc_new w6 _, by simp, by simp [maxLen], by simp, by simp⟩⟩
          have hN7 := hN15.old hb67
          have hR7 := hR6.old hb67
          have hb07 := hb06.trans (hb67.mono hb06.size)
          have hnl := hN15.lt
          have hRl := hR6.lt
          have hRn : w.heap.size + 1 + 1 ≠ nb := by have := hRr.lt; omega
          have e7 : (w6.alloc (.cells #[.int .i64 (j : Int)] 3)).cell? ⟨nb, 2, none⟩ = some (.slice va P.length vc) := hN7.cell 2
          have HOWN : Hid (IOwn (w6.alloc (.cells #[.int .i64 (j : Int)] 3)) w.heap.size (.slice (some ⟨w6.heap.size, 0, none⟩) 1 1) [(j : Int)]) := hown7
          have HN7 : Hid (Blk (w6.alloc (.cells #[.int .i64 (j : Int)] 3)) nb 47 #[.int .i64 cc, .int .i64 aa, .slice va P.length vc]) := hN7
          have HR7 : Hid (Blk (w6.alloc (.cells #[.int .i64 (j : Int)] 3)) (w.heap.size + 1 + 1) 47 #[.int .i64 0, .int .i64 0, .slice none 0 0]) := hR7
          have HN15 : Hid (Blk w6 nb 47 #[.int .i64 cc, .int .i64 aa, .slice va P.length vc]) := hN15
          clear hun hN n0 n1 n2 m0 m1 m2 HZn HZs HRow HRp HPL hown7 hN7 hR7 hN15
          rcases hV15.form with ⟨hvn, rfl⟩ | ⟨g, gc, hvs, _, hgl, _, hgc, _⟩
          · simp only [Value.slice.injEq] at hvn
            obtain ⟨rfl, _, rfl⟩ := hvn
            go_upto_region 28 with fail
            have hs5 : (w6.setCell ⟨nb, 2, none⟩ (.slice (some ⟨w6.heap.size, 0, none⟩) 1 1)).heap.size = w6.heap.size := by simp [World.setCell]
            have hbx := (Below.refl _ (w6.setCell ⟨nb, 2, none⟩ (.slice (some ⟨w6.heap.size, 0, none⟩) 1 1))).alloc (Nat.le_refl _) (.cells #[.int .i64 (j : Int)] 3)
            have hN9 := (HN15.out.set 2 (.slice (some ⟨w6.heap.size, 0, none⟩) 1 1)).old hbx
            have hR9 := (hR6.other (p := ⟨nb, 2, none⟩) hRn (.slice (some ⟨w6.heap.size, 0, none⟩) 1 1)).old hbx
            have hO9 : IOwn ((w6.setCell ⟨nb, 2, none⟩ (.slice (some ⟨w6.heap.size, 0, none⟩) 1 1)).alloc (.cells #[.int .i64 (j : Int)] 3)) w.heap.size (.slice (some ⟨w6.heap.size, 0, none⟩) 1 1) [(j : Int)] := ⟨by simp, .inr ⟨w6.heap.size, 1, #[.int .i64 (j : Int)], rfl, hb06.size, (by have := heap_alloc_new (w6.setCell ⟨nb, 2, none⟩ (.slice (some ⟨w6.heap.size, 0, none⟩) 1 1)) (.cells #[.int .i64 (j : Int)] 3); rw [hs5] at this; exact this), by simp, by simp [maxLen], by simp, by simp⟩⟩
            have hb09 := (hb06.setCell (p := ⟨nb, 2, none⟩) (Nat.le_trans hb0r.size hnbl) (.slice (some ⟨w6.heap.size, 0, none⟩) 1 1)).alloc (by rw [hs5]; exact hb06.size) (.cells #[.int .i64 (j : Int)] 3)
            generalize ((w6.setCell ⟨nb, 2, none⟩ (.slice (some ⟨w6.heap.size, 0, none⟩) 1 1)).alloc (.cells #[.int .i64 (j : Int)] 3)) = w9 at *
            have x0 : w9.cell? ⟨nb, 0, none⟩ = some (.int .i64 cc) := hN9.cell 0
            have x1 : w9.cell? ⟨nb, 1, none⟩ = some (.int .i64 aa) := hN9.cell 1
            have x2 : w9.cell? ⟨nb, 2, none⟩ = some (.slice (some ⟨w6.heap.size, 0, none⟩) 1 1) := hN9.cell 2
            have z0 : w9.cell? ⟨w.heap.size + 1 + 1, 0, none⟩ = some (.int .i64 0) := hR9.cell 0
            have z1 : w9.cell? ⟨w.heap.size + 1 + 1, 1, none⟩ = some (.int .i64 0) := hR9.cell 1
            have z2 : w9.cell? ⟨w.heap.size + 1 + 1, 2, none⟩ = some (.slice none 0 0) := hR9.cell 2
            have f0 := hR9.frozen 0
            have f1 := hR9.frozen 1
            have f2 := hR9.frozen 2
            have hfin := hR9.set3 (.int .i64 cc) (.int .i64 aa) (.slice (some ⟨w6.heap.size, 0, none⟩) 1 1)
            have hbw := ((hb09.setCell (p := ⟨w.heap.size + 1 + 1, 0, none⟩) (by show w.heap.size ≤ w.heap.size + 1 + 1; omega) (.int .i64 cc)).setCell (p := ⟨w.heap.size + 1 + 1, 1, none⟩) (by show w.heap.size ≤ w.heap.size + 1 + 1; omega) (.int .i64 aa)).setCell (p := ⟨w.heap.size + 1 + 1, 2, none⟩) (by show w.heap.size ≤ w.heap.size + 1 + 1; omega) (.slice (some ⟨w6.heap.size, 0, none⟩) 1 1)
            have hOf := own_far (own_far (own_far hO9 hR9 (by decide) 0 (.int .i64 cc)) (hR9.set 0 (.int .i64 cc)) (by decide) 1 (.int .i64 aa)) ((hR9.set 0 (.int .i64 cc)).set 1 (.int .i64 aa)) (by decide) 2 (.slice (some ⟨w6.heap.size, 0, none⟩) 1 1)
            clear hN9 hR9 hO9 HN7 HR7 HOWN e7 n60 n61 n62 k60 hV15 HN15
            go_wp2_with fail
            refine bodyPost_ret (res49_run (b := w.heap.size + 1 + 1) (v5 := .int .i64 yy) hfin rfl rfl) rfl ?_
            rw [hRq]
            exact ⟨hbw, _, rfl, hOf⟩
          · simp only [Value.slice.injEq, true_and] at hvs
            obtain ⟨rfl, rfl⟩ := hvs
            have HC : Hid (∀ i, i < P.length → (w6.alloc (.cells #[.int .i64 (j : Int)] 3)).cell? ((⟨g, 0, none⟩ : Addr).add i) = some (.int .i64 (P[i]?.getD 0))) := fun i hi => by
              rw [addj g i]
              exact (hb67.cell (p := ⟨g, i, none⟩) hgl).trans (hgc i hi)
            have HLE : Hid ([(j : Int)].length + P.length ≤ 1099511627776) := by show _ ≤ _; simp; omega
            have HBS : Hid (w.heap.size ≤ (w6.alloc (.cells #[.int .i64 (j : Int)] 3)).heap.size) := hb07.size
            have HNL : Hid (nb < (w6.alloc (.cells #[.int .i64 (j : Int)] 3)).heap.size ∧ some nb ≠ (Value.slice (some ⟨w6.heap.size, 0, none⟩) 1 1).ownBlock) := ⟨by rw [hs7]; omega, by simp [Value.ownBlock]; omega⟩
            have HRL : Hid (w.heap.size + 1 + 1 < (w6.alloc (.cells #[.int .i64 (j : Int)] 3)).heap.size ∧ some (w.heap.size + 1 + 1) ≠ (Value.slice (some ⟨w6.heap.size, 0, none⟩) 1 1).ownBlock) := ⟨by rw [hs7]; omega, by simp [Value.ownBlock]; omega⟩
            clear hgc hV15
            go_upto_region 28 with (at_builtin; refine wpList_append_ints rfl (.tmp 127) (.tmp 129) rfl w.heap.size _ [(j : Int)] rfl HOWN.out P ⟨g, 0, none⟩ _ rfl HC.out HLE.out HBS.out ?_; intro a8 c8 w8 hown8 hgr8 hnil8 hat8; have hN8 : Blk w8 nb 47 #[.int .i64 cc, .int .i64 aa, .slice (some ⟨g, 0, none⟩) P.length _] := (hgr8.block nb HNL.out.1 HNL.out.2).trans HN7.out; have e8 := hN8.cell 2; have g8 := hN8.frozen 2)
            have hR8 : Blk w8 (w.heap.size + 1 + 1) 47 #[.int .i64 0, .int .i64 0, .slice none 0 0] := (hgr8.block _ HRL.out.1 HRL.out.2).trans HR7.out
            have hb08 : Below w.heap.size w w8 := hb07.grown hgr8 hb07.size (fun k hk => (own_ge HOWN.out hk).1)
            have hN9 := hN8.set 2 (.slice a8 ([(j : Int)].length + P.length) c8)
            have hR9 := hR8.other (p := ⟨nb, 2, none⟩) hRn (.slice a8 ([(j : Int)].length + P.length) c8)
            have hO9 := own_far hown8 hN8 (by decide) 2 (.slice a8 ([(j : Int)].length + P.length) c8)
            have hb09 := hb08.setCell (p := ⟨nb, 2, none⟩) (Nat.le_trans hb0r.size hnbl) (.slice a8 ([(j : Int)].length + P.length) c8)
            try simp only [List.length_cons, List.length_nil, Nat.zero_add] at hN9 hR9 hO9 hb09 ⊢
            generalize w8.setCell ⟨nb, 2, none⟩ (.slice a8 (1 + P.length) c8) = w9 at *
            have x0 : w9.cell? ⟨nb, 0, none⟩ = some (.int .i64 cc) := hN9.cell 0
            have x1 : w9.cell? ⟨nb, 1, none⟩ = some (.int .i64 aa) := hN9.cell 1
            have x2 : w9.cell? ⟨nb, 2, none⟩ = some (.slice a8 (1 + P.length) c8) := hN9.cell 2
            have z0 : w9.cell? ⟨w.heap.size + 1 + 1, 0, none⟩ = some (.int .i64 0) := hR9.cell 0
            have z1 : w9.cell? ⟨w.heap.size + 1 + 1, 1, none⟩ = some (.int .i64 0) := hR9.cell 1
            have z2 : w9.cell? ⟨w.heap.size + 1 + 1, 2, none⟩ = some (.slice none 0 0) := hR9.cell 2
            have f0 := hR9.frozen 0
            have f1 := hR9.frozen 1
            have f2 := hR9.frozen 2
            have hfin := hR9.set3 (.int .i64 cc) (.int .i64 aa) (.slice a8 (1 + P.length) c8)
            have hbw := ((hb09.setCell (p := ⟨w.heap.size + 1 + 1, 0, none⟩) (by show w.heap.size ≤ w.heap.size + 1 + 1; omega) (.int .i64 cc)).setCell (p := ⟨w.heap.size + 1 + 1, 1, none⟩) (by show w.heap.size ≤ w.heap.size + 1 + 1; omega) (.int .i64 aa)).setCell (p := ⟨w.heap.size + 1 + 1, 2, none⟩) (by show w.heap.size ≤ w.heap.size + 1 + 1; omega) (.slice a8 (1 + P.length) c8)
            have hOf := own_far (own_far (own_far hO9 hR9 (by decide) 0 (.int .i64 cc)) (hR9.set 0 (.int .i64 cc)) (by decide) 1 (.int .i64 aa)) ((hR9.set 0 (.int .i64 cc)).set 1 (.int .i64 aa)) (by decide) 2 (.slice a8 (1 + P.length) c8)
            clear hown8 hgr8 hnil8 hat8 hN8 e8 g8 hR8 hN9 hR9 hO9 HN7 HR7 HOWN HC e7 n60 n61 n62 k60
            go_wp2_with fail
            refine bodyPost_ret (res49_run (b := w.heap.size + 1 + 1) (v5 := .int .i64 yy) hfin rfl rfl) rfl ?_
            rw [hRq]
            exact ⟨hbw, _, rfl, hOf⟩
      · skip
        have hN0 := Blk.new wr.drew 47 #[.int .i64 0, .int .i64 0, .slice none 0 0]
        have hbn0 := (Below.refl wr.heap.size wr).drew.alloc (o := .cells #[.int .i64 0, .int .i64 0, .slice none 0 0] 47) (Nat.le_refl _)
        go_simp
        refine hK.out _ _ hbn0 (fun hs14 => ?_)
        clear hK K
        try simp only [Act.put, List.setIfInBounds_toArray, List.set_cons_zero, List.set_cons_succ]
        refine wpAnyH_ready (rs := [10]) (by kernel_rfl) (by simp) ?_
        refine AllReadyH.cons rfl (fun K hK => ?_) AllReadyH.nil
        go_simp
        go_wp2_with (go_at_call 49; refine (hun _ hbn0).mono ?_; intro e y10 hEP; obtain ⟨v10, rfl, hEP⟩ := hEP.val)
        have hb10 := hEP.1
        have hH10 : Below wr.heap.size wr y10 := hbn0.trans (hb10.mono hbn0.size)
        cases hZ : Z with
        | none =>
          rw [hZ] at hEP
          have hev : v10 = .tuple #[.agg #[.int .i64 0, .int .i64 0, .slice none 0 0], .int .i64 0] := by have := hEP.2; injection this
          subst hev
          refine hK.out _ _ hH10 (fun hs10 => ?_)
          clear hK K hEP
          try simp only [Act.put, List.setIfInBounds_toArray, List.set_cons_zero, List.set_cons_succ]
          refine wpAnyH_takeD (i := 11) (some 109) (v := .tuple #[.agg #[.int .i64 0, .int .i64 0, .slice none 0 0], .int .i64 0]) rfl rfl (by kernel_rfl) (by kernel_rfl) (by kernel_rfl) (fun _ _ _ h => h) (Or.inl ⟨by kernel_rfl, ?hyna11⟩) (by assumption) ?restna11
          case hyna11 => (intro x hSx; (try dsimp only at hSx); go_simp; first | done | with_reducible rfl)
          try simp only [Act.put, List.setIfInBounds_toArray, List.set_cons_zero, List.set_cons_succ]
          refine wpAnyH_takeD (i := 12) (some 121) (v := .agg #[.int .i64 0, .int .i64 0, .slice none 0 0]) rfl rfl (by kernel_rfl) (by kernel_rfl) (by kernel_rfl) (fun _ _ _ h => h) (Or.inl ⟨by kernel_rfl, ?hyna12⟩) (by assumption) ?restna12
          case hyna12 => (intro x hSx; (try dsimp only at hSx); go_simp; first | done | with_reducible rfl)
          try simp only [Act.put, List.setIfInBounds_toArray, List.set_cons_zero, List.set_cons_succ]
          refine wpAnyH_takeD (i := 13) (some 122) (v := .int .i64 0) rfl rfl (by kernel_rfl) (by kernel_rfl) (by kernel_rfl) (fun _ _ _ h => h) (Or.inl ⟨by kernel_rfl, ?hyna13⟩) (by assumption) ?restna13
          case hyna13 => (intro x hSx; (try dsimp only at hSx); go_simp; first | done | with_reducible rfl)
          try simp only [Act.put, List.setIfInBounds_toArray, List.set_cons_zero, List.set_cons_succ]
          have hN : Blk y10 wr.heap.size 47 #[.int .i64 0, .int .i64 0, .slice none 0 0] := hN0.old hb10
          obtain ⟨wN, hwN⟩ : ∃ wN, wN = y10 := ⟨_, rfl⟩
          subst hwN
          have hHn := hH10
          have hnbl : wr.heap.size ≤ wr.heap.size := Nat.le_refl _
          have n0 := hN.cell 0; have n1 := hN.cell 1; have n2 := hN.cell 2; have m0 := hN.frozen 0; have m1 := hN.frozen 1; have m2 := hN.frozen 2
          have hS15 : Below wr.heap.size wr (((wN.setCell ⟨wr.heap.size, 0, none⟩ (.int .i64 0)).setCell ⟨wr.heap.size, 1, none⟩ (.int .i64 0)).setCell ⟨wr.heap.size, 2, none⟩ (.slice none 0 0)) := ((hHn.setCell (p := ⟨wr.heap.size, 0, none⟩) hnbl _).setCell (p := ⟨wr.heap.size, 1, none⟩) hnbl _).setCell (p := ⟨wr.heap.size, 2, none⟩) hnbl _
          have hN15 := hN.set3 (.int .i64 0) (.int .i64 0) (.slice none 0 0)
          refine wpAnyH_ready (rs := [15]) (by kernel_rfl) (by simp) ?_
          refine AllReadyH.cons rfl (fun K hK => ?_) AllReadyH.nil
          go_simp
          refine hK.out _ _ hS15 (fun hs15 => ?_)
          clear hK K
          try simp only [Act.put, List.setIfInBounds_toArray, List.set_cons_zero, List.set_cons_succ]
          refine wpAnyH_takeD (i := 16) (some 13) (v := .int .i64 0) rfl rfl (by kernel_rfl) (by kernel_rfl) (by kernel_rfl) (fun _ _ _ h => h) (Or.inl ⟨by kernel_rfl, ?hyna16⟩) (by assumption) ?restna16
          case hyna16 => (intro x hSx; (try dsimp only at hSx); go_simp; first | done | with_reducible rfl)
          try simp only [Act.put, List.setIfInBounds_toArray, List.set_cons_zero, List.set_cons_succ]
          refine wpAnyH_done (by kernel_rfl) ?_ _
          generalize (((wN.setCell ⟨wr.heap.size, 0, none⟩ (.int .i64 0)).setCell ⟨wr.heap.size, 1, none⟩ (.int .i64 0)).setCell ⟨wr.heap.size, 2, none⟩ (.slice none 0 0)) = w6 at *
          have hb06 := hb0r.trans (hS15.mono hb0r.size)
          have n60 := hN15.cell 0; have n61 := hN15.cell 1; have n62 := hN15.cell 2; have k60 := hN15.frozen 2
          have hR1 : Hid (R = unfL utfAt (j + 1) (l.drop (j + 1)) (t.drop (j + 1))) := HZn.out hZ
          have hb36 : Below w3.heap.size w3 w6 := hbel.trans (hS15.mono hbel.size)
          clear hun hN n0 n1 n2 m0 m1 m2 hN15 HZn HZs HRow HRp
          go_wp2_with fail
          go_roundw
          case rel => exact ⟨j + 1, by omega, by simp, hR1, hb36⟩
          case measure => simp only [intOf]; omega
        | some rr =>
          obtain ⟨cc, aa, P, yy⟩ := rr
          rw [hZ] at hEP
          obtain ⟨_, v, hev0, hV0⟩ := hEP
          have hev : v10 = .tuple #[.agg #[.int .i64 cc, .int .i64 aa, v], .int .i64 yy] := by injection hev0
          subst hev
          clear hev0
          obtain ⟨va, vc, rfl⟩ := hV0.val
          have hV : IOwn y10 w.heap.size (.slice va P.length vc) P := hV0.mono (Nat.le_trans hb0r.size hbn0.size)
          have hcne : cc ≠ 0 := HCN.out cc aa P yy hZ
          refine hK.out _ _ hH10 (fun hs10 => ?_)
          clear hK K
          try simp only [Act.put, List.setIfInBounds_toArray, List.set_cons_zero, List.set_cons_succ]
          refine wpAnyH_takeD (i := 11) (some 109) (v := .tuple #[.agg #[.int .i64 cc, .int .i64 aa, .slice va P.length vc], .int .i64 yy]) rfl rfl (by kernel_rfl) (by kernel_rfl) (by kernel_rfl) (fun _ _ _ h => h) (Or.inl ⟨by kernel_rfl, ?hysa11⟩) (by assumption) ?restsa11
          case hysa11 => (intro x hSx; (try dsimp only at hSx); go_simp; first | done | with_reducible rfl)
          try simp only [Act.put, List.setIfInBounds_toArray, List.set_cons_zero, List.set_cons_succ]
          refine wpAnyH_takeD (i := 12) (some 121) (v := .agg #[.int .i64 cc, .int .i64 aa, .slice va P.length vc]) rfl rfl (by kernel_rfl) (by kernel_rfl) (by kernel_rfl) (fun _ _ _ h => h) (Or.inl ⟨by kernel_rfl, ?hysa12⟩) (by assumption) ?restsa12
          case hysa12 => (intro x hSx; (try dsimp only at hSx); go_simp; first | done | with_reducible rfl)
          try simp only [Act.put, List.setIfInBounds_toArray, List.set_cons_zero, List.set_cons_succ]
          refine wpAnyH_takeD (i := 13) (some 122) (v := .int .i64 yy) rfl rfl (by kernel_rfl) (by kernel_rfl) (by kernel_rfl) (fun _ _ _ h => h) (Or.inl ⟨by kernel_rfl, ?hysa13⟩) (by assumption) ?restsa13
          case hysa13 => (intro x hSx; (try dsimp only at hSx); go_simp; first | done | with_reducible rfl)
          try simp only [Act.put, List.setIfInBounds_toArray, List.set_cons_zero, List.set_cons_succ]
          have hN : Blk y10 wr.heap.size 47 #[.int .i64 0, .int .i64 0, .slice none 0 0] := hN0.old hb10
          obtain ⟨wN, hwN⟩ : ∃ wN, wN = y10 := ⟨_, rfl⟩
          subst hwN
          have hHn := hH10
          have hV2 := hV
          have hnbl : wr.heap.size ≤ wr.heap.size := Nat.le_refl _
          have n0 := hN.cell 0; have n1 := hN.cell 1; have n2 := hN.cell 2; have m0 := hN.frozen 0; have m1 := hN.frozen 1; have m2 := hN.frozen 2
          have hS15 : Below wr.heap.size wr (((wN.setCell ⟨wr.heap.size, 0, none⟩ (.int .i64 cc)).setCell ⟨wr.heap.size, 1, none⟩ (.int .i64 aa)).setCell ⟨wr.heap.size, 2, none⟩ (.slice va P.length vc)) := ((hHn.setCell (p := ⟨wr.heap.size, 0, none⟩) hnbl _).setCell (p := ⟨wr.heap.size, 1, none⟩) hnbl _).setCell (p := ⟨wr.heap.size, 2, none⟩) hnbl _
          have hN15 := hN.set3 (.int .i64 cc) (.int .i64 aa) (.slice va P.length vc)
          have hV15 : IOwn (((wN.setCell ⟨wr.heap.size, 0, none⟩ (.int .i64 cc)).setCell ⟨wr.heap.size, 1, none⟩ (.int .i64 aa)).setCell ⟨wr.heap.size, 2, none⟩ (.slice va P.length vc)) w.heap.size (.slice va P.length vc) P := own_far (own_far (own_far hV2 hN (by decide) 0 _) (hN.set 0 _) (by decide) 1 _) ((hN.set 0 _).set 1 _) (by decide) 2 _
          refine wpAnyH_ready (rs := [15]) (by kernel_rfl) (by simp) ?_
          refine AllReadyH.cons rfl (fun K hK => ?_) AllReadyH.nil
          go_simp
          refine hK.out _ _ hS15 (fun hs15 => ?_)
          clear hK K
          try simp only [Act.put, List.setIfInBounds_toArray, List.set_cons_zero, List.set_cons_succ]
          refine wpAnyH_takeD (i := 16) (some 13) (v := .int .i64 yy) rfl rfl (by kernel_rfl) (by kernel_rfl) (by kernel_rfl) (fun _ _ _ h => h) (Or.inl ⟨by kernel_rfl, ?hysa16⟩) (by assumption) ?restsa16
          case hysa16 => (intro x hSx; (try dsimp only at hSx); go_simp; first | done | with_reducible rfl)
          try simp only [Act.put, List.setIfInBounds_toArray, List.set_cons_zero, List.set_cons_succ]
          refine wpAnyH_done (by kernel_rfl) ?_ _
          generalize (((wN.setCell ⟨wr.heap.size, 0, none⟩ (.int .i64 cc)).setCell ⟨wr.heap.size, 1, none⟩ (.int .i64 aa)).setCell ⟨wr.heap.size, 2, none⟩ (.slice va P.length vc)) = w6 at *
          have hb06 := hb0r.trans (hS15.mono hb0r.size)
          have n60 := hN15.cell 0; have n61 := hN15.cell 1; have n62 := hN15.cell 2; have k60 := hN15.frozen 2
          have hRq : R = some (cc, aa, (j : Int) :: P, yy) := HZs.out _ hZ
          have hR6 := hRr.old hS15
          have hcn := hcne
          have tc1 : (cc != 0) = true := bne_iff_ne.2 hcn
          have tc2 : (cc == 0) = false := by simpa using hcn
          have tc3 : decide (cc = 0) = false := decide_eq_false hcn
          have hPl := HPL.out cc aa P yy hZ
          have hb67 := (Below.refl w6.heap.size w6).alloc (Nat.le_refl _) (.cells #[.int .i64 (j : Int)] 3)
          have hs7 := alloc_size w6 (.cells #[.int .i64 (j : Int)] 3)
          have hown7 : IOwn (w6.alloc (.cells #[.int .i64 (j : Int)] 3)) w.heap.size (.slice (some ⟨w6.heap.size, 0, none⟩) 1 1) [(j : Int)] := ⟨by simp, .inr ⟨w6.heap.size, 1, #[.int .i64 (j : Int)], rfl, hb06.size, heap_alloc_new w6 _, by simp, by simp [maxLen], by simp, by simp⟩⟩
          have hN7 := hN15.old hb67
          have hR7 := hR6.old hb67
          have hb07 := hb06.trans (hb67.mono hb06.size)
          have hnl := hN15.lt
          have hRl := hR6.lt
          have hRn : w.heap.size + 1 + 1 ≠ wr.heap.size := by have := hRr.lt; omega
          have e7 : (w6.alloc (.cells #[.int .i64 (j : Int)] 3)).cell? ⟨wr.heap.size, 2, none⟩ = some (.slice va P.length vc) := hN7.cell 2
          have HOWN : Hid (IOwn (w6.alloc (.cells #[.int .i64 (j : Int)] 3)) w.heap.size (.slice (some ⟨w6.heap.size, 0, none⟩) 1 1) [(j : Int)]) := hown7
          have HN7 : Hid (Blk (w6.alloc (.cells #[.int .i64 (j : Int)] 3)) wr.heap.size 47 #[.int .i64 cc, .int .i64 aa, .slice va P.length vc]) := hN7
          have HR7 : Hid (Blk (w6.alloc (.cells #[.int .i64 (j : Int)] 3)) (w.heap.size + 1 + 1) 47 #[.int .i64 0, .int .i64 0, .slice none 0 0]) := hR7
          have HN15 : Hid (Blk w6 wr.heap.size 47 #[.int .i64 cc, .int .i64 aa, .slice va P.length vc]) := hN15
          clear hun hN n0 n1 n2 m0 m1 m2 HZn HZs HRow HRp HPL hown7 hN7 hR7 hN15
          rcases hV15.form with ⟨hvn, rfl⟩ | ⟨g, gc, hvs, _, hgl, _, hgc, _⟩
          · simp only [Value.slice.injEq] at hvn
            obtain ⟨rfl, _, rfl⟩ := hvn
            go_upto_region 28 with fail
            have hs5 : (w6.setCell ⟨wr.heap.size, 2, none⟩ (.slice (some ⟨w6.heap.size, 0, none⟩) 1 1)).heap.size = w6.heap.size := by simp [World.setCell]
            have hbx := (Below.refl _ (w6.setCell ⟨wr.heap.size, 2, none⟩ (.slice (some ⟨w6.heap.size, 0, none⟩) 1 1))).alloc (Nat.le_refl _) (.cells #[.int .i64 (j : Int)] 3)
            have hN9 := (HN15.out.set 2 (.slice (some ⟨w6.heap.size, 0, none⟩) 1 1)).old hbx
            have hR9 := (hR6.other (p := ⟨wr.heap.size, 2, none⟩) hRn (.slice (some ⟨w6.heap.size, 0, none⟩) 1 1)).old hbx
            have hO9 : IOwn ((w6.setCell ⟨wr.heap.size, 2, none⟩ (.slice (some ⟨w6.heap.size, 0, none⟩) 1 1)).alloc (.cells #[.int .i64 (j : Int)] 3)) w.heap.size (.slice (some ⟨w6.heap.size, 0, none⟩) 1 1) [(j : Int)] := ⟨by simp, .inr ⟨w6.heap.size, 1, #[.int .i64 (j : Int)], rfl, hb06.size, (by have := heap_alloc_new (w6.setCell ⟨wr.heap.size, 2, none⟩ (.slice (some ⟨w6.heap.size, 0, none⟩) 1 1)) (.cells #[.int .i64 (j : Int)] 3); rw [hs5] at this; exact this), by simp, by simp [maxLen], by simp, by simp⟩⟩
            have hb09 := (hb06.setCell (p := ⟨wr.heap.size, 2, none⟩) (Nat.le_trans hb0r.size hnbl) (.slice (some ⟨w6.heap.size, 0, none⟩) 1 1)).alloc (by rw [hs5]; exact hb06.size) (.cells #[.int .i64 (j : Int)] 3)
            generalize ((w6.setCell ⟨wr.heap.size, 2, none⟩ (.slice (some ⟨w6.heap.size, 0, none⟩) 1 1)).alloc (.cells #[.int .i64 (j : Int)] 3)) = w9 at *
            have x0 : w9.cell? ⟨wr.heap.size, 0, none⟩ = some (.int .i64 cc) := hN9.cell 0
            have x1 : w9.cell? ⟨wr.heap.size, 1, none⟩ = some (.int .i64 aa) := hN9.cell 1
            have x2 : w9.cell? ⟨wr.heap.size, 2, none⟩ = some (.slice (some ⟨w6.heap.size, 0, none⟩) 1 1) := hN9.cell 2
            have z0 : w9.cell? ⟨w.heap.size + 1 + 1, 0, none⟩ = some (.int .i64 0) := hR9.cell 0
            have z1 : w9.cell? ⟨w.heap.size + 1 + 1, 1, none⟩ = some (.int .i64 0) := hR9.cell 1
            have z2 : w9.cell? ⟨w.heap.size + 1 + 1, 2, none⟩ = some (.slice none 0 0) := hR9.cell 2
            have f0 := hR9.frozen 0
            have f1 := hR9.frozen 1
            have f2 := hR9.frozen 2
            have hfin := hR9.set3 (.int .i64 cc) (.int .i64 aa) (.slice (some ⟨w6.heap.size, 0, none⟩) 1 1)
            have hbw := ((hb09.setCell (p := ⟨w.heap.size + 1 + 1, 0, none⟩) (by show w.heap.size ≤ w.heap.size + 1 + 1; omega) (.int .i64 cc)).setCell (p := ⟨w.heap.size + 1 + 1, 1, none⟩) (by show w.heap.size ≤ w.heap.size + 1 + 1; omega) (.int .i64 aa)).setCell (p := ⟨w.heap.size + 1 + 1, 2, none⟩) (by show w.heap.size ≤ w.heap.size + 1 + 1; omega) (.slice (some ⟨w6.heap.size, 0, none⟩) 1 1)
            have hOf := own_far (own_far (own_far hO9 hR9 (by decide) 0 (.int .i64 cc)) (hR9.set 0 (.int .i64 cc)) (by decide) 1 (.int .i64 aa)) ((hR9.set 0 (.int .i64 cc)).set 1 (.int .i64 aa)) (by decide) 2 (.slice (some ⟨w6.heap.size, 0, none⟩) 1 1)
            clear hN9 hR9 hO9 HN7 HR7 HOWN e7 n60 n61 n62 k60 hV15 HN15
            go_wp2_with fail
            refine bodyPost_ret (res49_run (b := w.heap.size + 1 + 1) (v5 := .int .i64 yy) hfin rfl rfl) rfl ?_
            rw [hRq]
            exact ⟨hbw, _, rfl, hOf⟩
          · simp only [Value.slice.injEq, true_and] at hvs
            obtain ⟨rfl, rfl⟩ := hvs
            have HC : Hid (∀ i, i < P.length → (w6.alloc (.cells #[.int .i64 (j : Int)] 3)).cell? ((⟨g, 0, none⟩ : Addr).add i) = some (.int .i64 (P[i]?.getD 0))) := fun i hi => by
              rw [addj g i]
              exact (hb67.cell (p := ⟨g, i, none⟩) hgl).trans (hgc i hi)
            have HLE : Hid ([(j : Int)].length + P.length ≤ 1099511627776) := by show _ ≤ _; simp; omega
            have HBS : Hid (w.heap.size ≤ (w6.alloc (.cells #[.int .i64 (j : Int)] 3)).heap.size) := hb07.size
            have HNL : Hid (wr.heap.size < (w6.alloc (.cells #[.int .i64 (j : Int)] 3)).heap.size ∧ some wr.heap.size ≠ (Value.slice (some ⟨w6.heap.size, 0, none⟩) 1 1).ownBlock) := ⟨by rw [hs7]; omega, by simp [Value.ownBlock]; omega⟩
            have HRL : Hid (w.heap.size + 1 + 1 < (w6.alloc (.cells #[.int .i64 (j : Int)] 3)).heap.size ∧ some (w.heap.size + 1 + 1) ≠ (Value.slice (some ⟨w6.heap.size, 0, none⟩) 1 1).ownBlock) := ⟨by rw [hs7]; omega, by simp [Value.ownBlock]; omega⟩
            clear hgc hV15
            go_upto_region 28 with (at_builtin; refine wpList_append_ints rfl (.tmp 127) (.tmp 129) rfl w.heap.size _ [(j : Int)] rfl HOWN.out P ⟨g, 0, none⟩ _ rfl HC.out HLE.out HBS.out ?_; intro a8 c8 w8 hown8 hgr8 hnil8 hat8; have hN8 : Blk w8 wr.heap.size 47 #[.int .i64 cc, .int .i64 aa, .slice (some ⟨g, 0, none⟩) P.length _] := (hgr8.block wr.heap.size HNL.out.1 HNL.out.2).trans HN7.out; have e8 := hN8.cell 2; have g8 := hN8.frozen 2)
            have hR8 : Blk w8 (w.heap.size + 1 + 1) 47 #[.int .i64 0, .int .i64 0, .slice none 0 0] := (hgr8.block _ HRL.out.1 HRL.out.2).trans HR7.out
            have hb08 : Below w.heap.size w w8 := hb07.grown hgr8 hb07.size (fun k hk => (own_ge HOWN.out hk).1)
            have hN9 := hN8.set 2 (.slice a8 ([(j : Int)].length + P.length) c8)
            have hR9 := hR8.other (p := ⟨wr.heap.size, 2, none⟩) hRn (.slice a8 ([(j : Int)].length + P.length) c8)
            have hO9 := own_far hown8 hN8 (by decide) 2 (.slice a8 ([(j : Int)].length + P.length) c8)
            have hb09 := hb08.setCell (p := ⟨wr.heap.size, 2, none⟩) (Nat.le_trans hb0r.size hnbl) (.slice a8 ([(j : Int)].length + P.length) c8)
            try simp only [List.length_cons, List.length_nil, Nat.zero_add] at hN9 hR9 hO9 hb09 ⊢
            generalize w8.setCell ⟨wr.heap.size, 2, none⟩ (.slice a8 (1 + P.length) c8) = w9 at *
            have x0 : w9.cell? ⟨wr.heap.size, 0, none⟩ = some (.int .i64 cc) := hN9.cell 0
            have x1 : w9.cell? ⟨wr.heap.size, 1, none⟩ = some (.int .i64 aa) := hN9.cell 1
            have x2 : w9.cell? ⟨wr.heap.size, 2, none⟩ = some (.slice a8 (1 + P.length) c8) := hN9.cell 2
            have z0 : w9.cell? ⟨w.heap.size + 1 + 1, 0, none⟩ = some (.int .i64 0) := hR9.cell 0
            have z1 : w9.cell? ⟨w.heap.size + 1 + 1, 1, none⟩ = some (.int .i64 0) := hR9.cell 1
            have z2 : w9.cell? ⟨w.heap.size + 1 + 1, 2, none⟩ = some (.slice none 0 0) := hR9.cell 2
            have f0 := hR9.frozen 0
            have f1 := hR9.frozen 1
            have f2 := hR9.frozen 2
            have hfin := hR9.set3 (.int .i64 cc) (.int .i64 aa) (.slice a8 (1 + P.length) c8)
            have hbw := ((hb09.setCell (p := ⟨w.heap.size + 1 + 1, 0, none⟩) (by show w.heap.size ≤ w.heap.size + 1 + 1; omega) (.int .i64 cc)).setCell (p := ⟨w.heap.size + 1 + 1, 1, none⟩) (by show w.heap.size ≤ w.heap.size + 1 + 1; omega) (.int .i64 aa)).setCell (p := ⟨w.heap.size + 1 + 1, 2, none⟩) (by show w.heap.size ≤ w.heap.size + 1 + 1; omega) (.slice a8 (1 + P.length) c8)
            have hOf := own_far (own_far (own_far hO9 hR9 (by decide) 0 (.int .i64 cc)) (hR9.set 0 (.int .i64 cc)) (by decide) 1 (.int .i64 aa)) ((hR9.set 0 (.int .i64 cc)).set 1 (.int .i64 aa)) (by decide) 2 (.slice a8 (1 + P.length) c8)
            clear hown8 hgr8 hnil8 hat8 hN8 e8 g8 hR8 hN9 hR9 hO9 HN7 HR7 HOWN HC e7 n60 n61 n62 k60
            go_wp2_with fail
            refine bodyPost_ret (res49_run (b := w.heap.size + 1 + 1) (v5 := .int .i64 yy) hfin rfl rfl) rfl ?_
            rw [hRq]
            exact ⟨hbw, _, rfl, hOf⟩
    · have hRn : R = none := by rw [HS.out, List.drop_of_length_le (by rw [HL.out]; omega), unfL_nil]
      have tl : decide ((j : Int) < (ln : Int)) = false := decide_eq_false (by omega)
      have tl2 : decide (j < ln) = false := decide_eq_false hlt
      have z0 : wr.cell? ⟨w.heap.size + 1 + 1, 0, none⟩ = some (.int .i64 0) := hRr.cell 0
      have z1 : wr.cell? ⟨w.heap.size + 1 + 1, 1, none⟩ = some (.int .i64 0) := hRr.cell 1
      have z2 : wr.cell? ⟨w.heap.size + 1 + 1, 2, none⟩ = some (.slice none 0 0) := hRr.cell 2
      have f0 := hRr.frozen 0
      have f1 := hRr.frozen 1
      have f2 := hRr.frozen 2
      have hfin := hRr.set3 (.int .i64 0) (.int .i64 0) (.slice none 0 0)
      have hbw := ((hb0r.setCell (p := ⟨w.heap.size + 1 + 1, 0, none⟩) (by show w.heap.size ≤ w.heap.size + 1 + 1; omega) (.int .i64 0)).setCell (p := ⟨w.heap.size + 1 + 1, 1, none⟩) (by show w.heap.size ≤ w.heap.size + 1 + 1; omega) (.int .i64 0)).setCell (p := ⟨w.heap.size + 1 + 1, 2, none⟩) (by show w.heap.size ≤ w.heap.size + 1 + 1; omega) (.slice none 0 0)

      clear ih hPm hin hpin HS hA3 hP3 hAr hPr hRr
      go_wp2_with fail
      refine bodyPost_ret (res49_run (b := w.heap.size + 1 + 1) (v5 := .int .i64 0) hfin rfl rfl) rfl ?_
      rw [hRn]
      exact ⟨hbw, rfl⟩
end Go.Proofs.YtkjoomdglealmaaGreatDoor
