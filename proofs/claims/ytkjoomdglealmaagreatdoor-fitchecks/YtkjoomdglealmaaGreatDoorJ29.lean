/- Contracts and lemmas (nothing is claimed here). -/
import Derived.Test.YtkjoomdglealmaaGreatDoorRInC
import Derived.Test.YtkjoomdglealmaaGreatDoorJ18
namespace Go.Proofs.YtkjoomdglealmaaGreatDoor
open Go.RowKit Go.Vf

theorem kind_eq {o : Go.Vf.Own} {k : Int} (h : o.kind = k) : ({ o with kind := k } : Go.Vf.Own) = o := by subst h; rfl
theorem may_kind {k : Int} {y b : Bool} {m r : ByteArray} {t : List Prt} (h : may (.mk k y b m r t) = true) : (k = 0 ∨ k = 1 ∨ k = 2 ∨ k = 3 ∨ k = 4 ∨ k = 5 ∨ k = 6 ∨ k = 7) ∧ ((k = 3 ∨ k = 5 ∨ k = 6) → r.size ≤ 65536) := by
  rw [may_eq] at h
  simp only [Bool.and_eq_true] at h
  have h2 := h.1.2
  simp only [own2, Prt.kind, Prt.neg, Prt.mag, Prt.raw, Prt.items, Bool.and_eq_true, Bool.or_eq_true, beq_iff_eq] at h2
  rcases h2 with ((((h | h) | ⟨h, _⟩) | ⟨h, h'⟩) | ⟨h, _⟩) | ⟨h, _⟩
  · exact ⟨by omega, fun _ => by omega⟩
  · exact ⟨by omega, fun _ => by omega⟩
  · exact ⟨by omega, fun _ => by omega⟩
  · exact ⟨by omega, fun _ => of_decide_eq_true h'⟩
  · exact ⟨by omega, fun _ => by omega⟩
  · exact ⟨by omega, fun _ => by omega⟩

theorem inner_any : ∀ (f : Fld), GoodF f → ∀ (p : Prt), may p = true → dep p ≤ 100 → ∀ (a pa : Option Addr) (c pc lo n₀ : Nat) (w : World), n₀ ≤ w.heap.size → FIn w lo n₀ f.fields a → PIn w lo n₀ p pa →
    Calls Tryz.prog 49 #[fV f.own a f.fields.length c, pV p pa pc] w (InnPost (unf utfAt f p) w) := by
  intro f
  induction f using Fld.ind with
  | h o l ih =>
    intro hg p hm hd a pa c pc lo n₀ w hn₀ hin hpin
    obtain ⟨k1, k7, s1, s2, hq, hll, hgs⟩ : 1 ≤ o.kind ∧ o.kind ≤ 7 ∧ o.lm.size ≤ 17179869184 ∧ o.hm.size ≤ 17179869184 ∧ (o.bnd = true → chk o.ln o.lm.data.toList = 0 ∧ chk o.hn o.hm.data.toList = 0) ∧ l.length ≤ 17179869184 ∧ ∀ x ∈ l, GoodF x := by
      cases hg with | mk a b c d e f g => exact ⟨a, b, c, d, e, f, g⟩
    obtain ⟨k, y, b, m, r, t⟩ := p
    obtain ⟨hk8, hks⟩ := may_kind hm
    unfold fV pV
    simp only [Fld.own, Fld.fields, Prt.kind, Prt.yes, Prt.neg, Prt.mag, Prt.raw, Prt.items]
    by_cases h0 : k = 0
    · subst h0
      rw [unf, if_pos rfl]
      exact inn_null o l a pa c pc y b m r t w
    by_cases hne : k ≠ o.kind
    · rw [unf, if_neg h0, if_pos hne]
      exact inn_kind k h0 o l a pa c pc y b m r t w hne
    have hko : k = o.kind := Classical.byContradiction hne
    rw [unf, if_neg h0, if_neg hne]
    rcases hk8 with h | h | h | h | h | h | h | h
    · exact absurd h h0
    · subst h
      rw [if_neg (by decide), if_neg (by decide), if_neg (by decide), ← hko]
      exact inn_1 o l a pa c pc y b m r t w
    · subst h
      obtain ⟨q1, q2⟩ := may_num hm
      rw [if_pos rfl, ← hko]
      by_cases hb : o.bnd = true
      · exact inn_2b o l a pa c pc y b m r t w hb (by omega) s1 s2 q2 (hq hb).1 (hq hb).2
      · have hb' : o.bnd = false := by simpa using hb
        have e : oobR o b m = false := by unfold oobR; rw [hb']; rfl
        rw [e, if_neg (by decide)]
        exact inn_2n o l a pa c pc y b m r t w hb'
    · subst h
      have := inn_3 o l a pa c pc y b m r t w (by have := hks (by omega); omega)
      rw [kind_eq hko.symm] at this
      rw [if_neg (by decide), if_pos (by decide), ← hko]
      exact this
    · subst h
      have e : bytR o r.size (utfAt r) = 0 := by unfold bytR; rw [← hko]; rfl
      rw [if_neg (by decide), if_pos (by decide), e, ← hko]
      exact inn_4 o l a pa c pc y b m r t w
    · subst h
      have := inn_5 o l a pa c pc y b m r t w (by have := hks (by omega); omega)
      rw [kind_eq hko.symm] at this
      rw [if_neg (by decide), if_pos (by decide), ← hko]
      exact this
    · subst h
      have := inn_6 o l a pa c pc y b m r t w (by have := hks (by omega); omega)
      rw [kind_eq hko.symm] at this
      rw [if_neg (by decide), if_pos (by decide), ← hko]
      exact this
    · subst h
      have hml : ∀ x ∈ t, may x = true := by
        rw [may_eq] at hm
        simp only [Prt.items, Bool.and_eq_true] at hm
        exact List.all_eq_true.1 hm.2
      have hdl : depL t + 1 ≤ 100 := by rw [dep, if_pos rfl] at hd; exact hd
      rw [if_neg (by decide), if_neg (by decide), if_pos rfl, ← hko]
      refine inn_7 o l a pa c pc y b m r t w hll lo n₀ hn₀ hin hpin (fun j h1 h2 cc aa P yy hu => ?_) (fun j h1 h2 aj cj az cz W hW hf hp => ?_)
      · have hdj := depL_mem (List.getElem_mem h2)
        have := unf_len t[j] l[j] cc aa P yy hu
        omega
      · have hdj := depL_mem (List.getElem_mem h2)
        have hsz := hW.size
        exact ih l[j] (List.getElem_mem h1) (hgs _ (List.getElem_mem h1)) t[j] (hml _ (List.getElem_mem h2)) (by omega) aj az cj cz lo n₀ W (by omega) hf hp
end Go.Proofs.YtkjoomdglealmaaGreatDoor

namespace Go.Proofs.YtkjoomdglealmaaGreatDoor
open Go.RowKit Go.Vf

theorem res21_run {tmps : Array Value} {w : World} {b : Nat} {a0 a1 a2 v5 : Value} (h : Blk w b 47 #[a0, a1, a2]) (t4 : tmps[4]?.getD undef = .pointer (some ⟨b, 0, none⟩)) (t5 : tmps[5]?.getD undef = v5) :
    (results Tryz.f21 tmps).run Tryz.prog w = .ok (.tuple #[.agg #[a0, a1, a2], v5]) w := by
  have c0 := h.cell 0
  have c1 := h.cell 1
  have c2 := h.cell 2
  simp at c0 c1 c2
  simp [results, Tryz.results21, go_sem, t4, t5, c0, c1, c2]

set_option maxHeartbeats 4000000 in
set_option maxRecDepth 20000 in
theorem fieldWhy_any (o : Go.Vf.Own) (l : List Fld) (hf : FitsF 17179869184 (.mk o l)) (p : Prt) (hm : may p = true) (hd : dep p ≤ 100) (a pa : Option Addr) (c pc lo n₀ : Nat) (hc : l.length ≤ c) (w : World) (hn₀ : n₀ ≤ w.heap.size) (hin : FIn w lo n₀ l a) (hpin : PIn w lo n₀ p pa) :
    Calls Tryz.prog 21 #[.agg #[.string o.name, .int .u8 o.kind, .bool o.down, .int .u8 o.nulls, .bool o.bnd, .bool o.ln, .string o.lm, .bool o.hn, .string o.hm, .int .i64 o.most, .int .i64 o.str, .bool o.shf, .bool o.bck, .slice a l.length c], .agg #[.int .u8 p.kind, .bool p.yes, .bool p.neg, .string p.mag, .string p.raw, .slice pa p.items.length pc]] w (InnPost (argE (chkS bndQ 65536 [.mk o l]).1 (unf utfAt (.mk o l) p)) w) := by
  obtain ⟨q, hq⟩ : ∃ q, (chkS bndQ 65536 [.mk o l]).1 = q := ⟨_, rfl⟩
  obtain ⟨Z, hZ⟩ : ∃ Z, unf utfAt (.mk o l) p = Z := ⟨_, rfl⟩
  have href : ∀ W, Below w.heap.size w W → Calls Tryz.prog 26 #[.agg #[.string o.name, .int .u8 o.kind, .bool o.down, .int .u8 o.nulls, .bool o.bnd, .bool o.ln, .string o.lm, .bool o.hn, .string o.hm, .int .i64 o.most, .int .i64 o.str, .bool o.shf, .bool o.bck, .slice a l.length c]] W fun e w' => e = .returned (.int .i64 q) ∧ Below W.heap.size W w' := fun W hW => by
    have := refusedField_any (.mk o l) hf a c lo n₀ W hc (by have := hW.size; omega) (hin.keep hW hn₀)
    rw [hq] at this
    exact this
  have hinn : q = 0 → ∀ W, Below w.heap.size w W → Calls Tryz.prog 49 #[.agg #[.string o.name, .int .u8 o.kind, .bool o.down, .int .u8 o.nulls, .bool o.bnd, .bool o.ln, .string o.lm, .bool o.hn, .string o.hm, .int .i64 o.most, .int .i64 o.str, .bool o.shf, .bool o.bck, .slice a l.length c], .agg #[.int .u8 p.kind, .bool p.yes, .bool p.neg, .string p.mag, .string p.raw, .slice pa p.items.length pc]] W (InnPost Z W) := fun h0 W hW => by
    have := inner_any (.mk o l) ((chkS_seen (hq.trans h0) (.mk o l) (by simp)).good hf) p hm hd a pa c pc lo n₀ W (by have := hW.size; omega) (hin.keep hW hn₀) (hpin.keep hW hn₀)
    rw [hZ] at this
    exact this
  rw [hq, hZ]
  obtain ⟨R, hR⟩ : ∃ R, argE q Z = R := ⟨_, rfl⟩
  rw [hR]
  have HR : Hid (argE q Z = R) := hR
  clear hR hq hZ hin hpin hf hm hd
  have hb1 := (Below.refl w.heap.size w).alloc (Nat.le_refl _) (.cells #[.string o.name, .int .u8 o.kind, .bool o.down, .int .u8 o.nulls, .bool o.bnd, .bool o.ln, .string o.lm, .bool o.hn, .string o.hm, .int .i64 o.most, .int .i64 o.str, .bool o.shf, .bool o.bck, .slice a l.length c] 57)
  have hs1 := alloc_size w (.cells #[.string o.name, .int .u8 o.kind, .bool o.down, .int .u8 o.nulls, .bool o.bnd, .bool o.ln, .string o.lm, .bool o.hn, .string o.hm, .int .i64 o.most, .int .i64 o.str, .bool o.shf, .bool o.bck, .slice a l.length c] 57)
  have hA1 := Blk.new w 57 #[.string o.name, .int .u8 o.kind, .bool o.down, .int .u8 o.nulls, .bool o.bnd, .bool o.ln, .string o.lm, .bool o.hn, .string o.hm, .int .i64 o.most, .int .i64 o.str, .bool o.shf, .bool o.bck, .slice a l.length c]
  have hb12 := (Below.refl _ (w.alloc (.cells #[.string o.name, .int .u8 o.kind, .bool o.down, .int .u8 o.nulls, .bool o.bnd, .bool o.ln, .string o.lm, .bool o.hn, .string o.hm, .int .i64 o.most, .int .i64 o.str, .bool o.shf, .bool o.bck, .slice a l.length c] 57))).alloc (Nat.le_refl _) (.cells #[.int .u8 p.kind, .bool p.yes, .bool p.neg, .string p.mag, .string p.raw, .slice pa p.items.length pc] 30)
  have hs2 := alloc_size (w.alloc (.cells #[.string o.name, .int .u8 o.kind, .bool o.down, .int .u8 o.nulls, .bool o.bnd, .bool o.ln, .string o.lm, .bool o.hn, .string o.hm, .int .i64 o.most, .int .i64 o.str, .bool o.shf, .bool o.bck, .slice a l.length c] 57)) (.cells #[.int .u8 p.kind, .bool p.yes, .bool p.neg, .string p.mag, .string p.raw, .slice pa p.items.length pc] 30)
  have hP2 := Blk.new (w.alloc (.cells #[.string o.name, .int .u8 o.kind, .bool o.down, .int .u8 o.nulls, .bool o.bnd, .bool o.ln, .string o.lm, .bool o.hn, .string o.hm, .int .i64 o.most, .int .i64 o.str, .bool o.shf, .bool o.bck, .slice a l.length c] 57)) 30 #[.int .u8 p.kind, .bool p.yes, .bool p.neg, .string p.mag, .string p.raw, .slice pa p.items.length pc]
  have hb23 := (Below.refl _ ((w.alloc (.cells #[.string o.name, .int .u8 o.kind, .bool o.down, .int .u8 o.nulls, .bool o.bnd, .bool o.ln, .string o.lm, .bool o.hn, .string o.hm, .int .i64 o.most, .int .i64 o.str, .bool o.shf, .bool o.bck, .slice a l.length c] 57)).alloc (.cells #[.int .u8 p.kind, .bool p.yes, .bool p.neg, .string p.mag, .string p.raw, .slice pa p.items.length pc] 30))).alloc (Nat.le_refl _) (.cells #[.int .i64 0, .int .i64 0, .slice none 0 0] 47)
  have hR3 := Blk.new ((w.alloc (.cells #[.string o.name, .int .u8 o.kind, .bool o.down, .int .u8 o.nulls, .bool o.bnd, .bool o.ln, .string o.lm, .bool o.hn, .string o.hm, .int .i64 o.most, .int .i64 o.str, .bool o.shf, .bool o.bck, .slice a l.length c] 57)).alloc (.cells #[.int .u8 p.kind, .bool p.yes, .bool p.neg, .string p.mag, .string p.raw, .slice pa p.items.length pc] 30)) 47 #[.int .i64 0, .int .i64 0, .slice none 0 0]
  have hA3 := (hA1.old hb12).old hb23
  have hP3 := hP2.old hb23
  have hb3 := hb1.trans ((hb12.trans (hb23.mono hb12.size)).mono hb1.size)
  rw [hs1] at hP3 hs2
  rw [hs2] at hR3
  go_enter Tryz.func21, Tryz.ntmps21
  go_upto_region 1 with fail
  generalize (((w.alloc (.cells #[.string o.name, .int .u8 o.kind, .bool o.down, .int .u8 o.nulls, .bool o.bnd, .bool o.ln, .string o.lm, .bool o.hn, .string o.hm, .int .i64 o.most, .int .i64 o.str, .bool o.shf, .bool o.bck, .slice a l.length c] 57)).alloc (.cells #[.int .u8 p.kind, .bool p.yes, .bool p.neg, .string p.mag, .string p.raw, .slice pa p.items.length pc] 30)).alloc (.cells #[.int .i64 0, .int .i64 0, .slice none 0 0] 47)) = w3 at *
  clear hb1 hb12 hb23 hs1 hs2 hA1 hP2
  obtain ⟨c0, c1, c2, c3, c4, c5, c6, c7, c8, c9, c10, c11, c12, c13⟩ := hA3.c14
  obtain ⟨p0, p1, p2, p3, p4, p5⟩ := hP3.c6
  have hr3 := href w3 hb3
  clear href
  go_wp2_with fail
  refine hr3.mono ?_
  rintro _ w4 ⟨rfl, hb4⟩
  have hb04 := hb3.trans (hb4.mono hb3.size)
  have hA4 := hA3.old hb4
  have hP4 := hP3.old hb4
  have hR4 := hR3.old hb4
  clear c0 c1 c2 c3 c4 c5 c6 c7 c8 c9 c10 c11 c12 c13 p0 p1 p2 p3 p4 p5 hr3 hA3 hP3 hR3
  by_cases h0 : q = 0
  case neg =>
    have t1 : (q != 0) = true := bne_iff_ne.2 h0
    have t2 : (q == 0) = false := by simpa using h0
    have t3 : decide (q = 0) = false := decide_eq_false h0
    have hRq : R = some (1, 0, [], q) := by rw [← HR.out, argE, if_neg h0]
    have z0 : w4.cell? ⟨w.heap.size + 1 + 1, 0, none⟩ = some (.int .i64 0) := hR4.cell 0
    have z1 : w4.cell? ⟨w.heap.size + 1 + 1, 1, none⟩ = some (.int .i64 0) := hR4.cell 1
    have z2 : w4.cell? ⟨w.heap.size + 1 + 1, 2, none⟩ = some (.slice none 0 0) := hR4.cell 2
    have f0 := hR4.frozen 0
    have f1 := hR4.frozen 1
    have f2 := hR4.frozen 2
    have hfin := hR4.set3 (.int .i64 1) (.int .i64 0) (.slice none 0 0)
    have hbw := ((hb04.setCell (p := ⟨w.heap.size + 1 + 1, 0, none⟩) (by show w.heap.size ≤ w.heap.size + 1 + 1; omega) (.int .i64 1)).setCell (p := ⟨w.heap.size + 1 + 1, 1, none⟩) (by show w.heap.size ≤ w.heap.size + 1 + 1; omega) (.int .i64 0)).setCell (p := ⟨w.heap.size + 1 + 1, 2, none⟩) (by show w.heap.size ≤ w.heap.size + 1 + 1; omega) (.slice none 0 0)
    clear hinn hA4 hP4 hR4 HR h0
    go_wp2_with fail
    refine bodyPost_ret (res21_run (b := w.heap.size + 1 + 1) (v5 := .int .i64 q) hfin rfl rfl) rfl ?_
    rw [hRq]
    exact ⟨hbw, _, rfl, IOwn.nil _ _⟩
  have hRq : R = Z := by rw [← HR.out, argE, if_pos h0]
  have hu := hinn h0 w4 hb04
  subst h0
  clear hinn HR
  obtain ⟨c0, c1, c2, c3, c4, c5, c6, c7, c8, c9, c10, c11, c12, c13⟩ := hA4.c14
  obtain ⟨p0, p1, p2, p3, p4, p5⟩ := hP4.c6
  go_wp2_with fail
  refine hu.mono ?_
  intro e w5 hEP
  obtain ⟨v5, rfl, hEP⟩ := hEP.val
  have hb05 := hb04.trans (hEP.1.mono hb04.size)
  have hR5 := hR4.old hEP.1
  clear c0 c1 c2 c3 c4 c5 c6 c7 c8 c9 c10 c11 c12 c13 p0 p1 p2 p3 p4 p5 hu hA4 hP4 hR4
  have z0 : w5.cell? ⟨w.heap.size + 1 + 1, 0, none⟩ = some (.int .i64 0) := hR5.cell 0
  have z1 : w5.cell? ⟨w.heap.size + 1 + 1, 1, none⟩ = some (.int .i64 0) := hR5.cell 1
  have z2 : w5.cell? ⟨w.heap.size + 1 + 1, 2, none⟩ = some (.slice none 0 0) := hR5.cell 2
  have f0 := hR5.frozen 0
  have f1 := hR5.frozen 1
  have f2 := hR5.frozen 2
  cases hZ : Z with
  | none =>
    rw [hZ] at hEP
    have hev : v5 = .tuple #[.agg #[.int .i64 0, .int .i64 0, .slice none 0 0], .int .i64 0] := by have := hEP.2; injection this
    subst hev
    rw [hZ] at hRq
    have hfin := hR5.set3 (.int .i64 0) (.int .i64 0) (.slice none 0 0)
    have hbw := ((hb05.setCell (p := ⟨w.heap.size + 1 + 1, 0, none⟩) (by show w.heap.size ≤ w.heap.size + 1 + 1; omega) (.int .i64 0)).setCell (p := ⟨w.heap.size + 1 + 1, 1, none⟩) (by show w.heap.size ≤ w.heap.size + 1 + 1; omega) (.int .i64 0)).setCell (p := ⟨w.heap.size + 1 + 1, 2, none⟩) (by show w.heap.size ≤ w.heap.size + 1 + 1; omega) (.slice none 0 0)
    clear hEP hR5 hZ
    go_wp2_with fail
    refine bodyPost_ret (res21_run (b := w.heap.size + 1 + 1) (v5 := .int .i64 0) hfin rfl rfl) rfl ?_
    rw [hRq]
    exact ⟨hbw, rfl⟩
  | some rr =>
    obtain ⟨cc, aa, P, yy⟩ := rr
    rw [hZ] at hEP
    obtain ⟨_, v, hev0, hV0⟩ := hEP
    have hev : v5 = .tuple #[.agg #[.int .i64 cc, .int .i64 aa, v], .int .i64 yy] := by injection hev0
    subst hev
    obtain ⟨va, vc, rfl⟩ := hV0.val
    rw [hZ] at hRq
    have hO := hV0.mono hb04.size
    have hfin := hR5.set3 (.int .i64 cc) (.int .i64 aa) (.slice va P.length vc)
    have hbw := ((hb05.setCell (p := ⟨w.heap.size + 1 + 1, 0, none⟩) (by show w.heap.size ≤ w.heap.size + 1 + 1; omega) (.int .i64 cc)).setCell (p := ⟨w.heap.size + 1 + 1, 1, none⟩) (by show w.heap.size ≤ w.heap.size + 1 + 1; omega) (.int .i64 aa)).setCell (p := ⟨w.heap.size + 1 + 1, 2, none⟩) (by show w.heap.size ≤ w.heap.size + 1 + 1; omega) (.slice va P.length vc)
    have hOf := own_far (own_far (own_far hO hR5 (by decide) 0 (.int .i64 cc)) (hR5.set 0 (.int .i64 cc)) (by decide) 1 (.int .i64 aa)) ((hR5.set 0 (.int .i64 cc)).set 1 (.int .i64 aa)) (by decide) 2 (.slice va P.length vc)
    clear hR5 hZ hev0 hV0 hO
    go_wp2_with fail
    refine bodyPost_ret (res21_run (b := w.heap.size + 1 + 1) (v5 := .int .i64 yy) hfin rfl rfl) rfl ?_
    rw [hRq]
    exact ⟨hbw, _, rfl, hOf⟩
end Go.Proofs.YtkjoomdglealmaaGreatDoor
