/- NormalTurns: neighbours of unlike classes may change places (a walk; nothing is claimed here). -/
import Derived.Test.YtadbkkakjekopaaDoorTwiceW
namespace Go.Vf
theorem co_put {cls : Int → Int} (x : Int) (hx : cls x ≠ 0) : ∀ {Y : List Int}, CO cls Y → ∃ Z, CO cls Z ∧ Alike0 cls (x :: Y) Z ∧ Z.length = Y.length + 1 ∧ ∀ y z, Z.head? = some z → Y.head? = some y → z = x ∨ z = y := by
  intro Y
  induction Y with
  | nil => intro _; exact ⟨[x], trivial, Alike0.refl _, rfl, fun _ _ _ h => by cases h⟩
  | cons y t ih =>
    intro hY
    by_cases hy : cls y = 0 ∨ cls x ≤ cls y
    · refine ⟨x :: y :: t, ⟨fun h0 => ?_, hY⟩, Alike0.refl _, rfl, fun _ z h _ => .inl (by simpa using h.symm)⟩
      rcases hy with h | h
      · exact absurd h h0
      · exact h
    · obtain ⟨Z, h1, h2, h3, h4⟩ := ih hY.tail
      have hy0 : cls y ≠ 0 := fun e => hy (.inl e)
      have hyx : cls y < cls x := by have : ¬ cls x ≤ cls y := fun e => hy (.inr e); omega
      refine ⟨y :: Z, ?_, ?_, by simp [h3], fun _ z h h' => .inr (by simp at h h'; rw [← h, ← h'])⟩
      · cases Z with
        | nil => trivial
        | cons z r =>
          refine ⟨fun h0 => ?_, h1⟩
          cases t with
          | nil =>
            have hz : z = x := by
              have := h2 (cls x)
              rw [List.filter_cons_of_pos (by simp)] at this
              have hr : r = [] := by simp at h3; exact h3
              subst hr
              by_cases c : (cls z == 0 || cls z == cls x) = true
              · rw [List.filter_cons_of_pos (p := fun w => cls w == 0 || cls w == cls x) c] at this; simpa using this.symm
              · rw [List.filter_cons_of_neg (p := fun w => cls w == 0 || cls w == cls x) c] at this; simp at this
            rw [hz]; omega
          | cons q t' =>
            rcases h4 q z rfl rfl with e | e
            · rw [e]; omega
            · rw [e] at h0 ⊢; exact hY.1 h0
      · intro k
        have := h2 k
        by_cases cx : (cls x == 0 || cls x == k) = true <;> by_cases cy : (cls y == 0 || cls y == k) = true
        · exfalso
          simp [hx, hy0] at cx cy
          omega
        · rw [List.filter_cons_of_pos (p := fun w => cls w == 0 || cls w == k) cx] at this
          rw [List.filter_cons_of_pos (p := fun w => cls w == 0 || cls w == k) cx, List.filter_cons_of_neg (p := fun w => cls w == 0 || cls w == k) cy, List.filter_cons_of_neg (p := fun w => cls w == 0 || cls w == k) cy]
          exact this
        · rw [List.filter_cons_of_neg (p := fun w => cls w == 0 || cls w == k) cx] at this
          rw [List.filter_cons_of_neg (p := fun w => cls w == 0 || cls w == k) cx, List.filter_cons_of_pos (p := fun w => cls w == 0 || cls w == k) cy, List.filter_cons_of_pos (p := fun w => cls w == 0 || cls w == k) cy, this]
        · rw [List.filter_cons_of_neg (p := fun w => cls w == 0 || cls w == k) cx] at this
          rw [List.filter_cons_of_neg (p := fun w => cls w == 0 || cls w == k) cx, List.filter_cons_of_neg (p := fun w => cls w == 0 || cls w == k) cy, List.filter_cons_of_neg (p := fun w => cls w == 0 || cls w == k) cy, this]
/-- Each list has a Form. -/
theorem form_there {cls : Int → Int} (hc0 : ∀ x, 0 ≤ cls x) : ∀ l : List Int, ∃ Y, FormOf cls l Y ∧ Y.length = l.length := by
  intro l
  induction l with
  | nil => exact ⟨[], ⟨trivial, Alike0.refl _⟩, rfl⟩
  | cons x t ih =>
    obtain ⟨Y, h1, h2⟩ := ih
    by_cases hx : cls x = 0
    · refine ⟨x :: Y, ⟨?_, Alike0.append (a := [x]) (b := [x]) (Alike0.refl _) h1.al⟩, by simp [h2]⟩
      cases Y with
      | nil => trivial
      | cons y r => exact ⟨fun _ => by rw [hx]; exact hc0 y, h1.co⟩
    · obtain ⟨Z, z1, z2, z3, _⟩ := co_put x hx h1.co
      exact ⟨Z, ⟨z1, (Alike0.append (a := [x]) (b := [x]) (Alike0.refl _) h1.al).trans z2⟩, by rw [z3, List.length_cons, h2]⟩
end Go.Vf
namespace Go.Proofs.YtadbkkakjekopaaDoor
open Go.RowKit Go.Vf Go.Maps

theorem IOwn.set {w : World} {base g n c : Nat} {zs : List Int} (h : IOwn w base (.slice (some ⟨g, 0, none⟩) n c) zs) (k : Nat) (z : Int) : IOwn (w.setCell ⟨g, k, none⟩ (.int .i64 z)) base (.slice (some ⟨g, 0, none⟩) n c) (zs.set k z) := by
  rcases h.2 with ⟨e, _⟩ | ⟨g', cap, cur, e, hb, hg, hn, hm, hs, ht⟩
  · cases e
  · simp only [Value.slice.injEq, Option.some.injEq, Addr.mk.injEq] at e
    obtain ⟨⟨rfl, _, _⟩, rfl, rfl⟩ := e
    refine ⟨by simp, .inr ⟨g, c, cur.setIfInBounds k (.int .i64 z), by simp, hb, ?_, by simpa using hn, hm, by simpa using hs, ?_⟩⟩
    · exact (show Blk w g 3 cur from hg).set k (.int .i64 z)
    · rw [List.length_set, Array.toList_setIfInBounds, List.take_set, ht, List.map_set]

set_option maxHeartbeats 8000000 in
set_option maxRecDepth 20000 in
theorem turns_bad (s : ByteArray) (hs : s.size ≤ 281474976710656) (va vb : Value) (w : World) (hg : Glob w) (why line : Int) (hl : loadR s.data.toList = .error (why, line)) :
    Calls Tryd.prog 5 #[.string s, va, vb] w fun e w' => e = .returned (.bool true) ∧ Below w.heap.size w w' := by
  have hy0 := load_why hl
  have hy1 : (why == 0) = false := by simpa using hy0
  have hy2 : (why != 0) = true := by simpa using hy0
  have hload := load_glob s w hg hs
  rw [hl] at hload
  clear hl
  go_enter Tryd.func5, Tryd.ntmps5
  go_wp2_with fail
  refine hload.mono ?_
  rintro e w1 ⟨hb1, hpost⟩
  obtain rfl : e = _ := hpost
  have haw := awake_any w1 (hg.below hb1)
  clear hload
  go_wp2_with fail
  refine haw.mono ?_
  rintro e w2 ⟨rfl, hb2⟩
  go_wp2
  go_ret
  exact ⟨rfl, hb1.trans (hb2.mono hb1.size)⟩

set_option maxHeartbeats 8000000 in
set_option maxRecDepth 20000 in
theorem turns_good (s : ByteArray) (hs : s.size ≤ 281474976710656) (a : Option Addr) (k c : Nat) (zs : List Int) (at0 : Int) (w : World) (hat : InI at0) (hg : Glob w) (L : List Mk) (E : Int → List Int) (hl : loadR s.data.toList = .ok (L, E)) (ha : Numb w a k c zs) (fa : zs.length ≤ 1048576) :
    Calls Tryd.prog 5 #[.string s, .slice a k c, .int .i64 at0] w fun e w' => e = .returned (.bool true) ∧ Below w.heap.size w w' := by
  have hload := load_glob s w hg hs
  rw [hl] at hload
  have HL : Aside (loadR s.data.toList = .ok (L, E)) := hl
  have HGL : Aside (Glob w) := hg
  have HA : Aside (Numb w a k c zs) := ha
  obtain ⟨hat1, hat2⟩ := hat
  clear hl hg ha
  go_enter Tryd.func5, Tryd.ntmps5
  go_wp2_with fail
  refine hload.mono ?_
  rintro e w1 ⟨hb1, hpost⟩
  obtain ⟨bd, rfl, hd⟩ := hpost
  have HD1 : Aside (DataAt w1 bd L E) := hd
  have HB1 : Aside (Below w.heap.size w w1) := hb1
  have HA1 : Aside (Numb w1 a k c zs) := HA.out.below hb1
  have HG1 : Aside (Glob w1) := HGL.out.below hb1
  clear hd hb1 hload HGL HA
  go_wp2_with fail
  refine (form_load HL.out HD1.out HA1.out).mono ?_
  intro e w2 hpost
  obtain ⟨gx, kx, cx, X, rfl, hox, hfx, hbx⟩ := hpost.formed
  have hX57 := form_few HD1.out hfx 1048576 fa
  have HNX : Aside (Numb w2 (some ⟨gx, 0, none⟩) kx cx X) := hox.numb (formed_in HL.out HA1.out.int hfx) (by omega)
  have HFX : Aside (Formed L E zs X) := hfx
  have HB2 : Aside (Below w1.heap.size w1 w2) := hbx
  clear hpost hox hfx hbx
  have same_one : ∀ wq, Below w2.heap.size w2 wq → ∀ (a1 a2 : Option Addr) (k1 c1 k2 c2 : Nat) (ps qs : List Int), Numb w2 a1 k1 c1 ps → Numb w2 a2 k2 c2 qs → IsForm L E ps X → IsForm L E qs X → Calls Tryd.prog 14 #[.pointer (some ⟨bd, 0, none⟩), .slice a1 k1 c1, .slice a2 k2 c2] wq fun e w' => e = .returned (.bool true) ∧ Below wq.heap.size wq w' := fun wq hbq a1 a2 k1 c1 k2 c2 ps qs n1 n2 f1 f2 => by
    have := same_load HL.out ((HD1.out.below HB2.out).below hbq) (n1.below hbq) (n2.below hbq) f1 (by omega) f2 (by omega)
    rw [show decide (X = X) = true by simp] at this
    exact this
  have HSO : Aside _ := same_one
  have HXX : Aside (IsForm L E X X) := HFX.out.self HL.out
  have HA2 : Aside (Numb w2 a k c zs) := HA1.out.below HB2.out
  clear same_one
  go_wp2_with fail
  refine (HSO.out w2 (Below.refl _ _) _ _ _ _ _ _ zs X HA2.out HNX.out HFX.out.form HXX.out).mono ?_
  rintro e w3 ⟨rfl, hb3⟩
  go_wp2_with fail
  refine (HSO.out w3 hb3 _ _ _ _ _ _ X zs HNX.out HA2.out HXX.out HFX.out.form).mono ?_
  rintro e w4 ⟨rfl, hb4⟩
  have hb24 := hb3.trans (hb4.mono hb3.size)
  go_wp2_with fail
  refine (HSO.out w4 hb24 _ _ _ _ _ _ zs zs HA2.out HA2.out HFX.out.form HFX.out.form).mono ?_
  rintro e w5 ⟨rfl, hb5⟩
  have HB25 : Aside (Below w2.heap.size w2 w5) := hb24.trans (hb5.mono hb24.size)
  have hkx := HNX.out.len
  have HKX : Hid (kx = X.length) := hkx
  have hkx3 : kx ≤ 100000000 := by omega
  clear hb3 hb4 hb24 hb5 HSO hkx
  by_cases hshort : kx < 2
  · have hsz : (kx : Int) < 2 := by omega
    have haw := awake_any w5 ((HG1.out.below HB2.out).below HB25.out)
    go_wp2_with fail
    refine haw.mono ?_
    rintro e wz ⟨rfl, hbz⟩
    go_wp2
    go_ret
    have h25 := HB2.out.trans ((HB25.out.trans (hbz.mono HB25.out.size)).mono HB2.out.size)
    exact ⟨rfl, HB1.out.trans (h25.mono HB1.out.size)⟩
  · have hsz : ¬ (kx : Int) < 2 := by omega
    obtain ⟨at1, hat3, hat4, HAT⟩ : ∃ at1 : Int, 0 ≤ at1 ∧ at1 ≤ 9223372036854775807 ∧ Hid (at1 = if at0 < 0 then -(at0 + 1) else at0) := by
      refine ⟨_, ?_, ?_, rfl⟩ <;> (split <;> omega)
    obtain ⟨m, hm⟩ : ∃ m, m + 1 = kx := ⟨kx - 1, by omega⟩
    have zm : (kx : Int) - 1 = (m : Int) := by omega
    have hm0 : 0 < m := by omega
    obtain ⟨j, hj⟩ : ∃ j : Nat, (j : Int) = at1 % (m : Int) := ⟨(at1 % (m : Int)).toNat, by have := Int.emod_nonneg at1 (show (m : Int) ≠ 0 by omega); omega⟩
    have hjm : j < m := by have := Int.emod_lt_of_pos at1 (show (0 : Int) < (m : Int) by omega); omega
    have zj : at1 % (m : Int) = (j : Int) := hj.symm
    have zj2 : Int.tmod at1 (m : Int) = (j : Int) := by rw [Int.tmod_eq_emod_of_nonneg hat3]; exact zj
    have hm1 : ¬ (m : Int) = 0 := by omega
    have hm2 : ¬ (m : Int) = -1 := by omega
    clear hj
    go_upto_if 64 with fail
    go_cut [2] from 65 to 67 (fun v wx => v = .int .i64 at1 ∧ wx = w5)
    case first =>
      by_cases h0 : at0 < 0
      · have e1 : at1 = -(at0 + 1) := by rw [HAT.out, if_pos h0]
        have HE : Hid (at1 = -(at0 + 1)) := e1
        clear e1
        go_wp2_with fail
        go_meet
        case rel => exact ⟨by rw [HE.out], rfl⟩
      · have e1 : at1 = at0 := by rw [HAT.out, if_neg h0]
        have HE : Hid (at1 = at0) := e1
        clear e1
        go_wp2_with fail
        go_meet
        case rel => exact ⟨by rw [HE.out], rfl⟩
    case rest =>
      obtain ⟨rfl, rfl⟩ := hcut
      clear HAT
      go_upto_region 12 with fail
      have HNX5 : Aside (Numb wc (some ⟨gx, 0, none⟩) kx cx X) := HNX.out.below HB25.out
      have HN0 : Aside (Numb wc none 0 0 []) := ⟨.inl ⟨_, _, rfl, rfl⟩, rfl, by simp, by simp⟩
      go_wp2_with fail
      refine (joined_any HNX5.out HN0.out).mono ?_
      rintro e w6 ⟨a6, k6, c6, rfl, ho6, hb6⟩
      rw [List.append_nil] at ho6
      have hXl : 0 < X.length := by rw [← HKX.out]; omega
      obtain ⟨gt, rfl, hgt, hcap6⟩ := ho6.some_of hXl
      have hk6 : k6 = kx := by
        obtain ⟨av, cv, hv⟩ := ho6.val
        have := (Value.slice.inj hv).2.1
        rw [this, HKX.out]
      subst hk6
      obtain ⟨p, hp⟩ : ∃ p, p = X.getD j 0 := ⟨_, rfl⟩
      obtain ⟨q, hq⟩ : ∃ q, q = X.getD (j + 1) 0 := ⟨_, rfl⟩
      have hn6 := HNX5.out.below hb6
      have cp : w6.cell? ⟨gx, j, none⟩ = some (.int .i64 p) := by rw [hp]; exact hn6.cell0 j (by omega)
      have cq : w6.cell? ⟨gx, j + 1, none⟩ = some (.int .i64 q) := by rw [hq]; exact hn6.cell0 (j + 1) (by omega)
      have iP : InI p := by rw [hp]; exact (HNX5.out.cell j (by omega)).2
      have iQ : InI q := by rw [hq]; exact (HNX5.out.cell (j + 1) (by omega)).2
      have hne : gx ≠ gt := by
        have := World.block_lt_of_cell? wc _ (HNX5.out.cell0 j (by omega))
        have h2 : gx < wc.heap.size := this
        omega
      obtain ⟨hc6, hf6⟩ : (∀ i, i < X.length → w6.cell? ⟨gt, i, none⟩ = some (.int .i64 (X[i]?.getD 0))) ∧ (∀ i, w6.frozen? ⟨gt, i, none⟩ = false) := by
        rcases ho6.form with ⟨e, _⟩ | ⟨g', cap', e, _, _, _, h1, h2⟩
        · cases e
        · cases e; exact ⟨h1, h2⟩
      have ct : w6.cell? ⟨gt, j, none⟩ = some (.int .i64 (X[j]?.getD 0)) := hc6 j (by rw [← HKX.out]; omega)
      have ft := hf6 j
      have ho7 := (ho6.set j q).set (j + 1) p
      have hb7 : Below wc.heap.size wc ((w6.setCell ⟨gt, j, none⟩ (.int .i64 q)).setCell ⟨gt, j + 1, none⟩ (.int .i64 p)) := (hb6.setCell (p := ⟨gt, j, none⟩) hgt _).setCell (p := ⟨gt, j + 1, none⟩) hgt _
      have ct2 : (w6.setCell ⟨gt, j, none⟩ (.int .i64 q)).cell? ⟨gt, j + 1, none⟩ = some (.int .i64 (X[j + 1]?.getD 0)) := (World.cell?_setCell_other _ _ _ _ (by intro e; simp only [Addr.mk.injEq] at e; omega)).trans (hc6 (j + 1) (by rw [← HKX.out]; omega))
      have ft2 : (w6.setCell ⟨gt, j, none⟩ (.int .i64 q)).frozen? ⟨gt, j + 1, none⟩ = false := by rw [World.frozen?_setCell]; exact hf6 _
      have cp2 : (w6.setCell ⟨gt, j, none⟩ (.int .i64 q)).cell? ⟨gx, j, none⟩ = some (.int .i64 p) := (World.cell?_setCell_other _ _ _ _ (by intro e; simp only [Addr.mk.injEq] at e; omega)).trans cp
      have HT : Hid (swapL X j (j + 1) = (X.set j q).set (j + 1) p) := by show _ = _; rw [hp, hq]; rfl
      have HPQ : Hid (p = X.getD j 0 ∧ q = X.getD (j + 1) 0) := ⟨hp, hq⟩
      have HO7 : Aside (IOwn ((w6.setCell ⟨gt, j, none⟩ (.int .i64 q)).setCell ⟨gt, j + 1, none⟩ (.int .i64 p)) wc.heap.size (.slice (some ⟨gt, 0, none⟩) k6 c6) (swapL X j (j + 1))) := by rw [HT.out]; exact ho7
      have HB7 : Aside _ := hb7
      have jz : (j : Int) + 1 < (k6 : Int) := by omega
      have jz2 : (j : Int) < (k6 : Int) := by omega
      clear ho7 hb7 ho6 hb6 hn6 hc6 hf6 hp hq HN0 hcap6
      go_upto_region 14 with fail
      generalize w6.setCell ⟨gt, j, none⟩ (.int .i64 q) = w7 at ct2 ft2 cp2 HO7 HB7 ⊢
      clear cp cq ct ft
      go_upto_region 15 with fail
      generalize w7.setCell ⟨gt, j + 1, none⟩ (.int .i64 p) = w8 at HO7 HB7 ⊢
      clear ct2 ft2 cp2
      have hn8 := HNX5.out.below HB7.out
      have cp : w8.cell? ⟨gx, j, none⟩ = some (.int .i64 p) := by rw [HPQ.out.1]; exact hn8.cell0 j (by omega)
      have cq : w8.cell? ⟨gx, j + 1, none⟩ = some (.int .i64 q) := by rw [HPQ.out.2]; exact hn8.cell0 (j + 1) (by omega)
      have hd8 : DataAt w8 bd L E := ((HD1.out.below HB2.out).below HB25.out).below HB7.out
      have qP := class_any bd L E p w8 iP hd8
      have qQ := class_any bd L E q w8 iQ hd8
      -- what Same must answer
      have hX2 : X = X.take j ++ [p, q] ++ X.drop (j + 2) := by
        have hj1 : j < X.length := by rw [← HKX.out]; omega
        have hj2 : j + 1 < X.length := by rw [← HKX.out]; omega
        have e1 : X[j] = p := by rw [HPQ.out.1, List.getD_eq_getElem?_getD, List.getElem?_eq_getElem hj1]; rfl
        have e2 : X[j + 1] = q := by rw [HPQ.out.2, List.getD_eq_getElem?_getD, List.getElem?_eq_getElem hj2]; rfl
        have := (List.take_append_drop j X).symm
        rw [List.drop_eq_getElem_cons hj1, List.drop_eq_getElem_cons hj2, e1, e2] at this
        simpa using this
      have hT2 : swapL X j (j + 1) = X.take j ++ [q, p] ++ X.drop (j + 2) := by
        have hjl : (X.take j).length = j := by rw [List.length_take, ← HKX.out]; omega
        have := swapL_mid (P := X.take j) (M := []) (Q := X.drop (j + 2)) (x := p) (y := q) (i := j) (j := j + 1) hjl.symm (by rw [hjl]; simp)
        rw [show X.take j ++ [p] ++ [] ++ [q] ++ X.drop (j + 2) = X by conv => rhs; rw [hX2]
                                                                       simp] at this
        rw [this]; simp
      have hfT : flatR E (swapL X j (j + 1)) = swapL X j (j + 1) := flat_end (ps := zs) HL.out (fun x hx => HFX.out.mem x (swapL_mem (by rw [← HKX.out]; omega) (by rw [← HKX.out]; omega) hx))
      obtain ⟨Y, hY, hYl⟩ := form_there (fun p => (load_cls HL.out p).1) (swapL X j (j + 1))
      have hYF : IsForm L E (swapL X j (j + 1)) Y := by unfold IsForm; rw [hfT]; exact hY
      have hSB : decide (Y = X) = decide ((classAt L p ≠ 0 ∧ classAt L q ≠ 0 ∧ classAt L p ≠ classAt L q) ∨ p = q) := by
        apply decide_eq_decide.2
        rw [← alike0_turn (cls := classAt L) (u := X.take j) (v := X.drop (j + 2)), ← hX2, ← hT2]
        constructor
        · intro e; rw [← e]
          have := hY.al.symm
          rw [e] at this ⊢
          exact this
        · intro h
          exact CO.same hY.co HFX.out.form.co (hY.al.symm.trans h.symm)
      rw [swapL_length, ← HKX.out] at hYl
      have HSM := fun wq (hbq : Below w8.heap.size w8 wq) => same_load HL.out (hd8.below hbq) ((HO7.out.numb (fun x hx => HNX5.out.int x (swapL_mem (by rw [← HKX.out]; omega) (by rw [← HKX.out]; omega) hx)) (by rw [swapL_length, ← HKX.out]; omega)).below hbq) (((HA2.out.below HB25.out).below HB7.out).below hbq) hYF (by omega) HFX.out.form (by omega)
      rw [hSB] at HSM
      generalize hsb : decide ((classAt L p ≠ 0 ∧ classAt L q ≠ 0 ∧ classAt L p ≠ classAt L q) ∨ p = q) = SB at HSM
      generalize classAt L p = kp at qP hsb
      generalize classAt L q = kq at qQ hsb
      have HSB : Hid (decide ((kp ≠ 0 ∧ kq ≠ 0 ∧ kp ≠ kq) ∨ p = q) = SB) := hsb
      have HSMA : Aside _ := HSM
      have HD8 : Aside (DataAt w8 bd L E) := hd8
      clear hsb hSB hYF hYl hY hfT hT2 hX2 hn8 hd8 HSM HPQ HT HO7
      go_wp2_with fail
      refine qP.mono ?_
      rintro e wv ⟨rfl, rfl⟩
      go_wp2_with fail
      refine qQ.mono ?_
      rintro e wv ⟨rfl, rfl⟩
      clear qP qQ
      go_upto_region 17 with fail
      go_cut [15] from 104 to 126 (fun v wx => v = .bool SB ∧ Aside (Below w8.heap.size w8 wx))
      case first =>
        have lp : ∀ n, (w8.drewN n).cell? ⟨gx, j, none⟩ = some (.int .i64 p) := fun _ => cp
        have lq : ∀ n, (w8.drewN n).cell? ⟨gx, j + 1, none⟩ = some (.int .i64 q) := fun _ => cq
        have pa : (0 : Int) ≤ (j : Int) + 1 := by omega
        have ra : IntKind.i64.wrap ((j : Int) + 1) = (j : Int) + 1 := by rw [IntKind.wrap_i64]; omega
        have ea : ((j : Int) + 1).toNat = j + 1 := by omega
        clear cp cq
        by_cases h1 : kp = 0
        · have h1a : (kp == 0) = true := by simp [h1]
          have h1b : (kp != 0) = false := by simp [h1]
          by_cases h4 : p = q
          · have h4a : (p == q) = true := by simp [h4]
            have HS : Hid (SB = true) := by show _ = _; rw [← HSB.out]; simp [h4]
            clear h1 h4
            go_quiet (fail)
            go_wp2_with fail
            go_meet
            case rel => exact ⟨by rw [HS.out], below_drewQ w8 nq⟩
          · have h4a : (p == q) = false := by simpa using h4
            have HS : Hid (SB = false) := by show _ = _; rw [← HSB.out]; simp [h1, h4]
            clear h1 h4
            go_quiet (fail)
            go_wp2_with fail
            go_meet
            case rel => exact ⟨by rw [HS.out], below_drewQ w8 nq⟩
        · have h1a : (kp == 0) = false := by simpa using h1
          have h1b : (kp != 0) = true := by simpa using h1
          by_cases h2 : kq = 0
          · have h2a : (kq == 0) = true := by simp [h2]
            have h2b : (kq != 0) = false := by simp [h2]
            by_cases h4 : p = q
            · have h4a : (p == q) = true := by simp [h4]
              have HS : Hid (SB = true) := by show _ = _; rw [← HSB.out]; simp [h4]
              clear h1 h2 h4
              go_quiet (fail)
              go_wp2_with fail
              go_meet
              case rel => exact ⟨by rw [HS.out], below_drewQ w8 nq⟩
            · have h4a : (p == q) = false := by simpa using h4
              have HS : Hid (SB = false) := by show _ = _; rw [← HSB.out]; simp [h2, h4]
              clear h1 h2 h4
              go_quiet (fail)
              go_wp2_with fail
              go_meet
              case rel => exact ⟨by rw [HS.out], below_drewQ w8 nq⟩
          · have h2a : (kq == 0) = false := by simpa using h2
            have h2b : (kq != 0) = true := by simpa using h2
            by_cases h3 : kp = kq
            · have h3a : (kp == kq) = true := by simp [h3]
              have h3b : (kp != kq) = false := by simp [h3]
              by_cases h4 : p = q
              · have h4a : (p == q) = true := by simp [h4]
                have HS : Hid (SB = true) := by show _ = _; rw [← HSB.out]; simp [h4]
                clear h1 h2 h3 h4
                go_quiet (fail)
                go_wp2_with fail
                go_meet
                case rel => exact ⟨by rw [HS.out], below_drewQ w8 nq⟩
              · have h4a : (p == q) = false := by simpa using h4
                have HS : Hid (SB = false) := by show _ = _; rw [← HSB.out]; simp [h3, h4]
                clear h1 h2 h3 h4
                go_quiet (fail)
                go_wp2_with fail
                go_meet
                case rel => exact ⟨by rw [HS.out], below_drewQ w8 nq⟩
            · have h3a : (kp == kq) = false := by simpa using h3
              have h3b : (kp != kq) = true := by simpa using h3
              have HS : Hid (SB = true) := by show _ = _; rw [← HSB.out]; simp [h1, h2, h3]
              clear h1 h2 h3
              go_quiet (fail)
              go_wp2_with fail
              go_meet
              case rel => exact ⟨by rw [HS.out], below_drewQ w8 nq⟩
      case rest =>
        obtain ⟨rfl, hbw⟩ := hcut
        have haw := awake_any wc ((((HG1.out.below HB2.out).below HB25.out).below HB7.out).below hbw.out)
        go_wp2_with fail
        refine haw.mono ?_
        rintro e wz ⟨rfl, hbz⟩
        have h8z := hbw.out.trans (hbz.mono hbw.out.size)
        have hsm := HSMA.out wz h8z
        clear haw
        go_wp2_with fail
        refine hsm.mono ?_
        rintro e wy ⟨rfl, hby⟩
        have hbb : (SB == SB) = true := by simp
        go_wp2
        go_ret
        have h1 := h8z.trans (hby.mono h8z.size)
        have h2 := HB7.out.trans (h1.mono HB7.out.size)
        have h3 := HB25.out.trans (h2.mono HB25.out.size)
        have h4 := HB2.out.trans (h3.mono HB2.out.size)
        exact ⟨rfl, HB1.out.trans (h4.mono HB1.out.size)⟩
end Go.Proofs.YtadbkkakjekopaaDoor
