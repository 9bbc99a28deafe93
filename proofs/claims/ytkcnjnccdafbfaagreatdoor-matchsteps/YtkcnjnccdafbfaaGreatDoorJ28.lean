/- Contracts and lemmas (nothing is claimed here). -/
import Derived.Test.YtkcnjnccdafbfaaGreatDoorJ27
import Derived.Test.YtkcnjnccdafbfaaGreatDoorJ23
namespace Go.Proofs.YtkcnjnccdafbfaaGreatDoor
open Go.RowKit Go.Vf Go.Maps
theorem RowsAt.snoc {W' : World} {base : Nat} {vs : List Value} {rs : List (List Int)} {v u : Value} {r : List Int} (hvs : ∀ i (h : i < rs.length), ∃ u, vs[i]? = some u ∧ IOwn W' base u rs[i]) (hl : vs.length = rs.length) (hu : IOwn W' base u r) (hrow : W'.ownsRow base 24 1 v (vs.length + 1) (vs ++ [u])) : RowsAt W' base v (rs ++ [r]) := by
  refine ⟨vs ++ [u], by rw [List.length_append, ← hl]; exact hrow, fun i hi => ?_⟩
  rcases Nat.lt_or_ge i rs.length with h | h
  · obtain ⟨u', q1, q2⟩ := hvs i h
    rw [List.getElem_append_left h]
    exact ⟨u', by rw [List.getElem?_append_left (by omega)]; exact q1, q2⟩
  · have hj' : i = rs.length := by simp at hi; omega
    subst hj'
    simp only [List.getElem_append_right (Nat.le_refl _), Nat.sub_self, List.getElem_cons_zero]
    exact ⟨u, by rw [List.getElem?_append_right (by omega), hl]; simp, hu⟩
theorem byC_len {cls : Int → Int} : ∀ (n : Nat) (l : List Int), (byC cls n l).length ≤ l.length := by
  intro n
  induction n with
  | zero => intro l; simp [byC]
  | succ n ih =>
    intro l
    cases l with
    | nil => simp [byC]
    | cons x xs =>
      have h1 := ih (xs.dropWhile (fun y => cls y == cls x))
      have h2 := dropWhile_len (p := fun y => cls y == cls x) xs
      rw [byC]
      simp only [List.length_cons]
      omega
theorem rising_rep {cls : Int → Int} {top : Int} {ps : List (List Int)} : ∀ n : Nat, Rising cls top (List.replicate n [] ++ ps) → Rising cls top ps := by
  intro n
  induction n with
  | zero => intro h; simpa using h
  | succ n ih =>
    intro h
    rw [List.replicate_succ, List.cons_append] at h
    rcases h with ⟨_, h⟩ | ⟨c, h0, _⟩
    · exact ih h
    · exact absurd rfl h0
theorem own_mv {W W' : World} {base B g : Nat} {e : TypeId} {size k : Nat} {v : Value} {xs : List Value} (h : W.ownsRow base e size v k xs) (hm : Mv B g W W') (hB : B < base) (hg : g < base) : W'.ownsRow base e size v k xs :=
  own_other h (fun j hj => hm.block j (own_lt h j hj) (by have := (own_ge h hj).1; omega) (by have := (own_ge h hj).1; omega))
def sliceLen : Value → Nat
  | .slice _ n _ => n
  | _ => 0
theorem more_nil (B bd T : Nat) (W : World) (h : Blk W B 90 #[.pointer (some ⟨bd, 0, none⟩), .pointer (some ⟨T, 0, none⟩), .slice none 0 0]) : Calls Tryz.prog 37 #[.pointer (some ⟨B, 0, none⟩)] W fun e w' => e = .returned (.bool false) ∧ W = w' := by
  have c2 : W.cell? ⟨B, 2, none⟩ = some (.slice none 0 0) := h.cell 2
  go_enter Tryz.func37, Tryz.ntmps37
  go_wp2_with fail
  go_loopw [] (fun wr => wr = W) (fun _ => 0)
  case atStart => rfl
  case round =>
    obtain rfl := hrel
    go_wp2
    go_ret
    exact ⟨rfl, rfl⟩
theorem pcs_of_row {n₀ g n cap base : Nat} {W : World} {ps : List (List Int)} (h : PcO n₀ W base (.slice (some ⟨g, 0, none⟩) n cap) ps) : n = ps.length ∧ n ≤ cap ∧ base ≤ g ∧ (∃ cs, Blk W g 24 cs) ∧ Pcs n₀ W g 0 ps := by
  obtain ⟨vs, hrow, hvs⟩ := h.row
  rcases hrow.2 with ⟨e, _⟩ | ⟨g', cap', cur, e, hb, hh, h1, h2, h3, h4⟩
  · cases e
  · cases e
    refine ⟨rfl, h1, hb, ⟨cur, hh⟩, fun j hj => ?_⟩
    obtain ⟨b, o, c, q1, q2, q3⟩ := hvs j hj
    refine ⟨b, o, c, ?_, q2, q3⟩
    have hB : Blk W g 24 cur := hh
    rw [hB.cell, ← Array.getElem?_toList, Nat.zero_add, ← List.getElem?_take_of_lt (show j < ps.length * 1 by omega), h4]
    exact q1
set_option maxHeartbeats 4000000 in
set_option maxRecDepth 20000 in
theorem steps_any {t : List UInt8} {L : List Mk} {F : Int → List Int} (h : loadR t = .ok (L, F)) {bd T me ml : Nat} {val : List Int → Value} {E : List Ent} {a : Option Addr} {k c : Nat} {zs X : List Int} {w : World} (hd : DataAt w bd L F) (ht : TabAt w T me ml val E) (hn : Numb w a k c zs) (hX : IsForm L F zs X) (hfew : zs.length ≤ 1000000000) :
    Calls Tryz.prog 13 #[.pointer (some ⟨bd, 0, none⟩), .pointer (some ⟨T, 0, none⟩), .slice a k c] w fun e w' => ∃ v, e = .returned v ∧ RowsAt w' w.heap.size v (stepsD (classAt L) (fndT E) X) ∧ Below w.heap.size w w' := by
  have hfo := form_load h hd hn
  have hcls := load_cls h
  generalize hR : stepsD (classAt L) (fndT E) X = R
  have HR : Hid ([] ++ stepsD (classAt L) (fndT E) X = R) := hR
  clear hR
  go_enter Tryz.func13, Tryz.ntmps13
  go_wp2_with fail
  refine hfo.mono ?_
  rintro e w1 hpost
  obtain ⟨gf, kf, cf, X', rfl, hown, hform, hb1⟩ := hpost.formed
  obtain rfl : X' = X := FormOf.same hform.form hX
  have hkf := hown.form1
  subst hkf
  have hXI := formed_in h hn.int hform
  have hXl : X'.length ≤ 57000000000 := by have := form_few hd hform zs.length (Nat.le_refl _); omega
  have hd1 := hd.below hb1
  have ht1 := ht.below hb1
  have hcu := mcut_any hd1 hXI (hown.mono (Nat.zero_le _)) (by omega)
  clear hfo hpost hown
  go_wp2_with fail
  refine hcu.mono ?_
  rintro e w2 ⟨v2, rfl, hpo, hb2⟩
  have hflat : (pcsC (classAt L) X').flatten = X' := byC_flat _ _ (Nat.le_refl _)
  have hrise : Rising (classAt L) 0 (pcsC (classAt L) X') := byC_rising (fun q => (hcls q).1) _ _ _ hX.co (fun y _ => by have := (hcls y).1; omega)
  clear hcu
  obtain ⟨a2, n2, c2, rfl⟩ : ∃ a n c, v2 = .slice a n c := by
    obtain ⟨vs, hrow, _⟩ := hpo.row
    obtain ⟨a, c, e⟩ := row_val hrow
    exact ⟨_, _, _, e⟩
  go_wp2_with fail
  have hbA := (Below.refl w2.heap.size w2).alloc (Nat.le_refl _) (.cells #[.pointer (some ⟨bd, 0, none⟩), .pointer (some ⟨T, 0, none⟩), .slice a2 n2 c2] 90)
  have hnb := Blk.new w2 90 #[.pointer (some ⟨bd, 0, none⟩), .pointer (some ⟨T, 0, none⟩), .slice a2 n2 c2]
  have hsz3 : (w2.alloc (.cells #[.pointer (some ⟨bd, 0, none⟩), .pointer (some ⟨T, 0, none⟩), .slice a2 n2 c2] 90)).heap.size = w2.heap.size + 1 := by simp
  generalize (w2.alloc (.cells #[.pointer (some ⟨bd, 0, none⟩), .pointer (some ⟨T, 0, none⟩), .slice a2 n2 c2] 90)) = W3 at hbA hnb hsz3 ⊢
  have hb13 : Below w1.heap.size w1 W3 := hb2.trans (hbA.mono hb2.size)
  have hb03 : Below w.heap.size w W3 := hb1.trans (hb13.mono hb1.size)
  have hB1 : w1.heap.size ≤ w2.heap.size := hb2.size
  generalize hBe : w2.heap.size = B at hnb hsz3 hB1 ⊢
  cases a2 with
  | none =>
    have hX0 : X' = [] := by
      obtain ⟨vs, hrow, _⟩ := hpo.row
      rcases hrow.2 with ⟨e, h0⟩ | ⟨g', cap', cur, e, _⟩
      · have : pcsC (classAt L) X' = [] := List.eq_nil_of_length_eq_zero h0
        rw [this] at hflat
        exact hflat.symm
      · cases e
    obtain ⟨rfl, rfl⟩ : n2 = 0 ∧ c2 = 0 := by
      obtain ⟨vs, hrow, _⟩ := hpo.row
      rcases hrow.2 with ⟨e, h0⟩ | ⟨g', cap', cur, e, _⟩
      · cases e; exact ⟨rfl, rfl⟩
      · cases e
    have hRR : R = [] := by rw [← HR.out, hX0]; rfl
    have hmo := more_nil B bd T W3 hnb
    clear HR
    go_loopw [8] (fun rv wr => rv = .slice none 0 0 ∧ wr = W3) (fun _ _ => 0)
    case atStart => exact ⟨rfl, rfl⟩
    case round =>
      obtain ⟨rfl, rfl⟩ := hrel
      go_wp2_with fail
      refine hmo.mono ?_
      rintro e w4 ⟨rfl, rfl⟩
      go_wp2_with fail
      go_ret
      rw [hRR]
      exact ⟨_, rfl, RowsAt.nil _ _, hb03⟩
  | some ad =>
    obtain ⟨g, hadd⟩ : ∃ g, ad = ⟨g, 0, none⟩ := by
      obtain ⟨vs, hrow, _⟩ := hpo.row
      rcases hrow.2 with ⟨e, h0⟩ | ⟨g', cap', cur, e, _⟩
      · cases e
      · cases e; exact ⟨_, rfl⟩
    subst hadd
    obtain ⟨hn2, hnc, hbg, ⟨csg, hcg⟩, hpcs⟩ := pcs_of_row hpo
    have hgl : g < w2.heap.size := hcg.lt
    have hpl2 : ∀ p ∈ pcsC (classAt L) X', (∀ q ∈ p, InI q) ∧ p.length ≤ X'.length := fun p hp => ⟨fun q hq => hXI q (by rw [← hflat]; exact List.mem_flatten.2 ⟨p, hp, hq⟩), by
      conv => rhs; rw [← hflat]
      exact (List.sublist_flatten_of_mem hp).length_le⟩
    have hpn : (pcsC (classAt L) X').length ≤ X'.length := byC_len _ _
    have hk3 : MWk w1 bd T B g 0 c2 (pcsC (classAt L) X') W3 := by
      refine ⟨hb13, by rw [← hn2]; exact hnb, by omega, hB1, hbg, ⟨csg, hcg.below hbA hgl⟩, ?_⟩
      exact hpcs.same (hbA.block g hgl) (fun k hk => hbA.block k (Nat.lt_of_lt_of_le hk hb2.size))
    have hok3 : RestOk (classAt L) (pcsC (classAt L) X') := ⟨fun p hp => (hpl2 p hp).1, hrise, by omega, fun p hp => by have := (hpl2 p hp).2; omega⟩
    have hgB : g < B := by omega
    have HR3 : Hid ([] ++ stepsD (classAt L) (fndT E) (pcsC (classAt L) X').flatten = R) := by show _ = _; rw [hflat]; exact HR.out
    have HL3 : Hid (0 + (pcsC (classAt L) X').flatten.length ≤ X'.length) := by show _ ≤ _; rw [hflat]; omega
    clear HR hpo hpcs hpl2 hpn hflat hrise hnb hbA hn2 hnc
    generalize pcsC (classAt L) X' = P at *
    go_loopw [8] (fun rv wr => ∃ (off cap : Nat) (ps dn : List (List Int)), MWk w1 bd T B g off cap ps wr ∧ RestOk (classAt L) ps ∧ Hid (dn ++ stepsD (classAt L) (fndT E) ps.flatten = R) ∧ Aside (RowsAt wr W3.heap.size rv dn) ∧ Hid (dn.length + ps.flatten.length ≤ X'.length) ∧ W3.heap.size ≤ wr.heap.size) (fun rv _ => X'.length - sliceLen rv)
    case atStart => exact ⟨0, c2, P, [], hk3, hok3, HR3, RowsAt.nil _ _, HL3, Nat.le_refl _⟩
    case round =>
      clear hk3 hok3 HR3 HL3
      obtain ⟨off, cap, ps, dn, hk, hok, HR, HRO, HL, hsz⟩ := hrel
      obtain ⟨ra, rc, hrv⟩ := HRO.out.val
      subst hrv
      have hmo := more_any hk (by have := hok.len; omega)
      go_wp2_with fail
      refine hmo.mono ?_
      rintro e W4 ⟨b4, off4, cap4, ps4, rfl, hk4, hmv4, ⟨n4, hn4⟩, hcase⟩
      have hfl : ps.flatten = ps4.flatten := by rw [hn4]; simp
      have hok4 : RestOk (classAt L) ps4 := hok.sub (fun p' hp => ⟨p', by rw [hn4]; exact List.mem_append_right _ hp, 0, by simp⟩) (rising_rep n4 (by rw [← hn4]; exact hok.rise)) (by rw [hn4]; simp)
      have hB3 : B < W3.heap.size := by omega
      have hg3 : g < W3.heap.size := by omega
      obtain ⟨vs, hrow, hvs⟩ := HRO.out
      have hvl : vs.length = dn.length := by have := hrow.1; omega
      rw [hfl] at HR HL
      clear hmo hok hk hn4 hfl HRO
      rcases hcase with ⟨rfl, x, t', r', rfl⟩ | ⟨rfl, rfl⟩
      · have hst := step_any hk4 hd1 ht1 hok4 (fun q => (hcls q).1)
        have hne : ((x :: t') :: r').flatten ≠ [] := by simp
        have hsd := stepsD_cons (cls := classAt L) (fnd := fndT E) hne
        have hlen := stepD_len (cls := classAt L) (fnd := fndT E) ((x :: t') :: r').flatten
        have hpos := stepD_pos (cls := classAt L) (fnd := fndT E) hne
        generalize stepD (classAt L) (fndT E) ((x :: t') :: r').flatten = S at hst hsd hlen hpos
        have HR2 : Hid ((dn ++ [S.1]) ++ stepsD (classAt L) (fndT E) S.2 = R) := by show _ = _; rw [← HR.out, hsd]; simp
        have HL2 : Hid ((dn ++ [S.1]).length + S.2.length ≤ X'.length) := by have h0 := HL.out; show _ ≤ _; rw [← hlen] at h0; rw [List.length_append, List.length_singleton]; omega
        have hdl : dn.length < X'.length := by have := HL2.out; simp at this; omega
        clear HR HL hsd hlen hpos hne
        go_wp2_with fail
        refine hst.mono ?_
        rintro e W5 ⟨v5, qs, rfl, hown5, hq5, hk5, hok5, hmv5⟩
        have hmv := hmv4.trans hmv5
        have hs4 : W3.heap.size ≤ W4.heap.size := Nat.le_trans hsz hmv4.size
        have hs5 : W3.heap.size ≤ W5.heap.size := Nat.le_trans hs4 hmv5.size
        obtain ⟨a5, c5, rfl⟩ := hown5.val
        have hrow5 : W5.ownsRow W3.heap.size 24 1 (.slice ra dn.length rc) vs.length vs := by rw [hvl]; exact own_mv hrow hmv hB3 hg3
        have hbA5 := (Below.refl W5.heap.size W5).alloc (Nat.le_refl _) (.cells #[.slice a5 S.1.length c5] 24)
        have hnb5 := Blk.new W5 24 #[.slice a5 S.1.length c5]
        have hszA : W3.heap.size ≤ (W5.alloc (.cells #[.slice a5 S.1.length c5] 24)).heap.size := Nat.le_trans hs5 hbA5.size
        have HROW : Aside ((W5.alloc (.cells #[.slice a5 S.1.length c5] 24)).ownsRow W3.heap.size 24 1 (.slice ra dn.length rc) vs.length vs) := own_after hrow5 hbA5
        have hvl2 : vs.length ≤ 1000000000000 := by omega
        rw [← hq5] at HR2 HL2
        generalize hs1 : S.1.length = sn at *
        clear hrow hst
        go_wp2_with (first | (at_builtin; refine wpList_append_slice rfl _ _ rfl W3.heap.size _ vs rfl HROW.out a5 sn c5 ⟨W5.heap.size, 0, none⟩ _ rfl (hnb5.cell 0) hvl2 hszA ?_; intro v6 w6 hown6 hgr6 hat6; obtain ⟨a6, c6, rfl⟩ := row_val hown6))
        have hb6 : Below W3.heap.size W5 w6 := ((Below.refl W3.heap.size W5).alloc hs5 _).grown hgr6 hszA (fun j hj => (own_ge HROW.out hj).1)
        have hk6 := hk5.goN hb6 hB3 hg3 hb13.size
        have hs6 : W3.heap.size ≤ w6.heap.size := Nat.le_trans hs5 hb6.size
        have hkeep : ∀ {u : Value} {z : List Int}, IOwn W5 W3.heap.size u z → IOwn w6 W3.heap.size u z := fun hu => own_grown (own_after hu hbA5) hgr6 (apt_types HROW.out (own_after hu hbA5) (by decide))
        have HRO6 : Aside (RowsAt w6 W3.heap.size (.slice a6 (vs.length + 1) c6) (dn ++ [S.1])) := RowsAt.snoc (fun i hi => by
          obtain ⟨u, q1, q2⟩ := hvs i hi
          exact ⟨u, q1, hkeep (own_mv q2 hmv hB3 hg3)⟩) hvl (hkeep (hown5.mono hs4)) hown6
        clear hown6 hgr6 hat6 HROW hkeep
        rw [hvl] at HRO6
        go_roundw
        case rel => exact ⟨off4, cap4, qs, dn ++ [S.1], hk6, hok5, HR2, HRO6, HL2, hs6⟩
        case measure => simp only [sliceLen]; omega
      · have hRR : R = dn := by rw [← HR.out]; simp [stepsD_nil]
        have hfin : RowsAt W4 w.heap.size (.slice ra dn.length rc) R := by
          rw [hRR]
          exact ⟨vs, ownsRow_mono (own_mv hrow hmv4 hB3 hg3) hb03.size, fun i hi => by
            obtain ⟨u, q1, q2⟩ := hvs i hi
            exact ⟨u, q1, ownsRow_mono (own_mv q2 hmv4 hB3 hg3) hb03.size⟩⟩
        have hbf : Below w.heap.size w W4 := hb1.trans (hk4.below.mono hb1.size)
        clear HR HL
        go_wp2_with fail
        go_ret
        exact ⟨_, rfl, hfin, hbf⟩
end Go.Proofs.YtkcnjnccdafbfaaGreatDoor
namespace Go.Proofs.YtkcnjnccdafbfaaGreatDoor
open Go.RowKit Go.Vf Go.Maps Go.Deep
def elOf (E : List Ent) (r : List Int) : List El := (findT E r).getD (impR (r.head?.getD 0))
def elsOf (E : List Ent) (rs : List (List Int)) : List El := rs.flatMap (elOf E)
theorem append_empty_els (w : World) (ty : TypeId) (ba : Option Addr) (n c : Nat) (hle : n ≤ c) (pa : Option Addr) (pc : Nat) : (Builtin.append_ #[43, 43] ty #[.slice ba n c, .slice pa 0 pc]).run Tryz.prog w = .ok (.slice ba n c) w := by
  obtain ⟨i, hi, hz, hsz, hby⟩ := info_parts info49
  cases pa with
  | none => exact run_append_nothing (P := Tryz.prog) w 43 43 ty 54 i Tryz.underlying43 hi ba n c hle _ (Src.ofNil w Tryz.underlying43 pc)
  | some ad => exact run_append_nothing (P := Tryz.prog) w 43 43 ty 54 i Tryz.underlying43 hi ba n c hle _ (Src.ofSlice w Tryz.underlying43 ad 0 pc [] (by simp) (by simp) (by simp))
theorem EOwn.cap {w : World} {base : Nat} {v : Value} {l : List El} (h : EOwn w base v l) : ∃ a c, v = .slice a l.length c ∧ l.length ≤ c := by
  rcases h.2 with ⟨rfl, h0⟩ | ⟨g, cap, cur, rfl, _, _, h1, _⟩
  · exact ⟨none, 0, by rw [h0], by omega⟩
  · exact ⟨_, cap, rfl, h1⟩
theorem wpList_append_els {w : World} {ops : Array Oper} {rest : List Oper} {o : Oper} {a : Act} {Q : Exit → Act → World → Prop} (hgd : o.guard = none) (s x : Operand)
    (ho : o.op = .call { callee := .builtin .append, args := #[s, x], argTypes := #[43, 43] })
    (base : Nat) (v : Value) (zs : List El) (hs : a.eval s = v) (hown : EOwn w base v zs) (ys : List El) (n₀ : Nat) (vx : Value) (hx : a.eval x = vx) (hin : Els n₀ w vx ys) (hlen : zs.length + ys.length ≤ 4000000000000) (hbase : base ≤ w.heap.size)
    (h : ∀ a' c' w', EOwn w' base (.slice a' (zs.length + ys.length) c') (zs ++ ys) → Below base w w' → w.grownBy w' v.ownBlock → wpList Tryz.prog ops Q rest (a.put o.dst (.slice a' (zs.length + ys.length) c')) w') :
    wpList Tryz.prog ops Q (o :: rest) a w := by
  by_cases hy : ys = []
  · subst hy
    obtain ⟨pa, pc, rfl⟩ : ∃ pa pc, vx = .slice pa 0 pc := by
      obtain ⟨a, c, e⟩ := hin.val
      exact ⟨a, c, e⟩
    obtain ⟨ba, c, hv, hle⟩ := hown.cap
    have hr := append_empty_els w o.type ba zs.length c hle pa pc
    refine wpList_plain hgd fun K hK => ?_
    unfold Oper.wp execOp
    simp only [ho, resolve, invoke, builtin, Sem.run_bind, Sem.run_pure, Result.andThen_ok, List.map_toArray, List.map_cons, List.map_nil, hs, hx, hv, hr]
    subst hv
    exact hK _ _ (h ba c w (by rw [List.append_nil]; exact hown) (Below.refl _ _) ⟨rfl, rfl, rfl, Nat.le_refl _, fun _ _ _ => rfl⟩)
  · obtain ⟨b, off, c, rfl⟩ : ∃ b off c, vx = .slice (some ⟨b, off, none⟩) ys.length c := by
      rcases hin with ⟨_, _, _, e⟩ | ⟨b, off, c, e, hb, hc⟩
      · exact absurd e hy
      · exact ⟨b, off, c, e⟩
    obtain ⟨i, hi, hz, hsz, hby⟩ := info_parts info49
    refine wpList_append_own_at (P := Tryz.prog) _ hgd s x 43 ho base 54 i _ 4 32 Tryz.underlying43 hi hz hsz hby rfl (by decide) v zs.length (elsV zs) hs hown ⟨b, off, none⟩ ys.length c (elsV ys) hx (by rw [elsV_len]) ?_ (elsV_one ys) ?_ ?_ hbase ?_
    · intro j u hu
      rw [show (⟨b, off, none⟩ : Addr).add j = ⟨b, off + j, none⟩ by simp [Addr.add]]
      exact els_flat hin j u hu
    · unfold maxLen; omega
    · omega
    · intro v' w' h1 h2 _ _
      have h4 : EOwn w' base v' (zs ++ ys) := by unfold EOwn; rw [elsV_append, List.length_append]; exact h1
      obtain ⟨a', c', hv, _⟩ := h4.cap
      rw [List.length_append] at hv
      subst hv
      exact h a' c' w' h4 ((Below.refl _ w).grown h2 hbase (fun j hj => (own_ge hown hj).1)) h2
theorem len_le_sum : ∀ (l : List (List Int)), ∀ r ∈ l, r.length ≤ (l.map List.length).sum := by
  intro l
  induction l with
  | nil => intro r hr; cases hr
  | cons a t ih =>
    intro r hr
    rw [List.map_cons, List.sum_cons]
    rcases List.mem_cons.1 hr with rfl | hr
    · omega
    · have := ih r hr; omega
theorem stepsD_short {cls : Int → Int} {fnd : List Int → Bool} (X : List Int) : ∀ r ∈ stepsD cls fnd X, r.length ≤ X.length := fun r hr => by
  have := len_le_sum _ r hr
  rw [stepsD_sum] at this
  exact this
theorem impR_len (n : Int) : (impR n).length ≤ 2 := by unfold impR; split <;> simp
theorem elOf_len {E : List Ent} (hok : ∀ e ∈ E, EntOk e) (r : List Int) : (elOf E r).length ≤ 16 := by
  unfold elOf
  cases hf : findT E r with
  | none => have := impR_len (r.head?.getD 0); simp; omega
  | some l => exact (hok _ (findT_some hf)).n1
set_option maxHeartbeats 4000000 in
set_option maxRecDepth 20000 in
theorem elements_any {t : List UInt8} {L : List Mk} {F : Int → List Int} (h : loadR t = .ok (L, F)) {bd T me ml : Nat} {val : List Int → Value} {E : List Ent} {a : Option Addr} {k c : Nat} {zs X : List Int} {w : World} (hd : DataAt w bd L F) (ht : TabAt w T me ml val E) (hn : Numb w a k c zs) (hX : IsForm L F zs X) (hfew : zs.length ≤ 1000000000) (hXl : X.length ≤ 57000000000) :
    Calls Tryz.prog 14 #[.pointer (some ⟨bd, 0, none⟩), .pointer (some ⟨T, 0, none⟩), .slice a k c] w fun e w' => ∃ v, e = .returned v ∧ EOwn w' w.heap.size v (elsOf E (stepsD (classAt L) (fndT E) X)) ∧ Below w.heap.size w w' := by
  have hst := steps_any h hd ht hn hX hfew
  have hrl := stepsD_length (cls := classAt L) (fnd := fndT E) X
  have hrne := stepsD_ne (cls := classAt L) (fnd := fndT E) X
  have hrsh := stepsD_short (cls := classAt L) (fnd := fndT E) X
  generalize stepsD (classAt L) (fndT E) X = rs at hst hrl hrne hrsh ⊢
  generalize hR : elsOf E rs = R
  have HR : Hid ([] ++ elsOf E (rs.drop 0) = R) := by show _ = _; simpa using hR
  clear hR
  go_enter Tryz.func14, Tryz.ntmps14
  go_wp2_with fail
  refine hst.mono ?_
  rintro e w1 ⟨v1, rfl, hro, hb1⟩
  obtain ⟨vs, hrow, hvs⟩ := hro
  obtain ⟨ra, rc, rfl⟩ := row_val hrow
  have ht1 := ht.below hb1
  clear hst
  go_wp2_with fail
  go_loopw [7, 17] (fun lv iv wr => ∃ (i : Nat) (acc : List El), i ≤ rs.length ∧ iv = .int .i64 i ∧ Aside (EOwn wr w1.heap.size lv acc) ∧ Hid (acc ++ elsOf E (rs.drop i) = R) ∧ Hid (acc.length ≤ 16 * i ∧ ∃ a n c, lv = .slice a n c) ∧ Below w1.heap.size w1 wr) (fun _ iv _ => rs.length - (intOf iv).toNat)
  case atStart => exact ⟨0, [], by omega, rfl, EOwn.nil _ _, HR, ⟨by simp, _, _, _, rfl⟩, Below.refl _ _⟩
  case round =>
    clear HR
    obtain ⟨i, acc, hi, rfl, HO, HR, HA, hbr⟩ := hrel
    obtain ⟨la, ln, lc, rfl⟩ := HA.out.2
    by_cases hlt : i < rs.length
    · obtain ⟨u, hu, hiu⟩ := hvs i hlt
      obtain ⟨gr, hgr, hcu⟩ : ∃ gr, ra = some ⟨gr, 0, none⟩ ∧ w1.cell? ⟨gr, i, none⟩ = some u := by
        rcases hrow.2 with ⟨e, h0⟩ | ⟨g, cap, cur, e, _, hh, _, _, _, htk⟩
        · omega
        · cases e
          refine ⟨g, rfl, ?_⟩
          have hB : Blk w1 g 24 cur := hh
          rw [hB.cell, ← Array.getElem?_toList, ← List.getElem?_take_of_lt (show i < rs.length * 1 by omega), htk]
          exact hu
      subst hgr
      have hgl : gr < w1.heap.size := World.block_lt_of_cell? w1 _ hcu
      have hcr := (hbr.cell (p := ⟨gr, i, none⟩) hgl).trans hcu
      have hne := hrne _ (List.getElem_mem hlt)
      have hir : IOwn wr w.heap.size u rs[i] := own_after hiu hbr
      have hdr : rs.drop i = rs[i] :: rs.drop (i + 1) := List.drop_eq_getElem_cons hlt
      have HR2 : Hid ((acc ++ elOf E rs[i]) ++ elsOf E (rs.drop (i + 1)) = R) := by
        show _ = _
        rw [← HR.out, hdr, List.append_assoc]
        rfl
      have hel := elOf_len ht.ok rs[i]
      have hrs8 := hrsh _ (List.getElem_mem hlt)
      generalize rs[i] = r at hne hir HR2 hel hrs8
      obtain ⟨y, r', rfl⟩ : ∃ y r', r = y :: r' := by
        cases r with
        | nil => exact absurd rfl hne
        | cons y r' => exact ⟨y, r', rfl⟩
      obtain ⟨ga, uc, rfl, hcy⟩ : ∃ ga uc, u = .slice (some ⟨ga, 0, none⟩) (r'.length + 1) uc ∧ wr.cell? ⟨ga, 0, none⟩ = some (.int .i64 y) := by
        rcases hir.form with ⟨_, e⟩ | ⟨g, cap, e, _, _, _, hc, _⟩
        · cases e
        · exact ⟨g, cap, e, by simpa using hc 0 (by simp)⟩
      have htr := ht1.below hbr
      have hfd := find_any T me ml _ val E _ (y :: r') wr htr (Nat.le_refl _) hir.ints (by omega)
      have hyel : elOf E (y :: r') = (findT E (y :: r')).getD (impR y) := rfl
      have hlen1 : acc.length ≤ 16 * i := HA.out.1
      rw [hyel] at HR2 hel
      generalize findT E (y :: r') = fr at hfd HR2 hel
      clear hyel hir HR hrs8 hdr
      go_wp2_with fail
      refine hfd.mono ?_
      rintro e w3 ⟨hb3, hm3⟩
      have hs3 : w1.heap.size ≤ w3.heap.size := Nat.le_trans hbr.size hb3.size
      have HO3 : Aside (EOwn w3 w1.heap.size (.slice la ln lc) acc) := own_after HO.out hb3
      have hcy3 := (hb3.cell (p := ⟨ga, 0, none⟩) (World.block_lt_of_cell? wr _ hcy)).trans hcy
      clear hfd HO hcr hcy
      cases fr with
      | none =>
        obtain rfl : e = _ := hm3
        simp only [Option.getD_none] at HR2 hel
        go_wp2_with fail
        refine (implied_any y w3).mono ?_
        rintro e w4 ⟨v4, rfl, hown4, hb4, _⟩
        have hs4 : w1.heap.size ≤ w4.heap.size := Nat.le_trans hs3 hb4.size
        have HO4 : Aside (EOwn w4 w1.heap.size (.slice la ln lc) acc) := own_after HO3.out hb4
        have HE4 : Aside (Els w4.heap.size w4 v4 (impR y)) := EOwn.els hown4
        obtain ⟨a4, c4, rfl, _⟩ := hown4.cap
        have hsum : acc.length + (impR y).length ≤ 4000000000000 := by omega
        have hln : ln = acc.length := by obtain ⟨_, _, e, _⟩ := HO4.out.cap; exact (Value.slice.inj e).2.1
        subst hln
        generalize hii : impR y = ie at *
        clear hown4 HO3 hii
        go_wp2_with (first | (at_builtin; refine wpList_append_els rfl _ _ rfl w1.heap.size _ acc rfl HO4.out ie _ _ rfl HE4.out hsum hs4 ?_; intro a5 c5 w5 hown5 hb5 _))
        have HO5 : Aside (EOwn w5 w1.heap.size (.slice a5 (acc.length + ie.length) c5) (acc ++ ie)) := hown5
        have hb15 : Below w1.heap.size w1 w5 := ((hbr.trans (hb3.mono hbr.size)).trans (hb4.mono hs3)).trans hb5
        clear hown5
        go_roundw
        case rel => exact ⟨i + 1, acc ++ ie, by omega, by simp, HO5, HR2, ⟨by simp; omega, _, _, _, rfl⟩, hb15⟩
        case measure => simp only [intOf]; omega
      | some l =>
        obtain ⟨a4, n4, c4, rfl, hown4⟩ := hm3
        simp only [Option.getD_some] at HR2 hel
        have HE4 : Aside (Els w3.heap.size w3 (.slice a4 n4 c4) l) := EOwn.els hown4
        have hsum : acc.length + l.length ≤ 4000000000000 := by omega
        have hln : ln = acc.length := by obtain ⟨_, _, e, _⟩ := HO3.out.cap; exact (Value.slice.inj e).2.1
        subst hln
        clear hown4
        go_wp2_with (first | (at_builtin; refine wpList_append_els rfl _ _ rfl w1.heap.size _ acc rfl HO3.out l _ _ rfl HE4.out hsum hs3 ?_; intro a5 c5 w5 hown5 hb5 _))
        have HO5 : Aside (EOwn w5 w1.heap.size (.slice a5 (acc.length + l.length) c5) (acc ++ l)) := hown5
        have hb15 : Below w1.heap.size w1 w5 := (hbr.trans (hb3.mono hbr.size)).trans hb5
        clear hown5
        go_roundw
        case rel => exact ⟨i + 1, acc ++ l, by omega, by simp, HO5, HR2, ⟨by simp; omega, _, _, _, rfl⟩, hb15⟩
        case measure => simp only [intOf]; omega
    · have hRR : R = acc := by rw [← HR.out, List.drop_of_length_le (by omega)]; simp [elsOf]
      clear HR
      go_wp2_with fail
      go_ret
      rw [hRR]
      exact ⟨_, rfl, ownsRow_mono HO.out hb1.size, hb1.trans (hbr.mono hb1.size)⟩
end Go.Proofs.YtkcnjnccdafbfaaGreatDoor
