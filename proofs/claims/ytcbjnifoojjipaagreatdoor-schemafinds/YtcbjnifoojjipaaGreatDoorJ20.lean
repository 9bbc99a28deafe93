/- Contracts and lemmas (nothing is claimed here). -/
import Derived.Test.YtcbjnifoojjipaaGreatDoorFTou
import Derived.Test.YtcbjnifoojjipaaGreatDoorJ19
namespace Go.Proofs.YtcbjnifoojjipaaGreatDoor
open Go.RowKit Go.Vf
theorem own_mk (o : Own) (l : List Fld) : (Fld.mk o l).own = o := rfl
theorem fields_mk (o : Own) (l : List Fld) : (Fld.mk o l).fields = l := rfl
set_option maxHeartbeats 8000000 in
set_option maxRecDepth 20000 in
theorem needRight_any (T : Nat) (pa : Option Addr) (pc : Nat) (P : List Int) (k : Nat) (hP : P.length ≤ 1000) (hk : k ≤ 1000000) (l : List Fld) (hl : l.length ≤ 281474976710656) (aa : Option Addr) (ca lo n₀ : Nat) (f : Fld) (hf : FitsF 17179869184 f) (a : Option Addr) (c : Nat) (w : World) (hn₀ : n₀ ≤ w.heap.size) (h : TourAt w T pa pc P k) (hin : FIn w lo n₀ l aa) :
    Calls Tryz.prog 57 #[.pointer (some ⟨T, 0, none⟩), .slice aa l.length ca, fV f.own a f.fields.length c] w (SeePost (seeF bndQ P.length k l f) P k w) := by
  obtain ⟨o, fl⟩ := f
  have hfl := hf.len
  have hfo := hf.own
  simp only [own_mk, fields_mk] at hfl hfo ⊢
  have hb0 := (Below.refl w.heap.size w).alloc (Nat.le_refl _) (.cells (cellsF o a fl.length c) 48)
  have hN0 := Blk.new w 48 (cellsF o a fl.length c)
  have h0 := h.old hb0
  have hin0 := hin.keep hb0 hn₀
  have hs0 := alloc_size w (.cells (cellsF o a fl.length c) 48)
  have hroom := needRoom_any T pa pc P k hP hk _ h0
  obtain ⟨c0, c1, c2, c3, c4, c5, c6, c7, c8, c9, c10, c11, c12, c13⟩ := cells14 hN0
  unfold fV
  simp only [cellsF] at hb0 hN0 h0 hin0 hs0 hroom c0 c1 c2 c3 c4 c5 c6 c7 c8 c9 c10 c11 c12 c13
  obtain ⟨E, hE⟩ : ∃ E, seeF bndQ P.length k l (.mk o fl) = E := ⟨_, rfl⟩
  rw [hE]
  have HE : Hid (E = if 64 < k then 116 else if 16 < P.length then 114 else if isNameS o.name = false then 111 else if l.any (fun g => decide (g.own.name = o.name)) then 112 else if maySayO (bndQ o) o fl.length = false then 113 else if o.kind = 7 ∧ fl = [] then 115 else 0) := hE.symm
  clear hE
  clear h hin hf
  go_enter Tryz.func57, Tryz.ntmps57
  go_wp2_with fail
  generalize w.alloc (.cells #[.string o.name, .int .u8 o.kind, .bool o.down, .int .u8 o.nulls, .bool o.bnd, .bool o.ln, .string o.lm, .bool o.hn, .string o.hm, .int .i64 o.most, .int .i64 o.str, .bool o.shf, .bool o.bck, .slice a fl.length c] 48) = w1 at hb0 hN0 h0 hin0 hs0 hroom c0 c1 c2 c3 c4 c5 c6 c7 c8 c9 c10 c11 c12 c13 ⊢
  refine hroom.mono ?_
  clear hroom c1 c2 c3 c4 c5 c6 c7 c8 c9 c10 c11 c12 c13
  by_cases hr1 : 64 < k
  · rw [if_pos hr1]
    rintro e w2 (⟨h, _⟩ | ⟨_, ap, cp, he, ho, hb⟩)
    · cases h
    unfold lostG at he; subst he
    go_wp2
    exact ⟨rfl, by rw [HE.out, if_pos hr1]; exact SeePost.no (by decide) hb0 ⟨ap, cp, rfl, ho, hb⟩⟩
  rw [if_neg hr1]
  by_cases hr2 : 16 < P.length
  · rw [if_pos hr2]
    rintro e w2 (⟨h, _⟩ | ⟨_, ap, cp, he, ho, hb⟩)
    · cases h
    unfold lostG at he; subst he
    go_wp2
    exact ⟨rfl, by rw [HE.out, if_neg hr1, if_pos hr2]; exact SeePost.no (by decide) hb0 ⟨ap, cp, rfl, ho, hb⟩⟩
  rw [if_neg hr2]
  rintro e w2 (⟨_, rfl, hb2⟩ | ⟨h, _⟩)
  rotate_left
  · exact absurd rfl h
  have hb02 := hb0.trans (hb2.mono hb0.size)
  have h2 := h0.old hb2
  have hin2 := hin0.keep hb2 (by have := hb0.size; omega)
  have hN2 := hN0.old hb2
  have hlt2 := hN2.lt
  obtain ⟨c0, c1, c2, c3, c4, c5, c6, c7, c8, c9, c10, c11, c12, c13⟩ := hN2.c14
  have hnm := isName_any o.name (by have := hfo.nm; omega) w2
  clear h0 hin0 hN0 hb2 hs0
  have HN1 : Hid (¬ 64 < k) := hr1
  have HN2 : Hid (¬ 16 < P.length) := hr2
  clear hr1 hr2
  cases h3 : isNameS o.name with
  | false =>
    rw [h3] at hnm
    have hno := tneed_no T pa pc P k hP false 111 w2 rfl h2
    clear hin2 c1 c2 c3 c4 c5 c6 c7 c8 c9 c10 c11 c12 c13
    go_wp2_with fail
    refine hnm.mono ?_
    rintro _ _ ⟨rfl, rfl⟩
    go_wp2_with fail
    refine hno.mono ?_
    rintro e w3 ⟨ap, cp, he, ho, hb⟩; unfold lostG at he; subst he
    go_wp2
    exact ⟨rfl, by rw [HE.out, if_neg HN1.out, if_neg HN2.out, if_pos h3]; exact SeePost.no (by decide) hb02 ⟨ap, cp, rfl, ho, hb⟩⟩
  | true =>
    rw [h3] at hnm
    have hok1 := tneed_ok (.pointer (some ⟨T, 0, none⟩)) true 111 w2 rfl
    have hcf := containsFunc_any l hl aa ca w.heap.size lo n₀ o.name w2 (by have := hb02.size; omega) hin2 c0 hlt2
    go_wp2_with fail
    refine hnm.mono ?_
    rintro _ _ ⟨rfl, rfl⟩
    go_wp2_with fail
    refine hok1.mono ?_
    rintro _ _ ⟨rfl, rfl⟩
    go_wp2_with fail
    refine hcf.mono ?_
    clear hcf hnm hok1
    cases h4 : l.any (fun g => decide (g.own.name = o.name)) with
    | true =>
      rintro _ w3 ⟨rfl, hb3⟩
      have hb03 := hb02.trans (hb3.mono hb02.size)
      have hno := tneed_no T pa pc P k hP false 112 w3 rfl (h2.old hb3)
      clear hin2 c0 c1 c2 c3 c4 c5 c6 c7 c8 c9 c10 c11 c12 c13
      go_wp2_with fail
      refine hno.mono ?_
      rintro e w4 ⟨ap, cp, he, ho, hb⟩; unfold lostG at he; subst he
      go_wp2
      exact ⟨rfl, by rw [HE.out, if_neg HN1.out, if_neg HN2.out, if_neg (by rw [h3]; simp), if_pos h4]; exact SeePost.no (by decide) hb03 ⟨ap, cp, rfl, ho, hb⟩⟩
    | false =>
      rintro _ w3 ⟨rfl, hb3⟩
      have hb03 := hb02.trans (hb3.mono hb02.size)
      have h3' := h2.old hb3
      have hN3 := hN2.old hb3
      have hok2 := tneed_ok (.pointer (some ⟨T, 0, none⟩)) true 112 w3 rfl
      have hms := maySay_any o a fl.length c (by omega) (by have := hfo.lm; omega) (by have := hfo.hm; omega) w3
      unfold fV at hms
      clear hin2 c0 c1 c2 c3 c4 c5 c6 c7 c8 c9 c10 c11 c12 c13 h2 hN2
      obtain ⟨c0, c1, c2, c3, c4, c5, c6, c7, c8, c9, c10, c11, c12, c13⟩ := hN3.c14
      go_wp2_with fail
      refine hok2.mono ?_
      rintro _ _ ⟨rfl, rfl⟩
      go_wp2_with fail
      refine hms.mono ?_
      clear hms hok2 c0 c1 c2 c3 c4 c5 c6 c7 c8 c9 c10 c11 c12 c13
      cases h5 : maySayO (bndQ o) o fl.length with
      | false =>
        rintro _ w4 ⟨rfl, hb4⟩
        have hb04 := hb03.trans (hb4.mono hb03.size)
        have hno := tneed_no T pa pc P k hP false 113 w4 rfl (h3'.old hb4)
        go_wp2_with fail
        refine hno.mono ?_
        rintro e w5 ⟨ap, cp, he, ho, hb⟩; unfold lostG at he; subst he
        go_wp2
        exact ⟨rfl, by rw [HE.out, if_neg HN1.out, if_neg HN2.out, if_neg (by rw [h3]; simp), if_neg (by rw [h4]; simp), if_pos h5]; exact SeePost.no (by decide) hb04 ⟨ap, cp, rfl, ho, hb⟩⟩
      | true =>
        rintro _ w4 ⟨rfl, hb4⟩
        have hb04 := hb03.trans (hb4.mono hb03.size)
        have h4' := h3'.old hb4
        have hN4 := hN3.old hb4
        have hok3 := tneed_ok (.pointer (some ⟨T, 0, none⟩)) true 113 w4 rfl
        have d1 : w4.cell? ⟨w.heap.size, 1, none⟩ = some (.int .u8 o.kind) := hN4.cell 1
        have d13 : w4.cell? ⟨w.heap.size, 13, none⟩ = some (.slice a fl.length c) := hN4.cell 13
        clear hN3 h3'
        by_cases h6 : o.kind = 7 ∧ fl = []
        · have hno := tneed_no T pa pc P k hP false 115 w4 rfl h4'
          have t1 : (o.kind != 7) = false := by rw [h6.1]; rfl
          have t2 : decide ((0 : Int) < (fl.length : Int)) = false := by rw [h6.2]; rfl
          have t3 : decide (0 < fl.length) = false := by rw [h6.2]; rfl
          have HN6 : Hid (o.kind = 7 ∧ fl = []) := h6
          generalize fl.length = m at t2 t3 d13
          clear h6 hN4 h4'
          go_wp2_with fail
          refine hok3.mono ?_
          rintro _ _ ⟨rfl, rfl⟩
          go_wp2_with fail
          refine hno.mono ?_
          rintro e w5 ⟨ap, cp, he, ho, hb⟩; unfold lostG at he; subst he
          go_wp2
          exact ⟨rfl, by rw [HE.out, if_neg HN1.out, if_neg HN2.out, if_neg (by rw [h3]; simp), if_neg (by rw [h4]; simp), if_neg (by rw [h5]; simp), if_pos HN6.out]; exact SeePost.no (by decide) hb04 ⟨ap, cp, rfl, ho, hb⟩⟩
        · have hok4 := tneed_ok (.pointer (some ⟨T, 0, none⟩)) true 115 w4 rfl
          have HN6 : Hid (¬ (o.kind = 7 ∧ fl = [])) := h6
          by_cases h7 : o.kind = 7
          · have t1 : (o.kind != 7) = false := by rw [h7]; rfl
            have hne : fl ≠ [] := fun e => h6 ⟨h7, e⟩
            have t2 : decide ((0 : Int) < (fl.length : Int)) = true := by
              have := List.length_pos_iff.2 hne
              simp only [decide_eq_true_eq]; omega
            have t3 : decide (0 < fl.length) = true := decide_eq_true (List.length_pos_iff.2 hne)
            generalize fl.length = m at t2 t3 d13
            clear h6 h7 hN4 h4' hne
            go_wp2_with fail
            refine hok3.mono ?_
            rintro _ _ ⟨rfl, rfl⟩
            go_wp2_with fail
            refine hok4.mono ?_
            rintro _ _ ⟨rfl, rfl⟩
            go_wp2
            go_end0
            exact by rw [HE.out, if_neg HN1.out, if_neg HN2.out, if_neg (by rw [h3]; simp), if_neg (by rw [h4]; simp), if_neg (by rw [h5]; simp), if_neg HN6.out]; exact .inl ⟨rfl, rfl, hb04⟩
          · have t1 : (o.kind != 7) = true := by simpa using h7
            clear h6 h7 hN4 h4'
            go_wp2_with fail
            refine hok3.mono ?_
            rintro _ _ ⟨rfl, rfl⟩
            go_wp2_with fail
            refine hok4.mono ?_
            rintro _ _ ⟨rfl, rfl⟩
            go_wp2
            go_end0
            exact by rw [HE.out, if_neg HN1.out, if_neg HN2.out, if_neg (by rw [h3]; simp), if_neg (by rw [h4]; simp), if_neg (by rw [h5]; simp), if_neg HN6.out]; exact .inl ⟨rfl, rfl, hb04⟩
theorem own_setCell {w : World} {base : Nat} {e : TypeId} {size : Nat} {v : Value} {k : Nat} {xs : List Value} (h : w.ownsRow base e size v k xs) {p : Addr} (hp : p.block < base) (x : Value) : (w.setCell p x).ownsRow base e size v k xs := by
  refine ⟨h.1, ?_⟩
  rcases h.2 with hn | ⟨g, cap, cur, rfl, hb, hg, rest⟩
  · exact .inl hn
  · exact .inr ⟨g, cap, cur, rfl, hb, (Below.heap_setCell w p x g (by omega)).trans hg, rest⟩
theorem IOwn.put {w : World} {base g n cap : Nat} {zs : List Int} (h : IOwn w base (.slice (some ⟨g, 0, none⟩) n cap) zs) (i : Nat) (_hi : i < zs.length) (y : Int) : IOwn (w.setCell ⟨g, i, none⟩ (.int .i64 y)) base (.slice (some ⟨g, 0, none⟩) n cap) (zs.set i y) := by
  obtain ⟨h1, h2⟩ := h
  rcases h2 with ⟨hv, _⟩ | ⟨g', cap', cur, hv, hb, hh, hc1, hc2, hc3, hc4⟩
  · cases hv
  · simp only [Value.slice.injEq, Option.some.injEq, Addr.mk.injEq, and_true] at hv
    obtain ⟨rfl, rfl, rfl⟩ := hv
    refine ⟨by simp, .inr ⟨g, cap, cur.setIfInBounds i (.int .i64 y), by simp, hb, ?_, by simpa using hc1, hc2, by simpa using hc3, ?_⟩⟩
    · have : Blk w g 3 cur := hh
      exact this.set i _
    · have e1 : (cur.setIfInBounds i (Value.int .i64 y)).toList = cur.toList.set i (.int .i64 y) := by simp
      rw [e1, List.map_set]
      rw [← hc4, List.length_set, List.take_set]
theorem TourAt.last {w : World} {T g pc : Nat} {P : List Int} {x : Int} {k : Nat} (h : TourAt w T (some ⟨g, 0, none⟩) pc (P ++ [x]) k) (y : Int) : TourAt (w.setCell ⟨g, P.length, none⟩ (.int .i64 y)) T (some ⟨g, 0, none⟩) pc (P ++ [y]) k ∧ T < g := by
  have hg : T < g := by
    rcases h.own.form with ⟨e, _⟩ | ⟨g', cap, e, hb, _⟩
    · cases e
    · simp only [Value.slice.injEq, Option.some.injEq, Addr.mk.injEq, and_true] at e
      omega
  have ho := h.own.put P.length (by simp) y
  rw [show (P ++ [x]).set P.length y = P ++ [y] by simp] at ho
  have hl : (P ++ [x]).length = (P ++ [y]).length := by simp
  refine ⟨⟨?_, ?_⟩, hg⟩
  · have := h.blk.other (p := ⟨g, P.length, none⟩) (by show T ≠ g; omega) (.int .i64 y)
    rw [hl] at this; exact this
  · rw [hl] at ho; exact ho
theorem TourAt.count {w : World} {T pc : Nat} {pa : Option Addr} {P : List Int} {k : Nat} (h : TourAt w T pa pc P k) (k' : Nat) : TourAt (w.setCell ⟨T, 1, none⟩ (.int .i64 (k' : Int))) T pa pc P k' :=
  ⟨h.blk.set 1 _, own_setCell h.own (Nat.lt_succ_self _) _⟩
theorem TourAt.path {_w w1 : World} {T pc pc' : Nat} {pa pa' : Option Addr} {P P' : List Int} {k : Nat} (h : Blk w1 T 85 #[.slice pa P.length pc, .int .i64 (k : Int), seeV T]) (ho : IOwn w1 (T + 1) (.slice pa' P'.length pc') P') : TourAt (w1.setCell ⟨T, 0, none⟩ (.slice pa' P'.length pc')) T pa' pc' P' k :=
  ⟨h.set 0 _, own_setCell ho (Nat.lt_succ_self _) _⟩
theorem TourAt.cells {w : World} {T pc : Nat} {pa : Option Addr} {P : List Int} {k : Nat} (h : TourAt w T pa pc P k) : w.cell? ⟨T, 0, none⟩ = some (.slice pa P.length pc) ∧ w.cell? ⟨T, 1, none⟩ = some (.int .i64 (k : Int)) ∧ w.cell? ⟨T, 2, none⟩ = some (.func (.func 57) #[.pointer (some ⟨T, 0, none⟩)] #[]) ∧ w.frozen? ⟨T, 0, none⟩ = false ∧ w.frozen? ⟨T, 1, none⟩ = false ∧ T < w.heap.size :=
  ⟨h.blk.cell 0, h.blk.cell 1, h.blk.cell 2, h.blk.frozen 0, h.blk.frozen 1, h.blk.lt⟩
theorem TourAt.some {w : World} {T pc : Nat} {pa : Option Addr} {P : List Int} {x : Int} {k : Nat} (h : TourAt w T pa pc (P ++ [x]) k) : ∃ g, pa = some ⟨g, 0, none⟩ ∧ T < g ∧ g < w.heap.size ∧ P.length + 1 ≤ pc ∧ w.cell? ⟨g, P.length, none⟩ = some (.int .i64 x) ∧ w.frozen? ⟨g, P.length, none⟩ = false := by
  rcases h.own.form with ⟨_, e⟩ | ⟨g, cap, e, hb, hlt, hc, hcell, hfr⟩
  · simp at e
  · simp only [Value.slice.injEq] at e
    obtain ⟨rfl, _, rfl⟩ := e
    refine ⟨g, rfl, by omega, hlt, by simpa using hc, ?_, hfr _⟩
    have := hcell P.length (by simp)
    simpa using this
def GoPost (r : Tr) (T : Nat) (P : List Int) (w : World) (e : Ending) (w' : World) : Prop :=
  Below T w w' ∧ match r with
  | .ok m => e = .returned (.tuple #[]) ∧ ∃ pa pc, TourAt w' T pa pc P m
  | .bad c p m => ∃ a cc, e = lostG c a p.length cc (m : Int) ∧ IOwn w' (T + 1) (.slice a p.length cc) p
theorem see_room {Q : Own → Bool} {p n : Nat} {ah : List Fld} {f : Fld} (h : seeF Q p n ah f = 0) : n ≤ 64 ∧ p ≤ 16 := by
  unfold seeF at h
  by_cases h1 : 64 < n
  · rw [if_pos h1] at h; cases h
  · rw [if_neg h1] at h
    by_cases h2 : 16 < p
    · rw [if_pos h2] at h; cases h
    · omega
theorem tourL_le (Q : Own → Bool) : ∀ (N : Nat) (l : List Fld), SizeOf.sizeOf l ≤ N → ∀ (P : List Int) (ah : List Fld) (n m : Nat), n ≤ 64 → tourL Q P ah n l = .ok m → m ≤ 64 := by
  intro N
  induction N with
  | zero => intro l h; cases l <;> simp at h
  | succ N ih =>
    intro l hl P ah n m hn h
    cases l with
    | nil => rw [tourL_nil] at h; cases h; exact hn
    | cons f r =>
      obtain ⟨o, fl⟩ := f
      have hs1 : SizeOf.sizeOf fl ≤ N := by simp at hl; omega
      have hs2 : SizeOf.sizeOf r ≤ N := by simp at hl; omega
      by_cases h0 : seeF Q (P.length + 1) (n + 1) ah (.mk o fl) = 0
      · cases h1 : tourL Q (P ++ [(ah.length : Int)]) [] (n + 1) fl with
        | bad c p q =>
          rw [tourL_in Q P ah n (.mk o fl) r h0 h1] at h
          cases h
        | ok q =>
          rw [tourL_on Q P ah n (.mk o fl) r h0 h1] at h
          exact ih r hs2 _ _ _ _ (ih fl hs1 _ _ _ _ (see_room h0).1 h1) h
      · rw [tourL_bad Q P ah n (.mk o fl) r h0] at h
        cases h
theorem tourL_ne' (Q : Own → Bool) : ∀ (N : Nat) (l : List Fld), SizeOf.sizeOf l ≤ N → ∀ (P : List Int) (ah : List Fld) (n : Nat) (c : Int) (p : List Int) (m : Nat), tourL Q P ah n l = .bad c p m → c ≠ 0 := by
  intro N
  induction N with
  | zero => intro l h; cases l <;> simp at h
  | succ N ih =>
    intro l hl P ah n c p m h
    cases l with
    | nil => rw [tourL_nil] at h; cases h
    | cons f r =>
      obtain ⟨o, fl⟩ := f
      have hs1 : SizeOf.sizeOf fl ≤ N := by simp at hl; omega
      have hs2 : SizeOf.sizeOf r ≤ N := by simp at hl; omega
      by_cases h0 : seeF Q (P.length + 1) (n + 1) ah (.mk o fl) = 0
      · cases h1 : tourL Q (P ++ [(ah.length : Int)]) [] (n + 1) fl with
        | bad c' p' q =>
          rw [tourL_in Q P ah n (.mk o fl) r h0 h1] at h
          cases h
          exact ih fl hs1 _ _ _ _ _ _ h1
        | ok q =>
          rw [tourL_on Q P ah n (.mk o fl) r h0 h1] at h
          exact ih r hs2 _ _ _ _ _ _ h
      · rw [tourL_bad Q P ah n (.mk o fl) r h0] at h
        cases h
        exact h0
theorem tourL_ne {Q : Own → Bool} {l : List Fld} (P : List Int) (ah : List Fld) (n : Nat) (c : Int) (p : List Int) (m : Nat) (h : tourL Q P ah n l = .bad c p m) : c ≠ 0 := tourL_ne' Q _ l (Nat.le_refl _) P ah n c p m h
theorem takeF_len {α : Type} (l : List α) (j : Nat) (h : j ≤ l.length) : (l.take j).length = j := by rw [List.length_take]; omega
end Go.Proofs.YtcbjnifoojjipaaGreatDoor
