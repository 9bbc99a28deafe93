/- What schema's needRight does (a contract; nothing is claimed here). -/
import Derived.Test.YtgefbgpfjbbeaaaGreatDoorFTou
import Derived.Test.YtgefbgpfjbbeaaaGreatDoorFMayA
namespace Go.Proofs.YtgefbgpfjbbeaaaGreatDoor
open Go.RowKit Go.Vf

theorem own_mk (o : Own) (l : List Fld) : (Fld.mk o l).own = o := rfl
theorem fields_mk (o : Own) (l : List Fld) : (Fld.mk o l).fields = l := rfl
set_option maxHeartbeats 8000000 in
set_option maxRecDepth 20000 in
theorem needRight_any (T : Nat) (pa : Option Addr) (pc : Nat) (P : List Int) (k : Nat) (hP : P.length ≤ 1000) (hk : k ≤ 1000000) (l : List Fld) (hl : l.length ≤ 281474976710656) (aa : Option Addr) (ca lo n₀ : Nat) (f : Fld) (hf : FitsF 17179869184 f) (a : Option Addr) (c : Nat) (w : World) (hn₀ : n₀ ≤ w.heap.size) (h : TourAt w T pa pc P k) (hin : FIn w lo n₀ l aa) :
    Calls Tryz.prog 84 #[.pointer (some ⟨T, 0, none⟩), .slice aa l.length ca, fV f.own a f.fields.length c] w (SeePost (seeF bndQ P.length k l f) P k w) := by
  obtain ⟨o, fl⟩ := f
  have hfl := hf.len
  have hfo := hf.own
  simp only [own_mk, fields_mk] at hfl hfo ⊢
  have hb0 := (Below.refl w.heap.size w).alloc (Nat.le_refl _) (.cells (cellsF o a fl.length c) 50)
  have hN0 := Blk.new w 50 (cellsF o a fl.length c)
  have h0 := h.old hb0
  have hin0 := hin.keep hb0 hn₀
  have hs0 := alloc_size w (.cells (cellsF o a fl.length c) 50)
  have hroom := needRoom_any T pa pc P k hP hk _ h0
  obtain ⟨c0, c1, c2, c3, c4, c5, c6, c7, c8, c9, c10, c11, c12, c13⟩ := cells14 hN0
  unfold fV
  simp only [cellsF] at hb0 hN0 h0 hin0 hs0 hroom c0 c1 c2 c3 c4 c5 c6 c7 c8 c9 c10 c11 c12 c13
  obtain ⟨E, hE⟩ : ∃ E, seeF bndQ P.length k l (.mk o fl) = E := ⟨_, rfl⟩
  rw [hE]
  have HE : Hid (E = if 64 < k then 116 else if 16 < P.length then 114 else if isNameS o.name = false then 111 else if l.any (fun g => decide (g.own.name = o.name)) then 112 else if maySayO (bndQ o) o fl.length = false then 113 else if o.kind = 7 ∧ fl = [] then 115 else 0) := hE.symm
  clear hE
  clear h hin hf
  go_enter Tryz.func84, Tryz.ntmps84
  go_wp2_with fail
  generalize w.alloc (.cells #[.string o.name, .int .u8 o.kind, .bool o.down, .int .u8 o.nulls, .bool o.bnd, .bool o.ln, .string o.lm, .bool o.hn, .string o.hm, .int .i64 o.most, .int .i64 o.str, .bool o.shf, .bool o.bck, .slice a fl.length c] 50) = w1 at hb0 hN0 h0 hin0 hs0 hroom c0 c1 c2 c3 c4 c5 c6 c7 c8 c9 c10 c11 c12 c13 ⊢
  refine hroom.mono ?_
  clear hroom c1 c2 c3 c4 c5 c6 c7 c8 c9 c10 c11 c12 c13
  by_cases hr1 : 64 < k
  · rw [if_pos hr1]
    rintro e w2 (⟨h, _⟩ | ⟨_, ap, cp, he, ho, hb⟩)
    · cases h
    unfold lostG at he; subst he
    go_wp2
    exact ⟨rfl, by rw [HE.out, if_pos hr1]; exact SeePost.no (by decide) hb0 ⟨ap, cp, rfl, ho, hb⟩⟩
  rw [if_neg hr1]
  by_cases hr2 : 16 < P.length
  · rw [if_pos hr2]
    rintro e w2 (⟨h, _⟩ | ⟨_, ap, cp, he, ho, hb⟩)
    · cases h
    unfold lostG at he; subst he
    go_wp2
    exact ⟨rfl, by rw [HE.out, if_neg hr1, if_pos hr2]; exact SeePost.no (by decide) hb0 ⟨ap, cp, rfl, ho, hb⟩⟩
  rw [if_neg hr2]
  rintro e w2 (⟨_, rfl, hb2⟩ | ⟨h, _⟩)
  rotate_left
  · exact absurd rfl h
  have hb02 := hb0.trans (hb2.mono hb0.size)
  have h2 := h0.old hb2
  have hin2 := hin0.keep hb2 (by have := hb0.size; omega)
  have hN2 := hN0.old hb2
  have hlt2 := hN2.lt
  obtain ⟨c0, c1, c2, c3, c4, c5, c6, c7, c8, c9, c10, c11, c12, c13⟩ := hN2.c14
  have hnm := isName_any o.name (by have := hfo.nm; omega) w2
  clear h0 hin0 hN0 hb2 hs0
  have HN1 : Hid (¬ 64 < k) := hr1
  have HN2 : Hid (¬ 16 < P.length) := hr2
  clear hr1 hr2
  cases h3 : isNameS o.name with
  | false =>
    rw [h3] at hnm
    have hno := tneed_no T pa pc P k hP false 111 w2 rfl h2
    clear hin2 c1 c2 c3 c4 c5 c6 c7 c8 c9 c10 c11 c12 c13
    go_wp2_with fail
    refine hnm.mono ?_
    rintro _ _ ⟨rfl, rfl⟩
    go_wp2_with fail
    refine hno.mono ?_
    rintro e w3 ⟨ap, cp, he, ho, hb⟩; unfold lostG at he; subst he
    go_wp2
    exact ⟨rfl, by rw [HE.out, if_neg HN1.out, if_neg HN2.out, if_pos h3]; exact SeePost.no (by decide) hb02 ⟨ap, cp, rfl, ho, hb⟩⟩
  | true =>
    rw [h3] at hnm
    have hok1 := tneed_ok (.pointer (some ⟨T, 0, none⟩)) true 111 w2 rfl
    have hcf := containsFunc_any l hl aa ca w.heap.size lo n₀ o.name w2 (by have := hb02.size; omega) hin2 c0 hlt2
    go_wp2_with fail
    refine hnm.mono ?_
    rintro _ _ ⟨rfl, rfl⟩
    go_wp2_with fail
    refine hok1.mono ?_
    rintro _ _ ⟨rfl, rfl⟩
    go_wp2_with fail
    refine hcf.mono ?_
    clear hcf hnm hok1
    cases h4 : l.any (fun g => decide (g.own.name = o.name)) with
    | true =>
      rintro _ w3 ⟨rfl, hb3⟩
      have hb03 := hb02.trans (hb3.mono hb02.size)
      have hno := tneed_no T pa pc P k hP false 112 w3 rfl (h2.old hb3)
      clear hin2 c0 c1 c2 c3 c4 c5 c6 c7 c8 c9 c10 c11 c12 c13
      go_wp2_with fail
      refine hno.mono ?_
      rintro e w4 ⟨ap, cp, he, ho, hb⟩; unfold lostG at he; subst he
      go_wp2
      exact ⟨rfl, by rw [HE.out, if_neg HN1.out, if_neg HN2.out, if_neg (by rw [h3]; simp), if_pos h4]; exact SeePost.no (by decide) hb03 ⟨ap, cp, rfl, ho, hb⟩⟩
    | false =>
      rintro _ w3 ⟨rfl, hb3⟩
      have hb03 := hb02.trans (hb3.mono hb02.size)
      have h3' := h2.old hb3
      have hN3 := hN2.old hb3
      have hok2 := tneed_ok (.pointer (some ⟨T, 0, none⟩)) true 112 w3 rfl
      have hms := maySay_any o a fl.length c (by omega) (by have := hfo.lm; omega) (by have := hfo.hm; omega) w3
      unfold fV at hms
      clear hin2 c0 c1 c2 c3 c4 c5 c6 c7 c8 c9 c10 c11 c12 c13 h2 hN2
      obtain ⟨c0, c1, c2, c3, c4, c5, c6, c7, c8, c9, c10, c11, c12, c13⟩ := hN3.c14
      go_wp2_with fail
      refine hok2.mono ?_
      rintro _ _ ⟨rfl, rfl⟩
      go_wp2_with fail
      refine hms.mono ?_
      clear hms hok2 c0 c1 c2 c3 c4 c5 c6 c7 c8 c9 c10 c11 c12 c13
      cases h5 : maySayO (bndQ o) o fl.length with
      | false =>
        rintro _ w4 ⟨rfl, hb4⟩
        have hb04 := hb03.trans (hb4.mono hb03.size)
        have hno := tneed_no T pa pc P k hP false 113 w4 rfl (h3'.old hb4)
        go_wp2_with fail
        refine hno.mono ?_
        rintro e w5 ⟨ap, cp, he, ho, hb⟩; unfold lostG at he; subst he
        go_wp2
        exact ⟨rfl, by rw [HE.out, if_neg HN1.out, if_neg HN2.out, if_neg (by rw [h3]; simp), if_neg (by rw [h4]; simp), if_pos h5]; exact SeePost.no (by decide) hb04 ⟨ap, cp, rfl, ho, hb⟩⟩
      | true =>
        rintro _ w4 ⟨rfl, hb4⟩
        have hb04 := hb03.trans (hb4.mono hb03.size)
        have h4' := h3'.old hb4
        have hN4 := hN3.old hb4
        have hok3 := tneed_ok (.pointer (some ⟨T, 0, none⟩)) true 113 w4 rfl
        have d1 : w4.cell? ⟨w.heap.size, 1, none⟩ = some (.int .u8 o.kind) := hN4.cell 1
        have d13 : w4.cell? ⟨w.heap.size, 13, none⟩ = some (.slice a fl.length c) := hN4.cell 13
        clear hN3 h3'
        by_cases h6 : o.kind = 7 ∧ fl = []
        · have hno := tneed_no T pa pc P k hP false 115 w4 rfl h4'
          have t1 : (o.kind != 7) = false := by rw [h6.1]; rfl
          have t2 : decide ((0 : Int) < (fl.length : Int)) = false := by rw [h6.2]; rfl
          have t3 : decide (0 < fl.length) = false := by rw [h6.2]; rfl
          have HN6 : Hid (o.kind = 7 ∧ fl = []) := h6
          generalize fl.length = m at t2 t3 d13
          clear h6 hN4 h4'
          go_wp2_with fail
          refine hok3.mono ?_
          rintro _ _ ⟨rfl, rfl⟩
          go_wp2_with fail
          refine hno.mono ?_
          rintro e w5 ⟨ap, cp, he, ho, hb⟩; unfold lostG at he; subst he
          go_wp2
          exact ⟨rfl, by rw [HE.out, if_neg HN1.out, if_neg HN2.out, if_neg (by rw [h3]; simp), if_neg (by rw [h4]; simp), if_neg (by rw [h5]; simp), if_pos HN6.out]; exact SeePost.no (by decide) hb04 ⟨ap, cp, rfl, ho, hb⟩⟩
        · have hok4 := tneed_ok (.pointer (some ⟨T, 0, none⟩)) true 115 w4 rfl
          have HN6 : Hid (¬ (o.kind = 7 ∧ fl = [])) := h6
          by_cases h7 : o.kind = 7
          · have t1 : (o.kind != 7) = false := by rw [h7]; rfl
            have hne : fl ≠ [] := fun e => h6 ⟨h7, e⟩
            have t2 : decide ((0 : Int) < (fl.length : Int)) = true := by
              have := List.length_pos_iff.2 hne
              simp only [decide_eq_true_eq]; omega
            have t3 : decide (0 < fl.length) = true := decide_eq_true (List.length_pos_iff.2 hne)
            generalize fl.length = m at t2 t3 d13
            clear h6 h7 hN4 h4' hne
            go_wp2_with fail
            refine hok3.mono ?_
            rintro _ _ ⟨rfl, rfl⟩
            go_wp2_with fail
            refine hok4.mono ?_
            rintro _ _ ⟨rfl, rfl⟩
            go_wp2
            go_end0
            exact by rw [HE.out, if_neg HN1.out, if_neg HN2.out, if_neg (by rw [h3]; simp), if_neg (by rw [h4]; simp), if_neg (by rw [h5]; simp), if_neg HN6.out]; exact .inl ⟨rfl, rfl, hb04⟩
          · have t1 : (o.kind != 7) = true := by simpa using h7
            clear h6 h7 hN4 h4'
            go_wp2_with fail
            refine hok3.mono ?_
            rintro _ _ ⟨rfl, rfl⟩
            go_wp2_with fail
            refine hok4.mono ?_
            rintro _ _ ⟨rfl, rfl⟩
            go_wp2
            go_end0
            exact by rw [HE.out, if_neg HN1.out, if_neg HN2.out, if_neg (by rw [h3]; simp), if_neg (by rw [h4]; simp), if_neg (by rw [h5]; simp), if_neg HN6.out]; exact .inl ⟨rfl, rfl, hb04⟩

end Go.Proofs.YtgefbgpfjbbeaaaGreatDoor
