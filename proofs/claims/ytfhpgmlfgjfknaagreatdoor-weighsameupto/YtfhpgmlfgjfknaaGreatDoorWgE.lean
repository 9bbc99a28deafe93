/- What weigh.Load and a text's elements are (contracts; nothing is claimed here). -/
import Derived.Test.YtfhpgmlfgjfknaaGreatDoorJ19
import Derived.Test.YtfhpgmlfgjfknaaGreatDoorJ11
import Derived.Test.YtfhpgmlfgjfknaaGreatDoorJ21
import Derived.Test.YtfhpgmlfgjfknaaGreatDoorJ23
import Derived.BigRegion
namespace Go.Proofs.YtfhpgmlfgjfknaaGreatDoor
open Go.RowKit Go.Vf Go.Maps
theorem rightB_ok {e : El} (h : rightB e = true) : WtOk e := by
  unfold rightB wtB at h
  simp only [Bool.and_eq_true, decide_eq_true_eq] at h
  obtain ⟨⟨⟨⟨⟨⟨h1, h2⟩, h3⟩, _⟩, _⟩, _⟩, _⟩ := h
  exact ⟨h1, h2, h3⟩
theorem impR_ok (n : Int) : ∀ e ∈ impR n, WtOk e := by
  intro e he
  unfold impR at he
  split at he
  · rename_i h
    unfold isPtB at h
    simp only [Bool.and_eq_true, decide_eq_true_eq] at h
    have hb := base_in n
    have h0 := h.1
    rcases List.mem_cons.1 he with rfl | he
    · refine ⟨?_, ?_, ?_⟩ <;> simp only <;> omega
    · rcases List.mem_cons.1 he with rfl | he
      · refine ⟨?_, ?_, ?_⟩ <;> simp only <;> omega
      · cases he
  · cases he
theorem elsOf_ok {E : List Ent} (hok : ∀ e ∈ E, EntOk e) (rs : List (List Int)) : ∀ e ∈ elsOf E rs, WtOk e := by
  intro e he
  obtain ⟨r, _, hr⟩ := List.mem_flatMap.1 he
  unfold elOf at hr
  cases hf : findT E r with
  | none => rw [hf] at hr; exact impR_ok _ e hr
  | some l =>
    rw [hf] at hr
    have := (hok _ (findT_some hf)).ok
    exact rightB_ok (List.all_eq_true.1 this e hr)
theorem elsOf_len {E : List Ent} (hok : ∀ e ∈ E, EntOk e) (rs : List (List Int)) : (elsOf E rs).length ≤ 16 * rs.length := by
  induction rs with
  | nil => simp [elsOf]
  | cons r t ih =>
    have h1 := elOf_len hok r
    rw [show elsOf E (r :: t) = elOf E r ++ elsOf E t from rfl, List.length_append, List.length_cons]
    omega
structure TbAt (w : World) (b bd T : Nat) (L : List Mk) (F : Int → List Int) (E : List Ent) : Prop where
  blk : Blk w b 59 #[.pointer (some ⟨bd, 0, none⟩), .pointer (some ⟨T, 0, none⟩)]
  data : DataAt w bd L F
  tab : ∃ me ml val, TabAt w T me ml val E
  load : ∃ m, loadR m = .ok (L, F)
theorem TbAt.below {w w' : World} {b bd T : Nat} {L : List Mk} {F : Int → List Int} {E : List Ent} (h : TbAt w b bd T L F E) (hb : Below w.heap.size w w') : TbAt w' b bd T L F E := by
  obtain ⟨me, ml, val, ht⟩ := h.tab
  exact ⟨h.blk.below hb h.blk.lt, h.data.below hb, ⟨me, ml, val, ht.below hb⟩, h.load⟩
theorem TbAt.ok {w : World} {b bd T : Nat} {L : List Mk} {F : Int → List Int} {E : List Ent} (h : TbAt w b bd T L F E) : ∀ e ∈ E, EntOk e := by
  obtain ⟨me, ml, val, ht⟩ := h.tab
  exact ht.ok
def loadW (m e : List UInt8) : Except (Int × Int × Int) ((List Mk × (Int → List Int)) × List Ent) :=
  match loadR m with
  | .error (why, line) => .error (why, 1, line)
  | .ok d => match loadT e with
    | .error (why, line) => .error (why, 2, line)
    | .ok E => .ok (d, E)
def LoadWPost (m e : List UInt8) (w : World) (r : Ending) (w' : World) : Prop :=
  Below w.heap.size w w' ∧ ((∃ why which line, loadW m e = .error (why, which, line) ∧ r = .returned (.tuple #[.pointer none, .int .i64 why, .int .i64 which, .int .i64 line])) ∨
    (∃ L F E b bd T, loadW m e = .ok ((L, F), E) ∧ r = .returned (.tuple #[.pointer (some ⟨b, 0, none⟩), .int .i64 0, .int .i64 0, .int .i64 0]) ∧ TbAt w' b bd T L F E))
theorem tabL_why : ∀ (C : List (List UInt8)) (n : Int) (acc : List Ent) (why line : Int), tabL C n acc = .error (why, line) → why ≠ 0 := by
  intro C
  induction C with
  | nil => intro n acc why line h; simp [tabL] at h
  | cons s r ih =>
    intro n acc why line h
    unfold tabL at h
    split at h
    · exact ih _ _ _ _ h
    · split at h
      · cases h; decide
      · split at h
        · split at h
          · cases h; decide
          · split at h
            · cases h; decide
            · exact ih _ _ _ _ h
        · cases h; decide
theorem loadT_why {s : List UInt8} {why line : Int} (h : loadT s = .error (why, line)) : why ≠ 0 := by
  unfold loadT at h
  split at h
  · cases h; decide
  · exact tabL_why _ _ _ _ _ h
theorem loadT_glob (s : ByteArray) (w : World) (hg : Glob w) (hbig : s.size ≤ 281474976710656) : Calls Tryz.prog 22 #[.string s] w fun e w' => LoadPost6 (loadT s.data.toList) w e w' := by
  obtain ⟨m, hm⟩ := hg
  exact load_any6 s m w hm hbig
theorem results9_run {tmps : Array Value} {w : World} {a b c d : Value} (t2 : tmps[4]?.getD undef = a) (t3 : tmps[5]?.getD undef = b) (t4 : tmps[6]?.getD undef = c) (t5 : tmps[7]?.getD undef = d) : (results Tryz.f9 tmps).run Tryz.prog w = .ok (.tuple #[a, b, c, d]) w := by
  simp [results, Tryz.results9, go_sem, t2, t3, t4, t5]
set_option maxHeartbeats 2000000 in
theorem loadW_any (m e : ByteArray) (hm : m.size ≤ 281474976710656) (he : e.size ≤ 281474976710656) (w : World) (hg : Glob w) : Calls Tryz.prog 9 #[.string m, .string e] w fun r w' => LoadWPost m.data.toList e.data.toList w r w' := by
  have hl1 := load_glob m w hg hm
  go_enter Tryz.func9, Tryz.ntmps9
  go_wp2_with fail
  refine hl1.mono ?_
  rintro r w1 ⟨hb1, hp1⟩
  have hl2 := loadT_glob e w1 (hg.below hb1) he
  clear hl1
  cases h1 : loadR m.data.toList with
  | error q =>
    obtain ⟨why, line⟩ := q
    rw [h1] at hp1
    obtain rfl : r = _ := hp1
    have hy0 := load_why h1
    have hy1 : (why == 0) = false := by simpa using hy0
    have hy2 : (why != 0) = true := by simpa using hy0
    clear hl2
    go_wp2_with fail
    refine bodyPost_ret (results9_run rfl rfl rfl rfl) rfl ?_
    exact ⟨hb1, .inl ⟨why, 1, line, by unfold loadW; rw [h1], rfl⟩⟩
  | ok q =>
    obtain ⟨L, F⟩ := q
    rw [h1] at hp1
    obtain ⟨bd, rfl, hd⟩ := hp1
    go_wp2_with fail
    refine hl2.mono ?_
    rintro r w2 ⟨hb2, hp2⟩
    have hb02 := hb1.trans (hb2.mono hb1.size)
    cases h2 : loadT e.data.toList with
    | error q2 =>
      obtain ⟨why2, line2⟩ := q2
      rw [h2] at hp2
      obtain rfl : r = _ := hp2
      have hy0 := loadT_why h2
      have hy1 : (why2 == 0) = false := by simpa using hy0
      have hy2 : (why2 != 0) = true := by simpa using hy0
      go_wp2_with fail
      refine bodyPost_ret (results9_run rfl rfl rfl rfl) rfl ?_
      exact ⟨hb02, .inl ⟨why2, 2, line2, by unfold loadW; rw [h1]; simp only [h2], rfl⟩⟩
    | ok E =>
      rw [h2] at hp2
      obtain ⟨T, me, ml, val, rfl, ht⟩ := hp2
      have hb3 := (Below.refl w2.heap.size w2).alloc (Nat.le_refl _) (.cells #[.pointer (some ⟨bd, 0, none⟩), .pointer (some ⟨T, 0, none⟩)] 59)
      have hn3 := Blk.new w2 59 #[.pointer (some ⟨bd, 0, none⟩), .pointer (some ⟨T, 0, none⟩)]
      go_wp2_with fail
      refine bodyPost_ret (results9_run rfl rfl rfl rfl) rfl ?_
      exact ⟨hb02.trans (hb3.mono hb02.size), .inr ⟨L, F, E, w2.heap.size, bd, T, by unfold loadW; rw [h1]; simp only [h2], rfl, hn3, (hd.below hb2).below hb3, ⟨me, ml, val, ht.below hb3⟩, ⟨_, h1⟩⟩⟩
def elErr (s : Int) (sh : Bool) (size : Nat) (rest : List UInt8) : Int := if rightC s sh = true then (if 65536 < size then 2 else if rest = [] then 0 else 30) else 1
def ElPost (es : List El) (er : Int) (w : World) (e : Ending) (w' : World) : Prop :=
  Below w.heap.size w w' ∧ ((er = 0 ∧ ∃ v, e = .returned (.tuple #[v, .int .i64 0]) ∧ EOwn w' w.heap.size v es) ∨ (er ≠ 0 ∧ e = .returned (.tuple #[.slice none 0 0, .int .i64 er])))
set_option maxHeartbeats 4000000 in
set_option maxRecDepth 20000 in
theorem welements_any {b bd T : Nat} {L : List Mk} {F : Int → List Int} {E : List Ent} {w : World} (h : TbAt w b bd T L F E) (hg : Tabs w) (s : Int) (hs : InI s) (sh back : Bool) (txt : ByteArray) (ps : List Nat) (rest : List UInt8) (ht : txt.data.toList = encs ps ++ rest) (hps : ∀ p ∈ ps, IsPt p) (hrest : rest = [] ∨ noChar rest) {X : List Int} (hX : IsForm L F (ps.map fun p : Nat => (p : Int)) X) (hXp : X.length ≤ 57 * ps.length) :
    Calls Tryz.prog 25 #[.pointer (some ⟨b, 0, none⟩), colA s sh back, .string txt] w fun e w' => ElPost (elsOf E (stepsD (classAt L) (fndT E) X)) (elErr s sh txt.size rest) w e w' := by
  have hb0 := (Below.refl w.heap.size w).alloc (Nat.le_refl _) (.cells #[.int .i64 s, .bool sh, .bool back] 25)
  have hn0 := Blk.new w 25 #[.int .i64 s, .bool sh, .bool back]
  have h0 := h.below hb0
  have hg0 := hg.own hb0
  have c0 : (w.alloc (.cells #[.int .i64 s, .bool sh, .bool back] 25)).cell? ⟨w.heap.size, 0, none⟩ = some (.int .i64 s) := hn0.cell 0
  have c1 : (w.alloc (.cells #[.int .i64 s, .bool sh, .bool back] 25)).cell? ⟨w.heap.size, 1, none⟩ = some (.bool sh) := hn0.cell 1
  have c2 : (w.alloc (.cells #[.int .i64 s, .bool sh, .bool back] 25)).cell? ⟨w.heap.size, 2, none⟩ = some (.bool back) := hn0.cell 2
  have HER : Hid (elErr s sh txt.size rest = if rightC s sh = true then (if 65536 < txt.size then 2 else if rest = [] then 0 else 30) else 1) := rfl
  generalize elErr s sh txt.size rest = er at HER ⊢
  generalize hes : elsOf E (stepsD (classAt L) (fndT E) X) = es
  have HES : Hid _ := hes
  clear hes
  go_enter Tryz.func25, Tryz.ntmps25
  go_upto_region 3 with fail
  generalize w.alloc (.cells #[.int .i64 s, .bool sh, .bool back] 25) = w0 at *
  have hir := colRight_any s sh back w0 hs
  cases hrc : rightC s sh with
  | false =>
    rw [hrc] at hir
    have her : er = 1 := by rw [HER.out, hrc]; rfl
    subst her
    go_wp2_with fail
    refine hir.mono ?_
    rintro _ w1 ⟨rfl, hb1⟩
    go_wp2_with fail
    go_ret2
    exact ⟨hb0.trans (hb1.mono hb0.size), .inr ⟨by decide, rfl⟩⟩
  | true =>
    rw [hrc] at hir
    go_wp2_with fail
    refine hir.mono ?_
    rintro _ w1 ⟨rfl, hb1⟩
    have hb01 := hb0.trans (hb1.mono hb0.size)
    go_wp2_with fail
    refine (isLong_any txt w1).mono ?_
    rintro _ w2 ⟨rfl, rfl⟩
    by_cases hlong : 65536 < txt.size
    · have her : er = 2 := by rw [HER.out, hrc, if_pos rfl, if_pos hlong]
      subst her
      rw [decide_eq_true hlong]
      go_wp2_with fail
      go_ret2
      exact ⟨hb01, .inr ⟨by decide, rfl⟩⟩
    · rw [decide_eq_false hlong]
      have hpt := points_any txt (by omega) ps rest ht hps hrest w1 (hg0.own hb1)
      go_wp2_with fail
      refine hpt.mono ?_
      rintro e w2 ⟨hp2, hb2⟩
      have hb02 := hb01.trans (hb2.mono hb01.size)
      rcases hp2 with ⟨hr0, v2, rfl, hown2⟩ | ⟨hr0, rfl⟩
      · have her : er = 0 := by rw [HER.out, hrc, if_pos rfl, if_neg hlong, if_pos hr0]
        subst her
        obtain ⟨a2, cap2, rfl⟩ := hown2.val
        have hpl : (ps.map fun p : Nat => (p : Int)).length ≤ 65536 := by
          have h1 := encs_length_ge ps
          have h2 : (encs ps ++ rest).length = txt.size := by rw [← ht, ← Lib.size_eq]
          rw [List.length_append] at h2
          rw [List.length_map]
          omega
        have hnu : Numb w2 a2 (ps.map fun p : Nat => (p : Int)).length cap2 (ps.map fun p : Nat => (p : Int)) := ⟨hown2.ints, rfl, fun q hq => by
          obtain ⟨p, hp, rfl⟩ := List.mem_map.1 hq
          have := hps p hp
          unfold IsPt at this
          unfold InI
          omega, by omega⟩
        have h2 := (h0.below hb1).below hb2
        obtain ⟨me, ml, val, htab⟩ := h2.tab
        obtain ⟨tm, htm⟩ := h2.load
        have hXl : X.length ≤ 57000000000 := by rw [List.length_map] at hpl; omega
        have hel := fun W (hW : Below w2.heap.size w2 W) => elements_any htm (h2.data.below hW) (htab.below hW) (⟨(hnu.ints.below hW (Nat.le_refl _)).mono hW.size, hnu.len, hnu.int, hnu.few⟩ : Numb W a2 _ cap2 _) hX (by omega) hXl
        have hq0 : w2.cell? ⟨b, 0, none⟩ = some (.pointer (some ⟨bd, 0, none⟩)) := h2.blk.cell 0
        have hq1 : w2.cell? ⟨b, 1, none⟩ = some (.pointer (some ⟨T, 0, none⟩)) := h2.blk.cell 1
        rw [HES.out] at hel
        have HEL : Hid (∀ W, Below w2.heap.size w2 W → Calls Tryz.prog 58 #[.pointer (some ⟨bd, 0, none⟩), .pointer (some ⟨T, 0, none⟩), .slice a2 (ps.map fun p : Nat => (p : Int)).length cap2] W fun e w' => ∃ v, e = .returned v ∧ EOwn w' W.heap.size v es ∧ Below W.heap.size W w') := hel
        generalize (ps.map fun p : Nat => (p : Int)).length = pn at *
        clear hel hown2 hnu hpt hX htm htab h0 h hir
        go_upto_region 10 with fail
        have hbz : Below w2.heap.size w2 w2.drew := (Below.refl _ w2).drew
        go_region_with (first | (go_at_call 58; with_reducible refine (HEL.out _ (by assumption)).mono ?_; rintro e w3 ⟨v3, rfl, hown3, hb3⟩))
        all_goals
          go_wp2_with fail
          go_ret2
          exact ⟨hb02.trans ((hbz.trans (hb3.mono hbz.size)).mono hb02.size), .inl ⟨rfl, _, rfl, ownsRow_mono hown3 (Nat.le_trans hb02.size hbz.size)⟩⟩
      · have her : er = 30 := by rw [HER.out, hrc, if_pos rfl, if_neg hlong, if_neg hr0]
        subst her
        go_wp2_with fail
        go_ret2
        exact ⟨hb02, .inr ⟨by decide, rfl⟩⟩
end Go.Proofs.YtfhpgmlfgjfknaaGreatDoor
