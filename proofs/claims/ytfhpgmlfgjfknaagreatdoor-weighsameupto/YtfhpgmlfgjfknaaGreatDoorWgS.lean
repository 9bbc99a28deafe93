/- What (*weigh.Tables).Same does; a text and its form (contracts; nothing is claimed here). -/
import Derived.Test.YtfhpgmlfgjfknaaGreatDoorJ36
import Derived.Test.YtfhpgmlfgjfknaaGreatDoorNormG
import Derived.Test.YtfhpgmlfgjfknaaGreatDoorJ22
import Derived.Test.YtfhpgmlfgjfknaaGreatDoorJ19
namespace Go.Proofs.YtfhpgmlfgjfknaaGreatDoor
open Go.RowKit Go.Vf Go.Maps
structure Spelt (L : List Mk) (F : Int → List Int) (txt : ByteArray) (ps : List Nat) (rest : List UInt8) (X : List Int) : Prop where
  split : txt.data.toList = encs ps ++ rest
  pts : ∀ p ∈ ps, IsPt p
  rest : rest = [] ∨ noChar rest
  form : Formed L F (ps.map fun p : Nat => (p : Int)) X
theorem spelt_any {t : List UInt8} {L : List Mk} {F : Int → List Int} (hm : loadR t = .ok (L, F)) (txt : ByteArray) : ∃ ps rest X, Spelt L F txt ps rest X := by
  obtain ⟨ps, rest, hsp, hps, hrest⟩ := split_bytes txt.data.toList
  obtain ⟨X, hX, hXl, hXm⟩ := form_exists (fun x => (load_cls hm x).1) (flatR F (ps.map fun p : Nat => (p : Int)))
  exact ⟨ps, rest, X, hsp, hps, hrest, hX, hXm, hXl⟩
theorem Spelt.len {L : List Mk} {F : Int → List Int} {txt : ByteArray} {ps : List Nat} {rest : List UInt8} {X : List Int} (h : Spelt L F txt ps rest X) : ps.length ≤ txt.size := by
  have h1 := encs_length_ge ps
  have h2 : (encs ps ++ rest).length = txt.size := by rw [← h.split, ← Lib.size_eq]
  rw [List.length_append] at h2
  omega
theorem Spelt.xlen {w : World} {bd : Nat} {L : List Mk} {F : Int → List Int} {txt : ByteArray} {ps : List Nat} {rest : List UInt8} {X : List Int} (h : Spelt L F txt ps rest X) (hd : DataAt w bd L F) : X.length ≤ 57 * ps.length := form_few hd h.form _ (by rw [List.length_map]; exact Nat.le_refl _)
theorem pts_in {ps : List Nat} (h : ∀ p ∈ ps, IsPt p) : ∀ q ∈ (ps.map fun p : Nat => (p : Int)), InI q := fun q hq => by
  obtain ⟨p, hp, rfl⟩ := List.mem_map.1 hq
  have := h p hp
  unfold IsPt at this
  unfold InI
  omega
def PtI (z : Int) : Prop := 0 ≤ z ∧ IsPt z.toNat
theorem mayB_pt {z : Int} (h : mayB z = true) : PtI z := by
  unfold mayB at h
  simp only [Bool.and_eq_true, Bool.or_eq_true, decide_eq_true_eq] at h
  unfold PtI IsPt
  omega
theorem ends_pt {t : List UInt8} {L : List Mk} {E : Int → List Int} (h : loadR t = .ok (L, E)) {p z : Int} (hz : z ∈ endsOfF E p) : (PtI p → PtI z) := by
  obtain ⟨hlen, hl, hno, _, ord, ht, hord, he⟩ := load_says h
  have hok := (load_total hlen hl).1
  have hEz : ∀ z, partsAt L z = [] → endsOfF E z = [z] := fun z hG => by
    unfold endsOfF
    rw [if_pos (by rw [he _ (Nat.le_refl _)]; unfold endsG; rw [if_pos hG])]
  by_cases hG : partsAt L p = []
  · rw [hEz p hG] at hz
    simp at hz
    subst hz
    exact id
  · obtain ⟨m, hm, e⟩ := partsAt_has hG
    have hEp : E p = (wh (partsAt L) (ord.length + 1) p).take 19 := by rw [he _ (Nat.le_refl _)]; unfold endsG; rw [if_neg hG]
    have hz2 : z ∈ wh (partsAt L) (ord.length + 1) p := by
      unfold endsOfF at hz
      split at hz
      · rename_i e0
        rw [hEp, List.take_eq_nil_iff] at e0
        rcases e0 with e0 | e0
        · omega
        · exact absurd e0 (wh_ne _ _)
      · rw [hEp] at hz; exact List.mem_of_mem_take hz
    rcases wh_from _ _ _ hz2 with rfl | ⟨q, hq⟩
    · exact id
    · obtain ⟨m', hm', _, hq'⟩ := partsAt_mem hq
      exact fun _ => mayB_pt ((hok m' hm').2.1 z hq')
theorem letters_pt {p : Int} (h : isSyl p = true) : ∀ q ∈ lettersR p, PtI q := by
  intro q hq
  unfold isSyl at h
  simp only [Bool.and_eq_true, decide_eq_true_eq] at h
  unfold lettersR at hq
  unfold PtI IsPt
  split at hq <;> simp at hq <;> omega
theorem parts_pt {t : List UInt8} {L : List Mk} {E : Int → List Int} (h : loadR t = .ok (L, E)) {p z : Int} (hp : PtI p) (hz : z ∈ partsR' E p) : PtI z := by
  unfold partsR' at hz
  split at hz
  · rename_i hs
    obtain ⟨q, hq, hz⟩ := List.mem_flatMap.1 hz
    exact ends_pt h hz (letters_pt hs q hq)
  · exact ends_pt h hz hp
theorem Spelt.points {t : List UInt8} {L : List Mk} {F : Int → List Int} (hm : loadR t = .ok (L, F)) {txt : ByteArray} {ps : List Nat} {rest : List UInt8} {X : List Int} (h : Spelt L F txt ps rest X) : ∃ xs : List Nat, X = (xs.map fun p : Nat => (p : Int)) ∧ ∀ p ∈ xs, IsPt p := by
  have hp : ∀ x ∈ X, PtI x := fun x hx => by
    obtain ⟨p, hp, hq⟩ := List.mem_flatMap.1 (h.form.mem x hx)
    obtain ⟨n, hn, rfl⟩ := List.mem_map.1 hp
    exact parts_pt hm ⟨Int.natCast_nonneg n, h.pts n hn⟩ hq
  refine ⟨X.map Int.toNat, ?_, ?_⟩
  · rw [List.map_map]
    clear h hm
    induction X with
    | nil => rfl
    | cons x r ih =>
      have h1 := (hp x (by simp)).1
      rw [List.map_cons, ← ih fun y hy => hp y (by simp [hy])]
      show x :: r = ((x.toNat : Nat) : Int) :: r
      rw [Int.toNat_of_nonneg h1]
  · intro p hq
    obtain ⟨x, hx, rfl⟩ := List.mem_map.1 hq
    exact (hp x hx).2
theorem Spelt.self {t : List UInt8} {L : List Mk} {F : Int → List Int} (hm : loadR t = .ok (L, F)) {txt : ByteArray} {ps : List Nat} {rest : List UInt8} {X : List Int} (h : Spelt L F txt ps rest X) {xs : List Nat} (hx : X = (xs.map fun p : Nat => (p : Int))) (hxs : ∀ p ∈ xs, IsPt p) : Spelt L F (bs (encs xs)) xs [] X := by
  have hfl := flat_end hm h.form.mem
  refine ⟨by simp [bs_data], hxs, .inl rfl, ?_⟩
  rw [← hx]
  exact ⟨h.form.self hm, fun x hq => by rw [hfl]; exact hq, by rw [hfl]⟩
def smE (na nb : Nat) (ra rb : List UInt8) : Int := if 65536 < na ∨ 65536 < nb then 2 else if ra = [] ∧ rb = [] then 0 else 30
def smB (na nb : Nat) (ra rb : List UInt8) (X Y : List Int) : Bool := decide (smE na nb ra rb = 0) && decide (X = Y)
set_option maxHeartbeats 4000000 in
set_option maxRecDepth 20000 in
theorem wsame_any {b bd T : Nat} {L : List Mk} {F : Int → List Int} {E : List Ent} {w : World} (h : TbAt w b bd T L F E) (hg : Tabs w) {ta tb : ByteArray} {ps qs : List Nat} {ra rb : List UInt8} {X Y : List Int} (ha : Spelt L F ta ps ra X) (hb : Spelt L F tb qs rb Y) :
    Calls Tryz.prog 16 #[.pointer (some ⟨b, 0, none⟩), .string ta, .string tb] w fun e w' => e = .returned (.tuple #[.bool (smB ta.size tb.size ra rb X Y), .int .i64 (smE ta.size tb.size ra rb)]) ∧ Below w.heap.size w w' := by
  obtain ⟨er, her⟩ : ∃ er, er = smE ta.size tb.size ra rb := ⟨_, rfl⟩
  obtain ⟨eb, heb⟩ : ∃ eb, eb = smB ta.size tb.size ra rb X Y := ⟨_, rfl⟩
  rw [← her, ← heb]
  have HER : Hid (er = smE ta.size tb.size ra rb) := her
  have HEB : Hid (eb = smB ta.size tb.size ra rb X Y) := heb
  have HT : Hid (TbAt w b bd T L F E) := h
  have HG : Hid (Tabs w) := hg
  have HA : Hid (Spelt L F ta ps ra X) := ha
  have HB : Hid (Spelt L F tb qs rb Y) := hb
  clear her heb h hg ha hb
  have hl1 := isLong_any ta w
  have hl2 := isLong_any tb w
  go_enter Tryz.func16, Tryz.ntmps16
  go_wp2_with fail
  refine hl1.mono ?_
  rintro _ w1 ⟨rfl, rfl⟩
  clear hl1
  by_cases h1 : 65536 < ta.size
  · have e1 : er = 2 := by rw [HER.out]; unfold smE; rw [if_pos (.inl h1)]
    have e2 : eb = false := by rw [HEB.out]; unfold smB smE; rw [if_pos (.inl h1)]; rfl
    subst e1 e2
    rw [decide_eq_true h1]
    clear hl2 h1
    go_wp2_with fail
    go_ret2
    exact ⟨rfl, Below.refl _ _⟩
  rw [decide_eq_false h1]
  go_wp2_with fail
  refine hl2.mono ?_
  rintro _ w1 ⟨rfl, rfl⟩
  clear hl2
  by_cases h2 : 65536 < tb.size
  · have e1 : er = 2 := by rw [HER.out]; unfold smE; rw [if_pos (.inr h2)]
    have e2 : eb = false := by rw [HEB.out]; unfold smB smE; rw [if_pos (.inr h2)]; rfl
    subst e1 e2
    rw [decide_eq_true h2]
    clear h1 h2
    go_wp2_with fail
    go_ret2
    exact ⟨rfl, Below.refl _ _⟩
  rw [decide_eq_false h2]
  have hn : ¬ (65536 < ta.size ∨ 65536 < tb.size) := by omega
  have HE3 : Hid (er = if ra = [] ∧ rb = [] then 0 else 30) := by show _ = _; rw [HER.out]; unfold smE; rw [if_neg hn]
  have HE4 : Hid (eb = (decide (er = 0) && decide (X = Y))) := by show _ = _; rw [HEB.out, HER.out]; rfl
  have hc := points_any ta (by omega) ps ra HA.out.split HA.out.pts HA.out.rest w HG.out
  have HZ : Hid (ta.size ≤ 65536 ∧ tb.size ≤ 65536) := ⟨by omega, by omega⟩
  clear HER HEB hn h1 h2
  go_wp2_with fail
  refine hc.mono ?_
  clear hc
  rintro e w1 ⟨⟨hr0, v1, rfl, hown1⟩ | ⟨hr0, rfl⟩, hb1⟩
  · obtain ⟨a1, c1, rfl⟩ := hown1.val
    have HN1 : Hid (Numb w1 a1 (ps.map fun p : Nat => (p : Int)).length c1 (ps.map fun p : Nat => (p : Int))) := ⟨hown1.ints, rfl, pts_in HA.out.pts, by have := HA.out.len; have := HZ.out.1; rw [List.length_map]; omega⟩
    have hc := points_any tb (by have := HZ.out.2; omega) qs rb HB.out.split HB.out.pts HB.out.rest w1 (HG.out.own hb1)
    obtain ⟨pn, hpn⟩ : ∃ pn, (ps.map fun p : Nat => (p : Int)).length = pn := ⟨_, rfl⟩
    rw [hpn] at HN1
    rw [hpn]
    have HB1 : Hid (Below w.heap.size w w1) := hb1
    have HR0 : Hid (ra = []) := hr0
    clear hown1 hb1 hpn hr0
    go_wp2_with fail
    refine hc.mono ?_
    clear hc
    rintro e w2 ⟨⟨hr1, v2, rfl, hown2⟩ | ⟨hr1, rfl⟩, hb2⟩
    · obtain ⟨a2, c2, rfl⟩ := hown2.val
      have HB2 : Hid (Below w.heap.size w w2) := HB1.out.trans (hb2.mono HB1.out.size)
      have ht2 := HT.out.below HB2.out
      obtain ⟨tm, htm⟩ := ht2.load
      have hz := HZ.out
      have hla := HA.out.len
      have hlb := HB.out.len
      have hxa := HA.out.xlen ht2.data
      have hxb := HB.out.xlen ht2.data
      have hn2 : Numb w2 a2 (qs.map fun p : Nat => (p : Int)).length c2 (qs.map fun p : Nat => (p : Int)) := ⟨hown2.ints, rfl, pts_in HB.out.pts, by rw [List.length_map]; omega⟩
      have hc := same_load htm ht2.data (HN1.out.below hb2) hn2 HA.out.form.form (by omega) HB.out.form.form (by omega)
      have q0 : w2.cell? ⟨b, 0, none⟩ = some (.pointer (some ⟨bd, 0, none⟩)) := ht2.blk.cell 0
      have e1 : er = 0 := by rw [HE3.out, if_pos ⟨HR0.out, hr1⟩]
      have e2 : eb = decide (X = Y) := by rw [HE4.out, e1]; simp
      rw [← e2] at hc
      subst e1
      obtain ⟨qn, hqn⟩ : ∃ qn, (qs.map fun p : Nat => (p : Int)).length = qn := ⟨_, rfl⟩
      rw [hqn] at hc ⊢
      clear hn2 hown2 ht2 hla hlb hxa hxb hz htm hb2 hqn hr1 e2 HE3 HE4 HN1 HB1
      go_wp2_with fail
      refine hc.mono ?_
      clear hc q0
      rintro _ w3 ⟨rfl, hb3⟩
      go_wp2_with fail
      go_ret2
      exact ⟨rfl, HB2.out.trans (hb3.mono HB2.out.size)⟩
    · have e1 : er = 30 := by rw [HE3.out, if_neg (fun h => hr1 h.2)]
      have e2 : eb = false := by rw [HE4.out, e1]; simp
      subst e1 e2
      clear HE3 HE4
      go_wp2_with fail
      go_ret2
      exact ⟨rfl, HB1.out.trans (hb2.mono HB1.out.size)⟩
  · have e1 : er = 30 := by rw [HE3.out, if_neg (fun h => hr0 h.1)]
    have e2 : eb = false := by rw [HE4.out, e1]; simp
    subst e1 e2
    clear HE3 HE4
    go_wp2_with fail
    go_ret2
    exact ⟨rfl, hb1⟩
end Go.Proofs.YtfhpgmlfgjfknaaGreatDoor
