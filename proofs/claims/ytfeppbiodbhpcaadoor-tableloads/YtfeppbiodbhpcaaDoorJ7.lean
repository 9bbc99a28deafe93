/- Contracts and lemmas (nothing is claimed here). -/
import Derived.Test.YtfeppbiodbhpcaaDoorTLd
import Derived.Test.YtfeppbiodbhpcaaDoorJ5
import Derived.Test.YtfeppbiodbhpcaaDoorImpW
namespace Go.Proofs.YtfeppbiodbhpcaaDoor
open Go.RowKit Go.Vf Go.Maps

theorem findT_mem {E : List Ent} (hnd : (E.map Prod.fst).Nodup) {x : Ent} (h : x ∈ E) : findT E x.1 = some x.2 := by
  induction E with
  | nil => cases h
  | cons a r ih =>
    rw [List.map_cons, List.nodup_cons] at hnd
    unfold findT
    rw [List.find?_cons]
    rcases List.mem_cons.1 h with rfl | h
    · simp
    · have hne : a.1 ≠ x.1 := fun e => hnd.1 (by rw [e]; exact List.mem_map_of_mem h)
      have hb : (a.1 == x.1) = false := by simpa using hne
      rw [hb]
      exact ih hnd.2 h
theorem findT_none {E : List Ent} {p : List Int} (h : ∀ x ∈ E, x.1 ≠ p) : findT E p = none := by
  unfold findT
  rw [Option.map_eq_none_iff, List.find?_eq_none]
  intro x hx
  simpa using h x hx
theorem findT_perm {l E : List Ent} (hp : l.Perm E) (hnd : (E.map Prod.fst).Nodup) (p : List Int) : findT l p = findT E p := by
  by_cases h : ∃ x ∈ E, x.1 = p
  · obtain ⟨x, hx, rfl⟩ := h
    rw [findT_mem hnd hx, findT_mem ((hp.map Prod.fst).nodup_iff.2 hnd) (hp.mem_iff.2 hx)]
  · have h2 : ∀ x ∈ E, x.1 ≠ p := fun x hx e => h ⟨x, hx, e⟩
    rw [findT_none h2, findT_none fun x hx => h2 x (hp.mem_iff.1 hx)]
theorem longT_perm {l E : List Ent} (hp : l.Perm E) (x : Int) : longT l x = longT E x := by
  induction hp with
  | nil => rfl
  | cons a _ ih => simp only [longT, ih]
  | swap a b r =>
    simp only [longT]
    split <;> split <;> first | rfl | omega
  | trans _ _ h1 h2 => exact h1.trans h2
theorem riseF_nodup {l : List Ent} (h : RiseF l) : (l.map Prod.fst).Nodup := List.Pairwise.imp (fun {a b} hab e => by rw [e, aheadL_self] at hab; omega) h
theorem riseF_rise {l : List Ent} (h : RiseF l) : RiseE l := List.pairwise_map.1 h
/-- What the document's Find tells. -/
def RFindPost (n₀ : Nat) (r : Option (List El)) (w : World) (e : Ending) (w' : World) : Prop :=
  Below w.heap.size w w' ∧ match r with
    | none => e = .returned (.tuple #[.slice none 0 0, .bool false])
    | some l => ∃ v, e = .returned (.tuple #[v, .bool true]) ∧ Els n₀ w' v l
theorem results33_run {tmps : Array Value} {w : World} {a b : Value} (t2 : tmps[4]?.getD undef = a) (t3 : tmps[5]?.getD undef = b) : (results Tryd.f33 tmps).run Tryd.prog w = .ok (.tuple #[a, b]) w := by
  simp [results, Tryd.results33, go_sem, t2, t3]
set_option maxHeartbeats 4000000 in
set_option maxRecDepth 20000 in
theorem refFindE_any (l : List Ent) (hrise : RiseF l) (hll : l.length ≤ 1048576) (hls : ∀ e ∈ l, e.1.length ≤ 1048576) (v pv : Value) (p : List Int) (hpl : p.length ≤ 4611686018427387904) (n₀ : Nat) (w : World) (hn₀ : n₀ ≤ w.heap.size) (hin : NIn n₀ w v l) (hp : Ints n₀ w pv p) :
    Calls Tryd.prog 33 #[.agg #[v], pv] w fun e w' => RFindPost n₀ (findT l p) w e w' := by
  obtain ⟨a, cap, rfl⟩ := hin.val
  have hb0 := (Below.refl w.heap.size w).alloc (Nat.le_refl _) (.cells #[.slice a l.length cap] 29)
  have hbn := Blk.new w 29 #[.slice a l.length cap]
  have HIN : Hid (NIn n₀ w (.slice a l.length cap) l) := hin
  obtain ⟨R, hR⟩ : ∃ R, R = findT l p := ⟨_, rfl⟩
  have HR : Hid (R = findT l p) := hR
  rw [← hR]
  have hsz : (w.alloc (.cells #[.slice a l.length cap] 29)).heap.size = w.heap.size + 1 := by simp
  have hc := refPlaceE_any l hrise hll hls (.slice a l.length cap) pv p hpl n₀ (w.alloc (.cells #[.slice a l.length cap] 29)) (by omega) (hin.below hb0 hn₀) (hp.below hb0 hn₀)
  have HRI : Hid (RiseF l) := hrise
  clear hR hsz hin hp hrise hls
  go_enter Tryd.func33, Tryd.ntmps33
  go_upto_region 1 with fail
  generalize w.alloc (.cells #[.slice a l.length cap] 29) = W at hb0 hbn hc ⊢
  have e0 : W.cell? ⟨w.heap.size, 0, none⟩ = some (.slice a l.length cap) := hbn.cell 0
  go_wp2_with fail
  refine hc.mono ?_
  clear hc e0
  rintro e w1 ⟨k, b, hpl, rfl, hb, hbw⟩
  have HBW : Hid (Below w.heap.size w w1) := hb0.trans (hbw.mono hb0.size)
  rcases hb with ⟨rfl, hk, he⟩ | ⟨rfl, hno⟩
  · have hr : R = some (l[k]).2 := by rw [HR.out, ← he]; exact findT_mem (riseF_nodup HRI.out) (List.getElem_mem hk)
    obtain ⟨ab, off, ea, hlt, hcx⟩ : ∃ ab off, a = some ⟨ab, off, none⟩ ∧ ab < n₀ ∧ ∃ ev, w.cell? ⟨ab, off + k * 2 + 1, none⟩ = some ev ∧ Els n₀ w ev (l[k]).2 := by
      rcases HIN.out with ⟨_, _, _, e⟩ | ⟨ab, off, c, e, hb, hc⟩
      · subst e; exact absurd hk (by simp)
      · obtain ⟨pv, ev, _, _, h3, h4⟩ := hc k hk
        exact ⟨ab, off, (Value.slice.inj e).1, hb, ev, h3, h4⟩
    obtain ⟨ev, h3, h4⟩ := hcx
    subst ea hr
    have q0 : w1.cell? ⟨w.heap.size, 0, none⟩ = some (.slice (some ⟨ab, off, none⟩) l.length cap) := (hbw.cell (p := ⟨w.heap.size, 0, none⟩) hbn.lt).trans (hbn.cell 0)
    have q1 : w1.cell? ⟨ab, off + k * 2 + 1, none⟩ = some ev := (HBW.out.cell (p := ⟨ab, _, none⟩) (show ab < w.heap.size by omega)).trans h3
    have HE : Hid (Els n₀ w1 ev (l[k]).2) := h4.below HBW.out hn₀
    obtain ⟨ln, hln⟩ : ∃ ln, l.length = ln := ⟨_, rfl⟩
    obtain ⟨va, vc, rfl⟩ := h4.val
    generalize (l[k]).2.length = m at q1 HE
    have hkn : k < ln := by omega
    rw [hln] at q0
    clear h3 h4 HR HIN HRI hpl hbn hb0 hbw he
    go_wp2
    refine bodyPost_ret (results33_run rfl rfl) rfl ?_
    exact ⟨HBW.out, _, rfl, HE.out⟩
  · have hr : R = none := by
      rw [HR.out]
      refine findT_none fun x hx => ?_
      obtain ⟨i, hi, rfl⟩ := List.mem_iff_getElem.1 hx
      exact hno i hi
    subst hr
    clear HR HIN HRI hpl hno
    go_wp2
    refine bodyPost_ret (results33_run rfl rfl) rfl ?_
    exact ⟨HBW.out, rfl⟩
set_option maxHeartbeats 4000000 in
set_option maxRecDepth 20000 in
theorem refLongest_any (l : List Ent) (hok : ∀ e ∈ l, EntOk e) (hll : l.length ≤ 1048576) (v : Value) (x : Int) (n₀ : Nat) (w : World) (hn₀ : n₀ ≤ w.heap.size) (hin : NIn n₀ w v l) :
    Calls Tryd.prog 13 #[.agg #[v], .int .i64 x] w fun e w' => e = .returned (.int .i64 (longT l x : Int)) ∧ Below w.heap.size w w' := by
  obtain ⟨a, cap, rfl⟩ := hin.val
  have hb0 := (Below.refl w.heap.size w).alloc (Nat.le_refl _) (.cells #[.slice a l.length cap] 29)
  have hbn := Blk.new w 29 #[.slice a l.length cap]
  have HIN : Hid (NIn n₀ w (.slice a l.length cap) l) := hin
  have HOK : Hid (∀ e ∈ l, EntOk e) := hok
  obtain ⟨ln, hln⟩ : ∃ ln, l.length = ln := ⟨_, rfl⟩
  have HLN : Hid (l.length = ln) := hln
  rw [hln] at hll hb0 hbn ⊢
  clear hin hok hln
  go_enter Tryd.func13, Tryd.ntmps13
  go_upto_region 1 with fail
  generalize w.alloc (.cells #[.slice a ln cap] 29) = W at hb0 hbn ⊢
  have e0 : W.cell? ⟨w.heap.size, 0, none⟩ = some (.slice a ln cap) := hbn.cell 0
  go_wp2
  go_loopw [5, 6] (fun m i wr => ∃ (k s : Nat), k ≤ ln ∧ i = .int .i64 (k : Int) ∧ m = .int .i64 (s : Int) ∧ s ≤ 8 ∧ Hid (s = longT (l.take k) x) ∧ wr = W) (fun _ i _ => ln - (intOf i).toNat)
  case atStart => exact ⟨0, 0, Nat.zero_le _, rfl, rfl, by omega, by show _ = _; simp [longT], rfl⟩
  case round =>
    obtain ⟨k, s, hk, rfl, rfl, hs8, HS, rfl⟩ := hrel
    by_cases hlt : k < ln
    · have hkl : k < l.length := by rw [HLN.out]; exact hlt
      have tl : decide ((k : Int) < (ln : Int)) = true := decide_eq_true (by omega)
      have hok := HOK.out _ (List.getElem_mem hkl)
      obtain ⟨ab, off, ea, hlt2, pv, hpv, hip⟩ : ∃ ab off, a = some ⟨ab, off, none⟩ ∧ ab < n₀ ∧ ∃ pv, w.cell? ⟨ab, off + k * 2, none⟩ = some pv ∧ Ints n₀ w pv (l[k]).1 := by
        rcases HIN.out with ⟨_, _, _, e⟩ | ⟨ab, off, c, e, hb, hc⟩
        · subst e; exact absurd hkl (by simp)
        · obtain ⟨pv, ev, h1, h2, _, _⟩ := hc k hkl
          exact ⟨ab, off, (Value.slice.inj e).1, hb, pv, h1, h2⟩
      subst ea
      obtain ⟨h1, h8⟩ := rowB_lenE hok.row
      have htk : longT (l.take (k + 1)) x = if (l[k]).1.head? = some x then max (longT (l.take k) x) (l[k]).1.length else longT (l.take k) x := by
        rw [List.take_succ_eq_append_getElem hkl, longT_snoc]
      obtain ⟨p, hp⟩ : ∃ p, p = (l[k]).1 := ⟨_, rfl⟩
      rw [← hp] at hip h1 h8 htk
      clear hp hok
      obtain ⟨z, r, rfl⟩ : ∃ z r, p = z :: r := by
        cases p with
        | nil => simp at h1
        | cons z r => exact ⟨z, r, rfl⟩
      rcases hip with ⟨_, _, _, e⟩ | ⟨pb, po, pc, rfl, hpb, hpc⟩
      · cases e
      have c0 : wr.cell? ⟨ab, off + k * 2, none⟩ = some (.slice (some ⟨pb, po, none⟩) (z :: r).length pc) := (hb0.cell (p := ⟨ab, _, none⟩) (show ab < w.heap.size by omega)).trans hpv
      have c1 : wr.cell? ⟨pb, po, none⟩ = some (.int .i64 z) := (hb0.cell (p := ⟨pb, po, none⟩) (show pb < w.heap.size by omega)).trans (by simp)
      obtain ⟨m, hm⟩ : ∃ m, (z :: r).length = m := ⟨_, rfl⟩
      rw [hm] at c0 h8 htk
      have hm1 : 1 ≤ m := by rw [← hm]; simp
      simp only [List.head?_cons, Option.some.injEq] at htk
      clear hpv hpc hm h1
      by_cases hz : z = x
      · have tz : (z == x) = true := by simpa using hz
        have HS2 : Hid (((max s m : Nat)) = longT (l.take (k + 1)) x) := by
          show _ = _
          rw [htk, if_pos hz, HS.out]
        have hmx : max (s : Int) (m : Int) = ((max s m : Nat) : Int) := by omega
        have hms : max s m ≤ 8 := by omega
        clear HS htk hz
        generalize max s m = s2 at HS2 hmx hms
        go_wp2
        go_roundw
        case rel => exact ⟨k + 1, s2, by omega, by simp, by rfl, hms, HS2, trivial⟩
        case measure => simp only [intOf]; omega
      · have tz : (z == x) = false := by simpa using hz
        have HS2 : Hid (s = longT (l.take (k + 1)) x) := by
          show _ = _
          rw [htk, if_neg hz, HS.out]
        clear HS htk hz
        go_wp2
        go_roundw
        case rel => exact ⟨k + 1, s, by omega, by simp, by rfl, hs8, HS2, trivial⟩
        case measure => simp only [intOf]; omega
    · obtain rfl : k = ln := by omega
      have tl : decide ((k : Int) < (k : Int)) = false := decide_eq_false (by omega)
      have hsl : s = longT l x := by rw [HS.out, List.take_of_length_le (by rw [HLN.out]; exact Nat.le_refl _)]
      subst hsl
      clear HS HIN HOK
      go_wp2
      go_ret
      exact ⟨rfl, hb0⟩
end Go.Proofs.YtfeppbiodbhpcaaDoor

namespace Go.Proofs.YtfeppbiodbhpcaaDoor
open Go.RowKit Go.Vf

theorem drop_getD (l : List Int) (k : Nat) (h : k < l.length) : l.drop k = (l[k]?.getD 0) :: l.drop (k + 1) := by
  rw [List.drop_eq_getElem_cons h, List.getElem?_eq_getElem h]; rfl

set_option maxHeartbeats 2000000 in
set_option maxRecDepth 20000 in
theorem sameInts_any (va vb : Value) (za zb : List Int) (n₁ n₂ : Nat) (w : World) (ha : Ints n₁ w va za) (hb : Ints n₂ w vb zb) (hla : za.length ≤ 4611686018427387904) (_hlb : zb.length ≤ 4611686018427387904) :
    Calls Tryd.prog 35 #[va, vb] w fun e w' => e = .returned (.bool (decide (za = zb))) ∧ Below w.heap.size w w' := by
  obtain ⟨R, HR⟩ : ∃ R, Hid (R = decide (za = zb)) := ⟨_, rfl⟩
  rw [← HR.out]
  by_cases hl : za.length = zb.length
  · rcases Nat.eq_zero_or_pos za.length with h0 | h0
    · obtain ⟨x, c, rfl⟩ := ints_val ha
      obtain ⟨y, d, rfl⟩ := ints_val hb
      have hb0 : zb.length = 0 := by omega
      have hR : R = true := by rw [HR.out, List.eq_nil_of_length_eq_zero h0, List.eq_nil_of_length_eq_zero hb0]; rfl
      rw [h0, hb0]
      clear ha hb h0 hb0 hl hla
      go_enter Tryd.func35, Tryd.ntmps35
      go_wp2
      go_loopw [5] (fun i wr => i = .int .i64 0 ∧ wr = w) (fun _ _ => 0)
      case atStart => exact ⟨rfl, rfl⟩
      case round =>
        obtain ⟨rfl, rfl⟩ := hrel
        go_wp2
        go_ret
        exact ⟨by rw [hR]; rfl, Below.refl _ _⟩
    · rcases ha with ⟨_, _, _, h⟩ | ⟨b1, o1, c1, rfl, hb1, hc1⟩
      · rw [h] at h0; simp at h0
      rcases hb with ⟨_, _, _, h⟩ | ⟨b2, o2, c2, rfl, hb2, hc2⟩
      · rw [hl, h] at h0; simp at h0
      rw [← hl]
      rw [← hl] at hc2
      obtain ⟨L, hL⟩ : ∃ L, L = za.length := ⟨_, rfl⟩
      have HL : Hid (L = za.length ∧ L = zb.length) := ⟨hL, by rw [hL]; exact hl⟩
      rw [← hL] at hc1 hc2 hla h0 ⊢
      clear hl hL
      go_enter Tryd.func35, Tryd.ntmps35
      go_wp2
      go_loopw [5] (fun i wr => ∃ k : Nat, k ≤ L ∧ i = .int .i64 k ∧ Hid (R = decide (za.drop k = zb.drop k)) ∧ Below w.heap.size w wr ∧ (∀ a, wr.cell? a = w.cell? a)) (fun i _ => L - (intOf i).toNat)
      case atStart => exact ⟨0, Nat.zero_le _, rfl, HR, Below.refl _ _, fun _ => rfl⟩
      case round =>
        obtain ⟨k, hk, rfl, HK, hbel, hsame⟩ := hrel
        by_cases hlt : k < L
        · have x1 := (hsame _).trans (hc1 k hlt)
          have x2 := (hsame _).trans (hc2 k hlt)
          have hK := HK.out
          rw [drop_getD za k (by rw [← HL.out.1]; exact hlt), drop_getD zb k (by rw [← HL.out.2]; exact hlt)] at hK
          obtain ⟨p, hp⟩ : ∃ p, p = za[k]?.getD 0 := ⟨_, rfl⟩
          obtain ⟨q, hq⟩ : ∃ q, q = zb[k]?.getD 0 := ⟨_, rfl⟩
          rw [← hp] at x1 hK
          rw [← hq] at x2 hK
          have HS : Hid (∀ a, wr.cell? a = w.cell? a) := hsame
          clear hp hq HK hc1 hc2 hsame
          by_cases hpq : p = q
          · have HK2 : Hid (R = decide (za.drop (k + 1) = zb.drop (k + 1))) := by show _ = _; rw [hK, hpq]; simp
            have t1 : (p == q) = true := by simpa using hpq
            have t2 : (p != q) = false := by simpa using hpq
            clear hK hpq
            go_wp2
            go_region
            go_wp2
            go_roundw
            case rel => exact ⟨k + 1, by omega, by go_num, HK2, hbel.drew, HS.out⟩
            case measure => simp [intOf]; omega
          · have hR : R = false := by rw [hK]; simp [hpq]
            have t1 : (p == q) = false := by simpa using hpq
            have t2 : (p != q) = true := by simpa using hpq
            clear hK hpq
            go_wp2
            go_region
            go_wp2
            go_ret
            exact ⟨by first | (rw [hR]; rfl) | rfl, hbel.drew⟩
        · obtain rfl : k = L := by omega
          have hR : R = true := by
            rw [HK.out, List.drop_eq_nil_of_le (by rw [← HL.out.1]; exact Nat.le_refl _), List.drop_eq_nil_of_le (by rw [← HL.out.2]; exact Nat.le_refl _)]; rfl
          clear HK
          go_wp2
          go_ret
          exact ⟨by first | (rw [hR]; rfl) | rfl, hbel⟩
  · obtain ⟨x, c, rfl⟩ := ints_val ha
    obtain ⟨y, d, rfl⟩ := ints_val hb
    have hR : R = false := by rw [HR.out]; simp; intro h; exact hl (by rw [h])
    clear ha hb
    go_enter Tryd.func35, Tryd.ntmps35
    go_wp2
    go_ret
    exact ⟨by rw [hR]; rfl, Below.refl _ _⟩

end Go.Proofs.YtfeppbiodbhpcaaDoor

namespace Go.Proofs.YtfeppbiodbhpcaaDoor
open Go.RowKit Go.Vf Go.Maps

theorem FindPost.one {w w' : World} {R : Option (List El)} {e : Ending} (h : FindPost w R e w') : Below w.heap.size w w' ∧ ∃ a c, e = .returned (.tuple #[.slice a (R.getD []).length c, .bool R.isSome]) ∧ EOwn w' w.heap.size (.slice a (R.getD []).length c) (R.getD []) := by
  obtain ⟨hb, h⟩ := h
  refine ⟨hb, ?_⟩
  cases R with
  | none => exact ⟨none, 0, h, EOwn.nil _ _⟩
  | some l =>
    obtain ⟨a, n, c, he, ho⟩ := h
    obtain ⟨a', c', e2⟩ := row_val ho
    cases e2
    exact ⟨a, c, he, ho⟩
theorem RFindPost.one {n₀ : Nat} {w w' : World} {R : Option (List El)} {e : Ending} (h : RFindPost n₀ R w e w') : Below w.heap.size w w' ∧ ∃ v, e = .returned (.tuple #[v, .bool R.isSome]) ∧ Els n₀ w' v (R.getD []) := by
  obtain ⟨hb, h⟩ := h
  refine ⟨hb, ?_⟩
  cases R with
  | none => exact ⟨_, h, .inl ⟨none, 0, rfl, rfl⟩⟩
  | some l =>
    obtain ⟨v, he, ho⟩ := h
    exact ⟨v, he, ho⟩
/-- The program's table and the document's, of the same entries. -/
structure Both (w : World) (n₀ T : Nat) (a : Option Addr) (c : Nat) (l E : List Ent) : Prop where
  tab : ∃ me ml val, TabAt w T me ml val E
  doc : NIn n₀ w (.slice a l.length c) l
  rise : RiseF l
  perm : l.Perm E
  ok : ∀ e ∈ E, EntOk e
  few : E.length ≤ 4096
theorem Both.below {w w' : World} {n₀ T : Nat} {a : Option Addr} {c : Nat} {l E : List Ent} (h : Both w n₀ T a c l E) (hb : Below w.heap.size w w') (hn₀ : n₀ ≤ w.heap.size) : Both w' n₀ T a c l E := by
  obtain ⟨me, ml, val, ht⟩ := h.tab
  exact ⟨⟨me, ml, val, ht.below hb⟩, h.doc.below hb hn₀, h.rise, h.perm, h.ok, h.few⟩
theorem Both.nodup {w : World} {n₀ T : Nat} {a : Option Addr} {c : Nat} {l E : List Ent} (h : Both w n₀ T a c l E) : (E.map Prod.fst).Nodup := (h.perm.map Prod.fst).nodup_iff.1 (riseF_nodup h.rise)
theorem find_few {E : List Ent} (h : ∀ e ∈ E, EntOk e) (p : List Int) : ((findT E p).getD []).length ≤ 16 := by
  unfold findT
  cases hf : E.find? (fun e => e.1 == p) with
  | none => simp
  | some e => simpa using (h e (List.mem_of_find?_eq_some hf)).n1
set_option maxHeartbeats 8000000 in
set_option maxRecDepth 20000 in
theorem finds_any (T : Nat) (a : Option Addr) (c n₀ : Nat) (l E : List Ent) (pv : Value) (zs : List Int) (hzl : zs.length ≤ 17592186044416) (w : World) (hn₀ : n₀ ≤ w.heap.size) (hB : Both w n₀ T a c l E) (hp : Ints n₀ w pv zs) :
    Calls Tryd.prog 11 #[.pointer (some ⟨T, 0, none⟩), .agg #[.slice a l.length c], pv] w fun e w' => e = .returned (.bool true) ∧ Below w.heap.size w w' := by
  obtain ⟨pa, pc, rfl⟩ := ints_val hp
  have hb0 := (Below.refl w.heap.size w).alloc (Nat.le_refl _) (.cells #[.slice a l.length c] 29)
  have hbn := Blk.new w 29 #[.slice a l.length c]
  have HP : Hid (∀ x, Below w.heap.size w x → Ints n₀ x (.slice pa zs.length pc) zs) := fun x hx => hp.below hx hn₀
  have hll : l.length ≤ 4096 := by rw [hB.perm.length_eq]; exact hB.few
  have hls : ∀ e ∈ l, e.1.length ≤ 1048576 := fun e he => by
    have := (rowB_lenE (hB.ok e (hB.perm.mem_iff.1 he)).row).2
    omega
  obtain ⟨es, hes⟩ : ∃ es, es = (findT E zs).getD [] := ⟨_, rfl⟩
  obtain ⟨bo, hbo⟩ : ∃ bo, bo = (findT E zs).isSome := ⟨_, rfl⟩
  have he16 : es.length ≤ 16 := by rw [hes]; exact find_few hB.ok zs
  have hR : findT l zs = findT E zs := findT_perm hB.perm hB.nodup zs
  have HRF : Hid (∀ x, Below w.heap.size w x → Calls Tryd.prog 33 #[.agg #[.slice a l.length c], .slice pa zs.length pc] x fun e w' => Below x.heap.size x w' ∧ ∃ v, e = .returned (.tuple #[v, .bool bo]) ∧ Els n₀ w' v es) := fun x hx => by
    have h := refFindE_any l hB.rise (by omega) hls (.slice a l.length c) (.slice pa zs.length pc) zs (by omega) n₀ x (Nat.le_trans hn₀ hx.size) (hB.doc.below hx hn₀) (hp.below hx hn₀)
    refine h.mono fun e w' h => ?_
    rw [hR] at h
    rw [hes, hbo]
    exact h.one
  have HF : Hid (∀ (x : World) (q : Option Addr) (qc : Nat), Below w.heap.size w x → Ints x.heap.size x (.slice q zs.length qc) zs → Calls Tryd.prog 23 #[.pointer (some ⟨T, 0, none⟩), .slice q zs.length qc] x fun e w' => Below x.heap.size x w' ∧ ∃ a c, e = .returned (.tuple #[.slice a es.length c, .bool bo]) ∧ EOwn w' x.heap.size (.slice a es.length c) es) := fun x q qc hx hi => by
    obtain ⟨me, ml, val, ht⟩ := (hB.below hx hn₀).tab
    have h := find_any T me ml x.heap.size val E (.slice q zs.length qc) zs x ht (Nat.le_refl _) hi (by omega)
    refine h.mono fun e w' h => ?_
    rw [hes, hbo]
    exact h.one
  have HSI : Hid (∀ (x : World) (q : Option Addr) (qc : Nat), Below w.heap.size w x → Ints x.heap.size x (.slice q zs.length qc) zs → Calls Tryd.prog 35 #[.slice q zs.length qc, .slice pa zs.length pc] x fun e w' => e = .returned (.bool true) ∧ Below x.heap.size x w') := fun x q qc hx hi => by
    have h := sameInts_any (.slice q zs.length qc) (.slice pa zs.length pc) zs zs x.heap.size n₀ x hi (hp.below hx hn₀) (by omega) (by omega)
    rw [decide_eq_true (rfl : zs = zs)] at h
    exact h
  have HCP : Hid (∀ x, Below w.heap.size w x → Calls Tryd.prog 34 #[.slice pa zs.length pc] x fun e w' => ∃ v', e = .returned v' ∧ IOwn w' x.heap.size v' zs ∧ Below x.heap.size x w') := fun x hx => intsCopy_any (.slice pa zs.length pc) zs hzl n₀ x (Nat.le_trans hn₀ hx.size) (hp.below hx hn₀)
  have HSE : Hid (∀ (x : World) (n₁ n₂ : Nat) (va vb : Value), Els n₁ x va es → Els n₂ x vb es → Calls Tryd.prog 21 #[va, vb] x fun e w' => e = .returned (.bool true) ∧ Below x.heap.size x w') := fun x n₁ n₂ va vb h1 h2 => by
    have h := sameEls_any va vb es es n₁ n₂ x h1 h2 (by omega) (by omega)
    rw [decide_eq_true (rfl : es = es)] at h
    exact h
  obtain ⟨zn, hzn⟩ : ∃ zn, zs.length = zn := ⟨_, rfl⟩
  obtain ⟨ln, hln⟩ : ∃ ln, l.length = ln := ⟨_, rfl⟩
  obtain ⟨en, hen⟩ : ∃ en, es.length = en := ⟨_, rfl⟩
  have HZN : Hid (zs.length = zn) := hzn
  have HEN : Hid (es.length = en) := hen
  rw [hzn] at HP HRF HF HSI HCP hzl ⊢
  rw [hln] at HRF hb0 hbn ⊢
  rw [hen] at HF he16
  clear hes hbo hR hll hls hp hB hzn hln hen
  go_enter Tryd.func11, Tryd.ntmps11
  go_upto_region 1 with fail
  generalize w.alloc (.cells #[.slice a ln c] 29) = W at hb0 hbn ⊢
  have e0 : W.cell? ⟨w.heap.size, 0, none⟩ = some (.slice a ln c) := hbn.cell 0
  have HW : Hid (Below w.heap.size w W) := hb0
  have hc := HRF.out W hb0
  clear hb0
  go_wp2_with fail
  refine hc.mono ?_
  clear hc e0
  rintro _ w1 ⟨hb1, wv, rfl, hwv⟩
  have HB1 : Hid (Below w.heap.size w w1) := HW.out.trans (hb1.mono HW.out.size)
  have HWV : Hid (∀ x, Below w.heap.size w1 x → Els n₀ x wv es) := fun x hx => hwv.below hx hn₀
  have hc := HCP.out w1 HB1.out
  clear hb1 hwv HCP HRF
  go_wp2_with fail
  refine hc.mono ?_
  clear hc
  rintro _ w2 ⟨v2, rfl, ho2, hb2⟩
  obtain ⟨oa, oc, rfl⟩ := ho2.val
  rw [HZN.out] at ho2 ⊢
  have HB2 : Hid (Below w.heap.size w w2) := HB1.out.trans (hb2.mono HB1.out.size)
  have HI2 : Hid (∀ x, Below w2.heap.size w2 x → Ints x.heap.size x (.slice oa zn oc) zs) := fun x hx => (ho2.ints.below hx (Nat.le_refl _)).mono hx.size
  have H12 : Hid (Below w.heap.size w1 w2) := hb2.mono HB1.out.size
  have hc := HF.out w2 oa oc HB2.out (HI2.out w2 (Below.refl _ _))
  clear ho2 hb2
  go_wp2_with fail
  refine hc.mono ?_
  clear hc
  rintro _ w3 ⟨hb3, a3, c3, rfl, ho3⟩
  have HX3 : Hid (Below w2.heap.size w2 w3) := hb3
  have HB3 : Hid (Below w.heap.size w w3) := HB2.out.trans (hb3.mono HB2.out.size)
  have HO3 : Hid (EOwn w3 w2.heap.size (.slice a3 en c3) es) := ho3
  have hc := HF.out w3 oa oc HB3.out (HI2.out w3 hb3)
  clear hb3 ho3
  go_wp2_with fail
  refine hc.mono ?_
  clear hc
  rintro _ w4 ⟨hb4, a4, c4, rfl, ho4⟩
  have HX4 : Hid (Below w2.heap.size w2 w4) := HX3.out.trans (hb4.mono HX3.out.size)
  have HB4 : Hid (Below w.heap.size w w4) := HB2.out.trans (HX4.out.mono HB2.out.size)
  have HO4 : Hid (EOwn w4 w3.heap.size (.slice a4 en c4) es) := ho4
  have HO34 : Hid (EOwn w4 w2.heap.size (.slice a3 en c3) es) := own_after HO3.out hb4
  have HL3 : Hid (∀ g, (Value.slice a3 en c3).ownBlock = some g → g < w3.heap.size) := fun g hg => own_lt HO3.out g hg
  have hc := HSE.out w4 w4.heap.size n₀ (.slice a3 en c3) wv HO34.out.els (HWV.out w4 (H12.out.trans (HX4.out.mono HB2.out.size)))
  clear hb4 ho4 HO3
  go_wp2_with fail
  refine hc.mono ?_
  clear hc
  rintro _ w5 ⟨rfl, hb5⟩
  have HX5 : Hid (Below w2.heap.size w2 w5) := HX4.out.trans (hb5.mono HX4.out.size)
  have HB5 : Hid (Below w.heap.size w w5) := HB2.out.trans (HX5.out.mono HB2.out.size)
  have HO5 : Hid (EOwn w5 w3.heap.size (.slice a4 en c4) es) := own_after HO4.out hb5
  have ho35 : EOwn w5 w2.heap.size (.slice a3 en c3) es := own_after HO34.out hb5
  have hxo := xown ho35
  rw [HEN.out] at hxo
  have hc := written_any w2.heap.size (.slice a3 en c3) en w5 (by omega) HX5.out.size hxo
  have HG : Hid (∀ x, w5.grownBy x (Value.slice a3 en c3).ownBlock → Below w2.heap.size w2 x ∧ EOwn x w3.heap.size (.slice a4 en c4) es) := fun x hx => by
    refine ⟨HX5.out.grown hx HX5.out.size (fun k hk => (own_ge ho35 hk).1), own_grown HO5.out hx (fun g h1 h2 => ?_)⟩
    have h3 := HL3.out g h1
    have h4 := (own_ge HO5.out h2).1
    omega
  clear hb5 ho35 hxo HO4 HO34 HO5
  go_wp2_with fail
  refine hc.mono ?_
  clear hc
  rintro _ w6 ⟨rfl, hg6⟩
  obtain ⟨hx6, ho6⟩ := HG.out w6 hg6
  have HX6 : Hid (Below w2.heap.size w2 w6) := hx6
  have HB6 : Hid (Below w.heap.size w w6) := HB2.out.trans (hx6.mono HB2.out.size)
  have HO6 : Hid (EOwn w6 w3.heap.size (.slice a4 en c4) es) := ho6
  have hc := HF.out w6 oa oc HB6.out (HI2.out w6 hx6)
  clear hg6 hx6 ho6 HG HX5 HB5
  go_wp2_with fail
  refine hc.mono ?_
  clear hc
  rintro _ w7 ⟨hb7, a7, c7, rfl, ho7⟩
  have HX7 : Hid (Below w2.heap.size w2 w7) := HX6.out.trans (hb7.mono HX6.out.size)
  have HB7 : Hid (Below w.heap.size w w7) := HB2.out.trans (HX7.out.mono HB2.out.size)
  have HO7 : Hid (EOwn w7 w3.heap.size (.slice a4 en c4) es) := own_after HO6.out hb7
  have HT7 : Hid (EOwn w7 w6.heap.size (.slice a7 en c7) es) := ho7
  have tb : (bo == bo) = true := by simp
  have hc := HSE.out w7 w7.heap.size n₀ (.slice a4 en c4) wv HO7.out.els (HWV.out w7 (H12.out.trans (HX7.out.mono HB2.out.size)))
  clear hb7 ho7 HO6 HX6 HB6
  go_wp2_with fail
  refine hc.mono ?_
  clear hc
  rintro _ w8 ⟨rfl, hb8⟩
  have HX8 : Hid (Below w2.heap.size w2 w8) := HX7.out.trans (hb8.mono HX7.out.size)
  have HB8 : Hid (Below w.heap.size w w8) := HB2.out.trans (HX8.out.mono HB2.out.size)
  have HT8 : Hid (EOwn w8 w6.heap.size (.slice a7 en c7) es) := own_after HT7.out hb8
  have hc := HSE.out w8 w8.heap.size n₀ (.slice a7 en c7) wv HT8.out.els (HWV.out w8 (H12.out.trans (HX8.out.mono HB2.out.size)))
  clear hb8 HT7 HO7 HX7 HB7
  go_wp2_with fail
  refine hc.mono ?_
  clear hc
  rintro _ w9 ⟨rfl, hb9⟩
  have HX9 : Hid (Below w2.heap.size w2 w9) := HX8.out.trans (hb9.mono HX8.out.size)
  have HB9 : Hid (Below w.heap.size w w9) := HB2.out.trans (HX9.out.mono HB2.out.size)
  have hc := HSI.out w9 oa oc HB9.out (HI2.out w9 HX9.out)
  clear hb9 HX8 HB8 HT8
  go_wp2_with fail
  refine hc.mono ?_
  clear hc
  rintro _ wA ⟨rfl, hbA⟩
  go_wp2_with fail
  go_ret
  exact ⟨rfl, HB9.out.trans (hbA.mono HB9.out.size)⟩
end Go.Proofs.YtfeppbiodbhpcaaDoor
