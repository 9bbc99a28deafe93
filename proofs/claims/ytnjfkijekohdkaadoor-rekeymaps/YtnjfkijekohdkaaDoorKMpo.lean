/- rekey.Map and the document's Map together, of any sources and any part; a row of sources that is written over (contracts; nothing is claimed here). -/
import Derived.Test.YtnjfkijekohdkaaDoorJ1
import Derived.Test.YtnjfkijekohdkaaDoorKTub
import Derived.Test.YtnjfkijekohdkaaDoorKLsb
import Derived.Test.YtnjfkijekohdkaaDoorKSke
import Derived.Test.YtnjfkijekohdkaaDoorKVeq
namespace Go.Proofs.YtnjfkijekohdkaaDoor
open Go.RowKit Go.Vf

/-- The sources, or the part, are wrong: what is told of it. -/
def OcBad (l : List (Int × Prt)) (p : Prt) (c m k : Int) : Prop :=
  (p.kind ≠ 7 ∧ c = 4 ∧ m = 0 ∧ k = 0) ∨
  (∃ its, p = tupP its ∧ its.length ≤ 1024 ∧ (∀ x ∈ its, Good x) ∧
    ((1024 < l.length ∧ c = 180 ∧ m = 1024 ∧ k = 0) ∨
     (l.length ≤ 1024 ∧ ∃ (k0 : Nat) (qs : List Prt), ∃ hk : k0 < l.length, ∃ hq : qs.length = k0, (∀ j (hj : j < k0), srcR its (l[j]'(by omega)) = some (qs[j]'(by omega))) ∧ srcR its l[k0] = none ∧ c = 180 ∧ m = (k0 : Int) ∧ k = whyAt l k0)))
/-- They are right: the items. -/
def OcGood (l : List (Int × Prt)) (p : Prt) (qs : List Prt) : Prop :=
  ∃ its, p = tupP its ∧ its.length ≤ 1024 ∧ (∀ x ∈ its, Good x) ∧ l.length ≤ 1024 ∧ ∃ hq : qs.length = l.length, ∀ j (hj : j < l.length), srcR its l[j] = some (qs[j]'(by omega))
theorem oc_any (l : List (Int × Prt)) (p : Prt) (hf : Fits p) (hm : may p = true) (hd : deeper 16 p = false) : (∃ c m k : Int, c ≠ 0 ∧ OcBad l p c m k) ∨ ∃ qs, OcGood l p qs := by
  by_cases hk : p.kind = 7
  · obtain ⟨its, e, hil, hg⟩ := tup_good hf hm hd hk
    by_cases hl : l.length ≤ 1024
    · obtain ⟨k0, qs, hk0, hq, hs, he⟩ := first_bad its l
      by_cases hlt : k0 < l.length
      · exact .inl ⟨180, k0, whyAt l k0, by decide, .inr ⟨its, e, hil, hg, .inr ⟨hl, k0, qs, hlt, hq, hs, he hlt, rfl, rfl, rfl⟩⟩⟩
      · obtain rfl : k0 = l.length := by omega
        exact .inr ⟨qs, its, e, hil, hg, hl, hq, hs⟩
    · exact .inl ⟨180, 1024, 0, by decide, .inr ⟨its, e, hil, hg, .inl ⟨by omega, rfl, rfl, rfl⟩⟩⟩
  · exact .inl ⟨4, 0, 0, by decide, .inl ⟨hk, rfl, rfl, rfl⟩⟩
theorem OcGood.items {l : List (Int × Prt)} {p : Prt} {qs : List Prt} (h : OcGood l p qs) (hfit : ∀ s ∈ l, Fits s.2) : ∀ x ∈ qs, Good x := by
  obtain ⟨its, _, _, hg, _, hq, hs⟩ := h
  intro x hx
  obtain ⟨j, hj, rfl⟩ := List.mem_iff_getElem.1 hx
  have hj' : j < l.length := by rw [← hq]; exact hj
  exact src_good hg (hfit _ (List.getElem_mem hj')) (hs j hj')
theorem OcGood.len {l : List (Int × Prt)} {p : Prt} {qs : List Prt} (h : OcGood l p qs) : qs.length ≤ 1024 := by
  obtain ⟨its, _, _, _, hl, hq, _⟩ := h
  omega
theorem rmap_bad {l : List (Int × Prt)} {p : Prt} {c m k : Int} (h : OcBad l p c m k) (hfit : ∀ s ∈ l, Fits s.2) (a ap : Option Addr) (cl cp lo n₀ : Nat) (w : World) (hn₀ : n₀ ≤ w.heap.size) (hin : SrIn w lo n₀ a l) (hp : PIn w lo n₀ p ap) :
    Calls Tryd.prog 11 #[.slice a l.length cl, .agg #[.int .u8 p.kind, .bool p.yes, .bool p.neg, .string p.mag, .string p.raw, .slice ap p.items.length cp]] w fun e w' => Below w.heap.size w w' ∧ e = .returned (.tuple #[.agg #[.int .u8 0, .bool false, .bool false, .string ⟨#[]⟩, .string ⟨#[]⟩, .slice none 0 0], .agg #[.int .i64 c, .int .i64 m, .slice none 0 0], .int .i64 k]) := by
  rcases h with ⟨hk, rfl, rfl, rfl⟩ | ⟨its, rfl, hil, hg, ⟨hl, rfl, rfl, rfl⟩ | ⟨hl, k0, qs, hk0, hq, hs, he, rfl, rfl, rfl⟩⟩
  · exact rmap_kind p a l.length cl ap p.items.length cp w hk
  · exact rmap_many (tupP its) a l.length cl ap _ cp w rfl hl
  · refine (rmap_any l its qs hl k0 (Nat.le_of_lt hk0) hq hs (fun _ => he) hfit (fun x hx => (hg x hx).may) hil a ap cl cp lo n₀ w hn₀ hin hp).mono ?_
    rintro e w' ⟨hb, ⟨h1, _⟩ | ⟨_, h2⟩⟩
    · exact absurd h1 (by omega)
    · exact ⟨hb, h2⟩
theorem rmap_good {l : List (Int × Prt)} {p : Prt} {qs : List Prt} (h : OcGood l p qs) (hfit : ∀ s ∈ l, Fits s.2) (a ap : Option Addr) (cl cp lo n₀ : Nat) (w : World) (hn₀ : n₀ ≤ w.heap.size) (hin : SrIn w lo n₀ a l) (hp : PIn w lo n₀ p ap) :
    Calls Tryd.prog 11 #[.slice a l.length cl, .agg #[.int .u8 p.kind, .bool p.yes, .bool p.neg, .string p.mag, .string p.raw, .slice ap p.items.length cp]] w fun e w' => Below w.heap.size w w' ∧ ∃ a c, e = .returned (.tuple #[.agg #[.int .u8 7, .bool false, .bool false, .string ⟨#[]⟩, .string ⟨#[]⟩, .slice a qs.length c], .agg #[.int .i64 0, .int .i64 0, .slice none 0 0], .int .i64 0]) ∧ PIn w' w.heap.size w'.heap.size (tupP qs) a := by
  obtain ⟨its, rfl, hil, hg, hl, hq, hs⟩ := h
  refine (rmap_any l its qs hl l.length (Nat.le_refl _) hq hs (fun h => absurd h (by omega)) hfit (fun x hx => (hg x hx).may) hil a ap cl cp lo n₀ w hn₀ hin hp).mono ?_
  rintro e w' ⟨hb, ⟨_, a', c', h1, h2⟩ | ⟨h2, _⟩⟩
  · exact ⟨hb, a', c', by rw [hq]; exact h1, h2⟩
  · exact absurd h2 (by omega)
theorem v_bad {w : World} {lo n : Nat} {v : Value} {p : Prt} (h : VIn w lo n v p) (hk : p.kind ≠ 7) : TaBad v := by
  cases h with
  | null => exact ta_nil
  | truth y => exact ta_truth _
  | num b m => exact ta_num _
  | raw k r _ => exact ta_raw _
  | tup V _ _ _ _ _ => exact absurd rfl hk
theorem map_bad {l : List (Int × Prt)} {p : Prt} {c m k : Int} (h : OcBad l p c m k) (hl4 : l.length ≤ 4000) (hfit : ∀ s ∈ l, Fits s.2) (a : Option Addr) (cl lo n₀ vlo vn : Nat) (en : Addr) (w : World) (hE : EnvK w en) (hvn : vn ≤ n₀) (hn₀ : n₀ ≤ w.heap.size) (hin : SrIn w lo n₀ a l) (v : Value) (hv : VIn w vlo vn v p) :
    Calls Tryd.prog 12 #[.slice a l.length cl, v] w fun e w' => Below w.heap.size w w' ∧ ∃ f, e = .returned (.tuple #[.nilIface, f]) ∧ FaultK w' w.heap.size f c m (whyV k) := by
  rcases h with ⟨hk, rfl, rfl, rfl⟩ | ⟨its, rfl, hil, hg, ⟨hl, rfl, rfl, rfl⟩ | ⟨hl, k0, qs, hk0, hq, hs, he, rfl, rfl, rfl⟩⟩
  · exact (map_kind v (v_bad hv hk) l.length a cl w).mono fun e w' ⟨f, h1, h2, h3⟩ => ⟨h3, f, h1, h2⟩
  · obtain ⟨g, rfl⟩ := tup_val hv
    exact (map_many g l.length a cl w hl (by omega)).mono fun e w' ⟨f, h1, h2, h3⟩ => ⟨h3, f, h1, h2⟩
  · obtain ⟨g, rfl⟩ := tup_val hv
    refine (map_T (fun _ => True) vlo vn (fun _ _ _ => trivial) l its qs hl k0 (Nat.le_of_lt hk0) hq hs (fun _ => he) hfit (fun h => absurd h (by omega)) (by omega) g a cl lo n₀ en w hE hvn (fun _ _ => trivial) hn₀ hin hv).mono ?_
    rintro e w' ⟨hb, ⟨h1, _⟩ | ⟨_, h2⟩⟩
    · exact absurd h1 (by omega)
    · exact ⟨hb, h2⟩
theorem map_good {l : List (Int × Prt)} {p : Prt} {qs : List Prt} (h : OcGood l p qs) (hfit : ∀ s ∈ l, Fits s.2) (T : Nat → Prop) (a : Option Addr) (cl lo n₀ vlo vn : Nat) (en : Addr) (w : World) (hT1 : ∀ b, vlo ≤ b → b < vn → T b) (hT2 : ∀ b, w.heap.size ≤ b → T b) (hE : EnvK w en) (hvn : vn ≤ n₀) (hn₀ : n₀ ≤ w.heap.size) (hin : SrIn w lo n₀ a l) (v : Value) (hv : VIn w vlo vn v p) :
    Calls Tryd.prog 12 #[.slice a l.length cl, v] w fun e w' => Below w.heap.size w w' ∧ ∃ g, e = .returned (.tuple #[.iface 83 (.pointer (some ⟨g, 0, none⟩)), .nilIface]) ∧ VAt w' (fun b => b < w'.heap.size ∧ T b) (.iface 83 (.pointer (some ⟨g, 0, none⟩))) (tupP qs) := by
  have hgi := h.items hfit
  obtain ⟨its, rfl, hil, hg, hl, hq, hs⟩ := h
  obtain ⟨g, rfl⟩ := tup_val hv
  refine (map_T T vlo vn hT1 l its qs hl l.length (Nat.le_refl _) hq hs (fun h => absurd h (by omega)) hfit (fun _ => by have := depL_good hgi; omega) (by omega) g a cl lo n₀ en w hE hvn hT2 hn₀ hin hv).mono ?_
  rintro e w' ⟨hb, ⟨_, h1⟩ | ⟨h2, _⟩⟩
  · exact ⟨hb, h1⟩
  · exact absurd h2 (by omega)
/-- A row of lent sources is one that Map can read. -/
theorem SofS.srin {w : World} {h0 cap : Nat} {l : List (Int × Prt)} {A : Nat → Option Addr} {C P : Nat → Nat} (h : SofS w h0 l.length l cap A C P) : SrIn w 0 w.heap.size (some ⟨h0, 0, none⟩) l := by
  intro j hj
  obtain ⟨r0, r1, r2, r3, r4, r5, r6⟩ := h.row j hj hj
  have ht := h.top
  have hm := h.mono (j + 1) l.length hj (Nat.le_refl _)
  refine ⟨h0, 0, A j, C j, rfl, h.len.lt, ?_, ?_, ?_, ?_, ?_, ?_, ?_, (h.lin j hj hj).win.pin.mono (by omega) (Nat.zero_le _)⟩ <;> rw [Nat.zero_add] <;> assumption
/-- The sources of a row from the j-th on are there, each part's own rows apart. -/
structure SofR (w : World) (h0 j : Nat) (l : List (Int × Prt)) (cap : Nat) (A : Nat → Option Addr) (C P : Nat → Nat) : Prop where
  len : Len w h0 52 (cap * 7)
  p0 : h0 < P 0
  mono : ∀ i k, i ≤ k → k ≤ l.length → P i ≤ P k
  top : P l.length ≤ w.heap.size
  row : ∀ i (hi : i < l.length), j ≤ i → Row7 w h0 (i * 7) l[i] (A i) (C i)
  lin : ∀ i (hi : i < l.length), j ≤ i → LIn w (P i) (P (i + 1)) l[i].2 (A i) (C i)
theorem SofS.rest {w : World} {h0 cap : Nat} {l : List (Int × Prt)} {A : Nat → Option Addr} {C P : Nat → Nat} (h : SofS w h0 l.length l cap A C P) : SofR w h0 0 l cap A C P :=
  ⟨h.len, h.p0, h.mono, h.top, fun i hi _ => h.row i hi hi, fun i hi _ => h.lin i hi hi⟩
/-- A block that stays as it was. -/
theorem Len.same {w w' : World} {b n : Nat} {t : TypeId} (h : Len w b t n) (e : w'.heap[b]? = w.heap[b]?) : Len w' b t n := by
  obtain ⟨cs, h1, h2⟩ := h
  exact ⟨cs, e.trans h1, h2⟩
/-- One source has been written over. -/
theorem SofR.step {w w' : World} {h0 j cap : Nat} {l : List (Int × Prt)} {A : Nat → Option Addr} {C P : Nat → Nat} (h : SofR w h0 j l cap A C P) (hj : j < l.length) (hw : Wrt (P j) (P (j + 1)) w w') (v : Value) :
    SofR (w'.setCell ⟨h0, j * 7, none⟩ v) h0 (j + 1) l cap A C P ∧ Wrt h0 (P l.length) w (w'.setCell ⟨h0, j * 7, none⟩ v) := by
  have hp0 := h.p0
  have hpj := h.mono 0 j (Nat.zero_le _) (Nat.le_of_lt hj)
  have hpl := h.mono (j + 1) l.length hj (Nat.le_refl _)
  have hpj1 := h.mono j (j + 1) (Nat.le_succ _) hj
  have htop := h.top
  have hsz := hw.below.size
  have hL := h.len.lt
  have e0 : w'.heap[h0]? = w.heap[h0]? := hw.below.block h0 (by omega)
  have hl' : Len w' h0 52 (cap * 7) := h.len.same e0
  have r : ∀ b, b ≠ h0 → (w'.setCell ⟨h0, j * 7, none⟩ v).heap[b]? = w'.heap[b]? := fun b hb => Below.heap_setCell w' ⟨h0, j * 7, none⟩ v b hb
  refine ⟨⟨hl'.set _ _, hp0, h.mono, ?_, fun i hi hij => ?_, fun i hi hij => ?_⟩, ⟨(hw.below.mono (show h0 ≤ P j by omega)).setCell (p := ⟨h0, j * 7, none⟩) (Nat.le_refl _) _, fun k h1 h2 => ?_⟩⟩
  · rw [set_sizeC']; omega
  · obtain ⟨r0, r1, r2, r3, r4, r5, r6⟩ := h.row i hi (by omega)
    have q : ∀ k, k ≤ 6 → (w'.setCell ⟨h0, j * 7, none⟩ v).cell? ⟨h0, i * 7 + k, none⟩ = w.cell? ⟨h0, i * 7 + k, none⟩ := fun k hk => (hl'.ne _ _ _ (by omega)).trans (cell_block e0 _)
    exact ⟨(q 0 (by omega)).trans r0, (q 1 (by omega)).trans r1, (q 2 (by omega)).trans r2, (q 3 (by omega)).trans r3, (q 4 (by omega)).trans r4, (q 5 (by omega)).trans r5, (q 6 (by omega)).trans r6⟩
  · have h1 := h.mono (j + 1) i hij (Nat.le_of_lt hi)
    have h2 := h.mono (i + 1) l.length hi (Nat.le_refl _)
    exact (h.lin i hi (by omega)).keep fun b q1 q2 => (r b (by omega)).trans (hw.above b (by omega) (by omega))
  · exact (r k (by omega)).trans (hw.above k (by omega) h2)
/-- What may be has few items: it can be written over. -/
theorem write_may : ∀ p : Prt, may p = true → WriteOk p := by
  intro p
  induction p using Prt.ind with
  | h k y n m r l ih =>
    intro h
    rw [may_eq] at h
    simp only [Bool.and_eq_true] at h
    have hlen : l.length ≤ 33554432 := by
      have h2 := h.1.2
      have h1 := h.1.1
      by_cases hk : k = 7
      · subst hk
        simp [own2, Prt.kind, Prt.items] at h2
        exact Nat.le_trans (of_decide_eq_true h2) (by decide)
      · have h4 : (k == 7) = false := beq_eq_false_iff_ne.2 hk
        simp only [own1, Prt.kind, Prt.items, Bool.and_eq_true, h4, Bool.false_or, beq_iff_eq] at h1
        omega
    refine write_step k y n m r l hlen fun x hx => ih x hx ?_
    exact List.all_eq_true.1 h.2 x hx
theorem wt_w1 : ∀ p : Prt, wt p ≤ 16 * w1 p := by
  intro p
  induction p using Prt.ind with
  | h k y n m r l ih =>
    rw [wt_eq, w1_eq]
    have : wtL l ≤ 16 * w1L l := by
      clear m r
      induction l with
      | nil => simp [wtL, w1L]
      | cons a r ih2 =>
        have h1 := ih a (by simp)
        have h2 := ih2 fun x hx => ih x (by simp [hx])
        simp only [wtL, w1L]
        omega
    simp only [Prt.raw, Prt.mag, Prt.items]
    omega
end Go.Proofs.YtnjfkijekohdkaaDoor
