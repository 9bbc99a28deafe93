/- What dovetailref04.Data's whole does of what is no syllable (a contract; nothing is claimed here). -/
import Derived.Test.YtadbkkakjekopaaDoorJ6
namespace Go.Proofs.YtadbkkakjekopaaDoor
open Go.RowKit Go.Vf Go.Maps

/-- A list grew: nothing else did, and it lies where it lay, or in new memory. -/
structure Grew (w : World) (v : Value) (w' : World) (v' : Value) : Prop where
  by_ : w.grownBy w' v.ownBlock
  at_ : v'.ownBlock = v.ownBlock ∨ ∃ g, v'.ownBlock = some g ∧ w.heap.size ≤ g
theorem Grew.refl (w : World) (v : Value) : Grew w v w v := ⟨⟨rfl, rfl, rfl, Nat.le_refl _, fun _ _ _ => rfl⟩, .inl rfl⟩
theorem Grew.trans {w w1 w2 : World} {v v1 v2 : Value} (h : Grew w v w1 v1) (k : Grew w1 v1 w2 v2) : Grew w v w2 v2 := by
  refine ⟨⟨k.by_.os.trans h.by_.os, k.by_.tape.trans h.by_.tape, k.by_.output.trans h.by_.output, Nat.le_trans h.by_.size k.by_.size, fun j hj hne => ?_⟩, ?_⟩
  · refine (k.by_.block j (Nat.lt_of_lt_of_le hj h.by_.size) ?_).trans (h.by_.block j hj hne)
    rcases h.at_ with e | ⟨g, e, hg⟩
    · rw [e]; exact hne
    · rw [e]; intro e2; cases e2; omega
  · rcases k.at_ with e | ⟨g, e, hg⟩
    · rw [e]; exact h.at_
    · exact .inr ⟨g, e, Nat.le_trans h.by_.size hg⟩
theorem Grew.of_below {w w' : World} (v : Value) (h : Below w.heap.size w w') : Grew w v w' v := ⟨⟨h.os, h.tape, h.output, h.size, fun j hj _ => h.block j hj⟩, .inl rfl⟩
theorem Grew.below {w w' : World} {v v' : Value} {base : Nat} (h : Grew w v w' v') (hb : base ≤ w.heap.size) (hv : ∀ j, v.ownBlock = some j → base ≤ j) : Below base w w' := (Below.refl base w).grown h.by_ hb hv

theorem Ints.back {n₀ n : Nat} {A B : World} (h : Below n A B) (hn : n₀ ≤ n) {v : Value} {zs : List Int} : Ints n₀ B v zs → Ints n₀ A v zs
  | .inl e => .inl e
  | .inr ⟨b, off, cap, e, hb, hc⟩ => .inr ⟨b, off, cap, e, hb, fun j hj => (h.cell (p := ⟨b, off + j, none⟩) (show b < n by omega)).symm.trans (hc j hj)⟩
theorem foldl_grows (G : Int → List Int) (lim k : Nat) : ∀ (l : List Int) (o : List Int), o.length ≤ (l.foldl (fun o q => whF G lim k o q) o).length := by
  intro l
  induction l with
  | nil => intro o; exact Nat.le_refl _
  | cons a r ih => intro o; rw [List.foldl_cons]; exact Nat.le_trans (whF_grows G lim k o a) (ih _)
theorem field36_2 (a b c : Value) (w : World) : (Instr.field 61 (.agg #[a, b, c]) 2).run Tryd.prog w = .ok c w := by kernel_rfl
theorem field36_1 (a b c : Value) (w : World) : (Instr.field 61 (.agg #[a, b, c]) 1).run Tryd.prog w = .ok b w := by kernel_rfl
def WholePost (base : Nat) (v : Value) (res : List Int) (w : World) (e : Ending) (w' : World) : Prop := ∃ a n c, e = .returned (.slice a n c) ∧ IOwn w' base (.slice a n c) res ∧ Grew w v w' (.slice a n c)

/-- What is said of one call. -/
def WholeSays (l : List PM) (da : Option Addr) (dn dc n₀ lim k : Nat) (p : Int) : Prop := ∀ (out : List Int) (v : Value) (base : Nat) (w : World), (whF (partsP l) lim k out p).length ≤ 1000000 → n₀ ≤ base → base ≤ w.heap.size → MIn n₀ w (.slice da dn dc) l → IOwn w base v out →
  Calls Tryd.prog 31 #[.agg #[.slice da dn dc], v, .int .i64 p, .int .i64 (lim : Int)] w fun e w' => WholePost base v (whF (partsP l) lim k out p) w e w'

set_option maxHeartbeats 4000000 in
set_option maxRecDepth 20000 in
theorem whole_step (l : List PM) (hrise : (l.map PM.point).Pairwise (· < ·)) (hll : l.length ≤ 1048576) (hpl : ∀ p, (partsP l p).length ≤ 131072) (da : Option Addr) (dn dc n₀ lim : Nat) (_hlim : lim ≤ 1073741824) (k : Nat) (p : Int) (hsy : isSyl p = false) (hdep' : ∀ q ∈ partsP l p, WholeSays l da dn dc n₀ lim k q) : WholeSays l da dn dc n₀ lim (k + 1) p := by
  intro out v base w hlen hn₀ hbase hin hown
  obtain ⟨av, cv, rfl⟩ := hown.val
  have hb0 := (Below.refl w.heap.size w).alloc (Nat.le_refl _) (.cells #[.slice da dn dc] 29)
  have hbn := Blk.new w 29 #[.slice da dn dc]
  have hgr := Nat.le_trans (whF_grows (partsP l) lim (k + 1) out p) hlen
  by_cases hlong : lim < out.length
  · have HR : Hid (whF (partsP l) lim (k + 1) out p = out) := whF_stop _ _ _ _ _ hlong
    have hown0 : IOwn (w.alloc (.cells #[.slice da dn dc] 29)) base (.slice av out.length cv) out := World.ownsRow.alloc hown _
    go_enter Tryd.func31, Tryd.ntmps31
    go_wp2_with fail
    go_ret
    exact ⟨_, _, _, rfl, by rw [HR.out]; exact hown0, Grew.of_below _ hb0⟩
  · have hS := syllable_any p (w.alloc (.cells #[.slice da dn dc] 29))
    rw [hsy] at hS
    have hM := refMark_any l hrise hll (.slice da dn dc) p n₀ (w.alloc (.cells #[.slice da dn dc] 29)) (by simp; omega) (hin.below hb0 (by omega))
    have HR : Hid (whF (partsP l) lim (k + 1) out p = if partsP l p = [] then out ++ [p] else (partsP l p).foldl (fun o q => whF (partsP l) lim k o q) out) := by
      show _ = _
      rw [whF, if_neg hlong]
    obtain ⟨R, hR⟩ : ∃ R, whF (partsP l) lim (k + 1) out p = R := ⟨_, rfl⟩
    rw [hR] at HR hlen ⊢
    clear hR
    have hown0 : IOwn (w.alloc (.cells #[.slice da dn dc] 29)) base (.slice av out.length cv) out := World.ownsRow.alloc hown _
    have e0 : (w.alloc (.cells #[.slice da dn dc] 29)).cell? ⟨w.heap.size, 0, none⟩ = some (.slice da dn dc) := hbn.cell 0
    go_enter Tryd.func31, Tryd.ntmps31
    go_wp2_with fail
    refine hS.mono ?_
    rintro e w1 ⟨rfl, rfl⟩
    go_wp2_with fail
    refine hM.mono ?_
    rintro e w2 ⟨hb2, pa, pk, pc, rfl, hpi⟩
    have hfd := field36_2 (.int .i64 p) (.int .i64 (clsP l p)) (.slice pa pk pc) w2
    have hb02 : Below w.heap.size w w2 := hb0.trans (hb2.mono hb0.size)
    have hown2 : IOwn w2 base (.slice av out.length cv) out := own_after hown0 hb2
    have hbn2 := hbn.below hb2 hbn.lt
    have hin2 := hin.below hb02 (by omega)
    have hpk : pk = (partsP l p).length := by obtain ⟨_, _, e⟩ := hpi.val; cases e; rfl
    have HPK : Hid (pk = (partsP l p).length) := hpk
    have hpl' := hpl p
    have hpkl : pk ≤ 131072 := by omega
    clear hpk hS hM hown0 e0 hbn hb0 hb2
    generalize partsP l p = ps at hpi hdep' HR HPK
    have hs2 : base ≤ w2.heap.size := Nat.le_trans hbase hb02.size
    by_cases h0 : pk = 0
    · have hps : ps = [] := List.eq_nil_of_length_eq_zero (by rw [← HPK.out]; exact h0)
      have HR2 : Hid (R = out ++ [p]) := by show _ = _; rw [HR.out, if_pos hps]
      have hpk0 : ((pk : Int) == 0) = true := by simp [h0]
      have hown2' : IOwn (w2.alloc (.cells #[.int .i64 p] 3)) base (.slice av out.length cv) out := World.ownsRow.alloc hown2 _
      have HN2 : Hid (∀ i, i < ([p] : List Int).length → (w2.alloc (.cells #[.int .i64 p] 3)).cell? ((⟨w2.heap.size, 0, none⟩ : Addr).add i) = some (.int .i64 (([p] : List Int)[i]?.getD 0))) := fun i hi => by
        have : i = 0 := by simp at hi; omega
        subst this
        exact (Blk.new w2 3 #[.int .i64 p]).cell 0
      have hsum : out.length + ([p] : List Int).length ≤ 1099511627776 := by simp; omega
      have hsz2 : base ≤ (w2.alloc (.cells #[.int .i64 p] 3)).heap.size := by simp; omega
      clear h0
      go_wp2_with (first | (at_builtin; refine wpList_append_ints rfl _ _ rfl base _ out rfl hown2' [p] ⟨w2.heap.size, 0, none⟩ _ rfl HN2.out hsum hsz2 ?_; intro a7 c7 w7 hown7 hgr7 hnil7 hat7))
      go_ret
      refine ⟨a7, _, c7, rfl, by rw [HR2.out]; exact hown7, (Grew.of_below _ (hb02.alloc hb02.size _)).trans ⟨hgr7, ?_⟩⟩
      rcases hat7 with e | e
      · exact .inl e
      · exact .inr ⟨_, e, Nat.le_refl _⟩
    · have hps : ps ≠ [] := fun e => h0 (by rw [HPK.out, e]; rfl)
      have HR2 : Hid (R = ps.foldl (fun o q => whF (partsP l) lim k o q) out) := by show _ = _; rw [HR.out, if_neg hps]
      have hpk0 : ((pk : Int) == 0) = false := by simp [h0]
      have HBW : Hid (w.heap.size < w2.heap.size) := hbn2.lt
      clear HR
      go_wp2_with fail
      go_loopw [1, 11] (fun x i wr => ∃ (j : Nat) (o : List Int) (oa : Option Addr) (oc : Nat), j ≤ pk ∧ i = .int .i64 j ∧ x = .slice oa o.length oc ∧ IOwn wr base (.slice oa o.length oc) o ∧ Hid (R = (ps.drop j).foldl (fun o q => whF (partsP l) lim k o q) o) ∧ Grew w (.slice av out.length cv) wr (.slice oa o.length oc) ∧ Blk wr w.heap.size 29 #[.slice da dn dc] ∧ base ≤ wr.heap.size) (fun _ i _ => pk - (intOf i).toNat)
      case atStart => exact ⟨0, out, av, cv, by omega, rfl, rfl, hown2, by simpa using HR2, Grew.of_below _ hb02, hbn2, hs2⟩
      case round =>
        obtain ⟨j, o, oa, oc, hj, rfl, rfl, hownr, HJ, hgrew, hbox, hszr⟩ := hrel
        have hbelr : Below base w wr := hgrew.below hbase (fun i hi => (own_ge hown hi).1)
        by_cases hlt : j < pk
        · have hltp : j < ps.length := by rw [← HPK.out]; exact hlt
          have hpr : Ints n₀ wr (.slice pa pk pc) ps := (hpi.back hb02 (by omega)).below hbelr hn₀
          obtain ⟨b, off, hao, hnk, hblt, hcell⟩ := hpr.cell hps
          subst hao
          have hcj := hcell j hltp
          rw [show ps[j]?.getD 0 = ps[j] by simp [List.getElem?_eq_getElem hltp]] at hcj
          have hd : ps.drop j = ps[j] :: ps.drop (j + 1) := List.drop_eq_getElem_cons hltp
          have HJ2 : Hid (R = (ps.drop (j + 1)).foldl (fun o q => whF (partsP l) lim k o q) (whF (partsP l) lim k o ps[j])) := by
            show _ = _
            rw [HJ.out, hd, List.foldl_cons]
          have hqd := hdep' _ (List.getElem_mem hltp)
          generalize ps[j] = q at hcj HJ2 hqd
          have hql : (whF (partsP l) lim k o q).length ≤ 1000000 := by
            have := foldl_grows (partsP l) lim k (ps.drop (j + 1)) (whF (partsP l) lim k o q)
            rw [← HJ2.out] at this
            omega
          have HIH : Hid (Calls Tryd.prog 31 #[.agg #[.slice da dn dc], .slice oa o.length oc, .int .i64 q, .int .i64 (lim : Int)] wr.drew fun e w' => WholePost base (.slice oa o.length oc) (whF (partsP l) lim k o q) wr.drew e w') := hqd o (.slice oa o.length oc) base wr.drew hql hn₀ hszr ((hin.below hbelr hn₀).below ((Below.refl base wr).drew) hn₀) hownr
          have s0 : wr.drew.cell? ⟨w.heap.size, 0, none⟩ = some (.slice da dn dc) ∧ wr.drew.cell? ⟨b, off + j, none⟩ = some (.int .i64 q) := ⟨hbox.cell 0, hcj⟩
          have hbb : b < base := by omega
          have HKX : Hid (∀ (x : World) (v' : Value), Grew wr.drew (.slice oa o.length oc) x v' → Blk x w.heap.size 29 #[.slice da dn dc] ∧ x.cell? ⟨b, off + j, none⟩ = some (.int .i64 q)) := fun x v' hx => ⟨(hx.by_.block w.heap.size hbox.lt (own_ne_blk hownr hbox (by decide))).trans hbox, ((hx.below (base := base) hszr (fun i hi => (own_ge hownr hi).1)).cell (p := ⟨b, off + j, none⟩) hbb).trans hcj⟩
          have hgd : Grew wr (.slice oa o.length oc) wr.drew (.slice oa o.length oc) := Grew.of_below _ ((Below.refl _ wr).drew)
          clear hcell hnk hpr hd HJ hcj
          go_upto_region 16 with fail
          go_region_held (fun x => x.cell? ⟨w.heap.size, 0, none⟩ = some (.slice da dn dc) ∧ x.cell? ⟨b, off + j, none⟩ = some (.int .i64 q)) (first | exact s0 | assumption | exact ⟨hbox8.cell 0, hcell8⟩) ((go_at_call 31; refine HIH.out.mono ?_; rintro e w8 ⟨a8, n8, c8, rfl, hown8, hg8⟩; obtain ⟨hbox8, hcell8⟩ := HKX.out w8 _ hg8))
          have hs8 : base ≤ w8.heap.size := Nat.le_trans hszr hg8.by_.size
          have HG8 : Hid (Grew w (.slice av out.length cv) w8 (.slice a8 n8 c8)) := (hgrew.trans hgd).trans hg8
          have HO8 : Hid (IOwn w8 base (.slice a8 n8 c8) (whF (partsP l) lim k o q)) := hown8
          have HB8 : Hid (Blk w8 w.heap.size 29 #[.slice da dn dc]) := hbox8
          clear hg8 hown8 hbox8 hcell8 HKX HIH s0
          go_wp2_with fail
          go_roundw
          case rel =>
            have hn8 : n8 = (whF (partsP l) lim k o q).length := by obtain ⟨_, _, e⟩ := HO8.out.val; cases e; rfl
            subst hn8
            exact ⟨j + 1, whF (partsP l) lim k o q, a8, c8, by omega, by go_num, rfl, HO8.out, HJ2, HG8.out, HB8.out, hs8⟩
          case measure => simp only [intOf]; omega
        · have HE : Hid (R = o) := by
            show _ = _
            rw [HJ.out, List.drop_of_length_le (by rw [← HPK.out]; omega)]
            rfl
          go_wp2_with fail
          go_ret
          exact ⟨_, _, _, rfl, by rw [HE.out]; exact hownr, hgrew⟩

theorem refWhole_any (l : List PM) (hrise : (l.map PM.point).Pairwise (· < ·)) (hll : l.length ≤ 1048576) (hns : ∀ p, ∀ q ∈ partsP l p, isSyl q = false) (hpl : ∀ p, (partsP l p).length ≤ 131072) (da : Option Addr) (dn dc n₀ lim : Nat) (hlim : lim ≤ 1073741824) :
    ∀ (k : Nat) (p : Int), isSyl p = false → Dep (partsP l) k p → WholeSays l da dn dc n₀ lim k p := by
  intro k
  induction k with
  | zero =>
    intro p hsy hd
    have h1 := whole_step l hrise hll hpl da dn dc n₀ lim hlim 0 p hsy (fun q hq => by rw [show partsP l p = [] from hd] at hq; simp at hq)
    intro out v base w
    have e : whF (partsP l) lim 1 out p = whF (partsP l) lim 0 out p := by simp [whF, show partsP l p = [] from hd]
    have h2 := h1 out v base w
    rwa [e] at h2
  | succ k ih =>
    intro p hsy hd
    exact whole_step l hrise hll hpl da dn dc n₀ lim hlim k p hsy (fun q hq => ih q (hns p q hq) (hd q hq))

end Go.Proofs.YtadbkkakjekopaaDoor
