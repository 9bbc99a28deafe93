/- Contracts and lemmas (nothing is claimed here). -/
import Derived.Test.YtkcnjnccdafbfaaGreatDoorJ16
import Derived.Test.YtkcnjnccdafbfaaGreatDoorJ11
import Derived.Test.YtkcnjnccdafbfaaGreatDoorJ14
namespace Go.Proofs.YtkcnjnccdafbfaaGreatDoor
open Go.RowKit Go.Vf Go.Maps
structure Grew (w : World) (v : Value) (w' : World) (v' : Value) : Prop where
  by_ : w.grownBy w' v.ownBlock
  at_ : v'.ownBlock = v.ownBlock ∨ ∃ g, v'.ownBlock = some g ∧ w.heap.size ≤ g
theorem Grew.trans {w w1 w2 : World} {v v1 v2 : Value} (h : Grew w v w1 v1) (k : Grew w1 v1 w2 v2) : Grew w v w2 v2 := by
  refine ⟨⟨k.by_.os.trans h.by_.os, k.by_.tape.trans h.by_.tape, k.by_.output.trans h.by_.output, Nat.le_trans h.by_.size k.by_.size, fun j hj hne => ?_⟩, ?_⟩
  · refine (k.by_.block j (Nat.lt_of_lt_of_le hj h.by_.size) ?_).trans (h.by_.block j hj hne)
    rcases h.at_ with e | ⟨g, e, hg⟩
    · rw [e]; exact hne
    · rw [e]; intro e2; cases e2; omega
  · rcases k.at_ with e | ⟨g, e, hg⟩
    · rw [e]; exact h.at_
    · exact .inr ⟨g, e, Nat.le_trans h.by_.size hg⟩
theorem Grew.of_below {w w' : World} (v : Value) (h : Below w.heap.size w w') : Grew w v w' v := ⟨⟨h.os, h.tape, h.output, h.size, fun j hj _ => h.block j hj⟩, .inl rfl⟩
theorem Grew.below {w w' : World} {v v' : Value} {base : Nat} (h : Grew w v w' v') (hb : base ≤ w.heap.size) (hv : ∀ j, v.ownBlock = some j → base ≤ j) : Below base w w' := (Below.refl base w).grown h.by_ hb hv
theorem Ints.back {n₀ n : Nat} {A B : World} (h : Below n A B) (hn : n₀ ≤ n) {v : Value} {zs : List Int} : Ints n₀ B v zs → Ints n₀ A v zs
  | .inl e => .inl e
  | .inr ⟨b, off, cap, e, hb, hc⟩ => .inr ⟨b, off, cap, e, hb, fun j hj => (h.cell (p := ⟨b, off + j, none⟩) (show b < n by omega)).symm.trans (hc j hj)⟩
theorem foldl_grows (G : Int → List Int) (lim k : Nat) : ∀ (l : List Int) (o : List Int), o.length ≤ (l.foldl (fun o q => whF G lim k o q) o).length := by
  intro l
  induction l with
  | nil => intro o; exact Nat.le_refl _
  | cons a r ih => intro o; rw [List.foldl_cons]; exact Nat.le_trans (whF_grows G lim k o a) (ih _)
theorem field36_2 (a b c : Value) (w : World) : (Instr.field 73 (.agg #[a, b, c]) 2).run Tryz.prog w = .ok c w := by kernel_rfl
theorem field36_1 (a b c : Value) (w : World) : (Instr.field 73 (.agg #[a, b, c]) 1).run Tryz.prog w = .ok b w := by kernel_rfl
def WholePost (base : Nat) (v : Value) (res : List Int) (w : World) (e : Ending) (w' : World) : Prop := ∃ a n c, e = .returned (.slice a n c) ∧ IOwn w' base (.slice a n c) res ∧ Grew w v w' (.slice a n c)
def WholeSays (l : List PM) (da : Option Addr) (dn dc n₀ lim k : Nat) (p : Int) : Prop := ∀ (out : List Int) (v : Value) (base : Nat) (w : World), (whF (partsP l) lim k out p).length ≤ 1000000 → n₀ ≤ base → base ≤ w.heap.size → MIn n₀ w (.slice da dn dc) l → IOwn w base v out →
  Calls Tryz.prog 29 #[.agg #[.slice da dn dc], v, .int .i64 p, .int .i64 (lim : Int)] w fun e w' => WholePost base v (whF (partsP l) lim k out p) w e w'
set_option maxHeartbeats 4000000 in
set_option maxRecDepth 20000 in
theorem whole_step (l : List PM) (hrise : (l.map PM.point).Pairwise (· < ·)) (hll : l.length ≤ 1048576) (hpl : ∀ p, (partsP l p).length ≤ 131072) (da : Option Addr) (dn dc n₀ lim : Nat) (_hlim : lim ≤ 1073741824) (k : Nat) (p : Int) (hsy : isSyl p = false) (hdep' : ∀ q ∈ partsP l p, WholeSays l da dn dc n₀ lim k q) : WholeSays l da dn dc n₀ lim (k + 1) p := by
  intro out v base w hlen hn₀ hbase hin hown
  obtain ⟨av, cv, rfl⟩ := hown.val
  have hb0 := (Below.refl w.heap.size w).alloc (Nat.le_refl _) (.cells #[.slice da dn dc] 31)
  have hbn := Blk.new w 31 #[.slice da dn dc]
  have hgr := Nat.le_trans (whF_grows (partsP l) lim (k + 1) out p) hlen
  by_cases hlong : lim < out.length
  · have HR : Hid (whF (partsP l) lim (k + 1) out p = out) := whF_stop _ _ _ _ _ hlong
    have hown0 : IOwn (w.alloc (.cells #[.slice da dn dc] 31)) base (.slice av out.length cv) out := World.ownsRow.alloc hown _
    go_enter Tryz.func29, Tryz.ntmps29
    go_wp2_with fail
    go_ret
    exact ⟨_, _, _, rfl, by rw [HR.out]; exact hown0, Grew.of_below _ hb0⟩
  · have hS := syllable_any p (w.alloc (.cells #[.slice da dn dc] 31))
    rw [hsy] at hS
    have hM := refMark_any l hrise hll (.slice da dn dc) p n₀ (w.alloc (.cells #[.slice da dn dc] 31)) (by simp; omega) (hin.below hb0 (by omega))
    have HR : Hid (whF (partsP l) lim (k + 1) out p = if partsP l p = [] then out ++ [p] else (partsP l p).foldl (fun o q => whF (partsP l) lim k o q) out) := by
      show _ = _
      rw [whF, if_neg hlong]
    obtain ⟨R, hR⟩ : ∃ R, whF (partsP l) lim (k + 1) out p = R := ⟨_, rfl⟩
    rw [hR] at HR hlen ⊢
    clear hR
    have hown0 : IOwn (w.alloc (.cells #[.slice da dn dc] 31)) base (.slice av out.length cv) out := World.ownsRow.alloc hown _
    have e0 : (w.alloc (.cells #[.slice da dn dc] 31)).cell? ⟨w.heap.size, 0, none⟩ = some (.slice da dn dc) := hbn.cell 0
    go_enter Tryz.func29, Tryz.ntmps29
    go_wp2_with fail
    refine hS.mono ?_
    rintro e w1 ⟨rfl, rfl⟩
    go_wp2_with fail
    refine hM.mono ?_
    rintro e w2 ⟨hb2, pa, pk, pc, rfl, hpi⟩
    have hfd := field36_2 (.int .i64 p) (.int .i64 (clsP l p)) (.slice pa pk pc) w2
    have hb02 : Below w.heap.size w w2 := hb0.trans (hb2.mono hb0.size)
    have hown2 : IOwn w2 base (.slice av out.length cv) out := own_after hown0 hb2
    have hbn2 := hbn.below hb2 hbn.lt
    have hin2 := hin.below hb02 (by omega)
    have hpk : pk = (partsP l p).length := by obtain ⟨_, _, e⟩ := hpi.val; cases e; rfl
    have HPK : Hid (pk = (partsP l p).length) := hpk
    have hpl' := hpl p
    have hpkl : pk ≤ 131072 := by omega
    clear hpk hS hM hown0 e0 hbn hb0 hb2
    generalize partsP l p = ps at hpi hdep' HR HPK
    have hs2 : base ≤ w2.heap.size := Nat.le_trans hbase hb02.size
    by_cases h0 : pk = 0
    · have hps : ps = [] := List.eq_nil_of_length_eq_zero (by rw [← HPK.out]; exact h0)
      have HR2 : Hid (R = out ++ [p]) := by show _ = _; rw [HR.out, if_pos hps]
      have hpk0 : ((pk : Int) == 0) = true := by simp [h0]
      have hown2' : IOwn (w2.alloc (.cells #[.int .i64 p] 3)) base (.slice av out.length cv) out := World.ownsRow.alloc hown2 _
      have HN2 : Hid (∀ i, i < ([p] : List Int).length → (w2.alloc (.cells #[.int .i64 p] 3)).cell? ((⟨w2.heap.size, 0, none⟩ : Addr).add i) = some (.int .i64 (([p] : List Int)[i]?.getD 0))) := fun i hi => by
        have : i = 0 := by simp at hi; omega
        subst this
        exact (Blk.new w2 3 #[.int .i64 p]).cell 0
      have hsum : out.length + ([p] : List Int).length ≤ 1099511627776 := by simp; omega
      have hsz2 : base ≤ (w2.alloc (.cells #[.int .i64 p] 3)).heap.size := by simp; omega
      clear h0
      go_wp2_with (first | (at_builtin; refine wpList_append_ints rfl _ _ rfl base _ out rfl hown2' [p] ⟨w2.heap.size, 0, none⟩ _ rfl HN2.out hsum hsz2 ?_; intro a7 c7 w7 hown7 hgr7 hnil7 hat7))
      go_ret
      refine ⟨a7, _, c7, rfl, by rw [HR2.out]; exact hown7, (Grew.of_below _ (hb02.alloc hb02.size _)).trans ⟨hgr7, ?_⟩⟩
      rcases hat7 with e | e
      · exact .inl e
      · exact .inr ⟨_, e, Nat.le_refl _⟩
    · have hps : ps ≠ [] := fun e => h0 (by rw [HPK.out, e]; rfl)
      have HR2 : Hid (R = ps.foldl (fun o q => whF (partsP l) lim k o q) out) := by show _ = _; rw [HR.out, if_neg hps]
      have hpk0 : ((pk : Int) == 0) = false := by simp [h0]
      have HBW : Hid (w.heap.size < w2.heap.size) := hbn2.lt
      clear HR
      go_wp2_with fail
      go_loopw [1, 11] (fun x i wr => ∃ (j : Nat) (o : List Int) (oa : Option Addr) (oc : Nat), j ≤ pk ∧ i = .int .i64 j ∧ x = .slice oa o.length oc ∧ IOwn wr base (.slice oa o.length oc) o ∧ Hid (R = (ps.drop j).foldl (fun o q => whF (partsP l) lim k o q) o) ∧ Grew w (.slice av out.length cv) wr (.slice oa o.length oc) ∧ Blk wr w.heap.size 31 #[.slice da dn dc] ∧ base ≤ wr.heap.size) (fun _ i _ => pk - (intOf i).toNat)
      case atStart => exact ⟨0, out, av, cv, by omega, rfl, rfl, hown2, by simpa using HR2, Grew.of_below _ hb02, hbn2, hs2⟩
      case round =>
        obtain ⟨j, o, oa, oc, hj, rfl, rfl, hownr, HJ, hgrew, hbox, hszr⟩ := hrel
        have hbelr : Below base w wr := hgrew.below hbase (fun i hi => (own_ge hown hi).1)
        by_cases hlt : j < pk
        · have hltp : j < ps.length := by rw [← HPK.out]; exact hlt
          have hpr : Ints n₀ wr (.slice pa pk pc) ps := (hpi.back hb02 (by omega)).below hbelr hn₀
          obtain ⟨b, off, hao, hnk, hblt, hcell⟩ := hpr.cell hps
          subst hao
          have hcj := hcell j hltp
          rw [show ps[j]?.getD 0 = ps[j] by simp [List.getElem?_eq_getElem hltp]] at hcj
          have hd : ps.drop j = ps[j] :: ps.drop (j + 1) := List.drop_eq_getElem_cons hltp
          have HJ2 : Hid (R = (ps.drop (j + 1)).foldl (fun o q => whF (partsP l) lim k o q) (whF (partsP l) lim k o ps[j])) := by
            show _ = _
            rw [HJ.out, hd, List.foldl_cons]
          have hqd := hdep' _ (List.getElem_mem hltp)
          generalize ps[j] = q at hcj HJ2 hqd
          have hql : (whF (partsP l) lim k o q).length ≤ 1000000 := by
            have := foldl_grows (partsP l) lim k (ps.drop (j + 1)) (whF (partsP l) lim k o q)
            rw [← HJ2.out] at this
            omega
          have HIH : Hid (Calls Tryz.prog 29 #[.agg #[.slice da dn dc], .slice oa o.length oc, .int .i64 q, .int .i64 (lim : Int)] wr.drew fun e w' => WholePost base (.slice oa o.length oc) (whF (partsP l) lim k o q) wr.drew e w') := hqd o (.slice oa o.length oc) base wr.drew hql hn₀ hszr ((hin.below hbelr hn₀).below ((Below.refl base wr).drew) hn₀) hownr
          have s0 : wr.drew.cell? ⟨w.heap.size, 0, none⟩ = some (.slice da dn dc) ∧ wr.drew.cell? ⟨b, off + j, none⟩ = some (.int .i64 q) := ⟨hbox.cell 0, hcj⟩
          have hbb : b < base := by omega
          have HKX : Hid (∀ (x : World) (v' : Value), Grew wr.drew (.slice oa o.length oc) x v' → Blk x w.heap.size 31 #[.slice da dn dc] ∧ x.cell? ⟨b, off + j, none⟩ = some (.int .i64 q)) := fun x v' hx => ⟨(hx.by_.block w.heap.size hbox.lt (own_ne_blk hownr hbox (by decide))).trans hbox, ((hx.below (base := base) hszr (fun i hi => (own_ge hownr hi).1)).cell (p := ⟨b, off + j, none⟩) hbb).trans hcj⟩
          have hgd : Grew wr (.slice oa o.length oc) wr.drew (.slice oa o.length oc) := Grew.of_below _ ((Below.refl _ wr).drew)
          clear hcell hnk hpr hd HJ hcj
          go_upto_region 16 with fail
          go_region_held (fun x => x.cell? ⟨w.heap.size, 0, none⟩ = some (.slice da dn dc) ∧ x.cell? ⟨b, off + j, none⟩ = some (.int .i64 q)) (first | exact s0 | assumption | exact ⟨hbox8.cell 0, hcell8⟩) ((go_at_call 29; refine HIH.out.mono ?_; rintro e w8 ⟨a8, n8, c8, rfl, hown8, hg8⟩; obtain ⟨hbox8, hcell8⟩ := HKX.out w8 _ hg8))
          have hs8 : base ≤ w8.heap.size := Nat.le_trans hszr hg8.by_.size
          have HG8 : Hid (Grew w (.slice av out.length cv) w8 (.slice a8 n8 c8)) := (hgrew.trans hgd).trans hg8
          have HO8 : Hid (IOwn w8 base (.slice a8 n8 c8) (whF (partsP l) lim k o q)) := hown8
          have HB8 : Hid (Blk w8 w.heap.size 31 #[.slice da dn dc]) := hbox8
          clear hg8 hown8 hbox8 hcell8 HKX HIH s0
          go_wp2_with fail
          go_roundw
          case rel =>
            have hn8 : n8 = (whF (partsP l) lim k o q).length := by obtain ⟨_, _, e⟩ := HO8.out.val; cases e; rfl
            subst hn8
            exact ⟨j + 1, whF (partsP l) lim k o q, a8, c8, by omega, by go_num, rfl, HO8.out, HJ2, HG8.out, HB8.out, hs8⟩
          case measure => simp only [intOf]; omega
        · have HE : Hid (R = o) := by
            show _ = _
            rw [HJ.out, List.drop_of_length_le (by rw [← HPK.out]; omega)]
            rfl
          go_wp2_with fail
          go_ret
          exact ⟨_, _, _, rfl, by rw [HE.out]; exact hownr, hgrew⟩
theorem refWhole_any (l : List PM) (hrise : (l.map PM.point).Pairwise (· < ·)) (hll : l.length ≤ 1048576) (hns : ∀ p, ∀ q ∈ partsP l p, isSyl q = false) (hpl : ∀ p, (partsP l p).length ≤ 131072) (da : Option Addr) (dn dc n₀ lim : Nat) (hlim : lim ≤ 1073741824) :
    ∀ (k : Nat) (p : Int), isSyl p = false → Dep (partsP l) k p → WholeSays l da dn dc n₀ lim k p := by
  intro k
  induction k with
  | zero =>
    intro p hsy hd
    have h1 := whole_step l hrise hll hpl da dn dc n₀ lim hlim 0 p hsy (fun q hq => by rw [show partsP l p = [] from hd] at hq; simp at hq)
    intro out v base w
    have e : whF (partsP l) lim 1 out p = whF (partsP l) lim 0 out p := by simp [whF, show partsP l p = [] from hd]
    have h2 := h1 out v base w
    rwa [e] at h2
  | succ k ih =>
    intro p hsy hd
    exact whole_step l hrise hll hpl da dn dc n₀ lim hlim k p hsy (fun q hq => ih q (hns p q hq) (hd q hq))
set_option maxHeartbeats 4000000 in
set_option maxRecDepth 20000 in
theorem refClassOf_any (l : List PM) (hrise : (l.map PM.point).Pairwise (· < ·)) (hll : l.length ≤ 1048576) (da : Option Addr) (dn dc : Nat) (p : Int) (n₀ : Nat) (w : World) (hn₀ : n₀ ≤ w.heap.size) (hin : MIn n₀ w (.slice da dn dc) l) :
    Calls Tryz.prog 73 #[.agg #[.slice da dn dc], .int .i64 p] w fun e w' => e = .returned (.int .i64 (clsP l p)) ∧ Below w.heap.size w w' := by
  have hb0 := (Below.refl w.heap.size w).alloc (Nat.le_refl _) (.cells #[.slice da dn dc] 31)
  have hbn := Blk.new w 31 #[.slice da dn dc]
  have hM := refMark_any l hrise hll (.slice da dn dc) p n₀ (w.alloc (.cells #[.slice da dn dc] 31)) (by simp; omega) (hin.below hb0 hn₀)
  have e0 : (w.alloc (.cells #[.slice da dn dc] 31)).cell? ⟨w.heap.size, 0, none⟩ = some (.slice da dn dc) := hbn.cell 0
  go_enter Tryz.func73, Tryz.ntmps73
  go_wp2_with fail
  refine hM.mono ?_
  rintro e w2 ⟨hb2, pa, pk, pc, rfl, hpi⟩
  have hfd := field36_1 (.int .i64 p) (.int .i64 (clsP l p)) (.slice pa pk pc) w2
  go_wp2_with fail
  go_ret
  exact ⟨rfl, hb0.trans (hb2.mono hb0.size)⟩
theorem letters_two {p : Int} (h : (p - 44032) % 28 = 0) : lettersR p = [4352 + (p - 44032) / 588, 4449 + (p - 44032) % 588 / 28] := by
  unfold lettersR
  rw [if_pos h]
theorem letters_tri {p : Int} (h : ¬ (p - 44032) % 28 = 0) : lettersR p = [4352 + (p - 44032) / 588, 4449 + (p - 44032) % 588 / 28, 4519 + (p - 44032) % 28] := by
  unfold lettersR
  rw [if_neg h]
  rfl
set_option maxHeartbeats 4000000 in
set_option maxRecDepth 20000 in
theorem whole_syl (l : List PM) (da : Option Addr) (dn dc n₀ lim : Nat) (_hlim : lim ≤ 1073741824) (k : Nat) (p : Int) (hsy : isSyl p = true) (hq : ∀ q ∈ lettersR p, WholeSays l da dn dc n₀ lim k q) (w : World) (hlen : ((lettersR p).foldl (fun o q => whF (partsP l) lim k o q) []).length ≤ 1000000) (hn₀ : n₀ ≤ w.heap.size) (hin : MIn n₀ w (.slice da dn dc) l) :
    Calls Tryz.prog 29 #[.agg #[.slice da dn dc], .slice none 0 0, .int .i64 p, .int .i64 (lim : Int)] w fun e w' => ∃ a n c, e = .returned (.slice a n c) ∧ IOwn w' w.heap.size (.slice a n c) ((lettersR p).foldl (fun o q => whF (partsP l) lim k o q) []) ∧ Below w.heap.size w w' := by
  have hr : 44032 ≤ p ∧ p ≤ 55203 := by simpa [isSyl] using hsy
  have hb0 := (Below.refl w.heap.size w).alloc (Nat.le_refl _) (.cells #[.slice da dn dc] 31)
  have hbn := Blk.new w 31 #[.slice da dn dc]
  have hS := syllable_any p (w.alloc (.cells #[.slice da dn dc] 31))
  rw [hsy] at hS
  have e0 : (w.alloc (.cells #[.slice da dn dc] 31)).cell? ⟨w.heap.size, 0, none⟩ = some (.slice da dn dc) := hbn.cell 0
  have hin0 := hin.below hb0 hn₀
  have hsz0 : w.heap.size ≤ (w.alloc (.cells #[.slice da dn dc] 31)).heap.size := by simp
  obtain ⟨z, hz⟩ : ∃ z, p - 44032 = z := ⟨_, rfl⟩
  have hzr : 0 ≤ z ∧ z ≤ 11171 := by omega
  have HX : Hid (lettersR p = if z % 28 = 0 then [4352 + z / 588, 4449 + z % 588 / 28] else [4352 + z / 588, 4449 + z % 588 / 28, 4519 + z % 28]) := by
    show _ = _
    rw [← hz]
    split
    · rename_i h; exact letters_two h
    · rename_i h; exact letters_tri h
  by_cases ht : z % 28 = 0
  · rw [if_pos ht] at HX
    rw [HX.out] at hq hlen ⊢
    have hqA := hq (4352 + z / 588) (by simp)
    have hqB := hq (4449 + z % 588 / 28) (by simp)
    simp only [List.foldl_cons, List.foldl_nil] at hlen ⊢
    have hlA := Nat.le_trans (whF_grows (partsP l) lim k (whF (partsP l) lim k [] (4352 + z / 588)) (4449 + z % 588 / 28)) hlen
    have hA := hqA [] (.slice none 0 0) w.heap.size (w.alloc (.cells #[.slice da dn dc] 31)) hlA hn₀ hsz0 hin0 (IOwn.nil _ _)
    have ht2 : decide ((0 : Int) < z % 28) = false := by simp; omega
    generalize whF (partsP l) lim k [] (4352 + z / 588) = R0 at hA hlA hlen ⊢
    go_enter Tryz.func29, Tryz.ntmps29
    go_wp2_with fail
    refine hS.mono ?_
    rintro e w1 ⟨rfl, rfl⟩
    go_wp2_with fail
    refine hA.mono ?_
    rintro e w2 ⟨a2, n2, c2, rfl, hown2, hg2⟩
    have hbel2 : Below w.heap.size (w.alloc (.cells #[.slice da dn dc] 31)) w2 := hg2.below hsz0 (fun i hi => by cases hi)
    have hbox2 : Blk w2 w.heap.size 31 #[.slice da dn dc] := (hg2.by_.block w.heap.size hbn.lt (by intro e; cases e)).trans hbn
    have f0 : w2.cell? ⟨w.heap.size, 0, none⟩ = some (.slice da dn dc) := hbox2.cell 0
    have hs2 : w.heap.size ≤ w2.heap.size := Nat.le_trans hsz0 hbel2.size
    have hB := hqB R0 (.slice a2 n2 c2) w.heap.size w2 hlen hn₀ hs2 (hin0.below hbel2 hn₀) hown2
    go_wp2_with fail
    refine hB.mono ?_
    rintro e w3 ⟨a3, n3, c3, rfl, hown3, hg3⟩
    have hbel3 : Below w.heap.size w2 w3 := hg3.below hs2 (fun i hi => (own_ge hown2 hi).1)
    go_wp2_with fail
    go_ret
    exact ⟨a3, n3, c3, rfl, hown3, (hb0.trans hbel2).trans hbel3⟩
  · rw [if_neg ht] at HX
    rw [HX.out] at hq hlen ⊢
    have hqA := hq (4352 + z / 588) (by simp)
    have hqB := hq (4449 + z % 588 / 28) (by simp)
    have hqT := hq (4519 + z % 28) (by simp)
    simp only [List.foldl_cons, List.foldl_nil] at hlen ⊢
    have hlB := Nat.le_trans (whF_grows (partsP l) lim k (whF (partsP l) lim k (whF (partsP l) lim k [] (4352 + z / 588)) (4449 + z % 588 / 28)) (4519 + z % 28)) hlen
    have hlA := Nat.le_trans (whF_grows (partsP l) lim k (whF (partsP l) lim k [] (4352 + z / 588)) (4449 + z % 588 / 28)) hlB
    have hA := hqA [] (.slice none 0 0) w.heap.size (w.alloc (.cells #[.slice da dn dc] 31)) hlA hn₀ hsz0 hin0 (IOwn.nil _ _)
    have ht2 : decide ((0 : Int) < z % 28) = true := by simp; omega
    generalize whF (partsP l) lim k [] (4352 + z / 588) = R0 at hA hlA hlB hlen ⊢
    go_enter Tryz.func29, Tryz.ntmps29
    go_wp2_with fail
    refine hS.mono ?_
    rintro e w1 ⟨rfl, rfl⟩
    go_wp2_with fail
    refine hA.mono ?_
    rintro e w2 ⟨a2, n2, c2, rfl, hown2, hg2⟩
    have hbel2 : Below w.heap.size (w.alloc (.cells #[.slice da dn dc] 31)) w2 := hg2.below hsz0 (fun i hi => by cases hi)
    have hbox2 : Blk w2 w.heap.size 31 #[.slice da dn dc] := (hg2.by_.block w.heap.size hbn.lt (by intro e; cases e)).trans hbn
    have f0 : w2.cell? ⟨w.heap.size, 0, none⟩ = some (.slice da dn dc) := hbox2.cell 0
    have hs2 : w.heap.size ≤ w2.heap.size := Nat.le_trans hsz0 hbel2.size
    have hB := hqB R0 (.slice a2 n2 c2) w.heap.size w2 hlB hn₀ hs2 (hin0.below hbel2 hn₀) hown2
    go_wp2_with fail
    refine hB.mono ?_
    rintro e w3 ⟨a3, n3, c3, rfl, hown3, hg3⟩
    have hbel3 : Below w.heap.size w2 w3 := hg3.below hs2 (fun i hi => (own_ge hown2 hi).1)
    have hbox3 : Blk w3 w.heap.size 31 #[.slice da dn dc] := (hg3.by_.block w.heap.size hbox2.lt (own_ne_blk hown2 hbox2 (by decide))).trans hbox2
    have f1 : w3.cell? ⟨w.heap.size, 0, none⟩ = some (.slice da dn dc) := hbox3.cell 0
    have hs3 : w.heap.size ≤ w3.heap.size := Nat.le_trans hs2 hbel3.size
    have hT := hqT (whF (partsP l) lim k R0 (4449 + z % 588 / 28)) (.slice a3 n3 c3) w.heap.size w3 hlen hn₀ hs3 ((hin0.below hbel2 hn₀).below hbel3 hn₀) hown3
    go_wp2_with fail
    refine hT.mono ?_
    rintro e w4 ⟨a4, n4, c4, rfl, hown4, hg4⟩
    have hbel4 : Below w.heap.size w3 w4 := hg4.below hs3 (fun i hi => (own_ge hown3 hi).1)
    go_wp2_with fail
    go_ret
    exact ⟨a4, n4, c4, rfl, hown4, ((hb0.trans hbel2).trans hbel3).trans hbel4⟩
def partsD (l : List PM) (k : Nat) (p : Int) : List Int := if isSyl p then (lettersR p).foldl (fun o q => whF (partsP l) 1073741824 k o q) [] else whF (partsP l) 1073741824 k [] p
set_option maxHeartbeats 4000000 in
set_option maxRecDepth 20000 in
theorem refParts_any (l : List PM) (hrise : (l.map PM.point).Pairwise (· < ·)) (hll : l.length ≤ 1048576) (hns : ∀ p, ∀ q ∈ partsP l p, isSyl q = false) (hpl : ∀ p, (partsP l p).length ≤ 131072) (k : Nat) (hdep : ∀ p, Dep (partsP l) k p) (da : Option Addr) (dn dc n₀ : Nat) (p : Int) (hlen : (partsD l k p).length ≤ 1000000) (w : World) (hn₀ : n₀ ≤ w.heap.size) (hin : MIn n₀ w (.slice da dn dc) l) :
    Calls Tryz.prog 72 #[.agg #[.slice da dn dc], .int .i64 p] w fun e w' => ∃ a n c, e = .returned (.slice a n c) ∧ IOwn w' w.heap.size (.slice a n c) (partsD l k p) ∧ Below w.heap.size w w' := by
  have hb0 := (Below.refl w.heap.size w).alloc (Nat.le_refl _) (.cells #[.slice da dn dc] 31)
  have hbn := Blk.new w 31 #[.slice da dn dc]
  have e0 : (w.alloc (.cells #[.slice da dn dc] 31)).cell? ⟨w.heap.size, 0, none⟩ = some (.slice da dn dc) := hbn.cell 0
  have hin0 := hin.below hb0 hn₀
  have hsz0 : w.heap.size ≤ (w.alloc (.cells #[.slice da dn dc] 31)).heap.size := by simp
  have hall := refWhole_any l hrise hll hns hpl da dn dc n₀ 1073741824 (Nat.le_refl _) k
  unfold partsD at hlen ⊢
  cases hsy : isSyl p with
  | true =>
    rw [hsy] at hlen
    simp only [if_true] at hlen ⊢
    have hc := whole_syl l da dn dc n₀ 1073741824 (Nat.le_refl _) k p hsy (fun q hq => hall q (letters_not hsy hq) (hdep q)) (w.alloc (.cells #[.slice da dn dc] 31)) hlen (Nat.le_trans hn₀ hsz0) hin0
    generalize (lettersR p).foldl (fun o q => whF (partsP l) 1073741824 k o q) [] = R at hc ⊢
    go_enter Tryz.func72, Tryz.ntmps72
    go_wp2_with fail
    refine hc.mono ?_
    rintro e w2 ⟨a2, n2, c2, rfl, hown2, hb2⟩
    go_wp2_with fail
    go_ret
    exact ⟨a2, n2, c2, rfl, hown2.mono hsz0, hb0.trans (hb2.mono hsz0)⟩
  | false =>
    rw [hsy] at hlen
    simp only [Bool.false_eq_true, if_false] at hlen ⊢
    have hc := hall p hsy (hdep p) [] (.slice none 0 0) w.heap.size (w.alloc (.cells #[.slice da dn dc] 31)) hlen hn₀ hsz0 hin0 (IOwn.nil _ _)
    generalize whF (partsP l) 1073741824 k [] p = R at hc ⊢
    go_enter Tryz.func72, Tryz.ntmps72
    go_wp2_with fail
    refine hc.mono ?_
    rintro e w2 ⟨a2, n2, c2, rfl, hown2, hg2⟩
    go_wp2_with fail
    go_ret
    exact ⟨a2, n2, c2, rfl, hown2, hb0.trans (hg2.below hsz0 (fun i hi => by cases hi))⟩
theorem pmAt_marks {L : List Mk} (hnd : (L.map Mk.point).Nodup) (p : Int) : pmAt (marksR L) p = (markAt L p).map pmOf := by
  have hrise := marksR_rise hnd
  have hperm := marksR_perm hnd
  rcases markAt_mem (L := L) p with ⟨h0, hn⟩ | ⟨m, hm, rfl, h0⟩
  · rw [h0]
    refine pmAt_no fun i hi e => ?_
    have hx := hperm.subset (List.getElem_mem hi)
    obtain ⟨x, hx1, hx2⟩ := List.mem_map.1 hx
    refine hn (List.mem_map.2 ⟨x, hx1, ?_⟩)
    rw [← e, ← hx2]
    rfl
  · rw [h0]
    have hin : pmOf m ∈ marksR L := hperm.symm.subset (List.mem_map.2 ⟨m, hm, rfl⟩)
    obtain ⟨i, hi, e⟩ := List.mem_iff_getElem.1 hin
    have := pmAt_at hrise hi (p := m.point) (by rw [e]; rfl)
    rw [this, e]
    rfl
theorem partsP_marks {L : List Mk} (hnd : (L.map Mk.point).Nodup) : partsP (marksR L) = partsAt L := funext fun p => by
  unfold partsP partsAt
  rw [pmAt_marks hnd]
  cases markAt L p <;> rfl
theorem clsP_marks {L : List Mk} (hnd : (L.map Mk.point).Nodup) : clsP (marksR L) = classAt L := funext fun p => by
  unfold clsP classAt
  rw [pmAt_marks hnd]
  cases markAt L p <;> rfl
theorem depth_of {t : List UInt8} {L : List Mk} {E : Int → List Int} (h : loadR t = .ok (L, E)) : ∃ k, (∀ p, Dep (partsAt L) k p) ∧ ∀ p, E p = endsG (partsAt L) k p := by
  obtain ⟨_, _, _, _, ord, ht, hord, he⟩ := load_says h
  refine ⟨ord.length + 1, fun p => ?_, he _ (Nat.le_refl _)⟩
  by_cases hG : partsAt L p = []
  · exact Dep.leaf hG _
  · obtain ⟨m, hm, e⟩ := partsAt_has hG
    have hp : p ∈ ord := by rw [← e]; exact hord m hm
    obtain ⟨pre, post, hs⟩ := List.append_of_mem hp
    exact Dep.of_topo ht (ord.length + 1) pre p post (by rw [hs]; simp; omega) hs
theorem wh_ends_of {t : List UInt8} {L : List Mk} {E : Int → List Int} (h : loadR t = .ok (L, E)) {k : Nat} (he : ∀ p, E p = endsG (partsAt L) k p) (p : Int) : wh (partsAt L) k p = endsOfF E p ∧ (endsOfF E p).length ≤ 18 := by
  obtain ⟨_, _, _, hsh, _⟩ := load_says h
  by_cases hG : partsAt L p = []
  · have e0 : E p = [] := by rw [he]; unfold endsG; rw [if_pos hG]
    unfold endsOfF
    rw [if_pos e0, wh_leaf hG]
    exact ⟨rfl, by simp⟩
  · obtain ⟨m, hm, e⟩ := partsAt_has hG
    have e1 : E p = (wh (partsAt L) k p).take 19 := by rw [he]; unfold endsG; rw [if_neg hG]
    have h18 : (E p).length ≤ 18 := by rw [← e]; exact hsh m hm
    have hw : (wh (partsAt L) k p).length ≤ 18 := by
      rw [e1, List.length_take] at h18
      omega
    rw [List.take_of_length_le (by omega)] at e1
    have hne : E p ≠ [] := by rw [e1]; exact wh_ne _ _
    unfold endsOfF
    rw [if_neg hne]
    exact ⟨e1.symm, h18⟩
theorem fold_wh {t : List UInt8} {L : List Mk} {E : Int → List Int} (h : loadR t = .ok (L, E)) {k : Nat} (he : ∀ p, E p = endsG (partsAt L) k p) : ∀ (qs : List Int) (o : List Int), o.length + 18 * qs.length ≤ 1073741824 → qs.foldl (fun o q => whF (partsAt L) 1073741824 k o q) o = o ++ qs.flatMap (endsOfF E) := by
  intro qs
  induction qs with
  | nil => intro o _; simp
  | cons a r ih =>
    intro o ho
    simp only [List.length_cons] at ho
    obtain ⟨e, hl⟩ := wh_ends_of h he a
    rw [List.foldl_cons, whF_eq _ _ _ _ _ (by omega), e, List.take_of_length_le (by rw [List.length_append]; omega), ih _ (by rw [List.length_append]; omega)]
    simp
theorem partsD_eq {t : List UInt8} {L : List Mk} {E : Int → List Int} (h : loadR t = .ok (L, E)) {k : Nat} (he : ∀ p, E p = endsG (partsAt L) k p) (p : Int) : partsD (marksR L) k p = partsR' E p := by
  obtain ⟨hlen, hl, _⟩ := load_says h
  have hnd := (load_total hlen hl).2.1
  unfold partsD partsR'
  rw [partsP_marks hnd]
  split
  · rename_i hs
    have h3 := (lettersR_in hs).2.1
    rw [fold_wh h he _ _ (by simp; omega)]
    simp
  · obtain ⟨e, h18⟩ := wh_ends_of h he p
    rw [whF_eq _ _ _ _ _ (by simp), List.nil_append, e, List.take_of_length_le (by omega)]
end Go.Proofs.YtkcnjnccdafbfaaGreatDoor
