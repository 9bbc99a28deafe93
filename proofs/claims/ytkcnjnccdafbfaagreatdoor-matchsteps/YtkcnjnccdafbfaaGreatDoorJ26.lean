/- Contracts and lemmas (nothing is claimed here). -/
import Derived.Test.YtkcnjnccdafbfaaGreatDoorJ22
import Derived.Test.YtkcnjnccdafbfaaGreatDoorJ25
import Derived.Test.YtkcnjnccdafbfaaGreatDoorJ12
namespace Go.Proofs.YtkcnjnccdafbfaaGreatDoor
open Go.RowKit Go.Vf Go.Maps
def fndT (E : List Ent) (q : List Int) : Bool := (findT E q).isSome
theorem find_b (T me ml n₀ : Nat) (val : List Int → Value) (E : List Ent) (v : Value) (zs : List Int) (w : World) (ht : TabAt w T me ml val E) (hn₀ : n₀ ≤ w.heap.size) (hin : Ints n₀ w v zs) (hll : zs.length ≤ 4611686018427387904) :
    Calls Tryz.prog 20 #[.pointer (some ⟨T, 0, none⟩), v] w fun e w' => ∃ u, e = .returned (.tuple #[u, .bool (fndT E zs)]) ∧ Below w.heap.size w w' := by
  refine (find_any T me ml n₀ val E v zs w ht hn₀ hin hll).mono ?_
  rintro e w' ⟨hb, hm⟩
  unfold fndT
  cases hf : findT E zs with
  | none => rw [hf] at hm; exact ⟨_, hm, hb⟩
  | some l => rw [hf] at hm; obtain ⟨a, n, c, rfl, _⟩ := hm; exact ⟨_, rfl, hb⟩
set_option maxHeartbeats 4000000 in
set_option maxRecDepth 20000 in
theorem beginning_any {w₁ : World} {bd T B g off cap me ml : Nat} {val : List Int → Value} {E : List Ent} {x : Int} {t : List Int} {ps : List (List Int)} {W : World} (hk : MWk w₁ bd T B g off cap ((x :: t) :: ps) W) (ht : TabAt w₁ T me ml val E) (hx : InI x)
    (hl : ((x :: t) :: ps).length ≤ 4611686018427387904) (hpl : ∀ p ∈ (x :: t) :: ps, p.length ≤ 4611686018427387904) (hm8 : longT E x ≤ 8) :
    Calls Tryz.prog 79 #[.pointer (some ⟨B, 0, none⟩)] W fun e W' => ∃ n b gr k c, e = .returned (.tuple #[.slice (some ⟨gr, 0, none⟩) k c, .bool b]) ∧ n = firstN (fndT E) ((x :: t) :: ps).flatten (min (max 1 (longT E x)) ((x :: t) :: ps).flatten.length) ∧ b = decide (n ≠ 0) ∧ IOwn W' W.heap.size (.slice (some ⟨gr, 0, none⟩) k c) (((x :: t) :: ps).flatten.take (if n = 0 then 1 else n)) ∧ Below W.heap.size W W' := by
  obtain ⟨c0, c1, c2⟩ := hk.cells
  obtain ⟨pb, po, c, d0, d1, d2⟩ := hk.piece (j := 0) (by simp)
  simp only [List.getElem_cons_zero, Nat.add_zero] at d0 d1 d2
  have d3 := d2.2 0 (by simp)
  simp only [List.getElem?_cons_zero, Option.getD_some, Nat.add_zero] at d3
  have htw : ∀ W', Below W.heap.size W W' → TabAt W' T me ml val E := fun W' h => ht.below (hk.below.trans (h.mono hk.below.size))
  obtain ⟨M, hM⟩ : ∃ M, M = max 1 (longT E x) := ⟨_, rfl⟩
  have hMi : max (1 : Int) ((longT E x : Nat) : Int) = (M : Int) := by omega
  have hM8 : 1 ≤ M ∧ M ≤ 8 := by omega
  have HL : Hid (∀ W', Below W.heap.size W W' → Calls Tryz.prog 101 #[.pointer (some ⟨T, 0, none⟩), .int .i64 x] W' fun e w' => e = .returned (.int .i64 (longT E x : Int)) ∧ W' = w') := fun W' h => longest_any T me ml val E x hx W' (htw W' h)
  have HF : Hid (∀ W', Below W.heap.size W W' → Calls Tryz.prog 100 #[.pointer (some ⟨B, 0, none⟩), .int .i64 M] W' fun e W2 => ∃ gr k c, e = .returned (.slice (some ⟨gr, 0, none⟩) k c) ∧ IOwn W2 W.heap.size (.slice (some ⟨gr, 0, none⟩) k c) (((x :: t) :: ps).flatten.take M) ∧ Below W.heap.size W W2) := fun W' h => (front_any (hk.go h) hl hpl M hM8.2).mono (by
    rintro e W2 ⟨gr, k, c, e1, e2, e3⟩
    exact ⟨gr, k, c, e1, e2.mono h.size, h.trans (e3.mono h.size)⟩)
  rw [← hM]
  clear hM
  generalize longT E x = LL at *
  have hbz : Below W.heap.size W W.drew := (Below.refl _ W).drew
  have HTW : Hid _ := htw
  clear htw
  have hlpos : 1 ≤ ((x :: t) :: ps).flatten.length := by simp
  generalize ((x :: t) :: ps).flatten = l at HF hlpos ⊢
  go_enter Tryz.func79, Tryz.ntmps79
  go_upto_region 1 with fail
  go_cut [4] from 8 to 23 (fun v wx => ∃ gr kr cr, v = .slice (some ⟨gr, 0, none⟩) kr cr ∧ Aside (IOwn wx W.heap.size (.slice (some ⟨gr, 0, none⟩) kr cr) (l.take M)) ∧ Below W.heap.size W wx)
  case first =>
    go_region_with (first | (go_at_call 101; with_reducible refine (HL.out _ (by assumption)).mono ?_; rintro e w2 ⟨rfl, rfl⟩) | (go_at_call 100; with_reducible refine (HF.out _ (by assumption)).mono ?_; rintro e w3 ⟨gr, kr, cr, rfl, hown3, hb3⟩))
    all_goals
      go_wp2_with fail
      go_meet
      exact ⟨gr, kr, cr, rfl, hown3, hb3⟩
  case rest =>
    obtain ⟨gr, kr, cr, rfl, HOWN, hb3⟩ := hcut
    have hkr := HOWN.out.form1
    rw [List.length_take] at hkr
    have HKR : Hid (kr = min M l.length) := hkr
    have hkr1 : 1 ≤ kr ∧ kr ≤ 8 := by omega
    clear hkr HL HF
    go_wp2_with fail
    go_loopw [5] (fun nv wr => ∃ k : Nat, k ≤ kr ∧ nv = .int .i64 k ∧ Hid (firstN (fndT E) l k = firstN (fndT E) l kr) ∧ Aside (IOwn wr W.heap.size (.slice (some ⟨gr, 0, none⟩) kr cr) (l.take M)) ∧ Below W.heap.size W wr) (fun nv _ => (intOf nv).toNat)
    case atStart => exact ⟨kr, Nat.le_refl _, rfl, rfl, HOWN, hb3⟩
    case round =>
      clear HOWN hb3
      obtain ⟨k, hk1, rfl, HF, HOWN, hbr⟩ := hrel
      have htr := HTW.out _ hbr
      have r1 : wr.cell? ⟨B, 1, none⟩ = some (.pointer (some ⟨T, 0, none⟩)) := (hbr.cell (p := ⟨B, 1, none⟩) hk.blk.lt).trans c1
      cases k with
      | zero =>
        have h0 : firstN (fndT E) l kr = 0 := HF.out.symm
        have hfin : IOwn wr W.heap.size (.slice (some ⟨gr, 0, none⟩) 1 cr) (l.take 1) := by
          have := HOWN.out.take (m := 1) (by rw [List.length_take]; omega)
          rwa [List.take_take, Nat.min_eq_left hM8.1] at this
        obtain ⟨hcap1, hcap2⟩ : 1 ≤ kr ∧ kr ≤ cr := ⟨hkr1.1, by
          rcases HOWN.out.form with ⟨e, _⟩ | ⟨g', cp, e, _, _, hle, _⟩
          · cases e
          · cases e; rw [List.length_take, ← HKR.out] at hle; exact hle⟩
        go_wp2_with fail
        go_ret2
        exact ⟨0, false, gr, 1, cr, rfl, by rw [← HKR.out]; exact h0.symm, by simp, hfin, hbr⟩
      | succ k =>
        have hown := HOWN.out.take (m := k + 1) (by rw [List.length_take, ← HKR.out]; exact hk1)
        rw [List.take_take, Nat.min_eq_left (show k + 1 ≤ M by have := HKR.out; omega)] at hown
        have hcap2 : kr ≤ cr := by
          rcases HOWN.out.form with ⟨e, _⟩ | ⟨g', cp, e, _, _, hle, _⟩
          · cases e
          · cases e; rw [List.length_take, ← HKR.out] at hle; exact hle
        have hlen : (l.take (k + 1)).length = k + 1 := by rw [List.length_take]; have := HKR.out; omega
        have HFD : Hid (∀ n, Calls Tryz.prog 20 #[.pointer (some ⟨T, 0, none⟩), .slice (some ⟨gr, 0, none⟩) (k + 1) cr] (wr.drewN n) fun e w' => ∃ u, e = .returned (.tuple #[u, .bool (fndT E (l.take (k + 1)))]) ∧ Below (wr.drewN n).heap.size (wr.drewN n) w') := fun n => find_b T me ml _ val E _ (l.take (k + 1)) (wr.drewN n) (htr.below (below_drewQ _ _)) (Nat.le_refl _) (IOwn.ints (own_after hown (below_drewQ _ _))) (by omega)
        have hfd1 := HFD.out 1
        generalize hfb : fndT E (l.take (k + 1)) = fb at HFD hfd1
        have HFB : Hid (fndT E (l.take (k + 1)) = fb) := hfb
        clear hfb
        have h1 : wr.drewN 1 = wr.drew := rfl
        rw [h1] at hfd1
        go_upto_region 5 with fail
        go_cut [6, 7] from 26 to 44 (fun _ v wx => v = .bool fb ∧ Aside (Below wr.heap.size wr wx))
        case first =>
          go_region_with (first | (go_at_call 20; with_reducible refine hfd1.mono ?_; rintro e w2 ⟨u, rfl, hb2⟩))
          all_goals
            go_wp2_with fail
            go_meet
            exact ⟨rfl, (Below.refl _ wr).drew.trans hb2⟩
        case rest =>
          obtain ⟨rfl, HB⟩ := hcut
          have hbc : Below W.heap.size W wc := hbr.trans (HB.out.mono hbr.size)
          have HOW2 : Aside (IOwn wc W.heap.size (.slice (some ⟨gr, 0, none⟩) kr cr) (l.take M)) := own_after HOWN.out HB.out
          have HOW3 : Aside (IOwn wc W.heap.size (.slice (some ⟨gr, 0, none⟩) (k + 1) cr) (l.take (k + 1))) := own_after hown HB.out
          clear HFD hfd1 HOWN hown HB
          cases fb with
          | true =>
            have hfn : firstN (fndT E) l kr = k + 1 := by rw [← HF.out, firstN, HFB.out]; rfl
            go_wp2_with fail
            go_ret2
            exact ⟨k + 1, true, gr, k + 1, cr, rfl, by rw [← HKR.out]; exact hfn.symm, by simp, by simpa using HOW3.out, hbc⟩
          | false =>
            have HF2 : Hid (firstN (fndT E) l k = firstN (fndT E) l kr) := by
              show _ = _
              rw [← HF.out, firstN, HFB.out]
              rfl
            go_wp2_with fail
            go_roundw
            case rel => exact ⟨k, by omega, by simp, HF2, HOW2, hbc⟩
            case measure => simp only [intOf]; omega
structure Kg (n₁ g : Nat) (W W' : World) : Prop where
 size : W.heap.size ≤ W'.heap.size
 block : ∀ k, k < n₁ → k ≠ g → W'.heap[k]? = W.heap[k]?
theorem Kg.trans {n₁ g : Nat} {a b c : World} (h : Kg n₁ g a b) (k : Kg n₁ g b c) : Kg n₁ g a c := ⟨Nat.le_trans h.size k.size, fun i hi h1 => (k.block i hi h1).trans (h.block i hi h1)⟩
theorem Kg.below {n₁ g : Nat} {W W' : World} (h : Below n₁ W W') : Kg n₁ g W W' := ⟨h.size, fun k hk _ => h.block k hk⟩
section
variable {w₁ W W' : World} {bd T B g off cap n₁ : Nat} {ps pre rest : List (List Int)} {p q : List Int}
theorem MWk.goN (h : MWk w₁ bd T B g off cap ps W) (hb : Below n₁ W W') (hB : B < n₁) (hg : g < n₁) (hw : w₁.heap.size ≤ n₁) : MWk w₁ bd T B g off cap ps W' := by
 obtain ⟨cs, hc⟩ := h.row
 exact ⟨h.below.trans (hb.mono hw), h.blk.below hb hB, h.cap, h.lowB, h.lowg, ⟨cs, hc.below hb hg⟩, h.pcs.same (hb.block g hg) (fun k hk => hb.block k (Nat.lt_of_lt_of_le hk hw))⟩
theorem MWk.pieceA (h : MWk w₁ bd T B g off cap (pre ++ p :: rest) W) : ∃ b o c, W.cell? ⟨g, off + pre.length, none⟩ = some (.slice (some ⟨b, o, none⟩) p.length c) ∧ p.length ≤ c ∧ Pc w₁.heap.size W b o p := by
 have := h.piece (j := pre.length) (by simp)
 simpa using this
theorem MWk.setA (h : MWk w₁ bd T B g off cap (pre ++ p :: rest) W) {b o c : Nat} (hq : Pc w₁.heap.size W b o q) (hqc : q.length ≤ c) : MWk w₁ bd T B g off cap (pre ++ q :: rest) (W.setCell ⟨g, off + pre.length, none⟩ (.slice (some ⟨b, o, none⟩) q.length c)) ∧ Kg n₁ g W (W.setCell ⟨g, off + pre.length, none⟩ (.slice (some ⟨b, o, none⟩) q.length c)) := by
 have := (h.set (i := pre.length) (by simp) hq hqc).1
 rw [List.set_append_right _ _ (Nat.le_refl _), Nat.sub_self, List.set_cons_zero] at this
 exact ⟨this, by simp [World.setCell], fun k _ h1 => Below.heap_setCell W _ _ k h1⟩
end
section
variable {cls : Int → Int} {fnd : List Int → Bool} {m : Nat}
theorem joinPs_nil (row : List Int) (rest : List (List Int)) : joinPs cls fnd m row ([] :: rest) = ((joinPs cls fnd m row rest).1, [] :: (joinPs cls fnd m row rest).2) := by simp [joinPs, joinPc]
theorem joinPs_stop {row : List Int} {y : Int} (ys : List Int) (rest : List (List Int)) (h : row.length = m ∨ cls y = 0) : joinPs cls fnd m row ((y :: ys) :: rest) = (row, (y :: ys) :: rest) := by
 have : joinPc cls fnd m row (y :: ys) = (row, y :: ys, true) := by unfold joinPc; rw [if_pos h]
 simp [joinPs, this]
theorem joinPs_no {row : List Int} {y : Int} (ys : List Int) (rest : List (List Int)) (h : ¬ (row.length = m ∨ cls y = 0)) (hf : fnd (row ++ [y]) = false) : joinPs cls fnd m row ((y :: ys) :: rest) = ((joinPs cls fnd m row rest).1, (y :: ys) :: (joinPs cls fnd m row rest).2) := by
 have : joinPc cls fnd m row (y :: ys) = (row, y :: ys, false) := by unfold joinPc; rw [if_neg h, hf]; rfl
 simp [joinPs, this]
theorem joinPs_yes {row : List Int} {y : Int} (ys : List Int) (rest : List (List Int)) (h : ¬ (row.length = m ∨ cls y = 0)) (hf : fnd (row ++ [y]) = true) : joinPs cls fnd m row ((y :: ys) :: rest) = joinPs cls fnd m (row ++ [y]) (ys :: rest) := by
 have : joinPc cls fnd m row (y :: ys) = joinPc cls fnd m (row ++ [y]) ys := by conv => lhs; unfold joinPc; rw [if_neg h, if_pos hf]
 simp only [joinPs, this]
end
set_option maxHeartbeats 8000000 in
set_option maxRecDepth 20000 in
theorem mjoin_any {w₁ : World} {bd T B g off cap me ml n₁ : Nat} {val : List Int → Value} {L : List Mk} {F : Int → List Int} {E : List Ent} {x : Int} {r : List Int} {ps : List (List Int)} {W : World} {gr kr cr : Nat}
  (hk : MWk w₁ bd T B g off cap ps W) (hd : DataAt w₁ bd L F) (ht : TabAt w₁ T me ml val E) (hx : InI x) (hps : ∀ p ∈ ps, ∀ q ∈ p, InI q)
  (hl : ps.length ≤ 4611686018427387904) (hpl : ∀ p ∈ ps, p.length ≤ 4611686018427387904) (hm8 : longT E x ≤ 8) (hr8 : (x :: r).length ≤ longT E x) (hn₁ : B < n₁ ∧ g < n₁ ∧ n₁ ≤ W.heap.size ∧ w₁.heap.size ≤ n₁) (hown : IOwn W n₁ (.slice (some ⟨gr, 0, none⟩) kr cr) (x :: r)) :
  Calls Tryz.prog 81 #[.pointer (some ⟨B, 0, none⟩), .slice (some ⟨gr, 0, none⟩) kr cr] W fun e W' => ∃ g2 k2 c2, e = .returned (.slice (some ⟨g2, 0, none⟩) k2 c2) ∧ IOwn W' n₁ (.slice (some ⟨g2, 0, none⟩) k2 c2) (joinPs (classAt L) (fndT E) (longT E x) (x :: r) ps).1 ∧ MWk w₁ bd T B g off cap (joinPs (classAt L) (fndT E) (longT E x) (x :: r) ps).2 W' ∧ Kg n₁ g W W' := by
 obtain ⟨c0, c1, c2⟩ := hk.cells
 obtain ⟨hBn, hgn, hnW, hwn⟩ := hn₁
 have HLo : Hid (∀ n, Calls Tryz.prog 101 #[.pointer (some ⟨T, 0, none⟩), .int .i64 x] (W.drewN n) fun e w' => e = .returned (.int .i64 (longT E x : Int)) ∧ W.drewN n = w') := fun n => longest_any T me ml val E x hx _ (ht.below (hk.below.trans ((below_drewQ W n).mono hk.below.size)))
 have hlo1 := HLo.out 1
 rw [show W.drewN 1 = W.drew from rfl] at hlo1
 have hr0 : W.cell? ⟨gr, 0, none⟩ = some (.int .i64 x) := by
  rcases hown.form with ⟨e, _⟩ | ⟨g', cp, e, _, _, _, hc, _⟩
  ·
   cases e
  ·
   cases e; simpa using hc 0 (by simp)
 have hkr := hown.form1
 simp only [List.length_cons] at hkr
 generalize hJ : joinPs (classAt L) (fndT E) (longT E x) (x :: r) ps = J
 have HJ : Hid (((joinPs (classAt L) (fndT E) (longT E x) (x :: r) ps).1, [] ++ (joinPs (classAt L) (fndT E) (longT E x) (x :: r) ps).2) = J) := by show _ = _; rw [hJ]; rfl
 generalize hmm : longT E x = m at *
 have HOWN : Aside _ := hown
 have hkr1 : 1 ≤ kr := by omega
 have HKR : Hid (kr = r.length + 1) := hkr
 clear hJ hown hkr HLo hmm
 go_enter Tryz.func81, Tryz.ntmps81
 go_wp2
 go_step3
 go_upto_region 1 with fail
 go_cut [5] from 13 to 20 (fun v wx => v = .int .i64 m ∧ wx = W.drew)
 case first =>
  go_region_with (first | (go_at_call 101; with_reducible refine hlo1.mono ?_; rintro e w2 ⟨rfl, rfl⟩))
  all_goals
   go_wp2_with fail
   go_meet
   exact ⟨rfl, rfl⟩
 case rest =>
  obtain ⟨rfl, rfl⟩ := hcut
  have hbd : Below W.heap.size W W.drew := (Below.refl _ W).drew
  have hk1 := hk.go hbd
  have HOWN1 : Aside (IOwn W.drew n₁ (.slice (some ⟨gr, 0, none⟩) kr cr) (x :: r)) := own_after HOWN.out hbd
  have hkg1 : Kg n₁ g W W.drew := Kg.below (hbd.mono hnW)
  have hnW1 : n₁ ≤ W.drew.heap.size := hnW
  generalize W.drew = W1 at hk1 HOWN1 hkg1 hnW1 ⊢
  clear hlo1 hr0 c0 c1 c2 hbd HOWN hk
  obtain ⟨c0, c1, c2⟩ := hk1.cells
  go_wp2_with fail
  go_step3
  go_wp2_with fail
  go_loopw [1, 26] (fun v iv wr => ∃ (pre suf : List (List Int)) (row : List Int) (g2 k2 c2 : Nat), iv = .int .i64 pre.length ∧ v = .slice (some ⟨g2, 0, none⟩) k2 c2 ∧ Hid (pre.length + suf.length = ps.length) ∧ Aside (IOwn wr n₁ (.slice (some ⟨g2, 0, none⟩) k2 c2) (x :: row)) ∧ Hid (((joinPs (classAt L) (fndT E) m (x :: row) suf).1, pre ++ (joinPs (classAt L) (fndT E) m (x :: row) suf).2) = J) ∧ row.length + 1 ≤ m ∧ Hid (∀ p ∈ suf, (∀ q ∈ p, InI q) ∧ p.length ≤ 4611686018427387904) ∧ MWk w₁ bd T B g off cap (pre ++ suf) wr ∧ Kg n₁ g W wr ∧ n₁ ≤ wr.heap.size) (fun _ iv _ => ps.length - (intOf iv).toNat)
  case atStart => exact ⟨[], ps, r, gr, kr, cr, rfl, rfl, by show _ = _; simp, HOWN1, HJ, hr8, fun p hp => ⟨hps p hp, hpl p hp⟩, hk1, hkg1, hnW1⟩
  case round =>
   clear HOWN1 hk1 hkg1 hnW1 HJ c0 c1 c2 hkr1 HKR
   obtain ⟨pre, suf, row, g2, k2, cc2, rfl, rfl, HLN, HOWN, HJ, hrow, HP, hk, hkg, hnr⟩ := hrel
   cases suf with
   | nil =>
    have hln : pre.length = ps.length := by have := HLN.out; simpa using this
    have hfin : IOwn wr n₁ (.slice (some ⟨g2, 0, none⟩) k2 cc2) J.1 ∧ MWk w₁ bd T B g off cap J.2 wr := by
     rw [← HJ.out]
     exact ⟨HOWN.out, by simpa [joinPs] using hk⟩
    have hlt : ¬ ((pre.length : Int) < (ps.length : Int)) := by omega
    clear HJ hln
    go_wp2_with fail
    try rw [Exit.noGoto_ret]
    go_ret
    exact ⟨_, _, _, rfl, hfin.1, hfin.2, hkg⟩
   | cons p rest =>
    have hln : pre.length < ps.length := by have := HLN.out; simp at this; omega
    have hlt : (pre.length : Int) < (ps.length : Int) := by omega
    obtain ⟨c0, c1, c2⟩ := hk.cells
    obtain ⟨pb, po, pc, d0, d1, d2⟩ := hk.pieceA
    have hpp := HP.out p (by simp)
    have hpI := hpp.1
    have hpL := hpp.2
    have HP2 : Hid (∀ p ∈ rest, (∀ q ∈ p, InI q) ∧ p.length ≤ 4611686018427387904) := fun q hq => HP.out q (by simp [hq])
    have HD2 : Aside (∀ W', Below w₁.heap.size w₁ W' → Pc w₁.heap.size W' pb po p) := fun W' h => d2.same (fun k hk' => (h.block k hk').trans (hk.below.block k hk').symm)
    have HL2 : Hid (pre.length + 1 + rest.length = ps.length) := by have := HLN.out; simp at this; show _ = _; omega
    have hps1 : ps.length ≤ 4611686018427387904 := hl
    have hps2 : (pre ++ p :: rest).length = ps.length := by have := HL2.out; simp; omega
    rw [hps2] at c2
    clear HP HLN hpp hps2
    go_wp2_with fail
    go_loopw [1, 33] (fun v jv wr => ∃ (j : Nat) (row : List Int) (g2 k2 c2 : Nat), j ≤ p.length ∧ jv = .int .i64 j ∧ v = .slice (some ⟨g2, 0, none⟩) k2 c2 ∧ Aside (IOwn wr n₁ (.slice (some ⟨g2, 0, none⟩) k2 c2) (x :: row)) ∧ Hid (((joinPs (classAt L) (fndT E) m (x :: row) (p.drop j :: rest)).1, pre ++ (joinPs (classAt L) (fndT E) m (x :: row) (p.drop j :: rest)).2) = J) ∧ row.length + 1 ≤ m ∧ MWk w₁ bd T B g off cap (pre ++ p.drop j :: rest) wr ∧ Kg n₁ g W wr ∧ n₁ ≤ wr.heap.size) (fun _ jv _ => p.length - (intOf jv).toNat)
    case atStart => exact ⟨0, row, g2, k2, cc2, by omega, rfl, rfl, HOWN, HJ, hrow, hk, hkg, hnr⟩
    case round =>
     clear HOWN HJ hrow hk hkg hnr c0 c1 c2 d0 d2
     obtain ⟨j, row, g2, k2, cc2, hj, rfl, rfl, HOWN, HJ, hrow, hk, hkg, hnr⟩ := hrel
     by_cases hjl : j < p.length
     ·
      have hdr : p.drop j = p[j] :: p.drop (j + 1) := List.drop_eq_getElem_cons hjl
      have hcj := (HD2.out wr hk.below).2 j hjl
      rw [show p[j]?.getD 0 = p[j] by simp [List.getElem?_eq_getElem hjl]] at hcj
      have hyI := hpI _ (List.getElem_mem hjl)
      have HPJ : Hid (p.drop j = p[j] :: p.drop (j + 1)) := hdr
      generalize p[j] = y at hcj hyI HPJ
      have hk2 := HOWN.out.form1
      simp only [List.length_cons] at hk2
      subst hk2
      obtain ⟨c0, c1, c2⟩ := hk.cells
      obtain ⟨pb2, po2, pc2, d0, d1', d2⟩ := hk.pieceA
      have hcls := class_any bd L F y wr hyI (hd.below hk.below)
      by_cases hfull : row.length + 1 = m
      ·
       have hf2 : (((row.length : Int) + 1) == (m : Int)) = true := by simp; omega
       have hfin : IOwn wr n₁ (.slice (some ⟨g2, 0, none⟩) (row.length + 1) cc2) J.1 ∧ MWk w₁ bd T B g off cap J.2 wr := by
        rw [← HJ.out, HPJ.out, joinPs_stop _ _ (.inl (by simpa using hfull)), ← HPJ.out]
        exact ⟨HOWN.out, hk⟩
       clear HJ HPJ hfull
       go_wp2_with fail
       try rw [Exit.noGoto_ret]
       go_ret
       exact ⟨_, _, _, rfl, hfin.1, hfin.2, hkg⟩
      ·
       have hf2 : (((row.length : Int) + 1) == (m : Int)) = false := by simp; omega
       by_cases hc0 : classAt L y = 0
       ·
        have hfin : IOwn wr n₁ (.slice (some ⟨g2, 0, none⟩) (row.length + 1) cc2) J.1 ∧ MWk w₁ bd T B g off cap J.2 wr := by
         rw [← HJ.out, HPJ.out, joinPs_stop _ _ (.inr hc0), ← HPJ.out]
         exact ⟨HOWN.out, hk⟩
        rw [hc0] at hcls
        clear HJ HPJ hfull hc0
        go_wp2_with fail
        refine hcls.mono ?_
        rintro e w3 ⟨rfl, rfl⟩
        go_wp2_with fail
        try rw [Exit.noGoto_ret]
        go_ret
        exact ⟨_, _, _, rfl, hfin.1, hfin.2, hkg⟩
       ·
        have hnot : ¬ ((x :: row).length = m ∨ classAt L y = 0) := by simp; exact ⟨hfull, hc0⟩
        have HNOT : Hid _ := hnot
        have hc1 : (classAt L y == 0) = false := by simpa using hc0
        generalize classAt L y = cy at hcls hc1
        clear hnot hfull hc0
        go_wp2_with fail
        refine hcls.mono ?_
        rintro e w3 ⟨rfl, rfl⟩
        have hbA := (Below.refl wr.heap.size wr).alloc (Nat.le_refl _) (.cells #[.int .i64 y] 3)
        have hnb := Blk.new wr 3 #[.int .i64 y]
        have HOWN2 : Aside (IOwn (wr.alloc (.cells #[.int .i64 y] 3)) n₁ (.slice (some ⟨g2, 0, none⟩) (row.length + 1) cc2) (x :: row)) := own_after HOWN.out hbA
        have hszA : n₁ ≤ (wr.alloc (.cells #[.int .i64 y] 3)).heap.size := Nat.le_trans hnr hbA.size
        have hlx : (x :: row).length ≤ 1099511627776 := by simp; omega
        go_upto_region 10 with (first | (at_builtin; refine wpList_append_keep rfl _ _ rfl n₁ _ (x :: row) rfl HOWN2.out y ⟨wr.heap.size, 0, none⟩ _ rfl (hnb.cell 0) hlx hszA ?_; intro v4 w4 hown4 hold4 hgr4; obtain ⟨a4, c4, rfl⟩ := hown4.val; obtain ⟨g4, rfl, hg4, hcap4⟩ := hown4.some_of (by simp)))
        have hb4 : Below n₁ wr w4 := ((Below.refl n₁ wr).alloc hnr _).grown hgr4 hszA (fun j hj => (own_ge HOWN2.out hj).1)
        have hk4 := hk.goN hb4 hBn hgn hwn
        have hkg4 : Kg n₁ g W w4 := hkg.trans (Kg.below hb4)
        have hn4 : n₁ ≤ w4.heap.size := Nat.le_trans hnr hb4.size
        have HO4 : Aside (IOwn w4 n₁ (.slice (some ⟨g4, 0, none⟩) (x :: row ++ [y]).length c4) (x :: row ++ [y])) := hown4
        have HOL : Aside (IOwn w4 n₁ (.slice (some ⟨g2, 0, none⟩) (row.length + 1) cc2) (x :: row)) := hold4
        clear hown4 hold4 hgr4 hcap4 hbA hnb HOWN2 hszA hlx HOWN hcls hc1 c0 c1 c2 d0 d1' d2
        obtain ⟨c0, c1, c2⟩ := hk4.cells
        have hfd := find_b T me ml _ val E _ (x :: row ++ [y]) w4 (ht.below hk4.below) (Nat.le_refl _) (IOwn.ints HO4.out) (by simp; omega)
        generalize hfb : fndT E (x :: row ++ [y]) = fb at hfd
        have HFB : Hid (fndT E ((x :: row) ++ [y]) = fb) := hfb
        have hl4 : (x :: row ++ [y]).length = row.length + 1 + 1 := by simp
        rw [hl4] at hfd HO4
        clear hfb hl4
        go_wp2_with fail
        refine hfd.mono ?_
        rintro e w5 ⟨u5, rfl, hb5⟩
        have hb5' : Below n₁ w4 w5 := hb5.mono hn4
        have hk5 := hk4.goN hb5' hBn hgn hwn
        have hkg5 : Kg n₁ g W w5 := hkg4.trans (Kg.below hb5')
        have hn5 : n₁ ≤ w5.heap.size := Nat.le_trans hn4 hb5.size
        have HO5 : Aside (IOwn w5 n₁ (.slice (some ⟨g4, 0, none⟩) (row.length + 1 + 1) c4) (x :: row ++ [y])) := own_after HO4.out hb5
        have HOL5 : Aside (IOwn w5 n₁ (.slice (some ⟨g2, 0, none⟩) (row.length + 1) cc2) (x :: row)) := own_after HOL.out hb5
        clear hfd HO4 HOL hk4 hkg4 hn4 hb4 hb5 hb5' hk hkg hnr c0 c1 c2
        cases fb with
        | false =>
         have HJ2 : Hid (((joinPs (classAt L) (fndT E) m (x :: row) rest).1, (pre ++ [p.drop j]) ++ (joinPs (classAt L) (fndT E) m (x :: row) rest).2) = J) := by
          show _ = _
          rw [← HJ.out, HPJ.out, joinPs_no _ _ HNOT.out HFB.out]
          simp
         have hk' : MWk w₁ bd T B g off cap ((pre ++ [p.drop j]) ++ rest) w5 := by simpa using hk5
         clear HJ hk5 HPJ HNOT HFB
         go_wp2_with fail
         go_roundw
         case rel => exact ⟨pre ++ [p.drop j], rest, row, g2, row.length + 1, cc2, by simp, by simp, by have := HL2.out; show _ = _; simp; omega, HOL5, HJ2, hrow, HP2, hk', hkg5, hn5⟩
         case measure => simp only [intOf]; omega
        | true =>
         have HJ2 : Hid (((joinPs (classAt L) (fndT E) m (x :: (row ++ [y])) (p.drop (j + 1) :: rest)).1, pre ++ (joinPs (classAt L) (fndT E) m (x :: (row ++ [y])) (p.drop (j + 1) :: rest)).2) = J) := by
          show _ = _
          rw [← HJ.out, HPJ.out, joinPs_yes _ _ HNOT.out HFB.out]
          rfl
         have hrow2 : (row ++ [y]).length + 1 ≤ m := by
          have := HNOT.out
          simp at this ⊢
          omega
         obtain ⟨o2, hif, ho2⟩ : ∃ o2, (if pc = j + 1 then some (⟨pb, po, none⟩ : Addr) else some ⟨pb, po + (j + 1), none⟩) = some ⟨pb, o2, none⟩ ∧ (j + 1 < p.length → o2 = po + (j + 1)) := by
          by_cases h : pc = j + 1
          ·
           exact ⟨po, by rw [if_pos h], fun h2 => by omega⟩
          ·
           exact ⟨po + (j + 1), by rw [if_neg h], fun _ => rfl⟩
         obtain ⟨y1, y2⟩ := hk5.setA (n₁ := n₁) (q := p.drop (j + 1)) (b := pb) (o := o2) (c := pc - (j + 1)) ((HD2.out w5 hk5.below).drop ho2) (by rw [List.length_drop]; omega)
         rw [List.length_drop] at y1 y2
         have y1' := y1.go (Below.refl _ _).drew
         have y2' := (hkg5.trans y2).trans (Kg.below ((Below.refl n₁ _).drew))
         have hn6 : n₁ ≤ ((w5.setCell ⟨g, off + pre.length, none⟩ (.slice (some ⟨pb, o2, none⟩) (p.length - (j + 1)) (pc - (j + 1)))).drew).heap.size := by simp [World.setCell, World.drew]; exact hn5
         have HO6 : Aside (IOwn ((w5.setCell ⟨g, off + pre.length, none⟩ (.slice (some ⟨pb, o2, none⟩) (p.length - (j + 1)) (pc - (j + 1)))).drew) n₁ (.slice (some ⟨g4, 0, none⟩) (row.length + 1 + 1) c4) (x :: (row ++ [y]))) := own_after (own_setCell HO5.out (p := ⟨g, off + pre.length, none⟩) hgn _) (Below.refl _ _).drew
         obtain ⟨c0, c1, c2⟩ := hk5.cells
         have hfg := hk5.frozeng (off + pre.length)
         obtain ⟨u0, d0⟩ : ∃ u0, w5.cell? ⟨g, off + pre.length, none⟩ = some u0 := by
          obtain ⟨pb2, po2, pc2, d0, _⟩ := hk5.pieceA
          exact ⟨_, d0⟩
         have hps2 : (pre ++ List.drop j p :: rest).length = ps.length := by have := HL2.out; simp; omega
         rw [hps2] at c2
         clear HJ HPJ HNOT HFB hps2 hk5 y1 y2 hkg5 HO5 HOL5 ho2 hpI
         go_upto_region 12 with fail
         go_region
         go_wp2_with fail
         go_roundw
         case rel => exact ⟨j + 1, row ++ [y], g4, row.length + 1 + 1, c4, by omega, by simp, by simp, HO6, HJ2, hrow2, y1', y2', hn6⟩
         case measure => simp only [intOf]; omega
     ·
      have hdr : p.drop j = [] := List.drop_of_length_le (by omega)
      have HJ2 : Hid (((joinPs (classAt L) (fndT E) m (x :: row) rest).1, (pre ++ [[]]) ++ (joinPs (classAt L) (fndT E) m (x :: row) rest).2) = J) := by
       show _ = _
       rw [← HJ.out, hdr, joinPs_nil]
       simp
      rw [hdr] at hk
      have hk' : MWk w₁ bd T B g off cap ((pre ++ [[]]) ++ rest) wr := by simpa using hk
      clear HJ hdr hk
      go_wp2_with fail
      go_roundw
      case rel => exact ⟨pre ++ [[]], rest, row, g2, k2, cc2, by simp, by simp, by have := HL2.out; show _ = _; simp; omega, HOWN, HJ2, hrow, HP2, hk', hkg, hnr⟩
      case measure => simp only [intOf]; omega
end Go.Proofs.YtkcnjnccdafbfaaGreatDoor
