/- Contracts and lemmas (nothing is claimed here). -/
import Derived.Test.YtkcnjnccdafbfaaGreatDoorJ26
import Derived.Test.YtkcnjnccdafbfaaGreatDoorJ22
import Derived.Test.YtkcnjnccdafbfaaGreatDoorJ12
import Derived.Test.YtkcnjnccdafbfaaGreatDoorRows
import Derived.Deep.Upon
import Derived.ProofKit
import Derived.OpenShut
import Derived.Deep.Slices
import Derived.SizedLaws
import Derived.Deep.CutRange
namespace Go.Proofs.YtkcnjnccdafbfaaGreatDoor
open Go.RowKit Go.Vf Go.Maps
theorem longT_ge : ∀ {E : List Ent} {e : Ent} {x : Int}, e ∈ E → e.1.head? = some x → e.1.length ≤ longT E x := by
  intro E
  induction E with
  | nil => intro e x he; cases he
  | cons a r ih =>
    intro e x he hx
    unfold longT
    rcases List.mem_cons.1 he with rfl | he
    · rw [if_pos hx]; omega
    · have := ih he hx
      split <;> omega
theorem fndT_most {E : List Ent} (x : Int) : Most (fndT E) x (longT E x) := by
  intro q hq hx
  unfold fndT at hq
  obtain ⟨l, hl⟩ := Option.isSome_iff_exists.1 hq
  exact longT_ge (e := (q, l)) (findT_some hl) hx
theorem longT_eight {E : List Ent} (hok : ∀ e ∈ E, EntOk e) (x : Int) : longT E x ≤ 8 := longT_le E x (fun e he => (rowB_len (hok e he).row).2)
structure RestOk (cls : Int → Int) (ps : List (List Int)) : Prop where
  int : ∀ p ∈ ps, ∀ q ∈ p, InI q
  rise : Rising cls 0 ps
  len : ps.length ≤ 1000000000000
  few : ∀ p ∈ ps, p.length ≤ 1000000000000
theorem join_mem {cls : Int → Int} {fnd : List Int → Bool} {m : Nat} : ∀ (ps : List (List Int)) (row : List Int), ∀ p' ∈ (joinPs cls fnd m row ps).2, ∃ p ∈ ps, ∃ k, p' = p.drop k := by
  have key : ∀ (p row : List Int), ∃ k, (joinPc cls fnd m row p).2.1 = p.drop k := by
    intro p
    induction p with
    | nil => intro row; exact ⟨0, rfl⟩
    | cons x xs ih =>
      intro row
      unfold joinPc
      split
      · exact ⟨0, rfl⟩
      · split
        · obtain ⟨k, hk⟩ := ih (row ++ [x])
          exact ⟨k + 1, by simpa using hk⟩
        · exact ⟨0, rfl⟩
  intro ps
  induction ps with
  | nil => intro row p' h; simp [joinPs] at h
  | cons p ps ih =>
    intro row p' h
    obtain ⟨k, hk⟩ := key p row
    unfold joinPs at h
    split at h
    · rcases List.mem_cons.1 h with rfl | h
      · exact ⟨p, by simp, k, hk⟩
      · exact ⟨p', by simp [h], 0, by simp⟩
    · rcases List.mem_cons.1 h with rfl | h
      · exact ⟨p, by simp, k, hk⟩
      · obtain ⟨q, hq, j, hj⟩ := ih _ p' h
        exact ⟨q, by simp [hq], j, hj⟩
theorem drop_mem : ∀ (ps : List (List Int)) (n : Nat), ∀ p' ∈ dropPs n ps, ∃ p ∈ ps, ∃ k, p' = p.drop k := by
  intro ps
  induction ps with
  | nil => intro n p' h; simp [dropPs] at h
  | cons p ps ih =>
    intro n p' h
    unfold dropPs at h
    rcases List.mem_cons.1 h with rfl | h
    · exact ⟨p, by simp, _, rfl⟩
    · obtain ⟨q, hq, j, hj⟩ := ih _ p' h
      exact ⟨q, by simp [hq], j, hj⟩
theorem RestOk.sub {cls : Int → Int} {ps qs : List (List Int)} (h : RestOk cls ps) (hm : ∀ p' ∈ qs, ∃ p ∈ ps, ∃ k, p' = p.drop k) (hr : Rising cls 0 qs) (hl : qs.length ≤ ps.length) : RestOk cls qs where
  int := fun p' hp q hq => by
    obtain ⟨p, h1, k, rfl⟩ := hm p' hp
    exact h.int p h1 q (List.mem_of_mem_drop hq)
  rise := hr
  len := by have := h.len; omega
  few := fun p' hp => by
    obtain ⟨p, h1, k, rfl⟩ := hm p' hp
    have := h.few p h1
    rw [List.length_drop]
    omega
set_option maxHeartbeats 4000000 in
set_option maxRecDepth 20000 in
theorem step_any {w₁ : World} {bd T B g off cap me ml : Nat} {val : List Int → Value} {L : List Mk} {F : Int → List Int} {E : List Ent} {x : Int} {t : List Int} {ps : List (List Int)} {W : World}
    (hk : MWk w₁ bd T B g off cap ((x :: t) :: ps) W) (hd : DataAt w₁ bd L F) (ht : TabAt w₁ T me ml val E) (hok : RestOk (classAt L) ((x :: t) :: ps)) (hc0 : ∀ q, 0 ≤ classAt L q) :
    Calls Tryz.prog 38 #[.pointer (some ⟨B, 0, none⟩)] W fun e W' => ∃ v qs, e = .returned v ∧ IOwn W' W.heap.size v (stepD (classAt L) (fndT E) ((x :: t) :: ps).flatten).1 ∧ qs.flatten = (stepD (classAt L) (fndT E) ((x :: t) :: ps).flatten).2 ∧ MWk w₁ bd T B g off cap qs W' ∧ RestOk (classAt L) qs ∧ Mv B g W W' := by
  have hm8 := longT_eight ht.ok x
  have hx := hok.int _ (List.mem_cons_self ..) x (by simp)
  have hlen : ((x :: t) :: ps).length ≤ 4611686018427387904 := by have := hok.len; omega
  have hfew : ∀ p ∈ (x :: t) :: ps, p.length ≤ 4611686018427387904 := fun p hp => by have := hok.few p hp; omega
  generalize hP : (x :: t) :: ps = P at *
  have hhd : P.flatten.head? = some x := by rw [← hP]; simp
  have hne : P.flatten ≠ [] := fun e => by rw [e] at hhd; cases hhd
  have hmost := fndT_most (E := E) x
  have hhN : headN (fndT E) P.flatten = firstN (fndT E) P.flatten (min (max 1 (longT E x)) P.flatten.length) := headN_most _ (by omega) hhd (fun q h1 h2 => Nat.le_trans (hmost q h1 h2) (by omega))
  have hBW := hk.blk.lt
  obtain ⟨csg, hcg⟩ := hk.row
  have hgW := hcg.lt
  have hle := headN_le (fnd := fndT E) P.flatten
  have hlp : 1 ≤ P.flatten.length := List.length_pos_iff.2 hne
  rw [← hP] at hk hlen hfew
  have hbeg := beginning_any hk ht hx hlen hfew hm8
  rw [hP] at hk hlen hfew hbeg
  rw [← hhN] at hbeg
  clear hhN
  generalize hS : stepD (classAt L) (fndT E) P.flatten = S
  have HS : Hid (stepD (classAt L) (fndT E) P.flatten = S) := hS
  clear hS
  go_enter Tryz.func38, Tryz.ntmps38
  go_wp2_with fail
  refine hbeg.mono ?_
  rintro e W2 ⟨n, b, gr, kr, cr, rfl, rfl, rfl, hown, hb2⟩
  have hk2 := hk.go hb2
  have hkr := hown.form1
  by_cases hn : headN (fndT E) P.flatten = 0
  · rw [if_pos hn] at hown hkr
    have hst : stepD (classAt L) (fndT E) P.flatten = (P.flatten.take 1, P.flatten.drop 1) := by unfold stepD; rw [if_pos hn]
    rw [hn]
    have hkr1 : kr = 1 := by rw [hkr, List.length_take]; omega
    subst hkr1
    have hdr := drop_any hk2 hlen hfew 1 hlp (by omega)
    have HJS : Hid (S = (P.flatten.take 1, P.flatten.drop 1)) := HS.out.symm.trans hst
    clear hst hbeg hkr hn HS
    go_wp2_with fail
    refine hdr.mono ?_
    rintro e W3 ⟨rfl, hk3, hmv3⟩
    have hmv : Mv B g W W3 := (Mv.below hb2).trans hmv3
    have hown3 : IOwn W3 W.heap.size (.slice (some ⟨gr, 0, none⟩) 1 cr) (P.flatten.take 1) := own_other hown (fun k hk' => hmv3.block k (own_lt hown k hk') (by have := (own_ge hown hk').1; omega) (by have := (own_ge hown hk').1; omega))
    have hfin : IOwn W3 W.heap.size (.slice (some ⟨gr, 0, none⟩) 1 cr) S.1 ∧ (dropPs 1 P).flatten = S.2 := by rw [HJS.out]; exact ⟨hown3, dropPs_flat P 1⟩
    clear HJS
    go_wp2_with fail
    go_ret
    exact ⟨_, _, rfl, hfin.1, hfin.2, hk3, hok.sub (drop_mem P 1) (hok.rise.drop hc0 P 1) (by rw [dropPs_length]; exact Nat.le_refl _), hmv⟩
  · rw [if_neg hn] at hown hkr
    have hhit := headN_hit hn
    generalize hN : headN (fndT E) P.flatten = n at *
    have hst : stepD (classAt L) (fndT E) P.flatten = scanD (classAt L) (fndT E) (P.flatten.take n) 0 (P.flatten.drop n) := by unfold stepD; rw [hN, if_neg hn]
    have hkr1 : kr = n := by rw [hkr, List.length_take]; omega
    subst hkr1
    have hdr := drop_any hk2 hlen hfew kr hle.1 hle.2
    obtain ⟨r, hr⟩ : ∃ r, P.flatten.take kr = x :: r := by
      cases hf : P.flatten with
      | nil => exact absurd hf hne
      | cons y q =>
        rw [hf] at hhd
        obtain rfl : y = x := by simpa using hhd
        obtain ⟨m, rfl⟩ := Nat.exists_eq_succ_of_ne_zero hn
        exact ⟨q.take m, by simp⟩
    rw [hr] at hown hhit hst
    have hmr := hmost _ hhit rfl
    have hrd := hok.rise.drop hc0 P kr
    have hokd : RestOk (classAt L) (dropPs kr P) := hok.sub (drop_mem P kr) hrd (by rw [dropPs_length]; exact Nat.le_refl _)
    obtain ⟨js, jr, jl⟩ := join_scan hmost hc0 (dropPs kr P) (x :: r) 0 hrd (Int.le_refl _) rfl hmr
    rw [dropPs_flat, ← hst, HS.out] at js
    have hdec : decide (kr ≠ 0) = true := by simpa using hn
    rw [hdec]
    have HJS : Hid (S = _) := js
    have hjm := join_mem (cls := classAt L) (fnd := fndT E) (m := longT E x) (dropPs kr P) (x :: r)
    clear hst hbeg hkr hN hr hhit js HS
    go_wp2_with fail
    refine hdr.mono ?_
    rintro e W3 ⟨rfl, hk3, hmv3⟩
    have hmv : Mv B g W W3 := (Mv.below hb2).trans hmv3
    have hown3 : IOwn W3 W.heap.size (.slice (some ⟨gr, 0, none⟩) kr cr) (x :: r) := own_other hown (fun k hk' => hmv3.block k (own_lt hown k hk') (by have := (own_ge hown hk').1; omega) (by have := (own_ge hown hk').1; omega))
    have hjo := mjoin_any hk3 hd ht hx hokd.int (by have := hokd.len; omega) (fun p hp => by have := hokd.few p hp; omega) hm8 hmr ⟨hBW, hgW, hmv.size, hk.below.size⟩ hown3
    generalize joinPs (classAt L) (fndT E) (longT E x) (x :: r) (dropPs kr P) = J at hjo jr jl HJS hjm
    go_wp2_with fail
    refine hjo.mono ?_
    rintro e W4 ⟨g2, k2, c2, rfl, hown4, hk4, hkg⟩
    have hfin : IOwn W4 W.heap.size (.slice (some ⟨g2, 0, none⟩) k2 c2) S.1 ∧ J.2.flatten = S.2 := by rw [HJS.out]; exact ⟨hown4, rfl⟩
    clear HJS
    go_wp2_with fail
    go_ret
    exact ⟨_, J.2, rfl, hfin.1, hfin.2, hk4, hokd.sub hjm jr (by rw [jl]; exact Nat.le_refl _), ⟨Nat.le_trans hmv.size hkg.size, fun k h1 h2 h3 => (hkg.block k h1 h3).trans (hmv.block k h1 h2 h3)⟩⟩
section
variable {cls : Int → Int}
theorem byC_more : ∀ (n k : Nat) (l : List Int), l.length ≤ n → l.length ≤ k → byC cls n l = byC cls k l := by
  intro n
  induction n with
  | zero =>
    intro k l h1 _
    obtain rfl : l = [] := List.eq_nil_of_length_eq_zero (by omega)
    cases k <;> rfl
  | succ n ih =>
    intro k l h1 h2
    cases l with
    | nil => cases k <;> rfl
    | cons x xs =>
      cases k with
      | zero => simp at h2
      | succ k =>
        have := dropWhile_len (p := fun y => cls y == cls x) xs
        simp only [List.length_cons] at h1 h2
        rw [byC, byC, ih k _ (by omega) (by omega)]
def pcsC (cls : Int → Int) (l : List Int) : List (List Int) := byC cls l.length l
theorem while_cut (c : Int) : ∀ (xs : List Int) (k : Nat), k ≤ xs.length → (∀ i, i < k → cls (xs.getD i 0) = c) → (k < xs.length → cls (xs.getD k 0) ≠ c) → xs.takeWhile (fun y => cls y == c) = xs.take k ∧ xs.dropWhile (fun y => cls y == c) = xs.drop k := by
  intro xs
  induction xs with
  | nil => intro k hk _ _; simp at hk; subst hk; simp
  | cons x t ih =>
    intro k hk h1 h2
    cases k with
    | zero =>
      have := h2 (by simp)
      simp at this
      simp [this]
    | succ k =>
      have h0 := h1 0 (by omega)
      simp at h0
      obtain ⟨e1, e2⟩ := ih k (by simpa using hk) (fun i hi => by have := h1 (i + 1) (by omega); simpa using this) (fun hi => by have := h2 (by simp; omega); simpa using this)
      simp [h0, e1, e2]
structure RunEnds (cls : Int → Int) (X : List Int) (fr en : Nat) : Prop where
  lt : fr < en
  le : en ≤ X.length
  same : ∀ i, fr ≤ i → i < en → cls (X.getD i 0) = cls (X.getD fr 0)
  stop : en < X.length → cls (X.getD en 0) ≠ cls (X.getD fr 0)
theorem getD_drop (X : List Int) (a i : Nat) : (X.drop a).getD i 0 = X.getD (a + i) 0 := by simp [List.getD_eq_getElem?_getD, List.getElem?_drop]
theorem RunEnds.cut {X : List Int} {fr en : Nat} (h : RunEnds cls X fr en) : pcsC cls (X.drop fr) = (X.drop fr).take (en - fr) :: pcsC cls (X.drop en) := by
  have h1 := h.lt
  have h2 := h.le
  have hdr : X.drop fr = X[fr] :: X.drop (fr + 1) := List.drop_eq_getElem_cons (by omega)
  have hx : X.getD fr 0 = X[fr] := by simp [List.getD_eq_getElem?_getD, List.getElem?_eq_getElem (show fr < X.length by omega)]
  obtain ⟨e1, e2⟩ := while_cut (cls := cls) (cls X[fr]) (X.drop (fr + 1)) (en - fr - 1) (by rw [List.length_drop]; omega)
    (fun i hi => by rw [getD_drop, h.same _ (by omega) (by omega), hx])
    (fun hi => by
      rw [List.length_drop] at hi
      rw [getD_drop, show fr + 1 + (en - fr - 1) = en by omega, ← hx]
      exact h.stop (by omega))
  have e3 : (X[fr] :: X.drop (fr + 1)).take (en - fr) = X[fr] :: (X.drop (fr + 1)).take (en - fr - 1) := by
    obtain ⟨k, hk⟩ : ∃ k, en - fr = k + 1 := ⟨en - fr - 1, by omega⟩
    rw [hk, List.take_succ_cons, Nat.add_sub_cancel]
  unfold pcsC
  rw [hdr, e3]
  simp only [List.length_cons, byC]
  rw [e1, e2, List.drop_drop, show fr + 1 + (en - fr - 1) = en by omega, byC_more _ (X.drop en).length _ (by simp; omega) (Nat.le_refl _)]
end
structure PcO (n₀ : Nat) (W : World) (base : Nat) (v : Value) (ps : List (List Int)) : Prop where
  row : ∃ vs : List Value, W.ownsRow base 24 1 v ps.length vs ∧ ∀ j (h : j < ps.length), ∃ b o c, vs[j]? = some (.slice (some ⟨b, o, none⟩) ps[j].length c) ∧ ps[j].length ≤ c ∧ Pc n₀ W b o ps[j]
theorem info24 : (Tryz.prog.info? 24).map (fun i => (i.zero, i.size, i.bytes)) = some (some (.slice none 0 0), 1, 24) := by kernel_rfl
theorem wpList_append_slice {w : World} {ops : Array Oper} {rest : List Oper} {o : Oper} {a : Act} {Q : Exit → Act → World → Prop} (hgd : o.guard = none) (s x : Operand)
    (ho : o.op = .call { callee := .builtin .append, args := #[s, x], argTypes := #[42, 42] })
    (base : Nat) (v : Value) (vs : List Value) (hs : a.eval s = v) (hown : w.ownsRow base 24 1 v vs.length vs) (sa : Option Addr) (sn sc : Nat) (ad : Addr) (c : Nat) (hx : a.eval x = .slice (some ad) 1 c) (hcell : w.cell? ad = some (.slice sa sn sc))
    (hlen : vs.length ≤ 1000000000000) (hbase : base ≤ w.heap.size)
    (h : ∀ v' w', w'.ownsRow base 24 1 v' (vs.length + 1) (vs ++ [.slice sa sn sc]) → w.grownBy w' v.ownBlock → (v'.ownBlock = v.ownBlock ∨ v'.ownBlock = some w.heap.size) → wpList Tryz.prog ops Q rest (a.put o.dst v') w') :
    wpList Tryz.prog ops Q (o :: rest) a w := by
  obtain ⟨i, hi, hz, hsz, hby⟩ := info_parts info24
  refine wpList_append_own_at (P := Tryz.prog) _ hgd s x 42 ho base 24 i (.slice none 0 0) 1 24 Tryz.underlying42 hi hz hsz hby rfl (by decide) v vs.length vs hs hown ad 1 c [.slice sa sn sc] hx (by simp) ?_ ?_ ?_ ?_ hbase ?_
  · intro j u hu
    match j, hu with
    | 0, hu => simp at hu; subst hu; rw [show ad.add 0 = ad by cases ad; simp [Addr.add]]; exact hcell
  · intro u hu
    simp at hu
    subst hu
    rfl
  · unfold maxLen; omega
  · omega
  · intro v' w' h1 h2 _ hat
    exact h v' w' h1 h2 hat
theorem PcO.nil (n₀ : Nat) (W : World) (base : Nat) : PcO n₀ W base (.slice none 0 0) [] := ⟨[], World.ownsRow_nil _ _ _ _, fun j h => absurd h (by simp)⟩
set_option maxHeartbeats 4000000 in
set_option maxRecDepth 20000 in
theorem mcut_any {bd : Nat} {L : List Mk} {F : Int → List Int} {b c : Nat} {X : List Int} {w : World} (hd : DataAt w bd L F) (hX : ∀ q ∈ X, InI q) (hin : IOwn w 0 (.slice (some ⟨b, 0, none⟩) X.length c) X) (hl : X.length ≤ 100000000000) :
    Calls Tryz.prog 36 #[.pointer (some ⟨bd, 0, none⟩), .slice (some ⟨b, 0, none⟩) X.length c] w fun e w' => ∃ v, e = .returned v ∧ PcO w.heap.size w' w.heap.size v (pcsC (classAt L) X) ∧ Below w.heap.size w w' := by
  obtain ⟨hbW, hcX, hcells⟩ : b < w.heap.size ∧ X.length ≤ c ∧ ∀ j, j < X.length → w.cell? ⟨b, j, none⟩ = some (.int .i64 (X.getD j 0)) := by
    rcases hin.form with ⟨e, _⟩ | ⟨g, cap, e, _, h1, h2, h3, _⟩
    · cases e
    · cases e; exact ⟨h1, h2, fun j hj => by rw [List.getD_eq_getElem?_getD]; exact h3 j hj⟩
  have h1 : ∀ W p q, Below w.heap.size w W → InI p → Calls Tryz.prog 21 #[.pointer (some ⟨bd, 0, none⟩), .int .i64 p] (W.drewN q) fun e w' => e = .returned (.int .i64 (classAt L p)) ∧ w' = W.drewN q := fun W p q hW hp => (class_any bd L F p _ hp (hd.below (hW.trans ((below_drewQ W q).mono hW.size)))).mono fun e w' h => ⟨h.1, h.2.symm⟩
  have HCX : Hid (X.length ≤ c) := hcX
  have HR : Hid ([] ++ pcsC (classAt L) (X.drop 0) = pcsC (classAt L) X) := by show _ = _; simp
  generalize pcsC (classAt L) X = R at HR ⊢
  clear hin hcX
  go_enter Tryz.func36, Tryz.ntmps36
  go_wp2_with fail
  go_loopw [5, 6, 7] (fun v fv tv wr => ∃ (fr : Nat) (acc : List (List Int)), fr ≤ X.length ∧ fv = .int .i64 fr ∧ tv = .int .i64 fr ∧ Aside (PcO w.heap.size wr w.heap.size v acc) ∧ Hid (acc.length ≤ fr ∧ ∃ a n c, v = .slice a n c) ∧ Hid (acc ++ pcsC (classAt L) (X.drop fr) = R) ∧ Below w.heap.size w wr) (fun _ fv _ _ => X.length - (intOf fv).toNat)
  case atStart => exact ⟨0, [], by omega, rfl, rfl, PcO.nil _ _ _, ⟨by simp, none, 0, 0, rfl⟩, HR, Below.refl _ _⟩
  case round =>
    clear HR
    obtain ⟨fr, acc, hfr, rfl, rfl, HPO, HV, HR, hbr⟩ := hrel
    obtain ⟨va, vn, vc, rfl⟩ := HV.out.2
    by_cases hlt : fr < X.length
    · have hx : InI (X.getD fr 0) := hX _ (getD_mem hlt)
      have cfr := (hbr.cell (p := ⟨b, fr, none⟩) hbW).trans (hcells fr hlt)
      go_wp2_with fail
      obtain ⟨wo, hwo⟩ : ∃ wo, wo = wr := ⟨_, rfl⟩
      subst hwo
      go_loopw [7] (fun tv wr2 => ∃ en : Nat, fr ≤ en ∧ en ≤ X.length ∧ tv = .int .i64 en ∧ Hid (∀ i, fr ≤ i → i < en → classAt L (X.getD i 0) = classAt L (X.getD fr 0)) ∧ Below wo.heap.size wo wr2) (fun tv _ => X.length - (intOf tv).toNat)
      case atStart => exact ⟨fr, Nat.le_refl _, hfr, rfl, fun i h1 h2 => absurd h2 (by omega), Below.refl _ _⟩
      case round =>
        clear cfr
        obtain ⟨en, he1, he2, rfl, HS, hb2⟩ := hrel
        have hbw := hbr.trans (hb2.mono hbr.size)
        have cfr := (hbw.cell (p := ⟨b, fr, none⟩) hbW).trans (hcells fr hlt)
        have HE : Hid (en < X.length → classAt L (X.getD en 0) = classAt L (X.getD fr 0) → ∀ i, fr ≤ i → i < en + 1 → classAt L (X.getD i 0) = classAt L (X.getD fr 0)) := fun _ hc i g1 g2 => by
          rcases Nat.lt_or_ge i en with h | h
          · exact HS.out i g1 h
          · obtain rfl : i = en := by omega
            exact hc
        have HF : Hid (¬ (en < X.length ∧ classAt L (X.getD en 0) = classAt L (X.getD fr 0)) → RunEnds (classAt L) X fr en) := fun hc => ⟨by
          rcases Nat.lt_or_ge fr en with h | h
          · exact h
          · obtain rfl : fr = en := by omega
            exact absurd ⟨hlt, rfl⟩ hc, he2, HS.out, fun h e => hc ⟨h, e⟩⟩
        have h2 : ∀ p q, InI p → Calls Tryz.prog 21 #[.pointer (some ⟨bd, 0, none⟩), .int .i64 p] (wr.drewN q) fun e w' => e = .returned (.int .i64 (classAt L p)) ∧ w' = wr.drewN q := fun p q hp => h1 wr p q hbw hp
        obtain ⟨bb, hbb⟩ : ∃ bb, bb = (decide (en < X.length) && (classAt L (X.getD en 0) == classAt L (X.getD fr 0))) := ⟨_, rfl⟩
        have HBB : Hid (bb = (decide (en < X.length) && (classAt L (X.getD en 0) == classAt L (X.getD fr 0)))) := hbb
        clear hbb
        go_upto_region 5 with fail
        go_cut [31] from 13 to 33 (fun v wx => v = .bool bb ∧ Aside (Below wo.heap.size wo wx))
        case first =>
          by_cases hen : en < X.length
          · have cen := (hbw.cell (p := ⟨b, en, none⟩) hbW).trans (hcells en hen)
            have hy : InI (X.getD en 0) := hX _ (getD_mem hen)
            have hb3 : (classAt L (X.getD en 0) == classAt L (X.getD fr 0)) = bb := by rw [HBB.out]; simp [hen]
            generalize X.getD en 0 = y at cen hy hb3
            generalize X.getD fr 0 = x at cfr hx hb3
            clear HE HF HBB HS
            go_quiet (first | (go_at_call 21; exact Calls.quiet_of_same (h2 _ _ (by assumption))))
            go_wp2_with fail
            go_meet
            exact ⟨by simp, hb2.trans ((below_drewQ wr _).mono hb2.size)⟩
          · have hb3 : bb = false := by rw [HBB.out]; simp [hen]
            have hen2 : ¬ ((en : Int) < (X.length : Int)) := by omega
            clear HE HF HBB HS
            subst hb3
            go_quiet (fail)
            go_wp2_with fail
            go_meet
            exact ⟨by simp, hb2.trans ((below_drewQ wr _).mono hb2.size)⟩
        case rest =>
          obtain ⟨rfl, HB2⟩ := hcut
          clear cfr hb2 hbw h2 HS
          cases bb with
          | true =>
            have hbb := HBB.out
            simp at hbb
            have HS2 : Hid (∀ i, fr ≤ i → i < en + 1 → classAt L (X.getD i 0) = classAt L (X.getD fr 0)) := HE.out hbb.1 hbb.2
            have hen := hbb.1
            clear HE HF HBB hbb
            go_wp2_with fail
            go_roundw
            case rel => exact ⟨en + 1, by omega, by omega, by simp, HS2, HB2.out⟩
            case measure => simp only [intOf]; omega
          | false =>
            have hbb := HBB.out
            have hre : RunEnds (classAt L) X fr en := HF.out (fun h => by rw [decide_eq_true h.1, h.2] at hbb; simp at hbb)
            obtain ⟨vs, hrow, hvs⟩ := HPO.out.row
            have hvl : vs.length = acc.length := by have := hrow.1; omega
            have hrow' : wc.ownsRow w.heap.size 24 1 (.slice va vn vc) vs.length vs := by rw [hvl]; exact own_after hrow HB2.out
            have hbc : Below w.heap.size w wc := hbr.trans (HB2.out.mono hbr.size)
            have hcut := hre.cut
            have hRR : Hid (acc ++ [(X.drop fr).take (en - fr)] ++ pcsC (classAt L) (X.drop en) = R) := by
              show _ = _
              rw [← HR.out, hcut]
              simp
            have hen1 := hre.lt
            have hcfr : ¬ c = fr := by have := HCX.out; omega
            have hcc : en ≤ c := by have := HCX.out; omega
            have hbA := (Below.refl wc.heap.size wc).alloc (Nat.le_refl _) (.cells #[.slice (some ⟨b, fr, none⟩) (en - fr) (c - fr)] 24)
            have hnb := Blk.new wc 24 #[.slice (some ⟨b, fr, none⟩) (en - fr) (c - fr)]
            have hszA : w.heap.size ≤ (wc.alloc (.cells #[.slice (some ⟨b, fr, none⟩) (en - fr) (c - fr)] 24)).heap.size := Nat.le_trans hbc.size hbA.size
            have HROW : Aside ((wc.alloc (.cells #[.slice (some ⟨b, fr, none⟩) (en - fr) (c - fr)] 24)).ownsRow w.heap.size 24 1 (.slice va vn vc) vs.length vs) := own_after hrow' hbA
            have hvl2 : vs.length ≤ 1000000000000 := by have := HV.out.1; omega
            clear HBB hbb HE HF hrow hrow' hre hcut
            go_wp2_with (first | (at_builtin; refine wpList_append_slice rfl _ _ rfl w.heap.size _ vs rfl HROW.out (some ⟨b, fr, none⟩) (en - fr) (c - fr) ⟨wc.heap.size, 0, none⟩ _ rfl (hnb.cell 0) hvl2 hszA ?_; intro v4 w4 hown4 hgr4 hat4; obtain ⟨a4, c4, rfl⟩ := row_val hown4))
            have hb4 : Below w.heap.size w w4 := (hbc.alloc hbc.size _).grown hgr4 hszA (fun j hj => (own_ge HROW.out hj).1)
            have HPO4 : Aside (PcO w.heap.size w4 w.heap.size (.slice a4 (vs.length + 1) c4) (acc ++ [(X.drop fr).take (en - fr)])) := by
              refine ⟨vs ++ [.slice (some ⟨b, fr, none⟩) (en - fr) (c - fr)], by rw [List.length_append, ← hvl]; exact hown4, fun j hj => ?_⟩
              rcases Nat.lt_or_ge j acc.length with h | h
              · obtain ⟨b', o', c', q1, q2, q3⟩ := hvs j h
                rw [List.getElem_append_left h]
                exact ⟨b', o', c', by rw [List.getElem?_append_left (by omega)]; exact q1, q2, q3.same (fun k hk => (hb4.block k hk).trans (hbr.block k hk).symm)⟩
              · have hj' : j = acc.length := by simp at hj; omega
                subst hj'
                have hlt2 : ((X.drop fr).take (en - fr)).length = en - fr := by rw [List.length_take, List.length_drop]; omega
                simp only [List.getElem_append_right (Nat.le_refl _), Nat.sub_self, List.getElem_cons_zero, hlt2]
                refine ⟨b, fr, c - fr, by rw [List.getElem?_append_right (by omega), hvl]; simp, by omega, hbW, fun i hi => ?_⟩
                rw [hlt2] at hi
                rw [(hb4.cell (p := ⟨b, fr + i, none⟩) hbW), hcells (fr + i) (by omega), List.getElem?_take_of_lt hi, List.getElem?_drop, List.getD_eq_getElem?_getD]
            clear hown4 hgr4 hat4 HROW hvs
            go_roundw
            case rel => exact ⟨en, acc ++ [(X.drop fr).take (en - fr)], by omega, by simp, by simp, by rw [← hvl]; exact HPO4, ⟨by have := HV.out.1; simp; omega, _, _, _, rfl⟩, hRR, hb4⟩
            case measure => simp only [intOf]; omega
    · have hRR : R = acc := by
        rw [← HR.out, List.drop_of_length_le (by omega)]
        simp [pcsC, byC]
      clear HR
      go_wp2_with fail
      go_ret
      rw [hRR]
      exact ⟨_, rfl, HPO.out, hbr⟩
end Go.Proofs.YtkcnjnccdafbfaaGreatDoor
namespace Go.Proofs.YtkcnjnccdafbfaaGreatDoor
open Go.ChangeShapes Go.WideShapes Go.ChangeAt Go.RowKit Go.Deep Go.Vf Go.Maps
theorem append_empty (w : World) (ty : TypeId) (ba : Option Addr) (n c : Nat) (hle : n ≤ c) (pa : Option Addr) (pc : Nat) : (Builtin.append_ #[24, 24] ty #[.slice ba n c, .slice pa 0 pc]).run Tryz.prog w = .ok (.slice ba n c) w := by
  obtain ⟨i, hi, hz, hsz, hby⟩ := info_parts info3
  cases pa with
  | none => exact run_append_nothing (P := Tryz.prog) w 24 24 ty 3 i Tryz.underlying24 hi ba n c hle _ (Src.ofNil w Tryz.underlying24 pc)
  | some ad => exact run_append_nothing (P := Tryz.prog) w 24 24 ty 3 i Tryz.underlying24 hi ba n c hle _ (Src.ofSlice w Tryz.underlying24 ad 0 pc [] (by simp) (by simp) (by simp))
theorem wpList_append_any {w : World} {ops : Array Oper} {rest : List Oper} {o : Oper} {a : Act} {Q : Exit → Act → World → Prop} (hgd : o.guard = none) (s x : Operand)
    (ho : o.op = .call { callee := .builtin .append, args := #[s, x], argTypes := #[24, 24] })
    (base : Nat) (v : Value) (zs : List Int) (hs : a.eval s = v) (hown : IOwn w base v zs) (ys : List Int) (n₀ : Nat) (vx : Value) (hx : a.eval x = vx) (hin : Ints n₀ w vx ys) (hlen : zs.length + ys.length ≤ 1099511627776) (hbase : base ≤ w.heap.size)
    (h : ∀ a' c' w', IOwn w' base (.slice a' (zs.length + ys.length) c') (zs ++ ys) → Below base w w' → w.grownBy w' v.ownBlock → ((Value.slice a' (zs.length + ys.length) c').ownBlock = v.ownBlock ∨ (Value.slice a' (zs.length + ys.length) c').ownBlock = some w.heap.size) → wpList Tryz.prog ops Q rest (a.put o.dst (.slice a' (zs.length + ys.length) c')) w') :
    wpList Tryz.prog ops Q (o :: rest) a w := by
  by_cases hy : ys = []
  · subst hy
    obtain ⟨pa, pc, rfl⟩ : ∃ pa pc, vx = .slice pa 0 pc := by
      rcases hin with ⟨a, c, e, _⟩ | ⟨b, off, c, e, _⟩
      · exact ⟨a, c, e⟩
      · exact ⟨some ⟨b, off, none⟩, c, by simpa using e⟩
    obtain ⟨ba, c, hv, hle⟩ : ∃ ba c, v = .slice ba zs.length c ∧ zs.length ≤ c := by
      rcases hown.form with ⟨e, e2⟩ | ⟨g, cap, e, _, _, hc, _⟩
      · subst e2; exact ⟨none, 0, e, Nat.le_refl _⟩
      · exact ⟨_, cap, e, hc⟩
    have hr := append_empty w o.type ba zs.length c hle pa pc
    refine wpList_plain hgd fun K hK => ?_
    unfold Oper.wp execOp
    simp only [ho, resolve, invoke, builtin, Sem.run_bind, Sem.run_pure, Result.andThen_ok, List.map_toArray, List.map_cons, List.map_nil, hs, hx, hv, hr]
    subst hv
    exact hK _ _ (h ba c w (by rw [List.append_nil]; exact hown) (Below.refl _ _) ⟨rfl, rfl, rfl, Nat.le_refl _, fun _ _ _ => rfl⟩ (.inl rfl))
  · obtain ⟨b, off, hao, _, _, hcell⟩ : ∃ b off, (∃ c, vx = .slice (some ⟨b, off, none⟩) ys.length c) ∧ True ∧ True ∧ ∀ j, j < ys.length → w.cell? ⟨b, off + j, none⟩ = some (.int .i64 (ys[j]?.getD 0)) := by
      rcases hin with ⟨_, _, _, e⟩ | ⟨b, off, c, e, hb, hc⟩
      · exact absurd e hy
      · exact ⟨b, off, ⟨c, e⟩, trivial, trivial, hc⟩
    obtain ⟨c, rfl⟩ := hao
    refine wpList_append_ints hgd s x ho base v zs hs hown ys ⟨b, off, none⟩ c hx (fun j hj => by rw [show (⟨b, off, none⟩ : Addr).add j = ⟨b, off + j, none⟩ by simp [Addr.add]]; exact hcell j hj) hlen hbase ?_
    intro a' c' w' h1 h2 _ h4
    exact h a' c' w' h1 ((Below.refl _ w).grown h2 hbase (fun j hj => (own_ge hown hj).1)) h2 h4
end Go.Proofs.YtkcnjnccdafbfaaGreatDoor
namespace Go.Proofs.YtkcnjnccdafbfaaGreatDoor
open Go.RowKit Go.Vf Go.Maps
structure Formed (L : List Mk) (E : Int → List Int) (ps X : List Int) : Prop where
  form : IsForm L E ps X
  mem : ∀ x ∈ X, x ∈ flatR E ps
  len : X.length = (flatR E ps).length
theorem FormPost.formed {L : List Mk} {E : Int → List Int} {w : World} {ps : List Int} {e : Ending} {w' : World} (h : FormPost L E w ps e w') : ∃ g k c X, e = .returned (.slice (some ⟨g, 0, none⟩) k c) ∧ IOwn w' w.heap.size (.slice (some ⟨g, 0, none⟩) k c) X ∧ Formed L E ps X ∧ Below w.heap.size w w' := by
  obtain ⟨g, k, c, X, h1, h2, h3, ⟨h4, h5⟩, h6⟩ := h
  exact ⟨g, k, c, X, h1, h2, ⟨h3, h4, h5⟩, h6⟩
theorem form_few {w : World} {bd : Nat} {L : List Mk} {E : Int → List Int} (h : DataAt w bd L E) {ps X : List Int} (hf : Formed L E ps X) (n : Nat) (hp : ps.length ≤ n) : X.length ≤ 57 * n := by
  have := (flat_len h ps).1
  rw [hf.len]
  omega
theorem formed_in {t : List UInt8} {L : List Mk} {E : Int → List Int} (h : loadR t = .ok (L, E)) {ps X : List Int} (hps : ∀ q ∈ ps, InI q) (hf : Formed L E ps X) : ∀ q ∈ X, InI q := fun q hq => flat_in h hps q (hf.mem q hq)
end Go.Proofs.YtkcnjnccdafbfaaGreatDoor
