/- Contracts and lemmas (nothing is claimed here). -/
import Derived.Test.YtkcnjnccdafbfaaGreatDoorJ33
import Derived.Test.YtkcnjnccdafbfaaGreatDoorJ23
import Derived.Test.YtkcnjnccdafbfaaGreatDoorJ16
import Derived.Test.YtkcnjnccdafbfaaGreatDoorJ20
namespace Go.Proofs.YtkcnjnccdafbfaaGreatDoor
open Go.RowKit Go.Vf Go.Maps
def NIn (n₀ : Nat) (w : World) (v : Value) (l : List Ent) : Prop :=
  (∃ a cap, v = .slice a 0 cap ∧ l = []) ∨ ∃ b off cap, v = .slice (some ⟨b, off, none⟩) l.length cap ∧ b < n₀ ∧ ∀ j (hj : j < l.length), ∃ pv ev, w.cell? ⟨b, off + j * 2, none⟩ = some pv ∧ Ints n₀ w pv l[j].1 ∧ w.cell? ⟨b, off + j * 2 + 1, none⟩ = some ev ∧ Els n₀ w ev l[j].2
theorem NIn.val {n₀ : Nat} {w : World} {v : Value} {l : List Ent} (h : NIn n₀ w v l) : ∃ a cap, v = .slice a l.length cap := by
  rcases h with ⟨a, cap, rfl, rfl⟩ | ⟨b, off, cap, rfl, _⟩
  · exact ⟨_, _, rfl⟩
  · exact ⟨_, _, rfl⟩
theorem NIn.below {n₀ n : Nat} {A B : World} {v : Value} {l : List Ent} (h : NIn n₀ A v l) (hb : Below n A B) (hn : n₀ ≤ n) : NIn n₀ B v l := by
  rcases h with h | ⟨b, off, cap, e, hlt, hc⟩
  · exact .inl h
  · refine .inr ⟨b, off, cap, e, hlt, fun j hj => ?_⟩
    obtain ⟨pv, ev, h1, h2, h3, h4⟩ := hc j hj
    exact ⟨pv, ev, (hb.cell (p := ⟨b, _, none⟩) (show b < n by omega)).trans h1, h2.below hb hn, (hb.cell (p := ⟨b, _, none⟩) (show b < n by omega)).trans h3, h4.below hb hn⟩
theorem NIn.mono {n₀ n : Nat} {A : World} {v : Value} {l : List Ent} (h : NIn n₀ A v l) (hn : n₀ ≤ n) : NIn n A v l := by
  rcases h with h | ⟨b, off, cap, e, hlt, hc⟩
  · exact .inl h
  · refine .inr ⟨b, off, cap, e, Nat.lt_of_lt_of_le hlt hn, fun j hj => ?_⟩
    obtain ⟨pv, ev, h1, h2, h3, h4⟩ := hc j hj
    exact ⟨pv, ev, h1, h2.mono hn, h3, h4.mono hn⟩
theorem NIn.at {n₀ : Nat} {w : World} {a : Option Addr} {k cap : Nat} {l : List Ent} (h : NIn n₀ w (.slice a k cap) l) {j : Nat} (hj : j < l.length) : ∃ b off pv, a = some ⟨b, off, none⟩ ∧ w.cell? ⟨b, off + j * 2, none⟩ = some pv ∧ Ints n₀ w pv l[j].1 := by
  rcases h with ⟨a', cap', e, rfl⟩ | ⟨b, off, cap', e, hb, hc⟩
  · simp at hj
  · cases (Value.slice.inj e).1
    obtain ⟨pv, ev, h1, h2, _⟩ := hc j hj
    exact ⟨b, off, pv, rfl, h1, h2⟩
def RiseE (l : List Ent) : Prop := (l.map Prod.fst).Pairwise fun a b => aheadL a b < 0
theorem riseE_at {l : List Ent} (h : RiseE l) {i j : Nat} (hi : i < l.length) (hj : j < l.length) (hij : i < j) : aheadL (l[i]).1 (l[j]).1 < 0 := by
  have := List.pairwise_iff_getElem.1 h i j (by simpa using hi) (by simpa using hj) hij
  simpa using this
structure PlaceE (l : List Ent) (p : List Int) (k : Nat) : Prop where
  le : k ≤ l.length
  lo : ∀ i (h : i < l.length), i < k → aheadL (l[i]).1 p < 0
  hi : ∀ i (h : i < l.length), k ≤ i → 0 ≤ aheadL (l[i]).1 p
def PlacePostE (l : List Ent) (p : List Int) (w : World) (e : Ending) (w' : World) : Prop := ∃ (k : Nat) (b : Bool), PlaceE l p k ∧ e = .returned (.tuple #[.int .i64 k, .bool b]) ∧ ((b = true ∧ ∃ h : k < l.length, (l[k]).1 = p) ∨ (b = false ∧ ∀ i (h : i < l.length), (l[i]).1 ≠ p)) ∧ Below w.heap.size w w'
theorem results101_run {tmps : Array Value} {w : World} {a b : Value} (t2 : tmps[4]?.getD undef = a) (t3 : tmps[5]?.getD undef = b) : (results Tryz.f32 tmps).run Tryz.prog w = .ok (.tuple #[a, b]) w := by
  simp [results, Tryz.results32, go_sem, t2, t3]
set_option maxHeartbeats 4000000 in
set_option maxRecDepth 20000 in
theorem refPlaceE_any (l : List Ent) (hrise : RiseE l) (hll : l.length ≤ 1048576) (hls : ∀ e ∈ l, e.1.length ≤ 1048576) (v pv : Value) (p : List Int) (hpl : p.length ≤ 1048576) (n₀ : Nat) (w : World) (hn₀ : n₀ ≤ w.heap.size) (hin : NIn n₀ w v l) (hp : Ints n₀ w pv p) :
    Calls Tryz.prog 32 #[.agg #[v], pv] w fun e w' => PlacePostE l p w e w' := by
  obtain ⟨a, cap, rfl⟩ := hin.val
  have hb0 := (Below.refl w.heap.size w).alloc (Nat.le_refl _) (.cells #[.slice a l.length cap] 37)
  have hbn := Blk.new w 37 #[.slice a l.length cap]
  have hin0 := hin.below hb0 hn₀
  have hp0 := hp.below hb0 hn₀
  go_enter Tryz.func32, Tryz.ntmps32
  go_upto_region 1 with fail
  generalize w.alloc (.cells #[.slice a l.length cap] 37) = W at hb0 hbn hin0 hp0 ⊢
  have e0 : W.cell? ⟨w.heap.size, 0, none⟩ = some (.slice a l.length cap) := hbn.cell 0
  have HA : Hid (∀ (i : Nat) (hi : i < l.length) (qv : Value) (n : Nat), Ints n₀ W qv (l[i]).1 → Calls Tryz.prog 68 #[qv, pv] (W.drewN n) fun e w' => e = .returned (.int .i64 (aheadL (l[i]).1 p)) ∧ ∃ m, w' = (W.drewN n).drewN m) := fun i hi qv n hq => by
    have := hls _ (List.getElem_mem hi)
    exact ahead_any n₀ n₀ qv pv _ _ (W.drewN n) hq hp0 (by omega) (by omega)
  go_wp2_with fail
  go_loopw [6, 7, 8] (fun x y _ wr => ∃ (lo hi n : Nat), lo ≤ hi ∧ hi ≤ l.length ∧ x = .int .i64 lo ∧ y = .int .i64 hi ∧ Hid ((∀ i (h : i < l.length), i < lo → aheadL (l[i]).1 p < 0) ∧ (∀ i (h : i < l.length), hi ≤ i → 0 ≤ aheadL (l[i]).1 p)) ∧ wr = W.drewN n) (fun x y _ _ => (intOf y).toNat - (intOf x).toNat)
  case atStart => exact ⟨0, l.length, 0, by omega, by omega, rfl, rfl, ⟨fun i h h2 => absurd h2 (by omega), fun i h h2 => absurd h (by omega)⟩, rfl⟩
  case round =>
    obtain ⟨lo, hi, nd, hle, hhi, rfl, rfl, HI, rfl⟩ := hrel
    by_cases hlt : lo < hi
    · have hmid : (lo + hi) / 2 < l.length := by omega
      obtain ⟨b, off, qv, hao, c0, hq⟩ := hin0.at hmid
      subst hao
      have hcall := HA.out _ hmid qv nd hq
      have HL : Hid (∀ i (h : i < l.length), i < (lo + hi) / 2 + 1 → aheadL (l[i]).1 p < 0 ∨ ¬ aheadL (l[(lo + hi) / 2]).1 p < 0) := fun i h h2 => by
        by_cases hp : aheadL (l[(lo + hi) / 2]).1 p < 0
        · left
          rcases Nat.lt_or_ge i ((lo + hi) / 2) with h3 | h3
          · exact aheadL_trans _ _ _ (riseE_at hrise h hmid h3) hp
          · obtain rfl : i = (lo + hi) / 2 := by omega
            exact hp
        · right; exact hp
      have HH : Hid (∀ i (h : i < l.length), (lo + hi) / 2 ≤ i → 0 ≤ aheadL (l[i]).1 p ∨ aheadL (l[(lo + hi) / 2]).1 p < 0) := fun i h h2 => by
        by_cases hp : aheadL (l[(lo + hi) / 2]).1 p < 0
        · right; exact hp
        · left
          rcases Nat.lt_or_ge ((lo + hi) / 2) i with h3 | h3
          · exact Int.not_lt.1 fun h4 => hp (aheadL_trans _ _ _ (riseE_at hrise hmid h h3) h4)
          · obtain rfl : i = (lo + hi) / 2 := by omega
            exact Int.not_lt.1 hp
      generalize aheadL (l[(lo + hi) / 2]).1 p = pt at hcall HL HH
      have hm1 : lo ≤ (lo + hi) / 2 ∧ (lo + hi) / 2 < hi := by omega
      obtain ⟨M, hM⟩ : ∃ M, (lo + hi) / 2 = M := ⟨_, rfl⟩
      have hMi : ((lo : Int) + (hi : Int)) / 2 = (M : Int) := by omega
      rw [hM] at c0 HL HH hm1 hmid
      clear hq
      by_cases hp : pt < 0
      · have HI2 : Hid ((∀ i (h : i < l.length), i < M + 1 → aheadL (l[i]).1 p < 0) ∧ (∀ i (h : i < l.length), hi ≤ i → 0 ≤ aheadL (l[i]).1 p)) := ⟨fun i h h2 => (HL.out i h h2).resolve_right (by omega), HI.out.2⟩
        clear HI HL HH hM
        go_wp2_with fail
        refine hcall.mono ?_
        rintro _ w1 ⟨rfl, nm, rfl⟩
        go_wp2_with fail
        exact ⟨⟨M + 1, hi, nd + nm, by omega, by omega, by go_num, rfl, HI2, by simp⟩, by simp only [intOf]; omega⟩
      · have HI2 : Hid ((∀ i (h : i < l.length), i < lo → aheadL (l[i]).1 p < 0) ∧ (∀ i (h : i < l.length), M ≤ i → 0 ≤ aheadL (l[i]).1 p)) := ⟨HI.out.1, fun i h h2 => (HH.out i h h2).resolve_right hp⟩
        clear HI HL HH hM
        go_wp2_with fail
        refine hcall.mono ?_
        rintro _ w1 ⟨rfl, nm, rfl⟩
        go_wp2_with fail
        exact ⟨⟨lo, M, nd + nm, by omega, by omega, rfl, by first | rfl | exact congrArg (Value.int .i64) hMi, HI2, by simp⟩, by simp only [intOf]; omega⟩
    · obtain rfl : hi = lo := by omega
      have HPA : Hid (PlaceE l p hi) := ⟨hhi, HI.out.1, HI.out.2⟩
      clear HI
      by_cases hk : hi < l.length
      · obtain ⟨b, off, qv, hao, c0, hq⟩ := hin0.at hk
        subst hao
        have hcall := HA.out _ hk qv nd hq
        obtain ⟨pt, hpt⟩ : ∃ pt, aheadL (l[hi]).1 p = pt := ⟨_, rfl⟩
        have HPT : Hid (aheadL (l[hi]).1 p = pt) := hpt
        rw [hpt] at hcall
        clear hpt hq
        have d1 : decide ((hi : Int) < (l.length : Int)) = true := by simp; omega
        by_cases hp : pt = 0
        · have d2 : (pt == 0) = true := by simp [hp]
          have HY : Hid (∃ h : hi < l.length, (l[hi]).1 = p) := ⟨hk, aheadL_zero _ _ (by rw [HPT.out, hp])⟩
          clear hp
          go_wp2_with fail
          refine hcall.mono ?_
          rintro _ w1 ⟨rfl, nm, rfl⟩
          go_wp2_with fail
          refine bodyPost_ret (results101_run rfl rfl) rfl ?_
          exact ⟨hi, true, HPA.out, rfl, .inl ⟨rfl, HY.out⟩, hb0.trans (below_drewN W _ _)⟩
        · have d2 : (pt == 0) = false := by simp [hp]
          have HN : Hid (∀ i (h : i < l.length), (l[i]).1 ≠ p) := fun i h e => by
            rcases Nat.lt_or_ge i hi with h1 | h1
            · have := HPA.out.lo i h h1; rw [e, aheadL_self] at this; omega
            · rcases Nat.lt_or_ge hi i with h2 | h2
              · have h3 := riseE_at hrise hk h h2
                rw [e] at h3
                have := HPA.out.hi hi hk (Nat.le_refl _); omega
              · obtain rfl : i = hi := by omega
                refine hp (HPT.out.symm.trans ?_)
                rw [e, aheadL_self]
          clear hp
          go_wp2_with fail
          refine hcall.mono ?_
          rintro _ w1 ⟨rfl, nm, rfl⟩
          go_wp2_with fail
          refine bodyPost_ret (results101_run rfl rfl) rfl ?_
          exact ⟨hi, false, HPA.out, rfl, .inr ⟨rfl, HN.out⟩, hb0.trans (below_drewN W _ _)⟩
      · have d1 : decide ((hi : Int) < (l.length : Int)) = false := by simp; omega
        have HN : Hid (∀ i (h : i < l.length), (l[i]).1 ≠ p) := fun i h e => by
          have := HPA.out.lo i h (by omega); rw [e, aheadL_self] at this; omega
        go_wp2_with fail
        refine bodyPost_ret (results101_run rfl rfl) rfl ?_
        exact ⟨hi, false, HPA.out, rfl, .inr ⟨rfl, HN.out⟩, hb0.trans (below_drewN W _ _)⟩
theorem aheadL_swap : ∀ a b : List Int, 0 < aheadL a b → aheadL b a < 0 := by
  intro a
  induction a with
  | nil => intro b h; cases b <;> simp [aheadL] at h
  | cons x a ih =>
    intro b h
    cases b with
    | nil => simp [aheadL]
    | cons y b =>
      simp only [aheadL] at h ⊢
      by_cases h1 : x < y
      · rw [if_pos h1] at h; omega
      · rw [if_neg h1] at h
        by_cases h2 : y < x
        · rw [if_pos h2]; omega
        · rw [if_neg h2] at h
          rw [if_neg h2, if_neg h1]
          exact ih b h
theorem riseE_put {l : List Ent} {x : Ent} {k : Nat} (hr : RiseE l) (hp : PlaceE l x.1 k) (hno : ∀ i (h : i < l.length), (l[i]).1 ≠ x.1) : RiseE (l.take k ++ [x] ++ l.drop k) := by
  unfold RiseE at hr ⊢
  rw [List.map_append, List.map_append, List.append_assoc, List.pairwise_append]
  have hsp : l.map Prod.fst = (l.take k).map Prod.fst ++ (l.drop k).map Prod.fst := by rw [← List.map_append, List.take_append_drop]
  rw [hsp, List.pairwise_append] at hr
  have hlo : ∀ a ∈ (l.take k).map Prod.fst, aheadL a x.1 < 0 := fun a ha => by
    obtain ⟨y, hy, rfl⟩ := List.mem_map.1 ha
    obtain ⟨i, hi, rfl⟩ := List.mem_iff_getElem.1 hy
    rw [List.length_take] at hi
    rw [List.getElem_take]
    exact hp.lo i (by omega) (by omega)
  have hhi : ∀ a ∈ (l.drop k).map Prod.fst, aheadL x.1 a < 0 := fun a ha => by
    obtain ⟨y, hy, rfl⟩ := List.mem_map.1 ha
    obtain ⟨i, hi, rfl⟩ := List.mem_iff_getElem.1 hy
    rw [List.length_drop] at hi
    rw [List.getElem_drop]
    have h1 := hp.hi (k + i) (by omega) (by omega)
    refine aheadL_swap _ _ ?_
    have h2 : aheadL (l[k + i]).1 x.1 ≠ 0 := fun e => hno (k + i) (by omega) (aheadL_zero _ _ e)
    omega
  refine ⟨hr.1, ?_, ?_⟩
  · rw [List.pairwise_append]
    refine ⟨by simp, hr.2.1, fun a ha b hb => ?_⟩
    simp at ha
    subst ha
    exact hhi b hb
  · intro a ha b hb
    rcases List.mem_append.1 hb with hb | hb
    · simp at hb
      subst hb
      exact hlo a ha
    · exact hr.2.2 a ha b hb
theorem perm_put {l acc : List Ent} {x : Ent} {k : Nat} (h : l.Perm acc) : (l.take k ++ [x] ++ l.drop k).Perm (acc ++ [x]) := by
  have h1 : (l.take k ++ [x] ++ l.drop k).Perm (l.take k ++ l.drop k ++ [x]) := by
    rw [List.append_assoc, List.append_assoc]
    exact (List.perm_append_left_iff _).2 List.perm_append_comm
  rw [List.take_append_drop] at h1
  exact h1.trans (h.append_right _)
theorem has_iff {l acc : List Ent} (h : l.Perm acc) (p : List Int) : (∃ i, ∃ hi : i < l.length, (l[i]).1 = p) ↔ hasT acc p = true := by
  unfold hasT
  rw [List.any_eq_true]
  constructor
  · rintro ⟨i, hi, e⟩
    exact ⟨l[i], h.mem_iff.1 (List.getElem_mem hi), by simp [e]⟩
  · rintro ⟨x, hx, e⟩
    obtain ⟨i, hi, e2⟩ := List.mem_iff_getElem.1 (h.mem_iff.2 hx)
    exact ⟨i, hi, by rw [e2]; simpa using e⟩
theorem tab_silent {C : List (List UInt8)} {j : Nat} (hj : j < C.length) {n : Int} {acc : List Ent} (h : silentL C[j] = true) : tabL (C.drop j) n acc = tabL (C.drop (j + 1)) (n + 1) acc := by
  rw [List.drop_eq_getElem_cons hj, tabL, if_pos h]
theorem tab_none {C : List (List UInt8)} {j : Nat} (hj : j < C.length) {n : Int} {acc : List Ent} (h : silentL C[j] = false) (hm : entR C[j] = none) : tabL (C.drop j) n acc = .error (60, n + 1) := by
  rw [List.drop_eq_getElem_cons hj, tabL, if_neg (by simp [h]), hm]
theorem tab_weight {C : List (List UInt8)} {j : Nat} (hj : j < C.length) {n : Int} {x : Ent} {acc : List Ent} (h : silentL C[j] = false) (hm : entR C[j] = some x) (hw : ¬ x.2.all rightB = true) : tabL (C.drop j) n acc = .error (62, n + 1) := by
  rw [List.drop_eq_getElem_cons hj, tabL, if_neg (by simp [h]), hm]
  simp only
  rw [if_neg hw]
theorem tab_twice {C : List (List UInt8)} {j : Nat} (hj : j < C.length) {n : Int} {x : Ent} {acc : List Ent} (h : silentL C[j] = false) (hm : entR C[j] = some x) (hw : x.2.all rightB = true) (ha : hasT acc x.1 = true) : tabL (C.drop j) n acc = .error (61, n + 1) := by
  rw [List.drop_eq_getElem_cons hj, tabL, if_neg (by simp [h]), hm]
  simp only
  rw [if_pos hw, if_pos ha]
theorem tab_many {C : List (List UInt8)} {j : Nat} (hj : j < C.length) {n : Int} {x : Ent} {acc : List Ent} (h : silentL C[j] = false) (hm : entR C[j] = some x) (hw : x.2.all rightB = true) (ha : hasT acc x.1 = false) (hl : 4096 ≤ acc.length) : tabL (C.drop j) n acc = .error (2, n + 1) := by
  rw [List.drop_eq_getElem_cons hj, tabL, if_neg (by simp [h]), hm]
  simp only
  rw [if_pos hw, if_neg (by simp [ha]), if_pos hl]
theorem tab_more {C : List (List UInt8)} {j : Nat} (hj : j < C.length) {n : Int} {x : Ent} {acc : List Ent} (h : silentL C[j] = false) (hm : entR C[j] = some x) (hw : x.2.all rightB = true) (ha : hasT acc x.1 = false) (hl : acc.length < 4096) : tabL (C.drop j) n acc = tabL (C.drop (j + 1)) (n + 1) (acc ++ [x]) := by
  rw [List.drop_eq_getElem_cons hj, tabL, if_neg (by simp [h]), hm]
  simp only
  rw [if_pos hw, if_neg (by simp [ha]), if_neg (by omega)]
theorem tab_end {C : List (List UInt8)} {j : Nat} (hj : C.length ≤ j) {n : Int} {acc : List Ent} : tabL (C.drop j) n acc = .ok acc := by
  rw [List.drop_of_length_le hj, tabL]
theorem entR_row8 {l : List UInt8} {x : Ent} (h : entR l = some x) : x.1.length ≤ 8 ∧ x.2.length ≤ 16 := by
  obtain ⟨h1, h2⟩ := entR_parts h
  exact ⟨(rowB_lenE (rowR_parts h1).2.2).2, (elsR_len h2).2⟩
theorem info160 : (Tryz.prog.info? 59).map (fun i => (i.zero, i.size, i.bytes)) = some (some (.agg #[.slice none 0 0, .slice none 0 0]), 2, 48) := by kernel_rfl
abbrev EV := Ent × Value × Value
def flatE (ps : List EV) : List Value := ps.flatMap fun x => [x.2.1, x.2.2]
theorem flatE_append (a b : List EV) : flatE (a ++ b) = flatE a ++ flatE b := by simp [flatE]
theorem flatE_len (ps : List EV) : (flatE ps).length = ps.length * 2 := by
  induction ps with
  | nil => rfl
  | cons x r ih => rw [show flatE (x :: r) = [x.2.1, x.2.2] ++ flatE r from rfl, List.length_append, ih]; simp; omega
theorem flatE_at : ∀ (ps : List EV) (j : Nat) (hj : j < ps.length), (flatE ps)[j * 2]? = some (ps[j]).2.1 ∧ (flatE ps)[j * 2 + 1]? = some (ps[j]).2.2 := by
  intro ps
  induction ps with
  | nil => intro j hj; simp at hj
  | cons x r ih =>
    intro j hj
    cases j with
    | zero => exact ⟨rfl, rfl⟩
    | succ j =>
      have h := ih j (by simpa using hj)
      rw [show flatE (x :: r) = [x.2.1, x.2.2] ++ flatE r from rfl]
      rw [List.getElem?_append_right (by simp; omega), List.getElem?_append_right (by simp; omega)]
      simp only [List.length_cons, List.length_nil, List.getElem_cons_succ]
      rw [show (j + 1) * 2 - (0 + 1 + 1) = j * 2 by omega, show (j + 1) * 2 + 1 - (0 + 1 + 1) = j * 2 + 1 by omega]
      exact h
theorem wpList_append_ents {w : World} {ops : Array Oper} {rest : List Oper} {o : Oper} {a : Act} {Q : Exit → Act → World → Prop} (hgd : o.guard = none) (s x : Operand)
    (ho : o.op = .call { callee := .builtin .append, args := #[s, x], argTypes := #[35, 35] })
    (base : Nat) (v : Value) (n : Nat) (xs : List Value) (hs : a.eval s = v) (hown : w.ownsRow base 59 2 v n xs) (pa : Option Addr) (m pc : Nat) (news : List Value) (hx : a.eval x = .slice pa m pc) (hn : news.length = m * 2)
    (hc : m ≠ 0 → ∃ ad, pa = some ad ∧ ∀ j u, news[j]? = some u → w.cell? (ad.add j) = some u) (h1 : ∀ u ∈ news, u.oneCell' = true) (hlen : n + m ≤ 1048576) (hbase : base ≤ w.heap.size)
    (h : ∀ a' c' w', w'.ownsRow base 59 2 (.slice a' (n + m) c') (n + m) (xs ++ news) → w.grownBy w' v.ownBlock → wpList Tryz.prog ops Q rest (a.put o.dst (.slice a' (n + m) c')) w') :
    wpList Tryz.prog ops Q (o :: rest) a w := by
  obtain ⟨i, hi, hz, hsz, hby⟩ := info_parts info160
  by_cases hm : m = 0
  · subst hm
    have hnil : news = [] := List.eq_nil_of_length_eq_zero (by omega)
    subst hnil
    obtain ⟨a', c', rfl⟩ := row_val hown
    have hle : n ≤ c' := by
      by_cases h0 : 0 < n
      · obtain ⟨_, _, e, h2, _⟩ := row_some hown h0
        cases e; exact h2
      · omega
    have hr : (Builtin.append_ #[35, 35] o.type #[.slice a' n c', .slice pa 0 pc]).run Tryz.prog w = .ok (.slice a' n c') w := by
      cases pa with
      | none => exact run_append_nothing (P := Tryz.prog) w 35 35 o.type 59 i Tryz.underlying35 hi a' n c' hle _ (Src.ofNil w Tryz.underlying35 pc)
      | some ad => exact run_append_nothing (P := Tryz.prog) w 35 35 o.type 59 i Tryz.underlying35 hi a' n c' hle _ (Src.ofSlice w Tryz.underlying35 ad 0 pc [] (by simp) (by simp) (by simp))
    refine wpList_plain hgd fun K hK => ?_
    unfold Oper.wp execOp
    simp only [ho, resolve, invoke, builtin, Sem.run_bind, Sem.run_pure, Result.andThen_ok, List.map_toArray, List.map_cons, List.map_nil, hs, hx, hr]
    have := h a' c' w (by rw [List.append_nil]; exact hown) (World.grownBy.refl _ _)
    exact hK _ _ this
  · obtain ⟨ad, rfl, hcell⟩ := hc hm
    refine wpList_append_own_at (P := Tryz.prog) _ hgd s x 35 ho base 59 i _ 2 48 Tryz.underlying35 hi hz hsz hby rfl (by decide) v n xs hs hown ad m pc news hx hn hcell h1 ?_ ?_ ?_ ?_
    · unfold maxLen; omega
    · omega
    · omega
    · intro v' w' h1 h2 _ h4
      obtain ⟨a', c', rfl⟩ := row_val h1
      exact h a' c' w' h1 h2
def NOwn (w : World) (base : Nat) (v : Value) (l : List Ent) : Prop := ∃ ps : List EV, w.ownsRow base 59 2 v ps.length (flatE ps) ∧ (∀ x ∈ ps, IOwn w base x.2.1 x.1.1 ∧ EOwn w base x.2.2 x.1.2) ∧ ps.map Prod.fst = l
structure LE (w : World) (vl : Value) (C : List (List UInt8)) (l : List Ent) (vm : Value) (ps : List EV) (wr : World) : Prop where
  res : Blk wr w.heap.size 37 #[.slice none 0 0]
  box : Blk wr (w.heap.size + 1) 37 #[vm]
  lines : SOwn wr w.heap.size vl C
  ents : wr.ownsRow w.heap.size 59 2 vm ps.length (flatE ps)
  parts : ∀ x ∈ ps, IOwn wr w.heap.size x.2.1 x.1.1 ∧ EOwn wr w.heap.size x.2.2 x.1.2
  is : ps.map Prod.fst = l
  below : Below w.heap.size w wr
section
variable {w : World} {vl : Value} {C : List (List UInt8)} {l : List Ent} {vm : Value} {ps : List EV} {wr : World}
theorem LE.go (h : LE w vl C l vm ps wr) {w' : World} (hb : Below wr.heap.size wr w') : LE w vl C l vm ps w' where
  res := h.res.below hb h.res.lt
  box := h.box.below hb h.box.lt
  lines := own_after h.lines hb
  ents := own_after h.ents hb
  parts := fun x hx => ⟨own_after (h.parts x hx).1 hb, own_after (h.parts x hx).2 hb⟩
  is := h.is
  below := h.below.trans (hb.mono h.below.size)
theorem nin_of {W : World} {base : Nat} (h : W.ownsRow base 59 2 vm ps.length (flatE ps)) (hp : ∀ x ∈ ps, IOwn W base x.2.1 x.1.1 ∧ EOwn W base x.2.2 x.1.2) (hl : ps.map Prod.fst = l) : NIn W.heap.size W vm l := by
  have hll : l.length = ps.length := by rw [← hl, List.length_map]
  rcases h.2 with ⟨rfl, h0⟩ | ⟨g, cap, cur, rfl, hb, hg, hc, hm, hs, htk⟩
  · exact .inl ⟨_, _, rfl, List.eq_nil_of_length_eq_zero (by omega)⟩
  · refine .inr ⟨g, 0, cap, by rw [hll], (Array.getElem?_eq_some_iff.1 hg).1, fun j hj => ?_⟩
    have hjp : j < ps.length := by omega
    obtain ⟨f1, f2⟩ := flatE_at ps j hjp
    have hall : ∀ j u, (flatE ps)[j]? = some u → W.cell? ⟨g, j, none⟩ = some u := fun j u hu => by
      rw [← htk] at hu
      have hj := (List.getElem?_eq_some_iff.1 hu).1
      rw [List.getElem?_take_of_lt (by rw [List.length_take] at hj; omega)] at hu
      simp only [World.cell?, hg]
      simpa using hu
    have he : l[j] = (ps[j]).1 := by subst hl; simp
    obtain ⟨q1, q2⟩ := hp _ (List.getElem_mem hjp)
    refine ⟨(ps[j]).2.1, (ps[j]).2.2, by rw [Nat.zero_add]; exact hall _ _ f1, by rw [he]; exact q1.ints, by rw [Nat.zero_add]; exact hall _ _ f2, by rw [he]; exact q2.els⟩
theorem NOwn.min {W : World} {base : Nat} (h : NOwn W base vm l) : NIn W.heap.size W vm l := by
  obtain ⟨ps, h1, h2, h3⟩ := h
  exact nin_of h1 h2 h3
theorem LE.min (h : LE w vl C l vm ps wr) : NIn wr.heap.size wr vm l := nin_of h.ents h.parts h.is
theorem own_set65 {b1 : Nat} {e1 : TypeId} {s1 k1 : Nat} {v1 : Value} {x1 : List Value} {g : Nat} {u v : Value} (hbk : Blk wr g 37 #[u]) (ht : e1 ≠ 37) (h1 : wr.ownsRow b1 e1 s1 v1 k1 x1) : (wr.setCell ⟨g, 0, none⟩ v).ownsRow b1 e1 s1 v1 k1 x1 :=
  own_other h1 (fun g' hg => Below.heap_setCell wr ⟨g, 0, none⟩ _ g' (by
    intro e
    have e' : g' = g := e
    subst e'
    obtain ⟨_, c, f, q⟩ := own_ge h1 hg
    have := q.symm.trans hbk
    simp only [Option.some.injEq, Obj.cells.injEq] at this
    exact ht this.2.1))
theorem LE.put (h : LE w vl C l vm ps wr) {vm' : Value} {ps' : List EV} {l' : List Ent} {b : Nat} (hr : wr.ownsRow b 59 2 vm' ps'.length (flatE ps')) (hb : w.heap.size ≤ b) (hp : ∀ x ∈ ps', IOwn wr w.heap.size x.2.1 x.1.1 ∧ EOwn wr w.heap.size x.2.2 x.1.2) (hl : ps'.map Prod.fst = l') :
    LE w vl C l' vm' ps' (wr.setCell ⟨w.heap.size + 1, 0, none⟩ vm') := by
  refine ⟨(Below.heap_setCell wr ⟨w.heap.size + 1, 0, none⟩ _ w.heap.size (by show w.heap.size ≠ w.heap.size + 1; omega)).trans h.res, ?_, own_set65 h.box (by decide) h.lines, ownsRow_mono (own_set65 h.box (by decide) hr) hb, fun x hx => ⟨own_set65 h.box (by decide) (hp x hx).1, own_set65 h.box (by decide) (hp x hx).2⟩, hl, h.below.setCell (by show w.heap.size ≤ w.heap.size + 1; omega) _⟩
  have := h.box.set 0 vm'
  simpa using this
theorem LE.fin2 (h : LE w vl C l vm ps wr) (v : Value) : NOwn (wr.setCell ⟨w.heap.size, 0, none⟩ v) w.heap.size vm l :=
  ⟨ps, own_set65 h.res (by decide) h.ents, fun x hx => ⟨own_set65 h.res (by decide) (h.parts x hx).1, own_set65 h.res (by decide) (h.parts x hx).2⟩, h.is⟩
end
theorem flatE_one {w : World} {base : Nat} {ps : List EV} (h : ∀ x ∈ ps, IOwn w base x.2.1 x.1.1 ∧ EOwn w base x.2.2 x.1.2) : ∀ u ∈ flatE ps, u.oneCell' = true := fun u hu => by
  obtain ⟨x, hx, hu⟩ := List.mem_flatMap.1 hu
  obtain ⟨a, c, e⟩ := (h x hx).1.val
  obtain ⟨a2, c2, e2, _⟩ := (h x hx).2.cap
  simp only [List.mem_cons, List.not_mem_nil, or_false] at hu
  rcases hu with rfl | rfl
  · rw [e]; rfl
  · rw [e2]; rfl
theorem flatE_cells {w : World} {base n mc g : Nat} {ps : List EV} (h : w.ownsRow base 59 2 (.slice (some ⟨g, 0, none⟩) n mc) ps.length (flatE ps)) (k0 : Nat) (hk : k0 ≤ ps.length) :
    (∀ j u, (flatE (ps.take k0))[j]? = some u → w.cell? ((⟨g, 0, none⟩ : Addr).add j) = some u) ∧ (∀ j u, (flatE (ps.drop k0))[j]? = some u → w.cell? ((⟨g, k0 * 2, none⟩ : Addr).add j) = some u) ∧ base ≤ g ∧ g < w.heap.size ∧ ps.length ≤ mc := by
  rcases h.2 with ⟨e0, hz0⟩ | ⟨g', cap, cur, e, hb, hg, hc, hm, hs, htk⟩
  · cases e0
  · obtain ⟨e1, _, rfl⟩ := Value.slice.inj e
    cases e1
    have hall : ∀ j u, (flatE ps)[j]? = some u → w.cell? ⟨g, j, none⟩ = some u := fun j u hu => by
      rw [← htk] at hu
      have hj := (List.getElem?_eq_some_iff.1 hu).1
      rw [List.getElem?_take_of_lt (by rw [List.length_take] at hj; omega)] at hu
      simp only [World.cell?, hg]
      simpa using hu
    have hsp : flatE ps = flatE (ps.take k0) ++ flatE (ps.drop k0) := by rw [← flatE_append, List.take_append_drop]
    have hlt : (flatE (ps.take k0)).length = k0 * 2 := by rw [flatE_len, List.length_take]; omega
    refine ⟨fun j u hu => ?_, fun j u hu => ?_, hb, (Array.getElem?_eq_some_iff.1 hg).1, hc⟩
    · rw [Go.WideShapes.add_plain, Nat.zero_add]
      refine hall j u ?_
      rw [hsp, List.getElem?_append_left (List.getElem?_eq_some_iff.1 hu).1]
      exact hu
    · rw [show (⟨g, k0 * 2, none⟩ : Addr).add j = ⟨g, k0 * 2 + j, none⟩ by simp [Addr.add]]
      refine hall (k0 * 2 + j) u ?_
      rw [hsp, List.getElem?_append_right (by omega), hlt, Nat.add_sub_cancel_left]
      exact hu
theorem refLoad6_results {tmps : Array Value} {w : World} {h : Nat} {x a b : Value} (hb : Blk w h 37 #[x]) (t2 : tmps[2]?.getD undef = .pointer (some ⟨h, 0, none⟩)) (t3 : tmps[3]?.getD undef = a) (t4 : tmps[4]?.getD undef = b) :
    (results Tryz.f8 tmps).run Tryz.prog w = .ok (.tuple #[.agg #[x], a, b]) w := by
  have c0 : w.cell? ⟨h, 0, none⟩ = some x := hb.cell 0
  simp [results, Tryz.results8, go_sem, t2, t3, t4, c0]
end Go.Proofs.YtkcnjnccdafbfaaGreatDoor
