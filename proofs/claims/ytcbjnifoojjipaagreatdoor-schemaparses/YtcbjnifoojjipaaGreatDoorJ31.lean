/- Contracts and lemmas (nothing is claimed here). -/
import Derived.Test.YtcbjnifoojjipaaGreatDoorJ28
import Derived.Test.YtcbjnifoojjipaaGreatDoorJ25
import Derived.Deep.QuietTactic
import Derived.BigQuiet
import Derived.BigRegion
import Derived.Test.YtcbjnifoojjipaaGreatDoorSPwf
import Derived.Test.YtcbjnifoojjipaaGreatDoorJ30
import Derived.Test.YtcbjnifoojjipaaGreatDoorJ16
import Derived.Deep.Upon
namespace Go.Proofs.YtcbjnifoojjipaaGreatDoor
open Go.RowKit Go.Vf
theorem numF_drop {l : List Fld} {j : Nat} (hj : j < l.length) : numF (l.drop j) = 1 + numF l[j].fields + numF (l.drop (j + 1)) := by
  rw [List.drop_eq_getElem_cons hj]
  cases h : l[j] with
  | mk o g => rw [numF_cons]; rfl
theorem numF_mem : ∀ {l : List Fld} {j : Nat} (hj : j < l.length), numF l[j].fields ≤ numF l
  | .mk o g :: r, 0, _ => by rw [numF_cons]; show numF g ≤ _; omega
  | .mk o g :: r, j + 1, hj => by
    have := numF_mem (l := r) (j := j) (by simpa using hj)
    rw [numF_cons, List.getElem_cons_succ]; omega
def CntOk (l : List Fld) : Prop := ∀ (a : Option Addr) (c lo n₀ : Nat) (w : World), FIn w lo n₀ l a → n₀ ≤ w.heap.size → numF l ≤ 1000000000 →
  Calls Tryz.prog 74 #[.slice a l.length c] w fun e w' => e = .returned (.int .i64 (numF l : Int)) ∧ w = w'
set_option maxHeartbeats 4000000 in
set_option maxRecDepth 20000 in
theorem count_step (l : List Fld) (ih : ∀ x ∈ l, CntOk x.fields) : CntOk l := by
  intro a c lo n₀ w hin hn₀ hnum
  have hll := numF_len l
  obtain ⟨R, hR⟩ : ∃ R, numF l = R := ⟨_, rfl⟩
  rw [hR] at hnum hll ⊢
  have HR0 : Hid (0 + numF (l.drop 0) = R) := by show _ = _; rw [List.drop_zero, Nat.zero_add]; exact hR
  have HM : Hid (∀ j (hj : j < l.length), numF l[j].fields ≤ R) := fun j hj => by rw [← hR]; exact numF_mem hj
  obtain ⟨ln, hln⟩ : ∃ ln, l.length = ln := ⟨_, rfl⟩
  have HLN : Hid (l.length = ln) := hln
  rw [hln] at hll ⊢
  have HIN : Hid (FIn w lo n₀ l a) := hin
  clear hR hin hln
  go_enter Tryz.func74, Tryz.ntmps74
  go_wp2_with fail
  go_loopw [3, 4] (fun nv iv wr => ∃ (j n : Nat), j ≤ ln ∧ iv = .int .i64 (j : Int) ∧ nv = .int .i64 (n : Int) ∧ n ≤ R ∧ Hid (n + numF (l.drop j) = R) ∧ w = wr) (fun _ iv _ => ln - (intOf iv).toNat)
  case atStart => exact ⟨0, 0, Nat.zero_le _, rfl, rfl, Nat.zero_le _, HR0, rfl⟩
  case round =>
    clear HR0
    obtain ⟨j, n, hj, rfl, rfl, hn, HR, rfl⟩ := hrel
    by_cases hlt : j < ln
    · have t1 : decide ((j : Int) < (ln : Int)) = true := decide_eq_true (by omega)
      have t2 : decide (j < ln) = true := decide_eq_true hlt
      have hjl : j < l.length := by rw [HLN.out]; exact hlt
      obtain ⟨b, off, aj, cj, rfl, _, hb, hrow, hinj⟩ := HIN.out.at hjl
      have hm := HM.out j hjl
      have hc := ih l[j] (List.getElem_mem hjl) aj cj lo n₀ w hinj hn₀ (by omega)
      have hRj := HR.out
      rw [numF_drop hjl] at hRj
      have HR2 : Hid (n + (1 + numF l[j].fields) + numF (l.drop (j + 1)) = R) := by show _ = _; omega
      have c13 := hrow.c13
      generalize numF l[j].fields = m at *
      generalize l[j].fields.length = fl at *
      have hn2 : n + (1 + m) ≤ R := by have := HR2.out; omega
      have e1 : IntKind.i64.wrap ((n : Int) + 1) = (n : Int) + 1 := IntWalk.i64_in _ (by omega)
      have e2 : IntKind.i64.wrap ((n : Int) + 1 + (m : Int)) = (n : Int) + 1 + (m : Int) := IntWalk.i64_in _ (by omega)
      clear hRj HR hrow
      go_wp2_with fail
      refine hc.mono ?_
      clear hc c13
      rintro _ _ ⟨rfl, rfl⟩
      go_wp2_with fail
      go_roundw
      case rel => exact ⟨j + 1, n + (1 + m), by omega, by simp, by simp; omega, hn2, HR2, trivial⟩
      case measure => simp only [intOf]; omega
    · have t1 : decide ((j : Int) < (ln : Int)) = false := decide_eq_false (by omega)
      have t2 : decide (j < ln) = false := decide_eq_false hlt
      have hRR : n = R := by
        have := HR.out
        rw [List.drop_of_length_le (by rw [HLN.out]; omega), numF_nil] at this
        omega
      have HRR : Hid (n = R) := hRR
      clear HR hRR
      go_wp2_with fail
      go_ret
      refine ⟨?_, rfl⟩
      rw [← HRR.out]; rfl
theorem count_fld : ∀ f : Fld, CntOk f.fields := fun f => by
  induction f using Fld.ind with
  | h o l ih => exact count_step l ih
theorem count_any (l : List Fld) : CntOk l := count_step l fun x _ => count_fld x
def ValidP : List Fld → List Int → Prop
  | _, [] => False
  | l, p :: ps => ∃ (k : Nat) (hk : k < l.length), p = (k : Int) ∧ (ps = [] ∨ ValidP l[k].fields ps)
def placeF : List Fld → List Int → Nat
  | _, [] => 0
  | l, p :: ps => numF (l.take p.toNat) + (if ps = [] then 0 else 1 + placeF ((l[p.toNat]?.map Fld.fields).getD []) ps)
theorem placeF_cons {l : List Fld} {k : Nat} (hk : k < l.length) (ps : List Int) : placeF l ((k : Int) :: ps) = numF (l.take k) + (if ps = [] then 0 else 1 + placeF l[k].fields ps) := by
  rw [placeF, Int.toNat_natCast, List.getElem?_eq_getElem hk]
  rfl
theorem numF_take : ∀ {l : List Fld} {j : Nat} (hj : j < l.length), numF (l.take (j + 1)) = numF (l.take j) + (1 + numF l[j].fields)
  | .mk o g :: r, 0, _ => by
    rw [List.take_succ_cons, List.take_zero, List.take_zero, numF_cons, numF_nil]
    show _ = 0 + (1 + numF g); omega
  | .mk o g :: r, j + 1, hj => by
    rw [List.take_succ_cons, List.take_succ_cons, numF_cons, numF_cons, numF_take (by simpa using hj), List.getElem_cons_succ]
    omega
theorem numF_take_le : ∀ (l : List Fld) (j : Nat), numF (l.take j) ≤ numF l
  | [], j => by simp
  | .mk o g :: r, 0 => by rw [List.take_zero, numF_nil]; omega
  | .mk o g :: r, j + 1 => by rw [List.take_succ_cons, numF_cons, numF_cons]; have := numF_take_le r j; omega
theorem numF_room {l : List Fld} {k : Nat} (hk : k < l.length) : numF (l.take k) + (1 + numF l[k].fields) ≤ numF l := by
  rw [← numF_take hk]; exact numF_take_le l (k + 1)
theorem placeF_lt : ∀ (ps : List Int) (l : List Fld), ValidP l ps → placeF l ps < numF l
  | [], _, h => h.elim
  | p :: ps, l, ⟨k, hk, hp, h⟩ => by
    subst hp
    have hr := numF_room hk
    rw [placeF_cons hk]
    cases ps with
    | nil => rw [if_pos rfl]; omega
    | cons q qs =>
      have hv : ValidP l[k].fields (q :: qs) := by
        rcases h with h | h
        · cases h
        · exact h
      have := placeF_lt (q :: qs) l[k].fields hv
      rw [if_neg (by simp)]
      omega
def PlcOk (ps : List Int) : Prop := ∀ (l : List Fld) (a pa : Option Addr) (c pc lo n₀ : Nat) (w : World), ValidP l ps → FIn w lo n₀ l a → n₀ ≤ w.heap.size → numF l ≤ 1000000000 → Ints w.heap.size w (.slice pa ps.length pc) ps → ps.length ≤ 1000 → ps.length ≤ pc →
  Calls Tryz.prog 49 #[.slice a l.length c, .slice pa ps.length pc] w fun e w' => e = .returned (.int .i64 (placeF l ps : Int)) ∧ ∃ n, w' = w.drewN n
set_option maxHeartbeats 4000000 in
set_option maxRecDepth 20000 in
theorem place_step (p : Int) (ps : List Int) (ih : PlcOk ps) : PlcOk (p :: ps) := by
  intro l a pa c pc lo n₀ w hv hin hn₀ hnum hints hpl hpc
  obtain ⟨k, hk, rfl, hrest⟩ := hv
  obtain ⟨b, off, aj, cj, rfl, _, hbl, hrow, hinj⟩ := hin.at hk
  obtain ⟨pb, poff, pcap, hpv, hpb, hpcell⟩ : ∃ b off cap, Value.slice pa ((k : Int) :: ps).length pc = .slice (some ⟨b, off, none⟩) ((k : Int) :: ps).length cap ∧ b < w.heap.size ∧ ∀ j, j < ((k : Int) :: ps).length → w.cell? ⟨b, off + j, none⟩ = some (.int .i64 (((k : Int) :: ps)[j]?.getD 0)) := by
    rcases hints with ⟨_, _, _, h0⟩ | h
    · cases h0
    · exact h
  injection hpv with e1 e2 e3
  subst e1
  have p0 : w.cell? ⟨pb, poff, none⟩ = some (.int .i64 (k : Int)) := by have := hpcell 0 (by simp); simpa using this
  obtain ⟨R, hR⟩ : ∃ R, numF (l.take k) = R := ⟨_, rfl⟩
  have hrm := numF_room hk
  rw [hR] at hrm
  have hRl : R ≤ 1000000000 := by omega
  have HRd : Hid (numF (l.take k) = R) := hR
  obtain ⟨Z, hZ⟩ : ∃ Z, placeF l ((k : Int) :: ps) = Z := ⟨_, rfl⟩
  rw [hZ]
  have HZ : Hid (Z = R + (if ps = [] then 0 else 1 + placeF l[k].fields ps)) := by
    show _ = _
    rw [← hZ, placeF_cons hk, hR]
  have HIN : Hid (FIn w lo n₀ (.cons l[k] []) none ∨ True) := .inr trivial
  have HCN : Hid (∀ i (hi : i < l.length), i < k → ∃ aj cj, w.cell? ⟨b, off + i * 14 + 13, none⟩ = some (.slice aj l[i].fields.length cj) ∧ Calls Tryz.prog 74 #[.slice aj l[i].fields.length cj] w fun e w' => e = .returned (.int .i64 (numF l[i].fields : Int)) ∧ w = w') := fun i hi _ => by
    obtain ⟨b', off', aj', cj', e, _, _, hr', hi'⟩ := hin.at hi
    cases e
    exact ⟨aj', cj', hr'.c13, count_any l[i].fields aj' cj' lo n₀ w hi' hn₀ (by have := numF_mem hi; omega)⟩
  have HMM : Hid (∀ i (hi : i < l.length), i < k → numF (l.take i) + (1 + numF l[i].fields) = numF (l.take (i + 1)) ∧ numF (l.take (i + 1)) ≤ R) := fun i hi hik => by
    refine ⟨(numF_take hi).symm, ?_⟩
    rw [← hR]
    have := numF_take_le (l.take k) (i + 1)
    rw [List.take_take, show min (i + 1) k = i + 1 by omega] at this
    exact this
  have hlk : k ≤ 1000000000 := by have := numF_len l; omega
  obtain ⟨ln, hln⟩ : ∃ ln, l.length = ln := ⟨_, rfl⟩
  have hkl : k < ln := by rw [← hln]; exact hk
  have HLN : Hid (l.length = ln) := hln
  have HROW : Hid (RowF w b (off + k * 14) l[k].own aj l[k].fields.length cj) := hrow
  have HINJ : Hid (FIn w lo n₀ l[k].fields aj) := hinj
  have HPC : Hid (∀ j, j < ((k : Int) :: ps).length → w.cell? ⟨pb, poff + j, none⟩ = some (.int .i64 (((k : Int) :: ps)[j]?.getD 0))) := hpcell
  have hpll : ps.length + 1 ≤ 1001 := by rw [List.length_cons] at hpl; omega
  rw [List.length_cons] at hpc ⊢
  rw [hln]
  clear hR hZ hln hin hints hpl hrow hinj hpcell e2 e3 HIN
  go_enter Tryz.func49, Tryz.ntmps49
  go_wp2_with fail
  go_loopw [5, 6] (fun nv iv wr => ∃ (i n : Nat), i ≤ k ∧ iv = .int .i64 (i : Int) ∧ nv = .int .i64 (n : Int) ∧ n ≤ R ∧ Hid (n = numF (l.take i)) ∧ w = wr) (fun _ iv _ => k - (intOf iv).toNat)
  case atStart => exact ⟨0, 0, Nat.zero_le _, rfl, rfl, Nat.zero_le _, by show _ = _; rw [List.take_zero, numF_nil], rfl⟩
  case round =>
    obtain ⟨i, n, hi, rfl, rfl, hn, HN, rfl⟩ := hrel
    by_cases hlt : i < k
    · have t1 : decide ((i : Int) < (k : Int)) = true := decide_eq_true (by omega)
      have t2 : decide (i < k) = true := decide_eq_true hlt
      have hil : i < l.length := by omega
      have hili : (i : Int) < (ln : Int) := by omega
      obtain ⟨aj', cj', c13, hc⟩ := HCN.out i hil hlt
      obtain ⟨hm1, hm2⟩ := HMM.out i hil hlt
      rw [← HN.out] at hm1
      have HN2 : Hid (n + (1 + numF l[i].fields) = numF (l.take (i + 1))) := hm1
      have hn2 : n + (1 + numF l[i].fields) ≤ R := by omega
      generalize numF l[i].fields = m at *
      generalize l[i].fields.length = fl at *
      have e1 : IntKind.i64.wrap ((n : Int) + 1) = (n : Int) + 1 := IntWalk.i64_in _ (by omega)
      have e2 : IntKind.i64.wrap ((n : Int) + 1 + (m : Int)) = (n : Int) + 1 + (m : Int) := IntWalk.i64_in _ (by omega)
      clear hm1 hm2 HN
      go_wp2_with fail
      refine hc.mono ?_
      clear hc c13
      rintro _ _ ⟨rfl, rfl⟩
      go_wp2_with fail
      go_roundw
      case rel => exact ⟨i + 1, n + (1 + m), by omega, by simp, by simp; omega, hn2, HN2, trivial⟩
      case measure => simp only [intOf]; omega
    · have t1 : decide ((i : Int) < (k : Int)) = false := decide_eq_false (by omega)
      have t2 : decide (i < k) = false := decide_eq_false hlt
      have hik : i = k := by omega
      have hnR : n = R := by rw [HN.out, hik]; exact HRd.out
      cases ps with
      | nil =>
        have hZn : Z = n := by have := HZ.out; rw [if_pos rfl] at this; omega
        have HZN : Hid (Z = n) := hZn
        clear hik hnR HN HZ hZn
        go_wp2_with fail
        go_ret
        exact ⟨by rw [HZN.out]; rfl, 0, rfl⟩
      | cons q qs =>
        have hv2 : ValidP l[k].fields (q :: qs) := by
          rcases hrest with h | h
          · cases h
          · exact h
        have hZ2 := HZ.out
        rw [if_neg (by simp)] at hZ2
        have hpl2 := placeF_lt _ _ hv2
        have hrow := HROW.out
        have c13 := hrow.c13
        have HCL : Hid (∀ n, Calls Tryz.prog 49 #[.slice aj l[k].fields.length cj, .slice (some ⟨pb, poff + 1, none⟩) (q :: qs).length (pc - 1)] (w.drewN n) fun e w' => e = .returned (.int .i64 (placeF l[k].fields (q :: qs) : Int)) ∧ ∃ m, w' = (w.drewN n).drewN m) := fun n => by
          refine ih l[k].fields aj (some ⟨pb, poff + 1, none⟩) cj (pc - 1) lo n₀ (w.drewN n) hv2 (HINJ.out.keep' fun _ _ _ => rfl) hn₀ (by omega) (.inr ⟨pb, poff + 1, pc - 1, rfl, hpb, fun j hj => ?_⟩) (by simp at hpll ⊢; omega) (by simp at hpc ⊢; omega)
          have := HPC.out (j + 1) (by simp at hj ⊢; omega)
          rw [show poff + 1 + j = poff + (j + 1) by omega]
          simpa using this
        have HZN : Hid (Z = n + 1 + placeF l[k].fields (q :: qs)) := by show _ = _; omega
        have hpb2 : placeF l[k].fields (q :: qs) ≤ 1000000000 := by omega
        generalize placeF l[k].fields (q :: qs) = Y at *
        generalize l[k].fields.length = fl at *
        obtain ⟨ql, hql⟩ : ∃ ql, (q :: qs).length = ql := ⟨_, rfl⟩
        have hql1 : 1 ≤ ql := by rw [← hql]; simp
        rw [hql] at HCL hpll hpc ⊢
        have t5 : (((ql : Int) + 1) == 1) = false := beq_eq_false_iff_ne.2 (by omega)
        have t6 : (ql + 1 == 1) = false := beq_eq_false_iff_ne.2 (by omega)
        have e1 : IntKind.i64.wrap ((n : Int) + 1) = (n : Int) + 1 := IntWalk.i64_in _ (by omega)
        have e2 : IntKind.i64.wrap ((n : Int) + 1 + (Y : Int)) = (n : Int) + 1 + (Y : Int) := IntWalk.i64_in _ (by omega)
        have hkli : (k : Int) < (ln : Int) := by omega
        have hadr : (if pc = 1 then some (⟨pb, poff, none⟩ : Addr) else some ⟨pb, poff + 1, none⟩) = some ⟨pb, poff + 1, none⟩ := if_neg (by omega)
        clear hik hnR HN HZ hZ2 hpl2 hv2 hrest hrow hql hrm HRd
        go_upto_region 8 with fail
        go_quiet (first | (go_at_call 49; refine Calls.quiet_of (HCL.out _)))
        clear HCL
        go_wp2_with fail
        go_ret
        exact ⟨by rw [HZN.out]; simp, _, rfl⟩
theorem place_any : ∀ ps : List Int, PlcOk ps
  | [] => fun _ _ _ _ _ _ _ _ h => h.elim
  | p :: ps => place_step p ps (place_any ps)
theorem numF_app : ∀ (a b : List Fld), numF (a ++ b) = numF a + numF b
  | [], b => by rw [List.nil_append, numF_nil, Nat.zero_add]
  | .mk o g :: r, b => by rw [List.cons_append, numF_cons, numF_cons, numF_app r b]; omega
theorem tour_place {Q : Go.Vf.Own → Bool} : ∀ (k : Nat) (l : List Fld), SizeOf.sizeOf l ≤ k → ∀ (P : List Int) (ah : List Fld) (n : Nat) (c : Int) (p : List Int) (m : Nat), tourL Q P ah n l = .bad c p m → ∃ ps, p = P ++ ps ∧ ValidP (ah ++ l) ps ∧ m + numF ah = n + placeF (ah ++ l) ps + 1 := by
  intro k
  induction k with
  | zero => intro l h; cases l <;> simp at h
  | succ k ih =>
    intro l hl P ah n c p m h
    cases l with
    | nil => rw [tourL_nil] at h; cases h
    | cons f r =>
      obtain ⟨o, fl⟩ := f
      have hs1 : SizeOf.sizeOf fl ≤ k := by simp at hl; omega
      have hs2 : SizeOf.sizeOf r ≤ k := by simp at hl; omega
      have hk : ah.length < (ah ++ .mk o fl :: r).length := by simp
      have hat : (ah ++ .mk o fl :: r)[ah.length] = .mk o fl := by simp
      have htk : (ah ++ .mk o fl :: r).take ah.length = ah := by simp
      by_cases h0 : seeF Q (P.length + 1) (n + 1) ah (.mk o fl) = 0
      · cases h1 : tourL Q (P ++ [(ah.length : Int)]) [] (n + 1) fl with
        | bad c' p' q =>
          rw [tourL_in Q P ah n (.mk o fl) r h0 h1] at h
          cases h
          obtain ⟨ps, e1, e2, e3⟩ := ih fl hs1 _ _ _ _ _ _ h1
          rw [List.nil_append] at e2 e3
          rw [numF_nil] at e3
          have hne : ps ≠ [] := by rintro rfl; exact e2
          refine ⟨(ah.length : Int) :: ps, by rw [e1, List.append_assoc]; rfl, ⟨ah.length, hk, rfl, .inr (by rw [hat]; exact e2)⟩, ?_⟩
          rw [placeF_cons hk, htk, if_neg hne, hat]
          show _ = n + (numF ah + (1 + placeF fl ps)) + 1
          omega
        | ok q =>
          rw [tourL_on Q P ah n (.mk o fl) r h0 h1] at h
          obtain ⟨ps, e1, e2, e3⟩ := ih r hs2 _ _ _ _ _ _ h
          have hq := (tour_num (Q := Q) _ fl (Nat.le_refl _) (P ++ [(ah.length : Int)]) [] (n + 1)).1 q h1
          rw [List.append_assoc, List.singleton_append] at e2 e3
          rw [numF_app, numF_cons, numF_nil] at e3
          exact ⟨ps, e1, e2, by omega⟩
      · rw [tourL_bad Q P ah n (.mk o fl) r h0] at h
        cases h
        refine ⟨[(ah.length : Int)], rfl, ⟨ah.length, hk, rfl, .inl rfl⟩, ?_⟩
        rw [placeF_cons hk, htk, if_pos rfl]
        omega
def aheadN (ns : List Int) : Except Int (List Fld × List Ln × List Int) → Except Int (List Fld × List Ln × List Int)
  | .error e => .error e
  | .ok r => .ok (r.1, r.2.1, ns ++ r.2.2)
theorem aheadN_app (a b : List Int) (r : Except Int (List Fld × List Ln × List Int)) : aheadN a (aheadN b r) = aheadN (a ++ b) r := by
  cases r with
  | error e => rfl
  | ok r => simp [aheadN]
theorem within_shift (n : Nat) : ∀ (after : Int) (ls : List Ln) (ns : List Int) (acc : List Fld), withinP n after ls ns acc = aheadN ns (withinP n after ls [] acc) := by
  induction n with
  | zero => intro _ _ _ _; rfl
  | succ n ih =>
    intro after ls ns acc
    cases ls with
    | nil => rfl
    | cons l ls =>
      rw [withinP, withinP]
      by_cases he : isEndL l.2 = true
      · rw [if_pos he, if_pos he]; simp [aheadN]
      · rw [if_neg he, if_neg he]
        cases hl : lineL l.2 with
        | none => rfl
        | some o =>
          dsimp only
          by_cases h7 : o.kind = 7
          · rw [if_pos h7, if_pos h7, List.nil_append, ih after ls (ns ++ [l.1]) [], ih after ls [l.1] []]
            cases withinP n after ls [] [] with
            | error e => rfl
            | ok q =>
              show withinP n after q.2.1 ((ns ++ [l.1]) ++ q.2.2) _ = aheadN ns (withinP n after q.2.1 ([l.1] ++ q.2.2) _)
              rw [ih after q.2.1 ((ns ++ [l.1]) ++ q.2.2) _, ih after q.2.1 ([l.1] ++ q.2.2) _, aheadN_app, List.append_assoc]
          · rw [if_neg h7, if_neg h7, List.nil_append, ih after ls (ns ++ [l.1]) _, ih after ls [l.1] _, aheadN_app]
theorem all_shift (after : Int) (ls : List Ln) (ns : List Int) (acc : List Fld) : allP after ls ns acc = aheadN ns (allP after ls [] acc) := within_shift _ after ls ns acc
theorem within_suffix (n : Nat) : ∀ (after : Int) (ls : List Ln) (ns : List Int) (acc : List Fld) (r : List Fld × List Ln × List Int), withinP n after ls ns acc = .ok r → ∃ d, ls.drop d = r.2.1 ∧ d ≤ ls.length := by
  induction n with
  | zero => intro _ _ _ _ _ h; cases h
  | succ n ih =>
    intro after ls ns acc r h
    cases ls with
    | nil => cases h
    | cons l ls =>
      rw [withinP] at h
      split at h
      · cases h
        exact ⟨1, rfl, by simp⟩
      · cases hl : lineL l.2 with
        | none => rw [hl] at h; cases h
        | some o =>
          rw [hl] at h
          dsimp only at h
          by_cases h7 : o.kind = 7
          · rw [if_pos h7] at h
            cases hq : withinP n after ls (ns ++ [l.1]) [] with
            | error e => rw [hq] at h; cases h
            | ok q =>
              rw [hq] at h
              obtain ⟨d1, e1, g1⟩ := ih _ _ _ _ _ hq
              obtain ⟨d2, e2, g2⟩ := ih _ _ _ _ _ h
              rw [← e1, List.length_drop] at g2
              refine ⟨d1 + d2 + 1, ?_, by rw [List.length_cons]; omega⟩
              rw [← e2, ← e1, List.drop_drop, List.drop_succ_cons]
          · rw [if_neg h7] at h
            obtain ⟨d, e, g⟩ := ih _ _ _ _ _ h
            exact ⟨d + 1, by rw [List.drop_succ_cons]; exact e, by rw [List.length_cons]; omega⟩
theorem rest_place {rs : List Ln} {i : Nat} (hi : i ≤ rs.length) {after : Int} {ns : List Int} {acc : List Fld} {r : List Fld × List Ln × List Int} (h : allP after (rs.drop i) ns acc = .ok r) : r.2.1.length < rs.length - i + 1 ∧ rs.drop (rs.length - r.2.1.length) = r.2.1 := by
  obtain ⟨d, e, g⟩ := within_suffix _ _ _ _ _ _ h
  rw [List.drop_drop] at e
  rw [List.length_drop] at g
  have hl := congrArg List.length e
  rw [List.length_drop] at hl
  refine ⟨by omega, ?_⟩
  rw [← e]
  congr 1
  rw [List.length_drop]
  omega
theorem within_err (n : Nat) : ∀ (after : Int) (ls : List Ln) (ns : List Int) (acc : List Fld) (m : Int), (∀ l ∈ ls, 1 ≤ l.1) → 1 ≤ after → withinP n after ls ns acc = .error m → 1 ≤ m := by
  induction n with
  | zero => intro _ _ _ _ _ _ ha h; cases h; exact ha
  | succ n ih =>
    intro after ls ns acc m hls ha h
    cases ls with
    | nil => cases h; exact ha
    | cons l ls =>
      have hl1 := hls l List.mem_cons_self
      have hls2 : ∀ x ∈ ls, 1 ≤ x.1 := fun x hx => hls x (List.mem_cons_of_mem _ hx)
      rw [withinP] at h
      split at h
      · cases h
      · cases hl : lineL l.2 with
        | none => rw [hl] at h; cases h; exact hl1
        | some o =>
          rw [hl] at h
          dsimp only at h
          by_cases h7 : o.kind = 7
          · rw [if_pos h7] at h
            cases hq : withinP n after ls (ns ++ [l.1]) [] with
            | error e => rw [hq] at h; cases h; exact ih _ _ _ _ _ hls2 ha hq
            | ok q =>
              rw [hq] at h
              obtain ⟨d1, e1, _⟩ := within_suffix _ _ _ _ _ _ hq
              exact ih _ _ _ _ _ (fun x hx => hls2 x (List.mem_of_mem_drop (i := d1) (by rw [e1]; exact hx))) ha h
          · rw [if_neg h7] at h
            exact ih _ _ _ _ _ hls2 ha h
theorem lnF_pos : ∀ (ls : List (List UInt8)) (n : Int), 1 ≤ n → ∀ l ∈ lnF n ls, 1 ≤ l.1
  | [], _, _, l, h => by cases h
  | x :: ls, n, hn, l, h => by
    rw [lnF] at h
    split at h
    · exact lnF_pos ls (n + 1) (by omega) l h
    · rcases List.mem_cons.1 h with rfl | h
      · exact hn
      · exact lnF_pos ls (n + 1) (by omega) l h
end Go.Proofs.YtcbjnifoojjipaaGreatDoor
namespace Go.Proofs.YtcbjnifoojjipaaGreatDoor
open Go.RowKit Go.Vf Go.Maps
def topT : Except Int (List Fld × List Int) → Except Int (List Fld × List Ln × List Int)
  | .error m => .error m
  | .ok r => .ok (r.1, [], r.2)
def rdA (after : Int) (wi : Bool) (ls : List Ln) (ns : List Int) (acc : List Fld) : Except Int (List Fld × List Ln × List Int) :=
  match wi with
  | true => allP after ls ns acc
  | false => topT (topA after ls ns acc)
theorem end_line {ws : List ByteArray} (h : isEndL ws = true) : lineL ws = none := by
  unfold isEndL at h
  split at h
  · exact lineL_short (by simp)
  · cases h
theorem rdA_nil_t (after : Int) (ns : List Int) (acc : List Fld) : rdA after true [] ns acc = .error after := rfl
theorem rdA_nil_f (after : Int) (ns : List Int) (acc : List Fld) : rdA after false [] ns acc = .ok (acc, [], ns) := rfl
theorem rdA_end_t {after : Int} {l : Ln} {ls : List Ln} {ns : List Int} {acc : List Fld} (h : isEndL l.2 = true) : rdA after true (l :: ls) ns acc = .ok (acc, ls, ns) := by
  show allP _ _ _ _ = _
  rw [allP_cons, curP, if_pos h]
theorem fieldP_none {after num : Int} {ws : List ByteArray} {ls : List Ln} {ns : List Int} (h : lineL ws = none) : fieldP after num ws ls ns = .error num := by
  unfold fieldP; rw [h]
theorem rdA_none {after : Int} {wi : Bool} {l : Ln} {ls : List Ln} {ns : List Int} {acc : List Fld} (h : lineL l.2 = none) (he : wi = true → isEndL l.2 = false) : rdA after wi (l :: ls) ns acc = .error l.1 := by
  cases wi with
  | true =>
    show allP _ _ _ _ = _
    rw [allP_cons, curP, if_neg (by rw [he rfl]; simp), fieldP_none h]
  | false =>
    show topT (topA _ _ _ _) = _
    rw [topA_bad (fieldP_none h)]; rfl
theorem rdA_field {after : Int} {wi : Bool} {l : Ln} {ls : List Ln} {ns : List Int} {acc : List Fld} {o : Go.Vf.Own} (h : lineL l.2 = some o) {r : Fld × List Ln × List Int} (hr : fieldP after l.1 l.2 ls ns = .ok r) : rdA after wi (l :: ls) ns acc = rdA after wi r.2.1 r.2.2 (acc ++ [r.1]) := by
  cases wi with
  | true =>
    show allP _ _ _ _ = allP _ _ _ _
    rw [allP_cons, curP, if_neg (by intro he; rw [end_line he] at h; cases h), hr]
  | false =>
    show topT (topA _ _ _ _) = topT (topA _ _ _ _)
    rw [topA_ok hr]
theorem rdA_leaf {after : Int} {wi : Bool} {l : Ln} {ls : List Ln} {ns : List Int} {acc : List Fld} {o : Go.Vf.Own} (h : lineL l.2 = some o) (hk : o.kind ≠ 7) : rdA after wi (l :: ls) ns acc = rdA after wi ls (ns ++ [l.1]) (acc ++ [⟨o, []⟩]) := by
  have hr : fieldP after l.1 l.2 ls ns = .ok (⟨o, []⟩, ls, ns ++ [l.1]) := by unfold fieldP; rw [h]; simp only; rw [if_neg hk]
  exact rdA_field h hr
theorem rdA_bad {after : Int} {wi : Bool} {l : Ln} {ls : List Ln} {ns : List Int} {acc : List Fld} {o : Go.Vf.Own} {m : Int} (h : lineL l.2 = some o) (hk : o.kind = 7) (hq : allP after ls [] [] = .error m) : rdA after wi (l :: ls) ns acc = .error m := by
  have hr : fieldP after l.1 l.2 ls ns = .error m := by
    unfold fieldP; rw [h]; simp only; rw [if_pos hk, all_shift, hq]; rfl
  cases wi with
  | true =>
    show allP _ _ _ _ = _
    rw [allP_cons, curP, if_neg (by intro he; rw [end_line he] at h; cases h), hr]
  | false =>
    show topT (topA _ _ _ _) = _
    rw [topA_bad hr]; rfl
theorem rdA_tup {after : Int} {wi : Bool} {l : Ln} {ls : List Ln} {ns : List Int} {acc : List Fld} {o : Go.Vf.Own} {r : List Fld × List Ln × List Int} (h : lineL l.2 = some o) (hk : o.kind = 7) (hq : allP after ls [] [] = .ok r) : rdA after wi (l :: ls) ns acc = rdA after wi r.2.1 ((ns ++ [l.1]) ++ r.2.2) (acc ++ [⟨o, r.1⟩]) := by
  have hr : fieldP after l.1 l.2 ls ns = .ok (⟨o, r.1⟩, r.2.1, (ns ++ [l.1]) ++ r.2.2) := by
    unfold fieldP; rw [h]; simp only; rw [if_pos hk, all_shift, hq]; rfl
  exact rdA_field h hr
theorem IOwn.oth {w w' : World} {base X : Nat} {v : Value} {zs : List Int} (h : IOwn w base v zs) (hO : Oth X w w') (hX : some X ≠ v.ownBlock) : IOwn w' base v zs := by
  obtain ⟨h1, h2⟩ := h
  refine ⟨h1, ?_⟩
  rcases h2 with h2 | ⟨g, cap, cur, rfl, e2, e3, e4⟩
  · exact .inl h2
  · exact .inr ⟨g, cap, cur, rfl, e2, (hO.block g (Array.getElem?_eq_some_iff.1 e3).1 (fun e => hX (by rw [e]; rfl))).trans e3, e4⟩
structure RdB (w0 wr : World) (fv : Value) (la : Option Addr) (lc : Nat) (ns : List Int) : Prop where
  res : Blk wr w0.heap.size 98 #[.slice none 0 0, .slice none 0 0]
  box : Blk wr (w0.heap.size + 1) 98 #[fv, .slice la ns.length lc]
  own : IOwn wr w0.heap.size (.slice la ns.length lc) ns
  bel : Below w0.heap.size w0 wr
theorem RdB.old {w0 wr w' : World} {fv : Value} {la : Option Addr} {lc : Nat} {ns : List Int} (h : RdB w0 wr fv la lc ns) (hb : Below wr.heap.size wr w') : RdB w0 w' fv la lc ns :=
  ⟨h.res.old hb, h.box.old hb, own_after h.own hb, h.bel.trans (hb.mono h.bel.size)⟩
theorem RdB.oth {w0 wr w' : World} {fv : Value} {la : Option Addr} {lc : Nat} {ns : List Int} (h : RdB w0 wr fv la lc ns) {X : Nat} (hO : Oth X wr w') (h1 : w0.heap.size + 1 < X) (h2 : some X ≠ (Value.slice la ns.length lc).ownBlock) : RdB w0 w' fv la lc ns :=
  ⟨(hO.block _ h.res.lt (by omega)).trans h.res, (hO.block _ h.box.lt (by omega)).trans h.box, h.own.oth hO h2,
    ⟨hO.os.trans h.bel.os, hO.tape.trans h.bel.tape, hO.output.trans h.bel.output, Nat.le_trans h.bel.size hO.size, fun k hk => (hO.block k (Nat.lt_of_lt_of_le hk h.bel.size) (by omega)).trans (h.bel.block k hk)⟩⟩
theorem RdB.lines {w0 W w7 : World} {fv : Value} {la la' : Option Addr} {lc lc' : Nat} {ns ys : List Int} (h : RdB w0 W fv la lc ns) (hown : IOwn w7 w0.heap.size (.slice la' (ns.length + ys.length) lc') (ns ++ ys)) (hg : W.grownBy w7 (Value.slice la ns.length lc).ownBlock) :
    Blk w7 (w0.heap.size + 1) 98 #[fv, .slice la ns.length lc] ∧ RdB w0 (w7.setCell ⟨w0.heap.size + 1, 1, none⟩ (.slice la' (ns.length + ys.length) lc')) fv la' lc' (ns ++ ys) := by
  obtain ⟨X, hX, hO⟩ := Oth.grown hg
  have hXT : w0.heap.size ≤ X ∧ w0.heap.size ≠ X ∧ w0.heap.size + 1 ≠ X := by
    rcases hX with e | ⟨e, rfl⟩
    · obtain ⟨e1, e2⟩ := own_ge h.own e
      refine ⟨e1, ?_, ?_⟩
      · rintro e3; exact own_ty h.own ⟨_, _, h.res⟩ (by decide) (by rw [e, e3])
      · rintro e3; exact own_ty h.own ⟨_, _, h.box⟩ (by decide) (by rw [e, e3])
    · exact ⟨h.bel.size, Nat.ne_of_lt h.res.lt, Nat.ne_of_lt h.box.lt⟩
  have hS7 : Blk w7 (w0.heap.size + 1) 98 #[fv, .slice la ns.length lc] := (hO.block _ h.box.lt hXT.2.2).trans h.box
  have hC7 : Blk w7 w0.heap.size 98 #[.slice none 0 0, .slice none 0 0] := (hO.block _ h.res.lt hXT.2.1).trans h.res
  have hO8 : Oth (w0.heap.size + 1) w7 (w7.setCell ⟨w0.heap.size + 1, 1, none⟩ (.slice la' (ns.length + ys.length) lc')) := Oth.set _ 1 w7 _
  refine ⟨hS7, (hO8.block _ hC7.lt (by omega)).trans hC7, ?_, ?_, ?_⟩
  · have := hS7.set 1 (.slice la' (ns.length + ys.length) lc')
    rw [List.length_append]
    exact this
  · rw [List.length_append]
    exact hown.oth hO8 (own_ty hown ⟨_, _, hS7⟩ (by decide))
  · have hb7 : Below w0.heap.size w0 w7 := ⟨hO.os.trans h.bel.os, hO.tape.trans h.bel.tape, hO.output.trans h.bel.output, Nat.le_trans h.bel.size hO.size, fun k hk => (hO.block k (Nat.lt_of_lt_of_le hk h.bel.size) (by omega)).trans (h.bel.block k hk)⟩
    exact hb7.setCell (p := ⟨w0.heap.size + 1, 1, none⟩) (Nat.le_succ _) _
theorem RdB.fields {w0 W w7 : World} {fa fa' la : Option Addr} {fc fc' lc : Nat} {ns : List Int} {qs : List FQ} {q : FQ} (h : RdB w0 W (.slice fa qs.length fc) la lc ns) (hf : FRow W w0.heap.size (.slice fa qs.length fc) qs) (hf7 : FRow w7 w0.heap.size (.slice fa' (qs.length + 1) fc') (qs ++ [q])) (hg : W.grownBy w7 (Value.slice fa qs.length fc).ownBlock) :
    Blk w7 (w0.heap.size + 1) 98 #[.slice fa qs.length fc, .slice la ns.length lc] ∧ RdB w0 (w7.setCell ⟨w0.heap.size + 1, 0, none⟩ (.slice fa' (qs.length + 1) fc')) (.slice fa' (qs.length + 1) fc') la lc ns ∧ FRow (w7.setCell ⟨w0.heap.size + 1, 0, none⟩ (.slice fa' (qs.length + 1) fc')) w0.heap.size (.slice fa' (qs.length + 1) fc') (qs ++ [q]) := by
  obtain ⟨X, hX, hO⟩ := Oth.grown hg
  have hXT : w0.heap.size ≤ X ∧ w0.heap.size ≠ X ∧ w0.heap.size + 1 ≠ X ∧ some X ≠ (Value.slice la ns.length lc).ownBlock := by
    rcases hX with e | ⟨e, rfl⟩
    · obtain ⟨e1, e2⟩ := hf.t48 e
      refine ⟨e1, ?_, ?_, ?_⟩
      · rintro rfl; exact not48 h.res (by decide) e2
      · rintro rfl; exact not48 h.box (by decide) e2
      · exact own_ty h.own e2 (by decide)
    · refine ⟨h.bel.size, Nat.ne_of_lt h.res.lt, Nat.ne_of_lt h.box.lt, fun e => ?_⟩
      obtain ⟨_, cs, f', hh⟩ := own_ge h.own e.symm
      have := (Array.getElem?_eq_some_iff.1 hh).1
      omega
  have hS7 : Blk w7 (w0.heap.size + 1) 98 #[.slice fa qs.length fc, .slice la ns.length lc] := (hO.block _ h.box.lt hXT.2.2.1).trans h.box
  have hC7 : Blk w7 w0.heap.size 98 #[.slice none 0 0, .slice none 0 0] := (hO.block _ h.res.lt hXT.2.1).trans h.res
  have hown7 := h.own.oth hO hXT.2.2.2
  have hO8 : Oth (w0.heap.size + 1) w7 (w7.setCell ⟨w0.heap.size + 1, 0, none⟩ (.slice fa' (qs.length + 1) fc')) := Oth.set _ 0 w7 _
  refine ⟨hS7, ⟨(hO8.block _ hC7.lt (by omega)).trans hC7, ?_, ?_, ?_⟩, hf7.oth hO8 (not48 hS7 (by decide))⟩
  · exact hS7.set 0 (.slice fa' (qs.length + 1) fc')
  · exact hown7.oth hO8 (own_ty hown7 ⟨_, _, hS7⟩ (by decide))
  · have hb7 : Below w0.heap.size w0 w7 := ⟨hO.os.trans h.bel.os, hO.tape.trans h.bel.tape, hO.output.trans h.bel.output, Nat.le_trans h.bel.size hO.size, fun k hk => (hO.block k (Nat.lt_of_lt_of_le hk h.bel.size) (by omega)).trans (h.bel.block k hk)⟩
    exact hb7.setCell (p := ⟨w0.heap.size + 1, 0, none⟩) (Nat.le_succ _) _
def K48 (F : Nat) (wa wb : World) : Prop := ∀ b, b < F → T48 wa b → wb.heap[b]? = wa.heap[b]?
theorem K48.trans {F : Nat} {a b c : World} (h : K48 F a b) (k : K48 F b c) : K48 F a c := fun i hi ht => by
  have e := h i hi ht
  obtain ⟨cs, f, hh⟩ := ht
  exact (k i hi ⟨cs, f, e.trans hh⟩).trans e
theorem K48.of {F n : Nat} {a b : World} (h : Below n a b) (hn : F ≤ n) : K48 F a b := fun i hi _ => h.block i (by omega)
theorem K48.oth {F X : Nat} {a b : World} (h : Oth X a b) (hX : T48 a X → F ≤ X) : K48 F a b := fun i hi ht => h.block i ht.lt (fun e => by subst e; have := hX ht; omega)
theorem K48.lines {F : Nat} {W w7 : World} {base : Nat} {la : Option Addr} {lc : Nat} {ns : List Int} (hF : F ≤ W.heap.size) (h : IOwn W base (.slice la ns.length lc) ns) (hg : W.grownBy w7 (Value.slice la ns.length lc).ownBlock) : K48 F W w7 := by
  obtain ⟨X, hX, hO⟩ := Oth.grown hg
  refine K48.oth hO fun ht => ?_
  rcases hX with e | ⟨e, rfl⟩
  · exact absurd e.symm (own_ty h ht (by decide))
  · exact hF
theorem FRow.k48 {w w' : World} {lo : Nat} {v : Value} {qs : List FQ} (h : FRow w lo v qs) (hk : K48 w.heap.size w w') : FRow w' lo v qs := h.keep fun b _ hb => hk b hb.lt hb
def RdPost (w : World) (L : Nat) (G : Except Int (List Fld × List Ln × List Int)) (e : Ending) (w' : World) : Prop :=
  Below w.heap.size w w' ∧ match G with
  | .error m => ∃ a1 n1 c1 a2 n2 c2 x, e = .returned (.tuple #[.agg #[.slice a1 n1 c1, .slice a2 n2 c2], .int .i64 x, .int .i64 m])
  | .ok r => ∃ fa fc la lc, e = .returned (.tuple #[.agg #[.slice fa r.1.length fc, .slice la r.2.2.length lc], .int .i64 ((L - r.2.1.length : Nat) : Int), .int .i64 0]) ∧ r.1.length ≤ fc ∧ FT w' w.heap.size none r.1 fa fc ∧ IOwn w' w.heap.size (.slice la r.2.2.length lc) r.2.2
theorem rpost_err {w w' : World} {L : Nat} {G : Except Int (List Fld × List Ln × List Int)} {m : Int} (h : G = .error m) (hb : Below w.heap.size w w') (a1 a2 : Option Addr) (n1 c1 n2 c2 : Nat) (x : Int) : RdPost w L G (.returned (.tuple #[.agg #[.slice a1 n1 c1, .slice a2 n2 c2], .int .i64 x, .int .i64 m])) w' := by
  subst h
  exact ⟨hb, a1, n1, c1, a2, n2, c2, x, rfl⟩
theorem rpost_ok {w w' : World} {L x : Nat} {G : Except Int (List Fld × List Ln × List Int)} {qs : List FQ} {ls : List Ln} {ns : List Int} (h : G = .ok (qs.map Prod.fst, ls, ns)) (hx : x = L - ls.length) (hb : Below w.heap.size w w') {fa la : Option Addr} {fc lc : Nat} (hf : FRow w' w.heap.size (.slice fa qs.length fc) qs) (hi : IOwn w' w.heap.size (.slice la ns.length lc) ns) : RdPost w L G (.returned (.tuple #[.agg #[.slice fa qs.length fc, .slice la ns.length lc], .int .i64 (x : Int), .int .i64 0])) w' := by
  subst h hx
  obtain ⟨_, hfc, hFT⟩ := hf.fin
  exact ⟨hb, fa, fc, la, lc, by simp, by simpa using hfc, hFT, hi⟩
theorem RdB.done {w0 W : World} {fa la : Option Addr} {fc lc : Nat} {ns : List Int} {qs : List FQ} (h : RdB w0 W (.slice fa qs.length fc) la lc ns) (hf : FRow W w0.heap.size (.slice fa qs.length fc) qs) :
    Blk ((W.setCell ⟨w0.heap.size, 0, none⟩ (.slice fa qs.length fc)).setCell ⟨w0.heap.size, 1, none⟩ (.slice la ns.length lc)) w0.heap.size 98 #[.slice fa qs.length fc, .slice la ns.length lc] ∧ FRow ((W.setCell ⟨w0.heap.size, 0, none⟩ (.slice fa qs.length fc)).setCell ⟨w0.heap.size, 1, none⟩ (.slice la ns.length lc)) w0.heap.size (.slice fa qs.length fc) qs ∧ IOwn ((W.setCell ⟨w0.heap.size, 0, none⟩ (.slice fa qs.length fc)).setCell ⟨w0.heap.size, 1, none⟩ (.slice la ns.length lc)) w0.heap.size (.slice la ns.length lc) ns ∧ Below w0.heap.size w0 ((W.setCell ⟨w0.heap.size, 0, none⟩ (.slice fa qs.length fc)).setCell ⟨w0.heap.size, 1, none⟩ (.slice la ns.length lc)) := by
  have hO : Oth w0.heap.size W ((W.setCell ⟨w0.heap.size, 0, none⟩ (.slice fa qs.length fc)).setCell ⟨w0.heap.size, 1, none⟩ (.slice la ns.length lc)) := (Oth.set _ 0 W _).trans (Oth.set _ 1 _ _)
  refine ⟨((h.res.set 0 (.slice fa qs.length fc)).set 1 (.slice la ns.length lc)), hf.oth hO (not48 h.res (by decide)), h.own.oth hO (own_ty h.own ⟨_, _, h.res⟩ (by decide)), ?_⟩
  exact (h.bel.setCell (p := ⟨w0.heap.size, 0, none⟩) (Nat.le_refl _) _).setCell (p := ⟨w0.heap.size, 1, none⟩) (Nat.le_refl _) _
theorem res48 {tmps : Array Value} {w : World} {T : Nat} {v0 v1 b c : Value} (hT : Blk w T 98 #[v0, v1]) (t8 : tmps[8]?.getD undef = .pointer (some ⟨T, 0, none⟩)) (t9 : tmps[9]?.getD undef = b) (t10 : tmps[10]?.getD undef = c) : (results Tryz.f48 tmps).run Tryz.prog w = .ok (.tuple #[.agg #[v0, v1], b, c]) w := by
  have d0 : w.cell? ⟨T, 0, none⟩ = some v0 := hT.cell 0
  have d1 : w.cell? ⟨T, 1, none⟩ = some v1 := hT.cell 1
  simp [results, Tryz.results48, go_sem, t8, t9, t10, d0, d1]
theorem wpList_append_spread {w : World} {ops : Array Oper} {rest : List Oper} {o : Oper} {a : Act} {Q : Exit → Act → World → Prop} (hgd : o.guard = none) (s x : Operand)
    (ho : o.op = .call { callee := .builtin .append, args := #[s, x], argTypes := #[29, 29] })
    (base : Nat) (va : Option Addr) (vc : Nat) (zs : List Int) (hs : a.eval s = .slice va zs.length vc) (hown : IOwn w base (.slice va zs.length vc) zs) (base2 : Nat) (ys : List Int) (pa : Option Addr) (pc : Nat) (hx : a.eval x = .slice pa ys.length pc)
    (hy : IOwn w base2 (.slice pa ys.length pc) ys) (hlen : zs.length + ys.length ≤ 1099511627776) (hbase : base ≤ w.heap.size)
    (h : ∀ a' c' w', IOwn w' base (.slice a' (zs.length + ys.length) c') (zs ++ ys) → w.grownBy w' (Value.slice va zs.length vc).ownBlock → wpList Tryz.prog ops Q rest (a.put o.dst (.slice a' (zs.length + ys.length) c')) w') :
    wpList Tryz.prog ops Q (o :: rest) a w := by
  rcases hy.form with ⟨hv, hys⟩ | ⟨g, cap, hv, _, _, _, hc, _⟩
  · subst hys
    cases hv
    have hle : zs.length ≤ vc := by
      rcases hown.form with ⟨e, e2⟩ | ⟨g, cap, e, _, _, hcap, _⟩
      · rw [e2]; exact Nat.zero_le _
      · cases e; exact hcap
    obtain ⟨i, hi, hz, hsz, hby⟩ := info_parts info3
    have hr := run_append_nothing (P := Tryz.prog) w 29 29 o.type 3 i Tryz.underlying29 hi va zs.length vc hle _ (Src.ofNil w Tryz.underlying29 0)
    refine wpList_plain hgd fun K hK => ?_
    unfold Oper.wp execOp
    rw [List.length_nil] at hx
    simp only [ho, resolve, invoke, builtin, Sem.run_bind, Sem.run_pure, Result.andThen_ok, List.map_toArray, List.map_cons, List.map_nil, hs, hx, hr]
    refine hK _ _ ?_
    have := h va vc w (by simpa using hown) ⟨rfl, rfl, rfl, Nat.le_refl _, fun _ _ _ => rfl⟩
    simpa using this
  · cases hv
    exact wpList_append_ints hgd s x ho base _ zs hs hown ys ⟨g, 0, none⟩ _ hx (fun j hj => by
      rw [show (⟨g, 0, none⟩ : Addr).add j = ⟨g, j, none⟩ by by_cases hj : j = 0 <;> simp [Addr.add, hj]]
      exact hc j hj) hlen hbase (fun a' c' w' h1 h2 _ _ => h a' c' w' h1 h2)
end Go.Proofs.YtcbjnifoojjipaaGreatDoor
