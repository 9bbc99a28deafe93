/- Contracts and lemmas (nothing is claimed here). -/
import Derived.Test.YtfhpgmlfgjfknaaGreatDoorMatW
import Derived.OwnWalk
import Derived.WalkMore
import Derived.Test.YtfhpgmlfgjfknaaGreatDoorJ7
import Derived.Test.YtfhpgmlfgjfknaaGreatDoorJ13
namespace Go.Proofs.YtfhpgmlfgjfknaaGreatDoor
open Go.RowKit Go.Vf Go.Maps
theorem IOwn.form1 {w : World} {base : Nat} {a : Option Addr} {k c : Nat} {zs : List Int} (h : IOwn w base (.slice a k c) zs) : k = zs.length := by
  obtain ⟨a', c', e⟩ := h.val
  exact (Value.slice.inj e).2.1
set_option maxHeartbeats 4000000 in
theorem front_any {w₁ : World} {bd T B g off cap : Nat} {ps : List (List Int)} {W : World} (hk : MWk w₁ bd T B g off cap ps W) (hl : ps.length ≤ 4611686018427387904) (hpl : ∀ p ∈ ps, p.length ≤ 4611686018427387904) (most : Nat) (hm : most ≤ 8) :
    Calls Tryz.prog 208 #[.pointer (some ⟨B, 0, none⟩), .int .i64 most] W fun e W' => ∃ gr k c, e = .returned (.slice (some ⟨gr, 0, none⟩) k c) ∧ IOwn W' W.heap.size (.slice (some ⟨gr, 0, none⟩) k c) (ps.flatten.take most) ∧ Below W.heap.size W W' := by
  have HM : Hid (most ≤ 8) := hm
  clear hm
  generalize hR : ps.flatten.take most = R
  have HR : Hid (([] ++ (ps.drop 0).flatten).take most = R) := by show _ = _; simpa using hR
  clear hR
  obtain ⟨c0, c1, c2⟩ := hk.cells
  obtain ⟨i0, hi0, hz0, hsz0, hby0⟩ := info_parts info3
  have HI0 : Hid (i0.bytes = 8) := hby0
  clear hby0
  go_enter Tryz.func208, Tryz.ntmps208
  go_wp2
  go_step3
  go_wp2_with (first | (at_make; refine wpList_make_own _ rfl _ _ 46 rfl W.heap.size 3 i0 (.int .i64 0) 1 Tryz.underlying46 hi0 hz0 hsz0 .i64 .i64 _ most rfl rfl rfl (by have := HM.out; rw [HI0.out]; omega) (by have := HM.out; unfold maxLen; omega) (Nat.le_refl _) ?_; intro w0 hown0 hgrow0))
  have hb0 : Below W.heap.size W w0 := (Below.refl _ W).grown hgrow0 (Nat.le_refl _) (fun j hj => by cases hj)
  have HOWN0 : Aside (IOwn w0 W.heap.size (.slice (some ⟨W.heap.size, 0, none⟩) 0 most) []) := hown0
  have c2' := (hb0.cell (p := ⟨B, 2, none⟩) hk.blk.lt).trans c2
  clear hown0 hgrow0 hi0 hz0 hsz0 HI0
  go_step3
  go_wp2_with fail
  go_loopw [5, 17] (fun v i wr => ∃ (k : Nat) (acc : List Int) (gg kk cc : Nat), k ≤ ps.length ∧ i = .int .i64 k ∧ v = .slice (some ⟨gg, 0, none⟩) kk cc ∧ Aside (IOwn wr W.heap.size (.slice (some ⟨gg, 0, none⟩) kk cc) acc) ∧ Hid ((acc ++ (ps.drop k).flatten).take most = R) ∧ acc.length ≤ most ∧ Below W.heap.size W wr) (fun _ i _ => ps.length - (intOf i).toNat)
  case atStart => exact ⟨0, [], W.heap.size, 0, most, by omega, rfl, rfl, HOWN0, HR, by simp, hb0⟩
  case round =>
    clear HOWN0 hb0 HR c2'
    obtain ⟨k, acc, gg, kk, cc, hkk, rfl, rfl, HOWN, HK, hacc, hbel⟩ := hrel
    by_cases hlt : k < ps.length
    · obtain ⟨b3, o3, c, e0, d1, d2⟩ := hk.piece hlt
      obtain ⟨csg, hcg⟩ := hk.row
      have d0 := (hbel.cell (p := ⟨g, off + k, none⟩) hcg.lt).trans e0
      have hpk := hpl _ (List.getElem_mem hlt)
      have hdr : ps.drop k = ps[k] :: ps.drop (k + 1) := List.drop_eq_getElem_cons hlt
      have HK2 : Hid ((acc ++ (ps[k].drop 0) ++ (ps.drop (k + 1)).flatten).take most = R) := by
        show _ = _
        rw [← HK.out, hdr]
        simp only [List.drop_zero, List.flatten_cons, List.append_assoc]
      generalize ps[k] = p at e0 d0 d1 d2 HK2 hpk
      clear HK hdr e0
      have c2' := (hbel.cell (p := ⟨B, 2, none⟩) hk.blk.lt).trans c2
      go_wp2_with fail
      go_loopw [5, 23] (fun v j wr2 => ∃ (n : Nat) (ac : List Int) (gg kk cc : Nat), n ≤ p.length ∧ j = .int .i64 n ∧ v = .slice (some ⟨gg, 0, none⟩) kk cc ∧ Aside (IOwn wr2 W.heap.size (.slice (some ⟨gg, 0, none⟩) kk cc) ac) ∧ Hid ((ac ++ (p.drop n) ++ (ps.drop (k + 1)).flatten).take most = R) ∧ ac.length ≤ most ∧ Below W.heap.size W wr2) (fun _ j _ => p.length - (intOf j).toNat)
      case atStart => exact ⟨0, acc, gg, kk, cc, by omega, rfl, rfl, HOWN, HK2, hacc, hbel⟩
      case round =>
        clear HK2 HOWN hacc d0
        obtain ⟨n, ac, gg2, kk2, cc2, hn, rfl, rfl, HOWN, HK, hac, hbel2⟩ := hrel
        have hkk2 := HOWN.out.form1
        subst hkk2
        by_cases hln : n < p.length
        · have hcj := (hbel2.cell (p := ⟨b3, o3 + n, none⟩) (Nat.lt_of_lt_of_le d2.1 hk.below.size)).trans (d2.2 n hln)
          rw [show p[n]?.getD 0 = p[n] by simp [List.getElem?_eq_getElem hln]] at hcj
          have hdr : p.drop n = p[n] :: p.drop (n + 1) := List.drop_eq_getElem_cons hln
          by_cases hfull : ac.length = most
          · have hRR : R = ac := by rw [← HK.out, List.append_assoc, List.take_append_of_le_length (by omega), List.take_of_length_le (by omega)]
            clear HK hdr
            have hf2 : ((ac.length : Int) == (most : Int)) = true := by simp [hfull]
            clear hfull
            go_wp2_with fail
            try rw [Exit.noGoto_ret]
            go_ret
            rw [hRR]
            exact ⟨_, _, _, rfl, HOWN.out, hbel2⟩
          · have hf2 : ((ac.length : Int) == (most : Int)) = false := by simp; omega
            have HK2 : Hid (((ac ++ [p[n]]) ++ (p.drop (n + 1)) ++ (ps.drop (k + 1)).flatten).take most = R) := by
              show _ = _
              rw [← HK.out, hdr]
              simp only [List.append_assoc, List.cons_append, List.nil_append]
            have hlq : ac.length + 1 ≤ most := by omega
            have HM8 := HM.out
            generalize p[n] = q at hcj HK2
            clear HK hdr hfull
            have hsz2 : W.heap.size ≤ wr.heap.size := hbel2.size
            have hbA := (Below.refl wr.heap.size wr).alloc (Nat.le_refl _) (.cells #[.int .i64 q] 3)
            have hnb := Blk.new wr 3 #[.int .i64 q]
            have HOWN2 : Aside (IOwn (wr.alloc (.cells #[.int .i64 q] 3)) W.heap.size (.slice (some ⟨gg2, 0, none⟩) ac.length cc2) ac) := own_after HOWN.out hbA
            have hszA : W.heap.size ≤ (wr.alloc (.cells #[.int .i64 q] 3)).heap.size := Nat.le_trans hsz2 hbA.size
            go_wp2_with (first | (at_builtin; refine wpList_append_keep rfl _ _ rfl W.heap.size _ ac rfl HOWN2.out q ⟨wr.heap.size, 0, none⟩ _ rfl (hnb.cell 0) (by omega) hszA ?_; intro v4 w4 hown4 hold4 hgr4; obtain ⟨a4, c4, rfl⟩ := hown4.val; obtain ⟨g4, rfl, hg4, hcap4⟩ := hown4.some_of (by simp)))
            have hb4 : Below W.heap.size W w4 := (hbel2.alloc hsz2 _).grown hgr4 hszA (fun j hj => (own_ge HOWN2.out hj).1)
            have HOWN4 : Aside (IOwn w4 W.heap.size (.slice (some ⟨g4, 0, none⟩) (ac ++ [q]).length c4) (ac ++ [q])) := hown4
            clear hown4 hold4 hgr4 hcap4
            go_roundw
            case rel => exact ⟨n + 1, ac ++ [q], g4, (ac ++ [q]).length, c4, by omega, by simp, by simp, HOWN4, HK2, by simp; omega, hb4⟩
            case measure => simp only [intOf]; omega
        · have HK3 : Hid ((ac ++ (ps.drop (k + 1)).flatten).take most = R) := by
            show _ = _
            rw [← HK.out, List.drop_of_length_le (show p.length ≤ n by omega), List.append_nil]
          clear HK
          go_wp2_with fail
          go_roundw
          case rel => exact ⟨k + 1, ac, gg2, ac.length, cc2, by omega, by simp, by simp, HOWN, HK3, hac, hbel2⟩
          case measure => simp only [intOf]; omega
    · have hRR : R = acc := by rw [← HK.out, List.drop_of_length_le (by omega), List.flatten_nil, List.append_nil, List.take_of_length_le hacc]
      clear HK
      go_wp2_with fail
      try rw [Exit.noGoto_ret]
      go_ret
      rw [hRR]
      exact ⟨_, _, _, rfl, HOWN.out, hbel⟩
def allB (l : List El) : Bool := decide (1 ≤ l.length) && decide (l.length ≤ 16) && l.all rightB
theorem all_drop (l : List El) (k : Nat) (h : k < l.length) : (l.drop k).all rightB = (rightB l[k] && (l.drop (k + 1)).all rightB) := by
  rw [List.drop_eq_getElem_cons h, List.all_cons]
set_option maxHeartbeats 1000000 in
theorem allRight_any (n₀ : Nat) (v : Value) (l : List El) (w : World) (hn₀ : n₀ ≤ w.heap.size) (hin : Els n₀ w v l) (hll : l.length ≤ 4611686018427387904) :
    Calls Tryz.prog 82 #[v] w fun e w' => e = .returned (.bool (allB l)) ∧ Below w.heap.size w w' := by
  obtain ⟨a, cap, rfl⟩ := hin.val
  by_cases h0 : l.length = 0
  · have hR : allB l = false := by simp [allB, h0]
    rw [hR]
    rw [h0]
    clear hR
    go_enter Tryz.func82, Tryz.ntmps82
    go_wp2
    go_ret
    exact ⟨rfl, Below.refl _ _⟩
  · by_cases h16 : 16 < l.length
    · have hR : allB l = false := by simp [allB]; omega
      rw [hR]
      clear hR
      go_enter Tryz.func82, Tryz.ntmps82
      go_wp2
      go_ret
      exact ⟨rfl, Below.refl _ _⟩
    · have hR : allB l = l.all rightB := by
        unfold allB
        rw [show decide (1 ≤ l.length) = true by simp; omega, show decide (l.length ≤ 16) = true by simp; omega]
        rfl
      generalize allB l = R at hR ⊢
      have HR : Hid (R = l.all rightB) := hR
      clear hR
      have b0 : ((l.length : Int) == 0) = false := beq_eq_false_iff_ne.2 (by omega)
      have b16 : decide ((16 : Int) < (l.length : Int)) = false := by simp; omega
      have H0 : Hid (1 ≤ l.length ∧ l.length ≤ 16) := ⟨by omega, by omega⟩
      clear h0 h16
      go_enter Tryz.func82, Tryz.ntmps82
      go_wp2_with fail
      go_loopw [15] (fun i wr => ∃ k : Nat, k ≤ l.length ∧ i = .int .i64 k ∧ Hid (R = (l.drop k).all rightB) ∧ Below w.heap.size w wr) (fun i _ => l.length - (intOf i).toNat)
      case atStart => exact ⟨0, by omega, rfl, HR, Below.refl _ _⟩
      case round =>
        clear HR
        obtain ⟨k, hk, rfl, HK, hbel⟩ := hrel
        by_cases hlt : k < l.length
        · obtain ⟨b, off, rfl, c0, c1, c2, c3⟩ := (hin.below hbel hn₀).at hlt
          have hd := all_drop l k hlt
          have hKK := HK.out
          rw [hd] at hKK
          generalize l[k] = e at c0 c1 c2 c3 hKK
          obtain ⟨va, pr, se, te⟩ := e
          simp only at c0 c1 c2 c3
          have hb1 := hbel.alloc hbel.size (.cells #[.bool va, .int .i64 pr, .int .i64 se, .int .i64 te] 131)
          have HKK : Hid (R = (rightB ⟨va, pr, se, te⟩ && (l.drop (k + 1)).all rightB)) := hKK
          clear hKK HK hd
          go_wp2_with fail
          generalize wr.alloc (.cells #[.bool va, .int .i64 pr, .int .i64 se, .int .i64 te] 131) = W at hb1 ⊢
          refine (isRight_any ⟨va, pr, se, te⟩ W).mono ?_
          rintro _ w2 ⟨rfl, hb2⟩
          have hb3 : Below w.heap.size w w2 := hb1.trans (hb2.mono hb1.size)
          cases hq : rightB ⟨va, pr, se, te⟩ with
          | false =>
            have hRn : R = false := by rw [HKK.out, hq]; rfl
            clear HKK hq
            go_wp2
            go_ret
            exact ⟨by rw [hRn]; rfl, hb3⟩
          | true =>
            have HK2 : Hid (R = (l.drop (k + 1)).all rightB) := by
              show _ = _
              rw [HKK.out, hq]; rfl
            clear HKK hq
            go_wp2
            go_roundw
            case rel => exact ⟨k + 1, by omega, by simp, HK2, hb3⟩
            case measure => simp only [intOf]; omega
        · have hRn : R = true := by rw [HK.out, List.drop_of_length_le (by omega)]; rfl
          clear HK
          go_wp2
          go_ret
          exact ⟨by rw [hRn]; rfl, hbel⟩
def impR (n : Int) : List El := if isPtB n then [⟨false, baseR n + n / 32768, 32, 2⟩, ⟨false, 32768 + n % 32768, 0, 0⟩] else []
theorem base_in (n : Int) : 64320 ≤ baseR n ∧ baseR n ≤ 64448 := by
  unfold baseR; split
  · omega
  · split <;> omega
theorem and_low (u : Nat) (hu : u ≤ 1114111) : bits BinOp.and IntKind.i64 (u : Int) 32767 = ((u % 32768 : Nat) : Int) := by
  have h1 : (BitVec.ofInt 64 (u : Int)).toNat = u := by
    rw [BitVec.ofInt_natCast, BitVec.toNat_ofNat]; exact Nat.mod_eq_of_lt (by omega)
  have h2 : (BitVec.ofInt 64 (32767 : Int)).toNat = 32767 := by decide
  have h3 : u &&& 32767 = u % 32768 := Nat.and_two_pow_sub_one_eq_mod u 15
  show IntKind.i64.wrap ((BitVec.ofInt 64 (u : Int) &&& BitVec.ofInt 64 (32767 : Int)).toNat : Int) = _
  rw [BitVec.toNat_and, h1, h2, h3]
  have h4 : u % 32768 < 32768 := Nat.mod_lt _ (by omega)
  generalize u % 32768 = q at h4
  exact IntWalk.i64_in _ ⟨by omega, by omega⟩
theorem own_new (w : World) (l : List El) (hl : l.length ≤ 1048576) : EOwn (w.alloc (.cells (elsV l).toArray 131)) w.heap.size (.slice (some ⟨w.heap.size, 0, none⟩) l.length l.length) l := by
  refine ⟨?_, .inr ⟨w.heap.size, l.length, (elsV l).toArray, rfl, Nat.le_refl _, Blk.new w 131 _, Nat.le_refl _, ?_, ?_, ?_⟩⟩
  · simp [elsV_len]
  · unfold maxLen; omega
  · simp [elsV_len]
  · simp [elsV_len, List.take_of_length_le]
set_option maxHeartbeats 1000000 in
theorem implied_any (n : Int) (w : World) : Calls Tryz.prog 107 #[.int .i64 n] w fun e w' => ∃ v, e = .returned v ∧ EOwn w' w.heap.size v (impR n) ∧ Below w.heap.size w w' ∧ (v = .slice none 0 0 ∨ v = .slice (some ⟨w.heap.size, 0, none⟩) 2 2) := by
  cases hp : isPtB n with
  | false =>
    have hR : impR n = [] := by unfold impR; rw [hp]; rfl
    rw [hR]
    have h1 := fun w => isPoint_any n w
    rw [hp] at h1
    clear hR hp
    go_enter Tryz.func107, Tryz.ntmps107
    go_wp2_with fail
    refine (h1 _).mono ?_
    rintro _ w1 ⟨rfl, rfl⟩
    go_wp2
    go_ret
    exact ⟨_, rfl, EOwn.nil _ _, Below.refl _ _, .inl rfl⟩
  | true =>
    have h1 := fun w => isPoint_any n w
    rw [hp] at h1
    obtain ⟨u, rfl, hu⟩ := isPtB_nat hp
    have hR : impR (u : Int) = [⟨false, baseR u + (u : Int) / 32768, 32, 2⟩, ⟨false, 32768 + (u : Int) % 32768, 0, 0⟩] := by unfold impR; rw [hp]; rfl
    have hbi := base_in u
    have hand := and_low u hu
    have hq : (0 : Int) ≤ (u : Int) / 32768 ∧ (u : Int) / 32768 ≤ 34 := by omega
    have hm : ((u % 32768 : Nat) : Int) < 32768 := by omega
    generalize impR (u : Int) = R at hR ⊢
    have HR : Hid (R = [⟨false, baseR u + (u : Int) / 32768, 32, 2⟩, ⟨false, 32768 + (u : Int) % 32768, 0, 0⟩]) := hR
    clear hp hR
    have h2 := fun w => base_any (u : Int) w
    generalize baseR (u : Int) = B at hbi h2 HR
    go_enter Tryz.func107, Tryz.ntmps107
    go_wp2_with fail
    refine (h1 _).mono ?_
    rintro _ w1 ⟨rfl, rfl⟩
    go_wp2_with fail
    refine (h2 _).mono ?_
    rintro _ w1 ⟨rfl, rfl⟩
    go_wp2_with fail
    go_ret
    have ho := own_new w R (by rw [HR.out]; simp)
    refine ⟨_, rfl, ?_, (Below.refl _ _).alloc (Nat.le_refl _) _, .inr rfl⟩
    rw [HR.out] at ho ⊢
    exact ho
end Go.Proofs.YtfhpgmlfgjfknaaGreatDoor
