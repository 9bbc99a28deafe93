/- Contracts and lemmas (nothing is claimed here). -/
import Derived.Test.YtkjoomdglealmaaGreatDoorJ18
import Derived.Test.YtkjoomdglealmaaGreatDoorJ8
import Derived.Test.YtkjoomdglealmaaGreatDoorJ3
namespace Go.Proofs.YtkjoomdglealmaaGreatDoor
open Go.RowKit Go.Vf

/-- What is wrong with bytes, as an error. -/
def bytE (q at' : Int) : Option (Int × Int × List Int × Int) := if q = 0 then none else some (q, if q = 125 then at' else 0, [], if q = 125 then 30 else 0)
theorem plain_val {q A : Int} {Y : Value} {b : Nat} {e : Ending} {w' : World} (h : (q = 0 ∧ e = .returned .nilIface) ∨ (q ≠ 0 ∧ ∃ v, e = .returned v ∧ FaultAt w' b v q A [] Y)) : ∃ v, e = .returned v ∧ ((q = 0 ∧ v = .nilIface) ∨ (q ≠ 0 ∧ FaultAt w' b v q A [] Y)) := by
  rcases h with ⟨h0, he⟩ | ⟨h0, v, he, hF⟩
  · exact ⟨_, he, .inl ⟨h0, rfl⟩⟩
  · exact ⟨v, he, .inr ⟨h0, hF⟩⟩
set_option maxHeartbeats 4000000 in
set_option maxRecDepth 20000 in
theorem unfit_raw (o : Go.Vf.Own) (a : Option Addr) (n c : Nat) (k : Int) (r : ByteArray) (hkr : isRawK k = true) (hk : o.kind = k) (hk1 : 1 ≤ k) (hk7 : k ≤ 7) (hr : r.size ≤ 281474976710656) (at' : Int) (w : World) (ht : Tabs w) (hU : ∀ W, Tabs W → Calls Tryz.prog 108 #[.string r] W fun e w' => e = .returned (.int .i64 at') ∧ Below W.heap.size W w') :
    Calls Tryz.prog 46 #[fV o a n c, .iface 132 (.agg #[.int .u8 k, .string r])] w (ErrPost (bytE (bytR o r.size at') at') w) := by
  have hb1 := (Below.refl w.heap.size w).alloc (Nat.le_refl _) (.cells (cellsF o a n c) 57)
  have hN1 := Blk.new w 57 (cellsF o a n c)
  have hw := want_ok (p := .mk k false false ⟨#[]⟩ r []) (k := o.kind) (by omega) (by omega) hk.symm 0 0 (w.alloc (.cells (cellsF o a n c) 57)) (VIn.raw (w := w.alloc (.cells (cellsF o a n c) 57)) (lo := 0) (n₀ := 0) k r hkr)
  have hub := fun W hT => unfitBytes_any o a n c r hr at' W hT hU
  have hT1 : Tabs (w.alloc (.cells (cellsF o a n c) 57)) := ht.below ht.size hb1
  have t1 := ta58_85 k r
  have hmb := mBytesR k r
  unfold fV at hub ⊢
  obtain ⟨c0, c1, c2, c3, c4, c5, c6, c7, c8, c9, c10, c11, c12, c13⟩ := cells14 hN1
  simp only [cellsF] at hb1 hw c0 c1 c2 c3 c4 c5 c6 c7 c8 c9 c10 c11 c12 c13 hN1 hT1
  generalize bytR o r.size at' = q at hub ⊢
  obtain ⟨R, hR⟩ : ∃ R, bytE q at' = R := ⟨_, rfl⟩
  rw [hR]
  have HR : Hid (bytE q at' = R) := hR
  clear hk hR hU ht
  go_enter Tryz.func46, Tryz.ntmps46
  go_wp2_with fail
  refine hw.mono ?_
  rintro _ w2 ⟨rfl, hb2⟩
  have hb02 := hb1.trans (hb2.mono hb1.size)
  have hN2 := hN1.old hb2
  have hT2 : Tabs w2 := hT1.below hT1.size hb2
  clear c0 c1 c2 c3 c4 c5 c6 c7 c8 c9 c10 c11 c12 c13 hw
  have HKeep : Hid (∀ x y, Below w2.heap.size w2 x → Below x.heap.size x y → Below w2.heap.size w2 y) := fun x y h1 h2 => h1.trans (h2.mono h1.size)
  have hTT : ∀ x, Below w2.heap.size w2 x → Tabs x := fun x hx => hT2.below hT2.size hx
  go_upto_region 9 with fail
  refine wp_region_held_drew (S := fun x => Below w2.heap.size w2 x) (by kernel_rfl) ((Below.refl _ _).drew) (fun hHeld => ?_)
  refine wpAnyH_takeD (i := 0) (some 30) (v := .agg #[.string o.name, .int .u8 o.kind, .bool o.down, .int .u8 o.nulls, .bool o.bnd, .bool o.ln, .string o.lm, .bool o.hn, .string o.hm, .int .i64 o.most, .int .i64 o.str, .bool o.shf, .bool o.bck, .slice a n c]) rfl rfl (by kernel_rfl) (by kernel_rfl) (by kernel_rfl) (fun _ _ _ h => h) (Or.inl ⟨by kernel_rfl, ?hy0⟩) (by assumption) ?rest0
  case hy0 => (intro x hSx; obtain ⟨p0, p1, p2, p3, p4, p5, p6, p7, p8, p9, p10, p11, p12, p13⟩ := (hN2.old hSx).c14; (try dsimp only at hSx); go_simp; first | done | with_reducible rfl)
  try simp only [Act.put, List.setIfInBounds_toArray, List.set_cons_zero, List.set_cons_succ]
  refine wpAnyH_takeD (i := 1) (some 31) (v := .iface 132 (.agg #[.int .u8 k, .string r])) rfl rfl (by kernel_rfl) (by kernel_rfl) (by kernel_rfl) (fun _ _ _ h => h) (Or.inl ⟨by kernel_rfl, ?hy1⟩) (by assumption) ?rest1
  case hy1 => (intro x hSx; (try dsimp only at hSx); go_simp; first | done | with_reducible rfl)
  try simp only [Act.put, List.setIfInBounds_toArray, List.set_cons_zero, List.set_cons_succ]
  refine wpAnyH_ready (rs := [2]) (by kernel_rfl) (by simp) ?_
  refine AllReadyH.cons rfl (fun K hK => ?_) AllReadyH.nil
  go_simp
  go_wp2_with (go_at_call 344; refine (bytesRaw k r _).mono ?_; rintro e y2 ⟨rfl, hb3⟩)
  refine hK.out _ _ (HKeep.out _ _ hHeld hb3) (fun hHeld2 => ?_)
  clear hK K
  try simp only [Act.put, List.setIfInBounds_toArray, List.set_cons_zero, List.set_cons_succ]
  refine wpAnyH_ready (rs := [3]) (by kernel_rfl) (by simp) ?_
  refine AllReadyH.cons rfl (fun K hK => ?_) AllReadyH.nil
  go_simp
  go_wp2_with (go_at_call 71; refine (hub _ (hTT _ hHeld2)).mono ?_; rintro e y3 ⟨hb4, hpost⟩; obtain ⟨v, rfl, hv⟩ := plain_val hpost)
  have hbF := HKeep.out _ _ hHeld2 hb4
  have hb0F := hb02.trans (hbF.mono hb02.size)
  have hbs := hb02.trans (hHeld2.mono hb02.size)
  rcases hv with ⟨h0, rfl⟩ | ⟨hne, hF⟩
  · refine hK.out _ _ hbF (fun hHeld3 => ?_)
    clear hK K
    try simp only [Act.put, List.setIfInBounds_toArray, List.set_cons_zero, List.set_cons_succ]
    refine wpAnyH_takeD (i := 4) (some 4) (v := .nilIface) rfl rfl (by kernel_rfl) (by kernel_rfl) (by kernel_rfl) (fun _ _ _ h => h) (Or.inl ⟨by kernel_rfl, ?hyz⟩) (by assumption) ?restz
    case hyz => (intro x hSx; (try dsimp only at hSx); go_simp; first | done | with_reducible rfl)
    try simp only [Act.put, List.setIfInBounds_toArray, List.set_cons_zero, List.set_cons_succ]
    refine wpAnyH_done (by kernel_rfl) ?_ _
    have hRq : R = none := by rw [← HR.out, bytE, if_pos h0]
    clear HR hub
    go_wp2_with fail
    go_ret
    exact ⟨hb0F, by first | rfl | (rw [hRq]; rfl)⟩
  · refine hK.out _ _ hbF (fun hHeld3 => ?_)
    clear hK K
    try simp only [Act.put, List.setIfInBounds_toArray, List.set_cons_zero, List.set_cons_succ]
    refine wpAnyH_takeD (i := 4) (some 4) (v := v) rfl rfl (by kernel_rfl) (by kernel_rfl) (by kernel_rfl) (fun _ _ _ h => h) (Or.inl ⟨by kernel_rfl, ?hyq⟩) (by assumption) ?restq
    case hyq => (intro x hSx; (try dsimp only at hSx); go_simp; first | done | with_reducible rfl)
    try simp only [Act.put, List.setIfInBounds_toArray, List.set_cons_zero, List.set_cons_succ]
    refine wpAnyH_done (by kernel_rfl) ?_ _
    have hRq : R = some (q, if q = 125 then at' else 0, [], if q = 125 then 30 else 0) := by rw [← HR.out, bytE, if_neg hne]
    have hWy : ∀ W, WhyAt W (if q = 125 then .iface 34 (.int .i64 30) else .nilIface) (if q = 125 then 30 else 0) := fun W => by
      by_cases h : q = 125
      · rw [if_pos h, if_pos h]; exact .inr (.inl ⟨rfl, rfl⟩)
      · rw [if_neg h, if_neg h]; exact .inl ⟨rfl, rfl⟩
    have HP : Hid (ErrPost R w (.returned v) y3) := by
      show ErrPost R w (.returned v) y3
      rw [hRq]
      exact ⟨hb0F, v, _, rfl, hF.mono hbs.size, hWy _⟩
    clear HR hub hF hWy hRq
    go_wp2_with fail
    go_ret
    exact HP.out

end Go.Proofs.YtkjoomdglealmaaGreatDoor

namespace Go.Proofs.YtkjoomdglealmaaGreatDoor
open Go.RowKit Go.Vf

theorem cell_one (q : Int) (w : World) : ∀ j, j < [q].length → (w.alloc (.cells #[.int .i64 q] 3)).cell? ((⟨w.heap.size, 0, none⟩ : Addr).add j) = some (.int .i64 ([q][j]?.getD 0)) := fun j hj => by
  have hj0 : j = 0 := by simp at hj; omega
  subst hj0
  simp [Addr.add]
theorem IOwn.cellAt {w : World} {base : Nat} {a : Option Addr} {n c : Nat} {zs : List Int} (h : IOwn w base (.slice a n c) zs) {i : Nat} (hi : i < zs.length) : ∃ g, a = some ⟨g, 0, none⟩ ∧ g < w.heap.size ∧ w.cell? ⟨g, i, none⟩ = some (.int .i64 zs[i]) := by
  rcases h.form with ⟨_, e⟩ | ⟨g, cap, e, _, hlt, _, hc, _⟩
  · rw [e] at hi; simp at hi
  · simp only [Value.slice.injEq] at e
    obtain ⟨rfl, _, _⟩ := e
    refine ⟨g, rfl, hlt, ?_⟩
    have := hc i hi
    simpa [List.getElem?_eq_getElem hi] using this
set_option maxHeartbeats 1000000 in
set_option maxRecDepth 20000 in
theorem rInts_any {a : Option Addr} {c : Nat} {zs : List Int} {base : Nat} {w : World} (hin : IOwn w base (.slice a zs.length c) zs) (hl : zs.length ≤ 1000000000000) :
    Calls Tryz.prog 147 #[.slice a zs.length c] w fun e w' => ∃ a' c', e = .returned (.slice a' zs.length c') ∧ IOwn w' w.heap.size (.slice a' zs.length c') zs ∧ Below w.heap.size w w' := by
  generalize hk : zs.length = k at hl ⊢
  have HK : Hid (zs.length = k) := hk
  have HIN : Aside (IOwn w base (.slice a k c) zs) := by rw [hk] at hin; exact hin
  clear hin hk
  go_enter Tryz.func147, Tryz.ntmps147
  go_wp2_with fail
  go_loopw [3, 4] (fun ov iv wr => ∃ (i : Nat) (acc : List Int) (oa : Option Addr) (oc : Nat), i ≤ k ∧ iv = .int .i64 i ∧ ov = .slice oa acc.length oc ∧ Aside (IOwn wr w.heap.size (.slice oa acc.length oc) acc) ∧ Hid (acc ++ zs.drop i = zs ∧ acc.length = i) ∧ Below w.heap.size w wr) (fun _ iv _ => k - (intOf iv).toNat)
  case atStart => exact ⟨0, [], none, 0, by omega, rfl, rfl, IOwn.nil _ _, ⟨by simp, rfl⟩, Below.refl _ _⟩
  case round =>
    obtain ⟨i, acc, oa, oc, hi, rfl, rfl, HO, HA, hbr⟩ := hrel
    by_cases hlt : i < k
    · have hltp : i < zs.length := by rw [HK.out]; exact hlt
      obtain ⟨g, hao, hglt, hcell⟩ := IOwn.cellAt HIN.out hltp
      have hcj := (hbr.cell (p := ⟨g, i, none⟩) hglt).trans hcell
      have HA2 : Hid ((acc ++ [zs[i]]) ++ zs.drop (i + 1) = zs ∧ (acc ++ [zs[i]]).length = i + 1) := ⟨by
        rw [List.append_assoc, List.singleton_append, ← List.drop_eq_getElem_cons hltp]
        exact HA.out.1, by rw [List.length_append, HA.out.2]; rfl⟩
      generalize zs[i] = q at hcj HA2
      subst hao
      have hbA := (Below.refl wr.heap.size wr).alloc (Nat.le_refl _) (.cells #[.int .i64 q] 3)
      have HO2 : Aside (IOwn (wr.alloc (.cells #[.int .i64 q] 3)) w.heap.size (.slice oa acc.length oc) acc) := own_after HO.out hbA
      have hszA : w.heap.size ≤ (wr.alloc (.cells #[.int .i64 q] 3)).heap.size := Nat.le_trans hbr.size hbA.size
      have hl2 : acc.length + [q].length ≤ 1099511627776 := by have := HA.out.2; simp; omega
      have HC : Hid (∀ j, j < [q].length → (wr.alloc (.cells #[.int .i64 q] 3)).cell? ((⟨wr.heap.size, 0, none⟩ : Addr).add j) = some (.int .i64 ([q][j]?.getD 0))) := cell_one q wr
      clear hcell hltp HO HA hbA
      go_wp2_with (first | (at_builtin; refine wpList_append_ints rfl _ _ rfl w.heap.size _ acc rfl HO2.out [q] ⟨wr.heap.size, 0, none⟩ _ rfl HC.out hl2 hszA ?_; intro a4 c4 w4 hown4 hgr4 hnil4 hat4))
      have hb4 : Below w.heap.size w w4 := (hbr.alloc hbr.size _).grown hgr4 hszA (fun j hj => (own_ge HO2.out hj).1)
      have HO4 : Aside (IOwn w4 w.heap.size (.slice a4 (acc ++ [q]).length c4) (acc ++ [q])) := by
        rw [List.length_append]; exact hown4
      clear hown4 hgr4 hnil4 hat4
      go_roundw
      case rel => exact ⟨i + 1, acc ++ [q], a4, c4, by omega, by simp, by simp, HO4, HA2, hb4⟩
      case measure => simp only [intOf]; omega
    · have hfin : acc = zs := by have := HA.out.1; rwa [List.drop_of_length_le (by rw [HK.out]; omega), List.append_nil] at this
      have hk2 : acc.length = k := by rw [hfin, HK.out]
      have HO4 := HO.out
      rw [hk2] at HO4
      rw [hk2]
      clear HA hk2 HO
      go_wp2_with fail
      go_ret
      exact ⟨_, _, rfl, hfin ▸ HO4, hbr⟩

end Go.Proofs.YtkjoomdglealmaaGreatDoor

namespace Go.Proofs.YtkjoomdglealmaaGreatDoor
open Go.RowKit Go.Vf

def NmRel (R b : Bool) (l : List UInt8) (j : Nat) : Prop := (j = 0 → R = (b && (l.drop j).all isNameC)) ∧ (0 < j → R = (l.drop j).all isNameC)
set_option maxHeartbeats 4000000 in
set_option maxRecDepth 20000 in
theorem rIsName_any (s : ByteArray) (hs : s.size ≤ 281474976710656) (w : World) : Calls Tryz.prog 148 #[.string s] w fun e w' => e = .returned (.bool (isNameS s)) ∧ w = w' := by
  by_cases h0 : s.size = 0
  · rw [isNameS_nil s h0]
    have t0 : decide ((s.size : Int) < 1) = true := decide_eq_true (by omega)
    have t1 : decide (s.size < 1) = true := decide_eq_true (by omega)
    go_enter Tryz.func148, Tryz.ntmps148
    go_wp2
    go_ret
    exact ⟨rfl, rfl⟩
  have hpos : 0 < s.size := by omega
  have t0 : decide ((s.size : Int) < 1) = false := by simp; omega
  rw [isNameS_eq s hpos]
  by_cases h16 : s.size ≤ 16
  · have t1 : decide ((16 : Int) < (s.size : Int)) = false := by simp; omega
    obtain ⟨R, hR⟩ : ∃ R, (isSmallU s[0] && s.data.toList.all isNameC) = R := ⟨_, rfl⟩
    rw [show (decide (s.size ≤ 16) && isSmallU s[0] && s.data.toList.all isNameC) = R by rw [← hR]; simp [h16]]
    have HR : Hid (NmRel R (isSmallU s[0]) s.data.toList 0) := ⟨fun _ => hR.symm, fun h => absurd h (by omega)⟩
    have hlen : s.data.toList.length = s.size := (Lib.size_eq s).symm
    clear hR
    go_enter Tryz.func148, Tryz.ntmps148
    go_wp2_with fail
    go_loopw [3] (fun i wr => ∃ (j : Nat), j ≤ s.size ∧ i = .int .i64 j ∧ Hid (NmRel R (isSmallU s[0]) s.data.toList j) ∧ w = wr) (fun i _ => s.size - (intOf i).toNat)
    case atStart => exact ⟨0, by omega, rfl, HR, rfl⟩
    case round =>
      clear HR
      obtain ⟨j, hj, rfl, HS, rfl⟩ := hrel
      by_cases hlt : j < s.size
      · have HD : Hid ((j = 0 → R = (isSmallU s[j] && (s.data.toList.drop (j + 1)).all isNameC)) ∧ (0 < j → R = (isNameC s[j] && (s.data.toList.drop (j + 1)).all isNameC))) := by
          refine ⟨fun h => ?_, fun h => ?_⟩
          · have q := HS.out.1 h
            subst h
            rw [q, all_dropN _ _ _ (by omega)]
            have e1 : s.data.toList[0]'(by omega) = s[0] := rfl
            rw [e1]
            cases h1 : isSmallU s[0] with
            | false => rfl
            | true => rw [show isNameC s[0] = true by rw [isNameC, h1]; rfl]; rfl
          · rw [HS.out.2 h, all_dropN _ _ _ (by omega)]; rfl
        clear HS hlen
        have hc := (s[j]).toNat_lt
        have hn0 : ∀ b : Bool, isNameC s[j] = b → isSmallU s[j] = b → Hid (R = (b && (s.data.toList.drop (j + 1)).all isNameC)) := fun b h1 h2 => by
          show _ = _
          rcases Nat.eq_zero_or_pos j with h | h
          · rw [HD.out.1 h, h2]
          · rw [HD.out.2 h, h1]
        by_cases hA : 97 ≤ (s[j]).toNat ∧ (s[j]).toNat ≤ 122
        · have hsm : isSmallU s[j] = true := by simp [isSmallU, hA]
          have hnm : isNameC s[j] = true := by rw [isNameC, hsm]; rfl
          have HD2 : Hid (NmRel R (isSmallU s[0]) s.data.toList (j + 1)) := ⟨fun h => absurd h (by omega), fun _ => by rw [(hn0 true hnm hsm).out]; rfl⟩
          have a1 : decide ((97 : Int) ≤ ((s[j]).toNat : Int)) = true := by simp; omega
          have a2 : decide (((s[j]).toNat : Int) ≤ 122) = true := by simp; omega
          have a3 : decide ((48 : Int) ≤ ((s[j]).toNat : Int)) = true := by simp; omega
          have a4 : decide (((s[j]).toNat : Int) ≤ 57) = false := by simp; omega
          clear HD hn0 hsm hnm hA
          go_wp2_with fail
          go_roundw
          case rel => exact ⟨j + 1, by omega, by simp, HD2, trivial⟩
          case measure => simp only [intOf]; omega
        have hsm : isSmallU s[j] = false := by
          simp only [isSmallU, Bool.and_eq_false_iff, decide_eq_false_iff_not]; omega
        rcases Nat.eq_zero_or_pos j with hz | hz
        · have hRn : R = false := by rw [HD.out.1 hz, hsm]; rfl
          have z1 : ((j : Int) == 0) = true := by simp; omega
          subst hRn
          clear HD hn0 hz
          by_cases hB : (s[j]).toNat < 48
          · skip
            have a1 : decide ((97 : Int) ≤ ((s[j]).toNat : Int)) = false := by simp; omega
            have a3 : decide ((48 : Int) ≤ ((s[j]).toNat : Int)) = false := by simp; omega
            go_wp2_with fail
            go_ret
            exact ⟨rfl, rfl⟩
          by_cases hC : (s[j]).toNat ≤ 57
          · skip
            have a1 : decide ((97 : Int) ≤ ((s[j]).toNat : Int)) = false := by simp; omega
            have a3 : decide ((48 : Int) ≤ ((s[j]).toNat : Int)) = true := by simp; omega
            have a4 : decide (((s[j]).toNat : Int) ≤ 57) = true := by simp; omega
            go_wp2_with fail
            go_ret
            exact ⟨rfl, rfl⟩
          by_cases hD : (s[j]).toNat < 97
          · skip
            have a1 : decide ((97 : Int) ≤ ((s[j]).toNat : Int)) = false := by simp; omega
            have a3 : decide ((48 : Int) ≤ ((s[j]).toNat : Int)) = true := by simp; omega
            have a4 : decide (((s[j]).toNat : Int) ≤ 57) = false := by simp; omega
            go_wp2_with fail
            go_ret
            exact ⟨rfl, rfl⟩
          · skip
            have a1 : decide ((97 : Int) ≤ ((s[j]).toNat : Int)) = true := by simp; omega
            have a2 : decide (((s[j]).toNat : Int) ≤ 122) = false := by simp; omega
            have a3 : decide ((48 : Int) ≤ ((s[j]).toNat : Int)) = true := by simp; omega
            have a4 : decide (((s[j]).toNat : Int) ≤ 57) = false := by simp; omega
            go_wp2_with fail
            go_ret
            exact ⟨rfl, rfl⟩
        · have z1 : ((j : Int) == 0) = false := by simp; omega
          by_cases hB : (s[j]).toNat < 48
          · skip
            have a1 : decide ((97 : Int) ≤ ((s[j]).toNat : Int)) = false := by simp; omega
            have a3 : decide ((48 : Int) ≤ ((s[j]).toNat : Int)) = false := by simp; omega
            have hdg : isDigU s[j] = false := by simp only [isDigU, Bool.and_eq_false_iff, decide_eq_false_iff_not]; omega
            by_cases h45 : s[j] = 45
            · have hnm : isNameC s[j] = true := by rw [isNameC, hsm, hdg, h45]; rfl
              have t3 : (((s[j]).toNat : Int) != 45) = false := by rw [h45]; rfl
              have HD2 : Hid (NmRel R (isSmallU s[0]) s.data.toList (j + 1)) := ⟨fun h => absurd h (by omega), fun _ => by rw [HD.out.2 hz, hnm]; rfl⟩
              clear HD hn0 hdg hnm h45
              go_wp2_with fail
              go_roundw
              case rel => exact ⟨j + 1, by omega, by simp, HD2, trivial⟩
              case measure => simp only [intOf]; omega
            · skip
              have hRn : R = false := by rw [HD.out.2 hz, isNameC, hsm, hdg]; simp [h45]
              have t3 : (((s[j]).toNat : Int) != 45) = true := by
                rw [bne_iff_ne]; intro e
                have e' : (s[j]).toNat = 45 := by omega
                exact h45 (UInt8.toNat.inj (by rw [e']; rfl))
              subst hRn
              clear HD hn0 hdg h45
              go_wp2_with fail
              go_ret
              exact ⟨rfl, rfl⟩
          by_cases hC : (s[j]).toNat ≤ 57
          · skip
            have a1 : decide ((97 : Int) ≤ ((s[j]).toNat : Int)) = false := by simp; omega
            have a3 : decide ((48 : Int) ≤ ((s[j]).toNat : Int)) = true := by simp; omega
            have a4 : decide (((s[j]).toNat : Int) ≤ 57) = true := by simp; omega
            have hdg : isDigU s[j] = true := by simp only [isDigU, Bool.and_eq_true, decide_eq_true_eq]; omega
            have hnm : isNameC s[j] = true := by rw [isNameC, hsm, hdg]; rfl
            have HD2 : Hid (NmRel R (isSmallU s[0]) s.data.toList (j + 1)) := ⟨fun h => absurd h (by omega), fun _ => by rw [HD.out.2 hz, hnm]; rfl⟩
            clear HD hn0 hdg hnm
            go_wp2_with fail
            go_roundw
            case rel => exact ⟨j + 1, by omega, by simp, HD2, trivial⟩
            case measure => simp only [intOf]; omega
          by_cases hD : (s[j]).toNat < 97
          · skip
            have a1 : decide ((97 : Int) ≤ ((s[j]).toNat : Int)) = false := by simp; omega
            have a3 : decide ((48 : Int) ≤ ((s[j]).toNat : Int)) = true := by simp; omega
            have a4 : decide (((s[j]).toNat : Int) ≤ 57) = false := by simp; omega
            have hdg : isDigU s[j] = false := by simp only [isDigU, Bool.and_eq_false_iff, decide_eq_false_iff_not]; omega
            have h45 : ¬ s[j] = 45 := fun h => by have := congrArg UInt8.toNat h; simp at this; omega
            have hRn : R = false := by rw [HD.out.2 hz, isNameC, hsm, hdg]; simp [h45]
            have t3 : (((s[j]).toNat : Int) != 45) = true := by
              rw [bne_iff_ne]; intro e
              have e' : (s[j]).toNat = 45 := by omega
              exact h45 (UInt8.toNat.inj (by rw [e']; rfl))
            subst hRn
            clear HD hn0 hdg h45
            go_wp2_with fail
            go_ret
            exact ⟨rfl, rfl⟩
          · skip
            have a1 : decide ((97 : Int) ≤ ((s[j]).toNat : Int)) = true := by simp; omega
            have a2 : decide (((s[j]).toNat : Int) ≤ 122) = false := by simp; omega
            have a3 : decide ((48 : Int) ≤ ((s[j]).toNat : Int)) = true := by simp; omega
            have a4 : decide (((s[j]).toNat : Int) ≤ 57) = false := by simp; omega
            have hdg : isDigU s[j] = false := by simp only [isDigU, Bool.and_eq_false_iff, decide_eq_false_iff_not]; omega
            have h45 : ¬ s[j] = 45 := fun h => by have := congrArg UInt8.toNat h; simp at this; omega
            have hRn : R = false := by rw [HD.out.2 hz, isNameC, hsm, hdg]; simp [h45]
            have t3 : (((s[j]).toNat : Int) != 45) = true := by
              rw [bne_iff_ne]; intro e
              have e' : (s[j]).toNat = 45 := by omega
              exact h45 (UInt8.toNat.inj (by rw [e']; rfl))
            subst hRn
            clear HD hn0 hdg h45
            go_wp2_with fail
            go_ret
            exact ⟨rfl, rfl⟩
      · have hRn : R = true := by rw [HS.out.2 (by omega), List.drop_of_length_le (by omega)]; rfl
        clear HS
        subst hRn
        go_wp2_with fail
        go_ret
        exact ⟨rfl, rfl⟩
  · have t1 : decide ((16 : Int) < (s.size : Int)) = true := by simp; omega
    have hR : (decide (s.size ≤ 16) && isSmallU s[0] && s.data.toList.all isNameC) = false := by simp [h16]
    rw [hR]
    clear hR
    go_enter Tryz.func148, Tryz.ntmps148
    go_wp2
    go_ret
    exact ⟨rfl, rfl⟩

end Go.Proofs.YtkjoomdglealmaaGreatDoor
