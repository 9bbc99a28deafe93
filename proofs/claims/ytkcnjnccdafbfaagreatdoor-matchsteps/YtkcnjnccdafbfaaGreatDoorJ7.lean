/- Contracts and lemmas (nothing is claimed here). -/
import Derived.Test.YtkcnjnccdafbfaaGreatDoorLoad
import Derived.OwnWalk
namespace Go.Vf
def lettersR (p : Int) : List Int :=
  if (p - 44032) % 28 = 0 then [4352 + (p - 44032) / 588, 4449 + (p - 44032) % 588 / 28]
  else [4352 + (p - 44032) / 588, 4449 + (p - 44032) % 588 / 28] ++ [4519 + (p - 44032) % 28]
def partsR' (E : Int → List Int) (p : Int) : List Int := if isSyl p then (lettersR p).flatMap (endsOfF E) else endsOfF E p
end Go.Vf
namespace Go.Proofs.YtkcnjnccdafbfaaGreatDoor
open Go.RowKit Go.Vf Go.Maps
set_option maxRecDepth 10000 in
theorem class_any (bd : Nat) (L : List Mk) (E : Int → List Int) (p : Int) (w : World) (hp : InI p) (hd : DataAt w bd L E) : Calls Tryz.prog 21 #[.pointer (some ⟨bd, 0, none⟩), .int .i64 p] w fun e w' => e = .returned (.int .i64 (classAt L p)) ∧ w = w' := by
  obtain ⟨bm, n, pv, ev, hbd, hdd, _⟩ := hd
  obtain ⟨a, k, cap, a2, k2, cap2, hl, _, _, hkA, _, _, _, hk2, _⟩ := hdd.look hp
  clear hkA hk2
  have hl' := hl w rfl
  have hf0 := field0 (classAt L p) (.slice a k cap) (.slice a2 k2 cap2)
  have b0 : w.cell? ⟨bd, 0, none⟩ = some (.map (some bm)) := hbd.cell 0
  clear hl
  go_enter Tryz.func21, Tryz.ntmps21
  go_wp2
  go_ret
  exact ⟨rfl, rfl⟩
theorem own_two (w : World) (a b : Int) : IOwn (w.alloc (.cells #[.int .i64 a, .int .i64 b] 3)) w.heap.size (.slice (some ⟨w.heap.size, 0, none⟩) 2 2) [a, b] :=
  ⟨by simp, .inr ⟨w.heap.size, 2, #[.int .i64 a, .int .i64 b], rfl, Nat.le_refl _, heap_alloc_new w _, by simp, by unfold maxLen; omega, by simp, by simp⟩⟩
set_option maxHeartbeats 1000000 in
set_option maxRecDepth 10000 in
theorem letters_any (p : Int) (w : World) (hs : isSyl p = true) : Calls Tryz.prog 71 #[.int .i64 p] w fun e w' => ∃ a k cap, e = .returned (.slice a k cap) ∧ IOwn w' w.heap.size (.slice a k cap) (lettersR p) ∧ Below w.heap.size w w' := by
  have hb : 44032 ≤ p ∧ p ≤ 55203 := by simpa [isSyl] using hs
  have h1 : 0 ≤ p - 44032 := by omega
  unfold lettersR
  generalize hz : p - 44032 = z at h1
  have hzl : z ≤ 11171 := by omega
  by_cases ht : z % 28 = 0
  · rw [if_pos ht]
    go_enter Tryz.func71, Tryz.ntmps71
    go_wp2_with fail
    go_ret
    exact ⟨_, _, _, rfl, own_two _ _ _, (Below.refl _ _).alloc (Nat.le_refl _) _⟩
  · rw [if_neg ht]
    have hown := own_two w (4352 + z / 588) (4449 + z % 588 / 28)
    have hb1 := (Below.refl w.heap.size w).alloc (Nat.le_refl _) (.cells #[.int .i64 (4352 + z / 588), .int .i64 (4449 + z % 588 / 28)] 3)
    generalize hW : w.alloc (.cells #[.int .i64 (4352 + z / 588), .int .i64 (4449 + z % 588 / 28)] 3) = W at hown hb1
    have hl2 : [4352 + z / 588, 4449 + z % 588 / 28].length + [4519 + z % 28].length ≤ 1099511627776 := by simp
    have hbs : w.heap.size ≤ (W.alloc (.cells #[.int .i64 (4519 + z % 28)] 3)).heap.size := by have := hb1.size; simp; omega
    go_enter Tryz.func71, Tryz.ntmps71
    go_upto_region 5 with fail
    clear hW
    go_wp2_with (first | (at_builtin; refine wpList_append_ints rfl _ _ rfl w.heap.size _ [4352 + z / 588, 4449 + z % 588 / 28] rfl (World.ownsRow.alloc hown _) [4519 + z % 28] ⟨W.heap.size, 0, none⟩ 1 rfl (cell_one _ W) hl2 hbs ?_; intro a4 c4 w4 hown4 hgr4 hnil4 hat4))
    go_ret
    refine ⟨_, _, _, rfl, hown4, (hb1.alloc hb1.size _).grown hgr4 (by have := hb1.size; simp; omega) (fun j hj => (own_ge hown hj).1)⟩
theorem clone_any {n₀ : Nat} (a : Option Addr) (k cap : Nat) (zs : List Int) (w : World) (h : Ints n₀ w (.slice a k cap) zs) (hl : zs.length ≤ 131072) :
    Calls Tryz.prog 44 #[.slice a k cap] w fun e w' => ∃ a' k' c', e = .returned (.slice a' k' c') ∧ IOwn w' w.heap.size (.slice a' k' c') zs ∧ Below w.heap.size w w' := by
  rcases h with ⟨a', cap', e, rfl⟩ | ⟨b, off, cap', e, _, hc⟩
  · cases e
    cases a with
    | none =>
      refine (Tryz.slices_Clone_int_nil 0 cap w).mono ?_
      rintro e w' ⟨rfl, rfl⟩
      exact ⟨_, _, _, rfl, IOwn.nil _ _, Below.refl _ _⟩
    | some ad =>
      refine (Tryz.slices_Clone_int_zero ad cap w).mono ?_
      rintro e w' ⟨v', rfl, ho, _, hb⟩
      have ho' : IOwn w' w.heap.size v' [] := ho
      obtain ⟨a', c', rfl⟩ := ho'.val
      exact ⟨_, _, _, rfl, ho', hb⟩
  · cases e
    refine (Tryz.slices_Clone_int b off zs.length cap zs w (Nat.le_refl _) (by omega) (fun j hj => by rw [hc j hj]; simp [List.getD])).mono ?_
    rintro e w' ⟨v', rfl, ho, _, hb⟩
    rw [List.take_length] at ho
    have ho' : IOwn w' w.heap.size v' zs := ho
    obtain ⟨a', c', rfl⟩ := ho'.val
    exact ⟨_, _, _, rfl, ho', hb⟩
theorem endsOf_data (bd : Nat) (L : List Mk) (E : Int → List Int) (p : Int) (w : World) (hp : InI p) (hd : DataAt w bd L E) :
    Calls Tryz.prog 70 #[.pointer (some ⟨bd, 0, none⟩), .int .i64 p] w fun e w' => ∃ b off cap, e = .returned (.slice (some ⟨b, off, none⟩) (endsOfF E p).length cap) ∧ b < w'.heap.size ∧ (∀ j, j < (endsOfF E p).length → w'.cell? ⟨b, off + j, none⟩ = some (.int .i64 ((endsOfF E p)[j]?.getD 0))) ∧ Below w.heap.size w w' := by
  obtain ⟨bm, n, pv, ev, hbd, hdd, _⟩ := hd
  exact endsOf_any bd bm n pv ev L E p w hp hbd hdd
theorem DataAt.elen {w : World} {bd : Nat} {L : List Mk} {E : Int → List Int} (h : DataAt w bd L E) (p : Int) : (endsOfF E p).length ≤ 19 ∧ 0 < (endsOfF E p).length := by
  obtain ⟨bm, n, pv, ev, hbd, hdd, _⟩ := h
  exact endsOfF_len (hdd.elen p)
theorem lettersR_in {p : Int} (hs : isSyl p = true) : (∀ q ∈ lettersR p, InI q) ∧ (lettersR p).length ≤ 3 ∧ 2 ≤ (lettersR p).length := by
  have hb : 44032 ≤ p ∧ p ≤ 55203 := by simpa [isSyl] using hs
  unfold lettersR InI
  split
  · refine ⟨fun q hq => ?_, by simp, by simp⟩
    simp at hq
    omega
  · refine ⟨fun q hq => ?_, by simp, by simp⟩
    simp at hq
    omega
set_option maxHeartbeats 4000000 in
set_option maxRecDepth 20000 in
theorem parts_any (bd : Nat) (L : List Mk) (E : Int → List Int) (p : Int) (w : World) (hp : InI p) (hd : DataAt w bd L E) :
    Calls Tryz.prog 33 #[.pointer (some ⟨bd, 0, none⟩), .int .i64 p] w fun e w' => ∃ a k cap, e = .returned (.slice a k cap) ∧ IOwn w' w.heap.size (.slice a k cap) (partsR' E p) ∧ Below w.heap.size w w' := by
  unfold partsR'
  cases hs : isSyl p with
  | false =>
    go_enter Tryz.func33, Tryz.ntmps33
    go_wp2_with fail
    refine (isSyllable_any p w).mono ?_
    rw [hs]
    rintro e w1 ⟨rfl, rfl⟩
    go_wp2_with fail
    refine (endsOf_data bd L E p w hp hd).mono ?_
    rintro e w2 ⟨b2, o2, c2, rfl, hb2, hc2, hbel2⟩
    have hel := hd.elen p
    go_wp2_with fail
    refine (clone_any (n₀ := w2.heap.size) _ _ _ (endsOfF E p) w2 (.inr ⟨b2, o2, c2, rfl, hb2, hc2⟩) (by omega)).mono ?_
    rintro e w3 ⟨a3, k3, c3, rfl, hown3, hbel3⟩
    go_wp2
    go_ret
    exact ⟨_, _, _, rfl, hown3.mono hbel2.size, hbel2.trans (hbel3.mono hbel2.size)⟩
  | true =>
    obtain ⟨hLI, hL3, _⟩ := lettersR_in hs
    go_enter Tryz.func33, Tryz.ntmps33
    go_wp2_with fail
    refine (isSyllable_any p w).mono ?_
    rw [hs]
    rintro e w1 ⟨rfl, rfl⟩
    go_wp2_with fail
    refine (letters_any p w hs).mono ?_
    rintro e w2 ⟨a2, k2, c2, rfl, hown2, hbel2⟩
    obtain ⟨a', c', he⟩ := hown2.val
    simp only [Value.slice.injEq] at he
    obtain ⟨rfl, hk2, rfl⟩ := he
    have HK2 : Hid (k2 = (lettersR p).length) := hk2
    have hk3 : k2 ≤ 3 := by omega
    have hint2 := hown2.ints
    have hd2 := hd.below hbel2
    generalize hls : lettersR p = ls at HK2 hint2 hLI hL3 hown2
    simp only []
    have HLS : Hid (lettersR p = ls) := hls
    clear hk2 hls
    go_wp2_with fail
    go_loopw [5, 20] (fun v i wr => ∃ (k : Nat) (acc : List Int), k ≤ k2 ∧ i = .int .i64 k ∧ IOwn wr w2.heap.size v acc ∧ acc.length ≤ 19 * k ∧ Hid (acc ++ (ls.drop k).flatMap (endsOfF E) = ls.flatMap (endsOfF E)) ∧ Below w2.heap.size w2 wr) (fun _ i _ => k2 - (intOf i).toNat)
    case atStart => exact ⟨0, [], by omega, rfl, IOwn.nil _ _, by simp, by show _ = _; simp, Below.refl _ _⟩
    case round =>
      obtain ⟨k, acc, hk, rfl, hown, hal, HK, hbel⟩ := hrel
      obtain ⟨av, cv, rfl⟩ := hown.val
      by_cases hlt : k < k2
      · have hltp : k < ls.length := by rw [← HK2.out]; exact hlt
        have hdr : ls.drop k = ls[k] :: ls.drop (k + 1) := List.drop_eq_getElem_cons hltp
        obtain ⟨bp, op, hao, hnk, hblt, hcell⟩ := (hint2.below hbel (Nat.le_refl _)).cell (fun e => by rw [e] at hltp; simp at hltp)
        have hcj := hcell k hltp
        rw [show ls[k]?.getD 0 = ls[k] by simp [List.getElem?_eq_getElem hltp]] at hcj
        have hqI := hLI _ (List.getElem_mem hltp)
        have hKK := HK.out
        rw [hdr, List.flatMap_cons, ← List.append_assoc] at hKK
        have hdr2 := hd2.below hbel
        have hel := hdr2.elen ls[k]
        generalize ls[k] = q at hcj hqI hKK hel
        subst hao
        clear hcell hdr HK hltp hnk
        go_wp2_with fail
        refine (endsOf_data bd L E q wr hqI hdr2).mono ?_
        rintro e w3 ⟨b3, o3, c3, rfl, hb3, hc3, hbel3⟩
        have hown3 := own_after hown hbel3
        have hsz3 : w2.heap.size ≤ w3.heap.size := Nat.le_trans hbel.size hbel3.size
        have HC3 : Hid (∀ j, j < (endsOfF E q).length → w3.cell? ((⟨b3, o3, none⟩ : Addr).add j) = some (.int .i64 ((endsOfF E q)[j]?.getD 0))) := fun j hj => by
          rw [show (⟨b3, o3, none⟩ : Addr).add j = ⟨b3, o3 + j, none⟩ by simp [Addr.add]]; exact hc3 j hj
        have HKK : Hid ((acc ++ endsOfF E q) ++ (ls.drop (k + 1)).flatMap (endsOfF E) = ls.flatMap (endsOfF E)) := hKK
        clear hc3 hKK
        have HLA : Hid ((acc ++ endsOfF E q).length = acc.length + (endsOfF E q).length) := List.length_append
        generalize endsOfF E q = en at HKK hel HC3 HLA ⊢
        have hsum : acc.length + en.length ≤ 1099511627776 := by omega
        go_wp2_with (first | (at_builtin; refine wpList_append_ints rfl _ _ rfl w2.heap.size _ acc rfl hown3 en ⟨b3, o3, none⟩ _ rfl HC3.out hsum hsz3 ?_; intro a4 c4 w4 hown4 hgr4 hnil4 hat4))
        have hb4 : Below w2.heap.size w3 w4 := (Below.refl _ w3).grown hgr4 hsz3 (fun j hj => (own_ge hown3 hj).1)
        go_roundw
        case rel => exact ⟨k + 1, acc ++ en, by omega, by simp, hown4, by rw [HLA.out]; omega, HKK, (hbel.trans (hbel3.mono hbel.size)).trans hb4⟩
        case measure => simp only [intOf]; omega
      · have HRR : Hid (acc = ls.flatMap (endsOfF E)) := by
          show _ = _
          have := HK.out
          rw [List.drop_of_length_le (by rw [← HK2.out]; omega)] at this
          simpa using this
        clear HK
        go_wp2_with fail
        go_ret
        rw [HLS.out, ← HRR.out]
        exact ⟨_, _, _, rfl, hown.mono hbel2.size, hbel2.trans (hbel.mono hbel2.size)⟩
def flatR (E : Int → List Int) (l : List Int) : List Int := l.flatMap (partsR' E)
theorem DataAt.plen {w : World} {bd : Nat} {L : List Mk} {E : Int → List Int} (h : DataAt w bd L E) (p : Int) : (partsR' E p).length ≤ 57 ∧ 0 < (partsR' E p).length := by
  unfold partsR'
  cases hs : isSyl p with
  | false => have := h.elen p; simp; omega
  | true =>
    simp only [if_true]
    obtain ⟨_, h3, h2⟩ := lettersR_in hs
    have : ∀ ls : List Int, (ls.flatMap (endsOfF E)).length ≤ 19 * ls.length ∧ ls.length ≤ (ls.flatMap (endsOfF E)).length := by
      intro ls
      induction ls with
      | nil => simp
      | cons x r ih => have := h.elen x; simp only [List.flatMap_cons, List.length_append, List.length_cons]; omega
    have := this (lettersR p)
    omega
set_option maxHeartbeats 4000000 in
set_option maxRecDepth 20000 in
theorem decompose_any (bd : Nat) (L : List Mk) (E : Int → List Int) (a : Option Addr) (kp cap : Nat) (ps : List Int) (w : World) (hps : ∀ q ∈ ps, InI q) (hd : DataAt w bd L E) (hin : Ints w.heap.size w (.slice a kp cap) ps) (hkp : kp = ps.length) (hkl : (flatR E ps).length ≤ 68719476736) (hkl2 : kp ≤ 68719476736) :
    Calls Tryz.prog 47 #[.pointer (some ⟨bd, 0, none⟩), .slice a kp cap] w fun e w' => ∃ g k' c', e = .returned (.slice (some ⟨g, 0, none⟩) k' c') ∧ IOwn w' w.heap.size (.slice (some ⟨g, 0, none⟩) k' c') (flatR E ps) ∧ Below w.heap.size w w' := by
  generalize hR : flatR E ps = R at hkl ⊢
  have HR : Hid ([] ++ flatR E ps = R) := hR
  have HKP : Hid (kp = ps.length) := hkp
  clear hR hkp
  obtain ⟨i0, hi0, hz0, hsz0, hby0⟩ := info_parts info3
  have HI0 : Hid (i0.bytes = 8) := hby0
  clear hby0
  go_enter Tryz.func47, Tryz.ntmps47
  go_wp2_with (first | (at_make; refine wpList_make_own _ rfl _ _ 24 rfl w.heap.size 3 i0 (.int .i64 0) 1 Tryz.underlying24 hi0 hz0 hsz0 .i64 .i64 _ kp rfl rfl rfl (by rw [HI0.out]; omega) (by unfold maxLen; omega) (Nat.le_refl _) ?_; intro w0 hown0 hgrow0))
  have hb0 : Below w.heap.size w w0 := (Below.refl _ w).grown hgrow0 (Nat.le_refl _) (fun j hj => by cases hj)
  have HOWN0 : Aside (IOwn w0 w.heap.size (.slice (some ⟨w.heap.size, 0, none⟩) 0 kp) []) := hown0
  clear hown0 hgrow0 hi0 hz0 hsz0 HI0
  go_wp2_with fail
  go_loopw [5, 13] (fun v i wr => ∃ (k : Nat) (acc : List Int) (g kk cc : Nat), k ≤ kp ∧ i = .int .i64 k ∧ v = .slice (some ⟨g, 0, none⟩) kk cc ∧ Aside (IOwn wr w.heap.size (.slice (some ⟨g, 0, none⟩) kk cc) acc) ∧ Hid (acc ++ flatR E (ps.drop k) = R) ∧ Below w.heap.size w wr) (fun _ i _ => kp - (intOf i).toNat)
  case atStart => exact ⟨0, [], w.heap.size, 0, kp, by omega, rfl, rfl, HOWN0, by simpa using HR, hb0⟩
  case round =>
    clear HOWN0 hb0 HR
    obtain ⟨k, acc, g, kk, cc, hk, rfl, rfl, HOWN, HK, hbel⟩ := hrel
    by_cases hlt : k < kp
    · have hltp : k < ps.length := by rw [← HKP.out]; exact hlt
      have hdr : ps.drop k = ps[k] :: ps.drop (k + 1) := List.drop_eq_getElem_cons hltp
      obtain ⟨bp, op, hao, hnk, hblt, hcell⟩ := (hin.below hbel (Nat.le_refl _)).cell (fun e => by rw [e] at hltp; simp at hltp)
      have hcj := hcell k hltp
      rw [show ps[k]?.getD 0 = ps[k] by simp [List.getElem?_eq_getElem hltp]] at hcj
      have hqI := hps _ (List.getElem_mem hltp)
      have hKK := HK.out
      rw [hdr, show flatR E (ps[k] :: ps.drop (k + 1)) = partsR' E ps[k] ++ flatR E (ps.drop (k + 1)) from rfl, ← List.append_assoc] at hKK
      generalize ps[k] = q at hcj hqI hKK
      subst hao
      have hddr := hd.below hbel
      have HLK : Hid ((acc ++ partsR' E q).length ≤ R.length) := by show _ ≤ _; rw [← hKK]; exact (List.prefix_append _ _).length_le
      have HKK : Hid ((acc ++ partsR' E q) ++ flatR E (ps.drop (k + 1)) = R) := hKK
      clear hcell hdr HK hKK hltp hnk
      go_wp2_with fail
      refine (parts_any bd L E q _ hqI hddr).mono ?_
      rintro e w3 ⟨a3, k3, c3, rfl, hown3p, hbel3⟩
      have hown3 := own_after HOWN.out hbel3
      have hsz3 : w.heap.size ≤ w3.heap.size := Nat.le_trans hbel.size hbel3.size
      obtain ⟨av, cv, hv⟩ := IOwn.val HOWN.out
      have hkk : kk = acc.length := by simpa using (Value.slice.inj hv).2.1
      have hint3 := hown3p.ints
      obtain ⟨av3, cv3, hv3⟩ := hown3p.val
      have hk3 : k3 = (partsR' E q).length := by simpa using (Value.slice.inj hv3).2.1
      have hL1 : (acc ++ partsR' E q).length ≤ R.length := HLK.out
      rw [List.length_append] at hL1
      have hpos := hddr.plen q
      generalize partsR' E q = en at HKK HLK hint3 hk3 hL1 hpos
      have hen : en ≠ [] := fun e => by rw [e] at hpos; simp at hpos
      · obtain ⟨b3, o3, hao3, hnk3, hblt3, hcell3⟩ := hint3.cell hen
        subst hao3 hk3 hkk
        have HC3 : Hid (∀ j, j < en.length → w3.cell? ((⟨b3, o3, none⟩ : Addr).add j) = some (.int .i64 (en[j]?.getD 0))) := fun j hj => by
          rw [show (⟨b3, o3, none⟩ : Addr).add j = ⟨b3, o3 + j, none⟩ by simp [Addr.add]]; exact hcell3 j hj
        have hsum : acc.length + en.length ≤ 1099511627776 := by omega
        have HOWN3 : Aside (IOwn w3 w.heap.size (.slice (some ⟨g, 0, none⟩) acc.length cc) acc) := hown3
        clear hcell3 hint3 hown3p hv hv3 HOWN hown3 hen hnk3 HLK
        go_wp2_with (first | (at_builtin; refine wpList_append_ints rfl _ _ rfl w.heap.size _ acc rfl HOWN3.out en ⟨b3, o3, none⟩ _ rfl HC3.out hsum hsz3 ?_; intro a4 c4 w4 hown4 hgr4 hnil4 hat4; obtain ⟨g4, rfl, hg4, hcap4⟩ := hown4.some_of (by rw [List.length_append]; omega)))
        have hb4 : Below w.heap.size w3 w4 := (Below.refl _ w3).grown hgr4 hsz3 (fun j hj => (own_ge HOWN3.out hj).1)
        have HOWN4 : Aside (IOwn w4 w.heap.size (.slice (some ⟨g4, 0, none⟩) (acc.length + en.length) c4) (acc ++ en)) := hown4
        clear hown4 hnil4 hat4 hcap4
        go_roundw
        case rel => exact ⟨k + 1, acc ++ en, g4, acc.length + en.length, c4, by omega, by simp, by simp, HOWN4, HKK, (hbel.trans (hbel3.mono hbel.size)).trans hb4⟩
        case measure => simp only [intOf]; omega
    · have hRR : R = acc := by rw [← HK.out, List.drop_of_length_le (by rw [← HKP.out]; omega)]; simp [flatR]
      clear HK
      go_wp2_with fail
      go_ret
      rw [hRR]
      exact ⟨_, _, _, rfl, HOWN.out, hbel⟩
end Go.Proofs.YtkcnjnccdafbfaaGreatDoor
