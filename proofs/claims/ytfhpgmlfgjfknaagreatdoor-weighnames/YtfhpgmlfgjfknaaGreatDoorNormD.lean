/- What package normal's decompose and rowEnd do (contracts; nothing is claimed here). -/
import Derived.Test.YtfhpgmlfgjfknaaGreatDoorAsk
import Derived.OwnWalk
namespace Go.Proofs.YtfhpgmlfgjfknaaGreatDoor
open Go.RowKit Go.Vf Go.Maps

/-- The parts to the end of numbers, one behind the other. -/
def flatR (E : Int → List Int) (l : List Int) : List Int := l.flatMap (partsR' E)
theorem DataAt.plen {w : World} {bd : Nat} {L : List Mk} {E : Int → List Int} (h : DataAt w bd L E) (p : Int) : (partsR' E p).length ≤ 57 ∧ 0 < (partsR' E p).length := by
  unfold partsR'
  cases hs : isSyl p with
  | false => have := h.elen p; simp; omega
  | true =>
    simp only [if_true]
    obtain ⟨_, h3, h2⟩ := lettersR_in hs
    have : ∀ ls : List Int, (ls.flatMap (endsOfF E)).length ≤ 19 * ls.length ∧ ls.length ≤ (ls.flatMap (endsOfF E)).length := by
      intro ls
      induction ls with
      | nil => simp
      | cons x r ih => have := h.elen x; simp only [List.flatMap_cons, List.length_append, List.length_cons]; omega
    have := this (lettersR p)
    omega

set_option maxHeartbeats 4000000 in
set_option maxRecDepth 20000 in
theorem decompose_any (bd : Nat) (L : List Mk) (E : Int → List Int) (a : Option Addr) (kp cap : Nat) (ps : List Int) (w : World) (hps : ∀ q ∈ ps, InI q) (hd : DataAt w bd L E) (hin : Ints w.heap.size w (.slice a kp cap) ps) (hkp : kp = ps.length) (hkl : (flatR E ps).length ≤ 68719476736) (hkl2 : kp ≤ 68719476736) :
    Calls Tryz.prog 40 #[.pointer (some ⟨bd, 0, none⟩), .slice a kp cap] w fun e w' => ∃ g k' c', e = .returned (.slice (some ⟨g, 0, none⟩) k' c') ∧ IOwn w' w.heap.size (.slice (some ⟨g, 0, none⟩) k' c') (flatR E ps) ∧ Below w.heap.size w w' := by
  generalize hR : flatR E ps = R at hkl ⊢
  have HR : Hid ([] ++ flatR E ps = R) := hR
  have HKP : Hid (kp = ps.length) := hkp
  clear hR hkp
  obtain ⟨i0, hi0, hz0, hsz0, hby0⟩ := info_parts info3
  have HI0 : Hid (i0.bytes = 8) := hby0
  clear hby0
  go_enter Tryz.func40, Tryz.ntmps40
  go_wp2_with (first | (at_make; refine wpList_make_own _ rfl _ _ 46 rfl w.heap.size 3 i0 (.int .i64 0) 1 Tryz.underlying46 hi0 hz0 hsz0 .i64 .i64 _ kp rfl rfl rfl (by rw [HI0.out]; omega) (by unfold maxLen; omega) (Nat.le_refl _) ?_; intro w0 hown0 hgrow0))
  have hb0 : Below w.heap.size w w0 := (Below.refl _ w).grown hgrow0 (Nat.le_refl _) (fun j hj => by cases hj)
  have HOWN0 : Aside (IOwn w0 w.heap.size (.slice (some ⟨w.heap.size, 0, none⟩) 0 kp) []) := hown0
  clear hown0 hgrow0 hi0 hz0 hsz0 HI0
  go_wp2_with fail
  go_loopw [5, 13] (fun v i wr => ∃ (k : Nat) (acc : List Int) (g kk cc : Nat), k ≤ kp ∧ i = .int .i64 k ∧ v = .slice (some ⟨g, 0, none⟩) kk cc ∧ Aside (IOwn wr w.heap.size (.slice (some ⟨g, 0, none⟩) kk cc) acc) ∧ Hid (acc ++ flatR E (ps.drop k) = R) ∧ Below w.heap.size w wr) (fun _ i _ => kp - (intOf i).toNat)
  case atStart => exact ⟨0, [], w.heap.size, 0, kp, by omega, rfl, rfl, HOWN0, by simpa using HR, hb0⟩
  case round =>
    clear HOWN0 hb0 HR
    obtain ⟨k, acc, g, kk, cc, hk, rfl, rfl, HOWN, HK, hbel⟩ := hrel
    by_cases hlt : k < kp
    · have hltp : k < ps.length := by rw [← HKP.out]; exact hlt
      have hdr : ps.drop k = ps[k] :: ps.drop (k + 1) := List.drop_eq_getElem_cons hltp
      obtain ⟨bp, op, hao, hnk, hblt, hcell⟩ := (hin.below hbel (Nat.le_refl _)).cell (fun e => by rw [e] at hltp; simp at hltp)
      have hcj := hcell k hltp
      rw [show ps[k]?.getD 0 = ps[k] by simp [List.getElem?_eq_getElem hltp]] at hcj
      have hqI := hps _ (List.getElem_mem hltp)
      have hKK := HK.out
      rw [hdr, show flatR E (ps[k] :: ps.drop (k + 1)) = partsR' E ps[k] ++ flatR E (ps.drop (k + 1)) from rfl, ← List.append_assoc] at hKK
      generalize ps[k] = q at hcj hqI hKK
      subst hao
      have hddr := hd.below hbel
      have HLK : Hid ((acc ++ partsR' E q).length ≤ R.length) := by show _ ≤ _; rw [← hKK]; exact (List.prefix_append _ _).length_le
      have HKK : Hid ((acc ++ partsR' E q) ++ flatR E (ps.drop (k + 1)) = R) := hKK
      clear hcell hdr HK hKK hltp hnk
      go_wp2_with fail
      refine (parts_any bd L E q _ hqI hddr).mono ?_
      rintro e w3 ⟨a3, k3, c3, rfl, hown3p, hbel3⟩
      have hown3 := own_after HOWN.out hbel3
      have hsz3 : w.heap.size ≤ w3.heap.size := Nat.le_trans hbel.size hbel3.size
      obtain ⟨av, cv, hv⟩ := IOwn.val HOWN.out
      have hkk : kk = acc.length := by simpa using (Value.slice.inj hv).2.1
      have hint3 := hown3p.ints
      obtain ⟨av3, cv3, hv3⟩ := hown3p.val
      have hk3 : k3 = (partsR' E q).length := by simpa using (Value.slice.inj hv3).2.1
      have hL1 : (acc ++ partsR' E q).length ≤ R.length := HLK.out
      rw [List.length_append] at hL1
      have hpos := hddr.plen q
      generalize partsR' E q = en at HKK HLK hint3 hk3 hL1 hpos
      have hen : en ≠ [] := fun e => by rw [e] at hpos; simp at hpos
      · obtain ⟨b3, o3, hao3, hnk3, hblt3, hcell3⟩ := hint3.cell hen
        subst hao3 hk3 hkk
        have HC3 : Hid (∀ j, j < en.length → w3.cell? ((⟨b3, o3, none⟩ : Addr).add j) = some (.int .i64 (en[j]?.getD 0))) := fun j hj => by
          rw [show (⟨b3, o3, none⟩ : Addr).add j = ⟨b3, o3 + j, none⟩ by simp [Addr.add]]; exact hcell3 j hj
        have hsum : acc.length + en.length ≤ 1099511627776 := by omega
        have HOWN3 : Aside (IOwn w3 w.heap.size (.slice (some ⟨g, 0, none⟩) acc.length cc) acc) := hown3
        clear hcell3 hint3 hown3p hv hv3 HOWN hown3 hen hnk3 HLK
        go_wp2_with (first | (at_builtin; refine wpList_append_ints rfl _ _ rfl w.heap.size _ acc rfl HOWN3.out en ⟨b3, o3, none⟩ _ rfl HC3.out hsum hsz3 ?_; intro a4 c4 w4 hown4 hgr4 hnil4 hat4; obtain ⟨g4, rfl, hg4, hcap4⟩ := hown4.some_of (by rw [List.length_append]; omega)))
        have hb4 : Below w.heap.size w3 w4 := (Below.refl _ w3).grown hgr4 hsz3 (fun j hj => (own_ge HOWN3.out hj).1)
        have HOWN4 : Aside (IOwn w4 w.heap.size (.slice (some ⟨g4, 0, none⟩) (acc.length + en.length) c4) (acc ++ en)) := hown4
        clear hown4 hnil4 hat4 hcap4
        go_roundw
        case rel => exact ⟨k + 1, acc ++ en, g4, acc.length + en.length, c4, by omega, by simp, by simp, HOWN4, HKK, (hbel.trans (hbel3.mono hbel.size)).trans hb4⟩
        case measure => simp only [intOf]; omega
    · have hRR : R = acc := by rw [← HK.out, List.drop_of_length_le (by rw [← HKP.out]; omega)]; simp [flatR]
      clear HK
      go_wp2_with fail
      go_ret
      rw [hRR]
      exact ⟨_, _, _, rfl, HOWN.out, hbel⟩
end Go.Proofs.YtfhpgmlfgjfknaaGreatDoor
