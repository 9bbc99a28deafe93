/- What endsOf and join do (contracts; nothing is claimed here). -/
import Derived.Test.YtadbkkakjekopaaDoorLoop
namespace Go.Proofs.YtadbkkakjekopaaDoor
open Go.RowKit Go.Vf Go.Maps

/-- The marks with their parts to the end. -/
structure DD (w : World) (bm n : Nat) (pv ev : Int → Value) (L : List Mk) (E : Int → List Int) : Prop where
  mp : MapAt w bm n (fun p => (markAt L p).map fun m => markV m.cls (pv p) (ev p))
  parts : ∀ m ∈ L, Ints w.heap.size w (pv m.point) m.parts ∧ m.parts.length ≤ 131072
  ends : ∀ m ∈ L, Ints w.heap.size w (ev m.point) (E m.point) ∧ (E m.point).length ≤ 19
  ins : ∀ m ∈ L, InI m.point ∧ ∀ q ∈ m.parts, InI q
  noE : ∀ p, markAt L p = none → E p = []

theorem DD.below {w w' : World} {bm n : Nat} {pv ev : Int → Value} {L : List Mk} {E : Int → List Int} (h : DD w bm n pv ev L E) (hb : Below w.heap.size w w') : DD w' bm n pv ev L E :=
  ⟨h.mp.below hb h.mp.lt, fun m hm => ⟨((h.parts m hm).1.below hb (Nat.le_refl _)).mono hb.size, (h.parts m hm).2⟩, fun m hm => ⟨((h.ends m hm).1.below hb (Nat.le_refl _)).mono hb.size, (h.ends m hm).2⟩, h.ins, h.noE⟩

/-- What is known of a point when it is looked up. -/
theorem DD.look {w : World} {bm n : Nat} {pv ev : Int → Value} {L : List Mk} {E : Int → List Int} (h : DD w bm n pv ev L E) {p : Int} (hp : InI p) : ∃ a k cap a2 k2 cap2,
    (∀ x : World, x.heap = w.heap → (Instr.lookup 47 (.map (some bm)) (.int .i64 p) false).run Tryd.prog x = .ok (markV (classAt L p) (.slice a k cap) (.slice a2 k2 cap2)) x) ∧
    (∀ x : World, x.heap = w.heap → (Instr.lookup 47 (.map (some bm)) (.int .i64 p) true).run Tryd.prog x = .ok (.tuple #[markV (classAt L p) (.slice a k cap) (.slice a2 k2 cap2), .bool (hasAt L p)]) x) ∧
    Ints w.heap.size w (.slice a k cap) (partsAt L p) ∧ k = (partsAt L p).length ∧ k ≤ 131072 ∧ (∀ q ∈ partsAt L p, InI q) ∧
    Ints w.heap.size w (.slice a2 k2 cap2) (E p) ∧ k2 = (E p).length ∧ k2 ≤ 19 := by
  have hl : ∀ x : World, x.heap = w.heap → _ := fun x hx => (h.mp.block (w' := x) (by rw [hx])).look Tryd.underlying47 (zero77 x) hp
  have hl2 : ∀ x : World, x.heap = w.heap → _ := fun x hx => (h.mp.block (w' := x) (by rw [hx])).look_ok Tryd.underlying47 (zero77 x) hp
  unfold partsAt classAt hasAt
  cases hm : markAt L p with
  | none =>
    rw [hm] at hl hl2
    rw [h.noE p hm]
    exact ⟨none, 0, 0, none, 0, 0, hl, hl2, .inl ⟨_, _, rfl, rfl⟩, rfl, by omega, by simp, .inl ⟨_, _, rfl, rfl⟩, rfl, by omega⟩
  | some m =>
    rw [hm] at hl hl2
    have hmem : m ∈ L := List.mem_of_find?_eq_some hm
    have hpt : m.point = p := by simpa using List.find?_some hm
    obtain ⟨hi, hlen⟩ := h.parts m hmem
    obtain ⟨hi2, hlen2⟩ := h.ends m hmem
    rw [hpt] at hi hi2 hlen2
    obtain ⟨a, cap, hv⟩ := hi.val
    obtain ⟨a2, cap2, hv2⟩ := hi2.val
    rw [hv] at hi
    rw [hv2] at hi2
    simp only [Option.map_some, Option.getD_some, Option.isSome_some, hv, hv2] at hl hl2
    exact ⟨a, _, cap, a2, _, cap2, hl, hl2, hi, rfl, hlen, (h.ins m hmem).2, hi2, rfl, hlen2⟩

set_option maxHeartbeats 1000000 in
set_option maxRecDepth 20000 in
theorem endsOf_any (bd bm n : Nat) (pv ev : Int → Value) (L : List Mk) (E : Int → List Int) (p : Int) (w : World) (hp : InI p) (hbd : Blk w bd 54 #[.map (some bm)]) (hdd : DD w bm n pv ev L E) :
    Calls Tryd.prog 59 #[.pointer (some ⟨bd, 0, none⟩), .int .i64 p] w fun e w' => ∃ b off cap, e = .returned (.slice (some ⟨b, off, none⟩) (endsOfF E p).length cap) ∧ b < w'.heap.size ∧ (∀ j, j < (endsOfF E p).length → w'.cell? ⟨b, off + j, none⟩ = some (.int .i64 ((endsOfF E p)[j]?.getD 0))) ∧ Below w.heap.size w w' := by
  obtain ⟨a, k, cap, a2, k2, cap2, hl, _, _, hkA, _, _, hi2, hk2, _⟩ := hdd.look hp
  clear hkA
  have hl' := hl w rfl
  have hf2 := field2 (classAt L p) (.slice a k cap) (.slice a2 k2 cap2)
  have b0 : w.cell? ⟨bd, 0, none⟩ = some (.map (some bm)) := hbd.cell 0
  by_cases hE : E p = []
  · have e1 : endsOfF E p = [p] := by simp [endsOfF, hE]
    rw [e1]
    have h0 : k2 = 0 := by rw [hk2, hE]; rfl
    subst h0
    clear hl hk2
    go_enter Tryd.func59, Tryd.ntmps59
    go_wp2_with fail
    go_ret
    refine ⟨_, _, _, rfl, by simp, fun j hj => ?_, (Below.refl _ _).alloc (Nat.le_refl _) _⟩
    obtain rfl : j = 0 := by simpa using hj
    simp
  · have e1 : endsOfF E p = E p := by simp [endsOfF, hE]
    rw [e1]
    obtain ⟨b, off, rfl, hn, hb, hc⟩ := hi2.cell hE
    have hpos : 0 < k2 := by rw [hk2]; exact List.length_pos_iff.2 hE
    have HK : Hid (k2 = (E p).length) := hk2
    clear hl hk2 hn
    go_enter Tryd.func59, Tryd.ntmps59
    go_wp2_with fail
    go_ret
    refine ⟨b, off, cap2, ?_, hb, hc, Below.refl _ _⟩
    rw [← HK.out]
    rfl

theorem endsOfF_len {E : Int → List Int} {p : Int} (h : (E p).length ≤ 19) : (endsOfF E p).length ≤ 19 ∧ 0 < (endsOfF E p).length := by
  unfold endsOfF
  split
  · simp
  · rename_i h2
    exact ⟨h, List.length_pos_iff.2 h2⟩

theorem DD.elen {w : World} {bm n : Nat} {pv ev : Int → Value} {L : List Mk} {E : Int → List Int} (h : DD w bm n pv ev L E) (p : Int) : (E p).length ≤ 19 := by
  cases hm : markAt L p with
  | none => rw [h.noE p hm]; simp
  | some m =>
    have hpt : m.point = p := by simpa using List.find?_some hm
    have := (h.ends m (List.mem_of_find?_eq_some hm)).2
    rwa [hpt] at this

theorem IOwn.some_of {w : World} {base : Nat} {a : Option Addr} {n c : Nat} {zs : List Int} (h : IOwn w base (.slice a n c) zs) (hne : 0 < zs.length) : ∃ g, a = some ⟨g, 0, none⟩ ∧ base ≤ g ∧ zs.length ≤ c := by
  rcases h.form with ⟨_, hbad⟩ | ⟨g, cap, he, hg, _, hcap, _⟩
  · rw [hbad] at hne; simp at hne
  · simp only [Value.slice.injEq] at he
    exact ⟨g, he.1, hg, by rw [he.2.2]; exact hcap⟩

theorem join_step (E : Int → List Int) (acc : List Int) (q : Int) (r : List Int) : joinF E acc (q :: r) = if 18 < (acc ++ endsOfF E q).length then (acc ++ endsOfF E q).take 19 else joinF E (acc ++ endsOfF E q) r := rfl

set_option maxHeartbeats 4000000 in
set_option maxRecDepth 20000 in
theorem join_any (bd bm n : Nat) (pv ev : Int → Value) (L : List Mk) (E : Int → List Int) (a : Option Addr) (kp cap : Nat) (ps : List Int) (w : World) (hps : ∀ q ∈ ps, InI q) (hbd : Blk w bd 54 #[.map (some bm)]) (hdd : DD w bm n pv ev L E) (hin : Ints w.heap.size w (.slice a kp cap) ps) (hkp : kp = ps.length) (hkl : kp ≤ 131072) :
    Calls Tryd.prog 44 #[.pointer (some ⟨bd, 0, none⟩), .slice a kp cap] w fun e w' => ∃ a' k' c', e = .returned (.slice a' k' c') ∧ IOwn w' w.heap.size (.slice a' k' c') (joinF E [] ps) ∧ Below w.heap.size w w' := by
  generalize hR : joinF E [] ps = R
  have HR : Hid (joinF E [] ps = R) := hR
  have HKP : Hid (kp = ps.length) := hkp
  have hel := hdd.elen
  clear hR hkp
  go_enter Tryd.func44, Tryd.ntmps44
  go_wp2_with fail
  go_loopw [5, 10] (fun v i wr => ∃ (k : Nat) (acc : List Int), k ≤ kp ∧ i = .int .i64 k ∧ IOwn wr w.heap.size v acc ∧ acc.length ≤ 18 ∧ Hid (joinF E acc (ps.drop k) = R) ∧ Below w.heap.size w wr) (fun _ i _ => kp - (intOf i).toNat)
  case atStart => exact ⟨0, [], by omega, rfl, IOwn.nil _ _, by simp, by simpa using HR, Below.refl _ _⟩
  case round =>
    obtain ⟨k, acc, hk, rfl, hown, hal, HK, hbel⟩ := hrel
    by_cases hlt : k < kp
    · have hltp : k < ps.length := by rw [← HKP.out]; exact hlt
      have hd : ps.drop k = ps[k] :: ps.drop (k + 1) := List.drop_eq_getElem_cons hltp
      obtain ⟨bp, op, hao, hnk, hblt, hcell⟩ := (hin.below hbel (Nat.le_refl _)).cell (fun e => by rw [e] at hltp; simp at hltp)
      have hcj := hcell k hltp
      rw [show ps[k]?.getD 0 = ps[k] by simp [List.getElem?_eq_getElem hltp]] at hcj
      have hqI := hps _ (List.getElem_mem hltp)
      have hKK := HK.out
      rw [hd, join_step] at hKK
      obtain ⟨hl1, hl2⟩ := endsOfF_len (hel ps[k])
      generalize ps[k] = q at hcj hqI hKK hl1 hl2
      subst hao
      have HKK : Hid ((if 18 < (acc ++ endsOfF E q).length then (acc ++ endsOfF E q).take 19 else joinF E (acc ++ endsOfF E q) (ps.drop (k + 1))) = R) := hKK
      obtain ⟨av, cv, rfl⟩ := hown.val
      have hbdr := hbd.below hbel hbd.lt
      have hddr := hdd.below hbel
      clear hcell hd HK hKK hltp hnk HR
      go_wp2_with fail
      refine (endsOf_any bd bm n pv ev L E q _ hqI hbdr hddr).mono ?_
      rintro e w3 ⟨b3, o3, c3, rfl, hb3l, hc3, hbel3⟩
      have hown3 := own_after hown hbel3
      have hsz3 : w.heap.size ≤ w3.heap.size := Nat.le_trans hbel.size hbel3.size
      have hsum : acc.length + (endsOfF E q).length ≤ 1099511627776 := by omega
      have HC3 : Hid (∀ j, j < (endsOfF E q).length → w3.cell? ((⟨b3, o3, none⟩ : Addr).add j) = some (.int .i64 ((endsOfF E q)[j]?.getD 0))) := fun j hj => by
        rw [show (⟨b3, o3, none⟩ : Addr).add j = ⟨b3, o3 + j, none⟩ by simp [Addr.add]]; exact hc3 j hj
      clear hc3
      have HLA : Hid ((acc ++ endsOfF E q).length = acc.length + (endsOfF E q).length) := List.length_append
      generalize endsOfF E q = en at HKK hl1 hl2 hsum HC3 HLA ⊢
      by_cases hlong : 18 < acc.length + en.length
      · have hRR : R = (acc ++ en).take 19 := by rw [← HKK.out, if_pos (by rw [HLA.out]; exact hlong)]
        go_wp2_with (first | (at_builtin; refine wpList_append_ints rfl _ _ rfl w.heap.size _ acc rfl hown3 en ⟨b3, o3, none⟩ _ rfl HC3.out hsum hsz3 ?_; intro a4 c4 w4 hown4 hgr4 hnil4 hat4; obtain ⟨g4, rfl, hg4, hcap4⟩ := hown4.some_of (by rw [HLA.out]; omega); rw [HLA.out] at hcap4; have hc19 : 19 ≤ c4 := by omega))
        have hb4 : Below w.heap.size w3 w4 := (Below.refl _ w3).grown hgr4 hsz3 (fun j hj => (own_ge hown3 hj).1)
        go_ret
        refine ⟨_, _, _, rfl, ?_, (hbel.trans (hbel3.mono hbel.size)).trans hb4⟩
        rw [hRR]
        exact hown4.front 19 (by rw [HLA.out]; omega)
      · have HK2 : Hid (joinF E (acc ++ en) (ps.drop (k + 1)) = R) := by show _ = _; rw [← HKK.out, if_neg (by rw [HLA.out]; exact hlong)]
        go_wp2_with (first | (at_builtin; refine wpList_append_ints rfl _ _ rfl w.heap.size _ acc rfl hown3 en ⟨b3, o3, none⟩ _ rfl HC3.out hsum hsz3 ?_; intro a4 c4 w4 hown4 hgr4 hnil4 hat4))
        have hb4 : Below w.heap.size w3 w4 := (Below.refl _ w3).grown hgr4 hsz3 (fun j hj => (own_ge hown3 hj).1)
        go_roundw
        case rel => exact ⟨k + 1, acc ++ en, by omega, by simp, hown4, by rw [HLA.out]; omega, HK2, (hbel.trans (hbel3.mono hbel.size)).trans hb4⟩
        case measure => simp only [intOf]; omega
    · have hRR : R = acc := by rw [← HK.out, List.drop_of_length_le (by rw [← HKP.out]; omega)]; rfl
      obtain ⟨av, cv, rfl⟩ := hown.val
      clear HK
      go_wp2_with fail
      go_ret
      rw [hRR]
      exact ⟨_, _, _, rfl, hown, hbel⟩

end Go.Proofs.YtadbkkakjekopaaDoor
