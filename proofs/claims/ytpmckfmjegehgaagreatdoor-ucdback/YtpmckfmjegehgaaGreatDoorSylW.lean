/- What UcdSyllables does (a contract; nothing is claimed here). -/
import Derived.Test.YtpmckfmjegehgaaGreatDoorSylM
import Derived.Deep.CutRange
namespace Go.Proofs.YtpmckfmjegehgaaGreatDoor
open Go.RowKit Go.Vf Go.Maps

theorem letters_len {p : Int} : (lettersR p).length = if (p - 44032) % 28 = 0 then 2 else 3 := by
  unfold lettersR
  split <;> rfl

theorem load_cases (s : ByteArray) (w : World) (hg : Glob w) (hbig : s.size ≤ 281474976710656) : Calls Tryz.prog 9 #[.string s] w fun e w' => Below w.heap.size w w' ∧
    ((∃ why line, loadR s.data.toList = .error (why, line) ∧ (why != 0) = true ∧ e = .returned (.tuple #[.pointer none, .int .i64 why, .int .i64 line])) ∨
     (∃ L E bd, loadR s.data.toList = .ok (L, E) ∧ DataAt w' bd L E ∧ e = .returned (.tuple #[.pointer (some ⟨bd, 0, none⟩), .int .i64 0, .int .i64 0]))) := by
  refine (load_glob s w hg hbig).mono ?_
  rintro e w' ⟨hb, hp⟩
  refine ⟨hb, ?_⟩
  cases hl : loadR s.data.toList with
  | error x =>
    obtain ⟨why, line⟩ := x
    rw [hl] at hp
    exact .inl ⟨why, line, rfl, by simpa using load_why hl, hp⟩
  | ok x =>
    obtain ⟨L, E⟩ := x
    rw [hl] at hp
    obtain ⟨bd, he, hd⟩ := hp
    exact .inr ⟨L, E, bd, rfl, hd, he⟩

theorem load_none (w : World) (hg : Glob w) : Calls Tryz.prog 9 #[.string ⟨#[]⟩] w fun e w' => Below w.heap.size w w' ∧ ∃ E bd, (∀ p, E p = []) ∧ DataAt w' bd [] E ∧ e = .returned (.tuple #[.pointer (some ⟨bd, 0, none⟩), .int .i64 0, .int .i64 0]) := by
  obtain ⟨E, hl, hE⟩ := load_empty
  refine (load_glob ⟨#[]⟩ w hg (by decide)).mono ?_
  rintro e w' ⟨hb, hp⟩
  rw [show loadR (⟨#[]⟩ : ByteArray).data.toList = .ok ([], E) from hl] at hp
  obtain ⟨bd, he, hd⟩ := hp
  exact ⟨hb, E, bd, hE, hd, he⟩

/-- A syllable's letters, by their numbers. -/
theorem letters_nums {z : Int} (h : 0 ≤ z ∧ z < 11172) : ∃ a b : Int, 4352 ≤ a ∧ a ≤ 4370 ∧ 4449 ≤ b ∧ b ≤ 4469 ∧
    ((lettersR (44032 + z) = [a, b] ∧ (21 * (a - 4352) + (b - 4449)) * 28 + 0 = z) ∨ (∃ t, lettersR (44032 + z) = [a, b, t] ∧ 4520 ≤ t ∧ t ≤ 4546 ∧ (21 * (a - 4352) + (b - 4449)) * 28 + (t - 4519) = z)) := by
  refine ⟨4352 + z / 588, 4449 + z % 588 / 28, by omega, by omega, by omega, by omega, ?_⟩
  unfold lettersR
  rw [show 44032 + z - 44032 = z by omega]
  by_cases ht : z % 28 = 0
  · rw [if_pos ht]; exact .inl ⟨rfl, by omega⟩
  · rw [if_neg ht]; exact .inr ⟨4519 + z % 28, rfl, by omega, by omega, by omega⟩

/-- The letters in memory. -/
theorem letters_at {z : Int} (h : 0 ≤ z ∧ z < 11172) {w : World} {base : Nat} {v : Value} (hown : IOwn w base v (lettersR (44032 + z))) : ∃ (g k c : Nat) (x y t : Int), v = .slice (some ⟨g, 0, none⟩) k c ∧ k = (lettersR (44032 + z)).length ∧ 2 ≤ k ∧ k ≤ 3 ∧
    w.cell? ⟨g, 0, none⟩ = some (.int .i64 x) ∧ w.cell? ⟨g, 1, none⟩ = some (.int .i64 y) ∧ (k = 3 → w.cell? ⟨g, 2, none⟩ = some (.int .i64 t)) ∧ 4352 ≤ x ∧ x ≤ 4370 ∧ 4449 ≤ y ∧ y ≤ 4469 ∧ (k = 3 → 4520 ≤ t ∧ t ≤ 4546) ∧ (¬k = 3 → t = 4519) ∧ (21 * (x - 4352) + (y - 4449)) * 28 + (t - 4519) = z := by
  obtain ⟨x, y, hx0, hx1, hy0, hy1, ⟨hls, heq⟩ | ⟨t, hls, ht0, ht1, heq⟩⟩ := letters_nums h
  · rw [hls] at hown
    obtain ⟨a', c', rfl⟩ := hown.val
    obtain ⟨bp, op, hao, hnk, hblt, hcell⟩ := hown.ints.cell (by simp)
    rcases hown.2 with ⟨_, h0⟩ | ⟨g, cap, cur, e, _⟩
    · simp at h0
    · cases e
      cases hao
      have h0 := hcell 0 (by simp)
      have h1 := hcell 1 (by simp)
      exact ⟨_, 2, c', x, y, 4519, rfl, by rw [hls]; rfl, by omega, by omega, by simpa using h0, by simpa using h1, fun h => by omega, hx0, hx1, hy0, hy1, fun h => by omega, fun _ => rfl, by omega⟩
  · rw [hls] at hown
    obtain ⟨a', c', rfl⟩ := hown.val
    obtain ⟨bp, op, hao, hnk, hblt, hcell⟩ := hown.ints.cell (by simp)
    rcases hown.2 with ⟨_, h0⟩ | ⟨g, cap, cur, e, _⟩
    · simp at h0
    · cases e
      cases hao
      have h0 := hcell 0 (by simp)
      have h1 := hcell 1 (by simp)
      have h2 := hcell 2 (by simp)
      exact ⟨_, 3, c', x, y, t, rfl, by rw [hls]; rfl, by omega, by omega, by simpa using h0, by simpa using h1, fun _ => by simpa using h2, hx0, hx1, hy0, hy1, fun _ => ⟨ht0, ht1⟩, fun h => absurd rfl h, heq⟩

theorem parts_len {w : World} {bd : Nat} {L : List Mk} {E : Int → List Int} (h : DataAt w bd L E) (p : Int) : (partsR' E p).length ≤ 57 := by
  unfold partsR'
  split
  · rename_i hs
    obtain ⟨_, h3, _⟩ := lettersR_in hs
    have : ∀ l : List Int, (l.flatMap (endsOfF E)).length ≤ 19 * l.length := by
      intro l
      induction l with
      | nil => simp
      | cons a r ih => rw [List.flatMap_cons, List.length_append, List.length_cons]; have := (h.elen a).1; omega
    have := this (lettersR p)
    omega
  · have := (h.elen p).1; omega

theorem parts_pos {w : World} {bd : Nat} {L : List Mk} {E : Int → List Int} (h : DataAt w bd L E) (p : Int) : 0 < (partsR' E p).length := by
  unfold partsR'
  split
  · rename_i hs
    obtain ⟨_, _, h2⟩ := lettersR_in hs
    cases hl : lettersR p with
    | nil => rw [hl] at h2; simp at h2
    | cons a r => rw [List.flatMap_cons, List.length_append]; have := (h.elen a).2; omega
  · exact (h.elen p).2
theorem DataAt.ok {w : World} {bd : Nat} {L : List Mk} {E : Int → List Int} (h : DataAt w bd L E) : ∀ m ∈ L, MkOk m := by
  obtain ⟨bm, n, pv, ev, _, _, _, _, _, hok⟩ := h
  exact hok

/-- The loop's numbers. -/
theorem take_flat {E : Int → List Int} (ls : List Int) (k : Nat) (hk : k < ls.length) (acc : List Int) (h : acc = (ls.take k).flatMap (partsR' E)) : acc ++ partsR' E (ls[k]) = (ls.take (k + 1)).flatMap (partsR' E) := by
  rw [List.take_succ_eq_append_getElem hk, List.flatMap_append, h]
  simp

set_option maxHeartbeats 4000000 in
set_option maxRecDepth 20000 in
theorem syl_walk (n : Int) (hn : (Lit.int .i64 n).wf = true) (s : ByteArray) (hs : s.size ≤ 281474976710656) (w : World) (hg : Glob w) : Calls Tryz.prog 7 #[.int .i64 n, .string s] w fun e w' => e = .returned (.bool true) ∧ Below w.heap.size w w' := by
  have hnb : -9223372036854775808 ≤ n ∧ n ≤ 9223372036854775807 := by
    have h0 := hn
    simp only [Lit.wf, Bool.and_eq_true, decide_eq_true_eq] at h0
    have e1 : IntKind.i64.min = -9223372036854775808 := by decide
    have e2 : IntKind.i64.max = 9223372036854775807 := by decide
    omega
  clear hn
  go_enter Tryz.func7, Tryz.ntmps7
  go_upto_if 19 with fail
  go_cut [0] from 18 (fun v wx => w = wx ∧ ∃ nn, v = .int .i64 nn ∧ 0 ≤ nn ∧ nn ≤ 9223372036854775807)
  case first =>
    by_cases hneg : n < 0
    · go_wp2_with fail
      go_meet
      exact ⟨rfl, _, rfl, by omega, by omega⟩
    · go_wp2_with fail
      go_meet
      exact ⟨rfl, _, rfl, by omega, by omega⟩
  case rest =>
    obtain ⟨rfl, nn, rfl, hnn0, hnn1⟩ := hcut
    go_upto_region 4 with fail
    have hz : 0 ≤ nn % 11172 ∧ nn % 11172 < 11172 := by omega
    generalize nn % 11172 = z at hz ⊢
    clear hnn0 hnn1 hnb
    have hsy : isSyl (44032 + z) = true := by simp [isSyl]; omega
    have hI : InI (44032 + z) := by unfold InI; omega
    go_wp2_with fail
    refine (load_none w hg).mono ?_
    rintro e w1 ⟨hb1, E0, bd0, hE0, hd0, rfl⟩
    have hg1 := hg.below hb1
    go_wp2_with fail
    refine (load_cases s w1 hg1 hs).mono ?_
    rintro e w2 ⟨hb2, hcase⟩
    have hg2 := hg1.below hb2
    have hd02 := hd0.below hb2
    have hp0 := parts_any bd0 [] E0 (44032 + z) w2 hI hd02
    rw [parts_none hE0 hsy] at hp0
    have hb02 := below_two hb1 hb2
    clear hd0 hd02 hE0 hg1 hb1 hb2
    rcases hcase with ⟨why, line, hl, hw0, rfl⟩ | ⟨L, E, bd, hl, hd, rfl⟩
    · clear hl
      go_wp2_with fail
      refine hp0.mono ?_
      rintro e w3 ⟨a3, k3, c3, rfl, hown3, hb3⟩
      have hg3 := hg2.below hb3
      clear hp0
      obtain ⟨g, k, c, x, y, t, e3, hkl, hk2, hk3, q0, q1, q2, hx0, hx1, hy0, hy1, ht1, ht2, heq⟩ := letters_at hz hown3
      cases e3
      have HB03 : Hid (Below w.heap.size w w3) := below_two hb02 hb3
      have HOWN : Hid (IOwn w3 w2.heap.size (.slice (some ⟨g, 0, none⟩) k3 c3) (lettersR (44032 + z))) := hown3
      have HKL : Hid (k3 = (lettersR (44032 + z)).length) := hkl
      clear hown3 hkl hb02 hb3
      go_upto_if 63 with fail
      go_cut [13] from 61 (fun v wx => w3 = wx ∧ v = .int .i64 (t - 4519))
      case first =>
        by_cases h3 : k3 = 3
        · subst h3
          have q2' := q2 rfl
          have ht' := ht1 rfl
          go_wp2_with fail
          go_meet
          exact ⟨rfl, rfl⟩
        · have ht' := ht2 h3
          have h3b : ((k3 : Int) == 3) = false := by simp; omega
          subst ht'
          go_wp2_with fail
          go_meet
          exact ⟨rfl, rfl⟩
      case rest =>
        obtain ⟨rfl, rfl⟩ := hcut
        go_upto_region 18 with fail
        obtain ⟨X, hX⟩ : ∃ X, x - 4352 = X := ⟨_, rfl⟩
        obtain ⟨Y, hY⟩ : ∃ Y, y - 4449 = Y := ⟨_, rfl⟩
        obtain ⟨TT, hT⟩ : ∃ TT, t - 4519 = TT := ⟨_, rfl⟩
        have f1 : 0 ≤ X ∧ X ≤ 18 ∧ 0 ≤ Y ∧ Y ≤ 20 ∧ 0 ≤ TT ∧ TT ≤ 27 := by
          by_cases h3 : k3 = 3
          · have := ht1 h3; omega
          · have := ht2 h3; omega
        rw [hX, hY, hT] at heq ⊢
        have f2 : ((21 * X + Y) * 28 + TT != z) = false := by simp [heq]
        have HZ : Hid (0 ≤ z ∧ z < 11172) := hz
        clear heq hX hY hT hz hx0 hx1 hy0 hy1 ht1 ht2 q0 q1 q2
        go_upto_region 20 with fail
        clear f1 f2
        go_wp2_with fail
        refine (awake_any w3 hg3).mono ?_
        rintro e w4 ⟨rfl, hb4⟩
        go_wp2_with fail
        go_ret
        exact ⟨rfl, below_two HB03.out hb4⟩
    · clear hl
      go_wp2_with fail
      refine hp0.mono ?_
      rintro e w3 ⟨a3, k3, c3, rfl, hown3, hb3⟩
      have hg3 := hg2.below hb3
      clear hp0
      obtain ⟨g, k, c, x, y, t, e3, hkl, hk2, hk3, q0, q1, q2, hx0, hx1, hy0, hy1, ht1, ht2, heq⟩ := letters_at hz hown3
      cases e3
      have HB03 : Hid (Below w.heap.size w w3) := below_two hb02 hb3
      have HOWN : Hid (IOwn w3 w2.heap.size (.slice (some ⟨g, 0, none⟩) k3 c3) (lettersR (44032 + z))) := hown3
      have HPL : Hid (∀ E, partsR' E (44032 + z) = (lettersR (44032 + z)).flatMap (partsR' E)) := fun E => parts_letters E hsy
      have HLI : Hid (∀ q ∈ lettersR (44032 + z), InI q) := (lettersR_in hsy).1
      have HCS : Hid (∀ L, (∀ m ∈ L, MkOk m) → classAt L (44032 + z) = 0) := fun L h => classAt_syl h hsy
      have HI : Hid (InI (44032 + z)) := hI
      have HB23 : Hid (Below w2.heap.size w2 w3) := hb3
      have HKL : Hid (k3 = (lettersR (44032 + z)).length) := hkl
      clear hown3 hkl hb02 hb3
      go_upto_if 63 with fail
      go_cut [13] from 61 (fun v wx => w3 = wx ∧ v = .int .i64 (t - 4519))
      case first =>
        by_cases h3 : k3 = 3
        · subst h3
          have q2' := q2 rfl
          have ht' := ht1 rfl
          go_wp2_with fail
          go_meet
          exact ⟨rfl, rfl⟩
        · have ht' := ht2 h3
          have h3b : ((k3 : Int) == 3) = false := by simp; omega
          subst ht'
          go_wp2_with fail
          go_meet
          exact ⟨rfl, rfl⟩
      case rest =>
        obtain ⟨rfl, rfl⟩ := hcut
        go_upto_region 18 with fail
        obtain ⟨X, hX⟩ : ∃ X, x - 4352 = X := ⟨_, rfl⟩
        obtain ⟨Y, hY⟩ : ∃ Y, y - 4449 = Y := ⟨_, rfl⟩
        obtain ⟨TT, hT⟩ : ∃ TT, t - 4519 = TT := ⟨_, rfl⟩
        have f1 : 0 ≤ X ∧ X ≤ 18 ∧ 0 ≤ Y ∧ Y ≤ 20 ∧ 0 ≤ TT ∧ TT ≤ 27 := by
          by_cases h3 : k3 = 3
          · have := ht1 h3; omega
          · have := ht2 h3; omega
        rw [hX, hY, hT] at heq ⊢
        have f2 : ((21 * X + Y) * 28 + TT != z) = false := by simp [heq]
        have HZ : Hid (0 ≤ z ∧ z < 11172) := hz
        clear heq hX hY hT hz hx0 hx1 hy0 hy1 ht1 ht2 q0 q1 q2
        go_upto_region 20 with fail
        clear f1 f2 hsy hI
        have hd3 := hd.below HB23.out
        have hint3 := HOWN.out.ints
        have hLI := HLI.out
        obtain ⟨ls, hlse⟩ : ∃ ls, lettersR (44032 + z) = ls := ⟨_, rfl⟩
        rw [hlse] at hint3 hLI
        have HLS : Hid (lettersR (44032 + z) = ls) := hlse
        have HK3 : Hid (k3 = ls.length) := by show _ = _; rw [← hlse]; exact HKL.out
        clear hlse
        go_wp2_with fail
        go_loopw [16, 17] (fun v i wr => ∃ (k : Nat) (acc : List Int), k ≤ k3 ∧ i = .int .i64 k ∧ IOwn wr w3.heap.size v acc ∧ acc.length ≤ 57 * k ∧ Hid (acc = (ls.take k).flatMap (partsR' E)) ∧ Below w3.heap.size w3 wr) (fun _ i _ => k3 - (intOf i).toNat)
        case atStart => exact ⟨0, [], by omega, rfl, IOwn.nil _ _, by simp, by show _ = _; simp, Below.refl _ _⟩
        case round =>
          obtain ⟨k, acc, hk, rfl, hown, hal, HK, hbel⟩ := hrel
          obtain ⟨av, cv, rfl⟩ := hown.val
          by_cases hlt : k < k3
          · have hltp : k < ls.length := by rw [← HK3.out]; exact hlt
            obtain ⟨bp, op, hao, hnk, hblt, hcell⟩ := (hint3.below hbel (Nat.le_refl _)).cell (fun e => by rw [e] at hltp; simp at hltp)
            cases hao
            have hcj := hcell k hltp
            rw [show ls[k]?.getD 0 = ls[k] by simp [List.getElem?_eq_getElem hltp], Nat.zero_add] at hcj
            have hqI := hLI _ (List.getElem_mem hltp)
            have hKK := take_flat ls k hltp acc HK.out
            have hdr := hd3.below hbel
            have hel := parts_len hdr ls[k]
            have hpos := parts_pos hdr ls[k]
            generalize ls[k] = q at hcj hqI hKK hel hpos
            clear hcell HK hltp hnk
            go_wp2_with fail
            refine (parts_any bd L E q wr hqI hdr).mono ?_
            rintro e w4 ⟨a4, k4, c4, rfl, hown4, hbel4⟩
            obtain ⟨_, _, e4⟩ := hown4.val
            simp only [Value.slice.injEq] at e4
            have HK4 : Hid (k4 = (partsR' E q).length) := e4.2.1
            clear e4
            have hown5 := own_after hown hbel4
            have hint4 := hown4.ints
            have hsz4 : w3.heap.size ≤ w4.heap.size := Nat.le_trans hbel.size hbel4.size
            have HKK : Hid (acc ++ partsR' E q = (ls.take (k + 1)).flatMap (partsR' E)) := hKK
            have HLA : Hid ((acc ++ partsR' E q).length = acc.length + (partsR' E q).length) := List.length_append
            clear hKK
            generalize partsR' E q = en at HKK hel hown4 HK4 hint4 HLA hpos
            obtain ⟨b4, o4, ha4, _, hb4, hcell4⟩ := hint4.cell (fun e => by rw [e] at hpos; exact absurd hpos (by simp))
            subst ha4
            have HC4 : Hid (∀ j, j < en.length → w4.cell? ((⟨b4, o4, none⟩ : Addr).add j) = some (.int .i64 (en[j]?.getD 0))) := fun j hj => by
              rw [show (⟨b4, o4, none⟩ : Addr).add j = ⟨b4, o4 + j, none⟩ by simp [Addr.add]]; exact hcell4 j hj
            have hsum : acc.length + en.length ≤ 1099511627776 := by omega
            clear hcell4 hint4 hown4 hpos
            obtain rfl := HK4.out
            go_wp2_with (first | (at_builtin; refine wpList_append_ints rfl _ _ rfl w3.heap.size _ acc rfl hown5 en ⟨b4, o4, none⟩ _ rfl HC4.out hsum hsz4 ?_; intro a6 c6 w6 hown6 hgr6 hnil6 hat6))
            have hb6 : Below w3.heap.size w4 w6 := (Below.refl _ w4).grown hgr6 hsz4 (fun j hj => (own_ge hown5 hj).1)
            go_roundw
            case rel => exact ⟨k + 1, acc ++ en, by omega, by simp, hown6, by rw [HLA.out]; omega, HKK, (hbel.trans (hbel4.mono hbel.size)).trans hb6⟩
            case measure => simp only [intOf]; omega
          · have HRR : Hid (acc = ls.flatMap (partsR' E)) := by
              show _ = _
              have := HK.out
              rw [List.take_of_length_le (by rw [← HK3.out]; omega)] at this
              exact this
            clear HK
            have hdr := hd3.below hbel
            have hgr := hg3.below hbel
            have hI : InI (44032 + z) := HI.out
            have hints := hown.ints
            go_wp2_with fail
            refine (awake_any wr hgr).mono ?_
            rintro e w4 ⟨rfl, hb4⟩
            have hd4 := hdr.below hb4
            have hz := HZ.out
            go_wp2_with fail
            refine (parts_any bd L E (44032 + z) w4 hI hd4).mono ?_
            rintro e w5 ⟨a5, k5, c5, rfl, hown5, hbel5⟩
            have hd5 := hd4.below hbel5
            have hi5 : Ints w5.heap.size w5 (.slice av acc.length cv) acc := ((hints.below hb4 (Nat.le_refl _)).mono hb4.size |>.below hbel5 (Nat.le_refl _)).mono hbel5.size
            have hl5 := parts_len hd5 (44032 + z)
            go_wp2_with fail
            refine (sameInts_any _ _ (partsR' E (44032 + z)) acc _ _ w5 hown5.ints hi5 (by omega) (by omega)).mono ?_
            rintro e w6 ⟨rfl, hb6⟩
            rw [show decide (partsR' E (44032 + z) = acc) = true by rw [decide_eq_true_eq, HPL.out, HLS.out]; exact HRR.out.symm]
            have hd6 := hd5.below hb6
            have hcl := class_any bd L E (44032 + z) w6 hI hd6
            rw [HCS.out L hd6.ok] at hcl
            go_wp2_with fail
            refine hcl.mono ?_
            rintro e w7 ⟨rfl, rfl⟩
            go_wp2_with fail
            go_ret
            exact ⟨rfl, below_two (below_two (below_two (below_two HB03.out hbel) hb4) hbel5) hb6⟩

end Go.Proofs.YtpmckfmjegehgaaGreatDoor
