/- Small contracts and laws for the document's table (nothing is claimed here). -/
import Derived.Test.YtfeppbiodbhpcaaDoorRefU
import Derived.Test.YtfeppbiodbhpcaaDoorEntE
import Derived.Deep.Upon
import Derived.BigRegion
namespace Go.Proofs.YtfeppbiodbhpcaaDoor
open Go.RowKit Go.Vf Go.Maps

theorem below_drewB (w : World) (n B : Nat) : Below B w (w.drewN n) := ⟨rfl, rfl, rfl, Nat.le_refl _, fun _ _ => rfl⟩
theorem pointS_pointR {s : List UInt8} {p : Int} (h : pointR s = some p) : ∃ u : Nat, p = (u : Int) ∧ u ≤ 1114111 ∧ mayB (u : Int) = true ∧ s = pointS u := by
  unfold pointR at h
  split at h
  · rename_i hs
    split at h
    · cases h
    · rename_i n hn
      split at h
      · rename_i hm
        have hpn : (n : Int) = p := by simpa using h
        have hmn : n ≤ 1114111 := by
          unfold mayB at hm
          simp at hm
          omega
        obtain ⟨r, hr, hnr, hpad⟩ := pad_numB s 0 n hn
        have hrn : r = n := by simpa using hnr.symm
        subst hrn
        refine ⟨r, hpn.symm, hmn, hm, ?_⟩
        have hl := upHex_len r s.length hr (by omega)
        rw [pointS_pad]
        suffices hE : (4 - (upHex r).length) + (upHex r).length = s.length by rw [hE]; exact hpad
        rcases hs with h4 | ⟨h5, h6, hh⟩
        · omega
        · obtain ⟨k, hk⟩ : ∃ k, s.length = k + 1 := ⟨s.length - 1, by omega⟩
          have hgt : ¬ (upHex r).length ≤ k := fun hle => by
            have hlt := upHex_lt r k hle
            rw [hpad, hk, padHex_head, Nat.div_eq_of_lt hlt] at hh
            exact hh rfl
          omega
      · cases h
  · cases h
theorem row_some {w : World} {base : Nat} {e : TypeId} {size : Nat} {v : Value} {n : Nat} {xs : List Value} (h : w.ownsRow base e size v n xs) (hn : 0 < n) : ∃ g cap, v = .slice (some ⟨g, 0, none⟩) n cap ∧ n ≤ cap ∧ g < w.heap.size ∧ ∀ j u, xs[j]? = some u → w.cell? ⟨g, j, none⟩ = some u := by
  rcases h.2 with ⟨_, h0⟩ | ⟨g, cap, cur, hv, hb, hg, hc, hm, hs, ht⟩
  · omega
  · refine ⟨g, cap, hv, hc, (Array.getElem?_eq_some_iff.1 hg).1, fun j u hu => ?_⟩
    rw [← ht] at hu
    have hj := (List.getElem?_eq_some_iff.1 hu).1
    rw [List.getElem?_take_of_lt (by rw [List.length_take] at hj; omega)] at hu
    simp only [World.cell?, hg]
    simpa using hu
def isPt (n : Int) : Bool := decide (0 ≤ n) && decide (n ≤ 1114111) && (decide (n < 55296) || decide (57343 < n))
theorem isPoint_anyr (n : Int) (w : World) : Calls Tryd.prog 45 #[.int .i64 n] w fun e w' => e = .returned (.bool (isPt n)) ∧ w = w' := by
  by_cases h1 : 0 ≤ n
  · by_cases h2 : n ≤ 1114111
    · by_cases h3 : n < 55296
      · go_enter Tryd.func45, Tryd.ntmps45
        go_wp2
        go_ret
        exact ⟨by simp [isPt, h1, h2, h3], rfl⟩
      · by_cases h4 : 57343 < n
        · go_enter Tryd.func45, Tryd.ntmps45
          go_wp2
          go_ret
          exact ⟨by simp [isPt, h1, h2, h4], rfl⟩
        · go_enter Tryd.func45, Tryd.ntmps45
          go_wp2
          go_ret
          exact ⟨by simp [isPt]; omega, rfl⟩
    · go_enter Tryd.func45, Tryd.ntmps45
      go_wp2
      go_ret
      exact ⟨by simp [isPt]; omega, rfl⟩
  · go_enter Tryd.func45, Tryd.ntmps45
    go_wp2
    go_ret
    exact ⟨by simp [isPt]; omega, rfl⟩
theorem results71_runr {tmps : Array Value} {w : World} {a b : Value} (t2 : tmps[2]?.getD undef = a) (t3 : tmps[3]?.getD undef = b) : (results Tryd.f56 tmps).run Tryd.prog w = .ok (.tuple #[a, b]) w := by
  simp [results, Tryd.results56, go_sem, t2, t3]
theorem pointS_inj {a b : Nat} (h : pointS a = pointS b) : a = b := by
  have e : ∀ u, numB hexV 16 (pointS u) 0 = some u := fun u => by
    rw [pointS_pad, numB_pad, Nat.mod_eq_of_lt (Nat.lt_of_lt_of_le (upHex_lt u _ (Nat.le_refl _)) (Nat.pow_le_pow_right (by omega) (by omega)))]
    simp
  have h1 := e a
  rw [h, e b] at h1
  simpa using h1.symm
/-- What Number answers of a text. -/
def NumOf (l : List UInt8) (x : Int) (b : Bool) : Prop := (b = true ∧ ∃ n : Nat, x = (n : Int) ∧ n < 16 ^ 6 ∧ l = pointS n) ∨ (b = false ∧ pointR l = none)
theorem NumOf.bad {l : List UInt8} (h : ¬ (4 ≤ l.length ∧ l.length ≤ 6) ∨ numB hexV 16 l 0 = none) : NumOf l 0 false := by
  refine .inr ⟨rfl, ?_⟩
  unfold pointR
  split
  · rename_i hs
    rcases h with h | h
    · exact absurd ⟨by omega, by omega⟩ h
    · rw [h]
  · rfl
theorem NumOf.done {l : List UInt8} {n : Nat} (h : numB hexV 16 l 0 = some n) (hn : n < 16 ^ 6) : NumOf l (n : Int) (decide (pointS n = l)) := by
  by_cases e : pointS n = l
  · exact .inl ⟨by simp [e], n, rfl, hn, e.symm⟩
  · refine .inr ⟨by simp [e], ?_⟩
    cases hp : pointR l with
    | none => rfl
    | some p =>
      exfalso
      obtain ⟨u, _, hu, _, hs⟩ := pointS_pointR hp
      have h1 : numB hexV 16 (pointS u) 0 = some u := by
        rw [pointS_pad, numB_pad, Nat.mod_eq_of_lt (Nat.lt_of_lt_of_le (upHex_lt u _ (Nat.le_refl _)) (Nat.pow_le_pow_right (by omega) (by omega)))]
        simp
      rw [← hs, h] at h1
      have : n = u := by simpa using h1
      subst this
      exact e hs.symm
theorem numB_at (s : ByteArray) (k : Nat) (hk : k < s.size) (m : Nat) : numB hexV 16 (s.data.toList.drop k) m = match hexV s[k] with
    | none => none
    | some d => numB hexV 16 (s.data.toList.drop (k + 1)) (m * 16 + d) := by
  rw [drop_at s k hk]
  rfl
theorem silent_any (s : ByteArray) (w : World) : Calls Tryd.prog 28 #[.string s] w fun e w' => e = .returned (.bool (silentL s.data.toList)) ∧ w = w' := by
  by_cases hemp : s.data.toList = []
  · have hemp' : s.toList.isEmpty = true := by rw [ByteArray.toList_eq, hemp]; rfl
    go_enter Tryd.func28, Tryd.ntmps28
    go_wp2_with fail
    go_ret
    exact ⟨by simp [silentL, hemp], rfl⟩
  · have hemp' : s.toList.isEmpty = false := by rw [ByteArray.toList_eq]; simpa using hemp
    have hsz : 0 < s.size := by rw [Lib.size_eq]; exact List.length_pos_iff.2 hemp
    have hhd := head_at s hsz
    by_cases h35 : (s[0]).toNat = 35
    · have h35' : (((s[0]).toNat : Int) == 35) = true := by simp [h35]
      go_enter Tryd.func28, Tryd.ntmps28
      go_wp2_with fail
      go_ret
      have e : s[0] = 35 := UInt8.toNat_inj.1 h35
      exact ⟨by simp [silentL, hhd, e], rfl⟩
    · have h35' : (((s[0]).toNat : Int) == 35) = false := by simp; omega
      go_enter Tryd.func28, Tryd.ntmps28
      go_wp2_with fail
      go_ret
      have e : s[0] ≠ 35 := fun e => h35 (by rw [e]; rfl)
      exact ⟨by simp [silentL, hhd, e]; simpa using hemp, rfl⟩
theorem info9 : (Tryd.prog.info? 9).map (fun i => (i.zero, i.size, i.bytes)) = some (some (.string ⟨#[]⟩), 1, 16) := by kernel_rfl
/-- A list of texts that a call owns. -/
def SOwn (w : World) (base : Nat) (v : Value) (ss : List (List UInt8)) : Prop := w.ownsRow base 9 1 v ss.length (ss.map fun l => Value.string (bsz l))
theorem SOwn.nil (w : World) (base : Nat) : SOwn w base (.slice none 0 0) [] := World.ownsRow_nil _ _ _ _
theorem wpList_append_str {w : World} {ops : Array Oper} {rest : List Oper} {o : Oper} {a : Act} {Q : Exit → Act → World → Prop} (hgd : o.guard = none) (s x : Operand)
    (ho : o.op = .call { callee := .builtin .append, args := #[s, x], argTypes := #[60, 60] })
    (base : Nat) (v : Value) (ss : List (List UInt8)) (hs : a.eval s = v) (hown : SOwn w base v ss) (t : ByteArray) (l : List UInt8) (ht : t = bsz l) (hx : a.eval x = .slice (some ⟨w.heap.size, 0, none⟩) 1 1)
    (hlen : ss.length ≤ 1099511627) (hbase : base ≤ w.heap.size)
    (h : ∀ a' c' w', SOwn w' base (.slice a' (ss.length + 1) c') (ss ++ [l]) → (w.alloc (.cells #[.string t] 9)).grownBy w' v.ownBlock → wpList Tryd.prog ops Q rest (a.put o.dst (.slice a' (ss.length + 1) c')) w') :
    wpList Tryd.prog ops Q (o :: rest) a (w.alloc (.cells #[.string t] 9)) := by
  subst ht
  obtain ⟨i, hi, hz, hsz, hby⟩ := info_parts info9
  have hb := Blk.new w 9 #[.string (bsz l)]
  refine wpList_append_own_at (P := Tryd.prog) _ hgd s x 60 ho base 9 i _ 1 16 Tryd.underlying60 hi hz hsz hby rfl (by decide) v ss.length (ss.map fun l => Value.string (bsz l)) hs (World.ownsRow.alloc hown _) ⟨w.heap.size, 0, none⟩ 1 1 [.string (bsz l)] hx (by rfl) ?_ ?_ ?_ ?_ ?_ ?_
  · intro j u hu
    match j, hu with
    | 0, hu => simp at hu; subst hu; exact hb.cell 0
  · intro u hu; simp at hu; subst hu; rfl
  · unfold maxLen; omega
  · omega
  · simp; omega
  · intro v' w' h1 h2 _ _
    obtain ⟨a', c', rfl⟩ := row_val h1
    exact h a' c' w' (by unfold SOwn; rw [List.length_append, List.map_append]; exact h1) h2
theorem extract_bsz (s : ByteArray) (a b : Nat) : s.extract a b = bsz ((s.data.toList.drop a).take (b - a)) := by
  apply ByteArray.ext
  apply Array.ext'
  simp [ByteArray.data_extract, List.extract_eq_take_drop]
/-- What is left to be cut. -/
structure CutAt (c : UInt8) (l : List UInt8) (fr k : Nat) (acc : List (List UInt8)) : Prop where
  le : fr ≤ k
  no : ∀ x ∈ (l.drop fr).take (k - fr), x ≠ c
  eq : acc ++ cutL c (l.drop fr) = cutL c l
theorem CutAt.step {c : UInt8} {l : List UInt8} {fr k : Nat} {acc : List (List UInt8)} (h : CutAt c l fr k acc) (hk : k < l.length) (hne : l[k] ≠ c) : CutAt c l fr (k + 1) acc := by
  refine ⟨by have := h.le; omega, fun x hx => ?_, h.eq⟩
  have hle := h.le
  have e : (l.drop fr).take (k + 1 - fr) = (l.drop fr).take (k - fr) ++ [l[k]] := by
    rw [show k + 1 - fr = (k - fr) + 1 by omega, List.take_succ_eq_append_getElem (by rw [List.length_drop]; omega), List.getElem_drop]
    congr 2
    congr 1
    omega
  rw [e] at hx
  rcases List.mem_append.1 hx with hx | hx
  · exact h.no x hx
  · simp at hx; subst hx; exact hne
theorem CutAt.cut {c : UInt8} {l : List UInt8} {fr k : Nat} {acc : List (List UInt8)} (h : CutAt c l fr k acc) (hk : k < l.length) (he : l[k] = c) : CutAt c l (k + 1) (k + 1) (acc ++ [(l.drop fr).take (k - fr)]) := by
  have hle := h.le
  refine ⟨Nat.le_refl _, fun x hx => by simp at hx, ?_⟩
  have e : l.drop fr = (l.drop fr).take (k - fr) ++ c :: l.drop (k + 1) := by
    conv => lhs; rw [← List.take_append_drop (k - fr) (l.drop fr)]
    rw [List.drop_drop, show fr + (k - fr) = k by omega, List.drop_eq_getElem_cons hk, he]
  have e2 := h.eq
  rw [e, cutL_split c _ _ h.no] at e2
  rw [← e2]
  simp
theorem CutAt.last {c : UInt8} {l : List UInt8} {fr : Nat} {acc : List (List UInt8)} (h : CutAt c l fr l.length acc) : acc ++ [(l.drop fr).take (l.length - fr)] = cutL c l := by
  have e : (l.drop fr).take (l.length - fr) = l.drop fr := List.take_of_length_le (by rw [List.length_drop]; omega)
  have h1 := h.no
  rw [e] at h1
  rw [e, ← h.eq, cutL_plain c _ h1]
theorem CutAt.acc {c : UInt8} {l : List UInt8} {fr k : Nat} {acc : List (List UInt8)} (h : CutAt c l fr k acc) : acc.length ≤ l.length + 1 := by
  have := congrArg List.length h.eq
  rw [List.length_append] at this
  have h2 := cutL_len_le c l
  omega
set_option maxHeartbeats 4000000 in
set_option maxRecDepth 20000 in
theorem refCut_any (s : ByteArray) (c : UInt8) (hs : s.size ≤ 65536) (w : World) : Calls Tryd.prog 55 #[.string s, .int .u8 (c.toNat : Int)] w fun e w' => ∃ a k cap, e = .returned (.slice a k cap) ∧ SOwn w' w.heap.size (.slice a k cap) (cutL c s.data.toList) ∧ Below w.heap.size w w' := by
  have HSL : Hid (s.data.toList.length = s.size) := (Lib.size_eq s).symm
  go_enter Tryd.func55, Tryd.ntmps55
  go_wp2_with fail
  go_loopw [5, 6, 7] (fun v x i wr => ∃ (k fr : Nat) (acc : List (List UInt8)), k ≤ s.size + 1 ∧ i = .int .i64 k ∧ x = .int .i64 fr ∧ SOwn wr w.heap.size v acc ∧ acc.length ≤ 65540 ∧ Hid ((k ≤ s.size ∧ CutAt c s.data.toList fr k acc) ∨ (k = s.size + 1 ∧ acc = cutL c s.data.toList)) ∧ Below w.heap.size w wr) (fun _ _ i _ => s.size + 1 - (intOf i).toNat)
  case atStart => exact ⟨0, 0, [], by omega, rfl, rfl, SOwn.nil _ _, by simp, .inl ⟨by omega, Nat.le_refl _, by simp, by simp⟩, Below.refl _ _⟩
  case round =>
    obtain ⟨k, fr, acc, hk, rfl, rfl, hown, hal, HC, hbel⟩ := hrel
    obtain ⟨av, cv, rfl⟩ := row_val hown
    have hbs := hbel.size
    have hal' : acc.length ≤ 1099511627 := by omega
    by_cases hle : k ≤ s.size
    · have HCA : Hid (CutAt c s.data.toList fr k acc) := by
        rcases HC.out with h | h
        · exact h.2
        · omega
      have hfk := HCA.out.le
      clear HC
      by_cases hlt : k < s.size
      · have hltl : k < s.data.toList.length := by rw [HSL.out]; exact hlt
        have hsk : s.data.toList[k] = s[k] := rfl
        have hk1 : ((k : Int) == (s.size : Int)) = false := by simp; omega
        have h256 : (s[k]).toNat < 256 := (s[k]).toNat_lt
        by_cases hc : s[k] = c
        · have ht : ((s[k].toNat : Int) == (c.toNat : Int)) = true := by rw [hc]; simp
          have HC2 : Hid (CutAt c s.data.toList (k + 1) (k + 1) (acc ++ [(s.data.toList.drop fr).take (k - fr)])) := HCA.out.cut hltl (by rw [hsk]; exact hc)
          have hacc := HC2.out.acc
          rw [HSL.out] at hacc
          clear hc hsk
          go_wp2_with (first | (at_builtin; refine wpList_append_str rfl _ _ rfl w.heap.size _ acc rfl hown _ _ (extract_bsz s fr k) rfl hal' hbs ?_; intro a5 c5 w5 hown5 hgr5))
          have hb5 : Below w.heap.size w w5 := (hbel.alloc hbs _).grown hgr5 (by simp; omega) (fun j hj => (own_ge hown hj).1)
          go_roundw
          case rel => exact ⟨k + 1, k + 1, _, by omega, by go_num, by go_num, hown5, by omega, .inl ⟨by omega, HC2.out⟩, hb5⟩
          case measure => simp only [intOf]; omega
        · have ht : ((s[k].toNat : Int) == (c.toNat : Int)) = false := by
            rw [beq_eq_false_iff_ne]
            intro e
            exact hc (UInt8.toNat_inj.1 (by omega))
          have HC2 : Hid (CutAt c s.data.toList fr (k + 1) acc) := HCA.out.step hltl (by rw [hsk]; exact hc)
          clear hc hsk
          go_wp2_with fail
          go_roundw
          case rel => exact ⟨k + 1, fr, acc, by omega, by go_num, rfl, hown, hal, .inl ⟨by omega, HC2.out⟩, hbel⟩
          case measure => simp only [intOf]; omega
      · obtain rfl : k = s.size := by omega
        have hacc := HCA.out.acc
        rw [HSL.out] at hacc
        have HC2 : Hid (acc ++ [(s.data.toList.drop fr).take (s.size - fr)] = cutL c s.data.toList) := by
          have h := HCA.out
          rw [← HSL.out] at h
          have := h.last
          rwa [HSL.out] at this
        have hk1 : ((s.size : Int) == (s.size : Int)) = true := by simp
        go_wp2_with (first | (at_builtin; refine wpList_append_str rfl _ _ rfl w.heap.size _ acc rfl hown _ _ (extract_bsz s fr s.size) rfl hal' hbs ?_; intro a5 c5 w5 hown5 hgr5))
        have hb5 : Below w.heap.size w w5 := (hbel.alloc hbs _).grown hgr5 (by simp; omega) (fun j hj => (own_ge hown hj).1)
        go_roundw
        case rel => exact ⟨s.size + 1, s.size + 1, _, by omega, by go_num, by go_num, hown5, by rw [List.length_append]; simp; omega, .inr ⟨rfl, HC2.out⟩, hb5⟩
        case measure => simp only [intOf]; omega
    · have HE : Hid (acc = cutL c s.data.toList) := by
        rcases HC.out with h | h
        · omega
        · exact h.2
      go_wp2_with fail
      go_ret
      exact ⟨_, _, _, rfl, by rw [← HE.out]; exact hown, hbel⟩
set_option maxHeartbeats 4000000 in
set_option maxRecDepth 20000 in
theorem refLines_any (s : ByteArray) (hs : s.size ≤ 65536) (w : World) : Calls Tryd.prog 27 #[.string s] w fun e w' => ∃ a k cap, e = .returned (.slice a k cap) ∧ SOwn w' w.heap.size (.slice a k cap) (cutL (10 : UInt8) s.data.toList) ∧ Below w.heap.size w w' := by
  have HSL : Hid (s.data.toList.length = s.size) := (Lib.size_eq s).symm
  go_enter Tryd.func27, Tryd.ntmps27
  go_wp2_with fail
  go_loopw [3, 4, 5] (fun v x i wr => ∃ (k fr : Nat) (acc : List (List UInt8)), k ≤ s.size + 1 ∧ i = .int .i64 k ∧ x = .int .i64 fr ∧ SOwn wr w.heap.size v acc ∧ acc.length ≤ 65540 ∧ Hid ((k ≤ s.size ∧ CutAt (10 : UInt8) s.data.toList fr k acc) ∨ (k = s.size + 1 ∧ acc = cutL (10 : UInt8) s.data.toList)) ∧ Below w.heap.size w wr) (fun _ _ i _ => s.size + 1 - (intOf i).toNat)
  case atStart => exact ⟨0, 0, [], by omega, rfl, rfl, SOwn.nil _ _, by simp, .inl ⟨by omega, Nat.le_refl _, by simp, by simp⟩, Below.refl _ _⟩
  case round =>
    obtain ⟨k, fr, acc, hk, rfl, rfl, hown, hal, HC, hbel⟩ := hrel
    obtain ⟨av, cv, rfl⟩ := row_val hown
    have hbs := hbel.size
    have hal' : acc.length ≤ 1099511627 := by omega
    by_cases hle : k ≤ s.size
    · have HCA : Hid (CutAt (10 : UInt8) s.data.toList fr k acc) := by
        rcases HC.out with h | h
        · exact h.2
        · omega
      have hfk := HCA.out.le
      clear HC
      by_cases hlt : k < s.size
      · have hltl : k < s.data.toList.length := by rw [HSL.out]; exact hlt
        have hsk : s.data.toList[k] = s[k] := rfl
        have hk1 : ((k : Int) == (s.size : Int)) = false := by simp; omega
        have h256 : (s[k]).toNat < 256 := (s[k]).toNat_lt
        by_cases hc : s[k] = (10 : UInt8)
        · have ht : ((s[k].toNat : Int) == 10) = true := by rw [hc]; simp
          have HC2 : Hid (CutAt (10 : UInt8) s.data.toList (k + 1) (k + 1) (acc ++ [(s.data.toList.drop fr).take (k - fr)])) := HCA.out.cut hltl (by rw [hsk]; exact hc)
          have hacc := HC2.out.acc
          rw [HSL.out] at hacc
          clear hc hsk
          go_wp2_with (first | (at_builtin; refine wpList_append_str rfl _ _ rfl w.heap.size _ acc rfl hown _ _ (extract_bsz s fr k) rfl hal' hbs ?_; intro a5 c5 w5 hown5 hgr5))
          have hb5 : Below w.heap.size w w5 := (hbel.alloc hbs _).grown hgr5 (by simp; omega) (fun j hj => (own_ge hown hj).1)
          go_roundw
          case rel => exact ⟨k + 1, k + 1, _, by omega, by go_num, by go_num, hown5, by omega, .inl ⟨by omega, HC2.out⟩, hb5⟩
          case measure => simp only [intOf]; omega
        · have ht : ((s[k].toNat : Int) == 10) = false := by
            rw [beq_eq_false_iff_ne]
            intro e
            exact hc (UInt8.toNat_inj.1 (by have : ((10 : UInt8).toNat) = 10 := rfl; omega))
          have HC2 : Hid (CutAt (10 : UInt8) s.data.toList fr (k + 1) acc) := HCA.out.step hltl (by rw [hsk]; exact hc)
          clear hc hsk
          go_wp2_with fail
          go_roundw
          case rel => exact ⟨k + 1, fr, acc, by omega, by go_num, rfl, hown, hal, .inl ⟨by omega, HC2.out⟩, hbel⟩
          case measure => simp only [intOf]; omega
      · obtain rfl : k = s.size := by omega
        have hacc := HCA.out.acc
        rw [HSL.out] at hacc
        have HC2 : Hid (acc ++ [(s.data.toList.drop fr).take (s.size - fr)] = cutL (10 : UInt8) s.data.toList) := by
          have h := HCA.out
          rw [← HSL.out] at h
          have := h.last
          rwa [HSL.out] at this
        have hk1 : ((s.size : Int) == (s.size : Int)) = true := by simp
        go_wp2_with (first | (at_builtin; refine wpList_append_str rfl _ _ rfl w.heap.size _ acc rfl hown _ _ (extract_bsz s fr s.size) rfl hal' hbs ?_; intro a5 c5 w5 hown5 hgr5))
        have hb5 : Below w.heap.size w w5 := (hbel.alloc hbs _).grown hgr5 (by simp; omega) (fun j hj => (own_ge hown hj).1)
        go_roundw
        case rel => exact ⟨s.size + 1, s.size + 1, _, by omega, by go_num, by go_num, hown5, by rw [List.length_append]; simp; omega, .inr ⟨rfl, HC2.out⟩, hb5⟩
        case measure => simp only [intOf]; omega
    · have HE : Hid (acc = cutL (10 : UInt8) s.data.toList) := by
        rcases HC.out with h | h
        · omega
        · exact h.2
      go_wp2_with fail
      go_ret
      exact ⟨_, _, _, rfl, by rw [← HE.out]; exact hown, hbel⟩
theorem SOwn.cells {w : World} {base : Nat} {v : Value} {ss : List (List UInt8)} (h : SOwn w base v ss) (hne : 0 < ss.length) : ∃ g cap, v = .slice (some ⟨g, 0, none⟩) ss.length cap ∧ g < w.heap.size ∧ base ≤ g ∧ ∀ j (hj : j < ss.length), w.cell? ⟨g, j, none⟩ = some (.string (bsz ss[j])) := by
  rcases h.2 with ⟨_, h0⟩ | ⟨g, cap, cur, hv, hb, hg, hc, hm, hs, ht⟩
  · omega
  · refine ⟨g, cap, hv, (Array.getElem?_eq_some_iff.1 hg).1, hb, fun j hj => ?_⟩
    have hu : (ss.map fun l => Value.string (bsz l))[j]? = some (.string (bsz ss[j])) := by simp [hj]
    rw [← ht] at hu
    have hj2 := (List.getElem?_eq_some_iff.1 hu).1
    rw [List.getElem?_take_of_lt (by rw [List.length_take] at hj2; omega)] at hu
    simp only [World.cell?, hg]
    simpa using hu
theorem append_empty_els (w : World) (ty : TypeId) (ba : Option Addr) (n c : Nat) (hle : n ≤ c) (pa : Option Addr) (pc : Nat) : (Builtin.append_ #[35, 35] ty #[.slice ba n c, .slice pa 0 pc]).run Tryd.prog w = .ok (.slice ba n c) w := by
  obtain ⟨i, hi, hz, hsz, hby⟩ := info_parts info49
  cases pa with
  | none => exact run_append_nothing (P := Tryd.prog) w 35 35 ty 49 i Tryd.underlying35 hi ba n c hle _ (Src.ofNil w Tryd.underlying35 pc)
  | some ad => exact run_append_nothing (P := Tryd.prog) w 35 35 ty 49 i Tryd.underlying35 hi ba n c hle _ (Src.ofSlice w Tryd.underlying35 ad 0 pc [] (by simp) (by simp) (by simp))
theorem EOwn.cap {w : World} {base : Nat} {v : Value} {l : List El} (h : EOwn w base v l) : ∃ a c, v = .slice a l.length c ∧ l.length ≤ c := by
  rcases h.2 with ⟨rfl, h0⟩ | ⟨g, cap, cur, rfl, _, _, h1, _⟩
  · exact ⟨none, 0, by rw [h0], by omega⟩
  · exact ⟨_, cap, rfl, h1⟩
/-- An append of any list of elements to a list that the call owns. -/
theorem wpList_append_els {w : World} {ops : Array Oper} {rest : List Oper} {o : Oper} {a : Act} {Q : Exit → Act → World → Prop} (hgd : o.guard = none) (s x : Operand)
    (ho : o.op = .call { callee := .builtin .append, args := #[s, x], argTypes := #[35, 35] })
    (base : Nat) (v : Value) (zs : List El) (hs : a.eval s = v) (hown : EOwn w base v zs) (ys : List El) (n₀ : Nat) (vx : Value) (hx : a.eval x = vx) (hin : Els n₀ w vx ys) (hlen : zs.length + ys.length ≤ 4000000000000) (hbase : base ≤ w.heap.size)
    (h : ∀ a' c' w', EOwn w' base (.slice a' (zs.length + ys.length) c') (zs ++ ys) → Below base w w' → w.grownBy w' v.ownBlock → wpList Tryd.prog ops Q rest (a.put o.dst (.slice a' (zs.length + ys.length) c')) w') :
    wpList Tryd.prog ops Q (o :: rest) a w := by
  by_cases hy : ys = []
  · subst hy
    obtain ⟨pa, pc, rfl⟩ : ∃ pa pc, vx = .slice pa 0 pc := by
      obtain ⟨a, c, e⟩ := hin.val
      exact ⟨a, c, e⟩
    obtain ⟨ba, c, hv, hle⟩ := hown.cap
    have hr := append_empty_els w o.type ba zs.length c hle pa pc
    refine wpList_plain hgd fun K hK => ?_
    unfold Oper.wp execOp
    simp only [ho, resolve, invoke, builtin, Sem.run_bind, Sem.run_pure, Result.andThen_ok, List.map_toArray, List.map_cons, List.map_nil, hs, hx, hv, hr]
    subst hv
    exact hK _ _ (h ba c w (by rw [List.append_nil]; exact hown) (Below.refl _ _) ⟨rfl, rfl, rfl, Nat.le_refl _, fun _ _ _ => rfl⟩)
  · obtain ⟨b, off, c, rfl⟩ : ∃ b off c, vx = .slice (some ⟨b, off, none⟩) ys.length c := by
      rcases hin with ⟨_, _, _, e⟩ | ⟨b, off, c, e, hb, hc⟩
      · exact absurd e hy
      · exact ⟨b, off, c, e⟩
    obtain ⟨i, hi, hz, hsz, hby⟩ := info_parts info49
    refine wpList_append_own_at (P := Tryd.prog) _ hgd s x 35 ho base 49 i _ 4 32 Tryd.underlying35 hi hz hsz hby rfl (by decide) v zs.length (elsV zs) hs hown ⟨b, off, none⟩ ys.length c (elsV ys) hx (by rw [elsV_len]) ?_ (elsV_one ys) ?_ ?_ hbase ?_
    · intro j u hu
      rw [show (⟨b, off, none⟩ : Addr).add j = ⟨b, off + j, none⟩ by simp [Addr.add]]
      exact els_flat hin j u hu
    · unfold maxLen; omega
    · omega
    · intro v' w' h1 h2 _ _
      have h4 : EOwn w' base v' (zs ++ ys) := by unfold EOwn; rw [elsV_append, List.length_append]; exact h1
      obtain ⟨a', c', hv, _⟩ := h4.cap
      rw [List.length_append] at hv
      subst hv
      exact h a' c' w' h4 ((Below.refl _ w).grown h2 hbase (fun j hj => (own_ge hown hj).1)) h2
end Go.Proofs.YtfeppbiodbhpcaaDoor
