/- What dovetailref04.Cut and Lines do (contracts; nothing is claimed here). -/
import Derived.Test.YtadbkkakjekopaaDoorRefL
namespace Go.Proofs.YtadbkkakjekopaaDoor
open Go.RowKit Go.Vf Go.Maps

theorem info9 : (Tryd.prog.info? 9).map (fun i => (i.zero, i.size, i.bytes)) = some (some (.string ⟨#[]⟩), 1, 16) := by kernel_rfl
/-- A list of texts that a call owns. -/
def SOwn (w : World) (base : Nat) (v : Value) (ss : List (List UInt8)) : Prop := w.ownsRow base 9 1 v ss.length (ss.map fun l => Value.string (bsz l))
theorem SOwn.nil (w : World) (base : Nat) : SOwn w base (.slice none 0 0) [] := World.ownsRow_nil _ _ _ _

theorem wpList_append_str {w : World} {ops : Array Oper} {rest : List Oper} {o : Oper} {a : Act} {Q : Exit → Act → World → Prop} (hgd : o.guard = none) (s x : Operand)
    (ho : o.op = .call { callee := .builtin .append, args := #[s, x], argTypes := #[57, 57] })
    (base : Nat) (v : Value) (ss : List (List UInt8)) (hs : a.eval s = v) (hown : SOwn w base v ss) (t : ByteArray) (l : List UInt8) (ht : t = bsz l) (hx : a.eval x = .slice (some ⟨w.heap.size, 0, none⟩) 1 1)
    (hlen : ss.length ≤ 1099511627) (hbase : base ≤ w.heap.size)
    (h : ∀ a' c' w', SOwn w' base (.slice a' (ss.length + 1) c') (ss ++ [l]) → (w.alloc (.cells #[.string t] 9)).grownBy w' v.ownBlock → wpList Tryd.prog ops Q rest (a.put o.dst (.slice a' (ss.length + 1) c')) w') :
    wpList Tryd.prog ops Q (o :: rest) a (w.alloc (.cells #[.string t] 9)) := by
  subst ht
  obtain ⟨i, hi, hz, hsz, hby⟩ := info_parts info9
  have hb := Blk.new w 9 #[.string (bsz l)]
  refine wpList_append_own_at (P := Tryd.prog) _ hgd s x 57 ho base 9 i _ 1 16 Tryd.underlying57 hi hz hsz hby rfl (by decide) v ss.length (ss.map fun l => Value.string (bsz l)) hs (World.ownsRow.alloc hown _) ⟨w.heap.size, 0, none⟩ 1 1 [.string (bsz l)] hx (by rfl) ?_ ?_ ?_ ?_ ?_ ?_
  · intro j u hu
    match j, hu with
    | 0, hu => simp at hu; subst hu; exact hb.cell 0
  · intro u hu; simp at hu; subst hu; rfl
  · unfold maxLen; omega
  · omega
  · simp; omega
  · intro v' w' h1 h2 _ _
    obtain ⟨a', c', rfl⟩ := row_val h1
    exact h a' c' w' (by unfold SOwn; rw [List.length_append, List.map_append]; exact h1) h2

theorem extract_bsz (s : ByteArray) (a b : Nat) : s.extract a b = bsz ((s.data.toList.drop a).take (b - a)) := by
  apply ByteArray.ext
  apply Array.ext'
  simp [ByteArray.data_extract, List.extract_eq_take_drop]

/-- What is left to be cut. -/
structure CutAt (c : UInt8) (l : List UInt8) (fr k : Nat) (acc : List (List UInt8)) : Prop where
  le : fr ≤ k
  no : ∀ x ∈ (l.drop fr).take (k - fr), x ≠ c
  eq : acc ++ cutL c (l.drop fr) = cutL c l
theorem CutAt.step {c : UInt8} {l : List UInt8} {fr k : Nat} {acc : List (List UInt8)} (h : CutAt c l fr k acc) (hk : k < l.length) (hne : l[k] ≠ c) : CutAt c l fr (k + 1) acc := by
  refine ⟨by have := h.le; omega, fun x hx => ?_, h.eq⟩
  have hle := h.le
  have e : (l.drop fr).take (k + 1 - fr) = (l.drop fr).take (k - fr) ++ [l[k]] := by
    rw [show k + 1 - fr = (k - fr) + 1 by omega, List.take_succ_eq_append_getElem (by rw [List.length_drop]; omega), List.getElem_drop]
    congr 2
    congr 1
    omega
  rw [e] at hx
  rcases List.mem_append.1 hx with hx | hx
  · exact h.no x hx
  · simp at hx; subst hx; exact hne
theorem CutAt.cut {c : UInt8} {l : List UInt8} {fr k : Nat} {acc : List (List UInt8)} (h : CutAt c l fr k acc) (hk : k < l.length) (he : l[k] = c) : CutAt c l (k + 1) (k + 1) (acc ++ [(l.drop fr).take (k - fr)]) := by
  have hle := h.le
  refine ⟨Nat.le_refl _, fun x hx => by simp at hx, ?_⟩
  have e : l.drop fr = (l.drop fr).take (k - fr) ++ c :: l.drop (k + 1) := by
    conv => lhs; rw [← List.take_append_drop (k - fr) (l.drop fr)]
    rw [List.drop_drop, show fr + (k - fr) = k by omega, List.drop_eq_getElem_cons hk, he]
  have e2 := h.eq
  rw [e, cutL_split c _ _ h.no] at e2
  rw [← e2]
  simp
theorem CutAt.last {c : UInt8} {l : List UInt8} {fr : Nat} {acc : List (List UInt8)} (h : CutAt c l fr l.length acc) : acc ++ [(l.drop fr).take (l.length - fr)] = cutL c l := by
  have e : (l.drop fr).take (l.length - fr) = l.drop fr := List.take_of_length_le (by rw [List.length_drop]; omega)
  have h1 := h.no
  rw [e] at h1
  rw [e, ← h.eq, cutL_plain c _ h1]
theorem CutAt.acc {c : UInt8} {l : List UInt8} {fr k : Nat} {acc : List (List UInt8)} (h : CutAt c l fr k acc) : acc.length ≤ l.length + 1 := by
  have := congrArg List.length h.eq
  rw [List.length_append] at this
  have h2 := cutL_len_le c l
  omega

set_option maxHeartbeats 4000000 in
set_option maxRecDepth 20000 in
theorem refCut_any (s : ByteArray) (c : UInt8) (hs : s.size ≤ 65536) (w : World) : Calls Tryd.prog 45 #[.string s, .int .u8 (c.toNat : Int)] w fun e w' => ∃ a k cap, e = .returned (.slice a k cap) ∧ SOwn w' w.heap.size (.slice a k cap) (cutL c s.data.toList) ∧ Below w.heap.size w w' := by
  have HSL : Hid (s.data.toList.length = s.size) := (Lib.size_eq s).symm
  go_enter Tryd.func45, Tryd.ntmps45
  go_wp2_with fail
  go_loopw [5, 6, 7] (fun v x i wr => ∃ (k fr : Nat) (acc : List (List UInt8)), k ≤ s.size + 1 ∧ i = .int .i64 k ∧ x = .int .i64 fr ∧ SOwn wr w.heap.size v acc ∧ acc.length ≤ 65540 ∧ Hid ((k ≤ s.size ∧ CutAt c s.data.toList fr k acc) ∨ (k = s.size + 1 ∧ acc = cutL c s.data.toList)) ∧ Below w.heap.size w wr) (fun _ _ i _ => s.size + 1 - (intOf i).toNat)
  case atStart => exact ⟨0, 0, [], by omega, rfl, rfl, SOwn.nil _ _, by simp, .inl ⟨by omega, Nat.le_refl _, by simp, by simp⟩, Below.refl _ _⟩
  case round =>
    obtain ⟨k, fr, acc, hk, rfl, rfl, hown, hal, HC, hbel⟩ := hrel
    obtain ⟨av, cv, rfl⟩ := row_val hown
    have hbs := hbel.size
    have hal' : acc.length ≤ 1099511627 := by omega
    by_cases hle : k ≤ s.size
    · have HCA : Hid (CutAt c s.data.toList fr k acc) := by
        rcases HC.out with h | h
        · exact h.2
        · omega
      have hfk := HCA.out.le
      clear HC
      by_cases hlt : k < s.size
      · have hltl : k < s.data.toList.length := by rw [HSL.out]; exact hlt
        have hsk : s.data.toList[k] = s[k] := rfl
        have hk1 : ((k : Int) == (s.size : Int)) = false := by simp; omega
        have h256 : (s[k]).toNat < 256 := (s[k]).toNat_lt
        by_cases hc : s[k] = c
        · have ht : ((s[k].toNat : Int) == (c.toNat : Int)) = true := by rw [hc]; simp
          have HC2 : Hid (CutAt c s.data.toList (k + 1) (k + 1) (acc ++ [(s.data.toList.drop fr).take (k - fr)])) := HCA.out.cut hltl (by rw [hsk]; exact hc)
          have hacc := HC2.out.acc
          rw [HSL.out] at hacc
          clear hc hsk
          go_wp2_with (first | (at_builtin; refine wpList_append_str rfl _ _ rfl w.heap.size _ acc rfl hown _ _ (extract_bsz s fr k) rfl hal' hbs ?_; intro a5 c5 w5 hown5 hgr5))
          have hb5 : Below w.heap.size w w5 := (hbel.alloc hbs _).grown hgr5 (by simp; omega) (fun j hj => (own_ge hown hj).1)
          go_roundw
          case rel => exact ⟨k + 1, k + 1, _, by omega, by go_num, by go_num, hown5, by omega, .inl ⟨by omega, HC2.out⟩, hb5⟩
          case measure => simp only [intOf]; omega
        · have ht : ((s[k].toNat : Int) == (c.toNat : Int)) = false := by
            rw [beq_eq_false_iff_ne]
            intro e
            exact hc (UInt8.toNat_inj.1 (by omega))
          have HC2 : Hid (CutAt c s.data.toList fr (k + 1) acc) := HCA.out.step hltl (by rw [hsk]; exact hc)
          clear hc hsk
          go_wp2_with fail
          go_roundw
          case rel => exact ⟨k + 1, fr, acc, by omega, by go_num, rfl, hown, hal, .inl ⟨by omega, HC2.out⟩, hbel⟩
          case measure => simp only [intOf]; omega
      · obtain rfl : k = s.size := by omega
        have hacc := HCA.out.acc
        rw [HSL.out] at hacc
        have HC2 : Hid (acc ++ [(s.data.toList.drop fr).take (s.size - fr)] = cutL c s.data.toList) := by
          have h := HCA.out
          rw [← HSL.out] at h
          have := h.last
          rwa [HSL.out] at this
        have hk1 : ((s.size : Int) == (s.size : Int)) = true := by simp
        go_wp2_with (first | (at_builtin; refine wpList_append_str rfl _ _ rfl w.heap.size _ acc rfl hown _ _ (extract_bsz s fr s.size) rfl hal' hbs ?_; intro a5 c5 w5 hown5 hgr5))
        have hb5 : Below w.heap.size w w5 := (hbel.alloc hbs _).grown hgr5 (by simp; omega) (fun j hj => (own_ge hown hj).1)
        go_roundw
        case rel => exact ⟨s.size + 1, s.size + 1, _, by omega, by go_num, by go_num, hown5, by rw [List.length_append]; simp; omega, .inr ⟨rfl, HC2.out⟩, hb5⟩
        case measure => simp only [intOf]; omega
    · have HE : Hid (acc = cutL c s.data.toList) := by
        rcases HC.out with h | h
        · omega
        · exact h.2
      go_wp2_with fail
      go_ret
      exact ⟨_, _, _, rfl, by rw [← HE.out]; exact hown, hbel⟩

set_option maxHeartbeats 4000000 in
set_option maxRecDepth 20000 in
theorem refLines_any (s : ByteArray) (hs : s.size ≤ 65536) (w : World) : Calls Tryd.prog 26 #[.string s] w fun e w' => ∃ a k cap, e = .returned (.slice a k cap) ∧ SOwn w' w.heap.size (.slice a k cap) (cutL (10 : UInt8) s.data.toList) ∧ Below w.heap.size w w' := by
  have HSL : Hid (s.data.toList.length = s.size) := (Lib.size_eq s).symm
  go_enter Tryd.func26, Tryd.ntmps26
  go_wp2_with fail
  go_loopw [3, 4, 5] (fun v x i wr => ∃ (k fr : Nat) (acc : List (List UInt8)), k ≤ s.size + 1 ∧ i = .int .i64 k ∧ x = .int .i64 fr ∧ SOwn wr w.heap.size v acc ∧ acc.length ≤ 65540 ∧ Hid ((k ≤ s.size ∧ CutAt (10 : UInt8) s.data.toList fr k acc) ∨ (k = s.size + 1 ∧ acc = cutL (10 : UInt8) s.data.toList)) ∧ Below w.heap.size w wr) (fun _ _ i _ => s.size + 1 - (intOf i).toNat)
  case atStart => exact ⟨0, 0, [], by omega, rfl, rfl, SOwn.nil _ _, by simp, .inl ⟨by omega, Nat.le_refl _, by simp, by simp⟩, Below.refl _ _⟩
  case round =>
    obtain ⟨k, fr, acc, hk, rfl, rfl, hown, hal, HC, hbel⟩ := hrel
    obtain ⟨av, cv, rfl⟩ := row_val hown
    have hbs := hbel.size
    have hal' : acc.length ≤ 1099511627 := by omega
    by_cases hle : k ≤ s.size
    · have HCA : Hid (CutAt (10 : UInt8) s.data.toList fr k acc) := by
        rcases HC.out with h | h
        · exact h.2
        · omega
      have hfk := HCA.out.le
      clear HC
      by_cases hlt : k < s.size
      · have hltl : k < s.data.toList.length := by rw [HSL.out]; exact hlt
        have hsk : s.data.toList[k] = s[k] := rfl
        have hk1 : ((k : Int) == (s.size : Int)) = false := by simp; omega
        have h256 : (s[k]).toNat < 256 := (s[k]).toNat_lt
        by_cases hc : s[k] = (10 : UInt8)
        · have ht : ((s[k].toNat : Int) == 10) = true := by rw [hc]; simp
          have HC2 : Hid (CutAt (10 : UInt8) s.data.toList (k + 1) (k + 1) (acc ++ [(s.data.toList.drop fr).take (k - fr)])) := HCA.out.cut hltl (by rw [hsk]; exact hc)
          have hacc := HC2.out.acc
          rw [HSL.out] at hacc
          clear hc hsk
          go_wp2_with (first | (at_builtin; refine wpList_append_str rfl _ _ rfl w.heap.size _ acc rfl hown _ _ (extract_bsz s fr k) rfl hal' hbs ?_; intro a5 c5 w5 hown5 hgr5))
          have hb5 : Below w.heap.size w w5 := (hbel.alloc hbs _).grown hgr5 (by simp; omega) (fun j hj => (own_ge hown hj).1)
          go_roundw
          case rel => exact ⟨k + 1, k + 1, _, by omega, by go_num, by go_num, hown5, by omega, .inl ⟨by omega, HC2.out⟩, hb5⟩
          case measure => simp only [intOf]; omega
        · have ht : ((s[k].toNat : Int) == 10) = false := by
            rw [beq_eq_false_iff_ne]
            intro e
            exact hc (UInt8.toNat_inj.1 (by have : ((10 : UInt8).toNat) = 10 := rfl; omega))
          have HC2 : Hid (CutAt (10 : UInt8) s.data.toList fr (k + 1) acc) := HCA.out.step hltl (by rw [hsk]; exact hc)
          clear hc hsk
          go_wp2_with fail
          go_roundw
          case rel => exact ⟨k + 1, fr, acc, by omega, by go_num, rfl, hown, hal, .inl ⟨by omega, HC2.out⟩, hbel⟩
          case measure => simp only [intOf]; omega
      · obtain rfl : k = s.size := by omega
        have hacc := HCA.out.acc
        rw [HSL.out] at hacc
        have HC2 : Hid (acc ++ [(s.data.toList.drop fr).take (s.size - fr)] = cutL (10 : UInt8) s.data.toList) := by
          have h := HCA.out
          rw [← HSL.out] at h
          have := h.last
          rwa [HSL.out] at this
        have hk1 : ((s.size : Int) == (s.size : Int)) = true := by simp
        go_wp2_with (first | (at_builtin; refine wpList_append_str rfl _ _ rfl w.heap.size _ acc rfl hown _ _ (extract_bsz s fr s.size) rfl hal' hbs ?_; intro a5 c5 w5 hown5 hgr5))
        have hb5 : Below w.heap.size w w5 := (hbel.alloc hbs _).grown hgr5 (by simp; omega) (fun j hj => (own_ge hown hj).1)
        go_roundw
        case rel => exact ⟨s.size + 1, s.size + 1, _, by omega, by go_num, by go_num, hown5, by rw [List.length_append]; simp; omega, .inr ⟨rfl, HC2.out⟩, hb5⟩
        case measure => simp only [intOf]; omega
    · have HE : Hid (acc = cutL (10 : UInt8) s.data.toList) := by
        rcases HC.out with h | h
        · omega
        · exact h.2
      go_wp2_with fail
      go_ret
      exact ⟨_, _, _, rfl, by rw [← HE.out]; exact hown, hbel⟩

end Go.Proofs.YtadbkkakjekopaaDoor
