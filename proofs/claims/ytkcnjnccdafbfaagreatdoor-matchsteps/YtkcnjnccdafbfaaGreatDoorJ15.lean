/- Contracts and lemmas (nothing is claimed here). -/
import Derived.Test.YtkcnjnccdafbfaaGreatDoorJ14
namespace Go.Proofs.YtkcnjnccdafbfaaGreatDoor
open Go.RowKit Go.Vf Go.Maps
theorem results71_runr {tmps : Array Value} {w : World} {a b : Value} (t2 : tmps[2]?.getD undef = a) (t3 : tmps[3]?.getD undef = b) : (results Tryz.f65 tmps).run Tryz.prog w = .ok (.tuple #[a, b]) w := by
 simp [results, Tryz.results65, go_sem, t2, t3]
theorem results53_runr {tmps : Array Value} {w : World} {a b : Value} (t2 : tmps[2]?.getD undef = a) (t3 : tmps[3]?.getD undef = b) : (results Tryz.f61 tmps).run Tryz.prog w = .ok (.tuple #[a, b]) w := by
 simp [results, Tryz.results61, go_sem, t2, t3]
theorem results54_run {tmps : Array Value} {w : World} {a b : Value} (t2 : tmps[2]?.getD undef = a) (t3 : tmps[3]?.getD undef = b) : (results Tryz.f62 tmps).run Tryz.prog w = .ok (.tuple #[a, b]) w := by
 simp [results, Tryz.results62, go_sem, t2, t3]
theorem pointS_inj {a b : Nat} (h : pointS a = pointS b) : a = b := by
 have e : ∀ u, numB hexV 16 (pointS u) 0 = some u := fun u => by
  rw [pointS_pad, numB_pad, Nat.mod_eq_of_lt (Nat.lt_of_lt_of_le (upHex_lt u _ (Nat.le_refl _)) (Nat.pow_le_pow_right (by omega) (by omega)))]
  simp
 have h1 := e a
 rw [h, e b] at h1
 simpa using h1.symm
def NumOf (l : List UInt8) (x : Int) (b : Bool) : Prop := (b = true ∧ ∃ n : Nat, x = (n : Int) ∧ n < 16 ^ 6 ∧ l = pointS n) ∨ (b = false ∧ pointR l = none)
theorem NumOf.bad {l : List UInt8} (h : ¬ (4 ≤ l.length ∧ l.length ≤ 6) ∨ numB hexV 16 l 0 = none) : NumOf l 0 false := by
 refine .inr ⟨rfl, ?_⟩
 unfold pointR
 split
 ·
  rename_i hs
  rcases h with h | h
  ·
   exact absurd ⟨by omega, by omega⟩ h
  ·
   rw [h]
 ·
  rfl
theorem NumOf.done {l : List UInt8} {n : Nat} (h : numB hexV 16 l 0 = some n) (hn : n < 16 ^ 6) : NumOf l (n : Int) (decide (pointS n = l)) := by
 by_cases e : pointS n = l
 ·
  exact .inl ⟨by simp [e], n, rfl, hn, e.symm⟩
 ·
  refine .inr ⟨by simp [e], ?_⟩
  cases hp : pointR l with
  | none => rfl
  | some p =>
   exfalso
   obtain ⟨u, _, hu, _, hs⟩ := pointS_pointR hp
   have h1 : numB hexV 16 (pointS u) 0 = some u := by
    rw [pointS_pad, numB_pad, Nat.mod_eq_of_lt (Nat.lt_of_lt_of_le (upHex_lt u _ (Nat.le_refl _)) (Nat.pow_le_pow_right (by omega) (by omega)))]
    simp
   rw [← hs, h] at h1
   have : n = u := by simpa using h1
   subst this
   exact e hs.symm
def NumPost (l : List UInt8) (w : World) (e : Ending) (w' : World) : Prop := ∃ x b, e = .returned (.tuple #[.int .i64 x, .bool b]) ∧ NumOf l x b ∧ w = w'
theorem numB_at (s : ByteArray) (k : Nat) (hk : k < s.size) (m : Nat) : numB hexV 16 (s.data.toList.drop k) m = match hexV s[k] with
  | none => none
  | some d => numB hexV 16 (s.data.toList.drop (k + 1)) (m * 16 + d) := by
 rw [drop_at s k hk]
 rfl
set_option maxHeartbeats 2000000 in
set_option maxRecDepth 20000 in
theorem number_any (s : ByteArray) (hs : s.size ≤ 17179869184) (w : World) : Calls Tryz.prog 65 #[.string s] w fun e w' => NumPost s.data.toList w e w' := by
 have HSL : Hid (s.data.toList.length = s.size) := (Lib.size_eq s).symm
 by_cases h4 : s.size < 4
 ·
  have HB : Hid (NumOf s.data.toList 0 false) := NumOf.bad (.inl (by rw [HSL.out]; omega))
  go_enter Tryz.func65, Tryz.ntmps65
  go_wp2_with fail
  refine bodyPost_ret (results71_runr rfl rfl) rfl ?_
  exact ⟨0, false, rfl, HB.out, rfl⟩
 ·
  by_cases h6 : 6 < s.size
  ·
   have HB : Hid (NumOf s.data.toList 0 false) := NumOf.bad (.inl (by rw [HSL.out]; omega))
   go_enter Tryz.func65, Tryz.ntmps65
   go_wp2_with fail
   refine bodyPost_ret (results71_runr rfl rfl) rfl ?_
   exact ⟨0, false, rfl, HB.out, rfl⟩
  ·
   go_enter Tryz.func65, Tryz.ntmps65
   go_wp2_with fail
   go_loopw [4, 5, 6] (fun x i _ wr => ∃ (k m : Nat), k ≤ s.size ∧ i = .int .i64 k ∧ x = .int .i64 (m : Int) ∧ m < 16777216 ∧ Hid (m < 16 ^ k ∧ numB hexV 16 (s.data.toList.drop k) m = numB hexV 16 s.data.toList 0) ∧ wr = w) (fun _ i _ _ => s.size - (intOf i).toNat)
   case atStart => exact ⟨0, 0, by omega, rfl, rfl, by omega, ⟨by simp, by simp⟩, rfl⟩
   case round =>
    obtain ⟨k, m, hk, rfl, rfl, hm, HM, rfl⟩ := hrel
    by_cases hlt : k < s.size
    ·
     have hstep := numB_at s k hlt m
     have hm6 : m * 16 + 15 < 16777216 := by
      have h1 := HM.out.1
      have h2 : 16 ^ k ≤ 16 ^ 5 := Nat.pow_le_pow_right (by omega) (by omega)
      omega
     have h256 : (s[k]).toNat < 256 := (s[k]).toNat_lt
     have HN : Hid (∀ d, hexV s[k] = some d → numB hexV 16 (s.data.toList.drop (k + 1)) (m * 16 + d) = numB hexV 16 s.data.toList 0) := fun d hd => by
      rw [← HM.out.2, hstep, hd]
     have HF : Hid (hexV s[k] = none → numB hexV 16 s.data.toList 0 = none) := fun hd => by
      rw [← HM.out.2, hstep, hd]
     have HP : Hid (∀ d, d < 16 → m * 16 + d < 16 ^ (k + 1)) := fun d hd => by
      have h1 := HM.out.1
      rw [Nat.pow_succ]; omega
     have hx : hexV s[k] = if 65 ≤ (s[k]).toNat ∧ (s[k]).toNat ≤ 70 then some ((s[k]).toNat - 55) else if 48 ≤ (s[k]).toNat ∧ (s[k]).toNat ≤ 57 then some ((s[k]).toNat - 48) else none := rfl
     have HX : Hid (hexV s[k] = if 65 ≤ (s[k]).toNat ∧ (s[k]).toNat ≤ 70 then some ((s[k]).toNat - 55) else if 48 ≤ (s[k]).toNat ∧ (s[k]).toNat ≤ 57 then some ((s[k]).toNat - 48) else none) := hx
     clear hstep hx HM
     by_cases hA : 65 ≤ (s[k]).toNat ∧ (s[k]).toNat ≤ 70
     ·
      obtain ⟨hA1, hA2⟩ := hA
      go_wp2_with fail
      exact ⟨⟨k + 1, m * 16 + ((s[k]).toNat - 55), by omega, by go_num, congrArg (Value.int .i64) (by omega), by omega, ⟨HP.out _ (by omega), HN.out _ (by rw [HX.out, if_pos ⟨hA1, hA2⟩])⟩, trivial⟩, by simp only [intOf]; omega⟩
     ·
      by_cases hB : 48 ≤ (s[k]).toNat ∧ (s[k]).toNat ≤ 57
      ·
       obtain ⟨hB1, hB2⟩ := hB
       have HXB : Hid (hexV s[k] = some ((s[k]).toNat - 48)) := by show _ = _; rw [HX.out, if_neg hA, if_pos ⟨hB1, hB2⟩]
       have hA' : ¬ 65 ≤ (s[k]).toNat := by omega
       clear hA
       go_wp2_with fail
       exact ⟨⟨k + 1, m * 16 + ((s[k]).toNat - 48), by omega, by go_num, congrArg (Value.int .i64) (by omega), by omega, ⟨HP.out _ (by omega), HN.out _ HXB.out⟩, trivial⟩, by simp only [intOf]; omega⟩
      ·
       have HB : Hid (NumOf s.data.toList 0 false) := NumOf.bad (.inr (HF.out (by rw [HX.out, if_neg hA, if_neg hB])))
       clear HX HN HF HP
       by_cases h1 : (s[k]).toNat < 48
       ·
        clear hA hB
        go_wp2_with fail
        refine bodyPost_ret (results71_runr rfl rfl) rfl ?_
        exact ⟨0, false, rfl, HB.out, rfl⟩
       ·
        by_cases h2 : 70 < (s[k]).toNat
        ·
         clear hA hB
         go_wp2_with fail
         refine bodyPost_ret (results71_runr rfl rfl) rfl ?_
         exact ⟨0, false, rfl, HB.out, rfl⟩
        ·
         have h3 : 57 < (s[k]).toNat ∧ (s[k]).toNat < 65 := by omega
         obtain ⟨h3a, h3b⟩ := h3
         clear hA hB
         by_cases h4' : 64 ≤ (s[k]).toNat
         ·
          skip
          go_wp2_with fail
          refine bodyPost_ret (results71_runr rfl rfl) rfl ?_
          exact ⟨0, false, rfl, HB.out, rfl⟩
         ·
          have h5 : (s[k]).toNat ≤ 63 := by omega
          go_wp2_with fail
          refine bodyPost_ret (results71_runr rfl rfl) rfl ?_
          exact ⟨0, false, rfl, HB.out, rfl⟩
    ·
     obtain rfl : k = s.size := by omega
     have HNB : Hid (numB hexV 16 s.data.toList 0 = some m) := by
      show _ = _
      rw [← HM.out.2, drop_end s s.size (Nat.le_refl _)]
      rfl
     have hdm := digits_any m (by omega) wr
     have HD : Hid (NumOf s.data.toList (m : Int) (decide (pointS m = s.data.toList))) := NumOf.done HNB.out (by omega)
     go_wp2_with fail
     refine hdm.mono ?_
     rintro e w1 ⟨rfl, rfl⟩
     go_wp2_with fail
     refine bodyPost_ret (results71_runr rfl rfl) rfl ?_
     have e1 : (pointS m == s.toList) = decide (pointS m = s.data.toList) := by rw [ByteArray.toList_eq]; exact Bool.eq_iff_iff.2 (by simp)
     exact ⟨m, decide (pointS m = s.data.toList), by rw [← e1]; rfl, HD.out, rfl⟩
def PartPost (l : List UInt8) (w : World) (e : Ending) (w' : World) : Prop := ∃ x b, e = .returned (.tuple #[.int .i64 x, .bool b]) ∧ ((b = true ∧ pointR l = some x) ∨ (b = false ∧ pointR l = none)) ∧ w = w'
set_option maxHeartbeats 2000000 in
set_option maxRecDepth 20000 in
theorem part_any (s : ByteArray) (hs : s.size ≤ 17179869184) (w : World) : Calls Tryz.prog 61 #[.string s] w fun e w' => PartPost s.data.toList w e w' := by
 go_enter Tryz.func61, Tryz.ntmps61
 go_wp2_with fail
 refine (number_any s hs w).mono ?_
 rintro e w1 ⟨x, b, rfl, hnum, rfl⟩
 rcases hnum with ⟨rfl, n, rfl, hn, hl⟩ | ⟨rfl, hno⟩
 ·
  have HL : Hid (s.data.toList = pointS n) := hl
  clear hl
  have hP := isPoint_anyr (n : Int) w
  have hS := syllable_any (n : Int) w
  cases g1 : isPt (n : Int) with
  | false =>
   rw [g1] at hP
   have HN : Hid (pointR s.data.toList = none) := by
    show _ = _
    cases hp : pointR s.data.toList with
    | none => rfl
    | some p =>
     exfalso
     obtain ⟨u, _, _, hm, hs'⟩ := pointS_pointR hp
     have := pointS_inj (HL.out.symm.trans hs')
     subst this
     rw [mayB_eq, g1] at hm
     simp at hm
   go_wp2_with fail
   refine hP.mono ?_
   rintro e w2 ⟨rfl, rfl⟩
   go_wp2_with fail
   refine bodyPost_ret (results53_runr rfl rfl) rfl ?_
   exact ⟨n, false, rfl, .inr ⟨rfl, HN.out⟩, rfl⟩
  | true =>
   rw [g1] at hP
   cases g2 : isSyl (n : Int) with
   | true =>
    rw [g2] at hS
    have HN : Hid (pointR s.data.toList = none) := by
     show _ = _
     cases hp : pointR s.data.toList with
     | none => rfl
     | some p =>
      exfalso
      obtain ⟨u, _, _, hm, hs'⟩ := pointS_pointR hp
      have := pointS_inj (HL.out.symm.trans hs')
      subst this
      rw [mayB_eq, g2] at hm
      simp at hm
    go_wp2_with fail
    refine hP.mono ?_
    rintro e w2 ⟨rfl, rfl⟩
    go_wp2_with fail
    refine hS.mono ?_
    rintro e w2 ⟨rfl, rfl⟩
    go_wp2_with fail
    refine bodyPost_ret (results53_runr rfl rfl) rfl ?_
    exact ⟨n, false, rfl, .inr ⟨rfl, HN.out⟩, rfl⟩
   | false =>
    rw [g2] at hS
    have HY : Hid (pointR s.data.toList = some (n : Int)) := by
     show _ = _
     rw [HL.out]
     refine pointR_pointS ?_ (by rw [mayB_eq, g1, g2]; rfl)
     unfold isPt at g1
     simp at g1
     omega
    go_wp2_with fail
    refine hP.mono ?_
    rintro e w2 ⟨rfl, rfl⟩
    go_wp2_with fail
    refine hS.mono ?_
    rintro e w2 ⟨rfl, rfl⟩
    go_wp2_with fail
    refine bodyPost_ret (results53_runr rfl rfl) rfl ?_
    exact ⟨n, true, rfl, .inl ⟨rfl, HY.out⟩, rfl⟩
 ·
  have HN : Hid (pointR s.data.toList = none) := hno
  clear hno
  go_wp2_with fail
  refine bodyPost_ret (results53_runr rfl rfl) rfl ?_
  exact ⟨x, false, rfl, .inr ⟨rfl, HN.out⟩, rfl⟩
def ClassPost (l : List UInt8) (w : World) (e : Ending) (w' : World) : Prop := ∃ x b, e = .returned (.tuple #[.int .i64 x, .bool b]) ∧ ((b = true ∧ classR l = some x) ∨ (b = false ∧ classR l = none)) ∧ Below w.heap.size w w'
set_option maxHeartbeats 2000000 in
set_option maxRecDepth 20000 in
theorem refClass_any (s : ByteArray) (w : World) : Calls Tryz.prog 62 #[.string s] w fun e w' => ClassPost s.data.toList w e w' := by
 go_enter Tryz.func62, Tryz.ntmps62
 go_wp2_with fail
 go_loopw [4] (fun i wr => ∃ k : Nat, k ≤ 255 ∧ i = .int .i64 k ∧ Hid (∀ c, c < k → Lib.itoa (c : Int) ≠ s.data.toList) ∧ Below w.heap.size w wr) (fun i _ => 255 - (intOf i).toNat)
 case atStart => exact ⟨0, by omega, rfl, fun c hc => absurd hc (by omega), Below.refl _ _⟩
 case round =>
  obtain ⟨k, hk, rfl, HK, hbel⟩ := hrel
  by_cases hlt : k ≤ 254
  ·
   have ht := ten_any k hlt wr
   by_cases he : Lib.itoa (k : Int) = s.data.toList
   ·
    have HY : Hid (classR s.data.toList = some (k : Int)) := by
     show _ = _
     rw [← he]
     exact (classR_itoa hlt).1
    have heq : (Lib.itoa (k : Int) == s.toList) = true := by rw [ByteArray.toList_eq]; simp [he]
    clear he
    go_wp2_with fail
    refine ht.mono ?_
    rintro e w1 ⟨rfl, hb1⟩
    go_wp2_with fail
    refine bodyPost_ret (results54_run rfl rfl) rfl ?_
    exact ⟨k, true, rfl, .inl ⟨rfl, HY.out⟩, hbel.trans (hb1.mono hbel.size)⟩
   ·
    have heq : (Lib.itoa (k : Int) == s.toList) = false := by rw [ByteArray.toList_eq]; simp [he]
    have HK2 : Hid (∀ c, c < k + 1 → Lib.itoa (c : Int) ≠ s.data.toList) := fun c hc => by
     rcases Nat.lt_or_ge c k with h | h
     ·
      exact HK.out c h
     ·
      obtain rfl : c = k := by omega
      exact he
    clear he HK
    go_wp2_with fail
    refine ht.mono ?_
    rintro e w1 ⟨rfl, hb1⟩
    go_wp2_with fail
    go_roundw
    case rel => exact ⟨k + 1, by omega, by go_num, HK2, hbel.trans (hb1.mono hbel.size)⟩
    case measure => simp only [intOf]; omega
  ·
   have HN : Hid (classR s.data.toList = none) := by
    show _ = _
    cases hc : classR s.data.toList with
    | none => rfl
    | some x =>
     exfalso
     obtain ⟨c, _, hc2, hs⟩ := itoa_classR hc
     exact HK.out c (by omega) hs.symm
   go_wp2_with fail
   refine bodyPost_ret (results54_run rfl rfl) rfl ?_
   exact ⟨0, false, rfl, .inr ⟨rfl, HN.out⟩, hbel⟩
theorem silent_any (s : ByteArray) (w : World) : Calls Tryz.prog 25 #[.string s] w fun e w' => e = .returned (.bool (silentL s.data.toList)) ∧ w = w' := by
 by_cases hemp : s.data.toList = []
 ·
  have hemp' : s.toList.isEmpty = true := by rw [ByteArray.toList_eq, hemp]; rfl
  go_enter Tryz.func25, Tryz.ntmps25
  go_wp2_with fail
  go_ret
  exact ⟨by simp [silentL, hemp], rfl⟩
 ·
  have hemp' : s.toList.isEmpty = false := by rw [ByteArray.toList_eq]; simpa using hemp
  have hsz : 0 < s.size := by rw [Lib.size_eq]; exact List.length_pos_iff.2 hemp
  have hhd := head_at s hsz
  by_cases h35 : (s[0]).toNat = 35
  ·
   have h35' : (((s[0]).toNat : Int) == 35) = true := by simp [h35]
   go_enter Tryz.func25, Tryz.ntmps25
   go_wp2_with fail
   go_ret
   have e : s[0] = 35 := UInt8.toNat_inj.1 h35
   exact ⟨by simp [silentL, hhd, e], rfl⟩
  ·
   have h35' : (((s[0]).toNat : Int) == 35) = false := by simp; omega
   go_enter Tryz.func25, Tryz.ntmps25
   go_wp2_with fail
   go_ret
   have e : s[0] ≠ 35 := fun e => h35 (by rw [e]; rfl)
   exact ⟨by simp [silentL, hhd, e]; simpa using hemp, rfl⟩
theorem info9 : (Tryz.prog.info? 9).map (fun i => (i.zero, i.size, i.bytes)) = some (some (.string ⟨#[]⟩), 1, 16) := by kernel_rfl
def SOwn (w : World) (base : Nat) (v : Value) (ss : List (List UInt8)) : Prop := w.ownsRow base 9 1 v ss.length (ss.map fun l => Value.string (bsz l))
theorem SOwn.nil (w : World) (base : Nat) : SOwn w base (.slice none 0 0) [] := World.ownsRow_nil _ _ _ _
theorem wpList_append_str {w : World} {ops : Array Oper} {rest : List Oper} {o : Oper} {a : Act} {Q : Exit → Act → World → Prop} (hgd : o.guard = none) (s x : Operand)
    (ho : o.op = .call { callee := .builtin .append, args := #[s, x], argTypes := #[69, 69] })
    (base : Nat) (v : Value) (ss : List (List UInt8)) (hs : a.eval s = v) (hown : SOwn w base v ss) (t : ByteArray) (l : List UInt8) (ht : t = bsz l) (hx : a.eval x = .slice (some ⟨w.heap.size, 0, none⟩) 1 1)
    (hlen : ss.length ≤ 1099511627) (hbase : base ≤ w.heap.size)
    (h : ∀ a' c' w', SOwn w' base (.slice a' (ss.length + 1) c') (ss ++ [l]) → (w.alloc (.cells #[.string t] 9)).grownBy w' v.ownBlock → wpList Tryz.prog ops Q rest (a.put o.dst (.slice a' (ss.length + 1) c')) w') :
    wpList Tryz.prog ops Q (o :: rest) a (w.alloc (.cells #[.string t] 9)) := by
  subst ht
  obtain ⟨i, hi, hz, hsz, hby⟩ := info_parts info9
  have hb := Blk.new w 9 #[.string (bsz l)]
  refine wpList_append_own_at (P := Tryz.prog) _ hgd s x 69 ho base 9 i _ 1 16 Tryz.underlying69 hi hz hsz hby rfl (by decide) v ss.length (ss.map fun l => Value.string (bsz l)) hs (World.ownsRow.alloc hown _) ⟨w.heap.size, 0, none⟩ 1 1 [.string (bsz l)] hx (by rfl) ?_ ?_ ?_ ?_ ?_ ?_
  · intro j u hu
    match j, hu with
    | 0, hu => simp at hu; subst hu; exact hb.cell 0
  · intro u hu; simp at hu; subst hu; rfl
  · unfold maxLen; omega
  · omega
  · simp; omega
  · intro v' w' h1 h2 _ _
    obtain ⟨a', c', rfl⟩ := row_val h1
    exact h a' c' w' (by unfold SOwn; rw [List.length_append, List.map_append]; exact h1) h2
theorem extract_bsz (s : ByteArray) (a b : Nat) : s.extract a b = bsz ((s.data.toList.drop a).take (b - a)) := by
  apply ByteArray.ext
  apply Array.ext'
  simp [ByteArray.data_extract, List.extract_eq_take_drop]
structure CutAt (c : UInt8) (l : List UInt8) (fr k : Nat) (acc : List (List UInt8)) : Prop where
  le : fr ≤ k
  no : ∀ x ∈ (l.drop fr).take (k - fr), x ≠ c
  eq : acc ++ cutL c (l.drop fr) = cutL c l
theorem CutAt.step {c : UInt8} {l : List UInt8} {fr k : Nat} {acc : List (List UInt8)} (h : CutAt c l fr k acc) (hk : k < l.length) (hne : l[k] ≠ c) : CutAt c l fr (k + 1) acc := by
  refine ⟨by have := h.le; omega, fun x hx => ?_, h.eq⟩
  have hle := h.le
  have e : (l.drop fr).take (k + 1 - fr) = (l.drop fr).take (k - fr) ++ [l[k]] := by
    rw [show k + 1 - fr = (k - fr) + 1 by omega, List.take_succ_eq_append_getElem (by rw [List.length_drop]; omega), List.getElem_drop]
    congr 2
    congr 1
    omega
  rw [e] at hx
  rcases List.mem_append.1 hx with hx | hx
  · exact h.no x hx
  · simp at hx; subst hx; exact hne
theorem CutAt.cut {c : UInt8} {l : List UInt8} {fr k : Nat} {acc : List (List UInt8)} (h : CutAt c l fr k acc) (hk : k < l.length) (he : l[k] = c) : CutAt c l (k + 1) (k + 1) (acc ++ [(l.drop fr).take (k - fr)]) := by
  have hle := h.le
  refine ⟨Nat.le_refl _, fun x hx => by simp at hx, ?_⟩
  have e : l.drop fr = (l.drop fr).take (k - fr) ++ c :: l.drop (k + 1) := by
    conv => lhs; rw [← List.take_append_drop (k - fr) (l.drop fr)]
    rw [List.drop_drop, show fr + (k - fr) = k by omega, List.drop_eq_getElem_cons hk, he]
  have e2 := h.eq
  rw [e, cutL_split c _ _ h.no] at e2
  rw [← e2]
  simp
theorem CutAt.last {c : UInt8} {l : List UInt8} {fr : Nat} {acc : List (List UInt8)} (h : CutAt c l fr l.length acc) : acc ++ [(l.drop fr).take (l.length - fr)] = cutL c l := by
  have e : (l.drop fr).take (l.length - fr) = l.drop fr := List.take_of_length_le (by rw [List.length_drop]; omega)
  have h1 := h.no
  rw [e] at h1
  rw [e, ← h.eq, cutL_plain c _ h1]
theorem CutAt.acc {c : UInt8} {l : List UInt8} {fr k : Nat} {acc : List (List UInt8)} (h : CutAt c l fr k acc) : acc.length ≤ l.length + 1 := by
  have := congrArg List.length h.eq
  rw [List.length_append] at this
  have h2 := cutL_len_le c l
  omega
set_option maxHeartbeats 4000000 in
set_option maxRecDepth 20000 in
theorem refCut_any (s : ByteArray) (c : UInt8) (hs : s.size ≤ 65536) (w : World) : Calls Tryz.prog 60 #[.string s, .int .u8 (c.toNat : Int)] w fun e w' => ∃ a k cap, e = .returned (.slice a k cap) ∧ SOwn w' w.heap.size (.slice a k cap) (cutL c s.data.toList) ∧ Below w.heap.size w w' := by
  have HSL : Hid (s.data.toList.length = s.size) := (Lib.size_eq s).symm
  go_enter Tryz.func60, Tryz.ntmps60
  go_wp2_with fail
  go_loopw [5, 6, 7] (fun v x i wr => ∃ (k fr : Nat) (acc : List (List UInt8)), k ≤ s.size + 1 ∧ i = .int .i64 k ∧ x = .int .i64 fr ∧ SOwn wr w.heap.size v acc ∧ acc.length ≤ 65540 ∧ Hid ((k ≤ s.size ∧ CutAt c s.data.toList fr k acc) ∨ (k = s.size + 1 ∧ acc = cutL c s.data.toList)) ∧ Below w.heap.size w wr) (fun _ _ i _ => s.size + 1 - (intOf i).toNat)
  case atStart => exact ⟨0, 0, [], by omega, rfl, rfl, SOwn.nil _ _, by simp, .inl ⟨by omega, Nat.le_refl _, by simp, by simp⟩, Below.refl _ _⟩
  case round =>
    obtain ⟨k, fr, acc, hk, rfl, rfl, hown, hal, HC, hbel⟩ := hrel
    obtain ⟨av, cv, rfl⟩ := row_val hown
    have hbs := hbel.size
    have hal' : acc.length ≤ 1099511627 := by omega
    by_cases hle : k ≤ s.size
    · have HCA : Hid (CutAt c s.data.toList fr k acc) := by
        rcases HC.out with h | h
        · exact h.2
        · omega
      have hfk := HCA.out.le
      clear HC
      by_cases hlt : k < s.size
      · have hltl : k < s.data.toList.length := by rw [HSL.out]; exact hlt
        have hsk : s.data.toList[k] = s[k] := rfl
        have hk1 : ((k : Int) == (s.size : Int)) = false := by simp; omega
        have h256 : (s[k]).toNat < 256 := (s[k]).toNat_lt
        by_cases hc : s[k] = c
        · have ht : ((s[k].toNat : Int) == (c.toNat : Int)) = true := by rw [hc]; simp
          have HC2 : Hid (CutAt c s.data.toList (k + 1) (k + 1) (acc ++ [(s.data.toList.drop fr).take (k - fr)])) := HCA.out.cut hltl (by rw [hsk]; exact hc)
          have hacc := HC2.out.acc
          rw [HSL.out] at hacc
          clear hc hsk
          go_wp2_with (first | (at_builtin; refine wpList_append_str rfl _ _ rfl w.heap.size _ acc rfl hown _ _ (extract_bsz s fr k) rfl hal' hbs ?_; intro a5 c5 w5 hown5 hgr5))
          have hb5 : Below w.heap.size w w5 := (hbel.alloc hbs _).grown hgr5 (by simp; omega) (fun j hj => (own_ge hown hj).1)
          go_roundw
          case rel => exact ⟨k + 1, k + 1, _, by omega, by go_num, by go_num, hown5, by omega, .inl ⟨by omega, HC2.out⟩, hb5⟩
          case measure => simp only [intOf]; omega
        · have ht : ((s[k].toNat : Int) == (c.toNat : Int)) = false := by
            rw [beq_eq_false_iff_ne]
            intro e
            exact hc (UInt8.toNat_inj.1 (by omega))
          have HC2 : Hid (CutAt c s.data.toList fr (k + 1) acc) := HCA.out.step hltl (by rw [hsk]; exact hc)
          clear hc hsk
          go_wp2_with fail
          go_roundw
          case rel => exact ⟨k + 1, fr, acc, by omega, by go_num, rfl, hown, hal, .inl ⟨by omega, HC2.out⟩, hbel⟩
          case measure => simp only [intOf]; omega
      · obtain rfl : k = s.size := by omega
        have hacc := HCA.out.acc
        rw [HSL.out] at hacc
        have HC2 : Hid (acc ++ [(s.data.toList.drop fr).take (s.size - fr)] = cutL c s.data.toList) := by
          have h := HCA.out
          rw [← HSL.out] at h
          have := h.last
          rwa [HSL.out] at this
        have hk1 : ((s.size : Int) == (s.size : Int)) = true := by simp
        go_wp2_with (first | (at_builtin; refine wpList_append_str rfl _ _ rfl w.heap.size _ acc rfl hown _ _ (extract_bsz s fr s.size) rfl hal' hbs ?_; intro a5 c5 w5 hown5 hgr5))
        have hb5 : Below w.heap.size w w5 := (hbel.alloc hbs _).grown hgr5 (by simp; omega) (fun j hj => (own_ge hown hj).1)
        go_roundw
        case rel => exact ⟨s.size + 1, s.size + 1, _, by omega, by go_num, by go_num, hown5, by rw [List.length_append]; simp; omega, .inr ⟨rfl, HC2.out⟩, hb5⟩
        case measure => simp only [intOf]; omega
    · have HE : Hid (acc = cutL c s.data.toList) := by
        rcases HC.out with h | h
        · omega
        · exact h.2
      go_wp2_with fail
      go_ret
      exact ⟨_, _, _, rfl, by rw [← HE.out]; exact hown, hbel⟩
set_option maxHeartbeats 4000000 in
set_option maxRecDepth 20000 in
theorem refLines_any (s : ByteArray) (hs : s.size ≤ 65536) (w : World) : Calls Tryz.prog 24 #[.string s] w fun e w' => ∃ a k cap, e = .returned (.slice a k cap) ∧ SOwn w' w.heap.size (.slice a k cap) (cutL (10 : UInt8) s.data.toList) ∧ Below w.heap.size w w' := by
  have HSL : Hid (s.data.toList.length = s.size) := (Lib.size_eq s).symm
  go_enter Tryz.func24, Tryz.ntmps24
  go_wp2_with fail
  go_loopw [3, 4, 5] (fun v x i wr => ∃ (k fr : Nat) (acc : List (List UInt8)), k ≤ s.size + 1 ∧ i = .int .i64 k ∧ x = .int .i64 fr ∧ SOwn wr w.heap.size v acc ∧ acc.length ≤ 65540 ∧ Hid ((k ≤ s.size ∧ CutAt (10 : UInt8) s.data.toList fr k acc) ∨ (k = s.size + 1 ∧ acc = cutL (10 : UInt8) s.data.toList)) ∧ Below w.heap.size w wr) (fun _ _ i _ => s.size + 1 - (intOf i).toNat)
  case atStart => exact ⟨0, 0, [], by omega, rfl, rfl, SOwn.nil _ _, by simp, .inl ⟨by omega, Nat.le_refl _, by simp, by simp⟩, Below.refl _ _⟩
  case round =>
    obtain ⟨k, fr, acc, hk, rfl, rfl, hown, hal, HC, hbel⟩ := hrel
    obtain ⟨av, cv, rfl⟩ := row_val hown
    have hbs := hbel.size
    have hal' : acc.length ≤ 1099511627 := by omega
    by_cases hle : k ≤ s.size
    · have HCA : Hid (CutAt (10 : UInt8) s.data.toList fr k acc) := by
        rcases HC.out with h | h
        · exact h.2
        · omega
      have hfk := HCA.out.le
      clear HC
      by_cases hlt : k < s.size
      · have hltl : k < s.data.toList.length := by rw [HSL.out]; exact hlt
        have hsk : s.data.toList[k] = s[k] := rfl
        have hk1 : ((k : Int) == (s.size : Int)) = false := by simp; omega
        have h256 : (s[k]).toNat < 256 := (s[k]).toNat_lt
        by_cases hc : s[k] = (10 : UInt8)
        · have ht : ((s[k].toNat : Int) == 10) = true := by rw [hc]; simp
          have HC2 : Hid (CutAt (10 : UInt8) s.data.toList (k + 1) (k + 1) (acc ++ [(s.data.toList.drop fr).take (k - fr)])) := HCA.out.cut hltl (by rw [hsk]; exact hc)
          have hacc := HC2.out.acc
          rw [HSL.out] at hacc
          clear hc hsk
          go_wp2_with (first | (at_builtin; refine wpList_append_str rfl _ _ rfl w.heap.size _ acc rfl hown _ _ (extract_bsz s fr k) rfl hal' hbs ?_; intro a5 c5 w5 hown5 hgr5))
          have hb5 : Below w.heap.size w w5 := (hbel.alloc hbs _).grown hgr5 (by simp; omega) (fun j hj => (own_ge hown hj).1)
          go_roundw
          case rel => exact ⟨k + 1, k + 1, _, by omega, by go_num, by go_num, hown5, by omega, .inl ⟨by omega, HC2.out⟩, hb5⟩
          case measure => simp only [intOf]; omega
        · have ht : ((s[k].toNat : Int) == 10) = false := by
            rw [beq_eq_false_iff_ne]
            intro e
            exact hc (UInt8.toNat_inj.1 (by have : ((10 : UInt8).toNat) = 10 := rfl; omega))
          have HC2 : Hid (CutAt (10 : UInt8) s.data.toList fr (k + 1) acc) := HCA.out.step hltl (by rw [hsk]; exact hc)
          clear hc hsk
          go_wp2_with fail
          go_roundw
          case rel => exact ⟨k + 1, fr, acc, by omega, by go_num, rfl, hown, hal, .inl ⟨by omega, HC2.out⟩, hbel⟩
          case measure => simp only [intOf]; omega
      · obtain rfl : k = s.size := by omega
        have hacc := HCA.out.acc
        rw [HSL.out] at hacc
        have HC2 : Hid (acc ++ [(s.data.toList.drop fr).take (s.size - fr)] = cutL (10 : UInt8) s.data.toList) := by
          have h := HCA.out
          rw [← HSL.out] at h
          have := h.last
          rwa [HSL.out] at this
        have hk1 : ((s.size : Int) == (s.size : Int)) = true := by simp
        go_wp2_with (first | (at_builtin; refine wpList_append_str rfl _ _ rfl w.heap.size _ acc rfl hown _ _ (extract_bsz s fr s.size) rfl hal' hbs ?_; intro a5 c5 w5 hown5 hgr5))
        have hb5 : Below w.heap.size w w5 := (hbel.alloc hbs _).grown hgr5 (by simp; omega) (fun j hj => (own_ge hown hj).1)
        go_roundw
        case rel => exact ⟨s.size + 1, s.size + 1, _, by omega, by go_num, by go_num, hown5, by rw [List.length_append]; simp; omega, .inr ⟨rfl, HC2.out⟩, hb5⟩
        case measure => simp only [intOf]; omega
    · have HE : Hid (acc = cutL (10 : UInt8) s.data.toList) := by
        rcases HC.out with h | h
        · omega
        · exact h.2
      go_wp2_with fail
      go_ret
      exact ⟨_, _, _, rfl, by rw [← HE.out]; exact hown, hbel⟩
end Go.Proofs.YtkcnjnccdafbfaaGreatDoor
