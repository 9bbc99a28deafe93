/- Contracts and lemmas (nothing is claimed here). -/
import Derived.Test.YtfhpgmlfgjfknaaGreatDoorJ9
import Derived.Test.YtfhpgmlfgjfknaaGreatDoorJ2
import Derived.Test.YtfhpgmlfgjfknaaGreatDoorJ5
namespace Go.Proofs.YtfhpgmlfgjfknaaGreatDoor
open Go.RowKit Go.Vf
theorem isPoint_any (n : Int) (w : World) : Calls Tryz.prog 124 #[.int .i64 n] w fun e w' => e = .returned (.bool (isPtB n)) ∧ w = w' := by
  by_cases h1 : 0 ≤ n
  · by_cases h2 : n ≤ 1114111
    · by_cases h3 : n < 55296
      · go_enter Tryz.func124, Tryz.ntmps124
        go_wp2
        go_ret
        exact ⟨by simp [isPtB, h1, h2, h3], rfl⟩
      · by_cases h4 : 57343 < n
        · go_enter Tryz.func124, Tryz.ntmps124
          go_wp2
          go_ret
          exact ⟨by simp [isPtB, h1, h2, h4], rfl⟩
        · go_enter Tryz.func124, Tryz.ntmps124
          go_wp2
          go_ret
          exact ⟨by simp [isPtB]; omega, rfl⟩
    · go_enter Tryz.func124, Tryz.ntmps124
      go_wp2
      go_ret
      exact ⟨by simp [isPtB]; omega, rfl⟩
  · go_enter Tryz.func124, Tryz.ntmps124
    go_wp2
    go_ret
    exact ⟨by simp [isPtB]; omega, rfl⟩
theorem isWeight_any (n : Int) (w : World) : Calls Tryz.prog 160 #[.int .i64 n] w fun e w' => e = .returned (.bool (wtB n)) ∧ w = w' := by
  by_cases h1 : 0 ≤ n
  · by_cases h2 : n ≤ 65535
    · go_enter Tryz.func160, Tryz.ntmps160
      go_wp2
      go_ret
      exact ⟨by simp [wtB, h1, h2], rfl⟩
    · go_enter Tryz.func160, Tryz.ntmps160
      go_wp2
      go_ret
      exact ⟨by simp [wtB]; omega, rfl⟩
  · go_enter Tryz.func160, Tryz.ntmps160
    go_wp2
    go_ret
    exact ⟨by simp [wtB]; omega, rfl⟩
def baseR (n : Int) : Int := if (19968 ≤ n ∧ n ≤ 40959) ∨ (63744 ≤ n ∧ n ≤ 64255) then 64320 else if (13312 ≤ n ∧ n ≤ 19903) ∨ (131072 ≤ n ∧ n ≤ 262143) then 64384 else 64448
set_option maxHeartbeats 1000000 in
theorem base_any (n : Int) (w : World) : Calls Tryz.prog 150 #[.int .i64 n] w fun e w' => e = .returned (.int .i64 (baseR n)) ∧ w = w' := by
  by_cases c1 : 19968 ≤ n ∧ n ≤ 40959
  · obtain ⟨h1, h2⟩ := c1
    go_enter Tryz.func150, Tryz.ntmps150
    go_wp2
    go_ret
    exact ⟨by simp [baseR, h1, h2], rfl⟩
  · by_cases c2 : 63744 ≤ n ∧ n ≤ 64255
    · obtain ⟨h1, h2⟩ := c2
      have h3 : ¬ n ≤ 40959 := by omega
      have h4 : 19968 ≤ n := by omega
      go_enter Tryz.func150, Tryz.ntmps150
      go_wp2
      go_ret
      exact ⟨by simp [baseR, h1, h2], rfl⟩
    · by_cases c3 : 13312 ≤ n ∧ n ≤ 19903
      · obtain ⟨h1, h2⟩ := c3
        have h3 : ¬ 19968 ≤ n := by omega
        have h4 : ¬ 63744 ≤ n := by omega
        go_enter Tryz.func150, Tryz.ntmps150
        go_wp2
        go_ret
        exact ⟨by simp [baseR, h1, h2]; omega, rfl⟩
      · by_cases c4 : 131072 ≤ n ∧ n ≤ 262143
        · obtain ⟨h1, h2⟩ := c4
          have h3 : 19968 ≤ n := by omega
          have h4 : 63744 ≤ n := by omega
          have h5 : ¬ n ≤ 40959 := by omega
          have h6 : ¬ n ≤ 64255 := by omega
          have h7 : 13312 ≤ n := by omega
          have h8 : ¬ n ≤ 19903 := by omega
          go_enter Tryz.func150, Tryz.ntmps150
          go_wp2
          go_ret
          exact ⟨by simp [baseR, h1, h2, h5, h6], rfl⟩
        · have e : baseR n = 64448 := by unfold baseR; rw [if_neg (by omega), if_neg (by omega)]
          have E : Hid (baseR n = 64448) := e
          clear e
          by_cases h1 : 19968 ≤ n <;> by_cases h2 : 63744 ≤ n <;> by_cases h3 : 13312 ≤ n <;> by_cases h4 : 131072 ≤ n <;> try (exfalso; omega)
          all_goals
            first
            | have h5 : ¬ n ≤ 40959 := by omega
            | skip
            first
            | have h6 : ¬ n ≤ 64255 := by omega
            | skip
            first
            | have h7 : ¬ n ≤ 19903 := by omega
            | skip
            first
            | have h8 : ¬ n ≤ 262143 := by omega
            | skip
            clear c1 c2 c3 c4
            go_enter Tryz.func150, Tryz.ntmps150
            go_wp2
            go_ret
            exact ⟨by rw [E.out]; rfl, rfl⟩
def digV (c : UInt8) : Int := match hexV c with
  | some d => (d : Int)
  | none => -1
theorem index_all : ((List.range 256).all fun n => Lib.indexByte [48, 49, 50, 51, 52, 53, 54, 55, 56, 57, 65, 66, 67, 68, 69, 70] (UInt8.ofNat n) == digV (UInt8.ofNat n)) = true := by kernel_rfl
theorem index_dig (c : UInt8) : Lib.indexByte [48, 49, 50, 51, 52, 53, 54, 55, 56, 57, 65, 66, 67, 68, 69, 70] c = digV c := by
  have := List.all_eq_true.1 index_all c.toNat (List.mem_range.2 c.toNat_lt)
  rw [show UInt8.ofNat c.toNat = c by simp] at this
  exact beq_iff_eq.1 this
theorem dig_call (c : UInt8) (w : World) : Calls Tryz.prog 228 #[.string ⟨#[48, 49, 50, 51, 52, 53, 54, 55, 56, 57, 65, 66, 67, 68, 69, 70]⟩, .int .u8 (c.toNat : Int)] w fun e w' => e = .returned (.int .i64 (digV c)) ∧ w = w' := by
  refine (Tryz.strings_IndexByte ⟨#[48, 49, 50, 51, 52, 53, 54, 55, 56, 57, 65, 66, 67, 68, 69, 70]⟩ (c.toNat : Int) w).mono ?_
  rintro e w' ⟨rfl, rfl⟩
  refine ⟨?_, rfl⟩
  rw [show ((c.toNat : Int).toNat.toUInt8) = c by simp, show (⟨#[48, 49, 50, 51, 52, 53, 54, 55, 56, 57, 65, 66, 67, 68, 69, 70]⟩ : ByteArray).data.toList = [48, 49, 50, 51, 52, 53, 54, 55, 56, 57, 65, 66, 67, 68, 69, 70] from rfl, index_dig]
def gotH : Option Nat → Value
  | some n => .tuple #[.int .i64 (n : Int), .bool true]
  | none => .tuple #[.int .i64 0, .bool false]
set_option maxHeartbeats 1000000 in
theorem readHex_any6 (s : ByteArray) (w : World) (hs : s.size ≤ 14) :
    Calls Tryz.prog 207 #[.string s] w fun e w' => e = .returned (gotH (hexN s.data.toList)) ∧ w = w' := by
  have hsl : s.data.toList.length = s.size := (Lib.size_eq s).symm
  generalize hR : hexN s.data.toList = R
  have HR : Hid (hexN s.data.toList = R) := hR
  clear hR
  go_enter Tryz.func207, Tryz.ntmps207
  go_wp2
  go_loopw [9, 4] (fun i n wr => ∃ (k m : Nat), i = .int .i64 (k : Int) ∧ n = .int .i64 (m : Int) ∧ k ≤ s.size ∧ m < 16 ^ k ∧ Hid (numB hexV 16 (s.data.toList.drop k) m = R) ∧ wr = w) (fun i _ _ => s.size - (intOf i).toNat)
  case atStart => exact ⟨0, 0, rfl, rfl, by omega, by simp, HR, rfl⟩
  case round =>
    obtain ⟨k, m, rfl, rfl, hk, hm, HX, rfl⟩ := hrel
    have hp : 16 ^ k ≤ 16 ^ 14 := Nat.pow_le_pow_right (by omega) (by omega)
    have hm14 : m < 16 ^ 14 := by omega
    by_cases hlt : k < s.size
    · have hd := drop_at s k hlt
      have hc := dig_call s[k] wr
      cases hv : hexV s[k] with
      | none =>
        have hdv : digV s[k] = -1 := by unfold digV; rw [hv]
        rw [hdv] at hc
        have hRn : Hid (R = none) := by
          show _ = _
          rw [← HX.out, hd, numB, hv]
        clear hd hdv HX
        go_wp2_with fail
        refine hc.mono ?_
        rintro e w1 ⟨rfl, rfl⟩
        go_wp2
        go_ret2
        exact ⟨by rw [hRn.out]; rfl, rfl⟩
      | some d =>
        have hd16 := hexV_lt hv
        have hdv : digV s[k] = (d : Int) := by unfold digV; rw [hv]
        rw [hdv] at hc
        have HX2 : Hid (numB hexV 16 (s.data.toList.drop (k + 1)) (m * 16 + d) = R) := by
          show _ = _
          rw [← HX.out, hd, numB, hv]
        clear hd hdv HX
        go_wp2_with fail
        refine hc.mono ?_
        rintro e w1 ⟨rfl, rfl⟩
        go_wp2
        go_roundw
        case rel => exact ⟨k + 1, m * 16 + d, by simp, by simp, by omega, by rw [Nat.pow_succ]; omega, HX2, trivial⟩
        case measure => simp only [intOf]; omega
    · have hRn : Hid (R = some m) := by
        show _ = _
        rw [← HX.out, drop_end s k (by omega)]; rfl
      clear HX
      go_wp2
      go_ret2
      exact ⟨by rw [hRn.out]; rfl, rfl⟩
def gotP : Option Int → Value
  | some n => .tuple #[.int .i64 n, .bool true]
  | none => .tuple #[.int .i64 0, .bool false]
theorem gotH_P (o : Option Nat) : gotH o = gotP (o.map fun n => (n : Int)) := by cases o <;> rfl
theorem byte_eq {a b : UInt8} (h : a = b) : ((a.toNat : Int) == (b.toNat : Int)) = true := by subst h; simp
theorem byte_ne {a b : UInt8} (h : a ≠ b) : ((a.toNat : Int) == (b.toNat : Int)) = false := by
  rw [beq_eq_false_iff_ne]
  intro e
  exact h (UInt8.toNat_inj.1 (by omega))
set_option maxHeartbeats 1000000 in
theorem readPoint_any6 (s : ByteArray) (w : World) (hs : s.size ≤ 17179869184) :
    Calls Tryz.prog 170 #[.string s] w fun e w' => e = .returned (gotP (ptR s.data.toList)) ∧ w = w' := by
  have hsl : s.data.toList.length = s.size := (Lib.size_eq s).symm
  by_cases hlen : s.size = 4 ∨ (4 < s.size ∧ s.size ≤ 6 ∧ s.data.toList.head? ≠ some 48)
  · have e1 : gotP (ptR s.data.toList) = gotH (hexN s.data.toList) := by
      rw [gotH_P]; unfold ptR; rw [hsl, if_pos hlen]
    rw [e1]
    clear e1
    have hr := readHex_any6 s w (by omega)
    generalize hexN s.data.toList = R at hr ⊢
    rcases hlen with h4 | ⟨h5, h6, h7⟩
    · have a1 : ¬ s.size < 4 := by omega
      have a2 : ¬ 6 < s.size := by omega
      have a3 : ¬ 4 < s.size := by omega
      clear h4
      go_enter Tryz.func170, Tryz.ntmps170
      go_wp2_with fail
      refine hr.mono ?_
      rintro e w1 ⟨rfl, rfl⟩
      cases R with
      | none => simp only [gotH]; go_wp2; go_ret2; exact ⟨rfl, rfl⟩
      | some n => simp only [gotH]; go_wp2; go_ret2; exact ⟨rfl, rfl⟩
    · have a1 : ¬ s.size < 4 := by omega
      have a2 : ¬ 6 < s.size := by omega
      have hz : s[0]'(by omega) ≠ 48 := fun e => h7 (by rw [head_at s (by omega), e])
      have hb : (((s[0]'(by omega)).toNat : Int) == 48) = false := byte_ne (b := 48) hz
      clear h7 hz
      go_enter Tryz.func170, Tryz.ntmps170
      go_wp2_with fail
      refine hr.mono ?_
      rintro e w1 ⟨rfl, rfl⟩
      cases R with
      | none => simp only [gotH]; go_wp2; go_ret2; exact ⟨rfl, rfl⟩
      | some n => simp only [gotH]; go_wp2; go_ret2; exact ⟨rfl, rfl⟩
  · have e1 : ptR s.data.toList = none := by unfold ptR; rw [hsl, if_neg hlen]
    rw [e1]
    clear e1
    by_cases a1 : s.size < 4
    · clear hlen
      go_enter Tryz.func170, Tryz.ntmps170
      go_wp2
      go_ret2
      exact ⟨rfl, rfl⟩
    · by_cases a2 : 6 < s.size
      · clear hlen
        go_enter Tryz.func170, Tryz.ntmps170
        go_wp2
        go_ret2
        exact ⟨rfl, rfl⟩
      · have a3 : 4 < s.size := by omega
        have hz : s[0]'(by omega) = 48 := by
          have h0 := head_at s (by omega)
          rcases Decidable.em (s[0]'(by omega) = 48) with h | h
          · exact h
          · exact absurd (.inr ⟨a3, by omega, fun e => h (Option.some.inj (h0.symm.trans e))⟩) hlen
        have hb : (((s[0]'(by omega)).toNat : Int) == 48) = true := byte_eq (b := 48) hz
        clear hz hlen
        go_enter Tryz.func170, Tryz.ntmps170
        go_wp2
        go_ret2
        exact ⟨rfl, rfl⟩
end Go.Proofs.YtfhpgmlfgjfknaaGreatDoor
namespace Go.Proofs.YtfhpgmlfgjfknaaGreatDoor
open Go.RowKit Go.Vf Go.Maps
def elV (e : El) : List Value := [.bool e.va, .int .i64 e.pr, .int .i64 e.se, .int .i64 e.te]
abbrev elA (e : El) : Value := .agg #[.bool e.va, .int .i64 e.pr, .int .i64 e.se, .int .i64 e.te]
def elsV (l : List El) : List Value := l.flatMap elV
theorem elsV_len (l : List El) : (elsV l).length = l.length * 4 := by
  induction l with
  | nil => rfl
  | cons e r ih => simp only [elsV, List.flatMap_cons, List.length_append] at ih ⊢; rw [ih]; simp [elV]; omega
theorem elsV_append (a b : List El) : elsV (a ++ b) = elsV a ++ elsV b := by simp [elsV]
def Els (n₀ : Nat) (W : World) (v : Value) (l : List El) : Prop :=
  (∃ a cap, v = .slice a 0 cap ∧ l = []) ∨ ∃ b off cap, v = .slice (some ⟨b, off, none⟩) l.length cap ∧ b < n₀ ∧ ∀ j (hj : j < l.length),
    W.cell? ⟨b, off + j * 4, none⟩ = some (.bool l[j].va) ∧ W.cell? ⟨b, off + j * 4 + 1, none⟩ = some (.int .i64 l[j].pr) ∧ W.cell? ⟨b, off + j * 4 + 2, none⟩ = some (.int .i64 l[j].se) ∧ W.cell? ⟨b, off + j * 4 + 3, none⟩ = some (.int .i64 l[j].te)
theorem Els.val {n₀ : Nat} {W : World} {v : Value} {l : List El} (h : Els n₀ W v l) : ∃ a cap, v = .slice a l.length cap := by
  rcases h with ⟨a, cap, rfl, rfl⟩ | ⟨b, off, cap, rfl, _⟩
  · exact ⟨a, cap, rfl⟩
  · exact ⟨_, cap, rfl⟩
theorem Els.below {n₀ n : Nat} {A B : World} {v : Value} {l : List El} (h : Els n₀ A v l) (hb : Below n A B) (hn : n₀ ≤ n) : Els n₀ B v l := by
  rcases h with h | ⟨b, off, cap, e, hlt, hc⟩
  · exact .inl h
  · refine .inr ⟨b, off, cap, e, hlt, fun j hj => ?_⟩
    obtain ⟨h0, h1, h2, h3⟩ := hc j hj
    have q : ∀ k, B.cell? ⟨b, k, none⟩ = A.cell? ⟨b, k, none⟩ := fun k => hb.cell (p := ⟨b, k, none⟩) (show b < n by omega)
    exact ⟨(q _).trans h0, (q _).trans h1, (q _).trans h2, (q _).trans h3⟩
theorem Els.mono {n₀ n : Nat} {A : World} {v : Value} {l : List El} (hn : n₀ ≤ n) (h : Els n₀ A v l) : Els n A v l := by
  rcases h with h | ⟨b, off, cap, e, hlt, hc⟩
  · exact .inl h
  · exact .inr ⟨b, off, cap, e, Nat.lt_of_lt_of_le hlt hn, hc⟩
def EOwn (w : World) (base : Nat) (v : Value) (l : List El) : Prop := w.ownsRow base 131 4 v l.length (elsV l)
theorem EOwn.nil (w : World) (base : Nat) : EOwn w base (.slice none 0 0) [] := World.ownsRow_nil _ _ _ _
theorem elsV_at : ∀ (l : List El) (j : Nat) (hj : j < l.length), (elsV l)[j * 4]? = some (.bool l[j].va) ∧ (elsV l)[j * 4 + 1]? = some (.int .i64 l[j].pr) ∧ (elsV l)[j * 4 + 2]? = some (.int .i64 l[j].se) ∧ (elsV l)[j * 4 + 3]? = some (.int .i64 l[j].te) := by
  intro l
  induction l with
  | nil => intro j hj; simp at hj
  | cons e r ih =>
    intro j hj
    have hc : elsV (e :: r) = [Value.bool e.va, .int .i64 e.pr, .int .i64 e.se, .int .i64 e.te] ++ elsV r := rfl
    cases j with
    | zero => rw [hc]; simp
    | succ j =>
      have hj' : j < r.length := by simpa using hj
      obtain ⟨h0, h1, h2, h3⟩ := ih j hj'
      have q : ∀ k, (elsV (e :: r))[4 + k]? = (elsV r)[k]? := fun k => by
        rw [hc, List.getElem?_append_right (by simp)]
        congr 1
        simp
      simp only [List.getElem_cons_succ]
      refine ⟨?_, ?_, ?_, ?_⟩
      · rw [← h0, ← q]; congr 1; omega
      · rw [← h1, ← q]; congr 1; omega
      · rw [← h2, ← q]; congr 1; omega
      · rw [← h3, ← q]; congr 1; omega
theorem EOwn.form {w : World} {base : Nat} {v : Value} {l : List El} (h : EOwn w base v l) : (v = .slice none 0 0 ∧ l = []) ∨ ∃ g cap, v = .slice (some ⟨g, 0, none⟩) l.length cap ∧ base ≤ g ∧ g < w.heap.size ∧ (∀ j x, (elsV l)[j]? = some x → w.cell? ⟨g, j, none⟩ = some x) ∧ (∀ j, w.frozen? ⟨g, j, none⟩ = false) := by
  obtain ⟨h1, h2⟩ := h
  rcases h2 with ⟨rfl, hn⟩ | ⟨g, cap, cur, rfl, hb, hh, hc1, hc2, hc3, hc4⟩
  · exact .inl ⟨rfl, List.eq_nil_of_length_eq_zero hn⟩
  · refine .inr ⟨g, cap, rfl, hb, (Array.getElem?_eq_some_iff.1 hh).1, fun j x hx => ?_, fun j => ?_⟩
    · have hj : j < (elsV l).length := (List.getElem?_eq_some_iff.1 hx).1
      rw [elsV_len] at hj
      rw [← hc4, List.getElem?_take_of_lt (by omega)] at hx
      simp only [World.cell?, hh]
      simpa using hx
    · simp [World.frozen?, hh]
theorem EOwn.els {w : World} {base : Nat} {v : Value} {l : List El} (h : EOwn w base v l) : Els w.heap.size w v l := by
  rcases h.form with h | ⟨g, cap, rfl, hb, hlt, hc, _⟩
  · exact .inl ⟨none, 0, h⟩
  · refine .inr ⟨g, 0, cap, rfl, hlt, fun j hj => ?_⟩
    obtain ⟨h0, h1, h2, h3⟩ := elsV_at l j hj
    rw [Nat.zero_add]
    exact ⟨hc _ _ h0, hc _ _ h1, hc _ _ h2, hc _ _ h3⟩
theorem Els.at {n₀ : Nat} {w : World} {a : Option Addr} {k cap : Nat} {l : List El} (h : Els n₀ w (.slice a k cap) l) {j : Nat} (hj : j < l.length) : ∃ b off, a = some ⟨b, off, none⟩ ∧
    w.cell? ⟨b, off + j * 4, none⟩ = some (.bool l[j].va) ∧ w.cell? ⟨b, off + j * 4 + 1, none⟩ = some (.int .i64 l[j].pr) ∧ w.cell? ⟨b, off + j * 4 + 2, none⟩ = some (.int .i64 l[j].se) ∧ w.cell? ⟨b, off + j * 4 + 3, none⟩ = some (.int .i64 l[j].te) := by
  rcases h with ⟨a', cap', e, rfl⟩ | ⟨b, off, cap', e, hlt, hc⟩
  · simp at hj
  · cases e
    exact ⟨b, off, rfl, hc j hj⟩
set_option maxHeartbeats 1000000 in
theorem isRight_any (e : El) (w : World) : Calls Tryz.prog 125 #[elA e] w fun r w' => r = .returned (.bool (rightB e)) ∧ Below w.heap.size w w' := by
  obtain ⟨va, pr, se, te⟩ := e
  have hb0 := (Below.refl w.heap.size w).alloc (Nat.le_refl _) (.cells #[.bool va, .int .i64 pr, .int .i64 se, .int .i64 te] 131)
  cases h1 : wtB pr with
  | false =>
    have hR : rightB ⟨va, pr, se, te⟩ = false := by simp [rightB, h1]
    rw [hR]
    have c1 := fun w => isWeight_any pr w
    rw [h1] at c1
    clear hR h1
    go_enter Tryz.func125, Tryz.ntmps125
    go_wp2_with fail
    refine (c1 _).mono ?_
    rintro _ w1 ⟨rfl, rfl⟩
    go_wp2
    go_ret
    exact ⟨rfl, hb0⟩
  | true =>
    have c1 := fun w => isWeight_any pr w
    rw [h1] at c1
    cases h2 : wtB se with
    | false =>
      have hR : rightB ⟨va, pr, se, te⟩ = false := by simp [rightB, h2]
      rw [hR]
      have c2 := fun w => isWeight_any se w
      rw [h2] at c2
      clear hR h1 h2
      go_enter Tryz.func125, Tryz.ntmps125
      go_wp2_with fail
      refine (c1 _).mono ?_
      rintro _ w1 ⟨rfl, rfl⟩
      go_wp2_with fail
      refine (c2 _).mono ?_
      rintro _ w1 ⟨rfl, rfl⟩
      go_wp2
      go_ret
      exact ⟨rfl, hb0⟩
    | true =>
      have c2 := fun w => isWeight_any se w
      rw [h2] at c2
      cases h3 : wtB te with
      | false =>
        have hR : rightB ⟨va, pr, se, te⟩ = false := by simp [rightB, h3]
        rw [hR]
        have c3 := fun w => isWeight_any te w
        rw [h3] at c3
        clear hR h1 h2 h3
        go_enter Tryz.func125, Tryz.ntmps125
        go_wp2_with fail
        refine (c1 _).mono ?_
        rintro _ w1 ⟨rfl, rfl⟩
        go_wp2_with fail
        refine (c2 _).mono ?_
        rintro _ w1 ⟨rfl, rfl⟩
        go_wp2_with fail
        refine (c3 _).mono ?_
        rintro _ w1 ⟨rfl, rfl⟩
        go_wp2
        go_ret
        exact ⟨rfl, hb0⟩
      | true =>
        have c3 := fun w => isWeight_any te w
        rw [h3] at c3
        have hR : rightB ⟨va, pr, se, te⟩ = (decide (pr ≤ 64319) && !(decide (pr ≠ 0) && decide (se = 0)) && !(decide (se ≠ 0) && decide (te = 0)) && (decide (pr ≠ 0) || !va)) := by simp only [rightB, h1, h2, h3, Bool.true_and]
        generalize hQ : rightB ⟨va, pr, se, te⟩ = Q at hR ⊢
        have HQ : Hid (Q = (decide (pr ≤ 64319) && !(decide (pr ≠ 0) && decide (se = 0)) && !(decide (se ≠ 0) && decide (te = 0)) && (decide (pr ≠ 0) || !va))) := hR
        clear hR hQ h1 h2 h3
        go_enter Tryz.func125, Tryz.ntmps125
        go_wp2_with fail
        refine (c1 _).mono ?_
        rintro _ w1 ⟨rfl, rfl⟩
        go_wp2_with fail
        refine (c2 _).mono ?_
        rintro _ w1 ⟨rfl, rfl⟩
        go_wp2_with fail
        refine (c3 _).mono ?_
        rintro _ w1 ⟨rfl, rfl⟩
        go_wp2
        all_goals go_ret
        all_goals refine ⟨?_, (Below.refl _ _).alloc (Nat.le_refl _) _⟩
        all_goals rw [HQ.out]
        all_goals clear HQ c1 c2 c3 hb0
        all_goals by_cases ht : te = 0
        all_goals first
          | (simp [*]; done)
          | (simp; omega)
          | (cases va <;> simp [*]; done)
          | (exfalso; simp_all; done)
def allB (l : List El) : Bool := decide (1 ≤ l.length) && decide (l.length ≤ 16) && l.all rightB
theorem all_drop (l : List El) (k : Nat) (h : k < l.length) : (l.drop k).all rightB = (rightB l[k] && (l.drop (k + 1)).all rightB) := by
  rw [List.drop_eq_getElem_cons h, List.all_cons]
set_option maxHeartbeats 1000000 in
theorem allRight_any (n₀ : Nat) (v : Value) (l : List El) (w : World) (hn₀ : n₀ ≤ w.heap.size) (hin : Els n₀ w v l) (hll : l.length ≤ 4611686018427387904) :
    Calls Tryz.prog 82 #[v] w fun e w' => e = .returned (.bool (allB l)) ∧ Below w.heap.size w w' := by
  obtain ⟨a, cap, rfl⟩ := hin.val
  by_cases h0 : l.length = 0
  · have hR : allB l = false := by simp [allB, h0]
    rw [hR]
    rw [h0]
    clear hR
    go_enter Tryz.func82, Tryz.ntmps82
    go_wp2
    go_ret
    exact ⟨rfl, Below.refl _ _⟩
  · by_cases h16 : 16 < l.length
    · have hR : allB l = false := by simp [allB]; omega
      rw [hR]
      clear hR
      go_enter Tryz.func82, Tryz.ntmps82
      go_wp2
      go_ret
      exact ⟨rfl, Below.refl _ _⟩
    · have hR : allB l = l.all rightB := by
        unfold allB
        rw [show decide (1 ≤ l.length) = true by simp; omega, show decide (l.length ≤ 16) = true by simp; omega]
        rfl
      generalize allB l = R at hR ⊢
      have HR : Hid (R = l.all rightB) := hR
      clear hR
      have b0 : ((l.length : Int) == 0) = false := beq_eq_false_iff_ne.2 (by omega)
      have b16 : decide ((16 : Int) < (l.length : Int)) = false := by simp; omega
      have H0 : Hid (1 ≤ l.length ∧ l.length ≤ 16) := ⟨by omega, by omega⟩
      clear h0 h16
      go_enter Tryz.func82, Tryz.ntmps82
      go_wp2_with fail
      go_loopw [15] (fun i wr => ∃ k : Nat, k ≤ l.length ∧ i = .int .i64 k ∧ Hid (R = (l.drop k).all rightB) ∧ Below w.heap.size w wr) (fun i _ => l.length - (intOf i).toNat)
      case atStart => exact ⟨0, by omega, rfl, HR, Below.refl _ _⟩
      case round =>
        clear HR
        obtain ⟨k, hk, rfl, HK, hbel⟩ := hrel
        by_cases hlt : k < l.length
        · obtain ⟨b, off, rfl, c0, c1, c2, c3⟩ := (hin.below hbel hn₀).at hlt
          have hd := all_drop l k hlt
          have hKK := HK.out
          rw [hd] at hKK
          generalize l[k] = e at c0 c1 c2 c3 hKK
          obtain ⟨va, pr, se, te⟩ := e
          simp only at c0 c1 c2 c3
          have hb1 := hbel.alloc hbel.size (.cells #[.bool va, .int .i64 pr, .int .i64 se, .int .i64 te] 131)
          have HKK : Hid (R = (rightB ⟨va, pr, se, te⟩ && (l.drop (k + 1)).all rightB)) := hKK
          clear hKK HK hd
          go_wp2_with fail
          generalize wr.alloc (.cells #[.bool va, .int .i64 pr, .int .i64 se, .int .i64 te] 131) = W at hb1 ⊢
          refine (isRight_any ⟨va, pr, se, te⟩ W).mono ?_
          rintro _ w2 ⟨rfl, hb2⟩
          have hb3 : Below w.heap.size w w2 := hb1.trans (hb2.mono hb1.size)
          cases hq : rightB ⟨va, pr, se, te⟩ with
          | false =>
            have hRn : R = false := by rw [HKK.out, hq]; rfl
            clear HKK hq
            go_wp2
            go_ret
            exact ⟨by rw [hRn]; rfl, hb3⟩
          | true =>
            have HK2 : Hid (R = (l.drop (k + 1)).all rightB) := by
              show _ = _
              rw [HKK.out, hq]; rfl
            clear HKK hq
            go_wp2
            go_roundw
            case rel => exact ⟨k + 1, by omega, by simp, HK2, hb3⟩
            case measure => simp only [intOf]; omega
        · have hRn : R = true := by rw [HK.out, List.drop_of_length_le (by omega)]; rfl
          clear HK
          go_wp2
          go_ret
          exact ⟨by rw [hRn]; rfl, hbel⟩
def impR (n : Int) : List El := if isPtB n then [⟨false, baseR n + n / 32768, 32, 2⟩, ⟨false, 32768 + n % 32768, 0, 0⟩] else []
theorem base_in (n : Int) : 64320 ≤ baseR n ∧ baseR n ≤ 64448 := by
  unfold baseR; split
  · omega
  · split <;> omega
theorem and_low (u : Nat) (hu : u ≤ 1114111) : bits BinOp.and IntKind.i64 (u : Int) 32767 = ((u % 32768 : Nat) : Int) := by
  have h1 : (BitVec.ofInt 64 (u : Int)).toNat = u := by
    rw [BitVec.ofInt_natCast, BitVec.toNat_ofNat]; exact Nat.mod_eq_of_lt (by omega)
  have h2 : (BitVec.ofInt 64 (32767 : Int)).toNat = 32767 := by decide
  have h3 : u &&& 32767 = u % 32768 := Nat.and_two_pow_sub_one_eq_mod u 15
  show IntKind.i64.wrap ((BitVec.ofInt 64 (u : Int) &&& BitVec.ofInt 64 (32767 : Int)).toNat : Int) = _
  rw [BitVec.toNat_and, h1, h2, h3]
  have h4 : u % 32768 < 32768 := Nat.mod_lt _ (by omega)
  generalize u % 32768 = q at h4
  exact IntWalk.i64_in _ ⟨by omega, by omega⟩
theorem own_new (w : World) (l : List El) (hl : l.length ≤ 1048576) : EOwn (w.alloc (.cells (elsV l).toArray 131)) w.heap.size (.slice (some ⟨w.heap.size, 0, none⟩) l.length l.length) l := by
  refine ⟨?_, .inr ⟨w.heap.size, l.length, (elsV l).toArray, rfl, Nat.le_refl _, Blk.new w 131 _, Nat.le_refl _, ?_, ?_, ?_⟩⟩
  · simp [elsV_len]
  · unfold maxLen; omega
  · simp [elsV_len]
  · simp [elsV_len, List.take_of_length_le]
set_option maxHeartbeats 1000000 in
theorem implied_any (n : Int) (w : World) : Calls Tryz.prog 107 #[.int .i64 n] w fun e w' => ∃ v, e = .returned v ∧ EOwn w' w.heap.size v (impR n) ∧ Below w.heap.size w w' ∧ (v = .slice none 0 0 ∨ v = .slice (some ⟨w.heap.size, 0, none⟩) 2 2) := by
  cases hp : isPtB n with
  | false =>
    have hR : impR n = [] := by unfold impR; rw [hp]; rfl
    rw [hR]
    have h1 := fun w => isPoint_any n w
    rw [hp] at h1
    clear hR hp
    go_enter Tryz.func107, Tryz.ntmps107
    go_wp2_with fail
    refine (h1 _).mono ?_
    rintro _ w1 ⟨rfl, rfl⟩
    go_wp2
    go_ret
    exact ⟨_, rfl, EOwn.nil _ _, Below.refl _ _, .inl rfl⟩
  | true =>
    have h1 := fun w => isPoint_any n w
    rw [hp] at h1
    obtain ⟨u, rfl, hu⟩ := isPtB_nat hp
    have hR : impR (u : Int) = [⟨false, baseR u + (u : Int) / 32768, 32, 2⟩, ⟨false, 32768 + (u : Int) % 32768, 0, 0⟩] := by unfold impR; rw [hp]; rfl
    have hbi := base_in u
    have hand := and_low u hu
    have hq : (0 : Int) ≤ (u : Int) / 32768 ∧ (u : Int) / 32768 ≤ 34 := by omega
    have hm : ((u % 32768 : Nat) : Int) < 32768 := by omega
    generalize impR (u : Int) = R at hR ⊢
    have HR : Hid (R = [⟨false, baseR u + (u : Int) / 32768, 32, 2⟩, ⟨false, 32768 + (u : Int) % 32768, 0, 0⟩]) := hR
    clear hp hR
    have h2 := fun w => base_any (u : Int) w
    generalize baseR (u : Int) = B at hbi h2 HR
    go_enter Tryz.func107, Tryz.ntmps107
    go_wp2_with fail
    refine (h1 _).mono ?_
    rintro _ w1 ⟨rfl, rfl⟩
    go_wp2_with fail
    refine (h2 _).mono ?_
    rintro _ w1 ⟨rfl, rfl⟩
    go_wp2_with fail
    go_ret
    have ho := own_new w R (by rw [HR.out]; simp)
    refine ⟨_, rfl, ?_, (Below.refl _ _).alloc (Nat.le_refl _) _, .inr rfl⟩
    rw [HR.out] at ho ⊢
    exact ho
end Go.Proofs.YtfhpgmlfgjfknaaGreatDoor
