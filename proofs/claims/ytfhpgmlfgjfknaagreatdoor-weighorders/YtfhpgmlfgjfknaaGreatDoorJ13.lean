/- Contracts and lemmas (nothing is claimed here). -/
import Derived.Test.YtfhpgmlfgjfknaaGreatDoorJ8
import Derived.Test.YtfhpgmlfgjfknaaGreatDoorMark
import Derived.Test.YtfhpgmlfgjfknaaGreatDoorJ3
import Derived.Test.YtfhpgmlfgjfknaaGreatDoorJ1
import Derived.Test.YtfhpgmlfgjfknaaGreatDoorJ12
import Derived.Test.YtfhpgmlfgjfknaaGreatDoorProg
import Derived.Test.YtfhpgmlfgjfknaaGreatDoorJ4
namespace Go.Proofs.YtfhpgmlfgjfknaaGreatDoor
open Go.RowKit Go.Vf Go.Maps
theorem own_other {w w' : World} {b1 : Nat} {e1 : TypeId} {s1 k1 : Nat} {v1 : Value} {x1 : List Value} (h1 : w.ownsRow b1 e1 s1 v1 k1 x1) (hk : ∀ g, v1.ownBlock = some g → w'.heap[g]? = w.heap[g]?) : w'.ownsRow b1 e1 s1 v1 k1 x1 := by
  refine ⟨h1.1, h1.2.imp id fun ⟨g, cap, cur, q1, q2, q3, q4⟩ => ⟨g, cap, cur, q1, q2, ?_, q4⟩⟩
  exact (hk g (by rw [q1]; rfl)).trans q3
def Apt (u v : Value) : Prop := ∀ g, u.ownBlock = some g → v.ownBlock ≠ some g
theorem Apt.symm {u v : Value} (h : Apt u v) : Apt v u := fun g hv hu => h g hu hv
theorem apt_types {w : World} {b1 b2 : Nat} {e1 e2 : TypeId} {s1 s2 k1 k2 : Nat} {v1 v2 : Value} {x1 x2 : List Value} (h1 : w.ownsRow b1 e1 s1 v1 k1 x1) (h2 : w.ownsRow b2 e2 s2 v2 k2 x2) (ht : e1 ≠ e2) : Apt v1 v2 := fun g hg1 hg2 => by
  obtain ⟨_, c1, f1, q1⟩ := own_ge h1 hg1
  obtain ⟨_, c2, f2, q2⟩ := own_ge h2 hg2
  rw [q1] at q2
  simp only [Option.some.injEq, Obj.cells.injEq] at q2
  exact ht q2.2.1
theorem row_lt {w : World} {base : Nat} {e : TypeId} {size k : Nat} {v : Value} {xs : List Value} (h : w.ownsRow base e size v k xs) {g : Nat} (hg : v.ownBlock = some g) : g < w.heap.size := by
  obtain ⟨_, c, f, q⟩ := own_ge h hg
  exact (Array.getElem?_eq_some_iff.1 q).1
theorem apt_new {w : World} {b1 b2 : Nat} {e1 e2 : TypeId} {s1 s2 k1 k2 : Nat} {v1 v2 : Value} {x1 x2 : List Value} {w2 : World} (h1 : w.ownsRow b1 e1 s1 v1 k1 x1) (h2 : w2.ownsRow b2 e2 s2 v2 k2 x2) (hb : w.heap.size ≤ b2) : Apt v1 v2 := fun g hg1 hg2 => by
  have := row_lt h1 hg1
  have := (own_ge h2 hg2).1
  omega
theorem own_grown {w w' : World} {b : Nat} {e : TypeId} {s k : Nat} {v u : Value} {xs : List Value} (h : w.ownsRow b e s v k xs) (hg : w.grownBy w' u.ownBlock) (ha : Apt u v) : w'.ownsRow b e s v k xs :=
  own_other h (fun g hv => hg.block g (row_lt h hv) (fun e => ha g e.symm hv))
theorem blk_grown {w w' : World} {b : Nat} {e : TypeId} {s k B : Nat} {t : TypeId} {u : Value} {xs : List Value} {cs : Array Value} (hb : Blk w B t cs) (hu : w.ownsRow b e s u k xs) (ht : e ≠ t) (hg : w.grownBy w' u.ownBlock) : Blk w' B t cs := by
  refine (hg.block B hb.lt (fun eq => ?_)).trans hb
  obtain ⟨_, c, f, q⟩ := own_ge hu eq.symm
  have := q.symm.trans hb
  simp only [Option.some.injEq, Obj.cells.injEq] at this
  exact ht this.2.1
theorem own_lt {w : World} {b1 : Nat} {e1 : TypeId} {s1 k1 : Nat} {v1 : Value} {x1 : List Value} (h1 : w.ownsRow b1 e1 s1 v1 k1 x1) : ∀ g, v1.ownBlock = some g → g < w.heap.size := fun g hg => by
  obtain ⟨_, cs, f, q⟩ := own_ge h1 hg
  exact (Array.getElem?_eq_some_iff.1 q).1
end Go.Proofs.YtfhpgmlfgjfknaaGreatDoor
namespace Go.Proofs.YtfhpgmlfgjfknaaGreatDoor
open Go.RowKit Go.Vf
theorem isPoint_any (n : Int) (w : World) : Calls Tryz.prog 124 #[.int .i64 n] w fun e w' => e = .returned (.bool (isPtB n)) ∧ w = w' := by
  by_cases h1 : 0 ≤ n
  · by_cases h2 : n ≤ 1114111
    · by_cases h3 : n < 55296
      · go_enter Tryz.func124, Tryz.ntmps124
        go_wp2
        go_ret
        exact ⟨by simp [isPtB, h1, h2, h3], rfl⟩
      · by_cases h4 : 57343 < n
        · go_enter Tryz.func124, Tryz.ntmps124
          go_wp2
          go_ret
          exact ⟨by simp [isPtB, h1, h2, h4], rfl⟩
        · go_enter Tryz.func124, Tryz.ntmps124
          go_wp2
          go_ret
          exact ⟨by simp [isPtB]; omega, rfl⟩
    · go_enter Tryz.func124, Tryz.ntmps124
      go_wp2
      go_ret
      exact ⟨by simp [isPtB]; omega, rfl⟩
  · go_enter Tryz.func124, Tryz.ntmps124
    go_wp2
    go_ret
    exact ⟨by simp [isPtB]; omega, rfl⟩
theorem isWeight_any (n : Int) (w : World) : Calls Tryz.prog 160 #[.int .i64 n] w fun e w' => e = .returned (.bool (wtB n)) ∧ w = w' := by
  by_cases h1 : 0 ≤ n
  · by_cases h2 : n ≤ 65535
    · go_enter Tryz.func160, Tryz.ntmps160
      go_wp2
      go_ret
      exact ⟨by simp [wtB, h1, h2], rfl⟩
    · go_enter Tryz.func160, Tryz.ntmps160
      go_wp2
      go_ret
      exact ⟨by simp [wtB]; omega, rfl⟩
  · go_enter Tryz.func160, Tryz.ntmps160
    go_wp2
    go_ret
    exact ⟨by simp [wtB]; omega, rfl⟩
def baseR (n : Int) : Int := if (19968 ≤ n ∧ n ≤ 40959) ∨ (63744 ≤ n ∧ n ≤ 64255) then 64320 else if (13312 ≤ n ∧ n ≤ 19903) ∨ (131072 ≤ n ∧ n ≤ 262143) then 64384 else 64448
set_option maxHeartbeats 1000000 in
theorem base_any (n : Int) (w : World) : Calls Tryz.prog 150 #[.int .i64 n] w fun e w' => e = .returned (.int .i64 (baseR n)) ∧ w = w' := by
  by_cases c1 : 19968 ≤ n ∧ n ≤ 40959
  · obtain ⟨h1, h2⟩ := c1
    go_enter Tryz.func150, Tryz.ntmps150
    go_wp2
    go_ret
    exact ⟨by simp [baseR, h1, h2], rfl⟩
  · by_cases c2 : 63744 ≤ n ∧ n ≤ 64255
    · obtain ⟨h1, h2⟩ := c2
      have h3 : ¬ n ≤ 40959 := by omega
      have h4 : 19968 ≤ n := by omega
      go_enter Tryz.func150, Tryz.ntmps150
      go_wp2
      go_ret
      exact ⟨by simp [baseR, h1, h2], rfl⟩
    · by_cases c3 : 13312 ≤ n ∧ n ≤ 19903
      · obtain ⟨h1, h2⟩ := c3
        have h3 : ¬ 19968 ≤ n := by omega
        have h4 : ¬ 63744 ≤ n := by omega
        go_enter Tryz.func150, Tryz.ntmps150
        go_wp2
        go_ret
        exact ⟨by simp [baseR, h1, h2]; omega, rfl⟩
      · by_cases c4 : 131072 ≤ n ∧ n ≤ 262143
        · obtain ⟨h1, h2⟩ := c4
          have h3 : 19968 ≤ n := by omega
          have h4 : 63744 ≤ n := by omega
          have h5 : ¬ n ≤ 40959 := by omega
          have h6 : ¬ n ≤ 64255 := by omega
          have h7 : 13312 ≤ n := by omega
          have h8 : ¬ n ≤ 19903 := by omega
          go_enter Tryz.func150, Tryz.ntmps150
          go_wp2
          go_ret
          exact ⟨by simp [baseR, h1, h2, h5, h6], rfl⟩
        · have e : baseR n = 64448 := by unfold baseR; rw [if_neg (by omega), if_neg (by omega)]
          have E : Hid (baseR n = 64448) := e
          clear e
          by_cases h1 : 19968 ≤ n <;> by_cases h2 : 63744 ≤ n <;> by_cases h3 : 13312 ≤ n <;> by_cases h4 : 131072 ≤ n <;> try (exfalso; omega)
          all_goals
            first
            | have h5 : ¬ n ≤ 40959 := by omega
            | skip
            first
            | have h6 : ¬ n ≤ 64255 := by omega
            | skip
            first
            | have h7 : ¬ n ≤ 19903 := by omega
            | skip
            first
            | have h8 : ¬ n ≤ 262143 := by omega
            | skip
            clear c1 c2 c3 c4
            go_enter Tryz.func150, Tryz.ntmps150
            go_wp2
            go_ret
            exact ⟨by rw [E.out]; rfl, rfl⟩
def digV (c : UInt8) : Int := match hexV c with
  | some d => (d : Int)
  | none => -1
theorem index_all : ((List.range 256).all fun n => Lib.indexByte [48, 49, 50, 51, 52, 53, 54, 55, 56, 57, 65, 66, 67, 68, 69, 70] (UInt8.ofNat n) == digV (UInt8.ofNat n)) = true := by kernel_rfl
theorem index_dig (c : UInt8) : Lib.indexByte [48, 49, 50, 51, 52, 53, 54, 55, 56, 57, 65, 66, 67, 68, 69, 70] c = digV c := by
  have := List.all_eq_true.1 index_all c.toNat (List.mem_range.2 c.toNat_lt)
  rw [show UInt8.ofNat c.toNat = c by simp] at this
  exact beq_iff_eq.1 this
theorem dig_call (c : UInt8) (w : World) : Calls Tryz.prog 228 #[.string ⟨#[48, 49, 50, 51, 52, 53, 54, 55, 56, 57, 65, 66, 67, 68, 69, 70]⟩, .int .u8 (c.toNat : Int)] w fun e w' => e = .returned (.int .i64 (digV c)) ∧ w = w' := by
  refine (Tryz.strings_IndexByte ⟨#[48, 49, 50, 51, 52, 53, 54, 55, 56, 57, 65, 66, 67, 68, 69, 70]⟩ (c.toNat : Int) w).mono ?_
  rintro e w' ⟨rfl, rfl⟩
  refine ⟨?_, rfl⟩
  rw [show ((c.toNat : Int).toNat.toUInt8) = c by simp, show (⟨#[48, 49, 50, 51, 52, 53, 54, 55, 56, 57, 65, 66, 67, 68, 69, 70]⟩ : ByteArray).data.toList = [48, 49, 50, 51, 52, 53, 54, 55, 56, 57, 65, 66, 67, 68, 69, 70] from rfl, index_dig]
def gotH : Option Nat → Value
  | some n => .tuple #[.int .i64 (n : Int), .bool true]
  | none => .tuple #[.int .i64 0, .bool false]
set_option maxHeartbeats 1000000 in
theorem readHex_any6 (s : ByteArray) (w : World) (hs : s.size ≤ 14) :
    Calls Tryz.prog 207 #[.string s] w fun e w' => e = .returned (gotH (hexN s.data.toList)) ∧ w = w' := by
  have hsl : s.data.toList.length = s.size := (Lib.size_eq s).symm
  generalize hR : hexN s.data.toList = R
  have HR : Hid (hexN s.data.toList = R) := hR
  clear hR
  go_enter Tryz.func207, Tryz.ntmps207
  go_wp2
  go_loopw [9, 4] (fun i n wr => ∃ (k m : Nat), i = .int .i64 (k : Int) ∧ n = .int .i64 (m : Int) ∧ k ≤ s.size ∧ m < 16 ^ k ∧ Hid (numB hexV 16 (s.data.toList.drop k) m = R) ∧ wr = w) (fun i _ _ => s.size - (intOf i).toNat)
  case atStart => exact ⟨0, 0, rfl, rfl, by omega, by simp, HR, rfl⟩
  case round =>
    obtain ⟨k, m, rfl, rfl, hk, hm, HX, rfl⟩ := hrel
    have hp : 16 ^ k ≤ 16 ^ 14 := Nat.pow_le_pow_right (by omega) (by omega)
    have hm14 : m < 16 ^ 14 := by omega
    by_cases hlt : k < s.size
    · have hd := drop_at s k hlt
      have hc := dig_call s[k] wr
      cases hv : hexV s[k] with
      | none =>
        have hdv : digV s[k] = -1 := by unfold digV; rw [hv]
        rw [hdv] at hc
        have hRn : Hid (R = none) := by
          show _ = _
          rw [← HX.out, hd, numB, hv]
        clear hd hdv HX
        go_wp2_with fail
        refine hc.mono ?_
        rintro e w1 ⟨rfl, rfl⟩
        go_wp2
        go_ret2
        exact ⟨by rw [hRn.out]; rfl, rfl⟩
      | some d =>
        have hd16 := hexV_lt hv
        have hdv : digV s[k] = (d : Int) := by unfold digV; rw [hv]
        rw [hdv] at hc
        have HX2 : Hid (numB hexV 16 (s.data.toList.drop (k + 1)) (m * 16 + d) = R) := by
          show _ = _
          rw [← HX.out, hd, numB, hv]
        clear hd hdv HX
        go_wp2_with fail
        refine hc.mono ?_
        rintro e w1 ⟨rfl, rfl⟩
        go_wp2
        go_roundw
        case rel => exact ⟨k + 1, m * 16 + d, by simp, by simp, by omega, by rw [Nat.pow_succ]; omega, HX2, trivial⟩
        case measure => simp only [intOf]; omega
    · have hRn : Hid (R = some m) := by
        show _ = _
        rw [← HX.out, drop_end s k (by omega)]; rfl
      clear HX
      go_wp2
      go_ret2
      exact ⟨by rw [hRn.out]; rfl, rfl⟩
def gotP : Option Int → Value
  | some n => .tuple #[.int .i64 n, .bool true]
  | none => .tuple #[.int .i64 0, .bool false]
theorem gotH_P (o : Option Nat) : gotH o = gotP (o.map fun n => (n : Int)) := by cases o <;> rfl
theorem byte_eq {a b : UInt8} (h : a = b) : ((a.toNat : Int) == (b.toNat : Int)) = true := by subst h; simp
theorem byte_ne {a b : UInt8} (h : a ≠ b) : ((a.toNat : Int) == (b.toNat : Int)) = false := by
  rw [beq_eq_false_iff_ne]
  intro e
  exact h (UInt8.toNat_inj.1 (by omega))
set_option maxHeartbeats 1000000 in
theorem readPoint_any6 (s : ByteArray) (w : World) (hs : s.size ≤ 17179869184) :
    Calls Tryz.prog 170 #[.string s] w fun e w' => e = .returned (gotP (ptR s.data.toList)) ∧ w = w' := by
  have hsl : s.data.toList.length = s.size := (Lib.size_eq s).symm
  by_cases hlen : s.size = 4 ∨ (4 < s.size ∧ s.size ≤ 6 ∧ s.data.toList.head? ≠ some 48)
  · have e1 : gotP (ptR s.data.toList) = gotH (hexN s.data.toList) := by
      rw [gotH_P]; unfold ptR; rw [hsl, if_pos hlen]
    rw [e1]
    clear e1
    have hr := readHex_any6 s w (by omega)
    generalize hexN s.data.toList = R at hr ⊢
    rcases hlen with h4 | ⟨h5, h6, h7⟩
    · have a1 : ¬ s.size < 4 := by omega
      have a2 : ¬ 6 < s.size := by omega
      have a3 : ¬ 4 < s.size := by omega
      clear h4
      go_enter Tryz.func170, Tryz.ntmps170
      go_wp2_with fail
      refine hr.mono ?_
      rintro e w1 ⟨rfl, rfl⟩
      cases R with
      | none => simp only [gotH]; go_wp2; go_ret2; exact ⟨rfl, rfl⟩
      | some n => simp only [gotH]; go_wp2; go_ret2; exact ⟨rfl, rfl⟩
    · have a1 : ¬ s.size < 4 := by omega
      have a2 : ¬ 6 < s.size := by omega
      have hz : s[0]'(by omega) ≠ 48 := fun e => h7 (by rw [head_at s (by omega), e])
      have hb : (((s[0]'(by omega)).toNat : Int) == 48) = false := byte_ne (b := 48) hz
      clear h7 hz
      go_enter Tryz.func170, Tryz.ntmps170
      go_wp2_with fail
      refine hr.mono ?_
      rintro e w1 ⟨rfl, rfl⟩
      cases R with
      | none => simp only [gotH]; go_wp2; go_ret2; exact ⟨rfl, rfl⟩
      | some n => simp only [gotH]; go_wp2; go_ret2; exact ⟨rfl, rfl⟩
  · have e1 : ptR s.data.toList = none := by unfold ptR; rw [hsl, if_neg hlen]
    rw [e1]
    clear e1
    by_cases a1 : s.size < 4
    · clear hlen
      go_enter Tryz.func170, Tryz.ntmps170
      go_wp2
      go_ret2
      exact ⟨rfl, rfl⟩
    · by_cases a2 : 6 < s.size
      · clear hlen
        go_enter Tryz.func170, Tryz.ntmps170
        go_wp2
        go_ret2
        exact ⟨rfl, rfl⟩
      · have a3 : 4 < s.size := by omega
        have hz : s[0]'(by omega) = 48 := by
          have h0 := head_at s (by omega)
          rcases Decidable.em (s[0]'(by omega) = 48) with h | h
          · exact h
          · exact absurd (.inr ⟨a3, by omega, fun e => h (Option.some.inj (h0.symm.trans e))⟩) hlen
        have hb : (((s[0]'(by omega)).toNat : Int) == 48) = true := byte_eq (b := 48) hz
        clear hz hlen
        go_enter Tryz.func170, Tryz.ntmps170
        go_wp2
        go_ret2
        exact ⟨rfl, rfl⟩
end Go.Proofs.YtfhpgmlfgjfknaaGreatDoor
namespace Go.Proofs.YtfhpgmlfgjfknaaGreatDoor
open Go.RowKit Go.Vf Go.Maps
def elV (e : El) : List Value := [.bool e.va, .int .i64 e.pr, .int .i64 e.se, .int .i64 e.te]
abbrev elA (e : El) : Value := .agg #[.bool e.va, .int .i64 e.pr, .int .i64 e.se, .int .i64 e.te]
def elsV (l : List El) : List Value := l.flatMap elV
theorem elsV_len (l : List El) : (elsV l).length = l.length * 4 := by
  induction l with
  | nil => rfl
  | cons e r ih => simp only [elsV, List.flatMap_cons, List.length_append] at ih ⊢; rw [ih]; simp [elV]; omega
theorem elsV_append (a b : List El) : elsV (a ++ b) = elsV a ++ elsV b := by simp [elsV]
def Els (n₀ : Nat) (W : World) (v : Value) (l : List El) : Prop :=
  (∃ a cap, v = .slice a 0 cap ∧ l = []) ∨ ∃ b off cap, v = .slice (some ⟨b, off, none⟩) l.length cap ∧ b < n₀ ∧ ∀ j (hj : j < l.length),
    W.cell? ⟨b, off + j * 4, none⟩ = some (.bool l[j].va) ∧ W.cell? ⟨b, off + j * 4 + 1, none⟩ = some (.int .i64 l[j].pr) ∧ W.cell? ⟨b, off + j * 4 + 2, none⟩ = some (.int .i64 l[j].se) ∧ W.cell? ⟨b, off + j * 4 + 3, none⟩ = some (.int .i64 l[j].te)
theorem Els.val {n₀ : Nat} {W : World} {v : Value} {l : List El} (h : Els n₀ W v l) : ∃ a cap, v = .slice a l.length cap := by
  rcases h with ⟨a, cap, rfl, rfl⟩ | ⟨b, off, cap, rfl, _⟩
  · exact ⟨a, cap, rfl⟩
  · exact ⟨_, cap, rfl⟩
theorem Els.below {n₀ n : Nat} {A B : World} {v : Value} {l : List El} (h : Els n₀ A v l) (hb : Below n A B) (hn : n₀ ≤ n) : Els n₀ B v l := by
  rcases h with h | ⟨b, off, cap, e, hlt, hc⟩
  · exact .inl h
  · refine .inr ⟨b, off, cap, e, hlt, fun j hj => ?_⟩
    obtain ⟨h0, h1, h2, h3⟩ := hc j hj
    have q : ∀ k, B.cell? ⟨b, k, none⟩ = A.cell? ⟨b, k, none⟩ := fun k => hb.cell (p := ⟨b, k, none⟩) (show b < n by omega)
    exact ⟨(q _).trans h0, (q _).trans h1, (q _).trans h2, (q _).trans h3⟩
theorem Els.mono {n₀ n : Nat} {A : World} {v : Value} {l : List El} (hn : n₀ ≤ n) (h : Els n₀ A v l) : Els n A v l := by
  rcases h with h | ⟨b, off, cap, e, hlt, hc⟩
  · exact .inl h
  · exact .inr ⟨b, off, cap, e, Nat.lt_of_lt_of_le hlt hn, hc⟩
def EOwn (w : World) (base : Nat) (v : Value) (l : List El) : Prop := w.ownsRow base 131 4 v l.length (elsV l)
theorem EOwn.nil (w : World) (base : Nat) : EOwn w base (.slice none 0 0) [] := World.ownsRow_nil _ _ _ _
theorem elsV_at : ∀ (l : List El) (j : Nat) (hj : j < l.length), (elsV l)[j * 4]? = some (.bool l[j].va) ∧ (elsV l)[j * 4 + 1]? = some (.int .i64 l[j].pr) ∧ (elsV l)[j * 4 + 2]? = some (.int .i64 l[j].se) ∧ (elsV l)[j * 4 + 3]? = some (.int .i64 l[j].te) := by
  intro l
  induction l with
  | nil => intro j hj; simp at hj
  | cons e r ih =>
    intro j hj
    have hc : elsV (e :: r) = [Value.bool e.va, .int .i64 e.pr, .int .i64 e.se, .int .i64 e.te] ++ elsV r := rfl
    cases j with
    | zero => rw [hc]; simp
    | succ j =>
      have hj' : j < r.length := by simpa using hj
      obtain ⟨h0, h1, h2, h3⟩ := ih j hj'
      have q : ∀ k, (elsV (e :: r))[4 + k]? = (elsV r)[k]? := fun k => by
        rw [hc, List.getElem?_append_right (by simp)]
        congr 1
        simp
      simp only [List.getElem_cons_succ]
      refine ⟨?_, ?_, ?_, ?_⟩
      · rw [← h0, ← q]; congr 1; omega
      · rw [← h1, ← q]; congr 1; omega
      · rw [← h2, ← q]; congr 1; omega
      · rw [← h3, ← q]; congr 1; omega
theorem EOwn.form {w : World} {base : Nat} {v : Value} {l : List El} (h : EOwn w base v l) : (v = .slice none 0 0 ∧ l = []) ∨ ∃ g cap, v = .slice (some ⟨g, 0, none⟩) l.length cap ∧ base ≤ g ∧ g < w.heap.size ∧ (∀ j x, (elsV l)[j]? = some x → w.cell? ⟨g, j, none⟩ = some x) ∧ (∀ j, w.frozen? ⟨g, j, none⟩ = false) := by
  obtain ⟨h1, h2⟩ := h
  rcases h2 with ⟨rfl, hn⟩ | ⟨g, cap, cur, rfl, hb, hh, hc1, hc2, hc3, hc4⟩
  · exact .inl ⟨rfl, List.eq_nil_of_length_eq_zero hn⟩
  · refine .inr ⟨g, cap, rfl, hb, (Array.getElem?_eq_some_iff.1 hh).1, fun j x hx => ?_, fun j => ?_⟩
    · have hj : j < (elsV l).length := (List.getElem?_eq_some_iff.1 hx).1
      rw [elsV_len] at hj
      rw [← hc4, List.getElem?_take_of_lt (by omega)] at hx
      simp only [World.cell?, hh]
      simpa using hx
    · simp [World.frozen?, hh]
theorem EOwn.els {w : World} {base : Nat} {v : Value} {l : List El} (h : EOwn w base v l) : Els w.heap.size w v l := by
  rcases h.form with h | ⟨g, cap, rfl, hb, hlt, hc, _⟩
  · exact .inl ⟨none, 0, h⟩
  · refine .inr ⟨g, 0, cap, rfl, hlt, fun j hj => ?_⟩
    obtain ⟨h0, h1, h2, h3⟩ := elsV_at l j hj
    rw [Nat.zero_add]
    exact ⟨hc _ _ h0, hc _ _ h1, hc _ _ h2, hc _ _ h3⟩
theorem Els.at {n₀ : Nat} {w : World} {a : Option Addr} {k cap : Nat} {l : List El} (h : Els n₀ w (.slice a k cap) l) {j : Nat} (hj : j < l.length) : ∃ b off, a = some ⟨b, off, none⟩ ∧
    w.cell? ⟨b, off + j * 4, none⟩ = some (.bool l[j].va) ∧ w.cell? ⟨b, off + j * 4 + 1, none⟩ = some (.int .i64 l[j].pr) ∧ w.cell? ⟨b, off + j * 4 + 2, none⟩ = some (.int .i64 l[j].se) ∧ w.cell? ⟨b, off + j * 4 + 3, none⟩ = some (.int .i64 l[j].te) := by
  rcases h with ⟨a', cap', e, rfl⟩ | ⟨b, off, cap', e, hlt, hc⟩
  · simp at hj
  · cases e
    exact ⟨b, off, rfl, hc j hj⟩
set_option maxHeartbeats 1000000 in
theorem isRight_any (e : El) (w : World) : Calls Tryz.prog 125 #[elA e] w fun r w' => r = .returned (.bool (rightB e)) ∧ Below w.heap.size w w' := by
  obtain ⟨va, pr, se, te⟩ := e
  have hb0 := (Below.refl w.heap.size w).alloc (Nat.le_refl _) (.cells #[.bool va, .int .i64 pr, .int .i64 se, .int .i64 te] 131)
  cases h1 : wtB pr with
  | false =>
    have hR : rightB ⟨va, pr, se, te⟩ = false := by simp [rightB, h1]
    rw [hR]
    have c1 := fun w => isWeight_any pr w
    rw [h1] at c1
    clear hR h1
    go_enter Tryz.func125, Tryz.ntmps125
    go_wp2_with fail
    refine (c1 _).mono ?_
    rintro _ w1 ⟨rfl, rfl⟩
    go_wp2
    go_ret
    exact ⟨rfl, hb0⟩
  | true =>
    have c1 := fun w => isWeight_any pr w
    rw [h1] at c1
    cases h2 : wtB se with
    | false =>
      have hR : rightB ⟨va, pr, se, te⟩ = false := by simp [rightB, h2]
      rw [hR]
      have c2 := fun w => isWeight_any se w
      rw [h2] at c2
      clear hR h1 h2
      go_enter Tryz.func125, Tryz.ntmps125
      go_wp2_with fail
      refine (c1 _).mono ?_
      rintro _ w1 ⟨rfl, rfl⟩
      go_wp2_with fail
      refine (c2 _).mono ?_
      rintro _ w1 ⟨rfl, rfl⟩
      go_wp2
      go_ret
      exact ⟨rfl, hb0⟩
    | true =>
      have c2 := fun w => isWeight_any se w
      rw [h2] at c2
      cases h3 : wtB te with
      | false =>
        have hR : rightB ⟨va, pr, se, te⟩ = false := by simp [rightB, h3]
        rw [hR]
        have c3 := fun w => isWeight_any te w
        rw [h3] at c3
        clear hR h1 h2 h3
        go_enter Tryz.func125, Tryz.ntmps125
        go_wp2_with fail
        refine (c1 _).mono ?_
        rintro _ w1 ⟨rfl, rfl⟩
        go_wp2_with fail
        refine (c2 _).mono ?_
        rintro _ w1 ⟨rfl, rfl⟩
        go_wp2_with fail
        refine (c3 _).mono ?_
        rintro _ w1 ⟨rfl, rfl⟩
        go_wp2
        go_ret
        exact ⟨rfl, hb0⟩
      | true =>
        have c3 := fun w => isWeight_any te w
        rw [h3] at c3
        have hR : rightB ⟨va, pr, se, te⟩ = (decide (pr ≤ 64319) && !(decide (pr ≠ 0) && decide (se = 0)) && !(decide (se ≠ 0) && decide (te = 0)) && (decide (pr ≠ 0) || !va)) := by simp only [rightB, h1, h2, h3, Bool.true_and]
        generalize hQ : rightB ⟨va, pr, se, te⟩ = Q at hR ⊢
        have HQ : Hid (Q = (decide (pr ≤ 64319) && !(decide (pr ≠ 0) && decide (se = 0)) && !(decide (se ≠ 0) && decide (te = 0)) && (decide (pr ≠ 0) || !va))) := hR
        clear hR hQ h1 h2 h3
        go_enter Tryz.func125, Tryz.ntmps125
        go_wp2_with fail
        refine (c1 _).mono ?_
        rintro _ w1 ⟨rfl, rfl⟩
        go_wp2_with fail
        refine (c2 _).mono ?_
        rintro _ w1 ⟨rfl, rfl⟩
        go_wp2_with fail
        refine (c3 _).mono ?_
        rintro _ w1 ⟨rfl, rfl⟩
        go_wp2
        all_goals go_ret
        all_goals refine ⟨?_, (Below.refl _ _).alloc (Nat.le_refl _) _⟩
        all_goals rw [HQ.out]
        all_goals clear HQ c1 c2 c3 hb0
        all_goals by_cases ht : te = 0
        all_goals first
          | (simp [*]; done)
          | (simp; omega)
          | (cases va <;> simp [*]; done)
          | (exfalso; simp_all; done)
end Go.Proofs.YtfhpgmlfgjfknaaGreatDoor
