/- What dovetailref04.Data's place does (a contract; nothing is claimed here). · What dovetailref04.Data's Mark and Class do (contracts; nothing is claimed here). · What dovetailref04.Data's whole answers, as a plain function (nothing is claimed here). -/
import Derived.Test.YtadbkkakjekopaaDoorRefM
namespace Go.Proofs.YtadbkkakjekopaaDoor
open Go.RowKit Go.Vf Go.Maps

/-- Where a point stands, or would stand. -/
structure PlaceAt (l : List PM) (p : Int) (k : Nat) : Prop where
  le : k ≤ l.length
  lo : ∀ i (h : i < l.length), i < k → (l[i]).point < p
  hi : ∀ i (h : i < l.length), k ≤ i → p ≤ (l[i]).point
def PlacePost (l : List PM) (p : Int) (w : World) (e : Ending) (w' : World) : Prop := ∃ (k : Nat) (b : Bool), PlaceAt l p k ∧ e = .returned (.tuple #[.int .i64 k, .bool b]) ∧ ((b = true ∧ ∃ h : k < l.length, (l[k]).point = p) ∨ (b = false ∧ ∀ i (h : i < l.length), (l[i]).point ≠ p)) ∧ Below w.heap.size w w'
theorem results32_run {tmps : Array Value} {w : World} {a b : Value} (t2 : tmps[4]?.getD undef = a) (t3 : tmps[5]?.getD undef = b) : (results Tryd.f29 tmps).run Tryd.prog w = .ok (.tuple #[a, b]) w := by
  simp [results, Tryd.results29, go_sem, t2, t3]
theorem rise_at {l : List PM} (h : (l.map PM.point).Pairwise (· < ·)) {i j : Nat} (hi : i < l.length) (hj : j < l.length) (hij : i < j) : (l[i]).point < (l[j]).point := by
  have := List.pairwise_iff_getElem.1 h i j (by simpa using hi) (by simpa using hj) hij
  simpa using this

set_option maxHeartbeats 4000000 in
set_option maxRecDepth 20000 in
theorem refPlace_any (l : List PM) (hrise : (l.map PM.point).Pairwise (· < ·)) (hll : l.length ≤ 1048576) (v : Value) (p : Int) (n₀ : Nat) (w : World) (hn₀ : n₀ ≤ w.heap.size) (hin : MIn n₀ w v l) :
    Calls Tryd.prog 29 #[.agg #[v], .int .i64 p] w fun e w' => PlacePost l p w e w' := by
  obtain ⟨a, cap, rfl⟩ := hin.val
  have hb0 := (Below.refl w.heap.size w).alloc (Nat.le_refl _) (.cells #[.slice a l.length cap] 29)
  have hbn := Blk.new w 29 #[.slice a l.length cap]
  have hin0 := hin.below hb0 hn₀
  go_enter Tryd.func29, Tryd.ntmps29
  go_upto_region 1 with fail
  generalize w.alloc (.cells #[.slice a l.length cap] 29) = W at hb0 hbn hin0 ⊢
  have e0 : W.cell? ⟨w.heap.size, 0, none⟩ = some (.slice a l.length cap) := hbn.cell 0
  go_wp2_with fail
  go_loopw [6, 7, 8] (fun x y _ wr => ∃ (lo hi : Nat), lo ≤ hi ∧ hi ≤ l.length ∧ x = .int .i64 lo ∧ y = .int .i64 hi ∧ Hid ((∀ i (h : i < l.length), i < lo → (l[i]).point < p) ∧ (∀ i (h : i < l.length), hi ≤ i → p ≤ (l[i]).point)) ∧ wr = W) (fun x y _ _ => (intOf y).toNat - (intOf x).toNat)
  case atStart => exact ⟨0, l.length, by omega, by omega, rfl, rfl, ⟨fun i h h2 => absurd h2 (by omega), fun i h h2 => absurd h (by omega)⟩, rfl⟩
  case round =>
    obtain ⟨lo, hi, hle, hhi, rfl, rfl, HI, rfl⟩ := hrel
    by_cases hlt : lo < hi
    · have hmid : (lo + hi) / 2 < l.length := by omega
      obtain ⟨b, off, hao, pa, pk, pc, c0, _⟩ := hin0.at hmid
      subst hao
      have HL : Hid (∀ i (h : i < l.length), i < (lo + hi) / 2 + 1 → (l[i]).point < p ∨ (l[(lo + hi) / 2]).point ≥ p) := fun i h h2 => by
        by_cases hp : (l[(lo + hi) / 2]).point < p
        · left
          rcases Nat.lt_or_ge i ((lo + hi) / 2) with h3 | h3
          · have := rise_at hrise h hmid h3; omega
          · obtain rfl : i = (lo + hi) / 2 := by omega
            exact hp
        · right; omega
      have HH : Hid (∀ i (h : i < l.length), (lo + hi) / 2 ≤ i → p ≤ (l[i]).point ∨ (l[(lo + hi) / 2]).point < p) := fun i h h2 => by
        by_cases hp : (l[(lo + hi) / 2]).point < p
        · right; exact hp
        · left
          rcases Nat.lt_or_ge ((lo + hi) / 2) i with h3 | h3
          · have := rise_at hrise hmid h h3; omega
          · obtain rfl : i = (lo + hi) / 2 := by omega
            omega
      generalize (l[(lo + hi) / 2]).point = pt at c0 HL HH
      have hm1 : lo ≤ (lo + hi) / 2 ∧ (lo + hi) / 2 < hi := by omega
      obtain ⟨M, hM⟩ : ∃ M, (lo + hi) / 2 = M := ⟨_, rfl⟩
      have hMi : ((lo : Int) + (hi : Int)) / 2 = (M : Int) := by omega
      rw [hM] at c0 HL HH hm1 hmid
      by_cases hp : pt < p
      · have HI2 : Hid ((∀ i (h : i < l.length), i < M + 1 → (l[i]).point < p) ∧ (∀ i (h : i < l.length), hi ≤ i → p ≤ (l[i]).point)) := ⟨fun i h h2 => (HL.out i h h2).resolve_right (by omega), HI.out.2⟩
        clear HI HL HH hM
        go_wp2_with fail
        exact ⟨⟨M + 1, hi, by omega, by omega, by go_num, rfl, HI2, trivial⟩, by simp only [intOf]; omega⟩
      · have HI2 : Hid ((∀ i (h : i < l.length), i < lo → (l[i]).point < p) ∧ (∀ i (h : i < l.length), M ≤ i → p ≤ (l[i]).point)) := ⟨HI.out.1, fun i h h2 => (HH.out i h h2).resolve_right hp⟩
        clear HI HL HH hM
        go_wp2_with fail
        exact ⟨⟨lo, M, by omega, by omega, rfl, congrArg (Value.int .i64) hMi, HI2, trivial⟩, by simp only [intOf]; omega⟩
    · obtain rfl : hi = lo := by omega
      have HPA : Hid (PlaceAt l p hi) := ⟨hhi, HI.out.1, HI.out.2⟩
      clear HI
      by_cases hk : hi < l.length
      · obtain ⟨b, off, hao, pa, pk, pc, c0, _⟩ := hin0.at hk
        subst hao
        obtain ⟨pt, hpt⟩ : ∃ pt, (l[hi]).point = pt := ⟨_, rfl⟩
        have HPT : Hid ((l[hi]).point = pt) := hpt
        rw [hpt] at c0
        clear hpt
        have d1 : decide ((hi : Int) < (l.length : Int)) = true := by simp; omega
        by_cases hp : pt = p
        · have d2 : (pt == p) = true := by simp [hp]
          have HY : Hid (∃ h : hi < l.length, (l[hi]).point = p) := ⟨hk, by rw [HPT.out, hp]⟩
          clear hp
          go_wp2_with fail
          go_quiet (fail)
          go_wp2
          refine bodyPost_ret (results32_run rfl rfl) rfl ?_
          exact ⟨hi, true, HPA.out, rfl, .inl ⟨rfl, HY.out⟩, hb0.trans (below_drewN wr _ _)⟩
        · have d2 : (pt == p) = false := by simp [hp]
          have HN : Hid (∀ i (h : i < l.length), (l[i]).point ≠ p) := fun i h e => by
            rcases Nat.lt_or_ge i hi with h1 | h1
            · have := HPA.out.lo i h h1; omega
            · rcases Nat.lt_or_ge hi i with h2 | h2
              · have h3 := rise_at hrise hk h h2
                have h4 := HPA.out.hi hi hk (Nat.le_refl _)
                omega
              · obtain rfl : i = hi := by omega
                exact hp (HPT.out.symm.trans e)
          clear hp
          go_wp2_with fail
          go_quiet (fail)
          go_wp2
          refine bodyPost_ret (results32_run rfl rfl) rfl ?_
          exact ⟨hi, false, HPA.out, rfl, .inr ⟨rfl, HN.out⟩, hb0.trans (below_drewN wr _ _)⟩
      · have d1 : decide ((hi : Int) < (l.length : Int)) = false := by simp; omega
        have HN : Hid (∀ i (h : i < l.length), (l[i]).point ≠ p) := fun i h e => by
          have := HPA.out.lo i h (by omega); omega
        go_wp2_with fail
        go_quiet (fail)
        go_wp2
        refine bodyPost_ret (results32_run rfl rfl) rfl ?_
        exact ⟨hi, false, HPA.out, rfl, .inr ⟨rfl, HN.out⟩, hb0.trans (below_drewN wr _ _)⟩

end Go.Proofs.YtadbkkakjekopaaDoor

namespace Go.Proofs.YtadbkkakjekopaaDoor
open Go.RowKit Go.Vf Go.Maps

def pmAt (l : List PM) (p : Int) : Option PM := l.find? (fun m => m.point == p)
def clsP (l : List PM) (p : Int) : Int := ((pmAt l p).map PM.cls).getD 0
def partsP (l : List PM) (p : Int) : List Int := ((pmAt l p).map PM.parts).getD []
theorem pmAt_at {l : List PM} (h : (l.map PM.point).Pairwise (· < ·)) {k : Nat} (hk : k < l.length) {p : Int} (hp : (l[k]).point = p) : pmAt l p = some l[k] := by
  unfold pmAt
  rw [List.find?_eq_some_iff_getElem]
  refine ⟨by simpa using hp, k, hk, rfl, fun j hj => ?_⟩
  have := rise_at h (by omega) hk hj
  simp
  omega
theorem pmAt_no {l : List PM} {p : Int} (h : ∀ i (h : i < l.length), (l[i]).point ≠ p) : pmAt l p = none := by
  unfold pmAt
  rw [List.find?_eq_none]
  intro x hx
  obtain ⟨i, hi, rfl⟩ := List.mem_iff_getElem.1 hx
  simpa using h i hi

theorem mark_results {tmps : Array Value} {w : World} {h : Nat} {x y z : Value} (hb : Blk w h 61 #[x, y, z]) (t2 : tmps[4]?.getD undef = .pointer (some ⟨h, 0, none⟩)) :
    (results Tryd.f48 tmps).run Tryd.prog w = .ok (.agg #[x, y, z]) w := by
  have c0 : w.cell? ⟨h, 0, none⟩ = some x := hb.cell 0
  have c1 : w.cell? ⟨h, 1, none⟩ = some y := hb.cell 1
  have c2 : w.cell? ⟨h, 2, none⟩ = some z := hb.cell 2
  simp [results, Tryd.results48, go_sem, t2, c0, c1, c2]

def RMarkPost (l : List PM) (p : Int) (n₀ : Nat) (w : World) (e : Ending) (w' : World) : Prop := Below w.heap.size w w' ∧ ∃ pa pk pc, e = .returned (.agg #[.int .i64 p, .int .i64 (clsP l p), .slice pa pk pc]) ∧ Ints n₀ w' (.slice pa pk pc) (partsP l p)

set_option maxHeartbeats 4000000 in
set_option maxRecDepth 20000 in
theorem refMark_any (l : List PM) (hrise : (l.map PM.point).Pairwise (· < ·)) (hll : l.length ≤ 1048576) (v : Value) (p : Int) (n₀ : Nat) (w : World) (hn₀ : n₀ ≤ w.heap.size) (hin : MIn n₀ w v l) :
    Calls Tryd.prog 48 #[.agg #[v], .int .i64 p] w fun e w' => RMarkPost l p n₀ w e w' := by
  obtain ⟨a, cap, rfl⟩ := hin.val
  have hb0 := ((Below.refl w.heap.size w).alloc (Nat.le_refl _) (.cells #[.slice a l.length cap] 29)).alloc (by simp) (.cells #[.int .i64 0, .int .i64 0, .slice none 0 0] 61)
  have hn1 : Blk ((w.alloc (.cells #[.slice a l.length cap] 29)).alloc (.cells #[.int .i64 0, .int .i64 0, .slice none 0 0] 61)) w.heap.size 29 #[.slice a l.length cap] := (Below.heap_alloc _ _ _ (by simp)).trans (Blk.new w 29 _)
  have hn2 : Blk ((w.alloc (.cells #[.slice a l.length cap] 29)).alloc (.cells #[.int .i64 0, .int .i64 0, .slice none 0 0] 61)) (w.heap.size + 1) 61 #[.int .i64 0, .int .i64 0, .slice none 0 0] := by
    have := Blk.new (w.alloc (.cells #[.slice a l.length cap] 29)) 61 #[.int .i64 0, .int .i64 0, .slice none 0 0]
    simpa using this
  have hin0 := hin.below hb0 hn₀
  go_enter Tryd.func48, Tryd.ntmps48
  go_upto_region 1 with fail
  generalize (w.alloc (.cells #[.slice a l.length cap] 29)).alloc (.cells #[.int .i64 0, .int .i64 0, .slice none 0 0] 61) = W at hb0 hn1 hn2 hin0 ⊢
  have e0 : W.cell? ⟨w.heap.size, 0, none⟩ = some (.slice a l.length cap) := hn1.cell 0
  go_wp2_with fail
  refine (refPlace_any l hrise hll _ p n₀ W (Nat.le_trans hn₀ hb0.size) hin0).mono ?_
  rintro e w1 ⟨k, bb, hpa, rfl, hb, hb1⟩
  have hr1 := hn2.below hb1 hn2.lt
  have hd1 := hn1.below hb1 hn1.lt
  have e1 : w1.cell? ⟨w.heap.size, 0, none⟩ = some (.slice a l.length cap) := hd1.cell 0
  have hbw := hb0.trans (hb1.mono hb0.size)
  have hin1 := hin0.below hb1 (Nat.le_trans hn₀ hb0.size)
  obtain ⟨⟨r0, r1, r2⟩, rz0, rz1, rz2⟩ := three_of hr1
  clear e0 hn1 hn2 hin0 hpa
  rcases hb with ⟨rfl, hk, hp⟩ | ⟨rfl, hno⟩
  · have HPM : Hid (pmAt l p = some l[k]) := pmAt_at hrise hk hp
    obtain ⟨b, off, hao, pa, pk, pc, c0, c1, c2, hpi⟩ := hin1.at hk
    subst hao
    rw [hp] at c0
    have HC : Hid (clsP l p = (l[k]).cls ∧ partsP l p = (l[k]).parts) := by
      show _ ∧ _
      unfold clsP partsP
      rw [HPM.out]
      exact ⟨rfl, rfl⟩
    clear HPM hp
    generalize l[k] = mm at c0 c1 c2 hpi HC
    go_wp2_with fail
    refine bodyPost_ret (mark_results (hr1.set3 _ _ _) rfl) rfl ?_
    refine ⟨hbw.trans (below_set3 (show w.heap.size ≤ w.heap.size + 1 by omega)), pa, pk, pc, by rw [HC.out.1], ?_⟩
    rw [HC.out.2]
    exact hpi.below (below_set3 (show w.heap.size ≤ w.heap.size + 1 by omega)) hn₀
  · have HPM := pmAt_no hno
    have HC : Hid (clsP l p = 0 ∧ partsP l p = []) := by
      show _ ∧ _
      unfold clsP partsP
      rw [HPM]
      exact ⟨rfl, rfl⟩
    clear HPM hno
    go_wp2_with fail
    refine bodyPost_ret (mark_results (hr1.set3 _ _ _) rfl) rfl ?_
    refine ⟨hbw.trans (below_set3 (show w.heap.size ≤ w.heap.size + 1 by omega)), none, 0, 0, by rw [HC.out.1], ?_⟩
    rw [HC.out.2]
    exact .inl ⟨_, _, rfl, rfl⟩

end Go.Proofs.YtadbkkakjekopaaDoor

namespace Go.Vf
/-- Parts to the end behind others, no more than so many and one. -/
def whF (G : Int → List Int) (lim : Nat) : Nat → List Int → Int → List Int
  | 0, out, p => if lim < out.length then out else out ++ [p]
  | k + 1, out, p => if lim < out.length then out else if G p = [] then out ++ [p] else (G p).foldl (fun o q => whF G lim k o q) out
theorem foldl_stop (G : Int → List Int) (lim k : Nat) (h : ∀ out p, lim < out.length → whF G lim k out p = out) : ∀ (l : List Int) (out : List Int), lim < out.length → l.foldl (fun o q => whF G lim k o q) out = out := by
  intro l
  induction l with
  | nil => intro out _; rfl
  | cons a r ih => intro out ho; rw [List.foldl_cons, h out a ho]; exact ih out ho
theorem whF_stop (G : Int → List Int) (lim k : Nat) (out : List Int) (p : Int) (h : lim < out.length) : whF G lim k out p = out := by
  cases k <;> simp [whF, h]
theorem take_app (n : Nat) (a b : List Int) (h : a.length ≤ n) : ((a.take n) ++ b).take n = (a ++ b).take n := by rw [List.take_of_length_le h]
theorem whF_eq (G : Int → List Int) (lim : Nat) : ∀ (k : Nat) (out : List Int) (p : Int), out.length ≤ lim → whF G lim k out p = (out ++ wh G k p).take (lim + 1) := by
  intro k
  induction k with
  | zero =>
    intro out p h
    rw [whF, if_neg (by omega), wh, List.take_of_length_le (by simp; omega)]
  | succ k ih =>
    intro out p h
    rw [whF, if_neg (by omega), wh]
    split
    · rw [List.take_of_length_le (by simp; omega)]
    · have key : ∀ (l : List Int) (out : List Int), out.length ≤ lim → l.foldl (fun o q => whF G lim k o q) out = (out ++ l.flatMap (wh G k)).take (lim + 1) := by
        intro l
        induction l with
        | nil => intro out ho; simp; rw [List.take_of_length_le (by omega)]
        | cons a r ihr =>
          intro out ho
          rw [List.foldl_cons, ih out a ho, List.flatMap_cons, ← List.append_assoc]
          by_cases hl : (out ++ wh G k a).length ≤ lim
          · rw [List.take_of_length_le (by omega), ihr _ hl]
          · rw [foldl_stop G lim k (fun o q ho => whF_stop G lim k o q ho) r _ (by rw [List.length_take]; omega), List.take_append_of_le_length (l₁ := out ++ wh G k a) (by omega)]
      exact key (G p) out h
theorem whF_grows (G : Int → List Int) (lim : Nat) : ∀ (k : Nat) (out : List Int) (p : Int), out.length ≤ (whF G lim k out p).length := by
  intro k out p
  by_cases h : out.length ≤ lim
  · rw [whF_eq G lim k out p h, List.length_take, List.length_append]
    omega
  · rw [whF_stop G lim k out p (by omega)]
    exact Nat.le_refl _
/-- So many steps lead to the end. -/
def Dep (G : Int → List Int) : Nat → Int → Prop
  | 0, p => G p = []
  | k + 1, p => ∀ q ∈ G p, Dep G k q
theorem Dep.leaf {G : Int → List Int} {p : Int} (h : G p = []) (k : Nat) : Dep G k p := by
  cases k with
  | zero => exact h
  | succ k => intro q hq; rw [h] at hq; simp at hq
theorem Dep.mono {G : Int → List Int} : ∀ {k : Nat} {p : Int}, Dep G k p → Dep G (k + 1) p := by
  intro k
  induction k with
  | zero => intro p h; exact Dep.leaf h 1
  | succ k ih => intro p h q hq; exact ih (h q hq)
theorem Dep.of_topo {G : Int → List Int} {ord : List Int} (ht : Topo G ord) : ∀ (n : Nat) (pre : List Int) (x : Int) (post : List Int), pre.length ≤ n → ord = pre ++ x :: post → Dep G n x := by
  intro n
  induction n with
  | zero =>
    intro pre x post hn hs
    have hp : pre = [] := List.length_eq_zero_iff.1 (by omega)
    cases hG : G x with
    | nil => exact hG
    | cons a r => have := ht pre x post hs a (by rw [hG]; simp); rw [hp] at this; simp at this
  | succ n ih =>
    intro pre x post hn hs q hq
    obtain ⟨p1, p2, e⟩ := List.append_of_mem (ht pre x post hs q hq)
    have hl : p1.length + 1 ≤ pre.length := by rw [e]; simp
    exact ih p1 q (p2 ++ x :: post) (by omega) (by rw [hs, e]; simp)
end Go.Vf
