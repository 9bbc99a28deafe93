/- Contracts and lemmas (nothing is claimed here). -/
import Derived.Test.YtkcnjnccdafbfaaGreatDoorSortD
import Derived.Test.YtkcnjnccdafbfaaGreatDoorJ7
namespace Go.Vf
structure StepA (key : Int → Int) (D0 D : List Int) (a : Nat) (Bs : List (List Int)) (X : List Int) : Prop where
 is : D = Bs.flatten ++ X
 each : ∀ B ∈ Bs, B.length = 20 ∧ SortedK key B
 len : Bs.flatten.length = a
 al : AlikeK key D0 D
structure StepB (key : Int → Int) (D0 D : List Int) (bs a : Nat) (Ds Bs : List (List Int)) (X : List Int) : Prop where
 is : D = Ds.flatten ++ Bs.flatten ++ X
 eachD : ∀ B ∈ Ds, B.length = 2 * bs ∧ SortedK key B
 each : ∀ B ∈ Bs, B.length = bs ∧ SortedK key B
 less : X.length < bs
 rest : SortedK key X
 len : Ds.flatten.length = a
 al : AlikeK key D0 D
theorem StepA.start {key : Int → Int} {D0 : List Int} : StepA key D0 D0 0 [] D0 := ⟨by simp, by simp, rfl, AlikeK.refl _⟩
theorem flatten_snoc {Bs : List (List Int)} {C : List Int} : (Bs ++ [C]).flatten = Bs.flatten ++ C := by simp
theorem StepA.next {key : Int → Int} {D0 D : List Int} {a : Nat} {Bs : List (List Int)} {X C : List Int} (h : StepA key D0 D a Bs X) (hs : SortedK key C) (ha : AlikeK key (X.take 20) C) (hl : C.length = 20) : StepA key D0 (Bs.flatten ++ C ++ X.drop 20) (a + 20) (Bs ++ [C]) (X.drop 20) := by
 refine ⟨by rw [flatten_snoc], ?_, by rw [flatten_snoc, List.length_append, h.len, hl], ?_⟩
 ·
  intro B hB
  rcases List.mem_append.1 hB with hB | hB
  ·
   exact h.each B hB
  ·
   rw [List.mem_singleton] at hB; rw [hB]; exact ⟨hl, hs⟩
 ·
  refine h.al.trans ?_
  rw [h.is, List.append_assoc]
  refine AlikeK.append (AlikeK.refl _) ?_
  have e := (List.take_append_drop 20 X).symm
  generalize X.drop 20 = Y at e ⊢
  rw [e]
  exact AlikeK.append ha (AlikeK.refl _)
theorem StepA.done {key : Int → Int} {D0 D : List Int} {a : Nat} {Bs : List (List Int)} {X C : List Int} (h : StepA key D0 D a Bs X) (hx : X.length < 20) (hs : SortedK key C) (ha : AlikeK key X C) (hl : C.length = X.length) : StepB key D0 (Bs.flatten ++ C) 20 0 [] Bs C := by
 refine ⟨by simp, by simp, h.each, by omega, hs, rfl, ?_⟩
 refine h.al.trans ?_
 rw [h.is]
 exact AlikeK.append (AlikeK.refl _) ha
theorem StepB.pair {key : Int → Int} {D0 D : List Int} {bs a : Nat} {Ds Bs : List (List Int)} {X : List Int} (h : StepB key D0 D bs a Ds Bs X) (hn : a + 2 * bs ≤ D.length) : ∃ B1 B2 Bs', Bs = B1 :: B2 :: Bs' ∧ B1.length = bs ∧ B2.length = bs ∧ SortedK key B1 ∧ SortedK key B2 := by
 have e : D.length = a + Bs.flatten.length + X.length := by rw [h.is, List.length_append, List.length_append, h.len]
 rw [blocks_len h.each] at e
 have hx := h.less
 rcases Bs with _ | ⟨B1, _ | ⟨B2, Bs⟩⟩
 ·
  exfalso; simp at e; omega
 ·
  exfalso; simp at e; omega
 ·
  exact ⟨B1, B2, Bs, rfl, (h.each B1 (by simp)).1, (h.each B2 (by simp)).1, (h.each B1 (by simp)).2, (h.each B2 (by simp)).2⟩
theorem StepB.next {key : Int → Int} {D0 D : List Int} {bs a : Nat} {Ds Bs : List (List Int)} {X B1 B2 C : List Int} (h : StepB key D0 D bs a Ds (B1 :: B2 :: Bs) X) (hs : SortedK key C) (ha : AlikeK key (B1 ++ B2) C) (hl : C.length = 2 * bs) : StepB key D0 (Ds.flatten ++ C ++ (Bs.flatten ++ X)) bs (a + 2 * bs) (Ds ++ [C]) Bs X := by
 refine ⟨by rw [flatten_snoc, List.append_assoc (Ds.flatten ++ C)], ?_, fun B hB => h.each B (by simp [hB]), h.less, h.rest, by rw [flatten_snoc, List.length_append, h.len, hl], ?_⟩
 ·
  intro B hB
  rcases List.mem_append.1 hB with hB | hB
  ·
   exact h.eachD B hB
  ·
   rw [List.mem_singleton] at hB; rw [hB]; exact ⟨hl, hs⟩
 ·
  refine h.al.trans ?_
  have e : D = Ds.flatten ++ (B1 ++ B2) ++ (Bs.flatten ++ X) := by rw [h.is]; simp
  rw [e]
  exact AlikeK.append (AlikeK.append (AlikeK.refl _) ha) (AlikeK.refl _)
theorem StepB.last {key : Int → Int} {D0 D : List Int} {bs a : Nat} {Ds Bs : List (List Int)} {X : List Int} (h : StepB key D0 D bs a Ds Bs X) (hn : ¬ a + 2 * bs ≤ D.length) (hm : a + bs < D.length) : ∃ B1, Bs = [B1] ∧ B1.length = bs ∧ SortedK key B1 ∧ X ≠ [] := by
 have e : D.length = a + Bs.flatten.length + X.length := by rw [h.is, List.length_append, List.length_append, h.len]
 rw [blocks_len h.each] at e
 have hx := h.less
 rcases Bs with _ | ⟨B1, _ | ⟨B2, Bs⟩⟩
 ·
  exfalso; simp at e; omega
 ·
  refine ⟨B1, rfl, (h.each B1 (by simp)).1, (h.each B1 (by simp)).2, fun e' => ?_⟩
  subst e'; simp at e; omega
 ·
  exfalso
  simp only [List.length_cons] at e
  have : 2 * bs ≤ (Bs.length + 1 + 1) * bs := Nat.mul_le_mul_right _ (by omega)
  omega
theorem StepB.turn {key : Int → Int} {D0 D : List Int} {bs a : Nat} {Ds : List (List Int)} {X B1 C : List Int} (h : StepB key D0 D bs a Ds [B1] X) (hb : B1.length = bs) (hs : SortedK key C) (ha : AlikeK key (B1 ++ X) C) (hl : C.length = (B1 ++ X).length) : StepB key D0 (Ds.flatten ++ C) (2 * bs) 0 [] Ds C := by
 have hx := h.less
 refine ⟨by simp, by simp, h.eachD, by rw [hl, List.length_append]; omega, hs, rfl, ?_⟩
 refine h.al.trans ?_
 have e : D = Ds.flatten ++ (B1 ++ X) := by rw [h.is]; simp
 rw [e]
 exact AlikeK.append (AlikeK.refl _) ha
theorem StepB.over {key : Int → Int} {D0 D : List Int} {bs a : Nat} {Ds Bs : List (List Int)} {X : List Int} (h : StepB key D0 D bs a Ds Bs X) (hm : ¬ a + bs < D.length) : ∃ C, StepB key D0 D (2 * bs) 0 [] Ds C := by
 have e : D.length = a + Bs.flatten.length + X.length := by rw [h.is, List.length_append, List.length_append, h.len]
 rw [blocks_len h.each] at e
 have hx := h.less
 rcases Bs with _ | ⟨B1, _ | ⟨B2, Bs⟩⟩
 ·
  exact ⟨X, by rw [h.is]; simp, by simp, h.eachD, by omega, h.rest, rfl, h.al⟩
 ·
  have hX : X = [] := List.length_eq_zero_iff.1 (by simp at e; omega)
  subst hX
  have h1 := h.each B1 (by simp)
  exact ⟨B1, by rw [h.is]; simp, by simp, h.eachD, by omega, h1.2, rfl, h.al⟩
 ·
  exfalso
  simp only [List.length_cons] at e
  have : 2 * bs ≤ (Bs.length + 1 + 1) * bs := Nat.mul_le_mul_right _ (by omega)
  omega
theorem StepB.end {key : Int → Int} {D0 D : List Int} {bs : Nat} {Bs : List (List Int)} {X : List Int} (h : StepB key D0 D bs 0 [] Bs X) (hn : D.length ≤ bs) : SortedK key D ∧ AlikeK key D0 D :=
 ⟨Blocks.done (Bs := Bs) (R := X) ⟨by rw [h.is]; simp, h.each, h.less, h.rest⟩ hn, h.al⟩
end Go.Vf
namespace Go.Proofs.YtkcnjnccdafbfaaGreatDoor
open Go.Shelf Go.RowKit Go.Lib Go.Sort Go.Vf
def StablePost (key : Int → Int) (w0 : World) (blk off n : Nat) (D0 : List Int) (e : Ending) (w' : World) : Prop := e = .returned (.tuple #[]) ∧ ∃ C, SL w0 blk off n C w' ∧ SortedK key C ∧ AlikeK key D0 C
theorem SL.piece {w0 W : World} {blk off n : Nat} {D : List Int} (h : SL w0 blk off n D W) {P A Q C : List Int} {w' : World} (hD : D = P ++ A ++ Q) (g : SL w0 blk off n (P ++ C ++ Q) w') : C.length = A.length := by
 have h1 := h.len
 have h2 := g.len
 rw [hD] at h1
 simp only [List.length_append] at h1 h2
 omega
set_option maxHeartbeats 16000000 in
set_option maxRecDepth 100000 in
theorem stable_any {w0 : World} {blk off n : Nat} (R : RowN w0 blk off n) (hn : n < 1152921504606846976) {g : Nat} {cb : Array Value} {key : Int → Int} (eg : ∀ args w, (callFunc g args).run Tryz.prog w = .ok (.enter g args) w) (hC : CmpOk g cb key w0 blk off n) {D0 : List Int} (cap : Nat) (w : World)
  (S : SL w0 blk off n D0 w) :
  Calls Tryz.prog 89 #[.slice (some ⟨blk, off, none⟩) n cap, .int .i64 n, .func (.func g) #[] cb] w fun e w' => StablePost key w0 blk off n D0 e w' := by
 have S0 : Aside (SL w0 blk off n D0 w) := S
 have H0 : Hid (StepA key D0 D0 0 [] D0) := StepA.start
 have hI : ∀ (P A Q D : List Int) (a b : Nat) (w : World), SL w0 blk off n D w → D = P ++ A ++ Q → P.length = a → a + A.length = b → Calls Tryz.prog 105 #[.slice (some ⟨blk, off, none⟩) n cap, .int .i64 a, .int .i64 b, .func (.func g) #[] cb] w fun e w' => SortPost key w0 blk off n P A Q e w' := fun P A Q D a b w h1 h2 h3 h4 => insertion_any R (by omega) eg hC cap a b w h1 h2 h3 h4
 have hY : ∀ N, SymSays key w0 blk off n g cb N := symMerge_any R (by omega) eg hC
 have HI : Aside _ := hI
 have HY : Aside _ := hY
 clear S hI hY hC
 go_enter Tryz.func89, Tryz.ntmps89
 go_wp2
 go_loopg [7, 8] n (fun g1 va vb wr => ∃ (a b : Nat) (D : List Int) (Bs : List (List Int)) (X : List Int), va = .int .i64 a ∧ vb = .int .i64 b ∧ a ≤ n ∧ n - a ≤ g1 ∧ Hid (b = a + 20) ∧ Aside (SL w0 blk off n D wr) ∧ Hid (StepA key D0 D a Bs X))
 case atStart => exact ⟨0, 20, D0, [], D0, rfl, rfl, Nat.zero_le _, by omega, rfl, S0, H0⟩
 case round =>
  clear S0 H0
  obtain ⟨a, b, D, Bs, X, rfl, rfl, han, hg1, HB, S1, H1⟩ := hrel
  have hlen : a + X.length = n := by
   have h1 := S1.out.len
   rw [H1.out.is, List.length_append, H1.out.len] at h1
   exact h1
  have hb := HB.out
  by_cases hlt : b ≤ n
  ·
   have hltz : (b : Int) ≤ (n : Int) := by omega
   have hS := HI.out Bs.flatten (X.take 20) (X.drop 20) D a b wr S1.out (by rw [H1.out.is, List.append_assoc, List.take_append_drop]) H1.out.len (by rw [List.length_take]; omega)
   have hP : ∀ C w', SL w0 blk off n (Bs.flatten ++ C ++ X.drop 20) w' → SortedK key C → AlikeK key (X.take 20) C → StepA key D0 (Bs.flatten ++ C ++ X.drop 20) b (Bs ++ [C]) (X.drop 20) := fun C w' h1 h2 h3 => by
    have := S1.out.piece (P := Bs.flatten) (A := X.take 20) (Q := X.drop 20) (by rw [H1.out.is, List.append_assoc, List.take_append_drop]) h1
    rw [List.length_take] at this
    rw [hb]
    exact H1.out.next h2 h3 (by omega)
   have HP : Aside _ := hP
   obtain ⟨b2, hb2⟩ : ∃ q, q = b + 20 := ⟨_, rfl⟩
   have zb2 : (b : Int) + 20 = (b2 : Int) := by omega
   have HB2 : Hid (b2 = b + 20) := hb2
   clear hP S1 H1 hlen hb hb2
   go_wp2_with fail
   refine hS.mono ?_
   rintro e w2 ⟨rfl, C, S2, g1, g2⟩
   have H2 : Hid (StepA key D0 (Bs.flatten ++ C ++ X.drop 20) b (Bs ++ [C]) (X.drop 20)) := HP.out C w2 S2 g1 g2
   have S2 : Aside (SL w0 blk off n (Bs.flatten ++ C ++ X.drop 20) w2) := S2
   generalize Bs.flatten ++ C ++ X.drop 20 = D2 at S2 H2
   clear g1 g2 hS HP
   go_wp2
   go_roundg (n - b)
   case measure => have := HB.out; omega
   case rel => exact ⟨b, b2, D2, _, _, rfl, by first | rfl | (congr 1), hlt, Nat.le_refl _, HB2, S2, H2⟩
  ·
   have hltz : ¬ (b : Int) ≤ (n : Int) := by omega
   have hS := HI.out Bs.flatten X [] D a n wr S1.out (by rw [H1.out.is]; simp) H1.out.len hlen
   have hP : ∀ C w', SL w0 blk off n (Bs.flatten ++ C ++ []) w' → SortedK key C → AlikeK key X C → StepB key D0 (Bs.flatten ++ C ++ []) 20 0 [] Bs C := fun C w' h1 h2 h3 => by
    have := S1.out.piece (P := Bs.flatten) (A := X) (Q := []) (by rw [H1.out.is]; simp) h1
    rw [List.append_nil]
    exact H1.out.done (by omega) h2 h3 this
   have HP : Aside _ := hP
   clear hP S1 H1 hlen hb
   go_wp2_with fail
   refine hS.mono ?_
   rintro e w2 ⟨rfl, C, S2, g1, g2⟩
   have H2 : Hid (StepB key D0 (Bs.flatten ++ C ++ []) 20 0 [] Bs C) := HP.out C w2 S2 g1 g2
   have S2 : Aside (SL w0 blk off n (Bs.flatten ++ C ++ []) w2) := S2
   generalize Bs.flatten ++ C ++ [] = D2 at S2 H2
   clear g1 g2 hS HP HB
   go_wp2
   go_loopg [6] n (fun g2 vs wr => ∃ (bs : Nat) (D : List Int) (Bs : List (List Int)) (X : List Int), vs = .int .i64 bs ∧ 0 < bs ∧ n - bs ≤ g2 ∧ Aside (SL w0 blk off n D wr) ∧ Hid (StepB key D0 D bs 0 [] Bs X))
   case atStart => exact ⟨20, D2, Bs, C, rfl, by omega, by omega, S2, H2⟩
   case round =>
    clear S2 H2
    obtain ⟨bs, D, Bs, X, rfl, hbs, hg2, S1, H1⟩ := hrel
    by_cases hlt : bs < n
    ·
     have hltz : (bs : Int) < (n : Int) := by omega
     obtain ⟨b0, hb0⟩ : ∃ q, q = 2 * bs := ⟨_, rfl⟩
     have zb0 : 2 * (bs : Int) = (b0 : Int) := by omega
     have zb1 : (bs : Int) * 2 = (b0 : Int) := by omega
     have hb0n : b0 < 2 * n := by omega
     have HB0 : Hid (b0 = 2 * bs) := hb0
     clear hb0
     go_wp2
     go_loopg [7, 8] n (fun g3 va vb wr => ∃ (a b : Nat) (D : List Int) (Ds Bs : List (List Int)) (X : List Int), va = .int .i64 a ∧ vb = .int .i64 b ∧ a ≤ n ∧ n - a ≤ g3 ∧ Hid (b = a + 2 * bs) ∧ Aside (SL w0 blk off n D wr) ∧ Hid (StepB key D0 D bs a Ds Bs X))
     case atStart => exact ⟨0, b0, D, [], Bs, X, rfl, rfl, Nat.zero_le _, by omega, by rw [HB0.out]; show _ = _; omega, S1, H1⟩
     case round =>
      clear S1 H1
      obtain ⟨a, b, D, Ds, Bs, X, rfl, rfl, han, hg3, HB, S1, H1⟩ := hrel
      have hDn := S1.out.len
      have hb := HB.out
      obtain ⟨m, hm⟩ : ∃ q, q = a + bs := ⟨_, rfl⟩
      have zm : (a : Int) + (bs : Int) = (m : Int) := by omega
      by_cases hle : b ≤ n
      ·
       have hlez : (b : Int) ≤ (n : Int) := by omega
       obtain ⟨B1, B2, Bs', rfl, l1, l2, s1, s2⟩ := H1.out.pair (by omega)
       have hD : D = Ds.flatten ++ B1 ++ B2 ++ (Bs'.flatten ++ X) := by rw [H1.out.is]; simp
       have hS := HY.out (b - a) Ds.flatten B1 B2 (Bs'.flatten ++ X) D cap a m b wr (Nat.le_refl _) S1.out hD H1.out.len (by omega) (by omega) (by omega) (by omega) s1 s2
       have hP : ∀ C w', SL w0 blk off n (Ds.flatten ++ C ++ (Bs'.flatten ++ X)) w' → SortedK key C → AlikeK key (B1 ++ B2) C → StepB key D0 (Ds.flatten ++ C ++ (Bs'.flatten ++ X)) bs b (Ds ++ [C]) Bs' X := fun C w' h1 h2 h3 => by
        have := S1.out.piece (P := Ds.flatten) (A := B1 ++ B2) (Q := Bs'.flatten ++ X) (by rw [hD]; simp) h1
        rw [List.length_append] at this
        rw [hb]
        exact H1.out.next h2 h3 (by omega)
       have HP : Aside _ := hP
       obtain ⟨b2, hb2⟩ : ∃ q, q = b + 2 * bs := ⟨_, rfl⟩
       have zb2 : (b : Int) + (b0 : Int) = (b2 : Int) := by have := HB0.out; omega
       have HB2 : Hid (b2 = b + 2 * bs) := hb2
       have hb2n : b2 < 4 * n := by omega
       clear hP S1 H1 hDn hb hb2 hm hD l1 l2 s1 s2
       go_wp2_with fail
       refine hS.mono ?_
       rintro e w2 ⟨rfl, C, S2, g1, g2⟩
       have H2 : Hid (StepB key D0 (Ds.flatten ++ C ++ (Bs'.flatten ++ X)) bs b (Ds ++ [C]) Bs' X) := HP.out C w2 S2 g1 g2
       have S2 : Aside (SL w0 blk off n (Ds.flatten ++ C ++ (Bs'.flatten ++ X)) w2) := S2
       generalize Ds.flatten ++ C ++ (Bs'.flatten ++ X) = D2 at S2 H2
       clear g1 g2 hS HP
       go_wp2
       go_roundg (n - b)
       case measure => have := HB.out; omega
       case rel => exact ⟨b, b2, D2, _, _, _, rfl, by first | rfl | (congr 1), hle, Nat.le_refl _, HB2, S2, H2⟩
      ·
       have hlez : ¬ (b : Int) ≤ (n : Int) := by omega
       by_cases hmn : m < n
       ·
        have hmnz : (m : Int) < (n : Int) := by omega
        obtain ⟨B1, rfl, l1, s1, hX⟩ := H1.out.last (by omega) (by omega)
        have hD : D = Ds.flatten ++ B1 ++ X ++ [] := by rw [H1.out.is]; simp
        have hDl : n = a + bs + X.length := by rw [← hDn, hD]; simp only [List.length_append, H1.out.len, l1, List.length_nil]; omega
        have hX0 : 0 < X.length := List.length_pos_iff.2 hX
        have hS := HY.out (n - a) Ds.flatten B1 X [] D cap a m n wr (Nat.le_refl _) S1.out hD H1.out.len (by omega) (by omega) (by omega) (by omega) s1 H1.out.rest
        have hP : ∀ C w', SL w0 blk off n (Ds.flatten ++ C ++ []) w' → SortedK key C → AlikeK key (B1 ++ X) C → StepB key D0 (Ds.flatten ++ C ++ []) b0 0 [] Ds C := fun C w' h1 h2 h3 => by
         have := S1.out.piece (P := Ds.flatten) (A := B1 ++ X) (Q := []) (by rw [hD]; simp) h1
         rw [HB0.out, List.append_nil]
         exact H1.out.turn l1 h2 h3 this
        have HP : Aside _ := hP
        clear hP S1 H1 hDn hb hm hD l1 s1 hX hDl hX0
        go_wp2_with fail
        refine hS.mono ?_
        rintro e w2 ⟨rfl, C, S2, g1, g2⟩
        have H2 : Hid (StepB key D0 (Ds.flatten ++ C ++ []) b0 0 [] Ds C) := HP.out C w2 S2 g1 g2
        have S2 : Aside (SL w0 blk off n (Ds.flatten ++ C ++ []) w2) := S2
        generalize Ds.flatten ++ C ++ [] = D2 at S2 H2
        clear g1 g2 hS HP
        go_wp2
        go_roundg (n - b0)
        case measure => have := HB0.out; omega
        case rel => exact ⟨b0, D2, _, _, by first | rfl | (congr 1), by have := HB0.out; omega, Nat.le_refl _, S2, H2⟩
       ·
        have hmnz : ¬ (m : Int) < (n : Int) := by omega
        obtain ⟨C, hC2⟩ := H1.out.over (by omega)
        have H2 : Hid (StepB key D0 D b0 0 [] Ds C) := by rw [HB0.out]; exact hC2
        clear H1 hDn hb hm hC2
        go_wp2
        go_roundg (n - b0)
        case measure => have := HB0.out; omega
        case rel => exact ⟨b0, D, _, _, by first | rfl | (congr 1), by have := HB0.out; omega, Nat.le_refl _, S1, H2⟩
    ·
     have hltz : ¬ (bs : Int) < (n : Int) := by omega
     go_wp2
     go_end0
     exact ⟨rfl, D, S1.out, H1.out.end (by rw [S1.out.len]; omega)⟩
set_option maxRecDepth 100000 in
theorem sortStable_any {w0 : World} {blk off n : Nat} (R : RowN w0 blk off n) (hn : n < 1152921504606846976) {g : Nat} {cb : Array Value} {key : Int → Int} (eg : ∀ args w, (callFunc g args).run Tryz.prog w = .ok (.enter g args) w) (hC : CmpOk g cb key w0 blk off n) {D0 : List Int} (cap : Nat) (w : World)
  (S : SL w0 blk off n D0 w) :
  Calls Tryz.prog 51 #[.slice (some ⟨blk, off, none⟩) n cap, .func (.func g) #[] cb] w fun e w' => StablePost key w0 blk off n D0 e w' := by
 have h := stable_any R hn eg hC cap w S
 clear hC S
 go_enter Tryz.func51, Tryz.ntmps51
 go_wp2_with fail
 refine h.mono ?_
 rintro e w' ⟨rfl, h⟩
 go_wp2
 go_end0
 exact ⟨rfl, h⟩
end Go.Proofs.YtkcnjnccdafbfaaGreatDoor
namespace Go.Proofs.YtkcnjnccdafbfaaGreatDoor
open Go.RowKit Go.Vf Go.Maps
theorem isNaN_any (x : Int) (w : World) : Calls Tryz.prog 88 #[.int .i64 x] w fun e w' => e = .returned (.bool false) ∧ w' = w := by
  go_enter Tryz.func88, Tryz.ntmps88
  go_wp2
  go_ret
  exact ⟨rfl, rfl⟩
theorem compare_any (key : Int → Int) (x y : Int) (w : World) : Calls Tryz.prog 49 #[.int .i64 (key x), .int .i64 (key y)] w fun e w' => e = .returned (.int .i64 (cmpK key x y)) ∧ w' = w := by
  generalize hc : cmpK key x y = c
  have HC : Hid (cmpK key x y = c) := hc
  clear hc
  go_enter Tryz.func49, Tryz.ntmps49
  go_wp2_with fail
  refine (isNaN_any (key x) w).mono ?_
  rintro e w1 ⟨rfl, rfl⟩
  go_wp2_with fail
  refine (isNaN_any (key y) w1).mono ?_
  rintro e w2 ⟨rfl, rfl⟩
  by_cases h1 : key x < key y
  · have E : Hid (c = -1) := by show _ = _; rw [← HC.out]; unfold cmpK; rw [if_pos h1]
    go_wp2
    go_ret
    rw [E.out]
    exact ⟨rfl, rfl⟩
  · by_cases h2 : key y < key x
    · have E : Hid (c = 1) := by show _ = _; rw [← HC.out]; unfold cmpK; rw [if_neg h1, if_pos h2]
      go_wp2
      go_ret
      rw [E.out]
      exact ⟨rfl, rfl⟩
    · have E : Hid (c = 0) := by show _ = _; rw [← HC.out]; unfold cmpK; rw [if_neg h1, if_neg h2]
      go_wp2
      go_ret
      rw [E.out]
      exact ⟨rfl, rfl⟩
theorem below_drewQ (w : World) (q : Nat) : Below w.heap.size w (w.drewN q) := ⟨rfl, rfl, rfl, Nat.le_refl _, fun _ _ => rfl⟩
set_option maxHeartbeats 8000000 in
set_option maxRecDepth 20000 in
theorem byClass_any (bx bd : Nat) (L : List Mk) (E : Int → List Int) (x y : Int) (w : World) (hx : InI x) (hy : InI y) (hb : w.cell? ⟨bx, 0, none⟩ = some (.pointer (some ⟨bd, 0, none⟩))) (hd : DataAt w bd L E) :
    Calls Tryz.prog 48 #[.int .i64 x, .int .i64 y, .pointer (some ⟨bx, 0, none⟩)] w fun e w' => e = .returned (.int .i64 (cmpK (classAt L) x y)) ∧ ∃ q, w' = w.drewN q := by
  have hb' : ∀ q, (w.drewN q).cell? ⟨bx, 0, none⟩ = some (.pointer (some ⟨bd, 0, none⟩)) := fun q => hb
  have h1 : ∀ p q, InI p → Calls Tryz.prog 21 #[.pointer (some ⟨bd, 0, none⟩), .int .i64 p] (w.drewN q) fun e w' => e = .returned (.int .i64 (classAt L p)) ∧ w' = w.drewN q := fun p q hp => (class_any bd L E p _ hp (hd.below (below_drewQ w q))).mono fun e w' h => ⟨h.1, h.2.symm⟩
  have h3 : ∀ q, Calls Tryz.prog 49 #[.int .i64 (classAt L x), .int .i64 (classAt L y)] (w.drewN q) fun e w' => e = .returned (.int .i64 (cmpK (classAt L) x y)) ∧ w' = w.drewN q := fun q => compare_any (classAt L) x y _
  generalize cmpK (classAt L) x y = c at h3 ⊢
  generalize classAt L = K at h1 h3
  clear hd hb
  go_enter Tryz.func48, Tryz.ntmps48
  go_wp2_with fail
  go_quiet (first | (go_at_call 21; exact Calls.quiet_of_same (h1 _ _ (by assumption))) | (go_at_call 49; exact Calls.quiet_of_same (h3 _)))
  go_wp2
  go_ret
  exact ⟨rfl, _, rfl⟩
structure RowEnds (cls : Int → Int) (X : List Int) (at0 en : Nat) : Prop where
  le : at0 ≤ en
  top : en ≤ X.length
  none : ∀ i, at0 ≤ i → i < en → cls (X.getD i 0) ≠ 0
  stop : en < X.length → cls (X.getD en 0) = 0
set_option maxHeartbeats 4000000 in
set_option maxRecDepth 20000 in
theorem rowEnd_any (bd : Nat) (L : List Mk) (E : Int → List Int) (a : Option Addr) (kp cap at0 n₀ : Nat) (X : List Int) (w : World) (hX : ∀ q ∈ X, InI q) (hd : DataAt w bd L E) (hin : Ints n₀ w (.slice a kp cap) X) (hkp : kp = X.length) (hkl : kp ≤ 68719476736) (hat : at0 ≤ kp) :
    Calls Tryz.prog 50 #[.pointer (some ⟨bd, 0, none⟩), .slice a kp cap, .int .i64 at0] w fun e w' => ∃ en : Nat, e = .returned (.int .i64 en) ∧ RowEnds (classAt L) X at0 en ∧ w = w' := by
  have HKP : Hid (kp = X.length) := hkp
  have HI : Aside (Ints n₀ w (.slice a kp cap) X) := hin
  have hX' : Aside _ := hX
  have hd' : Aside _ := hd
  clear hkp hin hX hd
  go_enter Tryz.func50, Tryz.ntmps50
  go_wp2_with fail
  go_loopw [2] (fun i wr => ∃ (k : Nat), k ≤ kp ∧ i = .int .i64 k ∧ at0 ≤ k ∧ Hid (∀ i, at0 ≤ i → i < k → classAt L (X.getD i 0) ≠ 0) ∧ wr = w) (fun i _ => kp - (intOf i).toNat)
  case atStart => exact ⟨at0, hat, rfl, Nat.le_refl _, fun i h1 h2 => absurd h2 (by omega), rfl⟩
  case round =>
    obtain ⟨k, hk, rfl, hak, HK, rfl⟩ := hrel
    by_cases hlt : k < kp
    · have hltz : (k : Int) < (kp : Int) := by omega
      have hltp : k < X.length := by rw [← HKP.out]; exact hlt
      obtain ⟨bp, op, hao, hnk, hblt, hcell⟩ := HI.out.cell (fun e => by rw [e] at hltp; simp at hltp)
      have hcj := hcell k hltp
      have hg : X[k]?.getD 0 = X.getD k 0 := (List.getD_eq_getElem?_getD ..).symm
      rw [hg] at hcj
      have hqI := hX'.out _ (getD_mem hltp)
      have hS : ∀ c, c = classAt L (X.getD k 0) → c = 0 → RowEnds (classAt L) X at0 k := fun c e e0 => ⟨hak, by omega, HK.out, fun _ => by rw [← e, e0]⟩
      have hN : ∀ c, c = classAt L (X.getD k 0) → c ≠ 0 → Hid (∀ i, at0 ≤ i → i < k + 1 → classAt L (X.getD i 0) ≠ 0) := fun c e e0 i h1 h2 => by
        rcases Nat.lt_or_ge i k with h | h
        · exact HK.out i h1 h
        · obtain rfl : i = k := by omega
          rw [← e]; exact e0
      have hc := class_any bd L E (X.getD k 0) wr hqI hd'.out
      generalize X.getD k 0 = q at hcj hqI hS hN hc
      generalize classAt L q = c at hS hN hc
      have hS := hS c rfl
      have hN := hN c rfl
      have HS : Aside _ := hS
      have HN : Aside _ := hN
      subst hao
      clear hcell hnk hltp hg HK hS hN
      by_cases hc0 : c = 0
      · have hfin := HS.out hc0
        subst hc0
        go_wp2_with fail
        refine hc.mono ?_
        rintro e w1 ⟨rfl, rfl⟩
        go_wp2
        go_ret
        exact ⟨k, rfl, hfin, rfl⟩
      · have hfin := HN.out hc0
        have hc0' : (c == 0) = false := by simpa using hc0
        go_wp2_with fail
        refine hc.mono ?_
        rintro e w1 ⟨rfl, rfl⟩
        go_wp2
        go_roundw
        case rel => exact ⟨k + 1, by omega, by simp, by omega, hfin, trivial⟩
        case measure => simp only [intOf]; omega
    · have hltz : ¬ (k : Int) < (kp : Int) := by omega
      have hfin : RowEnds (classAt L) X at0 k := ⟨hak, by rw [← HKP.out]; omega, HK.out, fun h => absurd h (by rw [← HKP.out]; omega)⟩
      clear HK
      go_wp2
      go_ret
      exact ⟨k, rfl, hfin, rfl⟩
end Go.Proofs.YtkcnjnccdafbfaaGreatDoor
