/- What nat.Take does (contracts; nothing is claimed here). -/
import Derived.Test.YtdmdnhlmfailaaaPutB
namespace Go.Proofs.Ytdmdnhlmfailaaa
open Go.RowKit Go.Vf

theorem take_idle (p q r : Addr) (w : World) :
    CallsD Try.prog 33 #[.pointer (some p), .pointer (some q), .pointer (some r)] .returning w fun e u' w' => e = .returned (.tuple #[]) ∧ u' = .returning ∧ w' = w := by
  refine callsD_of_wpS Try.func33 rfl fun c₀ cs hu => ?_
  apply wpS_seq
  apply wpS_region
  simp [wpOpsS, go_sem, recoverD, hu, Try.ntmps33, Exit.thenS]
  apply wpS_seq
  apply wpS_region
  simp [wpOpsS, go_sem, Exit.thenS]
  refine wpS_cond (t := false) (by simp [Act.eval, Array.replicate]) ?_
  simp only [Bool.false_eq_true, if_false]
  refine wpS_of_wp (wp_skip ?_)
  cases c₀
  simp_all [bodyPostS, results, Try.results33]

/-- The three variables of Take's results. -/
structure Three (w : World) (h : Nat) (b : Bool) (m : ByteArray) (n e : Int) : Prop where
  c0 : w.cell? ⟨h, 0, none⟩ = some (.bool b)
  c1 : w.cell? ⟨h, 1, none⟩ = some (.string m)
  c2 : w.cell? ⟨h + 1, 0, none⟩ = some (.int .i64 n)
  c3 : w.cell? ⟨h + 1 + 1, 0, none⟩ = some (.int .i64 e)
  f0 : w.frozen? ⟨h, 0, none⟩ = false
  f1 : w.frozen? ⟨h, 1, none⟩ = false
  f2 : w.frozen? ⟨h + 1, 0, none⟩ = false
  f3 : w.frozen? ⟨h + 1 + 1, 0, none⟩ = false
  lt : h + 1 + 1 < w.heap.size

theorem Three.below {w w' : World} {B h : Nat} {b : Bool} {m : ByteArray} {n e : Int} (h3 : Three w h b m n e) (hb : Below B w w') (hB : h + 1 + 1 < B) : Three w' h b m n e :=
  ⟨(hb.cell (p := ⟨h, 0, none⟩) (by show h < B; omega)).trans h3.c0, (hb.cell (p := ⟨h, 1, none⟩) (by show h < B; omega)).trans h3.c1, (hb.cell (p := ⟨h + 1, 0, none⟩) (by show h + 1 < B; omega)).trans h3.c2, (hb.cell (p := ⟨h + 1 + 1, 0, none⟩) hB).trans h3.c3,
    (hb.frozen (p := ⟨h, 0, none⟩) (by show h < B; omega)).trans h3.f0, (hb.frozen (p := ⟨h, 1, none⟩) (by show h < B; omega)).trans h3.f1, (hb.frozen (p := ⟨h + 1, 0, none⟩) (by show h + 1 < B; omega)).trans h3.f2, (hb.frozen (p := ⟨h + 1 + 1, 0, none⟩) hB).trans h3.f3, Nat.lt_of_lt_of_le h3.lt hb.size⟩

theorem Three.drew {w : World} {h : Nat} {b : Bool} {m : ByteArray} {n e : Int} (h3 : Three w h b m n e) : Three w.drew h b m n e := ⟨h3.c0, h3.c1, h3.c2, h3.c3, h3.f0, h3.f1, h3.f2, h3.f3, h3.lt⟩

/-- All three are stored anew. -/
theorem Three.set {w : World} {h : Nat} {b : Bool} {m : ByteArray} {n e : Int} (h3 : Three w h b m n e) (b' : Bool) (m' : ByteArray) (n' e' : Int) :
    Three ((((w.setCell ⟨h, 0, none⟩ (.bool b')).setCell ⟨h, 1, none⟩ (.string m')).setCell ⟨h + 1, 0, none⟩ (.int .i64 n')).setCell ⟨h + 1 + 1, 0, none⟩ (.int .i64 e')) h b' m' n' e' ∧
    Below h w ((((w.setCell ⟨h, 0, none⟩ (.bool b')).setCell ⟨h, 1, none⟩ (.string m')).setCell ⟨h + 1, 0, none⟩ (.int .i64 n')).setCell ⟨h + 1 + 1, 0, none⟩ (.int .i64 e')) := by
  obtain ⟨c0, c1, c2, c3, f0, f1, f2, f3, hlt⟩ := h3
  refine ⟨⟨?_, ?_, ?_, ?_, ?_, ?_, ?_, ?_, ?_⟩, ?_⟩
  · rw [World.cell?_setCell_other _ _ _ _ (by simp), World.cell?_setCell_other _ _ _ _ (by simp), World.cell?_setCell_other _ _ _ _ (by simp), World.cell?_setCell_same _ _ _ (by rw [c0])]
  · rw [World.cell?_setCell_other _ _ _ _ (by simp), World.cell?_setCell_other _ _ _ _ (by simp), World.cell?_setCell_same _ _ _ (by rw [World.cell?_setCell_other _ _ _ _ (by simp), c1])]
  · rw [World.cell?_setCell_other _ _ _ _ (by simp), World.cell?_setCell_same _ _ _ (by rw [World.cell?_setCell_other _ _ _ _ (by simp), World.cell?_setCell_other _ _ _ _ (by simp), c2])]
  · rw [World.cell?_setCell_same _ _ _ (by rw [World.cell?_setCell_other _ _ _ _ (by simp), World.cell?_setCell_other _ _ _ _ (by simp), World.cell?_setCell_other _ _ _ _ (by simp), c3])]
  · simp only [World.frozen?_setCell, f0]
  · simp only [World.frozen?_setCell, f1]
  · simp only [World.frozen?_setCell, f2]
  · simp only [World.frozen?_setCell, f3]
  · simpa using hlt
  · exact ((((Below.refl h w).setCell (p := ⟨h, 0, none⟩) (Nat.le_refl _) _).setCell (p := ⟨h, 1, none⟩) (Nat.le_refl _) _).setCell (p := ⟨h + 1, 0, none⟩) (Nat.le_succ _) _).setCell (p := ⟨h + 1 + 1, 0, none⟩) (by show h ≤ h + 1 + 1; omega) _

set_option maxHeartbeats 1000000 in
theorem take_catch (h : Nat) (why at_ : Int) (b : Bool) (m : ByteArray) (n e0 : Int) (w : World) (h3 : Three w h b m n e0) :
    CallsD Try.prog 33 #[.pointer (some ⟨h, 0, none⟩), .pointer (some ⟨h + 1, 0, none⟩), .pointer (some ⟨h + 1 + 1, 0, none⟩)] (.panicking [{ v := lostV why at_, recovered := false }]) w fun e u' w' =>
      e = .returned (.tuple #[]) ∧ u' = .panicking [{ v := lostV why at_, recovered := true }] ∧ Three w' h false ⟨#[]⟩ at_ why ∧ Below h w w' := by
  have hta : ∀ w : World, (Instr.typeAssert (lostV why at_) 20 52 false).run Try.prog w = .ok (.agg #[.int .i64 why, .int .i64 at_]) w := fun w => by kernel_rfl
  have hb0 := (Below.refl w.heap.size w).alloc (Nat.le_refl _) (.cells #[.int .i64 why, .int .i64 at_] 52)
  have b0 : (w.alloc (.cells #[.int .i64 why, .int .i64 at_] 52)).cell? ⟨w.heap.size, 0, none⟩ = some (.int .i64 why) := by simp
  have b1 : (w.alloc (.cells #[.int .i64 why, .int .i64 at_] 52)).cell? ⟨w.heap.size, 1, none⟩ = some (.int .i64 at_) := by simp
  refine callsD_of_wpS Try.func33 rfl fun c₀ cs hu => ?_
  apply wpS_seq
  apply wpS_region
  simp [wpOpsS, go_sem, recoverD, hu, Try.ntmps33, Exit.thenS, Array.replicate]
  apply wpS_seq
  apply wpS_region
  simp [wpOpsS, go_sem, Exit.thenS]
  refine wpS_cond (t := true) (by simp [Act.eval]) ?_
  simp only [if_true]
  refine wpS_of_wp ?_
  go_wp2
  have h3' := h3.below hb0 h3.lt
  generalize w.alloc (.cells #[.int .i64 why, .int .i64 at_] 52) = W at hb0 b0 b1 h3' ⊢
  have h4 := h3'.set false ⟨#[]⟩ at_ why
  have hne : ¬ w.heap.size = h := by have := h3.lt; omega
  have hne1 : ¬ w.heap.size = h + 1 := by have := h3.lt; omega
  have hne2 : ¬ w.heap.size = h + 1 + 1 := by have := h3.lt; omega
  have hne3 : ¬ h = w.heap.size := by omega
  have hne4 : ¬ h + 1 = w.heap.size := by omega
  have hne5 : ¬ h + 1 + 1 = w.heap.size := by omega
  obtain ⟨c0, c1, c2, c3, f0, f1, f2, f3, hlt⟩ := h3'
  go_region
  exact ⟨rfl, _, rfl, _, by simp [results, Try.results33], rfl, rfl, h4.1.drew, ((hb0.mono (by have := h3.lt; omega)).trans h4.2).drew⟩

/-- The bytes of a number: where they end and the number; or where they go wrong. -/
def tk (l : List UInt8) : Nat × Option (Bool × List UInt8) :=
  match tkHead l with
  | .error n => (n, none)
  | .ok (b, k, h) => if k = 0 then (h, some (false, [])) else
    match tkMag (l.drop h) k b with
    | .error n => (h + n, none)
    | .ok m => (h + k, some (b, m))

def takeE (a : Nat) : Nat × Option (Bool × List UInt8) → Ending
  | (n, none) => .returned (.tuple #[numV false (bs []), .int .i64 ((a + n : Nat) : Int), .int .i64 20])
  | (n, some (b, m)) => .returned (.tuple #[numV b (bs m), .int .i64 ((a + n : Nat) : Int), .int .i64 0])

theorem take_results {tmps : Array Value} {w : World} {h : Nat} {b : Bool} {m : ByteArray} {n e : Int} (h3 : Three w h b m n e) (t4 : tmps[4]?.getD undef = .pointer (some ⟨h, 0, none⟩)) (t5 : tmps[5]?.getD undef = .pointer (some ⟨h + 1, 0, none⟩)) (t6 : tmps[6]?.getD undef = .pointer (some ⟨h + 1 + 1, 0, none⟩)) :
    (results Try.f15 tmps).run Try.prog w = .ok (.tuple #[numV b m, .int .i64 n, .int .i64 e]) w := by
  obtain ⟨c0, c1, c2, c3, f0, f1, f2, f3, hlt⟩ := h3
  simp [results, Try.results15, go_sem, t4, t5, t6, c0, c1, c2, c3]

set_option maxHeartbeats 1000000 in
theorem take_arg (s : ByteArray) (i : Int) (hi : i < 0 ∨ (s.size : Int) < i) (w : World) :
    Calls Try.prog 15 #[.string s, .int .i64 i] w fun e w' => e = .returned (.tuple #[numV false (bs []), .int .i64 0, .int .i64 1]) ∧ Below w.heap.size w w' := by
  have hbel := (((Below.refl w.heap.size w).alloc (Nat.le_refl _) (.cells #[.bool false, .string ⟨#[]⟩] 26)).alloc (by simp) (.cells #[.int .i64 0] 3)).alloc (by simp; omega) (.cells #[.int .i64 1] 31)
  by_cases h0 : i < 0
  · go_enter_defers Try.func15, Try.ntmps15
    go_wp2
    simp [bodyPostD, Leaves, results, Try.results15, go_sem]
    exact ⟨rfl, hbel⟩
  · have h1 : (s.size : Int) < i := by omega
    go_enter_defers Try.func15, Try.ntmps15
    go_wp2
    simp [bodyPostD, Leaves, results, Try.results15, go_sem]
    exact ⟨rfl, hbel⟩

theorem tkHead_ok {l : List UInt8} {b : Bool} {k h : Nat} (hh : tkHead l = .ok (b, k, h)) : h ≤ l.length ∧ k ≤ 255 ∧ 0 < h := by
  unfold tkHead at hh
  split at hh
  · cases hh
  · rename_i x r
    have hx := x.toNat_lt
    split at hh
    · split at hh
      · cases hh
      · rename_i y r'
        have hy := y.toNat_lt
        split at hh
        · simp only [Except.ok.injEq, Prod.mk.injEq] at hh; obtain ⟨rfl, rfl, rfl⟩ := hh; simp only [List.length_cons]; omega
        · cases hh
    · split at hh
      · split at hh
        · cases hh
        · rename_i y r'
          split at hh
          · simp only [Except.ok.injEq, Prod.mk.injEq] at hh; obtain ⟨rfl, rfl, rfl⟩ := hh; simp only [List.length_cons]; omega
          · cases hh
      · split at hh
        · split at hh
          · simp only [Except.ok.injEq, Prod.mk.injEq] at hh; obtain ⟨rfl, rfl, rfl⟩ := hh; simp only [List.length_cons]; omega
          · simp only [Except.ok.injEq, Prod.mk.injEq] at hh; obtain ⟨rfl, rfl, rfl⟩ := hh; simp only [List.length_cons]; omega
        · cases hh

theorem three_new (w : World) : Three (((w.alloc (.cells #[.bool false, .string ⟨#[]⟩] 26)).alloc (.cells #[.int .i64 0] 3)).alloc (.cells #[.int .i64 0] 31)) w.heap.size false ⟨#[]⟩ 0 0 :=
  by constructor <;> simp [go_sem]

set_option maxHeartbeats 2000000 in
theorem take_any (s : ByteArray) (a : Nat) (ha : a ≤ s.size) (hs : s.size ≤ 17179869184) (w : World) :
    Calls Try.prog 15 #[.string s, .int .i64 (a : Int)] w fun e w' => e = takeE a (tk (s.data.toList.drop a)) ∧ Below w.heap.size w w' := by
  have hmf : ∀ (fn : Fn) (first cap : Array Value) (w : World), (Instr.makeFunc fn first cap).run Try.prog w = .ok (.func fn first cap) w := fun _ _ _ _ => rfl
  have hl : s.data.toList.length = s.size := (Lib.size_eq s).symm
  have h3 := three_new w
  have hbel := (((Below.refl w.heap.size w).alloc (Nat.le_refl _) (.cells #[.bool false, .string ⟨#[]⟩] 26)).alloc (by simp) (.cells #[.int .i64 0] 3)).alloc (by simp; omega) (.cells #[.int .i64 0] 31)
  obtain ⟨r, hH⟩ : ∃ r, tkHead (s.data.toList.drop a) = r := ⟨_, rfl⟩
  have HH : Hid (tkHead (s.data.toList.drop a) = r) := hH
  cases r with
  | error n =>
    have hR : takeE a (tk (s.data.toList.drop a)) = .returned (.tuple #[numV false (bs []), .int .i64 ((a + n : Nat) : Int), .int .i64 20]) := by simp [tk, hH, takeE]
    rw [hR]
    clear hR hH
    go_enter_defers Try.func15, Try.ntmps15
    go_wp2_with fail
    refine (takeHead_any s a ha hs _).mono ?_
    rintro e w1 ⟨rfl, rfl⟩
    rw [HH.out]
    simp only [headE]
    generalize hz : ((a + n : Nat) : Int) = z
    generalize ((w.alloc (.cells #[.bool false, .string ⟨#[]⟩] 26)).alloc (.cells #[.int .i64 0] 3)).alloc (.cells #[.int .i64 0] 31) = W at h3 hbel ⊢
    go_wp2
    refine leaves_cons (f := 33) (args := #[.pointer (some ⟨w.heap.size, 0, none⟩), .pointer (some ⟨w.heap.size + 1, 0, none⟩), .pointer (some ⟨w.heap.size + 1 + 1, 0, none⟩)]) (by simp) (by simp [go_sem]) ?_
    refine (take_catch w.heap.size 20 z _ _ _ _ _ h3).mono ?_
    rintro e u' w'' ⟨rfl, rfl, h4, hb4⟩
    exact ⟨_, take_results h4 rfl rfl rfl, by rw [hz]; rfl, hbel.trans hb4⟩
  | ok t =>
    obtain ⟨b, k, h⟩ := t
    obtain ⟨hh1, hh2, hh3⟩ := tkHead_ok hH
    have hah : a + h ≤ s.size := by simp [hl] at hh1; omega
    by_cases hk : k = 0
    · have hR : takeE a (tk (s.data.toList.drop a)) = .returned (.tuple #[numV false (bs []), .int .i64 ((a + h : Nat) : Int), .int .i64 0]) := by simp [tk, hH, takeE, hk]
      rw [hR]
      clear hR hH
      subst hk
      go_enter_defers Try.func15, Try.ntmps15
      go_wp2_with fail
      refine (takeHead_any s a ha hs _).mono ?_
      rintro e w1 ⟨rfl, rfl⟩
      rw [HH.out]
      simp only [headE]
      generalize hz : ((a + h : Nat) : Int) = z
      generalize ((w.alloc (.cells #[.bool false, .string ⟨#[]⟩] 26)).alloc (.cells #[.int .i64 0] 3)).alloc (.cells #[.int .i64 0] 31) = W at h3 hbel ⊢
      have h4 := h3.set false ⟨#[]⟩ z 0
      obtain ⟨c0, c1, c2, c3, f0, f1, f2, f3, hlt⟩ := h3
      go_wp2
      refine leaves_cons (f := 33) (args := #[.pointer (some ⟨w.heap.size, 0, none⟩), .pointer (some ⟨w.heap.size + 1, 0, none⟩), .pointer (some ⟨w.heap.size + 1 + 1, 0, none⟩)]) (by simp) (by simp [go_sem]) ?_
      refine (take_idle _ _ _ _).mono ?_
      rintro e u' w'' ⟨rfl, rfl, rfl⟩
      exact ⟨_, take_results h4.1 rfl rfl rfl, by rw [hz]; rfl, hbel.trans h4.2⟩
    · obtain ⟨q, hM⟩ : ∃ q, tkMag (s.data.toList.drop (a + h)) k b = q := ⟨_, rfl⟩
      have HM : Hid (tkMag (s.data.toList.drop (a + h)) k b = q) := hM
      have hd : (s.data.toList.drop a).drop h = s.data.toList.drop (a + h) := by rw [List.drop_drop]
      cases q with
      | error n =>
        have hR : takeE a (tk (s.data.toList.drop a)) = .returned (.tuple #[numV false (bs []), .int .i64 ((a + h + n : Nat) : Int), .int .i64 20]) := by
          simp only [tk, hH, hk, if_false, hd, hM, takeE, Nat.add_assoc]
        rw [hR]
        clear hR hH hM hd
        go_enter_defers Try.func15, Try.ntmps15
        go_wp2_with fail
        refine (takeHead_any s a ha hs _).mono ?_
        rintro e w1 ⟨rfl, rfl⟩
        rw [HH.out]
        simp only [headE]
        generalize hz : a + h = c at HM hah ⊢
        generalize ((w.alloc (.cells #[.bool false, .string ⟨#[]⟩] 26)).alloc (.cells #[.int .i64 0] 3)).alloc (.cells #[.int .i64 0] 31) = W at h3 hbel ⊢
        go_wp2_with fail
        refine (takeMag_any s c k b hah hh2 (by omega) hs _).mono ?_
        rintro e w1 ⟨rfl, hb1⟩
        rw [HM.out]
        simp only [magE]
        generalize hz2 : ((c + n : Nat) : Int) = z2
        have h3' := h3.below hb1 h3.lt
        have hbel1 := hbel.trans (hb1.mono hbel.size)
        go_wp2
        refine leaves_cons (f := 33) (args := #[.pointer (some ⟨w.heap.size, 0, none⟩), .pointer (some ⟨w.heap.size + 1, 0, none⟩), .pointer (some ⟨w.heap.size + 1 + 1, 0, none⟩)]) (by simp) (by simp [go_sem]) ?_
        refine (take_catch w.heap.size 20 z2 _ _ _ _ _ h3').mono ?_
        rintro e u' w'' ⟨rfl, rfl, h4, hb4⟩
        exact ⟨_, take_results h4 rfl rfl rfl, by rw [hz, hz2]; rfl, hbel1.trans hb4⟩
      | ok m =>
        have hR : takeE a (tk (s.data.toList.drop a)) = .returned (.tuple #[numV b (bs m), .int .i64 ((a + h + k : Nat) : Int), .int .i64 0]) := by
          simp only [tk, hH, hk, if_false, hd, hM, takeE, Nat.add_assoc]
        rw [hR]
        clear hR hH hM hd
        go_enter_defers Try.func15, Try.ntmps15
        go_wp2_with fail
        refine (takeHead_any s a ha hs _).mono ?_
        rintro e w1 ⟨rfl, rfl⟩
        rw [HH.out]
        simp only [headE]
        generalize hz : a + h = c at HM hah ⊢
        generalize ((w.alloc (.cells #[.bool false, .string ⟨#[]⟩] 26)).alloc (.cells #[.int .i64 0] 3)).alloc (.cells #[.int .i64 0] 31) = W at h3 hbel ⊢
        go_wp2_with fail
        refine (takeMag_any s c k b hah hh2 (by omega) hs _).mono ?_
        rintro e w1 ⟨rfl, hb1⟩
        rw [HM.out]
        simp only [magE]
        have h3' := h3.below hb1 h3.lt
        have hbel1 := hbel.trans (hb1.mono hbel.size)
        have h4 := h3'.set b (bs m) ((c : Int) + (k : Int)) 0
        obtain ⟨c0, c1, c2, c3, f0, f1, f2, f3, hlt⟩ := h3'
        go_wp2
        refine leaves_cons (f := 33) (args := #[.pointer (some ⟨w.heap.size, 0, none⟩), .pointer (some ⟨w.heap.size + 1, 0, none⟩), .pointer (some ⟨w.heap.size + 1 + 1, 0, none⟩)]) (by simp) (by simp [go_sem]) ?_
        refine (take_idle _ _ _ _).mono ?_
        rintro e u' w'' ⟨rfl, rfl, rfl⟩
        exact ⟨_, take_results h4.1 rfl rfl rfl, by rw [hz]; rfl, hbel1.trans h4.2⟩
end Go.Proofs.Ytdmdnhlmfailaaa
