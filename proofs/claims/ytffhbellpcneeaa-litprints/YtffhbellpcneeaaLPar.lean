/- What lit.Parse does (contracts; nothing is claimed here). -/
import Derived.Test.YtffhbellpcneeaaLVal
namespace Go.Proofs.Ytffhbellpcneeaa
open Go.RowKit Go.Vf

theorem lp_idle (p q r : Addr) (w : World) :
    CallsD Try.prog 29 #[.pointer (some p), .pointer (some q), .pointer (some r)] .returning w fun e u' w' => e = .returned (.tuple #[]) ∧ u' = .returning ∧ w' = w := by
  refine callsD_of_wpS Try.func29 rfl fun c₀ cs hu => ?_
  apply wpS_seq
  apply wpS_region
  simp [wpOpsS, go_sem, recoverD, hu, Try.ntmps29, Exit.thenS]
  apply wpS_seq
  apply wpS_region
  simp [wpOpsS, go_sem, Exit.thenS]
  refine wpS_cond (t := false) (by simp [Act.eval, Array.replicate]) ?_
  simp only [Bool.false_eq_true, if_false]
  refine wpS_of_wp (wp_skip ?_)
  cases c₀
  simp_all [bodyPostS, results, Try.results29]

/-- The three variables of Parse's results. -/
structure Thr (w : World) (h : Nat) (v : Value) (e a : Int) : Prop where
  c0 : Blk w h 33 #[v]
  c1 : Blk w (h + 1) 30 #[.int .i64 e]
  c2 : Blk w (h + 2) 3 #[.int .i64 a]
theorem Thr.below {w w' : World} {B h : Nat} {v : Value} {e a : Int} (h3 : Thr w h v e a) (hb : Below B w w') (hB : h + 2 < B) : Thr w' h v e a :=
  ⟨h3.c0.below hb (by omega), h3.c1.below hb (by omega), h3.c2.below hb hB⟩
theorem Thr.drew {w : World} {h : Nat} {v : Value} {e a : Int} (h3 : Thr w h v e a) : Thr w.drew h v e a := ⟨h3.c0, h3.c1, h3.c2⟩
theorem Thr.set0 {w : World} {h : Nat} {v : Value} {e a : Int} (h3 : Thr w h v e a) (v' : Value) : Thr (w.setCell ⟨h, 0, none⟩ v') h v' e a :=
  ⟨h3.c0.set 0 v', h3.c1.other (p := ⟨h, 0, none⟩) (by show h + 1 ≠ h; omega) v', h3.c2.other (p := ⟨h, 0, none⟩) (by show h + 2 ≠ h; omega) v'⟩
theorem Thr.set1 {w : World} {h : Nat} {v : Value} {e a : Int} (h3 : Thr w h v e a) (e' : Int) : Thr (w.setCell ⟨h + 1, 0, none⟩ (.int .i64 e')) h v e' a :=
  ⟨h3.c0.other (p := ⟨h + 1, 0, none⟩) (by show h ≠ h + 1; omega) _, h3.c1.set 0 _, h3.c2.other (p := ⟨h + 1, 0, none⟩) (by show h + 2 ≠ h + 1; omega) _⟩
theorem Thr.set2 {w : World} {h : Nat} {v : Value} {e a : Int} (h3 : Thr w h v e a) (a' : Int) : Thr (w.setCell ⟨h + 2, 0, none⟩ (.int .i64 a')) h v e a' :=
  ⟨h3.c0.other (p := ⟨h + 2, 0, none⟩) (by show h ≠ h + 2; omega) _, h3.c1.other (p := ⟨h + 2, 0, none⟩) (by show h + 1 ≠ h + 2; omega) _, h3.c2.set 0 _⟩
theorem below_sets (w : World) (h : Nat) (v : Value) (e a : Value) : Below h w (((w.setCell ⟨h, 0, none⟩ v).setCell ⟨h + 1, 0, none⟩ e).setCell ⟨h + 2, 0, none⟩ a) :=
  (((Below.refl h w).setCell (p := ⟨h, 0, none⟩) (Nat.le_refl _) _).setCell (p := ⟨h + 1, 0, none⟩) (Nat.le_succ _) _).setCell (p := ⟨h + 2, 0, none⟩) (by show h ≤ h + 2; omega) _
theorem Thr.cells {w : World} {h : Nat} {v : Value} {e a : Int} (h3 : Thr w h v e a) : w.cell? ⟨h, 0, none⟩ = some v ∧ w.cell? ⟨h + 1, 0, none⟩ = some (.int .i64 e) ∧ w.cell? ⟨h + 2, 0, none⟩ = some (.int .i64 a) ∧ w.frozen? ⟨h, 0, none⟩ = false ∧ w.frozen? ⟨h + 1, 0, none⟩ = false ∧ w.frozen? ⟨h + 2, 0, none⟩ = false :=
  ⟨h3.c0.cell 0, h3.c1.cell 0, h3.c2.cell 0, h3.c0.frozen 0, h3.c1.frozen 0, h3.c2.frozen 0⟩

set_option maxHeartbeats 1000000 in
theorem lp_catch (h : Nat) (why at_ : Int) (v : Value) (e0 a0 : Int) (w : World) (_hv : v.oneCell' = true) (h3 : Thr w h v e0 a0) :
    CallsD Try.prog 29 #[.pointer (some ⟨h, 0, none⟩), .pointer (some ⟨h + 1, 0, none⟩), .pointer (some ⟨h + 2, 0, none⟩)] (.panicking [{ v := .iface 60 (.agg #[.int .i64 why, .int .i64 at_]), recovered := false }]) w fun e u' w' =>
      e = .returned (.tuple #[]) ∧ u' = .panicking [{ v := .iface 60 (.agg #[.int .i64 why, .int .i64 at_]), recovered := true }] ∧ Thr w' h .nilIface why at_ ∧ Below h w w' := by
  have hta : ∀ w : World, (Instr.typeAssert (.iface 60 (.agg #[.int .i64 why, .int .i64 at_])) 20 60 false).run Try.prog w = .ok (.agg #[.int .i64 why, .int .i64 at_]) w := fun w => by kernel_rfl
  refine callsD_of_wpS Try.func29 rfl fun c₀ cs hu => ?_
  apply wpS_seq
  apply wpS_region
  simp [wpOpsS, go_sem, recoverD, hu, Try.ntmps29, Exit.thenS, Array.replicate]
  apply wpS_seq
  apply wpS_region
  simp [wpOpsS, go_sem, Exit.thenS]
  refine wpS_cond (t := true) (by simp [Act.eval]) ?_
  simp only [if_true]
  refine wpS_of_wp ?_
  have hb1 := (Below.refl w.heap.size w).alloc (Nat.le_refl _) (.cells #[.int .i64 why, .int .i64 at_] 60)
  have hB := Blk.new w 60 #[.int .i64 why, .int .i64 at_]
  have hlt := h3.c2.lt
  have h4 := h3.below hb1 (by omega)
  have h5 := ((h4.set0 .nilIface).set1 why).set2 at_
  have hbs := below_sets (w.alloc (.cells #[.int .i64 why, .int .i64 at_] 60)) h .nilIface (.int .i64 why) (.int .i64 at_)
  have g0 : (w.alloc (.cells #[.int .i64 why, .int .i64 at_] 60)).cell? ⟨w.heap.size, 0, none⟩ = some (.int .i64 why) := hB.cell 0
  have g1 : (w.alloc (.cells #[.int .i64 why, .int .i64 at_] 60)).cell? ⟨w.heap.size, 1, none⟩ = some (.int .i64 at_) := hB.cell 1
  obtain ⟨c0, c1, c2, f0, f1, f2⟩ := h4.cells
  go_wp2_with fail
  generalize w.alloc (.cells #[.int .i64 why, .int .i64 at_] 60) = w1 at *
  obtain ⟨H, hH⟩ : ∃ H, w.heap.size = H := ⟨_, rfl⟩
  rw [hH] at g0 g1 hlt ⊢
  have n0 : H ≠ h := by omega
  have n1 : H ≠ h + 1 := by omega
  have n2 : H ≠ h + 2 := by omega
  have m0 : h ≠ H := by omega
  have m1 : h + 1 ≠ H := by omega
  have m2 : h + 2 ≠ H := by omega
  have HB : Hid (Below h w w1) := hb1.mono (by omega)
  clear hb1 hB h3 h4 hH
  go_region
  exact ⟨rfl, _, rfl, _, by simp [results, Try.results29], rfl, rfl, h5.drew, (HB.out.trans hbs).drew⟩

theorem lp_results {tmps : Array Value} {w : World} {h : Nat} {v : Value} {e a : Int} (h3 : Thr w h v e a) (t2 : tmps[2]?.getD undef = .pointer (some ⟨h, 0, none⟩)) (t3 : tmps[3]?.getD undef = .pointer (some ⟨h + 1, 0, none⟩)) (t4 : tmps[4]?.getD undef = .pointer (some ⟨h + 2, 0, none⟩)) :
    (results Try.f15 tmps).run Try.prog w = .ok (.tuple #[v, .int .i64 e, .int .i64 a]) w := by
  obtain ⟨c0, c1, c2, f0, f1, f2⟩ := h3.cells
  simp [results, Try.results15, go_sem, t2, t3, t4, c0, c1, c2]
theorem thr_new (w : World) (v : Value) (e a : Int) : Thr (((w.alloc (.cells #[v] 33)).alloc (.cells #[.int .i64 e] 30)).alloc (.cells #[.int .i64 a] 3)) w.heap.size v e a := by
  have s1 := alloc_size w (.cells #[v] 33)
  have s2 := alloc_size (w.alloc (.cells #[v] 33)) (.cells #[.int .i64 e] 30)
  have b1 := Blk.new w 33 #[v]
  have b2 := Blk.new (w.alloc (.cells #[v] 33)) 30 #[.int .i64 e]
  have b3 := Blk.new ((w.alloc (.cells #[v] 33)).alloc (.cells #[.int .i64 e] 30)) 3 #[.int .i64 a]
  rw [s1] at b2
  rw [s2, s1] at b3
  have q2 := (Below.refl (w.alloc (.cells #[v] 33)).heap.size (w.alloc (.cells #[v] 33))).alloc (Nat.le_refl _) (.cells #[.int .i64 e] 30)
  have q3 := (Below.refl ((w.alloc (.cells #[v] 33)).alloc (.cells #[.int .i64 e] 30)).heap.size ((w.alloc (.cells #[v] 33)).alloc (.cells #[.int .i64 e] 30))).alloc (Nat.le_refl _) (.cells #[.int .i64 a] 3)
  exact ⟨(b1.old q2).old q3, b2.old q3, b3⟩
theorem below_new (w : World) (v e a : Value) : Below w.heap.size w (((w.alloc (.cells #[v] 33)).alloc (.cells #[e] 30)).alloc (.cells #[a] 3)) :=
  (((Below.refl w.heap.size w).alloc (Nat.le_refl _) (.cells #[v] 33)).alloc (by simp) (.cells #[e] 30)).alloc (by simp; omega) (.cells #[a] 3)
/-- What Parse answers, by the document's words. -/
def parseL (l : List UInt8) : Except (Int × Nat) Prt := if 65536 < l.length then .error (2, 0) else match rd 16 l with
  | .ok (p, rest) => if rest = [] then .ok p else .error (100, l.length - rest.length)
  | .error r => .error (100, l.length - r)
def LpE (g : Except (Int × Nat) Prt) (w : World) (e : Ending) (w' : World) : Prop := Below w.heap.size w w' ∧ match g with
  | .ok p => ∃ v, e = .returned (.tuple #[v, .int .i64 0, .int .i64 0]) ∧ VIn w' w.heap.size w'.heap.size v p
  | .error (why, i) => e = .returned (.tuple #[.nilIface, .int .i64 why, .int .i64 (i : Int)])

set_option maxHeartbeats 2000000 in
set_option maxRecDepth 20000 in
theorem lparse_any (s : ByteArray) (hs : s.size ≤ 17179869184) (w : World) : Calls Try.prog 15 #[.string s] w (LpE (parseL s.data.toList) w) := by
  have hmf : ∀ (fn : Fn) (first cap : Array Value) (w : World), (Instr.makeFunc fn first cap).run Try.prog w = .ok (.func fn first cap) w := fun _ _ _ _ => rfl
  have hsl : s.data.toList.length = s.size := (Lib.size_eq s).symm
  obtain ⟨G, hG⟩ : ∃ G, parseL s.data.toList = G := ⟨_, rfl⟩
  have HG : Hid (parseL s.data.toList = G) := hG
  rw [hG]
  clear hG
  by_cases hlong : 65536 < s.size
  · have HGL : Hid (G = .error (2, 0)) := by show _ = _; rw [← HG.out, parseL, if_pos (by omega)]
    have hj : decide ((65536 : Int) < (s.size : Int)) = true := decide_eq_true (by omega)
    have h5 := thr_new w .nilIface 2 0
    have hb5 := below_new w .nilIface (.int .i64 2) (.int .i64 0)
    go_enter_defers Try.func15, Try.ntmps15
    go_wp2_with fail
    refine ⟨_, lp_results h5 rfl rfl rfl, ?_⟩
    rw [HGL.out]
    exact ⟨hb5, rfl⟩
  · have hs' : s.size ≤ 65536 := by omega
    have hj : decide ((65536 : Int) < (s.size : Int)) = false := decide_eq_false (by omega)
    have h3 := thr_new w .nilIface 0 0
    have hbel := below_new w .nilIface (.int .i64 0) (.int .i64 0)
    have hsz : (((w.alloc (.cells #[.nilIface] 33)).alloc (.cells #[.int .i64 0] 30)).alloc (.cells #[.int .i64 0] 3)).heap.size = w.heap.size + 3 := by simp
    have hGd : Hid (G = match rd 16 s.data.toList with | .ok (p, rest) => if rest = [] then .ok p else .error (100, s.size - rest.length) | .error r => .error (100, s.size - r)) := by
      show _ = _
      rw [← HG.out, parseL, if_neg (by omega), hsl]
    clear HG hsl
    go_enter_defers Try.func15, Try.ntmps15
    go_wp2_with fail
    have hb1 := hbel.alloc (by rw [hsz]; omega) (.cells #[.string s, .int .i64 0] 68)
    have hbA := (Below.refl (w.heap.size + 3) (((w.alloc (.cells #[.nilIface] 33)).alloc (.cells #[.int .i64 0] 30)).alloc (.cells #[.int .i64 0] 3))).alloc (by rw [hsz]; exact Nat.le_refl _) (.cells #[.string s, .int .i64 0] 68)
    have hR := Blk.new (((w.alloc (.cells #[.nilIface] 33)).alloc (.cells #[.int .i64 0] 30)).alloc (.cells #[.int .i64 0] 3)) 68 #[.string s, .int .i64 0]
    have hs1 := alloc_size (((w.alloc (.cells #[.nilIface] 33)).alloc (.cells #[.int .i64 0] 30)).alloc (.cells #[.int .i64 0] 3)) (.cells #[.string s, .int .i64 0] 68)
    have h4 := h3.below hbA (by omega)
    rw [hsz] at hR hs1
    clear h3 hbA hbel hsz
    generalize (((w.alloc (.cells #[.nilIface] 33)).alloc (.cells #[.int .i64 0] 30)).alloc (.cells #[.int .i64 0] 3)).alloc (.cells #[.string s, .int .i64 0] 68) = w1 at *
    have hread : Calls Try.prog 30 #[.pointer (some ⟨w.heap.size + 3, 0, none⟩), .int .i64 0] w1 (RdE (w.heap.size + 3) s (rd 16 (s.data.toList.drop 0)) w1) := readValue_any (w.heap.size + 3) s hs' 16 0 rfl 0 (Nat.zero_le _) w1 hR
    rw [List.drop_zero] at hread
    have HS1 : Hid (w1.heap.size = w.heap.size + 3 + 1) := hs1
    have HT : Hid _ := h4
    clear hs1 hR h4
    cases hg : rd 16 s.data.toList with
    | error r =>
      rw [hg] at hread hGd
      refine hread.mono ?_
      rintro _ w2 ⟨k', hk', hr, rfl, hb2⟩
      have h5 := HT.out.below hb2 (by omega)
      have HG2 : Hid (G = .error (100, k')) := by show _ = _; rw [hGd.out]; simp only [hr]; rw [show s.size - (s.size - k') = k' by omega]
      clear hGd hread
      go_wp2
      refine leaves_cons (f := 29) (args := #[.pointer (some ⟨w.heap.size, 0, none⟩), .pointer (some ⟨w.heap.size + 1, 0, none⟩), .pointer (some ⟨w.heap.size + 2, 0, none⟩)]) (by simp) (by simp [go_sem]) ?_
      refine (lp_catch w.heap.size 100 k' _ _ _ _ rfl h5).mono ?_
      rintro e u' w'' ⟨rfl, rfl, h6, hb6⟩
      refine ⟨_, lp_results h6 rfl rfl rfl, ?_⟩
      rw [HG2.out]
      exact ⟨hb1.trans ((hb2.mono (by omega)).trans hb6), rfl⟩
    | ok pr =>
      obtain ⟨p, rest⟩ := pr
      rw [hg] at hread hGd
      refine hread.mono ?_
      rintro _ w2 ⟨v, k', hk', hr, rfl, hv, hrk⟩
      have h5 : Thr w2 w.heap.size .nilIface 0 0 := HT.out.below hrk.below (by omega)
      obtain ⟨c0, c1, c2, f0, f1, f2⟩ := h5.cells
      have hform := hv.form
      have hB2 := hrk.rdr.lt
      have hsz2 := hrk.size
      have hrd := hrk.rdr.other (p := ⟨w.heap.size, 0, none⟩) (by show w.heap.size + 3 ≠ w.heap.size; omega) v
      obtain ⟨d0, d1, _⟩ := Rdr.two hrd
      have h6 := h5.set0 v
      have hb2 := hrk.below
      have HV : Hid _ := hv
      have hlen : rest.length = s.size - k' := by rw [hr, drop_len]
      have HS2 : Hid (w.heap.size + 3 < w2.heap.size) := by have := HS1.out; show _ < _; omega
      clear hread h5 hrk hrd hv hsz2 hB2
      by_cases he : k' = s.size
      · have HG2 : Hid (G = .ok p) := by
          show _ = _
          rw [hGd.out]
          simp only
          rw [if_pos (List.eq_nil_of_length_eq_zero (by omega))]
        have t1 : ((k' : Int) == (s.size : Int)) = true := by rw [beq_iff_eq]; omega
        clear he hGd hlen hr
        have h7 := ((h6.set0 v).set1 0).set2 0
        obtain ⟨g0, g1, g2, k0, k1, k2⟩ := h6.cells
        have hb7 := below_sets (w2.setCell ⟨w.heap.size, 0, none⟩ v) w.heap.size v (.int .i64 0) (.int .i64 0)
        have hb8 := (Below.refl w.heap.size w2).setCell (p := ⟨w.heap.size, 0, none⟩) (Nat.le_refl _) v
        rcases hform with rfl | ⟨tv, xv, rfl⟩
        all_goals
          go_wp2_with fail
          refine (need_yes _ _).mono ?_
          rintro _ _ ⟨rfl, rfl⟩
          go_wp2
          refine leaves_cons (f := 29) (args := #[.pointer (some ⟨w.heap.size, 0, none⟩), .pointer (some ⟨w.heap.size + 1, 0, none⟩), .pointer (some ⟨w.heap.size + 2, 0, none⟩)]) (by simp) (by simp [go_sem]) ?_
          refine (lp_idle _ _ _ _).mono ?_
          rintro e u' w'' ⟨rfl, rfl, rfl⟩
          refine ⟨_, lp_results h7 rfl rfl rfl, ?_⟩
          rw [HG2.out]
          refine ⟨hb1.trans ((hb2.mono (by omega)).trans (hb8.trans hb7)), _, rfl, ?_⟩
          have e1 := HS1.out
          refine (HV.out.keep (fun b q1 q2 => ?_)).mono (by simp [World.setCell]) (by omega)
          rw [Below.heap_setCell _ _ _ _ (by show b ≠ w.heap.size + 2; omega), Below.heap_setCell _ _ _ _ (by show b ≠ w.heap.size + 1; omega), Below.heap_setCell _ _ _ _ (by show b ≠ w.heap.size; omega), Below.heap_setCell _ _ _ _ (by show b ≠ w.heap.size; omega)]
      · have HG2 : Hid (G = .error (100, k')) := by
          show _ = _
          rw [hGd.out]
          simp only
          rw [if_neg (by intro h0; rw [h0] at hlen; simp at hlen; omega), hlen, show s.size - (s.size - k') = k' by omega]
        have t1 : ((k' : Int) == (s.size : Int)) = false := by rw [beq_eq_false_iff_ne]; omega
        clear he hGd hlen hr
        have hb8 := (Below.refl w.heap.size w2).setCell (p := ⟨w.heap.size, 0, none⟩) (Nat.le_refl _) v
        have hone := HV.out.one
        rcases hform with rfl | ⟨tv, xv, rfl⟩
        all_goals
          go_wp2_with fail
          refine (need_not _ _).mono ?_
          rintro _ _ ⟨rfl, rfl⟩
          go_wp2
          refine leaves_cons (f := 29) (args := #[.pointer (some ⟨w.heap.size, 0, none⟩), .pointer (some ⟨w.heap.size + 1, 0, none⟩), .pointer (some ⟨w.heap.size + 2, 0, none⟩)]) (by simp) (by simp [go_sem]) ?_
          refine (lp_catch w.heap.size 100 k' _ _ _ _ hone h6).mono ?_
          rintro e u' w'' ⟨rfl, rfl, h9, hb9⟩
          refine ⟨_, lp_results h9 rfl rfl rfl, ?_⟩
          rw [HG2.out]
          exact ⟨hb1.trans ((hb2.mono (by omega)).trans (hb8.trans hb9)), rfl⟩
end Go.Proofs.Ytffhbellpcneeaa
