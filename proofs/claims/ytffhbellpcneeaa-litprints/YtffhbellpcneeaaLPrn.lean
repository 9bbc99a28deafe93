/- What lit.Print does (contracts; nothing is claimed here). -/
import Derived.Test.YtffhbellpcneeaaLWl
namespace Go.Proofs.Ytffhbellpcneeaa
open Go.RowKit Go.Vf
theorem lw_idle (p q : Addr) (w : World) :
    CallsD Try.prog 26 #[.pointer (some p), .pointer (some q)] .returning w fun e u' w' => e = .returned (.tuple #[]) ∧ u' = .returning ∧ w' = w := by
  refine callsD_of_wpS Try.func26 rfl fun c₀ cs hu => ?_
  apply wpS_seq
  apply wpS_region
  simp [wpOpsS, go_sem, recoverD, hu, Try.ntmps26, Exit.thenS]
  apply wpS_seq
  apply wpS_region
  simp [wpOpsS, go_sem, Exit.thenS]
  refine wpS_cond (t := false) (by simp [Act.eval, Array.replicate]) ?_
  simp only [Bool.false_eq_true, if_false]
  refine wpS_of_wp (wp_skip ?_)
  cases c₀
  simp_all [bodyPostS, results, Try.results26]
/-- The two variables of Print's results. -/
structure Duo (w : World) (h : Nat) (s : ByteArray) (e : Int) : Prop where
  c0 : Blk w h 9 #[.string s]
  c1 : Blk w (h + 1) 30 #[.int .i64 e]
theorem Duo.below {w w' : World} {B h : Nat} {s : ByteArray} {e : Int} (h3 : Duo w h s e) (hb : Below B w w') (hB : h + 1 < B) : Duo w' h s e := ⟨h3.c0.below hb (by omega), h3.c1.below hb hB⟩
theorem Duo.set {w : World} {h : Nat} {s : ByteArray} {e : Int} (h3 : Duo w h s e) (s' : ByteArray) (e' : Int) : Duo ((w.setCell ⟨h, 0, none⟩ (.string s')).setCell ⟨h + 1, 0, none⟩ (.int .i64 e')) h s' e' :=
  ⟨(h3.c0.set 0 _).other (p := ⟨h + 1, 0, none⟩) (by show h ≠ h + 1; omega) _, (h3.c1.other (p := ⟨h, 0, none⟩) (by show h + 1 ≠ h; omega) _).set 0 _⟩
theorem duo_below (w : World) (h : Nat) (a b : Value) : Below h w ((w.setCell ⟨h, 0, none⟩ a).setCell ⟨h + 1, 0, none⟩ b) :=
  ((Below.refl h w).setCell (p := ⟨h, 0, none⟩) (Nat.le_refl _) _).setCell (p := ⟨h + 1, 0, none⟩) (Nat.le_succ _) _
set_option maxHeartbeats 1000000 in
theorem lw_catch (h : Nat) (why at_ : Int) (s : ByteArray) (e0 : Int) (w : World) (h3 : Duo w h s e0) :
    CallsD Try.prog 26 #[.pointer (some ⟨h, 0, none⟩), .pointer (some ⟨h + 1, 0, none⟩)] (.panicking [{ v := .iface 60 (.agg #[.int .i64 why, .int .i64 at_]), recovered := false }]) w fun e u' w' =>
      e = .returned (.tuple #[]) ∧ u' = .panicking [{ v := .iface 60 (.agg #[.int .i64 why, .int .i64 at_]), recovered := true }] ∧ Duo w' h ⟨#[]⟩ why ∧ Below h w w' := by
  have hta : ∀ w : World, (Instr.typeAssert (.iface 60 (.agg #[.int .i64 why, .int .i64 at_])) 20 60 false).run Try.prog w = .ok (.agg #[.int .i64 why, .int .i64 at_]) w := fun w => by kernel_rfl
  refine callsD_of_wpS Try.func26 rfl fun c₀ cs hu => ?_
  apply wpS_seq
  apply wpS_region
  simp [wpOpsS, go_sem, recoverD, hu, Try.ntmps26, Exit.thenS, Array.replicate]
  apply wpS_seq
  apply wpS_region
  simp [wpOpsS, go_sem, Exit.thenS]
  refine wpS_cond (t := true) (by simp [Act.eval]) ?_
  simp only [if_true]
  refine wpS_of_wp ?_
  have hfl : ∀ w : World, (Instr.field 60 (.agg #[.int .i64 why, .int .i64 at_]) 0).run Try.prog w = .ok (.int .i64 why) w := fun w => by kernel_rfl
  have h4 := h3.set ⟨#[]⟩ why
  have hb4 := duo_below w h (.string ⟨#[]⟩) (.int .i64 why)
  have c0 : w.cell? ⟨h, 0, none⟩ = some (.string s) := h3.c0.cell 0
  have c1 : w.cell? ⟨h + 1, 0, none⟩ = some (.int .i64 e0) := h3.c1.cell 0
  have f0 := h3.c0.frozen 0
  have f1 := h3.c1.frozen 0
  have h5 : Duo ((w.setCell ⟨h, 0, none⟩ (.string ⟨#[]⟩)).setCell ⟨h + 1, 0, none⟩ (.int .i64 why)).drew h ⟨#[]⟩ why := ⟨h4.c0, h4.c1⟩
  go_region
  exact ⟨rfl, _, rfl, _, by simp [results, Try.results26], rfl, rfl, h5, hb4.drew⟩
theorem lw_results {tmps : Array Value} {w : World} {h : Nat} {s : ByteArray} {e : Int} (h3 : Duo w h s e) (t2 : tmps[2]?.getD undef = .pointer (some ⟨h, 0, none⟩)) (t3 : tmps[3]?.getD undef = .pointer (some ⟨h + 1, 0, none⟩)) :
    (results Try.f11 tmps).run Try.prog w = .ok (.tuple #[.string s, .int .i64 e]) w := by
  have c0 : w.cell? ⟨h, 0, none⟩ = some (.string s) := h3.c0.cell 0
  have c1 : w.cell? ⟨h + 1, 0, none⟩ = some (.int .i64 e) := h3.c1.cell 0
  simp [results, Try.results11, go_sem, t2, t3, c0, c1]
theorem duo_new (w : World) (s : ByteArray) (e : Int) : Duo ((w.alloc (.cells #[.string s] 9)).alloc (.cells #[.int .i64 e] 30)) w.heap.size s e := by
  have s1 := alloc_size w (.cells #[.string s] 9)
  have b1 := Blk.new w 9 #[.string s]
  have b2 := Blk.new (w.alloc (.cells #[.string s] 9)) 30 #[.int .i64 e]
  rw [s1] at b2
  exact ⟨b1.old ((Below.refl _ _).alloc (Nat.le_refl _) _), b2⟩
/-- What Print answers of a value. -/
def prnV (p : Prt) : Value := if (txt p).length ≤ 65536 then .tuple #[.string (bs (txt p)), .int .i64 0] else .tuple #[.string ⟨#[]⟩, .int .i64 2]
set_option maxHeartbeats 2000000 in
set_option maxRecDepth 20000 in
theorem lprint_any (v : Value) (p : Prt) (hmay : may p = true) (lo n₀ : Nat) (w : World) (hn : n₀ ≤ w.heap.size) (hv : VIn w lo n₀ v p) :
    Calls Try.prog 11 #[v] w fun e w' => e = .returned (prnV p) ∧ Below w.heap.size w w' := by
  have hmf : ∀ (fn : Fn) (first cap : Array Value) (w : World), (Instr.makeFunc fn first cap).run Try.prog w = .ok (.func fn first cap) w := fun _ _ _ _ => rfl
  have hb2 := ((Below.refl w.heap.size w).alloc (Nat.le_refl _) (.cells #[.string ⟨#[]⟩] 9)).alloc (by simp) (.cells #[.int .i64 0] 30)
  have hs2 : ((w.alloc (.cells #[.string ⟨#[]⟩] 9)).alloc (.cells #[.int .i64 0] 30)).heap.size = w.heap.size + 2 := by simp
  have hd2 := duo_new w ⟨#[]⟩ 0
  have hb3 := hb2.alloc (by rw [hs2]; omega) (.cells #[.slice none 0 0] 63)
  have hP := Blk.new ((w.alloc (.cells #[.string ⟨#[]⟩] 9)).alloc (.cells #[.int .i64 0] 30)) 63 #[.slice none 0 0]
  have hs3 := alloc_size ((w.alloc (.cells #[.string ⟨#[]⟩] 9)).alloc (.cells #[.int .i64 0] 30)) (.cells #[.slice none 0 0] 63)
  have hbA := (Below.refl (w.heap.size + 2) ((w.alloc (.cells #[.string ⟨#[]⟩] 9)).alloc (.cells #[.int .i64 0] 30))).alloc (by rw [hs2]; exact Nat.le_refl _) (.cells #[.slice none 0 0] 63)
  have hd3 := hd2.below hbA (by omega)
  rw [hs2] at hP hs3
  have hpr : Pr (((w.alloc (.cells #[.string ⟨#[]⟩] 9)).alloc (.cells #[.int .i64 0] 30)).alloc (.cells #[.slice none 0 0] 63)) (w.heap.size + 2) (w.heap.size + 3) [] :=
    ⟨⟨_, hP, BOwn.nil _ _ _⟩, by omega, by rw [hs3]; omega, by simp⟩
  have hwv := writeValue_any p hmay v lo n₀ (w.heap.size + 2) (w.heap.size + 3) [] _ (hv.old hb3 hn) (by omega) hpr
  have HD : Hid _ := hd3
  have hform := hv.form
  clear hpr hP hbA hd2 hd3 hs3 hv hb2 hs2
  obtain ⟨T, hT⟩ : ∃ T, txt p = T := ⟨_, rfl⟩
  have HR : Hid (prnV p = if T.length ≤ 65536 then .tuple #[.string (bs T), .int .i64 0] else .tuple #[.string ⟨#[]⟩, .int .i64 2]) := by show _ = _; rw [prnV, hT]
  obtain ⟨R, hR⟩ : ∃ R, prnV p = R := ⟨_, rfl⟩
  rw [hT] at hwv
  rw [hR] at HR ⊢
  clear hT hR
  go_enter_defers Try.func11, Try.ntmps11
  go_wp2_with fail
  generalize ((w.alloc (.cells #[.string ⟨#[]⟩] 9)).alloc (.cells #[.int .i64 0] 30)).alloc (.cells #[.slice none 0 0] 63) = w3 at *
  refine hwv.mono ?_
  rintro e w4 hE
  rcases hE.cases with ⟨hle, rfl, hb4, hp4⟩ | ⟨hbad, rfl, hb4⟩
  · have HR2 : Hid (R = .tuple #[.string (bs T), .int .i64 0]) := by show _ = _; rw [HR.out, if_pos (by simpa using hle)]
    have hd4 := HD.out.below hb4 (by omega)
    obtain ⟨⟨v5, hblk, hown⟩, _, _, _⟩ := hp4
    simp only [List.nil_append] at hown
    have c0 : w4.cell? ⟨w.heap.size + 2, 0, none⟩ = some v5 := hblk.cell 0
    have hcv := run_string_own (P := Try.prog) w4 61 9 5 Try.underlying61 Try.underlying5 Try.underlying9 (w.heap.size + 3) v5 T hown
    obtain ⟨a5, c5, rfl⟩ := row_val hown
    have d0 : w4.cell? ⟨w.heap.size, 0, none⟩ = some (.string ⟨#[]⟩) := hd4.c0.cell 0
    have d1 : w4.cell? ⟨w.heap.size + 1, 0, none⟩ = some (.int .i64 0) := hd4.c1.cell 0
    have f0 := hd4.c0.frozen 0
    have f1 := hd4.c1.frozen 0
    have hd5 := hd4.set (bs T) 0
    have hb5 := duo_below w4 w.heap.size (.string (bs T)) (.int .i64 0)
    have hbw : Below w.heap.size w w4 := hb3.trans (hb4.mono (by omega))
    clear hE hwv hown hblk HR hle
    generalize bs T = X at *
    generalize T.length = tl at *
    go_wp2
    refine leaves_cons (f := 26) (args := #[.pointer (some ⟨w.heap.size, 0, none⟩), .pointer (some ⟨w.heap.size + 1, 0, none⟩)]) (by simp) (by simp [go_sem]) ?_
    refine (lw_idle _ _ _).mono ?_
    rintro e u' w'' ⟨rfl, rfl, rfl⟩
    exact ⟨_, lw_results hd5 rfl rfl, by rw [HR2.out], hbw.trans hb5⟩
  · have HR2 : Hid (R = .tuple #[.string ⟨#[]⟩, .int .i64 2]) := by show _ = _; rw [HR.out, if_neg (by simpa using hbad)]
    have hd4 := HD.out.below hb4 (by omega)
    have hbw : Below w.heap.size w w4 := hb3.trans (hb4.mono (by omega))
    clear hE hwv HR hbad
    go_wp2
    refine leaves_cons (f := 26) (args := #[.pointer (some ⟨w.heap.size, 0, none⟩), .pointer (some ⟨w.heap.size + 1, 0, none⟩)]) (by simp) (by simp [go_sem]) ?_
    refine (lw_catch w.heap.size 2 0 _ _ _ hd4).mono ?_
    rintro e u' w'' ⟨rfl, rfl, h4, hb5⟩
    exact ⟨_, lw_results h4 rfl rfl, by rw [HR2.out], hbw.trans hb5⟩
end Go.Proofs.Ytffhbellpcneeaa
