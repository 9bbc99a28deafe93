/- What nat.Parse does (contracts; nothing is claimed here). -/
import Derived.Test.YtffhbellpcneeaaNatNeed
import Derived.Test.YtffhbellpcneeaaJ3
namespace Go.Proofs.Ytffhbellpcneeaa
open Go.RowKit Go.Vf

theorem parse_idle (p q : Addr) (w : World) :
    CallsD Try.prog 82 #[.pointer (some p), .pointer (some q)] .returning w fun e u' w' => e = .returned (.tuple #[]) ∧ u' = .returning ∧ w' = w := by
  refine callsD_of_wpS Try.func82 rfl fun c₀ cs hu => ?_
  apply wpS_seq
  apply wpS_region
  simp [wpOpsS, go_sem, recoverD, hu, Try.ntmps82, Exit.thenS]
  apply wpS_seq
  apply wpS_region
  simp [wpOpsS, go_sem, Exit.thenS]
  refine wpS_cond (t := false) (by simp [Act.eval, Array.replicate]) ?_
  simp only [Bool.false_eq_true, if_false]
  refine wpS_of_wp (wp_skip ?_)
  cases c₀
  simp_all [bodyPostS, results, Try.results82]

/-- The two variables of Parse's results. -/
structure Two (w : World) (h : Nat) (b : Bool) (m : ByteArray) (e : Int) : Prop where
  c0 : w.cell? ⟨h, 0, none⟩ = some (.bool b)
  c1 : w.cell? ⟨h, 1, none⟩ = some (.string m)
  c2 : w.cell? ⟨h + 1, 0, none⟩ = some (.int .i64 e)
  f0 : w.frozen? ⟨h, 0, none⟩ = false
  f1 : w.frozen? ⟨h, 1, none⟩ = false
  f2 : w.frozen? ⟨h + 1, 0, none⟩ = false
  lt : h + 1 < w.heap.size

theorem Two.below {w w' : World} {B h : Nat} {b : Bool} {m : ByteArray} {e : Int} (h3 : Two w h b m e) (hb : Below B w w') (hB : h + 1 < B) : Two w' h b m e :=
  ⟨(hb.cell (p := ⟨h, 0, none⟩) (by show h < B; omega)).trans h3.c0, (hb.cell (p := ⟨h, 1, none⟩) (by show h < B; omega)).trans h3.c1, (hb.cell (p := ⟨h + 1, 0, none⟩) hB).trans h3.c2,
    (hb.frozen (p := ⟨h, 0, none⟩) (by show h < B; omega)).trans h3.f0, (hb.frozen (p := ⟨h, 1, none⟩) (by show h < B; omega)).trans h3.f1, (hb.frozen (p := ⟨h + 1, 0, none⟩) hB).trans h3.f2, Nat.lt_of_lt_of_le h3.lt hb.size⟩
theorem Two.drew {w : World} {h : Nat} {b : Bool} {m : ByteArray} {e : Int} (h3 : Two w h b m e) : Two w.drew h b m e := ⟨h3.c0, h3.c1, h3.c2, h3.f0, h3.f1, h3.f2, h3.lt⟩

theorem Two.set {w : World} {h : Nat} {b : Bool} {m : ByteArray} {e : Int} (h3 : Two w h b m e) (b' : Bool) (m' : ByteArray) (e' : Int) :
    Two (((w.setCell ⟨h, 0, none⟩ (.bool b')).setCell ⟨h, 1, none⟩ (.string m')).setCell ⟨h + 1, 0, none⟩ (.int .i64 e')) h b' m' e' ∧
    Below h w (((w.setCell ⟨h, 0, none⟩ (.bool b')).setCell ⟨h, 1, none⟩ (.string m')).setCell ⟨h + 1, 0, none⟩ (.int .i64 e')) := by
  obtain ⟨c0, c1, c2, f0, f1, f2, hlt⟩ := h3
  refine ⟨⟨?_, ?_, ?_, ?_, ?_, ?_, ?_⟩, ?_⟩
  · rw [World.cell?_setCell_other _ _ _ _ (by simp), World.cell?_setCell_other _ _ _ _ (by simp), World.cell?_setCell_same _ _ _ (by rw [c0])]
  · rw [World.cell?_setCell_other _ _ _ _ (by simp), World.cell?_setCell_same _ _ _ (by rw [World.cell?_setCell_other _ _ _ _ (by simp), c1])]
  · rw [World.cell?_setCell_same _ _ _ (by rw [World.cell?_setCell_other _ _ _ _ (by simp), World.cell?_setCell_other _ _ _ _ (by simp), c2])]
  · simp only [World.frozen?_setCell, f0]
  · simp only [World.frozen?_setCell, f1]
  · simp only [World.frozen?_setCell, f2]
  · simpa using hlt
  · exact (((Below.refl h w).setCell (p := ⟨h, 0, none⟩) (Nat.le_refl _) _).setCell (p := ⟨h, 1, none⟩) (Nat.le_refl _) _).setCell (p := ⟨h + 1, 0, none⟩) (Nat.le_succ _) _

set_option maxHeartbeats 1000000 in
theorem parse_catch (h : Nat) (why at_ : Int) (b : Bool) (m : ByteArray) (e0 : Int) (w : World) (h3 : Two w h b m e0) :
    CallsD Try.prog 82 #[.pointer (some ⟨h, 0, none⟩), .pointer (some ⟨h + 1, 0, none⟩)] (.panicking [{ v := lostV why at_, recovered := false }]) w fun e u' w' =>
      e = .returned (.tuple #[]) ∧ u' = .panicking [{ v := lostV why at_, recovered := true }] ∧ Two w' h false ⟨#[]⟩ why ∧ Below h w w' := by
  have hta : ∀ w : World, (Instr.typeAssert (lostV why at_) 20 130 false).run Try.prog w = .ok (.agg #[.int .i64 why, .int .i64 at_]) w := fun w => by kernel_rfl
  refine callsD_of_wpS Try.func82 rfl fun c₀ cs hu => ?_
  apply wpS_seq
  apply wpS_region
  simp [wpOpsS, go_sem, recoverD, hu, Try.ntmps82, Exit.thenS, Array.replicate]
  apply wpS_seq
  apply wpS_region
  simp [wpOpsS, go_sem, Exit.thenS]
  refine wpS_cond (t := true) (by simp [Act.eval]) ?_
  simp only [if_true]
  refine wpS_of_wp ?_
  have hfl : ∀ w : World, (Instr.field 130 (.agg #[.int .i64 why, .int .i64 at_]) 0).run Try.prog w = .ok (.int .i64 why) w := fun w => by kernel_rfl
  have h4 := h3.set false ⟨#[]⟩ why
  obtain ⟨c0, c1, c2, f0, f1, f2, hlt⟩ := h3
  go_region
  exact ⟨rfl, _, rfl, _, by simp [results, Try.results82], rfl, rfl, h4.1.drew, h4.2.drew⟩

theorem parse_results {tmps : Array Value} {w : World} {h : Nat} {b : Bool} {m : ByteArray} {e : Int} (h3 : Two w h b m e) (t4 : tmps[2]?.getD undef = .pointer (some ⟨h, 0, none⟩)) (t5 : tmps[3]?.getD undef = .pointer (some ⟨h + 1, 0, none⟩)) :
    (results Try.f69 tmps).run Try.prog w = .ok (.tuple #[numV b m, .int .i64 e]) w := by
  obtain ⟨c0, c1, c2, f0, f1, f2, hlt⟩ := h3
  simp [results, Try.results69, go_sem, t4, t5, c0, c1, c2]

def parseB (l : List UInt8) : Bool := [45].isPrefixOf l
def parseD (l : List UInt8) : List UInt8 := if parseB l then l.drop 1 else l
def parseR (l : List UInt8) : Except Int (Bool × List UInt8) :=
  if digOK (parseD l) (parseB l) then (if (lowD (dval (parseD l))).length ≤ 255 then .ok (parseB l, (lowD (dval (parseD l))).reverse) else .error 21) else .error 20
def parseE : Except Int (Bool × List UInt8) → Ending
  | .ok (b, m) => .returned (.tuple #[numV b (bs m), .int .i64 0])
  | .error e => .returned (.tuple #[numV false (bs []), .int .i64 e])

theorem two_new (w : World) : Two ((w.alloc (.cells #[.bool false, .string ⟨#[]⟩] 24)).alloc (.cells #[.int .i64 0] 30)) w.heap.size false ⟨#[]⟩ 0 :=
  by constructor <;> simp [go_sem]

set_option maxHeartbeats 2000000 in
theorem parse_any (s : ByteArray) (hs : s.size ≤ 17179869184) (w : World) :
    Calls Try.prog 69 #[.string s] w fun e w' => e = parseE (parseR s.data.toList) ∧ Below w.heap.size w w' := by
  have hmf : ∀ (fn : Fn) (first cap : Array Value) (w : World), (Instr.makeFunc fn first cap).run Try.prog w = .ok (.func fn first cap) w := fun _ _ _ _ => rfl
  have hsl : s.data.toList.length = s.size := (Lib.size_eq s).symm
  have h3 := two_new w
  have hbel := ((Below.refl w.heap.size w).alloc (Nat.le_refl _) (.cells #[.bool false, .string ⟨#[]⟩] 24)).alloc (by simp) (.cells #[.int .i64 0] 30)
  obtain ⟨B, hB⟩ : ∃ B, parseB s.data.toList = B := ⟨_, rfl⟩
  obtain ⟨D, hD⟩ : ∃ D, bs (parseD s.data.toList) = D := ⟨_, rfl⟩
  have hDl : D.data.toList = parseD s.data.toList := by rw [← hD, bs_data]
  have hDs : D.size ≤ s.size := by
    rw [Lib.size_eq, hDl, ← hsl]
    unfold parseD
    split
    · simp
    · exact Nat.le_refl _
  have hcut : (if (⟨#[45]⟩ : ByteArray).data.toList.isPrefixOf s.data.toList then bs (s.data.toList.drop (⟨#[45]⟩ : ByteArray).size) else s) = D := by
    rw [← hD, parseD, parseB]
    show (if [45].isPrefixOf s.data.toList then bs (s.data.toList.drop 1) else s) = _
    split
    · rfl
    · rw [bs_of]
  have hpre : (⟨#[45]⟩ : ByteArray).data.toList.isPrefixOf s.data.toList = B := by rw [← hB]; rfl
  have HR : Hid (parseR s.data.toList = if digOK D.data.toList B then (if (lowD (dval D.data.toList)).length ≤ 255 then .ok (B, (lowD (dval D.data.toList)).reverse) else .error 21) else .error 20) := by
    show _ = _
    rw [parseR, hDl, hB]
  clear hD hB hDl hsl
  by_cases hok : digOK D.data.toList B = true
  · have hdig : ∀ x ∈ D.data.toList, isDig x = true := by
      unfold digOK at hok
      rw [Bool.and_eq_true, List.all_eq_true] at hok
      exact hok.2
    by_cases hlen : (lowD (dval D.data.toList)).length ≤ 255
    · have hR : parseE (parseR s.data.toList) = .returned (.tuple #[numV B (bs (lowD (dval D.data.toList)).reverse), .int .i64 0]) := by rw [HR.out, if_pos hok, if_pos hlen]; rfl
      have hE : readE D.data.toList = .returned (.string (bs (lowD (dval D.data.toList)).reverse)) := by rw [readE, if_pos hlen]
      rw [hR]
      clear hR HR
      go_enter_defers Try.func69, Try.ntmps69
      go_wp2_with fail
      refine (cut_any s _ _ hs (by decide)).mono ?_
      rintro e w1 ⟨rfl, rfl⟩
      rw [hcut, hpre]
      clear hcut hpre
      generalize (w.alloc (.cells #[.bool false, .string ⟨#[]⟩] 24)).alloc (.cells #[.int .i64 0] 30) = W at h3 hbel ⊢
      go_wp2_with fail
      refine (needDigits_any D B (by omega) _).mono ?_
      rintro e w1 ⟨rfl, rfl⟩
      rw [if_pos hok]
      clear hok
      go_wp2_with fail
      refine (readDigits_any D (by omega) hdig _).mono ?_
      rintro e w1 ⟨rfl, hb1⟩
      rw [hE]
      clear hE hdig hlen
      have h3' := h3.below hb1 h3.lt
      have hbel1 := hbel.trans (hb1.mono hbel.size)
      generalize hM : (lowD (dval D.data.toList)).reverse = M
      have h4 := h3'.set B (bs M) 0
      obtain ⟨c0, c1, c2, f0, f1, f2, hlt⟩ := h3'
      go_wp2
      refine leaves_cons (f := 82) (args := #[.pointer (some ⟨w.heap.size, 0, none⟩), .pointer (some ⟨w.heap.size + 1, 0, none⟩)]) (by simp) (by simp [go_sem]) ?_
      refine (parse_idle _ _ _).mono ?_
      rintro e u' w'' ⟨rfl, rfl, rfl⟩
      exact ⟨_, parse_results h4.1 rfl rfl, by rw [hM], hbel1.trans h4.2⟩
    · have hR : parseE (parseR s.data.toList) = .returned (.tuple #[numV false (bs []), .int .i64 21]) := by rw [HR.out, if_pos hok, if_neg hlen]; rfl
      have hE : readE D.data.toList = lost 21 0 := by rw [readE, if_neg hlen]
      rw [hR]
      clear hR HR
      go_enter_defers Try.func69, Try.ntmps69
      go_wp2_with fail
      refine (cut_any s _ _ hs (by decide)).mono ?_
      rintro e w1 ⟨rfl, rfl⟩
      rw [hcut, hpre]
      clear hcut hpre
      generalize (w.alloc (.cells #[.bool false, .string ⟨#[]⟩] 24)).alloc (.cells #[.int .i64 0] 30) = W at h3 hbel ⊢
      go_wp2_with fail
      refine (needDigits_any D B (by omega) _).mono ?_
      rintro e w1 ⟨rfl, rfl⟩
      rw [if_pos hok]
      clear hok
      go_wp2_with fail
      refine (readDigits_any D (by omega) hdig _).mono ?_
      rintro e w1 ⟨rfl, hb1⟩
      rw [hE]
      clear hE hdig hlen
      have h3' := h3.below hb1 h3.lt
      have hbel1 := hbel.trans (hb1.mono hbel.size)
      go_wp2
      refine leaves_cons (f := 82) (args := #[.pointer (some ⟨w.heap.size, 0, none⟩), .pointer (some ⟨w.heap.size + 1, 0, none⟩)]) (by simp) (by simp [go_sem]) ?_
      refine (parse_catch w.heap.size 21 0 _ _ _ _ h3').mono ?_
      rintro e u' w'' ⟨rfl, rfl, h4, hb4⟩
      exact ⟨_, parse_results h4 rfl rfl, rfl, hbel1.trans hb4⟩
  · have hR : parseE (parseR s.data.toList) = .returned (.tuple #[numV false (bs []), .int .i64 20]) := by rw [HR.out, if_neg hok]; rfl
    rw [hR]
    clear hR HR
    go_enter_defers Try.func69, Try.ntmps69
    go_wp2_with fail
    refine (cut_any s _ _ hs (by decide)).mono ?_
    rintro e w1 ⟨rfl, rfl⟩
    rw [hcut, hpre]
    clear hcut hpre
    generalize (w.alloc (.cells #[.bool false, .string ⟨#[]⟩] 24)).alloc (.cells #[.int .i64 0] 30) = W at h3 hbel ⊢
    go_wp2_with fail
    refine (needDigits_any D B (by omega) _).mono ?_
    rintro e w1 ⟨rfl, rfl⟩
    rw [if_neg hok]
    clear hok
    go_wp2
    refine leaves_cons (f := 82) (args := #[.pointer (some ⟨w.heap.size, 0, none⟩), .pointer (some ⟨w.heap.size + 1, 0, none⟩)]) (by simp) (by simp [go_sem]) ?_
    refine (parse_catch w.heap.size 20 0 _ _ _ _ h3).mono ?_
    rintro e u' w'' ⟨rfl, rfl, h4, hb4⟩
    exact ⟨_, parse_results h4 rfl rfl, rfl, hbel.trans hb4⟩
end Go.Proofs.Ytffhbellpcneeaa
