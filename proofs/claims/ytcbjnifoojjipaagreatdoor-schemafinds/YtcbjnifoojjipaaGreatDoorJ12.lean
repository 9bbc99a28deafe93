/- Contracts and lemmas (nothing is claimed here). -/
import Derived.Test.YtcbjnifoojjipaaGreatDoorJ11
import Derived.Test.YtcbjnifoojjipaaGreatDoorSLin
import Derived.Test.YtcbjnifoojjipaaGreatDoorFTou
namespace Go.Proofs.YtcbjnifoojjipaaGreatDoor
open Go.RowKit Go.Vf
theorem parse_idle (p q : Addr) (w : World) :
    CallsD Tryz.prog 170 #[.pointer (some p), .pointer (some q)] .returning w fun e u' w' => e = .returned (.tuple #[]) ∧ u' = .returning ∧ w' = w := by
  refine callsD_of_wpS Tryz.func170 rfl fun c₀ cs hu => ?_
  apply wpS_seq
  apply wpS_region
  simp [wpOpsS, go_sem, recoverD, hu, Tryz.ntmps170, Exit.thenS]
  apply wpS_seq
  apply wpS_region
  simp [wpOpsS, go_sem, Exit.thenS]
  refine wpS_cond (t := false) (by simp [Act.eval, Array.replicate]) ?_
  simp only [Bool.false_eq_true, if_false]
  refine wpS_of_wp (wp_skip ?_)
  cases c₀
  simp_all [bodyPostS, results, Tryz.results170]
structure Two (w : World) (h : Nat) (b : Bool) (m : ByteArray) (e : Int) : Prop where
  c0 : w.cell? ⟨h, 0, none⟩ = some (.bool b)
  c1 : w.cell? ⟨h, 1, none⟩ = some (.string m)
  c2 : w.cell? ⟨h + 1, 0, none⟩ = some (.int .i64 e)
  f0 : w.frozen? ⟨h, 0, none⟩ = false
  f1 : w.frozen? ⟨h, 1, none⟩ = false
  f2 : w.frozen? ⟨h + 1, 0, none⟩ = false
  lt : h + 1 < w.heap.size
theorem Two.below {w w' : World} {B h : Nat} {b : Bool} {m : ByteArray} {e : Int} (h3 : Two w h b m e) (hb : Below B w w') (hB : h + 1 < B) : Two w' h b m e :=
  ⟨(hb.cell (p := ⟨h, 0, none⟩) (by show h < B; omega)).trans h3.c0, (hb.cell (p := ⟨h, 1, none⟩) (by show h < B; omega)).trans h3.c1, (hb.cell (p := ⟨h + 1, 0, none⟩) hB).trans h3.c2,
    (hb.frozen (p := ⟨h, 0, none⟩) (by show h < B; omega)).trans h3.f0, (hb.frozen (p := ⟨h, 1, none⟩) (by show h < B; omega)).trans h3.f1, (hb.frozen (p := ⟨h + 1, 0, none⟩) hB).trans h3.f2, Nat.lt_of_lt_of_le h3.lt hb.size⟩
theorem Two.drew {w : World} {h : Nat} {b : Bool} {m : ByteArray} {e : Int} (h3 : Two w h b m e) : Two w.drew h b m e := ⟨h3.c0, h3.c1, h3.c2, h3.f0, h3.f1, h3.f2, h3.lt⟩
theorem Two.set {w : World} {h : Nat} {b : Bool} {m : ByteArray} {e : Int} (h3 : Two w h b m e) (b' : Bool) (m' : ByteArray) (e' : Int) :
    Two (((w.setCell ⟨h, 0, none⟩ (.bool b')).setCell ⟨h, 1, none⟩ (.string m')).setCell ⟨h + 1, 0, none⟩ (.int .i64 e')) h b' m' e' ∧
    Below h w (((w.setCell ⟨h, 0, none⟩ (.bool b')).setCell ⟨h, 1, none⟩ (.string m')).setCell ⟨h + 1, 0, none⟩ (.int .i64 e')) := by
  obtain ⟨c0, c1, c2, f0, f1, f2, hlt⟩ := h3
  refine ⟨⟨?_, ?_, ?_, ?_, ?_, ?_, ?_⟩, ?_⟩
  · rw [World.cell?_setCell_other _ _ _ _ (by simp), World.cell?_setCell_other _ _ _ _ (by simp), World.cell?_setCell_same _ _ _ (by rw [c0])]
  · rw [World.cell?_setCell_other _ _ _ _ (by simp), World.cell?_setCell_same _ _ _ (by rw [World.cell?_setCell_other _ _ _ _ (by simp), c1])]
  · rw [World.cell?_setCell_same _ _ _ (by rw [World.cell?_setCell_other _ _ _ _ (by simp), World.cell?_setCell_other _ _ _ _ (by simp), c2])]
  · simp only [World.frozen?_setCell, f0]
  · simp only [World.frozen?_setCell, f1]
  · simp only [World.frozen?_setCell, f2]
  · simpa using hlt
  · exact (((Below.refl h w).setCell (p := ⟨h, 0, none⟩) (Nat.le_refl _) _).setCell (p := ⟨h, 1, none⟩) (Nat.le_refl _) _).setCell (p := ⟨h + 1, 0, none⟩) (Nat.le_succ _) _
set_option maxHeartbeats 1000000 in
theorem parse_catch (h : Nat) (why at_ : Int) (b : Bool) (m : ByteArray) (e0 : Int) (w : World) (h3 : Two w h b m e0) :
    CallsD Tryz.prog 170 #[.pointer (some ⟨h, 0, none⟩), .pointer (some ⟨h + 1, 0, none⟩)] (.panicking [{ v := lostV why at_, recovered := false }]) w fun e u' w' =>
      e = .returned (.tuple #[]) ∧ u' = .panicking [{ v := lostV why at_, recovered := true }] ∧ Two w' h false ⟨#[]⟩ why ∧ Below h w w' := by
  have hta : ∀ w : World, (Instr.typeAssert (lostV why at_) 20 223 false).run Tryz.prog w = .ok (.agg #[.int .i64 why, .int .i64 at_]) w := fun w => by kernel_rfl
  refine callsD_of_wpS Tryz.func170 rfl fun c₀ cs hu => ?_
  apply wpS_seq
  apply wpS_region
  simp [wpOpsS, go_sem, recoverD, hu, Tryz.ntmps170, Exit.thenS, Array.replicate]
  apply wpS_seq
  apply wpS_region
  simp [wpOpsS, go_sem, Exit.thenS]
  refine wpS_cond (t := true) (by simp [Act.eval]) ?_
  simp only [if_true]
  refine wpS_of_wp ?_
  have hfl : ∀ w : World, (Instr.field 223 (.agg #[.int .i64 why, .int .i64 at_]) 0).run Tryz.prog w = .ok (.int .i64 why) w := fun w => by kernel_rfl
  have h4 := h3.set false ⟨#[]⟩ why
  obtain ⟨c0, c1, c2, f0, f1, f2, hlt⟩ := h3
  go_region
  exact ⟨rfl, _, rfl, _, by simp [results, Tryz.results170], rfl, rfl, h4.1.drew, h4.2.drew⟩
theorem parse_results {tmps : Array Value} {w : World} {h : Nat} {b : Bool} {m : ByteArray} {e : Int} (h3 : Two w h b m e) (t4 : tmps[2]?.getD undef = .pointer (some ⟨h, 0, none⟩)) (t5 : tmps[3]?.getD undef = .pointer (some ⟨h + 1, 0, none⟩)) :
    (results Tryz.f162 tmps).run Tryz.prog w = .ok (.tuple #[numV b m, .int .i64 e]) w := by
  obtain ⟨c0, c1, c2, f0, f1, f2, hlt⟩ := h3
  simp [results, Tryz.results162, go_sem, t4, t5, c0, c1, c2]
def parseB (l : List UInt8) : Bool := [45].isPrefixOf l
def parseD (l : List UInt8) : List UInt8 := if parseB l then l.drop 1 else l
def parseR (l : List UInt8) : Except Int (Bool × List UInt8) :=
  if digOK (parseD l) (parseB l) then (if (lowD (dval (parseD l))).length ≤ 255 then .ok (parseB l, (lowD (dval (parseD l))).reverse) else .error 21) else .error 20
def parseE : Except Int (Bool × List UInt8) → Ending
  | .ok (b, m) => .returned (.tuple #[numV b (bs m), .int .i64 0])
  | .error e => .returned (.tuple #[numV false (bs []), .int .i64 e])
theorem two_new (w : World) : Two ((w.alloc (.cells #[.bool false, .string ⟨#[]⟩] 44)).alloc (.cells #[.int .i64 0] 28)) w.heap.size false ⟨#[]⟩ 0 :=
  by constructor <;> simp [go_sem]
set_option maxHeartbeats 2000000 in
theorem parse_any (s : ByteArray) (hs : s.size ≤ 17179869184) (w : World) :
    Calls Tryz.prog 162 #[.string s] w fun e w' => e = parseE (parseR s.data.toList) ∧ Below w.heap.size w w' := by
  have hmf : ∀ (fn : Fn) (first cap : Array Value) (w : World), (Instr.makeFunc fn first cap).run Tryz.prog w = .ok (.func fn first cap) w := fun _ _ _ _ => rfl
  have hsl : s.data.toList.length = s.size := (Lib.size_eq s).symm
  have h3 := two_new w
  have hbel := ((Below.refl w.heap.size w).alloc (Nat.le_refl _) (.cells #[.bool false, .string ⟨#[]⟩] 44)).alloc (by simp) (.cells #[.int .i64 0] 28)
  obtain ⟨B, hB⟩ : ∃ B, parseB s.data.toList = B := ⟨_, rfl⟩
  obtain ⟨D, hD⟩ : ∃ D, bs (parseD s.data.toList) = D := ⟨_, rfl⟩
  have hDl : D.data.toList = parseD s.data.toList := by rw [← hD, bs_data]
  have hDs : D.size ≤ s.size := by
    rw [Lib.size_eq, hDl, ← hsl]
    unfold parseD
    split
    · simp
    · exact Nat.le_refl _
  have hcut : (if (⟨#[45]⟩ : ByteArray).data.toList.isPrefixOf s.data.toList then bs (s.data.toList.drop (⟨#[45]⟩ : ByteArray).size) else s) = D := by
    rw [← hD, parseD, parseB]
    show (if [45].isPrefixOf s.data.toList then bs (s.data.toList.drop 1) else s) = _
    split
    · rfl
    · rw [bs_of]
  have hpre : (⟨#[45]⟩ : ByteArray).data.toList.isPrefixOf s.data.toList = B := by rw [← hB]; rfl
  have HR : Hid (parseR s.data.toList = if digOK D.data.toList B then (if (lowD (dval D.data.toList)).length ≤ 255 then .ok (B, (lowD (dval D.data.toList)).reverse) else .error 21) else .error 20) := by
    show _ = _
    rw [parseR, hDl, hB]
  clear hD hB hDl hsl
  by_cases hok : digOK D.data.toList B = true
  · have hdig : ∀ x ∈ D.data.toList, isDig x = true := by
      unfold digOK at hok
      rw [Bool.and_eq_true, List.all_eq_true] at hok
      exact hok.2
    by_cases hlen : (lowD (dval D.data.toList)).length ≤ 255
    · have hR : parseE (parseR s.data.toList) = .returned (.tuple #[numV B (bs (lowD (dval D.data.toList)).reverse), .int .i64 0]) := by rw [HR.out, if_pos hok, if_pos hlen]; rfl
      have hE : readE D.data.toList = .returned (.string (bs (lowD (dval D.data.toList)).reverse)) := by rw [readE, if_pos hlen]
      rw [hR]
      clear hR HR
      go_enter_defers Tryz.func162, Tryz.ntmps162
      go_wp2_with fail
      refine (cut_any s _ _ hs (by decide)).mono ?_
      rintro e w1 ⟨rfl, rfl⟩
      rw [hcut, hpre]
      clear hcut hpre
      generalize (w.alloc (.cells #[.bool false, .string ⟨#[]⟩] 44)).alloc (.cells #[.int .i64 0] 28) = W at h3 hbel ⊢
      go_wp2_with fail
      refine (needDigits_any D B (by omega) _).mono ?_
      rintro e w1 ⟨rfl, rfl⟩
      rw [if_pos hok]
      clear hok
      go_wp2_with fail
      refine (readDigits_any D (by omega) hdig _).mono ?_
      rintro e w1 ⟨rfl, hb1⟩
      rw [hE]
      clear hE hdig hlen
      have h3' := h3.below hb1 h3.lt
      have hbel1 := hbel.trans (hb1.mono hbel.size)
      generalize hM : (lowD (dval D.data.toList)).reverse = M
      have h4 := h3'.set B (bs M) 0
      obtain ⟨c0, c1, c2, f0, f1, f2, hlt⟩ := h3'
      go_wp2
      refine leaves_cons (f := 170) (args := #[.pointer (some ⟨w.heap.size, 0, none⟩), .pointer (some ⟨w.heap.size + 1, 0, none⟩)]) (by simp) (by simp [go_sem]) ?_
      refine (parse_idle _ _ _).mono ?_
      rintro e u' w'' ⟨rfl, rfl, rfl⟩
      exact ⟨_, parse_results h4.1 rfl rfl, by rw [hM], hbel1.trans h4.2⟩
    · have hR : parseE (parseR s.data.toList) = .returned (.tuple #[numV false (bs []), .int .i64 21]) := by rw [HR.out, if_pos hok, if_neg hlen]; rfl
      have hE : readE D.data.toList = lost 21 0 := by rw [readE, if_neg hlen]
      rw [hR]
      clear hR HR
      go_enter_defers Tryz.func162, Tryz.ntmps162
      go_wp2_with fail
      refine (cut_any s _ _ hs (by decide)).mono ?_
      rintro e w1 ⟨rfl, rfl⟩
      rw [hcut, hpre]
      clear hcut hpre
      generalize (w.alloc (.cells #[.bool false, .string ⟨#[]⟩] 44)).alloc (.cells #[.int .i64 0] 28) = W at h3 hbel ⊢
      go_wp2_with fail
      refine (needDigits_any D B (by omega) _).mono ?_
      rintro e w1 ⟨rfl, rfl⟩
      rw [if_pos hok]
      clear hok
      go_wp2_with fail
      refine (readDigits_any D (by omega) hdig _).mono ?_
      rintro e w1 ⟨rfl, hb1⟩
      rw [hE]
      clear hE hdig hlen
      have h3' := h3.below hb1 h3.lt
      have hbel1 := hbel.trans (hb1.mono hbel.size)
      go_wp2
      refine leaves_cons (f := 170) (args := #[.pointer (some ⟨w.heap.size, 0, none⟩), .pointer (some ⟨w.heap.size + 1, 0, none⟩)]) (by simp) (by simp [go_sem]) ?_
      refine (parse_catch w.heap.size 21 0 _ _ _ _ h3').mono ?_
      rintro e u' w'' ⟨rfl, rfl, h4, hb4⟩
      exact ⟨_, parse_results h4 rfl rfl, rfl, hbel1.trans hb4⟩
  · have hR : parseE (parseR s.data.toList) = .returned (.tuple #[numV false (bs []), .int .i64 20]) := by rw [HR.out, if_neg hok]; rfl
    rw [hR]
    clear hR HR
    go_enter_defers Tryz.func162, Tryz.ntmps162
    go_wp2_with fail
    refine (cut_any s _ _ hs (by decide)).mono ?_
    rintro e w1 ⟨rfl, rfl⟩
    rw [hcut, hpre]
    clear hcut hpre
    generalize (w.alloc (.cells #[.bool false, .string ⟨#[]⟩] 44)).alloc (.cells #[.int .i64 0] 28) = W at h3 hbel ⊢
    go_wp2_with fail
    refine (needDigits_any D B (by omega) _).mono ?_
    rintro e w1 ⟨rfl, rfl⟩
    rw [if_neg hok]
    clear hok
    go_wp2
    refine leaves_cons (f := 170) (args := #[.pointer (some ⟨w.heap.size, 0, none⟩), .pointer (some ⟨w.heap.size + 1, 0, none⟩)]) (by simp) (by simp [go_sem]) ?_
    refine (parse_catch w.heap.size 20 0 _ _ _ _ h3).mono ?_
    rintro e u' w'' ⟨rfl, rfl, h4, hb4⟩
    exact ⟨_, parse_results h4 rfl rfl, rfl, hbel.trans hb4⟩
def kwords : List ByteArray := [⟨#[]⟩, ⟨#[98, 111, 111, 108]⟩, ⟨#[105, 110, 116]⟩, ⟨#[98, 121, 116, 101, 115]⟩, ⟨#[105, 100]⟩, ⟨#[110, 97, 109, 101]⟩, ⟨#[116, 101, 120, 116]⟩, ⟨#[116, 117, 112, 108, 101]⟩]
def kfind (x : ByteArray) : List ByteArray → Nat → Option Nat
  | [], _ => none
  | y :: r, j => if decide (y = x) = true then some j else kfind x r (j + 1)
def kindL (x : ByteArray) : Option Nat := kfind x kwords 0
def kindI : Option Nat → Int
  | some j => (j : Int)
  | none => -1
theorem kfind_drop (x : ByteArray) (l : List ByteArray) (i : Nat) {j : Nat} (hj : j < l.length) : kfind x (l.drop j) i = if decide (l[j] = x) = true then some i else kfind x (l.drop (j + 1)) (i + 1) := by
  rw [List.drop_eq_getElem_cons hj, kfind]
theorem sameKind_nil (y x : ByteArray) (B : Nat) (w : World) (h : w.cell? ⟨B, 0, none⟩ = some (.string x)) (hB : B < w.heap.size) :
    Calls Tryz.prog 122 #[.agg #[.string y, .nilFunc, .nilFunc, .nilFunc, .nilFunc], .pointer (some ⟨B, 0, none⟩)] w fun e w' => e = .returned (.bool (decide (y = x))) ∧ Below w.heap.size w w' := by
  have hb0 := (Below.refl w.heap.size w).alloc (Nat.le_refl _) (.cells #[.string y, .nilFunc, .nilFunc, .nilFunc, .nilFunc] 184)
  have hbe := bytes_eq y x
  go_enter Tryz.func122, Tryz.ntmps122
  go_wp2_with fail
  go_ret
  exact ⟨by first | rfl | rw [hbe], hb0⟩
theorem sameKind_fun (y x : ByteArray) (k1 k2 k3 k4 : Nat) (B : Nat) (w : World) (h : w.cell? ⟨B, 0, none⟩ = some (.string x)) (hB : B < w.heap.size) :
    Calls Tryz.prog 122 #[.agg #[.string y, .func (.func k1) #[] #[], .func (.func k2) #[] #[], .func (.func k3) #[] #[], .func (.func k4) #[] #[]], .pointer (some ⟨B, 0, none⟩)] w fun e w' => e = .returned (.bool (decide (y = x))) ∧ Below w.heap.size w w' := by
  have hb0 := (Below.refl w.heap.size w).alloc (Nat.le_refl _) (.cells #[.string y, .func (.func k1) #[] #[], .func (.func k2) #[] #[], .func (.func k3) #[] #[], .func (.func k4) #[] #[]] 184)
  have hbe := bytes_eq y x
  go_enter Tryz.func122, Tryz.ntmps122
  go_wp2_with fail
  go_ret
  exact ⟨by first | rfl | rw [hbe], hb0⟩
def KRow (w : World) (g j : Nat) (y : ByteArray) (f1 f2 f3 f4 : Value) : Prop := w.cell? ⟨g, j * 5, none⟩ = some (.string y) ∧ w.cell? ⟨g, j * 5 + 1, none⟩ = some f1 ∧ w.cell? ⟨g, j * 5 + 2, none⟩ = some f2 ∧ w.cell? ⟨g, j * 5 + 3, none⟩ = some f3 ∧ w.cell? ⟨g, j * 5 + 4, none⟩ = some f4
theorem krow_at {w : World} {g : Nat} (h : Blk w g 184 kindC) {j : Nat} (hj : j < kwords.length) : (KRow w g j kwords[j] .nilFunc .nilFunc .nilFunc .nilFunc) ∨ ∃ k1 k2 k3 k4, KRow w g j kwords[j] (.func (.func k1) #[] #[]) (.func (.func k2) #[] #[]) (.func (.func k3) #[] #[]) (.func (.func k4) #[] #[]) := by
  match j, hj with
  | 0, _ => exact .inl ⟨h.cell 0, h.cell 1, h.cell 2, h.cell 3, h.cell 4⟩
  | 1, _ => exact .inr ⟨_, _, _, _, h.cell 5, h.cell 6, h.cell 7, h.cell 8, h.cell 9⟩
  | 2, _ => exact .inr ⟨_, _, _, _, h.cell 10, h.cell 11, h.cell 12, h.cell 13, h.cell 14⟩
  | 3, _ => exact .inr ⟨_, _, _, _, h.cell 15, h.cell 16, h.cell 17, h.cell 18, h.cell 19⟩
  | 4, _ => exact .inr ⟨_, _, _, _, h.cell 20, h.cell 21, h.cell 22, h.cell 23, h.cell 24⟩
  | 5, _ => exact .inr ⟨_, _, _, _, h.cell 25, h.cell 26, h.cell 27, h.cell 28, h.cell 29⟩
  | 6, _ => exact .inr ⟨_, _, _, _, h.cell 30, h.cell 31, h.cell 32, h.cell 33, h.cell 34⟩
  | 7, _ => exact .inr ⟨_, _, _, _, h.cell 35, h.cell 36, h.cell 37, h.cell 38, h.cell 39⟩
  | j + 8, h => exact absurd h (by simp [kwords])
set_option maxHeartbeats 1000000 in
set_option maxRecDepth 20000 in
theorem indexKind_any (g B : Nat) (x : ByteArray) (w : World) (hg : Blk w g 184 kindC) (h : w.cell? ⟨B, 0, none⟩ = some (.string x)) (hB : B < w.heap.size) :
    Calls Tryz.prog 121 #[.slice (some ⟨g, 0, none⟩) 8 8, .func (.func 122) #[] #[.pointer (some ⟨B, 0, none⟩)]] w fun e w' => e = .returned (.int .i64 (kindI (kindL x))) ∧ Below w.heap.size w w' := by
  obtain ⟨R, hR⟩ : ∃ R, kindL x = R := ⟨_, rfl⟩
  rw [hR]
  have HR : Hid (R = kfind x (kwords.drop 0) 0) := hR.symm
  clear hR
  have hgl : g < w.heap.size := World.block_lt_of_cell? w _ (hg.cell 0)
  have hkl : kwords.length = 8 := rfl
  go_enter Tryz.func121, Tryz.ntmps121
  go_wp2_with fail
  go_loopw [8] (fun i wr => ∃ (j : Nat), j ≤ 8 ∧ i = .int .i64 j ∧ Hid (R = kfind x (kwords.drop j) j) ∧ Below w.heap.size w wr) (fun i _ => 8 - (intOf i).toNat)
  case atStart => exact ⟨0, by omega, rfl, HR, Below.refl _ _⟩
  case round =>
    clear HR
    obtain ⟨j, hj, rfl, HS, hbel⟩ := hrel
    have hsz := hbel.size
    by_cases hlt : j < 8
    · have HD : Hid (R = if decide (kwords[j] = x) = true then some j else kfind x (kwords.drop (j + 1)) (j + 1)) := by
        show _ = _
        rw [HS.out, kfind_drop x _ _ (by omega)]; rfl
      have hB2 : B < wr.heap.size := by omega
      have hrow := krow_at (hg.old hbel) (j := j) (by omega)
      have hx2 : wr.cell? ⟨B, 0, none⟩ = some (.string x) := (hbel.cell (p := ⟨B, 0, none⟩) hB).trans h
      clear HS hg h
      generalize kwords[j] = y at *
      rcases hrow with hrow | ⟨k1, k2, k3, k4, hrow⟩
      · obtain ⟨r0, r1, r2, r3, r4⟩ := hrow
        have hcall := sameKind_nil y x B wr hx2 hB2
        go_wp2_with fail
        refine hcall.mono ?_
        rintro _ w2 ⟨rfl, hb3⟩
        have hb4 : Below w.heap.size w w2 := hbel.trans (hb3.mono hbel.size)
        cases hq : decide (y = x) with
        | true =>
          have hRn : R = some j := by rw [HD.out, hq]; rfl
          clear HD hq
          subst hRn
          go_wp2_with fail
          go_ret
          exact ⟨rfl, hb4⟩
        | false =>
          have HD2 : Hid (R = kfind x (kwords.drop (j + 1)) (j + 1)) := by
            show _ = _
            rw [HD.out, hq]; rfl
          clear HD hq
          go_wp2_with fail
          go_roundw
          case rel => exact ⟨j + 1, by omega, by simp, HD2, hb4⟩
          case measure => simp only [intOf]; omega
      · obtain ⟨r0, r1, r2, r3, r4⟩ := hrow
        have hcall := sameKind_fun y x k1 k2 k3 k4 B wr hx2 hB2
        go_wp2_with fail
        refine hcall.mono ?_
        rintro _ w2 ⟨rfl, hb3⟩
        have hb4 : Below w.heap.size w w2 := hbel.trans (hb3.mono hbel.size)
        cases hq : decide (y = x) with
        | true =>
          have hRn : R = some j := by rw [HD.out, hq]; rfl
          clear HD hq
          subst hRn
          go_wp2_with fail
          go_ret
          exact ⟨rfl, hb4⟩
        | false =>
          have HD2 : Hid (R = kfind x (kwords.drop (j + 1)) (j + 1)) := by
            show _ = _
            rw [HD.out, hq]; rfl
          clear HD hq
          go_wp2_with fail
          go_roundw
          case rel => exact ⟨j + 1, by omega, by simp, HD2, hb4⟩
          case measure => simp only [intOf]; omega
    · have hRn : R = none := by rw [HS.out, List.drop_of_length_le (by omega)]; rfl
      clear HS
      subst hRn
      go_wp2_with fail
      go_ret
      exact ⟨rfl, hbel⟩
theorem LnAt.old {w w' : World} {B : Nat} {num : Int} {ws : List ByteArray} (h : LnAt w B num ws) (hb : Below w.heap.size w w') : LnAt w' B num ws := by
  obtain ⟨a, c, hB, hW⟩ := h
  exact ⟨a, c, hB.old hb, hW.keep (Oth.of hb)⟩
theorem LnAt.lt {w : World} {B : Nat} {num : Int} {ws : List ByteArray} (h : LnAt w B num ws) : B < w.heap.size := by
  obtain ⟨a, c, hB, _⟩ := h
  exact hB.lt
theorem LnAt.above {w w' : World} {B : Nat} {num : Int} {ws : List ByteArray} (h : LnAt w B num ws) (hb : Below (B + 1) w w') : LnAt w' B num ws := by
  obtain ⟨a, c, hB, hW⟩ := h
  refine ⟨a, c, hB.below hb (Nat.lt_succ_self B), hW.1, fun j hj => ?_⟩
  obtain ⟨b, off, h1, h2, h3⟩ := hW.2 j hj
  exact ⟨b, off, h1, h2, (cell_of_block (hb.block b (by omega)) _).trans h3⟩
theorem kfind_lt (x : ByteArray) (l : List ByteArray) (i j : Nat) (h : kfind x l i = some j) : i ≤ j ∧ j < i + l.length := by
  induction l generalizing i with
  | nil => cases h
  | cons y r ih =>
    rw [kfind] at h
    split at h
    · cases h; simp
    · have := ih (i + 1) h
      simp only [List.length_cons]
      omega
theorem kindL_lt {x : ByteArray} {j : Nat} (h : kindL x = some j) : j < 8 := by
  have := kfind_lt x kwords 0 j h
  have hk : kwords.length = 8 := rfl
  omega
set_option maxHeartbeats 1000000 in
set_option maxRecDepth 20000 in
theorem takeKind_any (B : Nat) (num : Int) (x : ByteArray) (r : List ByteArray) (hwl : r.length ≤ 1000000) (w : World) (h : LnAt w B num (x :: r)) :
    Calls Tryz.prog 106 #[.pointer (some ⟨B, 0, none⟩)] w fun e w' => (match kindL x with | some z => e = .returned (.int .u8 (z : Int)) ∧ LnAt w' B num r ∧ Oth B w w' | none => e = lostL num ∧ Oth B w w') := by
  have htk := take_ok B num x r hwl w h
  obtain ⟨R, hR⟩ : ∃ R, kindL x = R := ⟨_, rfl⟩
  have hk := fun g C w hg h hB => indexKind_any g C x w hg h hB
  rw [hR] at hk ⊢
  have HR : Hid (kindL x = R) := hR
  clear hR h
  go_enter Tryz.func106, Tryz.ntmps106
  go_wp2_with fail
  refine htk.mono ?_
  rintro _ w2 ⟨rfl, hL, hO⟩
  clear htk
  have HL : Hid (LnAt w2 B num r) := hL
  have HO : Hid (Oth B w w2) := hO
  clear hL hO
  go_wp2_with fail
  have hb1 := (Below.refl w2.heap.size w2).alloc (Nat.le_refl _) (.cells #[.string x] 9)
  have hc1 := Blk.new w2 9 #[.string x]
  have hs1 : (w2.alloc (.cells #[.string x] 9)).heap.size = w2.heap.size + 1 := alloc_size _ _
  refine (kinds_any _).mono ?_
  rintro _ w3 ⟨g, rfl, hg, hG, hb2⟩
  have hc2 := hc1.old hb2
  have hb3 : Below w2.heap.size w2 w3 := hb1.trans (hb2.mono (by omega))
  have hsz3 : w2.heap.size < w3.heap.size := by have := hb2.size; omega
  have hcell : w3.cell? ⟨w2.heap.size, 0, none⟩ = some (.string x) := hc2.cell 0
  have hkk := hk g w2.heap.size w3 hG hcell hsz3
  clear hk hc1 hc2 hb1 hb2 hs1 hG hcell hg hsz3
  generalize w2.heap.size = C at hkk ⊢
  go_wp2_with fail
  refine hkk.mono ?_
  rintro _ w4 ⟨rfl, hb4⟩
  have hb5 : Below w2.heap.size w2 w4 := hb3.trans (hb4.mono hb3.size)
  clear hkk hb3 hb4
  have hL4 := HL.out.old hb5
  have HO4 : Hid (Oth B w w4) := HO.out.trans (Oth.of hb5)
  have HL4 : Hid (LnAt w4 B num r) := hL4
  clear HL HO hb5
  cases R with
  | none =>
    obtain ⟨a, c, hB, hW⟩ := hL4
    have hno := lneed_no B num _ w4 false rfl hB
    clear hB hW HR
    unfold lostL at *
    simp only [kindI]
    go_wp2_with fail
    refine hno.mono ?_
    rintro _ w5 ⟨rfl, rfl⟩
    clear hno
    go_wp2_with fail
    refine ⟨rfl, ?_, HO4.out⟩
    unfold lostL; rfl
  | some z =>
    have hz := kindL_lt HR.out
    have hyes := lneed_ok (.pointer (some ⟨B, 0, none⟩)) true w4 rfl
    clear hL4 HR
    simp only [kindI]
    go_wp2_with fail
    refine hyes.mono ?_
    rintro _ w5 ⟨rfl, rfl⟩
    clear hyes
    go_wp2_with fail
    go_ret
    exact ⟨rfl, HL4.out, HO4.out⟩
end Go.Proofs.YtcbjnifoojjipaaGreatDoor
