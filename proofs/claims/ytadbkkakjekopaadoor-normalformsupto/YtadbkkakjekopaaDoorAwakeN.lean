/- What package normal does with data that was read; what dovetaillaw05.awake does (contracts; nothing is claimed here). -/
import Derived.Test.YtadbkkakjekopaaDoorNormE
import Derived.Test.YtadbkkakjekopaaDoorPlain
namespace Go.Proofs.YtadbkkakjekopaaDoor
open Go.RowKit Go.Vf Go.Maps

theorem load_cls {t : List UInt8} {L : List Mk} {E : Int → List Int} (h : loadR t = .ok (L, E)) (p : Int) : 0 ≤ classAt L p ∧ classAt L p ≤ 254 := by
  obtain ⟨hlen, hl, _⟩ := load_says h
  exact class_in (load_total hlen hl).1 p
theorem flat_in {t : List UInt8} {L : List Mk} {E : Int → List Int} (h : loadR t = .ok (L, E)) {ps : List Int} (hps : ∀ q ∈ ps, InI q) : ∀ q ∈ flatR E ps, InI q := fun q hq => by
  obtain ⟨p, hp, hq⟩ := List.mem_flatMap.1 hq
  exact parts_in h (hps p hp) hq
theorem flat_end {t : List UInt8} {L : List Mk} {E : Int → List Int} (h : loadR t = .ok (L, E)) {ps X : List Int} (hX : ∀ x ∈ X, x ∈ flatR E ps) : flatR E X = X := by
  induction X with
  | nil => rfl
  | cons x r ih =>
    obtain ⟨p, _, hq⟩ := List.mem_flatMap.1 (hX x (by simp))
    show partsR' E x ++ flatR E r = x :: r
    rw [(parts_end h hq).2, ih (fun y hy => hX y (by simp [hy]))]; rfl
theorem flat_append (E : Int → List Int) (a b : List Int) : flatR E (a ++ b) = flatR E a ++ flatR E b := List.flatMap_append
theorem flat_len {w : World} {bd : Nat} {L : List Mk} {E : Int → List Int} (h : DataAt w bd L E) (ps : List Int) : (flatR E ps).length ≤ 57 * ps.length ∧ ps.length ≤ (flatR E ps).length := by
  induction ps with
  | nil => simp [flatR]
  | cons x r ih =>
    have := h.plen x
    rw [show flatR E (x :: r) = partsR' E x ++ flatR E r from rfl, List.length_append, List.length_cons]
    omega

/-- A slice of numbers in memory, of any numbers, not too many. -/
structure Numb (w : World) (a : Option Addr) (k c : Nat) (zs : List Int) : Prop where
  ints : Ints w.heap.size w (.slice a k c) zs
  len : k = zs.length
  int : ∀ q ∈ zs, InI q
  few : zs.length ≤ 1000000000
theorem Numb.below {w w' : World} {a : Option Addr} {k c : Nat} {zs : List Int} (h : Numb w a k c zs) (hb : Below w.heap.size w w') : Numb w' a k c zs := ⟨(h.ints.below hb (Nat.le_refl _)).mono hb.size, h.len, h.int, h.few⟩
theorem IOwn.numb {w : World} {base : Nat} {a : Option Addr} {k c : Nat} {zs : List Int} (h : IOwn w base (.slice a k c) zs) (hI : ∀ q ∈ zs, InI q) (hf : zs.length ≤ 1000000000) : Numb w a k c zs := ⟨h.ints, by
  obtain ⟨av, cv, hv⟩ := h.val
  simpa using (Value.slice.inj hv).2.1, hI, hf⟩

theorem form_load {t : List UInt8} {L : List Mk} {E : Int → List Int} (h : loadR t = .ok (L, E)) {bd : Nat} {a : Option Addr} {k c : Nat} {ps : List Int} {w : World} (hd : DataAt w bd L E) (hn : Numb w a k c ps) :
    Calls Tryd.prog 12 #[.pointer (some ⟨bd, 0, none⟩), .slice a k c] w fun e w' => FormPost L E w ps e w' := by
  have := flat_len hd ps
  have h1 := hn.few
  have h2 := hn.len
  exact form_any bd L E a k c ps w hn.int (flat_in h hn.int) (fun p => (load_cls h p).1) hd hn.ints hn.len (by omega) (by omega)
theorem is_load {t : List UInt8} {L : List Mk} {E : Int → List Int} (h : loadR t = .ok (L, E)) {bd : Nat} {a : Option Addr} {k c : Nat} {ps X : List Int} {w : World} (hd : DataAt w bd L E) (hn : Numb w a k c ps) (hX : IsForm L E ps X) (hXl : X.length ≤ 68719476736) :
    Calls Tryd.prog 13 #[.pointer (some ⟨bd, 0, none⟩), .slice a k c] w fun e w' => e = .returned (.bool (decide (X = ps))) ∧ Below w.heap.size w w' := by
  have := flat_len hd ps
  have h1 := hn.few
  have h2 := hn.len
  exact is_any bd L E a k c ps X w hn.int (flat_in h hn.int) (fun p => (load_cls h p).1) hd hn.ints hn.len (by omega) (by omega) hX hXl
theorem same_load {t : List UInt8} {L : List Mk} {E : Int → List Int} (h : loadR t = .ok (L, E)) {bd : Nat} {a b : Option Addr} {k c k2 c2 : Nat} {ps X qs Y : List Int} {w : World} (hd : DataAt w bd L E) (hn : Numb w a k c ps) (hm : Numb w b k2 c2 qs) (hX : IsForm L E ps X) (hXl : X.length ≤ 68719476736) (hY : IsForm L E qs Y) (hYl : Y.length ≤ 68719476736) :
    Calls Tryd.prog 14 #[.pointer (some ⟨bd, 0, none⟩), .slice a k c, .slice b k2 c2] w fun e w' => e = .returned (.bool (decide (X = Y))) ∧ Below w.heap.size w w' := by
  have := flat_len hd ps
  have h1 := hn.few
  have h2 := hn.len
  have := flat_len hd qs
  have h3 := hm.few
  have h4 := hm.len
  exact same_any bd L E a k c ps X b k2 c2 qs Y w hn.int (flat_in h hn.int) hm.int (flat_in h hm.int) (fun p => (load_cls h p).1) hd hn.ints hn.len (by omega) (by omega) hX hXl hm.ints hm.len (by omega) (by omega) hY hYl

/-- What the calls read of package-level variables. -/
def Glob (w : World) : Prop := ∃ m, w.cell? ⟨0, 0, none⟩ = some (.int .i64 m)
theorem Glob.below {w w' : World} (h : Glob w) (hb : Below w.heap.size w w') : Glob w' := by
  obtain ⟨m, hm⟩ := h
  exact ⟨m, (hb.cell (p := ⟨0, 0, none⟩) (World.block_lt_of_cell? w _ hm)).trans hm⟩
theorem load_glob (s : ByteArray) (w : World) (hg : Glob w) (hbig : s.size ≤ 281474976710656) : Calls Tryd.prog 7 #[.string s] w fun e w' => LoadPost (loadR s.data.toList) w e w' := by
  obtain ⟨m, hm⟩ := hg
  exact load_any s m w hm hbig

def awText : ByteArray := ⟨#[48, 51, 48, 49, 59, 50, 51, 48, 59, 10, 48, 51, 48, 54, 59, 50, 51, 48, 59, 10, 48, 51, 50, 51, 59, 50, 50, 48, 59, 10, 48, 48, 69, 49, 59, 48, 59, 48, 48, 54, 49, 32, 48, 51, 48, 49]⟩
def awTest (r : Except (Int × Int) (List Mk × (Int → List Int))) : Bool :=
  match r with
  | .error _ => false
  | .ok (L, E) => (classAt L 769 == 230) && (classAt L 803 == 220) && (classAt L 97 == 0) && (partsR' E 225 == [97, 769]) && (partsR' E 803 == [803]) && (partsR' E 97 == [97]) && (partsR' E 769 == [769])
set_option maxRecDepth 100000 in
theorem aw_one : awTest (loadR awText.data.toList) = true := by kernel_rfl
structure AwOk (L : List Mk) (E : Int → List Int) : Prop where
  load : loadR awText.data.toList = .ok (L, E)
  one : IsForm L E [225, 803] [97, 803, 769]
  two : IsForm L E [97, 803, 769] [97, 803, 769]
  three : IsForm L E [225] [97, 769]
  four : IsForm L E [97, 769] [97, 769]
theorem aw_ok : ∃ L E, AwOk L E := by
  have h := aw_one
  cases hl : loadR awText.data.toList with
  | error e => rw [hl] at h; cases h
  | ok p =>
    obtain ⟨L, E⟩ := p
    rw [hl] at h
    unfold awTest at h
    simp only [Bool.and_eq_true, beq_iff_eq] at h
    obtain ⟨⟨⟨⟨⟨⟨h0, h1⟩, h2⟩, h3⟩, h4⟩, h5⟩, h6⟩ := h
    have f1 : flatR E [225, 803] = [97, 769, 803] := by simp [flatR, h3, h4]
    have f2 : flatR E [97, 803, 769] = [97, 803, 769] := by simp [flatR, h4, h5, h6]
    have f3 : flatR E [225] = [97, 769] := by simp [flatR, h3]
    have f4 : flatR E [97, 769] = [97, 769] := by simp [flatR, h5, h6]
    have c1 : CO (classAt L) [97, 803, 769] := ⟨fun _ => by rw [h1, h2]; omega, fun _ => by rw [h0, h1]; omega, trivial⟩
    have c2 : CO (classAt L) [97, 769] := ⟨fun _ => by rw [h0, h2]; omega, trivial⟩
    refine ⟨L, E, hl, ⟨c1, ?_⟩, ⟨c1, ?_⟩, ⟨c2, ?_⟩, ⟨c2, ?_⟩⟩
    · rw [f1]
      exact (alike0_turn (u := [97]) (v := []) (x := 769) (y := 803)).2 (.inl ⟨by rw [h0]; omega, by rw [h1]; omega, by rw [h0, h1]; omega⟩)
    · rw [f2]; exact Alike0.refl _
    · rw [f3]; exact Alike0.refl _
    · rw [f4]; exact Alike0.refl _
/-- A list that was just written out. -/
theorem numb_new (w : World) (zs : List Int) (cs : Array Value) (h : cs = (zs.map (Value.int .i64)).toArray) (k c : Nat) (hk : k = zs.length) (hI : ∀ q ∈ zs, InI q) (hf : zs.length ≤ 1000000000) : Numb (w.alloc (.cells cs 3)) (some ⟨w.heap.size, 0, none⟩) k c zs := by
  subst h hk
  refine ⟨.inr ⟨_, 0, c, rfl, by simp, fun j hj => ?_⟩, rfl, hI, hf⟩
  rw [Nat.zero_add]
  have := (Blk.new w 3 (zs.map (Value.int .i64)).toArray).cell j
  rw [this]
  simp [hj]

set_option maxHeartbeats 4000000 in
set_option maxRecDepth 20000 in
theorem awake_any (w : World) (hg : Glob w) : Calls Tryd.prog 9 #[] w fun e w' => e = .returned (.bool true) ∧ Below w.heap.size w w' := by
  obtain ⟨L, E, hA⟩ := aw_ok
  have HA : Aside (AwOk L E) := hA
  go_enter Tryd.func9, Tryd.ntmps9
  go_wp2_with fail
  refine (load_glob ⟨#[48, 51, 48, 49, 59, 50, 51, 48, 59, 10, 48, 51, 48, 54, 59, 50, 51, 48, 59, 10, 48, 51, 50, 51, 59, 50, 50, 48, 59, 10, 48, 48, 69, 49, 59, 48, 59, 48, 48, 54, 49, 32, 48, 51, 48, 49]⟩ w hg (by decide)).mono ?_
  rintro e w1 ⟨hb1, hpost⟩
  rw [show loadR (⟨#[48, 51, 48, 49, 59, 50, 51, 48, 59, 10, 48, 51, 48, 54, 59, 50, 51, 48, 59, 10, 48, 51, 50, 51, 59, 50, 50, 48, 59, 10, 48, 48, 69, 49, 59, 48, 59, 48, 48, 54, 49, 32, 48, 51, 48, 49]⟩ : ByteArray).data.toList = .ok (L, E) from hA.load] at hpost
  obtain ⟨bd, rfl, hd⟩ := hpost
  have HD : Aside (DataAt w1 bd L E) := hd
  clear hd hA
  go_wp2_with fail
  have hba := (Below.refl w1.heap.size w1).alloc (Nat.le_refl _) (.cells #[.int .i64 225, .int .i64 803] 3)
  have hna := numb_new w1 [225, 803] #[.int .i64 225, .int .i64 803] rfl 2 2 rfl (by intro q hq; simp at hq; rcases hq with rfl | rfl <;> (unfold InI; omega)) (by simp)
  generalize w1.alloc (.cells #[.int .i64 225, .int .i64 803] 3) = wa at hba hna ⊢
  refine (form_load HA.out.load (HD.out.below hba) hna).mono ?_
  rintro e w2 ⟨g2, k2, c2, X2, rfl, hown2, hf2, hm2, hb2⟩
  obtain rfl : X2 = [97, 803, 769] := hf2.same HA.out.one
  have hn2 : Numb w2 (some ⟨g2, 0, none⟩) k2 c2 [97, 803, 769] := hown2.numb (by intro q hq; simp at hq; rcases hq with rfl | rfl | rfl <;> (unfold InI; omega)) (by simp)
  have hb12 : Below w1.heap.size w1 w2 := hba.trans (hb2.mono hba.size)
  have HD2 : Aside (DataAt w2 bd L E) := HD.out.below hb12
  have HB2 : Aside (Below w.heap.size w w2) := hb1.trans (hb12.mono hb1.size)
  clear hf2 hm2 hown2 hb2 hba hna hb12 HD hb1
  go_wp2_with fail
  have hbb := (Below.refl w2.heap.size w2).alloc (Nat.le_refl _) (.cells #[.int .i64 97, .int .i64 803, .int .i64 769] 3)
  have hnb := numb_new w2 [97, 803, 769] #[.int .i64 97, .int .i64 803, .int .i64 769] rfl 3 3 rfl (by intro q hq; simp at hq; rcases hq with rfl | rfl | rfl <;> (unfold InI; omega)) (by simp)
  generalize w2.alloc (.cells #[.int .i64 97, .int .i64 803, .int .i64 769] 3) = wb at hbb hnb ⊢
  have hn2b := hn2.below hbb
  refine (sameInts_any _ _ [97, 803, 769] [97, 803, 769] wb.heap.size wb.heap.size wb hn2b.ints hnb.ints (by simp) (by simp)).mono ?_
  rintro e w3 ⟨rfl, hb3⟩
  rw [show decide (([97, 803, 769] : List Int) = [97, 803, 769]) = true by decide]
  have hb23 : Below w2.heap.size w2 w3 := hbb.trans (hb3.mono hbb.size)
  have hn3 := hn2.below hb23
  have HD3 : Aside (DataAt w3 bd L E) := HD2.out.below hb23
  have HB3 : Aside (Below w.heap.size w w3) := HB2.out.trans (hb23.mono HB2.out.size)
  clear hbb hnb hn2b hb3 hb23 hn2 HD2 HB2
  go_wp2_with fail
  refine (is_load HA.out.load HD3.out hn3 HA.out.two (by simp)).mono ?_
  rintro e w4 ⟨rfl, hb4⟩
  rw [show decide (([97, 803, 769] : List Int) = [97, 803, 769]) = true by decide]
  have HD4 : Aside (DataAt w4 bd L E) := HD3.out.below hb4
  have HB4 : Aside (Below w.heap.size w w4) := HB3.out.trans (hb4.mono HB3.out.size)
  clear hb4 HD3 HB3 hn3
  go_wp2_with fail
  have hbc := (Below.refl w4.heap.size w4).alloc (Nat.le_refl _) (.cells #[.int .i64 225] 3)
  have hnc := numb_new w4 [225] #[.int .i64 225] rfl 1 1 rfl (by intro q hq; simp at hq; subst hq; unfold InI; omega) (by simp)
  generalize w4.alloc (.cells #[.int .i64 225] 3) = wc at hbc hnc ⊢
  refine (is_load HA.out.load (HD4.out.below hbc) hnc HA.out.three (by simp)).mono ?_
  rintro e w5 ⟨rfl, hb5⟩
  rw [show decide (([97, 769] : List Int) = [225]) = false by decide]
  have hb45 : Below w4.heap.size w4 w5 := hbc.trans (hb5.mono hbc.size)
  have HD5 : Aside (DataAt w5 bd L E) := HD4.out.below hb45
  have HB5 : Aside (Below w.heap.size w w5) := HB4.out.trans (hb45.mono HB4.out.size)
  clear hb5 hbc hnc hb45 HD4 HB4
  go_wp2_with fail
  have hbd := (Below.refl w5.heap.size w5).alloc (Nat.le_refl _) (.cells #[.int .i64 225] 3)
  have hnd := numb_new w5 [225] #[.int .i64 225] rfl 1 1 rfl (by intro q hq; simp at hq; subst hq; unfold InI; omega) (by simp)
  have hsd : (w5.alloc (.cells #[.int .i64 225] 3)).heap.size = w5.heap.size + 1 := by simp
  generalize w5.alloc (.cells #[.int .i64 225] 3) = wd at hbd hnd hsd ⊢
  have hbe := (Below.refl wd.heap.size wd).alloc (Nat.le_refl _) (.cells #[.int .i64 97, .int .i64 769] 3)
  have hne := numb_new wd [97, 769] #[.int .i64 97, .int .i64 769] rfl 2 2 rfl (by intro q hq; simp at hq; rcases hq with rfl | rfl <;> (unfold InI; omega)) (by simp)
  rw [hsd] at hne
  generalize wd.alloc (.cells #[.int .i64 97, .int .i64 769] 3) = we at hbe hne ⊢
  have hb5e : Below w5.heap.size w5 we := hbd.trans (hbe.mono hbd.size)
  refine (same_load HA.out.load (HD5.out.below hb5e) (hnd.below hbe) hne HA.out.three (by simp) HA.out.four (by simp)).mono ?_
  rintro e w6 ⟨rfl, hb6⟩
  rw [show decide (([97, 769] : List Int) = [97, 769]) = true by decide]
  have HB6 : Below w.heap.size w w6 := HB5.out.trans ((hb5e.trans (hb6.mono hb5e.size)).mono HB5.out.size)
  clear hb6 hbd hnd hbe hne hb5e HD5 HB5
  go_wp2
  go_ret
  exact ⟨rfl, HB6⟩
end Go.Proofs.YtadbkkakjekopaaDoor
