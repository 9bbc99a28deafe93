/- What dovetaillaw04.awake does (a contract; nothing is claimed here). -/
import Derived.Test.YtpmckfmjegehgaaGreatDoorMarks
import Derived.Test.YtpmckfmjegehgaaGreatDoorSame
namespace Go.Proofs.YtpmckfmjegehgaaGreatDoor
open Go.RowKit Go.Vf Go.Maps Go.Sort
/-- What the first example's text says, at all points that are asked. -/
def awTest (r : Except (Int × Int) (List Mk × (Int → List Int))) : Bool :=
  match r with
  | .error _ => false
  | .ok (L, E) => (L.map Mk.point == [769, 225, 7855, 259]) && (classAt L 769 == 230) && (partsR' E 7855 == [97, 774, 769]) && (partsR' E 44033 == [4352, 4449, 4520]) &&
    (match printR ([225, 259, 769, 7855].map fun p => (⟨p, classAt L p, partsAt L p⟩ : PM)) with
      | .error _ => false
      | .ok t => t.length == 60)
def awTwice (r : Except (Int × Int) (List Mk × (Int → List Int))) : Bool :=
  match r with
  | .error (why, line) => why == 41 && line == 2
  | .ok _ => false

def awText : ByteArray := ⟨#[48, 51, 48, 49, 59, 50, 51, 48, 59, 10, 48, 48, 69, 49, 59, 48, 59, 48, 48, 54, 49, 32, 48, 51, 48, 49, 10, 49, 69, 65, 70, 59, 48, 59, 48, 49, 48, 51, 32, 48, 51, 48, 49, 10, 48, 49, 48, 51, 59, 48, 59, 48, 48, 54, 49, 32, 48, 51, 48, 54]⟩
def awText2 : ByteArray := ⟨#[48, 51, 48, 49, 59, 49, 59, 10, 48, 51, 48, 49, 59, 49, 59]⟩

set_option maxRecDepth 100000 in
theorem aw_one : awTest (loadR awText.data.toList) = true := by kernel_rfl
set_option maxRecDepth 100000 in
theorem aw_two : awTwice (loadR awText2.data.toList) = true := by kernel_rfl

theorem aw_sorted {L : List Mk} (h : L.map Mk.point = [769, 225, 7855, 259]) : marksR L = [225, 259, 769, 7855].map fun p => (⟨p, classAt L p, partsAt L p⟩ : PM) := by
  unfold marksR
  rw [h, mergeSort_of_perm_i (show List.Perm [769, 225, 7855, 259] [225, 259, 769, 7855] by decide), List.mergeSort_of_pairwise (by decide)]

theorem aw_ok : ∃ L E t, loadR awText.data.toList = .ok (L, E) ∧ classAt L 769 = 230 ∧ partsR' E 7855 = [97, 774, 769] ∧ partsR' E 44033 = [4352, 4449, 4520] ∧ printR (marksR L) = .ok t ∧ t.length = 60 := by
  have h := aw_one
  cases hl : loadR awText.data.toList with
  | error e => rw [hl] at h; cases h
  | ok p =>
    obtain ⟨L, E⟩ := p
    rw [hl] at h
    unfold awTest at h
    simp only [Bool.and_eq_true, beq_iff_eq] at h
    obtain ⟨⟨⟨⟨h0, h1⟩, h2⟩, h3⟩, h4⟩ := h
    rw [← aw_sorted h0] at h4
    cases hp : printR (marksR L) with
    | error e => rw [hp] at h4; cases h4
    | ok t => rw [hp] at h4; exact ⟨L, E, t, rfl, h1, h2, h3, hp, by simpa using h4⟩
theorem aw_no : loadR awText2.data.toList = .error (41, 2) := by
  have h := aw_two
  cases hl : loadR awText2.data.toList with
  | ok p => rw [hl] at h; cases h
  | error e =>
    obtain ⟨a, b⟩ := e
    rw [hl] at h
    unfold awTwice at h
    simp only [Bool.and_eq_true, beq_iff_eq] at h
    rw [h.1, h.2]

/-- What the calls read of package-level variables. -/
def Glob (w : World) : Prop := (∃ m, w.cell? ⟨0, 0, none⟩ = some (.int .i64 m)) ∧ Tb w w.heap.size
theorem Glob.below {w w' : World} (h : Glob w) (hb : Below w.heap.size w w') : Glob w' := by
  obtain ⟨⟨m, hm⟩, ht⟩ := h
  exact ⟨⟨m, (hb.cell (p := ⟨0, 0, none⟩) (World.block_lt_of_cell? w _ hm)).trans hm⟩, (ht.below hb).up hb.size⟩
theorem below_two {a b c : World} (h : Below a.heap.size a b) (k : Below b.heap.size b c) : Below a.heap.size a c := h.trans (k.mono h.size)
theorem load_glob (s : ByteArray) (w : World) (hg : Glob w) (hbig : s.size ≤ 281474976710656) : Calls Tryz.prog 9 #[.string s] w fun e w' => LoadPost (loadR s.data.toList) w e w' := by
  obtain ⟨⟨m, hm⟩, _⟩ := hg
  exact load_any s m w hm hbig

/-- A list that was just written out. -/
theorem ints_new (w : World) (cs : Array Value) (t : TypeId) (zs : List Int) (cap : Nat) (h : cs = (zs.map (Value.int .i64)).toArray) (n : Nat) (hn : n = w.heap.size + 1) : Ints n (w.alloc (.cells cs t)) (.slice (some ⟨w.heap.size, 0, none⟩) zs.length cap) zs := by
  subst h hn
  refine .inr ⟨_, 0, cap, rfl, Nat.lt_succ_self _, fun j hj => ?_⟩
  rw [Nat.zero_add]
  have := (Blk.new w t (zs.map (Value.int .i64)).toArray).cell j
  rw [this]
  simp [hj]

/-- The marks that Marks gives may be handed to Print. -/
theorem DataAt.plen {w : World} {bd : Nat} {L : List Mk} {E : Int → List Int} (h : DataAt w bd L E) {p : Int} (hp : InI p) : (partsAt L p).length ≤ 131072 := by
  obtain ⟨bm, n, pv, ev, hbd, hdd, _, _, hl, _⟩ := h
  obtain ⟨a, k, cap, a2, k2, cap2, hl, _, _, hkA, hkl, _⟩ := hdd.look hp
  omega
theorem marksR_mem {L : List Mk} {m : PM} (hm : m ∈ marksR L) : ∃ x ∈ L, m = ⟨x.point, classAt L x.point, partsAt L x.point⟩ := by
  unfold marksR at hm
  obtain ⟨p, hp, rfl⟩ := List.mem_map.1 hm
  have := (List.mergeSort_perm (L.map Mk.point) (fun x y => decide (x ≤ y))).subset hp
  obtain ⟨x, hx, rfl⟩ := List.mem_map.1 this
  exact ⟨x, hx, rfl⟩
theorem marksR_length (L : List Mk) : (marksR L).length = L.length := by
  unfold marksR
  rw [List.length_map, List.length_mergeSort, List.length_map]
theorem DataAt.lens {w : World} {bd : Nat} {L : List Mk} {E : Int → List Int} (h : DataAt w bd L E) : (marksR L).length ≤ 4611686018427387904 ∧ ∀ m ∈ marksR L, m.parts.length ≤ 4611686018427387904 := by
  have h' := h
  obtain ⟨bm, n, pv, ev, hbd, hdd, _, _, hl, _⟩ := h'
  refine ⟨by rw [marksR_length]; omega, fun m hm => ?_⟩
  obtain ⟨x, hx, rfl⟩ := marksR_mem hm
  have := h.plen (hdd.ins x hx).1
  show (partsAt L x.point).length ≤ _
  omega

set_option maxHeartbeats 4000000 in
set_option maxRecDepth 20000 in
theorem awake_any (w : World) (hg : Glob w) : Calls Tryz.prog 11 #[] w fun e w' => e = .returned (.bool true) ∧ Below w.heap.size w w' := by
  obtain ⟨L, E, tx, hload, hc, hp1, hp2, hpr, htl⟩ := aw_ok
  have HNO : Hid (loadR awText2.data.toList = .error (41, 2)) := aw_no
  go_enter Tryz.func11, Tryz.ntmps11
  go_wp2_with fail
  refine (load_glob ⟨#[48, 51, 48, 49, 59, 50, 51, 48, 59, 10, 48, 48, 69, 49, 59, 48, 59, 48, 48, 54, 49, 32, 48, 51, 48, 49, 10, 49, 69, 65, 70, 59, 48, 59, 48, 49, 48, 51, 32, 48, 51, 48, 49, 10, 48, 49, 48, 51, 59, 48, 59, 48, 48, 54, 49, 32, 48, 51, 48, 54]⟩ w hg (by decide)).mono ?_
  rintro e w1 ⟨hb1, hpost⟩
  rw [show loadR (⟨#[48, 51, 48, 49, 59, 50, 51, 48, 59, 10, 48, 48, 69, 49, 59, 48, 59, 48, 48, 54, 49, 32, 48, 51, 48, 49, 10, 49, 69, 65, 70, 59, 48, 59, 48, 49, 48, 51, 32, 48, 51, 48, 49, 10, 48, 49, 48, 51, 59, 48, 59, 48, 48, 54, 49, 32, 48, 51, 48, 54]⟩ : ByteArray).data.toList = .ok (L, E) from hload] at hpost
  obtain ⟨bd, rfl, hd⟩ := hpost
  have hg1 := hg.below hb1
  go_wp2_with fail
  refine (load_glob ⟨#[48, 51, 48, 49, 59, 49, 59, 10, 48, 51, 48, 49, 59, 49, 59]⟩ w1 hg1 (by decide)).mono ?_
  rintro e w2 ⟨hb2, hpost⟩
  rw [show loadR (⟨#[48, 51, 48, 49, 59, 49, 59, 10, 48, 51, 48, 49, 59, 49, 59]⟩ : ByteArray).data.toList = .error (41, 2) from HNO.out] at hpost
  obtain rfl : e = _ := hpost
  have hg2 := hg1.below hb2
  have hd2 := hd.below hb2
  go_wp2_with fail
  refine (marks_any bd L E w2 hd2).mono ?_
  rintro e w3 ⟨a3, k3, c3, ps, rfl, hmo, hps, hb3⟩
  have hg3 := hg2.below hb3
  have hmi := hmo.min
  rw [hps] at hmi
  have hlens := hd2.lens
  have hd3 := hd2.below hb3
  go_wp2_with fail
  refine (print_any (marksR L) hlens.1 hlens.2 _ _ w3 (Nat.le_refl _) hmi hg3.2).mono ?_
  rintro e w4 ⟨rfl, hb4⟩
  rw [hpr]
  unfold printE
  have hd4 := hd3.below hb4
  have hbs : (bsz tx).size = 60 := by rw [← htl]; simp [ByteArray.size]
  have hg4 := hg3.below hb4
  generalize bsz tx = tb at hbs ⊢
  clear hmi hmo hps hlens
  go_wp2_with fail
  refine (class_any bd L E 769 w4 (by unfold InI; omega) hd4).mono ?_
  rw [hc]
  rintro e w5 ⟨rfl, rfl⟩
  go_wp2_with fail
  refine (parts_any bd L E 7855 w4 (by unfold InI; omega) hd4).mono ?_
  rw [hp1]
  rintro e w6 ⟨a6, k6, c6, rfl, hown6, hb6⟩
  have hd6 := hd4.below hb6
  have i6 := hown6.ints
  obtain ⟨_, _, e6⟩ := hown6.val
  cases e6
  go_wp2_with fail
  have hb7 := (Below.refl w6.heap.size w6).alloc (Nat.le_refl _) (.cells #[.int .i64 97, .int .i64 774, .int .i64 769] 3)
  have hn7 : Ints (w6.alloc (.cells #[.int .i64 97, .int .i64 774, .int .i64 769] 3)).heap.size (w6.alloc (.cells #[.int .i64 97, .int .i64 774, .int .i64 769] 3)) (.slice (some ⟨w6.heap.size, 0, none⟩) 3 3) [97, 774, 769] := ints_new w6 _ 3 [97, 774, 769] 3 rfl _ (by simp)
  generalize w6.alloc (.cells #[.int .i64 97, .int .i64 774, .int .i64 769] 3) = w7 at hb7 hn7 ⊢
  refine (sameInts_any _ _ [97, 774, 769] [97, 774, 769] _ _ w7 (i6.below hb7 (Nat.le_refl _)) hn7 (by decide) (by decide)).mono ?_
  rintro e w8 ⟨rfl, hb8⟩
  rw [show decide (([97, 774, 769] : List Int) = [97, 774, 769]) = true by decide]
  have hb68 := below_two hb7 hb8
  have hd8 := hd6.below hb68
  clear hn7 hb7 hb8 i6 hown6
  go_wp2_with fail
  refine (parts_any bd L E 44033 w8 (by unfold InI; omega) hd8).mono ?_
  rw [hp2]
  rintro e w9 ⟨a9, k9, c9, rfl, hown9, hb9⟩
  have i9 := hown9.ints
  obtain ⟨_, _, e9⟩ := hown9.val
  cases e9
  go_wp2_with fail
  have hb10 := (Below.refl w9.heap.size w9).alloc (Nat.le_refl _) (.cells #[.int .i64 4352, .int .i64 4449, .int .i64 4520] 3)
  have hn10 : Ints (w9.alloc (.cells #[.int .i64 4352, .int .i64 4449, .int .i64 4520] 3)).heap.size (w9.alloc (.cells #[.int .i64 4352, .int .i64 4449, .int .i64 4520] 3)) (.slice (some ⟨w9.heap.size, 0, none⟩) 3 3) [4352, 4449, 4520] := ints_new w9 _ 3 [4352, 4449, 4520] 3 rfl _ (by simp)
  generalize w9.alloc (.cells #[.int .i64 4352, .int .i64 4449, .int .i64 4520] 3) = w10 at hb10 hn10 ⊢
  refine (sameInts_any _ _ [4352, 4449, 4520] [4352, 4449, 4520] _ _ w10 (i9.below hb10 (Nat.le_refl _)) hn10 (by decide) (by decide)).mono ?_
  rintro e w11 ⟨rfl, hb11⟩
  rw [show decide (([4352, 4449, 4520] : List Int) = [4352, 4449, 4520]) = true by decide]
  have hb911 := below_two hb10 hb11
  clear hn10 hb10 hb11 i9 hown9
  go_wp2_with fail
  go_ret
  exact ⟨rfl, below_two (below_two (below_two (below_two (below_two (below_two (below_two hb1 hb2) hb3) hb4) hb6) hb68) hb9) hb911⟩

end Go.Proofs.YtpmckfmjegehgaaGreatDoor
