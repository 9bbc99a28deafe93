/- What package normal does with data that was read; what dovetaillaw05.awake does (contracts; nothing is claimed here). -/
import Derived.Test.YtfhpgmlfgjfknaaGreatDoorNormE
import Derived.Test.YtfhpgmlfgjfknaaGreatDoorJ8
namespace Go.Proofs.YtfhpgmlfgjfknaaGreatDoor
open Go.RowKit Go.Vf Go.Maps

theorem load_cls {t : List UInt8} {L : List Mk} {E : Int → List Int} (h : loadR t = .ok (L, E)) (p : Int) : 0 ≤ classAt L p ∧ classAt L p ≤ 254 := by
  obtain ⟨hlen, hl, _⟩ := load_says h
  exact class_in (load_total hlen hl).1 p
theorem flat_in {t : List UInt8} {L : List Mk} {E : Int → List Int} (h : loadR t = .ok (L, E)) {ps : List Int} (hps : ∀ q ∈ ps, InI q) : ∀ q ∈ flatR E ps, InI q := fun q hq => by
  obtain ⟨p, hp, hq⟩ := List.mem_flatMap.1 hq
  exact parts_in h (hps p hp) hq
theorem flat_end {t : List UInt8} {L : List Mk} {E : Int → List Int} (h : loadR t = .ok (L, E)) {ps X : List Int} (hX : ∀ x ∈ X, x ∈ flatR E ps) : flatR E X = X := by
  induction X with
  | nil => rfl
  | cons x r ih =>
    obtain ⟨p, _, hq⟩ := List.mem_flatMap.1 (hX x (by simp))
    show partsR' E x ++ flatR E r = x :: r
    rw [(parts_end h hq).2, ih (fun y hy => hX y (by simp [hy]))]; rfl
theorem flat_append (E : Int → List Int) (a b : List Int) : flatR E (a ++ b) = flatR E a ++ flatR E b := List.flatMap_append
theorem flat_len {w : World} {bd : Nat} {L : List Mk} {E : Int → List Int} (h : DataAt w bd L E) (ps : List Int) : (flatR E ps).length ≤ 57 * ps.length ∧ ps.length ≤ (flatR E ps).length := by
  induction ps with
  | nil => simp [flatR]
  | cons x r ih =>
    have := h.plen x
    rw [show flatR E (x :: r) = partsR' E x ++ flatR E r from rfl, List.length_append, List.length_cons]
    omega

/-- A slice of numbers in memory, of any numbers, not too many. -/
structure Numb (w : World) (a : Option Addr) (k c : Nat) (zs : List Int) : Prop where
  ints : Ints w.heap.size w (.slice a k c) zs
  len : k = zs.length
  int : ∀ q ∈ zs, InI q
  few : zs.length ≤ 1000000000
theorem Numb.below {w w' : World} {a : Option Addr} {k c : Nat} {zs : List Int} (h : Numb w a k c zs) (hb : Below w.heap.size w w') : Numb w' a k c zs := ⟨(h.ints.below hb (Nat.le_refl _)).mono hb.size, h.len, h.int, h.few⟩
theorem IOwn.numb {w : World} {base : Nat} {a : Option Addr} {k c : Nat} {zs : List Int} (h : IOwn w base (.slice a k c) zs) (hI : ∀ q ∈ zs, InI q) (hf : zs.length ≤ 1000000000) : Numb w a k c zs := ⟨h.ints, by
  obtain ⟨av, cv, hv⟩ := h.val
  simpa using (Value.slice.inj hv).2.1, hI, hf⟩

theorem form_load {t : List UInt8} {L : List Mk} {E : Int → List Int} (h : loadR t = .ok (L, E)) {bd : Nat} {a : Option Addr} {k c : Nat} {ps : List Int} {w : World} (hd : DataAt w bd L E) (hn : Numb w a k c ps) :
    Calls Tryz.prog 20 #[.pointer (some ⟨bd, 0, none⟩), .slice a k c] w fun e w' => FormPost L E w ps e w' := by
  have := flat_len hd ps
  have h1 := hn.few
  have h2 := hn.len
  exact form_any bd L E a k c ps w hn.int (flat_in h hn.int) (fun p => (load_cls h p).1) hd hn.ints hn.len (by omega) (by omega)
/-- What the calls read of package-level variables. -/
def Glob (w : World) : Prop := ∃ m, w.cell? ⟨2, 0, none⟩ = some (.int .i64 m)
theorem Glob.below {w w' : World} (h : Glob w) (hb : Below w.heap.size w w') : Glob w' := by
  obtain ⟨m, hm⟩ := h
  exact ⟨m, (hb.cell (p := ⟨2, 0, none⟩) (World.block_lt_of_cell? w _ hm)).trans hm⟩
theorem load_glob (s : ByteArray) (w : World) (hg : Glob w) (hbig : s.size ≤ 281474976710656) : Calls Tryz.prog 17 #[.string s] w fun e w' => LoadPost (loadR s.data.toList) w e w' := by
  obtain ⟨m, hm⟩ := hg
  exact load_any s m w hm hbig

/-- A list that was just written out. -/
theorem numb_new (w : World) (zs : List Int) (cs : Array Value) (h : cs = (zs.map (Value.int .i64)).toArray) (k c : Nat) (hk : k = zs.length) (hI : ∀ q ∈ zs, InI q) (hf : zs.length ≤ 1000000000) : Numb (w.alloc (.cells cs 3)) (some ⟨w.heap.size, 0, none⟩) k c zs := by
  subst h hk
  refine ⟨.inr ⟨_, 0, c, rfl, by simp, fun j hj => ?_⟩, rfl, hI, hf⟩
  rw [Nat.zero_add]
  have := (Blk.new w 3 (zs.map (Value.int .i64)).toArray).cell j
  rw [this]
  simp [hj]

end Go.Proofs.YtfhpgmlfgjfknaaGreatDoor
