/- What strings.Split and the reader's readParts do (contracts; nothing is claimed here). -/
import Derived.Test.YtfhpgmlfgjfknaaGreatDoorJ3
import Derived.Test.YtfhpgmlfgjfknaaGreatDoorShelf
namespace Go.Proofs.YtfhpgmlfgjfknaaGreatDoor
open Go.RowKit Go.Vf Go.Maps

/-- A slice of texts in a block of its own. -/
def Strs (w : World) (g : Nat) (l : List (List UInt8)) : Prop := w.heap[g]? = some (.cells ((l.map bsz).map Value.string).toArray 9 (0, 0))

theorem Strs.cell {w : World} {g : Nat} {l : List (List UInt8)} (h : Strs w g l) {j : Nat} (hj : j < l.length) : w.cell? ⟨g, j, none⟩ = some (.string (bsz l[j])) := by
  simp only [World.cell?, show w.heap[g]? = _ from h]
  simp [hj]
theorem Strs.below {w w' : World} {g B : Nat} {l : List (List UInt8)} (h : Strs w g l) (hb : Below B w w') (hg : g < B) : Strs w' g l := (hb.block g hg).trans h

theorem split_any (c : UInt8) (s : ByteArray) (m : Int) (w : World) (hs : s.size ≤ 65536) (hm : w.cell? ⟨2, 0, none⟩ = some (.int .i64 m)) :
    Calls Tryz.prog 50 #[.string s, .string ⟨#[c]⟩] w fun e w' => e = .returned (.slice (some ⟨w.heap.size, 0, none⟩) (cutL c s.data.toList).length (cutL c s.data.toList).length) ∧ Strs w' w.heap.size (cutL c s.data.toList) ∧ Below w.heap.size w w' ∧ w'.heap.size = w.heap.size + 1 := by
  refine (Tryz.strings_Split s ⟨#[c]⟩ m w (by omega) hm (Nat.le_refl _)).mono ?_
  rintro e w' ⟨rfl, rfl⟩
  rw [cutL_length]
  refine ⟨rfl, ?_, (Below.refl _ _).alloc (Nat.le_refl _) _, by simp⟩
  show (w.alloc _).heap[w.heap.size]? = _
  rw [(MapKept.heap_alloc w _).1, split_cut]

/-- What a point's reader leaves of points. -/
def PartsPost (line : Int) (w : World) (r : Option (List Int)) (e : Ending) (w' : World) : Prop :=
  match r with
  | none => e = lostE 40 line ∧ Below w.heap.size w w'
  | some l => ∃ a n cap, e = .returned (.slice a n cap) ∧ IOwn w' w.heap.size (.slice a n cap) l ∧ Below w.heap.size w w'

theorem pointsR_length : ∀ {l : List (List UInt8)} {ps : List Int}, pointsR l = some ps → ps.length = l.length := by
  intro l
  induction l with
  | nil => intro ps h; simp [pointsR] at h; subst h; rfl
  | cons a r ih =>
    intro ps h
    unfold pointsR at h
    split at h
    · cases h
    · split at h
      · cases h
      · rename_i q hq
        simp at h; subst h
        simp [ih hq]

theorem cell_one (q : Int) (w : World) : ∀ j, j < [q].length → (w.alloc (.cells #[.int .i64 q] 3)).cell? ((⟨w.heap.size, 0, none⟩ : Addr).add j) = some (.int .i64 ([q][j]?.getD 0)) := by
  intro j hj
  obtain rfl : j = 0 := by simpa using hj
  simp [Addr.add]

set_option maxHeartbeats 1000000 in
theorem readParts_any (b : Nat) (s : ByteArray) (line m : Int) (w : World) (hs : s.size ≤ 65536) (hm : w.cell? ⟨2, 0, none⟩ = some (.int .i64 m)) (hl : w.cell? ⟨b, 0, none⟩ = some (.int .i64 line)) :
    Calls Tryz.prog 112 #[.pointer (some ⟨b, 0, none⟩), .string s] w fun e w' => PartsPost line w (partsR s.data.toList) e w' := by
  have hsl : s.data.toList.length = s.size := (Lib.size_eq s).symm
  by_cases hemp : s.data.toList = []
  · have hemp' : s.toList.isEmpty = true := by rw [ByteArray.toList_eq]; simpa using hemp
    rw [show partsR s.data.toList = some [] by simp [partsR, hemp]]
    clear hemp
    go_enter Tryz.func112, Tryz.ntmps112
    go_wp2
    go_ret
    exact ⟨_, _, _, rfl, IOwn.nil _ _, Below.refl _ _⟩
  · have hemp' : s.toList.isEmpty = false := by rw [ByteArray.toList_eq]; simpa using hemp
    rw [show partsR s.data.toList = pointsR (cutL 32 s.data.toList) by simp [partsR, hemp]]
    have hcl := cutL_len_le 32 s.data.toList
    have hcs := cutL_sizes 32 s.data.toList
    have hbl := World.block_lt_of_cell? w _ hl
    generalize hL : cutL 32 s.data.toList = L at hcl hcs
    generalize hR : pointsR L = R
    clear hemp
    go_enter Tryz.func112, Tryz.ntmps112
    go_wp2_with fail
    refine (split_any 32 s m _ hs hm).mono ?_
    rintro e w1 ⟨rfl, hst, hb1, hsz1⟩
    rw [hL] at hst ⊢
    have hl1 : w1.cell? ⟨b, 0, none⟩ = some (.int .i64 line) := (hb1.cell (p := ⟨b, 0, none⟩) hbl).trans hl
    have HR : Hid (pointsR L = R) := hR
    clear hL hR hl
    go_wp2_with fail
    go_loopw [5, 13] (fun v i wr => ∃ (k : Nat) (acc : List Int), k ≤ L.length ∧ i = .int .i64 k ∧ IOwn wr w1.heap.size v acc ∧ acc.length = k ∧ Hid (R = (pointsR (L.drop k)).map (acc ++ ·)) ∧ Below w1.heap.size w1 wr ∧ w1.heap.size ≤ wr.heap.size) (fun _ i _ => L.length - (intOf i).toNat)
    case atStart => exact ⟨0, [], by omega, rfl, IOwn.nil _ _, rfl, by show _ = _; rw [← HR.out]; simp, Below.refl _ _, Nat.le_refl _⟩
    case round =>
      obtain ⟨k, acc, hk, rfl, hown, hal, HK, hbel, hsz⟩ := hrel
      have hbel0 : Below w.heap.size w wr := hb1.trans (hbel.mono hb1.size)
      by_cases hlt : k < L.length
      · have hd : L.drop k = L[k] :: L.drop (k + 1) := List.drop_eq_getElem_cons hlt
        have hck := (hst.below hbel (by omega)).cell hlt
        have hlr : wr.cell? ⟨b, 0, none⟩ = some (.int .i64 line) := (hbel.cell (p := ⟨b, 0, none⟩) (by show b < _; have := hb1.size; omega)).trans hl1
        have hkl := hcs L[k] (List.getElem_mem hlt)
        have hszk : (bsz L[k]).size ≤ 17179869184 := by simp [ByteArray.size]; omega
        go_wp2_with fail
        refine (readPoint_any b (bsz L[k]) line _ hszk hlr).mono ?_
        rintro e w2 ⟨rfl, rfl⟩
        rw [show (bsz L[k]).data.toList = L[k] by simp]
        cases hp : pointR L[k] with
        | none =>
          have hRn : R = none := by rw [HK.out, hd, pointsR, hp]; rfl
          simp only [gotI]
          go_wp2
          subst hRn
          exact ⟨rfl, rfl, hbel0⟩
        | some q =>
          have HK2 : Hid (R = (pointsR (L.drop (k + 1))).map ((acc ++ [q]) ++ ·)) := by
            show _ = _
            rw [HK.out, hd, pointsR, hp]
            cases pointsR (L.drop (k + 1)) <;> simp
          clear HK hd hp
          simp only [gotI]
          go_wp2_with (first | (at_builtin; refine wpList_append_ints rfl _ _ rfl w1.heap.size _ acc rfl (World.ownsRow.alloc hown _) [q] ⟨wr.heap.size, 0, none⟩ 1 rfl (cell_one q wr) (by simp; omega) (by simp; omega) ?_; intro a' c' w3 hown3 hgr3 _ _))
          have hb3 : Below w1.heap.size wr w3 := ((Below.refl _ wr).alloc hsz _).grown hgr3 (by simp; omega) (fun j hj => (own_ge hown hj).1)
          have hs3 := hgr3.size
          go_wp2
          go_roundw
          case rel => exact ⟨k + 1, acc ++ [q], by omega, by simp, by first | exact hown3 | (rw [hal] at hown3; exact hown3), by simp [hal], HK2, hbel.trans hb3, by simp at hs3; omega⟩
          case measure => simp only [intOf]; omega
      · have hRs : R = some acc := by rw [HK.out, List.drop_of_length_le (by omega)]; simp [pointsR]
        go_wp2
        go_ret
        subst hRs
        obtain ⟨ax, cx, rfl⟩ := hown.val
        exact ⟨_, _, _, rfl, hown.mono hb1.size, hbel0⟩

end Go.Proofs.YtfhpgmlfgjfknaaGreatDoor
