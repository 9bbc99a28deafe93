/- The tour's path in memory; how a tour ends (lemmas; nothing is claimed here). -/
import Derived.Test.YtgefbgpfjbbeaaaGreatDoorFSee
namespace Go.Proofs.YtgefbgpfjbbeaaaGreatDoor
open Go.RowKit Go.Vf

theorem own_setCell {w : World} {base : Nat} {e : TypeId} {size : Nat} {v : Value} {k : Nat} {xs : List Value} (h : w.ownsRow base e size v k xs) {p : Addr} (hp : p.block < base) (x : Value) : (w.setCell p x).ownsRow base e size v k xs := by
  refine ⟨h.1, ?_⟩
  rcases h.2 with hn | ⟨g, cap, cur, rfl, hb, hg, rest⟩
  · exact .inl hn
  · exact .inr ⟨g, cap, cur, rfl, hb, (Below.heap_setCell w p x g (by omega)).trans hg, rest⟩
theorem IOwn.put {w : World} {base g n cap : Nat} {zs : List Int} (h : IOwn w base (.slice (some ⟨g, 0, none⟩) n cap) zs) (i : Nat) (_hi : i < zs.length) (y : Int) : IOwn (w.setCell ⟨g, i, none⟩ (.int .i64 y)) base (.slice (some ⟨g, 0, none⟩) n cap) (zs.set i y) := by
  obtain ⟨h1, h2⟩ := h
  rcases h2 with ⟨hv, _⟩ | ⟨g', cap', cur, hv, hb, hh, hc1, hc2, hc3, hc4⟩
  · cases hv
  · simp only [Value.slice.injEq, Option.some.injEq, Addr.mk.injEq, and_true] at hv
    obtain ⟨rfl, rfl, rfl⟩ := hv
    refine ⟨by simp, .inr ⟨g, cap, cur.setIfInBounds i (.int .i64 y), by simp, hb, ?_, by simpa using hc1, hc2, by simpa using hc3, ?_⟩⟩
    · have : Blk w g 3 cur := hh
      exact this.set i _
    · have e1 : (cur.setIfInBounds i (Value.int .i64 y)).toList = cur.toList.set i (.int .i64 y) := by simp
      rw [e1, List.map_set]
      rw [← hc4, List.length_set, List.take_set]
/-- Two lists of ints: the path with another last place. -/
theorem TourAt.last {w : World} {T g pc : Nat} {P : List Int} {x : Int} {k : Nat} (h : TourAt w T (some ⟨g, 0, none⟩) pc (P ++ [x]) k) (y : Int) : TourAt (w.setCell ⟨g, P.length, none⟩ (.int .i64 y)) T (some ⟨g, 0, none⟩) pc (P ++ [y]) k ∧ T < g := by
  have hg : T < g := by
    rcases h.own.form with ⟨e, _⟩ | ⟨g', cap, e, hb, _⟩
    · cases e
    · simp only [Value.slice.injEq, Option.some.injEq, Addr.mk.injEq, and_true] at e
      omega
  have ho := h.own.put P.length (by simp) y
  rw [show (P ++ [x]).set P.length y = P ++ [y] by simp] at ho
  have hl : (P ++ [x]).length = (P ++ [y]).length := by simp
  refine ⟨⟨?_, ?_⟩, hg⟩
  · have := h.blk.other (p := ⟨g, P.length, none⟩) (by show T ≠ g; omega) (.int .i64 y)
    rw [hl] at this; exact this
  · rw [hl] at ho; exact ho
theorem TourAt.count {w : World} {T pc : Nat} {pa : Option Addr} {P : List Int} {k : Nat} (h : TourAt w T pa pc P k) (k' : Nat) : TourAt (w.setCell ⟨T, 1, none⟩ (.int .i64 (k' : Int))) T pa pc P k' :=
  ⟨h.blk.set 1 _, own_setCell h.own (Nat.lt_succ_self _) _⟩
theorem TourAt.path {_w w1 : World} {T pc pc' : Nat} {pa pa' : Option Addr} {P P' : List Int} {k : Nat} (h : Blk w1 T 184 #[.slice pa P.length pc, .int .i64 (k : Int), seeV T]) (ho : IOwn w1 (T + 1) (.slice pa' P'.length pc') P') : TourAt (w1.setCell ⟨T, 0, none⟩ (.slice pa' P'.length pc')) T pa' pc' P' k :=
  ⟨h.set 0 _, own_setCell ho (Nat.lt_succ_self _) _⟩
theorem TourAt.cells {w : World} {T pc : Nat} {pa : Option Addr} {P : List Int} {k : Nat} (h : TourAt w T pa pc P k) : w.cell? ⟨T, 0, none⟩ = some (.slice pa P.length pc) ∧ w.cell? ⟨T, 1, none⟩ = some (.int .i64 (k : Int)) ∧ w.cell? ⟨T, 2, none⟩ = some (.func (.func 84) #[.pointer (some ⟨T, 0, none⟩)] #[]) ∧ w.frozen? ⟨T, 0, none⟩ = false ∧ w.frozen? ⟨T, 1, none⟩ = false ∧ T < w.heap.size :=
  ⟨h.blk.cell 0, h.blk.cell 1, h.blk.cell 2, h.blk.frozen 0, h.blk.frozen 1, h.blk.lt⟩
/-- A path that is not empty has a block. -/
theorem TourAt.some {w : World} {T pc : Nat} {pa : Option Addr} {P : List Int} {x : Int} {k : Nat} (h : TourAt w T pa pc (P ++ [x]) k) : ∃ g, pa = some ⟨g, 0, none⟩ ∧ T < g ∧ g < w.heap.size ∧ P.length + 1 ≤ pc ∧ w.cell? ⟨g, P.length, none⟩ = some (.int .i64 x) ∧ w.frozen? ⟨g, P.length, none⟩ = false := by
  rcases h.own.form with ⟨_, e⟩ | ⟨g, cap, e, hb, hlt, hc, hcell, hfr⟩
  · simp at e
  · simp only [Value.slice.injEq] at e
    obtain ⟨rfl, _, rfl⟩ := e
    refine ⟨g, rfl, by omega, hlt, by simpa using hc, ?_, hfr _⟩
    have := hcell P.length (by simp)
    simpa using this

def GoPost (r : Tr) (T : Nat) (P : List Int) (w : World) (e : Ending) (w' : World) : Prop :=
  Below T w w' ∧ match r with
  | .ok m => e = .returned (.tuple #[]) ∧ ∃ pa pc, TourAt w' T pa pc P m
  | .bad c p m => ∃ a cc, e = lostG c a p.length cc (m : Int) ∧ IOwn w' (T + 1) (.slice a p.length cc) p

theorem see_room {Q : Own → Bool} {p n : Nat} {ah : List Fld} {f : Fld} (h : seeF Q p n ah f = 0) : n ≤ 64 ∧ p ≤ 16 := by
  unfold seeF at h
  by_cases h1 : 64 < n
  · rw [if_pos h1] at h; cases h
  · rw [if_neg h1] at h
    by_cases h2 : 16 < p
    · rw [if_pos h2] at h; cases h
    · omega
theorem tourL_le (Q : Own → Bool) : ∀ (N : Nat) (l : List Fld), SizeOf.sizeOf l ≤ N → ∀ (P : List Int) (ah : List Fld) (n m : Nat), n ≤ 64 → tourL Q P ah n l = .ok m → m ≤ 64 := by
  intro N
  induction N with
  | zero => intro l h; cases l <;> simp at h
  | succ N ih =>
    intro l hl P ah n m hn h
    cases l with
    | nil => rw [tourL_nil] at h; cases h; exact hn
    | cons f r =>
      obtain ⟨o, fl⟩ := f
      have hs1 : SizeOf.sizeOf fl ≤ N := by simp at hl; omega
      have hs2 : SizeOf.sizeOf r ≤ N := by simp at hl; omega
      by_cases h0 : seeF Q (P.length + 1) (n + 1) ah (.mk o fl) = 0
      · cases h1 : tourL Q (P ++ [(ah.length : Int)]) [] (n + 1) fl with
        | bad c p q =>
          rw [tourL_in Q P ah n (.mk o fl) r h0 h1] at h
          cases h
        | ok q =>
          rw [tourL_on Q P ah n (.mk o fl) r h0 h1] at h
          exact ih r hs2 _ _ _ _ (ih fl hs1 _ _ _ _ (see_room h0).1 h1) h
      · rw [tourL_bad Q P ah n (.mk o fl) r h0] at h
        cases h

theorem tourL_ne' (Q : Own → Bool) : ∀ (N : Nat) (l : List Fld), SizeOf.sizeOf l ≤ N → ∀ (P : List Int) (ah : List Fld) (n : Nat) (c : Int) (p : List Int) (m : Nat), tourL Q P ah n l = .bad c p m → c ≠ 0 := by
  intro N
  induction N with
  | zero => intro l h; cases l <;> simp at h
  | succ N ih =>
    intro l hl P ah n c p m h
    cases l with
    | nil => rw [tourL_nil] at h; cases h
    | cons f r =>
      obtain ⟨o, fl⟩ := f
      have hs1 : SizeOf.sizeOf fl ≤ N := by simp at hl; omega
      have hs2 : SizeOf.sizeOf r ≤ N := by simp at hl; omega
      by_cases h0 : seeF Q (P.length + 1) (n + 1) ah (.mk o fl) = 0
      · cases h1 : tourL Q (P ++ [(ah.length : Int)]) [] (n + 1) fl with
        | bad c' p' q =>
          rw [tourL_in Q P ah n (.mk o fl) r h0 h1] at h
          cases h
          exact ih fl hs1 _ _ _ _ _ _ h1
        | ok q =>
          rw [tourL_on Q P ah n (.mk o fl) r h0 h1] at h
          exact ih r hs2 _ _ _ _ _ _ h
      · rw [tourL_bad Q P ah n (.mk o fl) r h0] at h
        cases h
        exact h0
theorem tourL_ne {Q : Own → Bool} {l : List Fld} (P : List Int) (ah : List Fld) (n : Nat) (c : Int) (p : List Int) (m : Nat) (h : tourL Q P ah n l = .bad c p m) : c ≠ 0 := tourL_ne' Q _ l (Nat.le_refl _) P ah n c p m h

theorem takeF_len {α : Type} (l : List α) (j : Nat) (h : j ≤ l.length) : (l.take j).length = j := by rw [List.length_take]; omega

end Go.Proofs.YtgefbgpfjbbeaaaGreatDoor
