/- The document's shelf in memory: New, Len; the document's Has (contracts; nothing is claimed here). -/
import Derived.Test.YtklnnkdcnaieoaaCmp
import Derived.Test.YtklnnkdcnaieoaaTld
namespace Go.Proofs.Ytklnnkdcnaieoaa
open Go.RowKit Go.Vf

/-- The document's shelf lies in its block, its pairs in a row from base on. -/
structure RfAt (w : World) (C base : Nat) (v : Value) (L : List Pr) : Prop where
  box : Blk w C 58 #[v]
  row : PRow w base v L
theorem RfAt.old {w w' : World} {C base : Nat} {v : Value} {L : List Pr} (h : RfAt w C base v L) (hb : Below w.heap.size w w') : RfAt w' C base v L := ⟨h.box.old hb, h.row.old hb⟩
theorem rnew_any (base : Nat) (w : World) : Calls Try.prog 9 #[] w fun e w' => e = .returned (.pointer (some ⟨w.heap.size, 0, none⟩)) ∧ RfAt w' w.heap.size base (.slice none 0 0) [] ∧ Below w.heap.size w w' := by
  go_enter Try.func9, Try.ntmps9
  go_wp2
  go_ret
  exact ⟨rfl, ⟨Blk.new w 58 #[.slice none 0 0], World.ownsRow_nil _ _ _ _⟩, (Below.refl w.heap.size w).alloc (Nat.le_refl _) _⟩
theorem rlen_any (w : World) (C base : Nat) (v : Value) (L : List Pr) (h : RfAt w C base v L) : Calls Try.prog 28 #[.pointer (some ⟨C, 0, none⟩)] w fun e w' => e = .returned (.int .i64 (L.length : Int)) ∧ w = w' := by
  obtain ⟨a, c, e⟩ := h.row.shape
  have c1 := h.box.c1
  generalize L.length = n at *
  subst e
  clear h
  go_enter Try.func28, Try.ntmps28
  go_wp2
  go_ret
  exact ⟨rfl, rfl⟩
set_option maxHeartbeats 4000000 in
theorem has_any (f t k : ByteArray) (o : Bool) (w : World) (s1 : f.size ≤ 17179869184) (s2 : t.size ≤ 17179869184) (s3 : k.size ≤ 17179869184) :
    Calls Try.prog 40 #[.agg #[.string f, .string t, .bool o], .string k] w fun e w' => e = .returned (.bool (inSp f t o k)) ∧ Below w.heap.size w w' := by
  have HC1 : ∀ W, Calls Try.prog 35 #[.string k, .string f] W fun e w' => e = .returned (.int .i64 (sd k f)) ∧ Below W.heap.size W w' := fun W => rcompare_any k f W s3 s1
  have HC2 : ∀ W, Calls Try.prog 35 #[.string k, .string t] W fun e w' => e = .returned (.int .i64 (sd k t)) ∧ Below W.heap.size W w' := fun W => rcompare_any k t W s3 s2
  obtain ⟨R, HR⟩ : ∃ R, Hid (R = inSp f t o k) := ⟨_, rfl⟩
  rw [← HR.out]
  have b1 := (Below.refl w.heap.size w).alloc (Nat.le_refl _) (.cells #[.string f, .string t, .bool o] 29)
  have B1 := Blk.new w 29 #[.string f, .string t, .bool o]
  clear s1 s2 s3
  go_enter Try.func40, Try.ntmps40
  go_upto_region 1 with fail
  generalize w.alloc (.cells #[.string f, .string t, .bool o] 29) = w1 at *
  obtain ⟨x0, x1, x2⟩ := B1.c3
  go_wp2_with fail
  refine (HC1 w1).mono ?_
  clear HC1
  rintro e w2 ⟨rfl, hb2⟩
  have HB2 : Hid (Below w.heap.size w w2) := b1.trans (hb2.mono b1.size)
  obtain ⟨y0, y1, y2⟩ := (B1.old hb2).c3
  clear x0 x1 x2 b1 B1 hb2
  obtain ⟨s, Hs⟩ : ∃ s, Hid (sd k f = s) := ⟨_, rfl⟩
  rw [Hs.out]
  by_cases h1 : 0 ≤ s
  · have d1 : decide (0 ≤ s) = true := by simpa using h1
    have HL1 : Hid (lt k f = false) := by
      show _ = _
      cases q : lt k f with
      | false => rfl
      | true => have := sd_lt.2 q; rw [Hs.out] at this; omega
    clear h1
    cases o with
    | true =>
      have HV : Hid (R = true) := by show _ = _; rw [HR.out]; unfold inSp; rw [HL1.out]; rfl
      go_wp2
      go_ret
      exact ⟨by rw [HV.out]; rfl, HB2.out⟩
    | false =>
      go_wp2_with fail
      refine (HC2 w2).mono ?_
      clear HC2
      rintro e w3 ⟨rfl, hb3⟩
      have HB3 : Hid (Below w.heap.size w w3) := HB2.out.trans (hb3.mono HB2.out.size)
      obtain ⟨s2, Hs2⟩ : ∃ s, Hid (sd k t = s) := ⟨_, rfl⟩
      rw [Hs2.out]
      clear hb3 HB2 y0 y1 y2
      by_cases h2 : s2 < 0
      · have d2 : decide (s2 < 0) = true := by simpa using h2
        have HV : Hid (R = true) := by
          show _ = _
          rw [HR.out]
          unfold inSp
          rw [HL1.out, sd_lt.1 (by rw [Hs2.out]; exact h2)]
          rfl
        clear h2
        go_wp2
        go_ret
        exact ⟨by rw [HV.out]; rfl, HB3.out⟩
      · have d2 : decide (s2 < 0) = false := by simpa using h2
        have HV : Hid (R = false) := by
          show _ = _
          rw [HR.out]
          unfold inSp
          cases q : lt k t with
          | false => rw [HL1.out]; rfl
          | true => have := sd_lt.2 q; rw [Hs2.out] at this; omega
        clear h2
        go_wp2
        go_ret
        exact ⟨by rw [HV.out]; rfl, HB3.out⟩
  · have d1 : decide (0 ≤ s) = false := by simpa using h1
    have HV : Hid (R = false) := by
      show _ = _
      rw [HR.out]
      unfold inSp
      rw [sd_lt.1 (by rw [Hs.out]; omega)]
      rfl
    clear h1
    go_wp2
    go_ret
    exact ⟨by rw [HV.out]; rfl, HB2.out⟩
end Go.Proofs.Ytklnnkdcnaieoaa
