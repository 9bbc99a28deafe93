/- What the document's Meet does (a contract; nothing is claimed here). -/
import Derived.Test.YtgefbgpfjbbeaaaGreatDoorJ13
namespace Go.Proofs.YtgefbgpfjbbeaaaGreatDoor
open Go.RowKit Go.Vf

theorem span_results8 {tmps : Array Value} {w : World} {h : Nat} {a b c : Value} (hb : Blk w h 24 #[a, b, c]) (t4 : tmps[4]?.getD undef = .pointer (some ⟨h, 0, none⟩)) :
    (results Tryz.f8 tmps).run Tryz.prog w = .ok (.agg #[a, b, c]) w := by
  have c0 := hb.cell 0
  have c1 := hb.cell 1
  have c2 := hb.cell 2
  simp at c0 c1 c2
  simp [results, Tryz.results8, go_sem, t4, c0, c1, c2]
/-- Four blocks of three cells, one behind the other. -/
theorem four_new (w : World) (a b c d : Array Value) : Blk ((((w.alloc (.cells a 24)).alloc (.cells b 24)).alloc (.cells c 24)).alloc (.cells d 24)) w.heap.size 24 a ∧ Blk ((((w.alloc (.cells a 24)).alloc (.cells b 24)).alloc (.cells c 24)).alloc (.cells d 24)) (w.heap.size + 1) 24 b ∧
    Blk ((((w.alloc (.cells a 24)).alloc (.cells b 24)).alloc (.cells c 24)).alloc (.cells d 24)) (w.heap.size + 1 + 1) 24 c ∧ Blk ((((w.alloc (.cells a 24)).alloc (.cells b 24)).alloc (.cells c 24)).alloc (.cells d 24)) (w.heap.size + 1 + 1 + 1) 24 d ∧ Below w.heap.size w ((((w.alloc (.cells a 24)).alloc (.cells b 24)).alloc (.cells c 24)).alloc (.cells d 24)) := by
  have s1 := alloc_size w (.cells a 24)
  have s2 := alloc_size (w.alloc (.cells a 24)) (.cells b 24)
  have s3 := alloc_size ((w.alloc (.cells a 24)).alloc (.cells b 24)) (.cells c 24)
  have n1 := Blk.new w 24 a
  have n2 := Blk.new (w.alloc (.cells a 24)) 24 b
  have n3 := Blk.new ((w.alloc (.cells a 24)).alloc (.cells b 24)) 24 c
  have n4 := Blk.new (((w.alloc (.cells a 24)).alloc (.cells b 24)).alloc (.cells c 24)) 24 d
  have b1 := (Below.refl w.heap.size w).alloc (Nat.le_refl _) (.cells a 24)
  have b2 := (Below.refl _ (w.alloc (.cells a 24))).alloc (Nat.le_refl _) (.cells b 24)
  have b3 := (Below.refl _ ((w.alloc (.cells a 24)).alloc (.cells b 24))).alloc (Nat.le_refl _) (.cells c 24)
  have b4 := (Below.refl _ (((w.alloc (.cells a 24)).alloc (.cells b 24)).alloc (.cells c 24))).alloc (Nat.le_refl _) (.cells d 24)
  have m1 := ((n1.old b2).old b3).old b4
  have m2 := (n2.old b3).old b4
  have m3 := n3.old b4
  rw [s1] at m2
  rw [s2, s1] at m3
  rw [s3, s2, s1] at n4
  exact ⟨m1, m2, m3, n4, b1.trans ((b2.trans ((b3.trans (b4.mono b3.size)).mono b2.size)).mono b1.size)⟩
set_option maxHeartbeats 16000000 in
theorem rmeet_any (a b : Sp) (haf : a.f.size ≤ 17179869184) (hat : a.t.size ≤ 17179869184) (hbf : b.f.size ≤ 17179869184) (hbt : b.t.size ≤ 17179869184) (w : World) : Calls Tryz.prog 8 #[spV a, spV b] w fun e w' => e = .returned (spV (meetS a b)) ∧ Below w.heap.size w w' := by
  obtain ⟨f, t, o⟩ := a
  obtain ⟨f', t', o'⟩ := b
  have hc := fun W => rcomp_any f' f hbf haf W
  have hd := fun W => rcomp_any t t' hat hbt W
  obtain ⟨hA4, hB4, hR4, hT4, hb04⟩ := four_new w #[.string f, .string t, .bool o] #[.string f', .string t', .bool o'] #[.string ⟨#[]⟩, .string ⟨#[]⟩, .bool false] #[.string f, .string ⟨#[]⟩, .bool (o && o')]
  clear haf hat hbf hbt
  unfold spV meetS fromS
  simp only [ordB_neg t t']
  rcases ordB_three f' f with h | h | h <;> cases o <;> cases o'
  · rw [h] at hc
    simp only [Bool.and_self] at hT4
    rcases ordB_three t t' with g | g | g
    · rw [g] at hd
      simp only [h, g]
      go_enter Tryz.func8, Tryz.ntmps8
      go_wp2_with fail
      refine (hc _).mono ?_
      rintro _ w5 ⟨rfl, hb5⟩
      have hA5 := hA4.old hb5
      have hB5 := hB4.old hb5
      have hR5 := hR4.old hb5
      have hT5 := hT4.old hb5
      have hb05 := hb04.trans (hb5.mono hb04.size)
      clear hc hA4 hB4 hR4 hT4 hb04 hb5
      have a0 := hA5.cell 0
      have a1 := hA5.cell 1
      have a2 := hA5.cell 2
      have b0 := hB5.cell 0
      have b1 := hB5.cell 1
      have b2 := hB5.cell 2
      have r0 := hR5.cell 0
      have r1 := hR5.cell 1
      have r2 := hR5.cell 2
      have t0 := hT5.cell 0
      have t1 := hT5.cell 1
      have t2 := hT5.cell 2
      have rf0 := hR5.frozen 0
      have rf1 := hR5.frozen 1
      have rf2 := hR5.frozen 2
      have tf0 := hT5.frozen 0
      have tf1 := hT5.frozen 1
      have tf2 := hT5.frozen 2
      go_wp2_with fail
      refine (hd _).mono ?_
      rintro _ w8 ⟨rfl, hb8⟩
      have hA8 := hA5.old hb8
      have hB8 := hB5.old hb8
      have hR8 := hR5.old hb8
      have hT8 := hT5.old hb8
      have hb08 := hb05.trans (hb8.mono hb05.size)
      clear hd hb8 hA5 hB5 hR5 hT5 hb05 a0 a1 a2 b0 b1 b2 r0 r1 r2 t0 t1 t2 rf0 rf1 rf2 tf0 tf1 tf2
      have a0 := hA8.cell 0
      have a1 := hA8.cell 1
      have a2 := hA8.cell 2
      have b0 := hB8.cell 0
      have b1 := hB8.cell 1
      have b2 := hB8.cell 2
      have r0 := hR8.cell 0
      have r1 := hR8.cell 1
      have r2 := hR8.cell 2
      have t0 := hT8.cell 0
      have t1 := hT8.cell 1
      have t2 := hT8.cell 2
      have rf0 := hR8.frozen 0
      have rf1 := hR8.frozen 1
      have rf2 := hR8.frozen 2
      have tf0 := hT8.frozen 0
      have tf1 := hT8.frozen 1
      have tf2 := hT8.frozen 2
      have hA9 := hA8.other (p := ⟨w.heap.size + 1 + 1 + 1, 1, none⟩) (by show w.heap.size ≠ w.heap.size + 1 + 1 + 1; omega) ((.string t))
      have hB9 := hB8.other (p := ⟨w.heap.size + 1 + 1 + 1, 1, none⟩) (by show w.heap.size + 1 ≠ w.heap.size + 1 + 1 + 1; omega) ((.string t))
      have hR9 := hR8.other (p := ⟨w.heap.size + 1 + 1 + 1, 1, none⟩) (by show w.heap.size + 1 + 1 ≠ w.heap.size + 1 + 1 + 1; omega) ((.string t))
      have hT9 := hT8.set 1 ((.string t))
      simp only [List.setIfInBounds_toArray, List.set_cons_zero, List.set_cons_succ] at hT9
      have hbb9 := hb08.setCell (p := ⟨w.heap.size + 1 + 1 + 1, 1, none⟩) (by show w.heap.size ≤ w.heap.size + 1 + 1 + 1; omega) ((.string t))
      have hRF := ((hR9.set 0 (.string f)).set 1 (.string t)).set 2 (.bool false)
      have hbF := ((hbb9.setCell (p := ⟨w.heap.size + 1 + 1, 0, none⟩) (by show w.heap.size ≤ w.heap.size + 1 + 1; omega) (.string f)).setCell (p := ⟨w.heap.size + 1 + 1, 1, none⟩) (by show w.heap.size ≤ w.heap.size + 1 + 1; omega) (.string t)).setCell (p := ⟨w.heap.size + 1 + 1, 2, none⟩) (by show w.heap.size ≤ w.heap.size + 1 + 1; omega) (.bool false)
      go_wp2_with fail
      refine bodyPost_ret (span_results8 hRF rfl) rfl ?_
      exact ⟨rfl, hbF⟩
    · rw [g] at hd
      simp only [h, g]
      go_enter Tryz.func8, Tryz.ntmps8
      go_wp2_with fail
      refine (hc _).mono ?_
      rintro _ w5 ⟨rfl, hb5⟩
      have hA5 := hA4.old hb5
      have hB5 := hB4.old hb5
      have hR5 := hR4.old hb5
      have hT5 := hT4.old hb5
      have hb05 := hb04.trans (hb5.mono hb04.size)
      clear hc hA4 hB4 hR4 hT4 hb04 hb5
      have a0 := hA5.cell 0
      have a1 := hA5.cell 1
      have a2 := hA5.cell 2
      have b0 := hB5.cell 0
      have b1 := hB5.cell 1
      have b2 := hB5.cell 2
      have r0 := hR5.cell 0
      have r1 := hR5.cell 1
      have r2 := hR5.cell 2
      have t0 := hT5.cell 0
      have t1 := hT5.cell 1
      have t2 := hT5.cell 2
      have rf0 := hR5.frozen 0
      have rf1 := hR5.frozen 1
      have rf2 := hR5.frozen 2
      have tf0 := hT5.frozen 0
      have tf1 := hT5.frozen 1
      have tf2 := hT5.frozen 2
      go_wp2_with fail
      refine (hd _).mono ?_
      rintro _ w8 ⟨rfl, hb8⟩
      have hA8 := hA5.old hb8
      have hB8 := hB5.old hb8
      have hR8 := hR5.old hb8
      have hT8 := hT5.old hb8
      have hb08 := hb05.trans (hb8.mono hb05.size)
      clear hd hb8 hA5 hB5 hR5 hT5 hb05 a0 a1 a2 b0 b1 b2 r0 r1 r2 t0 t1 t2 rf0 rf1 rf2 tf0 tf1 tf2
      have a0 := hA8.cell 0
      have a1 := hA8.cell 1
      have a2 := hA8.cell 2
      have b0 := hB8.cell 0
      have b1 := hB8.cell 1
      have b2 := hB8.cell 2
      have r0 := hR8.cell 0
      have r1 := hR8.cell 1
      have r2 := hR8.cell 2
      have t0 := hT8.cell 0
      have t1 := hT8.cell 1
      have t2 := hT8.cell 2
      have rf0 := hR8.frozen 0
      have rf1 := hR8.frozen 1
      have rf2 := hR8.frozen 2
      have tf0 := hT8.frozen 0
      have tf1 := hT8.frozen 1
      have tf2 := hT8.frozen 2
      have hA9 := hA8.other (p := ⟨w.heap.size + 1 + 1 + 1, 1, none⟩) (by show w.heap.size ≠ w.heap.size + 1 + 1 + 1; omega) ((.string t))
      have hB9 := hB8.other (p := ⟨w.heap.size + 1 + 1 + 1, 1, none⟩) (by show w.heap.size + 1 ≠ w.heap.size + 1 + 1 + 1; omega) ((.string t))
      have hR9 := hR8.other (p := ⟨w.heap.size + 1 + 1 + 1, 1, none⟩) (by show w.heap.size + 1 + 1 ≠ w.heap.size + 1 + 1 + 1; omega) ((.string t))
      have hT9 := hT8.set 1 ((.string t))
      simp only [List.setIfInBounds_toArray, List.set_cons_zero, List.set_cons_succ] at hT9
      have hbb9 := hb08.setCell (p := ⟨w.heap.size + 1 + 1 + 1, 1, none⟩) (by show w.heap.size ≤ w.heap.size + 1 + 1 + 1; omega) ((.string t))
      have hRF := ((hR9.set 0 (.string f)).set 1 (.string t)).set 2 (.bool false)
      have hbF := ((hbb9.setCell (p := ⟨w.heap.size + 1 + 1, 0, none⟩) (by show w.heap.size ≤ w.heap.size + 1 + 1; omega) (.string f)).setCell (p := ⟨w.heap.size + 1 + 1, 1, none⟩) (by show w.heap.size ≤ w.heap.size + 1 + 1; omega) (.string t)).setCell (p := ⟨w.heap.size + 1 + 1, 2, none⟩) (by show w.heap.size ≤ w.heap.size + 1 + 1; omega) (.bool false)
      go_wp2_with fail
      refine bodyPost_ret (span_results8 hRF rfl) rfl ?_
      exact ⟨rfl, hbF⟩
    · rw [g] at hd
      simp only [h, g]
      go_enter Tryz.func8, Tryz.ntmps8
      go_wp2_with fail
      refine (hc _).mono ?_
      rintro _ w5 ⟨rfl, hb5⟩
      have hA5 := hA4.old hb5
      have hB5 := hB4.old hb5
      have hR5 := hR4.old hb5
      have hT5 := hT4.old hb5
      have hb05 := hb04.trans (hb5.mono hb04.size)
      clear hc hA4 hB4 hR4 hT4 hb04 hb5
      have a0 := hA5.cell 0
      have a1 := hA5.cell 1
      have a2 := hA5.cell 2
      have b0 := hB5.cell 0
      have b1 := hB5.cell 1
      have b2 := hB5.cell 2
      have r0 := hR5.cell 0
      have r1 := hR5.cell 1
      have r2 := hR5.cell 2
      have t0 := hT5.cell 0
      have t1 := hT5.cell 1
      have t2 := hT5.cell 2
      have rf0 := hR5.frozen 0
      have rf1 := hR5.frozen 1
      have rf2 := hR5.frozen 2
      have tf0 := hT5.frozen 0
      have tf1 := hT5.frozen 1
      have tf2 := hT5.frozen 2
      go_wp2_with fail
      refine (hd _).mono ?_
      rintro _ w8 ⟨rfl, hb8⟩
      have hA8 := hA5.old hb8
      have hB8 := hB5.old hb8
      have hR8 := hR5.old hb8
      have hT8 := hT5.old hb8
      have hb08 := hb05.trans (hb8.mono hb05.size)
      clear hd hb8 hA5 hB5 hR5 hT5 hb05 a0 a1 a2 b0 b1 b2 r0 r1 r2 t0 t1 t2 rf0 rf1 rf2 tf0 tf1 tf2
      have a0 := hA8.cell 0
      have a1 := hA8.cell 1
      have a2 := hA8.cell 2
      have b0 := hB8.cell 0
      have b1 := hB8.cell 1
      have b2 := hB8.cell 2
      have r0 := hR8.cell 0
      have r1 := hR8.cell 1
      have r2 := hR8.cell 2
      have t0 := hT8.cell 0
      have t1 := hT8.cell 1
      have t2 := hT8.cell 2
      have rf0 := hR8.frozen 0
      have rf1 := hR8.frozen 1
      have rf2 := hR8.frozen 2
      have tf0 := hT8.frozen 0
      have tf1 := hT8.frozen 1
      have tf2 := hT8.frozen 2
      have hA9 := hA8.other (p := ⟨w.heap.size + 1 + 1 + 1, 1, none⟩) (by show w.heap.size ≠ w.heap.size + 1 + 1 + 1; omega) ((.string t'))
      have hB9 := hB8.other (p := ⟨w.heap.size + 1 + 1 + 1, 1, none⟩) (by show w.heap.size + 1 ≠ w.heap.size + 1 + 1 + 1; omega) ((.string t'))
      have hR9 := hR8.other (p := ⟨w.heap.size + 1 + 1 + 1, 1, none⟩) (by show w.heap.size + 1 + 1 ≠ w.heap.size + 1 + 1 + 1; omega) ((.string t'))
      have hT9 := hT8.set 1 ((.string t'))
      simp only [List.setIfInBounds_toArray, List.set_cons_zero, List.set_cons_succ] at hT9
      have hbb9 := hb08.setCell (p := ⟨w.heap.size + 1 + 1 + 1, 1, none⟩) (by show w.heap.size ≤ w.heap.size + 1 + 1 + 1; omega) ((.string t'))
      have hRF := ((hR9.set 0 (.string f)).set 1 (.string t')).set 2 (.bool false)
      have hbF := ((hbb9.setCell (p := ⟨w.heap.size + 1 + 1, 0, none⟩) (by show w.heap.size ≤ w.heap.size + 1 + 1; omega) (.string f)).setCell (p := ⟨w.heap.size + 1 + 1, 1, none⟩) (by show w.heap.size ≤ w.heap.size + 1 + 1; omega) (.string t')).setCell (p := ⟨w.heap.size + 1 + 1, 2, none⟩) (by show w.heap.size ≤ w.heap.size + 1 + 1; omega) (.bool false)
      go_wp2_with fail
      refine bodyPost_ret (span_results8 hRF rfl) rfl ?_
      exact ⟨rfl, hbF⟩
  · rw [h] at hc
    simp only [Bool.and_true] at hT4
    clear hd
    simp only [h]
    go_enter Tryz.func8, Tryz.ntmps8
    go_wp2_with fail
    refine (hc _).mono ?_
    rintro _ w5 ⟨rfl, hb5⟩
    have hA5 := hA4.old hb5
    have hB5 := hB4.old hb5
    have hR5 := hR4.old hb5
    have hT5 := hT4.old hb5
    have hb05 := hb04.trans (hb5.mono hb04.size)
    clear hc hA4 hB4 hR4 hT4 hb04 hb5
    have a0 := hA5.cell 0
    have a1 := hA5.cell 1
    have a2 := hA5.cell 2
    have b0 := hB5.cell 0
    have b1 := hB5.cell 1
    have b2 := hB5.cell 2
    have r0 := hR5.cell 0
    have r1 := hR5.cell 1
    have r2 := hR5.cell 2
    have t0 := hT5.cell 0
    have t1 := hT5.cell 1
    have t2 := hT5.cell 2
    have rf0 := hR5.frozen 0
    have rf1 := hR5.frozen 1
    have rf2 := hR5.frozen 2
    have tf0 := hT5.frozen 0
    have tf1 := hT5.frozen 1
    have tf2 := hT5.frozen 2
    have hA6 := hA5.other (p := ⟨w.heap.size + 1 + 1 + 1, 1, none⟩) (by show w.heap.size ≠ w.heap.size + 1 + 1 + 1; omega) ((.string t))
    have hB6 := hB5.other (p := ⟨w.heap.size + 1 + 1 + 1, 1, none⟩) (by show w.heap.size + 1 ≠ w.heap.size + 1 + 1 + 1; omega) ((.string t))
    have hR6 := hR5.other (p := ⟨w.heap.size + 1 + 1 + 1, 1, none⟩) (by show w.heap.size + 1 + 1 ≠ w.heap.size + 1 + 1 + 1; omega) ((.string t))
    have hT6 := hT5.set 1 ((.string t))
    simp only [List.setIfInBounds_toArray, List.set_cons_zero, List.set_cons_succ] at hT6
    have hbb6 := hb05.setCell (p := ⟨w.heap.size + 1 + 1 + 1, 1, none⟩) (by show w.heap.size ≤ w.heap.size + 1 + 1 + 1; omega) ((.string t))
    have hRF := ((hR6.set 0 (.string f)).set 1 (.string t)).set 2 (.bool false)
    have hbF := ((hbb6.setCell (p := ⟨w.heap.size + 1 + 1, 0, none⟩) (by show w.heap.size ≤ w.heap.size + 1 + 1; omega) (.string f)).setCell (p := ⟨w.heap.size + 1 + 1, 1, none⟩) (by show w.heap.size ≤ w.heap.size + 1 + 1; omega) (.string t)).setCell (p := ⟨w.heap.size + 1 + 1, 2, none⟩) (by show w.heap.size ≤ w.heap.size + 1 + 1; omega) (.bool false)
    go_wp2_with fail
    refine bodyPost_ret (span_results8 hRF rfl) rfl ?_
    exact ⟨rfl, hbF⟩
  · rw [h] at hc
    simp only [Bool.and_false] at hT4
    clear hd
    simp only [h]
    go_enter Tryz.func8, Tryz.ntmps8
    go_wp2_with fail
    refine (hc _).mono ?_
    rintro _ w5 ⟨rfl, hb5⟩
    have hA5 := hA4.old hb5
    have hB5 := hB4.old hb5
    have hR5 := hR4.old hb5
    have hT5 := hT4.old hb5
    have hb05 := hb04.trans (hb5.mono hb04.size)
    clear hc hA4 hB4 hR4 hT4 hb04 hb5
    have a0 := hA5.cell 0
    have a1 := hA5.cell 1
    have a2 := hA5.cell 2
    have b0 := hB5.cell 0
    have b1 := hB5.cell 1
    have b2 := hB5.cell 2
    have r0 := hR5.cell 0
    have r1 := hR5.cell 1
    have r2 := hR5.cell 2
    have t0 := hT5.cell 0
    have t1 := hT5.cell 1
    have t2 := hT5.cell 2
    have rf0 := hR5.frozen 0
    have rf1 := hR5.frozen 1
    have rf2 := hR5.frozen 2
    have tf0 := hT5.frozen 0
    have tf1 := hT5.frozen 1
    have tf2 := hT5.frozen 2
    have hA6 := hA5.other (p := ⟨w.heap.size + 1 + 1 + 1, 1, none⟩) (by show w.heap.size ≠ w.heap.size + 1 + 1 + 1; omega) ((.string t'))
    have hB6 := hB5.other (p := ⟨w.heap.size + 1 + 1 + 1, 1, none⟩) (by show w.heap.size + 1 ≠ w.heap.size + 1 + 1 + 1; omega) ((.string t'))
    have hR6 := hR5.other (p := ⟨w.heap.size + 1 + 1 + 1, 1, none⟩) (by show w.heap.size + 1 + 1 ≠ w.heap.size + 1 + 1 + 1; omega) ((.string t'))
    have hT6 := hT5.set 1 ((.string t'))
    simp only [List.setIfInBounds_toArray, List.set_cons_zero, List.set_cons_succ] at hT6
    have hbb6 := hb05.setCell (p := ⟨w.heap.size + 1 + 1 + 1, 1, none⟩) (by show w.heap.size ≤ w.heap.size + 1 + 1 + 1; omega) ((.string t'))
    have hRF := ((hR6.set 0 (.string f)).set 1 (.string t')).set 2 (.bool false)
    have hbF := ((hbb6.setCell (p := ⟨w.heap.size + 1 + 1, 0, none⟩) (by show w.heap.size ≤ w.heap.size + 1 + 1; omega) (.string f)).setCell (p := ⟨w.heap.size + 1 + 1, 1, none⟩) (by show w.heap.size ≤ w.heap.size + 1 + 1; omega) (.string t')).setCell (p := ⟨w.heap.size + 1 + 1, 2, none⟩) (by show w.heap.size ≤ w.heap.size + 1 + 1; omega) (.bool false)
    go_wp2_with fail
    refine bodyPost_ret (span_results8 hRF rfl) rfl ?_
    exact ⟨rfl, hbF⟩
  · rw [h] at hc
    simp only [Bool.and_self] at hT4
    clear hd
    simp only [h]
    go_enter Tryz.func8, Tryz.ntmps8
    go_wp2_with fail
    refine (hc _).mono ?_
    rintro _ w5 ⟨rfl, hb5⟩
    have hA5 := hA4.old hb5
    have hB5 := hB4.old hb5
    have hR5 := hR4.old hb5
    have hT5 := hT4.old hb5
    have hb05 := hb04.trans (hb5.mono hb04.size)
    clear hc hA4 hB4 hR4 hT4 hb04 hb5
    have a0 := hA5.cell 0
    have a1 := hA5.cell 1
    have a2 := hA5.cell 2
    have b0 := hB5.cell 0
    have b1 := hB5.cell 1
    have b2 := hB5.cell 2
    have r0 := hR5.cell 0
    have r1 := hR5.cell 1
    have r2 := hR5.cell 2
    have t0 := hT5.cell 0
    have t1 := hT5.cell 1
    have t2 := hT5.cell 2
    have rf0 := hR5.frozen 0
    have rf1 := hR5.frozen 1
    have rf2 := hR5.frozen 2
    have tf0 := hT5.frozen 0
    have tf1 := hT5.frozen 1
    have tf2 := hT5.frozen 2
    have hRF := ((hR5.set 0 (.string f)).set 1 (.string ⟨#[]⟩)).set 2 (.bool true)
    have hbF := ((hb05.setCell (p := ⟨w.heap.size + 1 + 1, 0, none⟩) (by show w.heap.size ≤ w.heap.size + 1 + 1; omega) (.string f)).setCell (p := ⟨w.heap.size + 1 + 1, 1, none⟩) (by show w.heap.size ≤ w.heap.size + 1 + 1; omega) (.string ⟨#[]⟩)).setCell (p := ⟨w.heap.size + 1 + 1, 2, none⟩) (by show w.heap.size ≤ w.heap.size + 1 + 1; omega) (.bool true)
    go_wp2_with fail
    refine bodyPost_ret (span_results8 hRF rfl) rfl ?_
    exact ⟨rfl, hbF⟩
  · rw [h] at hc
    simp only [Bool.and_self] at hT4
    rcases ordB_three t t' with g | g | g
    · rw [g] at hd
      simp only [h, g]
      go_enter Tryz.func8, Tryz.ntmps8
      go_wp2_with fail
      refine (hc _).mono ?_
      rintro _ w5 ⟨rfl, hb5⟩
      have hA5 := hA4.old hb5
      have hB5 := hB4.old hb5
      have hR5 := hR4.old hb5
      have hT5 := hT4.old hb5
      have hb05 := hb04.trans (hb5.mono hb04.size)
      clear hc hA4 hB4 hR4 hT4 hb04 hb5
      have a0 := hA5.cell 0
      have a1 := hA5.cell 1
      have a2 := hA5.cell 2
      have b0 := hB5.cell 0
      have b1 := hB5.cell 1
      have b2 := hB5.cell 2
      have r0 := hR5.cell 0
      have r1 := hR5.cell 1
      have r2 := hR5.cell 2
      have t0 := hT5.cell 0
      have t1 := hT5.cell 1
      have t2 := hT5.cell 2
      have rf0 := hR5.frozen 0
      have rf1 := hR5.frozen 1
      have rf2 := hR5.frozen 2
      have tf0 := hT5.frozen 0
      have tf1 := hT5.frozen 1
      have tf2 := hT5.frozen 2
      go_wp2_with fail
      refine (hd _).mono ?_
      rintro _ w8 ⟨rfl, hb8⟩
      have hA8 := hA5.old hb8
      have hB8 := hB5.old hb8
      have hR8 := hR5.old hb8
      have hT8 := hT5.old hb8
      have hb08 := hb05.trans (hb8.mono hb05.size)
      clear hd hb8 hA5 hB5 hR5 hT5 hb05 a0 a1 a2 b0 b1 b2 r0 r1 r2 t0 t1 t2 rf0 rf1 rf2 tf0 tf1 tf2
      have a0 := hA8.cell 0
      have a1 := hA8.cell 1
      have a2 := hA8.cell 2
      have b0 := hB8.cell 0
      have b1 := hB8.cell 1
      have b2 := hB8.cell 2
      have r0 := hR8.cell 0
      have r1 := hR8.cell 1
      have r2 := hR8.cell 2
      have t0 := hT8.cell 0
      have t1 := hT8.cell 1
      have t2 := hT8.cell 2
      have rf0 := hR8.frozen 0
      have rf1 := hR8.frozen 1
      have rf2 := hR8.frozen 2
      have tf0 := hT8.frozen 0
      have tf1 := hT8.frozen 1
      have tf2 := hT8.frozen 2
      have hA9 := hA8.other (p := ⟨w.heap.size + 1 + 1 + 1, 1, none⟩) (by show w.heap.size ≠ w.heap.size + 1 + 1 + 1; omega) ((.string t))
      have hB9 := hB8.other (p := ⟨w.heap.size + 1 + 1 + 1, 1, none⟩) (by show w.heap.size + 1 ≠ w.heap.size + 1 + 1 + 1; omega) ((.string t))
      have hR9 := hR8.other (p := ⟨w.heap.size + 1 + 1 + 1, 1, none⟩) (by show w.heap.size + 1 + 1 ≠ w.heap.size + 1 + 1 + 1; omega) ((.string t))
      have hT9 := hT8.set 1 ((.string t))
      simp only [List.setIfInBounds_toArray, List.set_cons_zero, List.set_cons_succ] at hT9
      have hbb9 := hb08.setCell (p := ⟨w.heap.size + 1 + 1 + 1, 1, none⟩) (by show w.heap.size ≤ w.heap.size + 1 + 1 + 1; omega) ((.string t))
      have hRF := ((hR9.set 0 (.string f)).set 1 (.string t)).set 2 (.bool false)
      have hbF := ((hbb9.setCell (p := ⟨w.heap.size + 1 + 1, 0, none⟩) (by show w.heap.size ≤ w.heap.size + 1 + 1; omega) (.string f)).setCell (p := ⟨w.heap.size + 1 + 1, 1, none⟩) (by show w.heap.size ≤ w.heap.size + 1 + 1; omega) (.string t)).setCell (p := ⟨w.heap.size + 1 + 1, 2, none⟩) (by show w.heap.size ≤ w.heap.size + 1 + 1; omega) (.bool false)
      go_wp2_with fail
      refine bodyPost_ret (span_results8 hRF rfl) rfl ?_
      exact ⟨rfl, hbF⟩
    · rw [g] at hd
      simp only [h, g]
      go_enter Tryz.func8, Tryz.ntmps8
      go_wp2_with fail
      refine (hc _).mono ?_
      rintro _ w5 ⟨rfl, hb5⟩
      have hA5 := hA4.old hb5
      have hB5 := hB4.old hb5
      have hR5 := hR4.old hb5
      have hT5 := hT4.old hb5
      have hb05 := hb04.trans (hb5.mono hb04.size)
      clear hc hA4 hB4 hR4 hT4 hb04 hb5
      have a0 := hA5.cell 0
      have a1 := hA5.cell 1
      have a2 := hA5.cell 2
      have b0 := hB5.cell 0
      have b1 := hB5.cell 1
      have b2 := hB5.cell 2
      have r0 := hR5.cell 0
      have r1 := hR5.cell 1
      have r2 := hR5.cell 2
      have t0 := hT5.cell 0
      have t1 := hT5.cell 1
      have t2 := hT5.cell 2
      have rf0 := hR5.frozen 0
      have rf1 := hR5.frozen 1
      have rf2 := hR5.frozen 2
      have tf0 := hT5.frozen 0
      have tf1 := hT5.frozen 1
      have tf2 := hT5.frozen 2
      go_wp2_with fail
      refine (hd _).mono ?_
      rintro _ w8 ⟨rfl, hb8⟩
      have hA8 := hA5.old hb8
      have hB8 := hB5.old hb8
      have hR8 := hR5.old hb8
      have hT8 := hT5.old hb8
      have hb08 := hb05.trans (hb8.mono hb05.size)
      clear hd hb8 hA5 hB5 hR5 hT5 hb05 a0 a1 a2 b0 b1 b2 r0 r1 r2 t0 t1 t2 rf0 rf1 rf2 tf0 tf1 tf2
      have a0 := hA8.cell 0
      have a1 := hA8.cell 1
      have a2 := hA8.cell 2
      have b0 := hB8.cell 0
      have b1 := hB8.cell 1
      have b2 := hB8.cell 2
      have r0 := hR8.cell 0
      have r1 := hR8.cell 1
      have r2 := hR8.cell 2
      have t0 := hT8.cell 0
      have t1 := hT8.cell 1
      have t2 := hT8.cell 2
      have rf0 := hR8.frozen 0
      have rf1 := hR8.frozen 1
      have rf2 := hR8.frozen 2
      have tf0 := hT8.frozen 0
      have tf1 := hT8.frozen 1
      have tf2 := hT8.frozen 2
      have hA9 := hA8.other (p := ⟨w.heap.size + 1 + 1 + 1, 1, none⟩) (by show w.heap.size ≠ w.heap.size + 1 + 1 + 1; omega) ((.string t))
      have hB9 := hB8.other (p := ⟨w.heap.size + 1 + 1 + 1, 1, none⟩) (by show w.heap.size + 1 ≠ w.heap.size + 1 + 1 + 1; omega) ((.string t))
      have hR9 := hR8.other (p := ⟨w.heap.size + 1 + 1 + 1, 1, none⟩) (by show w.heap.size + 1 + 1 ≠ w.heap.size + 1 + 1 + 1; omega) ((.string t))
      have hT9 := hT8.set 1 ((.string t))
      simp only [List.setIfInBounds_toArray, List.set_cons_zero, List.set_cons_succ] at hT9
      have hbb9 := hb08.setCell (p := ⟨w.heap.size + 1 + 1 + 1, 1, none⟩) (by show w.heap.size ≤ w.heap.size + 1 + 1 + 1; omega) ((.string t))
      have hRF := ((hR9.set 0 (.string f)).set 1 (.string t)).set 2 (.bool false)
      have hbF := ((hbb9.setCell (p := ⟨w.heap.size + 1 + 1, 0, none⟩) (by show w.heap.size ≤ w.heap.size + 1 + 1; omega) (.string f)).setCell (p := ⟨w.heap.size + 1 + 1, 1, none⟩) (by show w.heap.size ≤ w.heap.size + 1 + 1; omega) (.string t)).setCell (p := ⟨w.heap.size + 1 + 1, 2, none⟩) (by show w.heap.size ≤ w.heap.size + 1 + 1; omega) (.bool false)
      go_wp2_with fail
      refine bodyPost_ret (span_results8 hRF rfl) rfl ?_
      exact ⟨rfl, hbF⟩
    · rw [g] at hd
      simp only [h, g]
      go_enter Tryz.func8, Tryz.ntmps8
      go_wp2_with fail
      refine (hc _).mono ?_
      rintro _ w5 ⟨rfl, hb5⟩
      have hA5 := hA4.old hb5
      have hB5 := hB4.old hb5
      have hR5 := hR4.old hb5
      have hT5 := hT4.old hb5
      have hb05 := hb04.trans (hb5.mono hb04.size)
      clear hc hA4 hB4 hR4 hT4 hb04 hb5
      have a0 := hA5.cell 0
      have a1 := hA5.cell 1
      have a2 := hA5.cell 2
      have b0 := hB5.cell 0
      have b1 := hB5.cell 1
      have b2 := hB5.cell 2
      have r0 := hR5.cell 0
      have r1 := hR5.cell 1
      have r2 := hR5.cell 2
      have t0 := hT5.cell 0
      have t1 := hT5.cell 1
      have t2 := hT5.cell 2
      have rf0 := hR5.frozen 0
      have rf1 := hR5.frozen 1
      have rf2 := hR5.frozen 2
      have tf0 := hT5.frozen 0
      have tf1 := hT5.frozen 1
      have tf2 := hT5.frozen 2
      go_wp2_with fail
      refine (hd _).mono ?_
      rintro _ w8 ⟨rfl, hb8⟩
      have hA8 := hA5.old hb8
      have hB8 := hB5.old hb8
      have hR8 := hR5.old hb8
      have hT8 := hT5.old hb8
      have hb08 := hb05.trans (hb8.mono hb05.size)
      clear hd hb8 hA5 hB5 hR5 hT5 hb05 a0 a1 a2 b0 b1 b2 r0 r1 r2 t0 t1 t2 rf0 rf1 rf2 tf0 tf1 tf2
      have a0 := hA8.cell 0
      have a1 := hA8.cell 1
      have a2 := hA8.cell 2
      have b0 := hB8.cell 0
      have b1 := hB8.cell 1
      have b2 := hB8.cell 2
      have r0 := hR8.cell 0
      have r1 := hR8.cell 1
      have r2 := hR8.cell 2
      have t0 := hT8.cell 0
      have t1 := hT8.cell 1
      have t2 := hT8.cell 2
      have rf0 := hR8.frozen 0
      have rf1 := hR8.frozen 1
      have rf2 := hR8.frozen 2
      have tf0 := hT8.frozen 0
      have tf1 := hT8.frozen 1
      have tf2 := hT8.frozen 2
      have hA9 := hA8.other (p := ⟨w.heap.size + 1 + 1 + 1, 1, none⟩) (by show w.heap.size ≠ w.heap.size + 1 + 1 + 1; omega) ((.string t'))
      have hB9 := hB8.other (p := ⟨w.heap.size + 1 + 1 + 1, 1, none⟩) (by show w.heap.size + 1 ≠ w.heap.size + 1 + 1 + 1; omega) ((.string t'))
      have hR9 := hR8.other (p := ⟨w.heap.size + 1 + 1 + 1, 1, none⟩) (by show w.heap.size + 1 + 1 ≠ w.heap.size + 1 + 1 + 1; omega) ((.string t'))
      have hT9 := hT8.set 1 ((.string t'))
      simp only [List.setIfInBounds_toArray, List.set_cons_zero, List.set_cons_succ] at hT9
      have hbb9 := hb08.setCell (p := ⟨w.heap.size + 1 + 1 + 1, 1, none⟩) (by show w.heap.size ≤ w.heap.size + 1 + 1 + 1; omega) ((.string t'))
      have hRF := ((hR9.set 0 (.string f)).set 1 (.string t')).set 2 (.bool false)
      have hbF := ((hbb9.setCell (p := ⟨w.heap.size + 1 + 1, 0, none⟩) (by show w.heap.size ≤ w.heap.size + 1 + 1; omega) (.string f)).setCell (p := ⟨w.heap.size + 1 + 1, 1, none⟩) (by show w.heap.size ≤ w.heap.size + 1 + 1; omega) (.string t')).setCell (p := ⟨w.heap.size + 1 + 1, 2, none⟩) (by show w.heap.size ≤ w.heap.size + 1 + 1; omega) (.bool false)
      go_wp2_with fail
      refine bodyPost_ret (span_results8 hRF rfl) rfl ?_
      exact ⟨rfl, hbF⟩
  · rw [h] at hc
    simp only [Bool.and_true] at hT4
    clear hd
    simp only [h]
    go_enter Tryz.func8, Tryz.ntmps8
    go_wp2_with fail
    refine (hc _).mono ?_
    rintro _ w5 ⟨rfl, hb5⟩
    have hA5 := hA4.old hb5
    have hB5 := hB4.old hb5
    have hR5 := hR4.old hb5
    have hT5 := hT4.old hb5
    have hb05 := hb04.trans (hb5.mono hb04.size)
    clear hc hA4 hB4 hR4 hT4 hb04 hb5
    have a0 := hA5.cell 0
    have a1 := hA5.cell 1
    have a2 := hA5.cell 2
    have b0 := hB5.cell 0
    have b1 := hB5.cell 1
    have b2 := hB5.cell 2
    have r0 := hR5.cell 0
    have r1 := hR5.cell 1
    have r2 := hR5.cell 2
    have t0 := hT5.cell 0
    have t1 := hT5.cell 1
    have t2 := hT5.cell 2
    have rf0 := hR5.frozen 0
    have rf1 := hR5.frozen 1
    have rf2 := hR5.frozen 2
    have tf0 := hT5.frozen 0
    have tf1 := hT5.frozen 1
    have tf2 := hT5.frozen 2
    have hA6 := hA5.other (p := ⟨w.heap.size + 1 + 1 + 1, 1, none⟩) (by show w.heap.size ≠ w.heap.size + 1 + 1 + 1; omega) ((.string t))
    have hB6 := hB5.other (p := ⟨w.heap.size + 1 + 1 + 1, 1, none⟩) (by show w.heap.size + 1 ≠ w.heap.size + 1 + 1 + 1; omega) ((.string t))
    have hR6 := hR5.other (p := ⟨w.heap.size + 1 + 1 + 1, 1, none⟩) (by show w.heap.size + 1 + 1 ≠ w.heap.size + 1 + 1 + 1; omega) ((.string t))
    have hT6 := hT5.set 1 ((.string t))
    simp only [List.setIfInBounds_toArray, List.set_cons_zero, List.set_cons_succ] at hT6
    have hbb6 := hb05.setCell (p := ⟨w.heap.size + 1 + 1 + 1, 1, none⟩) (by show w.heap.size ≤ w.heap.size + 1 + 1 + 1; omega) ((.string t))
    have hRF := ((hR6.set 0 (.string f)).set 1 (.string t)).set 2 (.bool false)
    have hbF := ((hbb6.setCell (p := ⟨w.heap.size + 1 + 1, 0, none⟩) (by show w.heap.size ≤ w.heap.size + 1 + 1; omega) (.string f)).setCell (p := ⟨w.heap.size + 1 + 1, 1, none⟩) (by show w.heap.size ≤ w.heap.size + 1 + 1; omega) (.string t)).setCell (p := ⟨w.heap.size + 1 + 1, 2, none⟩) (by show w.heap.size ≤ w.heap.size + 1 + 1; omega) (.bool false)
    go_wp2_with fail
    refine bodyPost_ret (span_results8 hRF rfl) rfl ?_
    exact ⟨rfl, hbF⟩
  · rw [h] at hc
    simp only [Bool.and_false] at hT4
    clear hd
    simp only [h]
    go_enter Tryz.func8, Tryz.ntmps8
    go_wp2_with fail
    refine (hc _).mono ?_
    rintro _ w5 ⟨rfl, hb5⟩
    have hA5 := hA4.old hb5
    have hB5 := hB4.old hb5
    have hR5 := hR4.old hb5
    have hT5 := hT4.old hb5
    have hb05 := hb04.trans (hb5.mono hb04.size)
    clear hc hA4 hB4 hR4 hT4 hb04 hb5
    have a0 := hA5.cell 0
    have a1 := hA5.cell 1
    have a2 := hA5.cell 2
    have b0 := hB5.cell 0
    have b1 := hB5.cell 1
    have b2 := hB5.cell 2
    have r0 := hR5.cell 0
    have r1 := hR5.cell 1
    have r2 := hR5.cell 2
    have t0 := hT5.cell 0
    have t1 := hT5.cell 1
    have t2 := hT5.cell 2
    have rf0 := hR5.frozen 0
    have rf1 := hR5.frozen 1
    have rf2 := hR5.frozen 2
    have tf0 := hT5.frozen 0
    have tf1 := hT5.frozen 1
    have tf2 := hT5.frozen 2
    have hA6 := hA5.other (p := ⟨w.heap.size + 1 + 1 + 1, 1, none⟩) (by show w.heap.size ≠ w.heap.size + 1 + 1 + 1; omega) ((.string t'))
    have hB6 := hB5.other (p := ⟨w.heap.size + 1 + 1 + 1, 1, none⟩) (by show w.heap.size + 1 ≠ w.heap.size + 1 + 1 + 1; omega) ((.string t'))
    have hR6 := hR5.other (p := ⟨w.heap.size + 1 + 1 + 1, 1, none⟩) (by show w.heap.size + 1 + 1 ≠ w.heap.size + 1 + 1 + 1; omega) ((.string t'))
    have hT6 := hT5.set 1 ((.string t'))
    simp only [List.setIfInBounds_toArray, List.set_cons_zero, List.set_cons_succ] at hT6
    have hbb6 := hb05.setCell (p := ⟨w.heap.size + 1 + 1 + 1, 1, none⟩) (by show w.heap.size ≤ w.heap.size + 1 + 1 + 1; omega) ((.string t'))
    have hRF := ((hR6.set 0 (.string f)).set 1 (.string t')).set 2 (.bool false)
    have hbF := ((hbb6.setCell (p := ⟨w.heap.size + 1 + 1, 0, none⟩) (by show w.heap.size ≤ w.heap.size + 1 + 1; omega) (.string f)).setCell (p := ⟨w.heap.size + 1 + 1, 1, none⟩) (by show w.heap.size ≤ w.heap.size + 1 + 1; omega) (.string t')).setCell (p := ⟨w.heap.size + 1 + 1, 2, none⟩) (by show w.heap.size ≤ w.heap.size + 1 + 1; omega) (.bool false)
    go_wp2_with fail
    refine bodyPost_ret (span_results8 hRF rfl) rfl ?_
    exact ⟨rfl, hbF⟩
  · rw [h] at hc
    simp only [Bool.and_self] at hT4
    clear hd
    simp only [h]
    go_enter Tryz.func8, Tryz.ntmps8
    go_wp2_with fail
    refine (hc _).mono ?_
    rintro _ w5 ⟨rfl, hb5⟩
    have hA5 := hA4.old hb5
    have hB5 := hB4.old hb5
    have hR5 := hR4.old hb5
    have hT5 := hT4.old hb5
    have hb05 := hb04.trans (hb5.mono hb04.size)
    clear hc hA4 hB4 hR4 hT4 hb04 hb5
    have a0 := hA5.cell 0
    have a1 := hA5.cell 1
    have a2 := hA5.cell 2
    have b0 := hB5.cell 0
    have b1 := hB5.cell 1
    have b2 := hB5.cell 2
    have r0 := hR5.cell 0
    have r1 := hR5.cell 1
    have r2 := hR5.cell 2
    have t0 := hT5.cell 0
    have t1 := hT5.cell 1
    have t2 := hT5.cell 2
    have rf0 := hR5.frozen 0
    have rf1 := hR5.frozen 1
    have rf2 := hR5.frozen 2
    have tf0 := hT5.frozen 0
    have tf1 := hT5.frozen 1
    have tf2 := hT5.frozen 2
    have hRF := ((hR5.set 0 (.string f)).set 1 (.string ⟨#[]⟩)).set 2 (.bool true)
    have hbF := ((hb05.setCell (p := ⟨w.heap.size + 1 + 1, 0, none⟩) (by show w.heap.size ≤ w.heap.size + 1 + 1; omega) (.string f)).setCell (p := ⟨w.heap.size + 1 + 1, 1, none⟩) (by show w.heap.size ≤ w.heap.size + 1 + 1; omega) (.string ⟨#[]⟩)).setCell (p := ⟨w.heap.size + 1 + 1, 2, none⟩) (by show w.heap.size ≤ w.heap.size + 1 + 1; omega) (.bool true)
    go_wp2_with fail
    refine bodyPost_ret (span_results8 hRF rfl) rfl ?_
    exact ⟨rfl, hbF⟩
  · rw [h] at hc
    simp only [Bool.and_self] at hT4
    rcases ordB_three t t' with g | g | g
    · rw [g] at hd
      simp only [h, g]
      go_enter Tryz.func8, Tryz.ntmps8
      go_wp2_with fail
      refine (hc _).mono ?_
      rintro _ w5 ⟨rfl, hb5⟩
      have hA5 := hA4.old hb5
      have hB5 := hB4.old hb5
      have hR5 := hR4.old hb5
      have hT5 := hT4.old hb5
      have hb05 := hb04.trans (hb5.mono hb04.size)
      clear hc hA4 hB4 hR4 hT4 hb04 hb5
      have a0 := hA5.cell 0
      have a1 := hA5.cell 1
      have a2 := hA5.cell 2
      have b0 := hB5.cell 0
      have b1 := hB5.cell 1
      have b2 := hB5.cell 2
      have r0 := hR5.cell 0
      have r1 := hR5.cell 1
      have r2 := hR5.cell 2
      have t0 := hT5.cell 0
      have t1 := hT5.cell 1
      have t2 := hT5.cell 2
      have rf0 := hR5.frozen 0
      have rf1 := hR5.frozen 1
      have rf2 := hR5.frozen 2
      have tf0 := hT5.frozen 0
      have tf1 := hT5.frozen 1
      have tf2 := hT5.frozen 2
      have hA6 := hA5.other (p := ⟨w.heap.size + 1 + 1 + 1, 0, none⟩) (by show w.heap.size ≠ w.heap.size + 1 + 1 + 1; omega) ((.string f'))
      have hB6 := hB5.other (p := ⟨w.heap.size + 1 + 1 + 1, 0, none⟩) (by show w.heap.size + 1 ≠ w.heap.size + 1 + 1 + 1; omega) ((.string f'))
      have hR6 := hR5.other (p := ⟨w.heap.size + 1 + 1 + 1, 0, none⟩) (by show w.heap.size + 1 + 1 ≠ w.heap.size + 1 + 1 + 1; omega) ((.string f'))
      have hT6 := hT5.set 0 ((.string f'))
      simp only [List.setIfInBounds_toArray, List.set_cons_zero] at hT6
      have hbb6 := hb05.setCell (p := ⟨w.heap.size + 1 + 1 + 1, 0, none⟩) (by show w.heap.size ≤ w.heap.size + 1 + 1 + 1; omega) ((.string f'))
      go_wp2_with fail
      refine (hd _).mono ?_
      rintro _ w8 ⟨rfl, hb8⟩
      have hA8 := hA6.old hb8
      have hB8 := hB6.old hb8
      have hR8 := hR6.old hb8
      have hT8 := hT6.old hb8
      have hb08 := hbb6.trans (hb8.mono hbb6.size)
      clear hd hb8 hA6 hB6 hR6 hT6 hbb6 a0 a1 a2 b0 b1 b2 r0 r1 r2 t0 t1 t2 rf0 rf1 rf2 tf0 tf1 tf2 hA5 hB5 hR5 hT5 hb05
      have a0 := hA8.cell 0
      have a1 := hA8.cell 1
      have a2 := hA8.cell 2
      have b0 := hB8.cell 0
      have b1 := hB8.cell 1
      have b2 := hB8.cell 2
      have r0 := hR8.cell 0
      have r1 := hR8.cell 1
      have r2 := hR8.cell 2
      have t0 := hT8.cell 0
      have t1 := hT8.cell 1
      have t2 := hT8.cell 2
      have rf0 := hR8.frozen 0
      have rf1 := hR8.frozen 1
      have rf2 := hR8.frozen 2
      have tf0 := hT8.frozen 0
      have tf1 := hT8.frozen 1
      have tf2 := hT8.frozen 2
      have hA9 := hA8.other (p := ⟨w.heap.size + 1 + 1 + 1, 1, none⟩) (by show w.heap.size ≠ w.heap.size + 1 + 1 + 1; omega) ((.string t))
      have hB9 := hB8.other (p := ⟨w.heap.size + 1 + 1 + 1, 1, none⟩) (by show w.heap.size + 1 ≠ w.heap.size + 1 + 1 + 1; omega) ((.string t))
      have hR9 := hR8.other (p := ⟨w.heap.size + 1 + 1 + 1, 1, none⟩) (by show w.heap.size + 1 + 1 ≠ w.heap.size + 1 + 1 + 1; omega) ((.string t))
      have hT9 := hT8.set 1 ((.string t))
      simp only [List.setIfInBounds_toArray, List.set_cons_zero, List.set_cons_succ] at hT9
      have hbb9 := hb08.setCell (p := ⟨w.heap.size + 1 + 1 + 1, 1, none⟩) (by show w.heap.size ≤ w.heap.size + 1 + 1 + 1; omega) ((.string t))
      have hRF := ((hR9.set 0 (.string f')).set 1 (.string t)).set 2 (.bool false)
      have hbF := ((hbb9.setCell (p := ⟨w.heap.size + 1 + 1, 0, none⟩) (by show w.heap.size ≤ w.heap.size + 1 + 1; omega) (.string f')).setCell (p := ⟨w.heap.size + 1 + 1, 1, none⟩) (by show w.heap.size ≤ w.heap.size + 1 + 1; omega) (.string t)).setCell (p := ⟨w.heap.size + 1 + 1, 2, none⟩) (by show w.heap.size ≤ w.heap.size + 1 + 1; omega) (.bool false)
      go_wp2_with fail
      refine bodyPost_ret (span_results8 hRF rfl) rfl ?_
      exact ⟨rfl, hbF⟩
    · rw [g] at hd
      simp only [h, g]
      go_enter Tryz.func8, Tryz.ntmps8
      go_wp2_with fail
      refine (hc _).mono ?_
      rintro _ w5 ⟨rfl, hb5⟩
      have hA5 := hA4.old hb5
      have hB5 := hB4.old hb5
      have hR5 := hR4.old hb5
      have hT5 := hT4.old hb5
      have hb05 := hb04.trans (hb5.mono hb04.size)
      clear hc hA4 hB4 hR4 hT4 hb04 hb5
      have a0 := hA5.cell 0
      have a1 := hA5.cell 1
      have a2 := hA5.cell 2
      have b0 := hB5.cell 0
      have b1 := hB5.cell 1
      have b2 := hB5.cell 2
      have r0 := hR5.cell 0
      have r1 := hR5.cell 1
      have r2 := hR5.cell 2
      have t0 := hT5.cell 0
      have t1 := hT5.cell 1
      have t2 := hT5.cell 2
      have rf0 := hR5.frozen 0
      have rf1 := hR5.frozen 1
      have rf2 := hR5.frozen 2
      have tf0 := hT5.frozen 0
      have tf1 := hT5.frozen 1
      have tf2 := hT5.frozen 2
      have hA6 := hA5.other (p := ⟨w.heap.size + 1 + 1 + 1, 0, none⟩) (by show w.heap.size ≠ w.heap.size + 1 + 1 + 1; omega) ((.string f'))
      have hB6 := hB5.other (p := ⟨w.heap.size + 1 + 1 + 1, 0, none⟩) (by show w.heap.size + 1 ≠ w.heap.size + 1 + 1 + 1; omega) ((.string f'))
      have hR6 := hR5.other (p := ⟨w.heap.size + 1 + 1 + 1, 0, none⟩) (by show w.heap.size + 1 + 1 ≠ w.heap.size + 1 + 1 + 1; omega) ((.string f'))
      have hT6 := hT5.set 0 ((.string f'))
      simp only [List.setIfInBounds_toArray, List.set_cons_zero] at hT6
      have hbb6 := hb05.setCell (p := ⟨w.heap.size + 1 + 1 + 1, 0, none⟩) (by show w.heap.size ≤ w.heap.size + 1 + 1 + 1; omega) ((.string f'))
      go_wp2_with fail
      refine (hd _).mono ?_
      rintro _ w8 ⟨rfl, hb8⟩
      have hA8 := hA6.old hb8
      have hB8 := hB6.old hb8
      have hR8 := hR6.old hb8
      have hT8 := hT6.old hb8
      have hb08 := hbb6.trans (hb8.mono hbb6.size)
      clear hd hb8 hA6 hB6 hR6 hT6 hbb6 a0 a1 a2 b0 b1 b2 r0 r1 r2 t0 t1 t2 rf0 rf1 rf2 tf0 tf1 tf2 hA5 hB5 hR5 hT5 hb05
      have a0 := hA8.cell 0
      have a1 := hA8.cell 1
      have a2 := hA8.cell 2
      have b0 := hB8.cell 0
      have b1 := hB8.cell 1
      have b2 := hB8.cell 2
      have r0 := hR8.cell 0
      have r1 := hR8.cell 1
      have r2 := hR8.cell 2
      have t0 := hT8.cell 0
      have t1 := hT8.cell 1
      have t2 := hT8.cell 2
      have rf0 := hR8.frozen 0
      have rf1 := hR8.frozen 1
      have rf2 := hR8.frozen 2
      have tf0 := hT8.frozen 0
      have tf1 := hT8.frozen 1
      have tf2 := hT8.frozen 2
      have hA9 := hA8.other (p := ⟨w.heap.size + 1 + 1 + 1, 1, none⟩) (by show w.heap.size ≠ w.heap.size + 1 + 1 + 1; omega) ((.string t))
      have hB9 := hB8.other (p := ⟨w.heap.size + 1 + 1 + 1, 1, none⟩) (by show w.heap.size + 1 ≠ w.heap.size + 1 + 1 + 1; omega) ((.string t))
      have hR9 := hR8.other (p := ⟨w.heap.size + 1 + 1 + 1, 1, none⟩) (by show w.heap.size + 1 + 1 ≠ w.heap.size + 1 + 1 + 1; omega) ((.string t))
      have hT9 := hT8.set 1 ((.string t))
      simp only [List.setIfInBounds_toArray, List.set_cons_zero, List.set_cons_succ] at hT9
      have hbb9 := hb08.setCell (p := ⟨w.heap.size + 1 + 1 + 1, 1, none⟩) (by show w.heap.size ≤ w.heap.size + 1 + 1 + 1; omega) ((.string t))
      have hRF := ((hR9.set 0 (.string f')).set 1 (.string t)).set 2 (.bool false)
      have hbF := ((hbb9.setCell (p := ⟨w.heap.size + 1 + 1, 0, none⟩) (by show w.heap.size ≤ w.heap.size + 1 + 1; omega) (.string f')).setCell (p := ⟨w.heap.size + 1 + 1, 1, none⟩) (by show w.heap.size ≤ w.heap.size + 1 + 1; omega) (.string t)).setCell (p := ⟨w.heap.size + 1 + 1, 2, none⟩) (by show w.heap.size ≤ w.heap.size + 1 + 1; omega) (.bool false)
      go_wp2_with fail
      refine bodyPost_ret (span_results8 hRF rfl) rfl ?_
      exact ⟨rfl, hbF⟩
    · rw [g] at hd
      simp only [h, g]
      go_enter Tryz.func8, Tryz.ntmps8
      go_wp2_with fail
      refine (hc _).mono ?_
      rintro _ w5 ⟨rfl, hb5⟩
      have hA5 := hA4.old hb5
      have hB5 := hB4.old hb5
      have hR5 := hR4.old hb5
      have hT5 := hT4.old hb5
      have hb05 := hb04.trans (hb5.mono hb04.size)
      clear hc hA4 hB4 hR4 hT4 hb04 hb5
      have a0 := hA5.cell 0
      have a1 := hA5.cell 1
      have a2 := hA5.cell 2
      have b0 := hB5.cell 0
      have b1 := hB5.cell 1
      have b2 := hB5.cell 2
      have r0 := hR5.cell 0
      have r1 := hR5.cell 1
      have r2 := hR5.cell 2
      have t0 := hT5.cell 0
      have t1 := hT5.cell 1
      have t2 := hT5.cell 2
      have rf0 := hR5.frozen 0
      have rf1 := hR5.frozen 1
      have rf2 := hR5.frozen 2
      have tf0 := hT5.frozen 0
      have tf1 := hT5.frozen 1
      have tf2 := hT5.frozen 2
      have hA6 := hA5.other (p := ⟨w.heap.size + 1 + 1 + 1, 0, none⟩) (by show w.heap.size ≠ w.heap.size + 1 + 1 + 1; omega) ((.string f'))
      have hB6 := hB5.other (p := ⟨w.heap.size + 1 + 1 + 1, 0, none⟩) (by show w.heap.size + 1 ≠ w.heap.size + 1 + 1 + 1; omega) ((.string f'))
      have hR6 := hR5.other (p := ⟨w.heap.size + 1 + 1 + 1, 0, none⟩) (by show w.heap.size + 1 + 1 ≠ w.heap.size + 1 + 1 + 1; omega) ((.string f'))
      have hT6 := hT5.set 0 ((.string f'))
      simp only [List.setIfInBounds_toArray, List.set_cons_zero] at hT6
      have hbb6 := hb05.setCell (p := ⟨w.heap.size + 1 + 1 + 1, 0, none⟩) (by show w.heap.size ≤ w.heap.size + 1 + 1 + 1; omega) ((.string f'))
      go_wp2_with fail
      refine (hd _).mono ?_
      rintro _ w8 ⟨rfl, hb8⟩
      have hA8 := hA6.old hb8
      have hB8 := hB6.old hb8
      have hR8 := hR6.old hb8
      have hT8 := hT6.old hb8
      have hb08 := hbb6.trans (hb8.mono hbb6.size)
      clear hd hb8 hA6 hB6 hR6 hT6 hbb6 a0 a1 a2 b0 b1 b2 r0 r1 r2 t0 t1 t2 rf0 rf1 rf2 tf0 tf1 tf2 hA5 hB5 hR5 hT5 hb05
      have a0 := hA8.cell 0
      have a1 := hA8.cell 1
      have a2 := hA8.cell 2
      have b0 := hB8.cell 0
      have b1 := hB8.cell 1
      have b2 := hB8.cell 2
      have r0 := hR8.cell 0
      have r1 := hR8.cell 1
      have r2 := hR8.cell 2
      have t0 := hT8.cell 0
      have t1 := hT8.cell 1
      have t2 := hT8.cell 2
      have rf0 := hR8.frozen 0
      have rf1 := hR8.frozen 1
      have rf2 := hR8.frozen 2
      have tf0 := hT8.frozen 0
      have tf1 := hT8.frozen 1
      have tf2 := hT8.frozen 2
      have hA9 := hA8.other (p := ⟨w.heap.size + 1 + 1 + 1, 1, none⟩) (by show w.heap.size ≠ w.heap.size + 1 + 1 + 1; omega) ((.string t'))
      have hB9 := hB8.other (p := ⟨w.heap.size + 1 + 1 + 1, 1, none⟩) (by show w.heap.size + 1 ≠ w.heap.size + 1 + 1 + 1; omega) ((.string t'))
      have hR9 := hR8.other (p := ⟨w.heap.size + 1 + 1 + 1, 1, none⟩) (by show w.heap.size + 1 + 1 ≠ w.heap.size + 1 + 1 + 1; omega) ((.string t'))
      have hT9 := hT8.set 1 ((.string t'))
      simp only [List.setIfInBounds_toArray, List.set_cons_zero, List.set_cons_succ] at hT9
      have hbb9 := hb08.setCell (p := ⟨w.heap.size + 1 + 1 + 1, 1, none⟩) (by show w.heap.size ≤ w.heap.size + 1 + 1 + 1; omega) ((.string t'))
      have hRF := ((hR9.set 0 (.string f')).set 1 (.string t')).set 2 (.bool false)
      have hbF := ((hbb9.setCell (p := ⟨w.heap.size + 1 + 1, 0, none⟩) (by show w.heap.size ≤ w.heap.size + 1 + 1; omega) (.string f')).setCell (p := ⟨w.heap.size + 1 + 1, 1, none⟩) (by show w.heap.size ≤ w.heap.size + 1 + 1; omega) (.string t')).setCell (p := ⟨w.heap.size + 1 + 1, 2, none⟩) (by show w.heap.size ≤ w.heap.size + 1 + 1; omega) (.bool false)
      go_wp2_with fail
      refine bodyPost_ret (span_results8 hRF rfl) rfl ?_
      exact ⟨rfl, hbF⟩
  · rw [h] at hc
    simp only [Bool.and_true] at hT4
    clear hd
    simp only [h]
    go_enter Tryz.func8, Tryz.ntmps8
    go_wp2_with fail
    refine (hc _).mono ?_
    rintro _ w5 ⟨rfl, hb5⟩
    have hA5 := hA4.old hb5
    have hB5 := hB4.old hb5
    have hR5 := hR4.old hb5
    have hT5 := hT4.old hb5
    have hb05 := hb04.trans (hb5.mono hb04.size)
    clear hc hA4 hB4 hR4 hT4 hb04 hb5
    have a0 := hA5.cell 0
    have a1 := hA5.cell 1
    have a2 := hA5.cell 2
    have b0 := hB5.cell 0
    have b1 := hB5.cell 1
    have b2 := hB5.cell 2
    have r0 := hR5.cell 0
    have r1 := hR5.cell 1
    have r2 := hR5.cell 2
    have t0 := hT5.cell 0
    have t1 := hT5.cell 1
    have t2 := hT5.cell 2
    have rf0 := hR5.frozen 0
    have rf1 := hR5.frozen 1
    have rf2 := hR5.frozen 2
    have tf0 := hT5.frozen 0
    have tf1 := hT5.frozen 1
    have tf2 := hT5.frozen 2
    have hA6 := hA5.other (p := ⟨w.heap.size + 1 + 1 + 1, 0, none⟩) (by show w.heap.size ≠ w.heap.size + 1 + 1 + 1; omega) ((.string f'))
    have hB6 := hB5.other (p := ⟨w.heap.size + 1 + 1 + 1, 0, none⟩) (by show w.heap.size + 1 ≠ w.heap.size + 1 + 1 + 1; omega) ((.string f'))
    have hR6 := hR5.other (p := ⟨w.heap.size + 1 + 1 + 1, 0, none⟩) (by show w.heap.size + 1 + 1 ≠ w.heap.size + 1 + 1 + 1; omega) ((.string f'))
    have hT6 := hT5.set 0 ((.string f'))
    simp only [List.setIfInBounds_toArray, List.set_cons_zero] at hT6
    have hbb6 := hb05.setCell (p := ⟨w.heap.size + 1 + 1 + 1, 0, none⟩) (by show w.heap.size ≤ w.heap.size + 1 + 1 + 1; omega) ((.string f'))
    have hA7 := hA6.other (p := ⟨w.heap.size + 1 + 1 + 1, 1, none⟩) (by show w.heap.size ≠ w.heap.size + 1 + 1 + 1; omega) ((.string t))
    have hB7 := hB6.other (p := ⟨w.heap.size + 1 + 1 + 1, 1, none⟩) (by show w.heap.size + 1 ≠ w.heap.size + 1 + 1 + 1; omega) ((.string t))
    have hR7 := hR6.other (p := ⟨w.heap.size + 1 + 1 + 1, 1, none⟩) (by show w.heap.size + 1 + 1 ≠ w.heap.size + 1 + 1 + 1; omega) ((.string t))
    have hT7 := hT6.set 1 ((.string t))
    simp only [List.setIfInBounds_toArray, List.set_cons_zero, List.set_cons_succ] at hT7
    have hbb7 := hbb6.setCell (p := ⟨w.heap.size + 1 + 1 + 1, 1, none⟩) (by show w.heap.size ≤ w.heap.size + 1 + 1 + 1; omega) ((.string t))
    have hRF := ((hR7.set 0 (.string f')).set 1 (.string t)).set 2 (.bool false)
    have hbF := ((hbb7.setCell (p := ⟨w.heap.size + 1 + 1, 0, none⟩) (by show w.heap.size ≤ w.heap.size + 1 + 1; omega) (.string f')).setCell (p := ⟨w.heap.size + 1 + 1, 1, none⟩) (by show w.heap.size ≤ w.heap.size + 1 + 1; omega) (.string t)).setCell (p := ⟨w.heap.size + 1 + 1, 2, none⟩) (by show w.heap.size ≤ w.heap.size + 1 + 1; omega) (.bool false)
    go_wp2_with fail
    refine bodyPost_ret (span_results8 hRF rfl) rfl ?_
    exact ⟨rfl, hbF⟩
  · rw [h] at hc
    simp only [Bool.and_false] at hT4
    clear hd
    simp only [h]
    go_enter Tryz.func8, Tryz.ntmps8
    go_wp2_with fail
    refine (hc _).mono ?_
    rintro _ w5 ⟨rfl, hb5⟩
    have hA5 := hA4.old hb5
    have hB5 := hB4.old hb5
    have hR5 := hR4.old hb5
    have hT5 := hT4.old hb5
    have hb05 := hb04.trans (hb5.mono hb04.size)
    clear hc hA4 hB4 hR4 hT4 hb04 hb5
    have a0 := hA5.cell 0
    have a1 := hA5.cell 1
    have a2 := hA5.cell 2
    have b0 := hB5.cell 0
    have b1 := hB5.cell 1
    have b2 := hB5.cell 2
    have r0 := hR5.cell 0
    have r1 := hR5.cell 1
    have r2 := hR5.cell 2
    have t0 := hT5.cell 0
    have t1 := hT5.cell 1
    have t2 := hT5.cell 2
    have rf0 := hR5.frozen 0
    have rf1 := hR5.frozen 1
    have rf2 := hR5.frozen 2
    have tf0 := hT5.frozen 0
    have tf1 := hT5.frozen 1
    have tf2 := hT5.frozen 2
    have hA6 := hA5.other (p := ⟨w.heap.size + 1 + 1 + 1, 0, none⟩) (by show w.heap.size ≠ w.heap.size + 1 + 1 + 1; omega) ((.string f'))
    have hB6 := hB5.other (p := ⟨w.heap.size + 1 + 1 + 1, 0, none⟩) (by show w.heap.size + 1 ≠ w.heap.size + 1 + 1 + 1; omega) ((.string f'))
    have hR6 := hR5.other (p := ⟨w.heap.size + 1 + 1 + 1, 0, none⟩) (by show w.heap.size + 1 + 1 ≠ w.heap.size + 1 + 1 + 1; omega) ((.string f'))
    have hT6 := hT5.set 0 ((.string f'))
    simp only [List.setIfInBounds_toArray, List.set_cons_zero] at hT6
    have hbb6 := hb05.setCell (p := ⟨w.heap.size + 1 + 1 + 1, 0, none⟩) (by show w.heap.size ≤ w.heap.size + 1 + 1 + 1; omega) ((.string f'))
    have hA7 := hA6.other (p := ⟨w.heap.size + 1 + 1 + 1, 1, none⟩) (by show w.heap.size ≠ w.heap.size + 1 + 1 + 1; omega) ((.string t'))
    have hB7 := hB6.other (p := ⟨w.heap.size + 1 + 1 + 1, 1, none⟩) (by show w.heap.size + 1 ≠ w.heap.size + 1 + 1 + 1; omega) ((.string t'))
    have hR7 := hR6.other (p := ⟨w.heap.size + 1 + 1 + 1, 1, none⟩) (by show w.heap.size + 1 + 1 ≠ w.heap.size + 1 + 1 + 1; omega) ((.string t'))
    have hT7 := hT6.set 1 ((.string t'))
    simp only [List.setIfInBounds_toArray, List.set_cons_zero, List.set_cons_succ] at hT7
    have hbb7 := hbb6.setCell (p := ⟨w.heap.size + 1 + 1 + 1, 1, none⟩) (by show w.heap.size ≤ w.heap.size + 1 + 1 + 1; omega) ((.string t'))
    have hRF := ((hR7.set 0 (.string f')).set 1 (.string t')).set 2 (.bool false)
    have hbF := ((hbb7.setCell (p := ⟨w.heap.size + 1 + 1, 0, none⟩) (by show w.heap.size ≤ w.heap.size + 1 + 1; omega) (.string f')).setCell (p := ⟨w.heap.size + 1 + 1, 1, none⟩) (by show w.heap.size ≤ w.heap.size + 1 + 1; omega) (.string t')).setCell (p := ⟨w.heap.size + 1 + 1, 2, none⟩) (by show w.heap.size ≤ w.heap.size + 1 + 1; omega) (.bool false)
    go_wp2_with fail
    refine bodyPost_ret (span_results8 hRF rfl) rfl ?_
    exact ⟨rfl, hbF⟩
  · rw [h] at hc
    simp only [Bool.and_self] at hT4
    clear hd
    simp only [h]
    go_enter Tryz.func8, Tryz.ntmps8
    go_wp2_with fail
    refine (hc _).mono ?_
    rintro _ w5 ⟨rfl, hb5⟩
    have hA5 := hA4.old hb5
    have hB5 := hB4.old hb5
    have hR5 := hR4.old hb5
    have hT5 := hT4.old hb5
    have hb05 := hb04.trans (hb5.mono hb04.size)
    clear hc hA4 hB4 hR4 hT4 hb04 hb5
    have a0 := hA5.cell 0
    have a1 := hA5.cell 1
    have a2 := hA5.cell 2
    have b0 := hB5.cell 0
    have b1 := hB5.cell 1
    have b2 := hB5.cell 2
    have r0 := hR5.cell 0
    have r1 := hR5.cell 1
    have r2 := hR5.cell 2
    have t0 := hT5.cell 0
    have t1 := hT5.cell 1
    have t2 := hT5.cell 2
    have rf0 := hR5.frozen 0
    have rf1 := hR5.frozen 1
    have rf2 := hR5.frozen 2
    have tf0 := hT5.frozen 0
    have tf1 := hT5.frozen 1
    have tf2 := hT5.frozen 2
    have hA6 := hA5.other (p := ⟨w.heap.size + 1 + 1 + 1, 0, none⟩) (by show w.heap.size ≠ w.heap.size + 1 + 1 + 1; omega) ((.string f'))
    have hB6 := hB5.other (p := ⟨w.heap.size + 1 + 1 + 1, 0, none⟩) (by show w.heap.size + 1 ≠ w.heap.size + 1 + 1 + 1; omega) ((.string f'))
    have hR6 := hR5.other (p := ⟨w.heap.size + 1 + 1 + 1, 0, none⟩) (by show w.heap.size + 1 + 1 ≠ w.heap.size + 1 + 1 + 1; omega) ((.string f'))
    have hT6 := hT5.set 0 ((.string f'))
    simp only [List.setIfInBounds_toArray, List.set_cons_zero] at hT6
    have hbb6 := hb05.setCell (p := ⟨w.heap.size + 1 + 1 + 1, 0, none⟩) (by show w.heap.size ≤ w.heap.size + 1 + 1 + 1; omega) ((.string f'))
    have hRF := ((hR6.set 0 (.string f')).set 1 (.string ⟨#[]⟩)).set 2 (.bool true)
    have hbF := ((hbb6.setCell (p := ⟨w.heap.size + 1 + 1, 0, none⟩) (by show w.heap.size ≤ w.heap.size + 1 + 1; omega) (.string f')).setCell (p := ⟨w.heap.size + 1 + 1, 1, none⟩) (by show w.heap.size ≤ w.heap.size + 1 + 1; omega) (.string ⟨#[]⟩)).setCell (p := ⟨w.heap.size + 1 + 1, 2, none⟩) (by show w.heap.size ≤ w.heap.size + 1 + 1; omega) (.bool true)
    go_wp2_with fail
    refine bodyPost_ret (span_results8 hRF rfl) rfl ?_
    exact ⟨rfl, hbF⟩

end Go.Proofs.YtgefbgpfjbbeaaaGreatDoor
