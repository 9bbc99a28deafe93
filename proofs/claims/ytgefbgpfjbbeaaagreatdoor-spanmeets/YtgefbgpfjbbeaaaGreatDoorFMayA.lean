/- What schema's maySay does at any field (a contract; nothing is claimed here). -/
import Derived.Test.YtgefbgpfjbbeaaaGreatDoorFMay1
import Derived.Test.YtgefbgpfjbbeaaaGreatDoorFMay2
import Derived.Test.YtgefbgpfjbbeaaaGreatDoorFMay3
import Derived.Test.YtgefbgpfjbbeaaaGreatDoorFMay4
import Derived.Test.YtgefbgpfjbbeaaaGreatDoorFMay5
import Derived.Test.YtgefbgpfjbbeaaaGreatDoorFMay6
import Derived.Test.YtgefbgpfjbbeaaaGreatDoorFMay7
namespace Go.Proofs.YtgefbgpfjbbeaaaGreatDoor
open Go.RowKit Go.Vf

theorem n0 (n : Nat) : (n == 0) = decide (n = 0) := by cases n <;> rfl
set_option maxHeartbeats 1000000 in
theorem maySay_any (o : Own) (a : Option Addr) (n c : Nat) (hn : n ≤ 281474976710656) (hl : o.lm.size ≤ 17179869184) (hh : o.hm.size ≤ 17179869184) (w : World) :
    Calls Tryz.prog 117 #[fV o a n c] w fun e w' => e = .returned (.bool (maySayO (bndQ o) o n)) ∧ Below w.heap.size w w' := by
  have hb0 := (Below.refl w.heap.size w).alloc (Nat.le_refl _) (.cells (cellsF o a n c) 50)
  by_cases h1 : o.kind < 1
  · have hR : maySayO (bndQ o) o n = false := by simp [maySayO]; omega
    have t1 : decide (o.kind < 1) = true := by simpa using h1
    rw [hR]
    unfold fV
    simp only [cellsF] at hb0
    clear hR h1
    go_enter Tryz.func117, Tryz.ntmps117
    go_wp2_with fail
    go_ret
    exact ⟨rfl, hb0⟩
  have t1 : decide (o.kind < 1) = false := by simpa using h1
  by_cases h7 : 7 < o.kind
  · have hR : maySayO (bndQ o) o n = false := by simp [maySayO]; omega
    have t2 : decide (7 < o.kind) = true := by simpa using h7
    rw [hR]
    unfold fV
    simp only [cellsF] at hb0
    clear hR h1 h7
    go_enter Tryz.func117, Tryz.ntmps117
    go_wp2_with fail
    go_ret
    exact ⟨rfl, hb0⟩
  have t2 : decide (7 < o.kind) = false := by simpa using h7
  by_cases h2 : 2 < o.nulls
  · have hR : maySayO (bndQ o) o n = false := by
      have : decide (o.nulls ≤ 2) = false := by simpa using h2
      simp [maySayO, this]
    have t3 : decide (2 < o.nulls) = true := by simpa using h2
    rw [hR]
    unfold fV
    simp only [cellsF] at hb0
    clear hR h1 h7 h2
    go_enter Tryz.func117, Tryz.ntmps117
    go_wp2_with fail
    go_ret
    exact ⟨rfl, hb0⟩
  obtain ⟨name, kind, down, nulls, bnd, ln, lm, hn', hm, most, str, shf, bck⟩ := o
  simp only at h1 h7 h2 hl hh
  clear t1 t2 hb0
  have hnu : nulls ≤ 2 := by omega
  have hk : kind = 1 ∨ kind = 2 ∨ kind = 3 ∨ kind = 4 ∨ kind = 5 ∨ kind = 6 ∨ kind = 7 := by omega
  rcases hk with rfl | rfl | rfl | rfl | rfl | rfl | rfl
  · refine (maySay_1 name down nulls bnd ln lm hn' hm most str shf bck a n c hn hl hh hnu w).mono ?_
    rintro _ w' ⟨rfl, hb⟩
    refine ⟨?_, hb⟩
    congr 2
    simp [maySayO, saysN, hnu, Bool.and_assoc]
  · refine (maySay_2 name down nulls bnd ln lm hn' hm most str shf bck a n c hn hl hh hnu w).mono ?_
    rintro _ w' ⟨rfl, hb⟩
    refine ⟨?_, hb⟩
    congr 2
    have hes : ((⟨#[]⟩ : ByteArray).size == 0) = true := rfl
    simp [maySayO, saysN, bndR, hnu, Bool.and_assoc, hes]
  · refine (maySay_3 name down nulls bnd ln lm hn' hm most str shf bck a n c hn hl hh hnu w).mono ?_
    rintro _ w' ⟨rfl, hb⟩
    refine ⟨?_, hb⟩
    congr 2
    simp only [maySayO, saysN]
    cases decide (0 ≤ most) <;> cases decide (most ≤ 65536) <;> simp [hnu, Bool.and_assoc]
  · refine (maySay_4 name down nulls bnd ln lm hn' hm most str shf bck a n c hn hl hh hnu w).mono ?_
    rintro _ w' ⟨rfl, hb⟩
    refine ⟨?_, hb⟩
    congr 2
    simp [maySayO, saysN, hnu, Bool.and_assoc]
  · refine (maySay_5 name down nulls bnd ln lm hn' hm most str shf bck a n c hn hl hh hnu w).mono ?_
    rintro _ w' ⟨rfl, hb⟩
    refine ⟨?_, hb⟩
    congr 2
    simp only [maySayO, saysN]
    cases decide (0 ≤ most) <;> cases decide (most ≤ 65536) <;> simp [hnu, Bool.and_assoc]
  · refine (maySay_6 name down nulls bnd ln lm hn' hm most str shf bck a n c hn hl hh hnu w).mono ?_
    rintro _ w' ⟨rfl, hb⟩
    refine ⟨?_, hb⟩
    congr 2
    simp only [maySayO, saysN, colOk]
    cases decide (1 ≤ str) <;> cases decide (str ≤ 4) <;> cases decide (str < 4) <;> cases shf <;> simp [hnu, Bool.and_assoc]
  · refine (maySay_7 name down nulls bnd ln lm hn' hm most str shf bck a n c hn hl hh hnu w).mono ?_
    rintro _ w' ⟨rfl, hb⟩
    refine ⟨?_, hb⟩
    congr 2
    simp [maySayO, saysN, hnu, Bool.and_assoc]

end Go.Proofs.YtgefbgpfjbbeaaaGreatDoor
