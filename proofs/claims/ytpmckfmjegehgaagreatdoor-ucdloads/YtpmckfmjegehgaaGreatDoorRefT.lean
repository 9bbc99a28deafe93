/- What dovetailref04.Data's Mark and Class do (contracts; nothing is claimed here). -/
import Derived.Test.YtpmckfmjegehgaaGreatDoorRefS
namespace Go.Proofs.YtpmckfmjegehgaaGreatDoor
open Go.RowKit Go.Vf Go.Maps

def pmAt (l : List PM) (p : Int) : Option PM := l.find? (fun m => m.point == p)
def clsP (l : List PM) (p : Int) : Int := ((pmAt l p).map PM.cls).getD 0
def partsP (l : List PM) (p : Int) : List Int := ((pmAt l p).map PM.parts).getD []
theorem pmAt_at {l : List PM} (h : (l.map PM.point).Pairwise (· < ·)) {k : Nat} (hk : k < l.length) {p : Int} (hp : (l[k]).point = p) : pmAt l p = some l[k] := by
  unfold pmAt
  rw [List.find?_eq_some_iff_getElem]
  refine ⟨by simpa using hp, k, hk, rfl, fun j hj => ?_⟩
  have := rise_at h (by omega) hk hj
  simp
  omega
theorem pmAt_no {l : List PM} {p : Int} (h : ∀ i (h : i < l.length), (l[i]).point ≠ p) : pmAt l p = none := by
  unfold pmAt
  rw [List.find?_eq_none]
  intro x hx
  obtain ⟨i, hi, rfl⟩ := List.mem_iff_getElem.1 hx
  simpa using h i hi

theorem mark_results {tmps : Array Value} {w : World} {h : Nat} {x y z : Value} (hb : Blk w h 36 #[x, y, z]) (t2 : tmps[4]?.getD undef = .pointer (some ⟨h, 0, none⟩)) :
    (results Tryz.f55 tmps).run Tryz.prog w = .ok (.agg #[x, y, z]) w := by
  have c0 : w.cell? ⟨h, 0, none⟩ = some x := hb.cell 0
  have c1 : w.cell? ⟨h, 1, none⟩ = some y := hb.cell 1
  have c2 : w.cell? ⟨h, 2, none⟩ = some z := hb.cell 2
  simp [results, Tryz.results55, go_sem, t2, c0, c1, c2]

def RMarkPost (l : List PM) (p : Int) (n₀ : Nat) (w : World) (e : Ending) (w' : World) : Prop := Below w.heap.size w w' ∧ ∃ pa pk pc, e = .returned (.agg #[.int .i64 p, .int .i64 (clsP l p), .slice pa pk pc]) ∧ Ints n₀ w' (.slice pa pk pc) (partsP l p)

set_option maxHeartbeats 4000000 in
set_option maxRecDepth 20000 in
theorem refMark_any (l : List PM) (hrise : (l.map PM.point).Pairwise (· < ·)) (hll : l.length ≤ 1048576) (v : Value) (p : Int) (n₀ : Nat) (w : World) (hn₀ : n₀ ≤ w.heap.size) (hin : MIn n₀ w v l) :
    Calls Tryz.prog 55 #[.agg #[v], .int .i64 p] w fun e w' => RMarkPost l p n₀ w e w' := by
  obtain ⟨a, cap, rfl⟩ := hin.val
  have hb0 := ((Below.refl w.heap.size w).alloc (Nat.le_refl _) (.cells #[.slice a l.length cap] 29)).alloc (by simp) (.cells #[.int .i64 0, .int .i64 0, .slice none 0 0] 36)
  have hn1 : Blk ((w.alloc (.cells #[.slice a l.length cap] 29)).alloc (.cells #[.int .i64 0, .int .i64 0, .slice none 0 0] 36)) w.heap.size 29 #[.slice a l.length cap] := (Below.heap_alloc _ _ _ (by simp)).trans (Blk.new w 29 _)
  have hn2 : Blk ((w.alloc (.cells #[.slice a l.length cap] 29)).alloc (.cells #[.int .i64 0, .int .i64 0, .slice none 0 0] 36)) (w.heap.size + 1) 36 #[.int .i64 0, .int .i64 0, .slice none 0 0] := by
    have := Blk.new (w.alloc (.cells #[.slice a l.length cap] 29)) 36 #[.int .i64 0, .int .i64 0, .slice none 0 0]
    simpa using this
  have hin0 := hin.below hb0 hn₀
  go_enter Tryz.func55, Tryz.ntmps55
  go_upto_region 1 with fail
  generalize (w.alloc (.cells #[.slice a l.length cap] 29)).alloc (.cells #[.int .i64 0, .int .i64 0, .slice none 0 0] 36) = W at hb0 hn1 hn2 hin0 ⊢
  have e0 : W.cell? ⟨w.heap.size, 0, none⟩ = some (.slice a l.length cap) := hn1.cell 0
  go_wp2_with fail
  refine (refPlace_any l hrise hll _ p n₀ W (Nat.le_trans hn₀ hb0.size) hin0).mono ?_
  rintro e w1 ⟨k, bb, hpa, rfl, hb, hb1⟩
  have hr1 := hn2.below hb1 hn2.lt
  have hd1 := hn1.below hb1 hn1.lt
  have e1 : w1.cell? ⟨w.heap.size, 0, none⟩ = some (.slice a l.length cap) := hd1.cell 0
  have hbw := hb0.trans (hb1.mono hb0.size)
  have hin1 := hin0.below hb1 (Nat.le_trans hn₀ hb0.size)
  obtain ⟨⟨r0, r1, r2⟩, rz0, rz1, rz2⟩ := three_of hr1
  clear e0 hn1 hn2 hin0 hpa
  rcases hb with ⟨rfl, hk, hp⟩ | ⟨rfl, hno⟩
  · have HPM : Hid (pmAt l p = some l[k]) := pmAt_at hrise hk hp
    obtain ⟨b, off, hao, pa, pk, pc, c0, c1, c2, hpi⟩ := hin1.at hk
    subst hao
    rw [hp] at c0
    have HC : Hid (clsP l p = (l[k]).cls ∧ partsP l p = (l[k]).parts) := by
      show _ ∧ _
      unfold clsP partsP
      rw [HPM.out]
      exact ⟨rfl, rfl⟩
    clear HPM hp
    generalize l[k] = mm at c0 c1 c2 hpi HC
    go_wp2_with fail
    refine bodyPost_ret (mark_results (hr1.set3 _ _ _) rfl) rfl ?_
    refine ⟨hbw.trans (below_set3 (show w.heap.size ≤ w.heap.size + 1 by omega)), pa, pk, pc, by rw [HC.out.1], ?_⟩
    rw [HC.out.2]
    exact hpi.below (below_set3 (show w.heap.size ≤ w.heap.size + 1 by omega)) hn₀
  · have HPM := pmAt_no hno
    have HC : Hid (clsP l p = 0 ∧ partsP l p = []) := by
      show _ ∧ _
      unfold clsP partsP
      rw [HPM]
      exact ⟨rfl, rfl⟩
    clear HPM hno
    go_wp2_with fail
    refine bodyPost_ret (mark_results (hr1.set3 _ _ _) rfl) rfl ?_
    refine ⟨hbw.trans (below_set3 (show w.heap.size ≤ w.heap.size + 1 by omega)), none, 0, 0, by rw [HC.out.1], ?_⟩
    rw [HC.out.2]
    exact .inl ⟨_, _, rfl, rfl⟩

end Go.Proofs.YtpmckfmjegehgaaGreatDoor
