/- What schema.Check does (contracts; nothing is claimed here). -/
import Derived.Test.YtgefbgpfjbbeaaaGreatDoorFGo
namespace Go.Proofs.YtgefbgpfjbbeaaaGreatDoor
open Go.RowKit Go.Vf

/-- What a check comes to within: nothing, or what it is given up with. -/
def ChkPost (r : Int × List Int) (w : World) (e : Ending) (w' : World) : Prop :=
  (r.1 = 0 ∧ e = .returned (.tuple #[]) ∧ Below w.heap.size w w') ∨ (r.1 ≠ 0 ∧ ∃ a c m, e = lostG r.1 a r.2.length c m ∧ IOwn w' w.heap.size (.slice a r.2.length c) r.2 ∧ Below w.heap.size w w')

set_option maxHeartbeats 4000000 in
set_option maxRecDepth 20000 in
theorem check1_any (limit : Int) (l : List Fld) (aa : Option Addr) (ca lo n₀ S : Nat) (w : World) (hca : l.length ≤ ca) (hfit : ∀ x ∈ l, FitsF 17179869184 x) (hll : l.length ≤ 17179869184) (hn₀ : n₀ ≤ w.heap.size) (hS : Blk w S 52 #[.int .i64 limit, .slice aa l.length ca]) (hin : FIn w lo n₀ l aa) :
    Calls Tryz.prog 83 #[.pointer (some ⟨S, 0, none⟩)] w (ChkPost (chkS bndQ limit l) w) := by
  have hb1 := (Below.refl w.heap.size w).alloc (Nat.le_refl _) (.cells #[.slice none 0 0, .int .i64 0, seeV w.heap.size] 184)
  have hN1 := Blk.new w 184 #[.slice none 0 0, .int .i64 0, seeV w.heap.size]
  have ht : TourAt (w.alloc (.cells #[.slice none 0 0, .int .i64 0, seeV w.heap.size] 184)) w.heap.size none 0 [] 0 := ⟨hN1, IOwn.nil _ _⟩
  have hS1 := hS.old hb1
  have hin1 := hin.keep hb1 hn₀
  have c0 := hS1.cell 0
  have c1 := hS1.cell 1
  have hSl := hS.lt
  obtain ⟨R, hR⟩ : ∃ R, chkS bndQ limit l = R := ⟨_, rfl⟩
  rw [hR]
  have HR : Hid (R = if limit < 1 ∨ 65536 < limit then (113, []) else if l = [] then (115, []) else match tourL bndQ [] [] 0 l with | .ok _ => (0, []) | .bad c p _ => (c, p)) := hR.symm
  clear hR hS hin hS1 hN1
  unfold seeV at hb1 ht hin1 c0 c1
  go_enter Tryz.func83, Tryz.ntmps83
  go_upto_region 2 with fail
  generalize w.alloc (.cells #[.slice none 0 0, .int .i64 0, .func (.func 84) #[.pointer (some ⟨w.heap.size, 0, none⟩)] #[]] 184) = w1 at hb1 ht hin1 c0 c1 ⊢
  have hno1 := fun why => tneed_no w.heap.size none 0 [] 0 (by simp) false why w1 rfl ht
  have hok1 := fun why => tneed_ok (.pointer (some ⟨w.heap.size, 0, none⟩)) true why w1 rfl
  have HN : ∀ {why : Int} {e : Ending} {w' : World}, why ≠ 0 → R = (why, []) → (∃ a c, e = lostG why a ([] : List Int).length c ((0 : Nat) : Int) ∧ IOwn w' w1.heap.size (.slice a ([] : List Int).length c) [] ∧ Below w1.heap.size w1 w') → ChkPost R w e w' := by
    rintro why e w' hne rfl ⟨a, c, he, ho, hb⟩
    exact .inr ⟨hne, a, c, _, he, ho.mono hb1.size, hb1.trans (hb.mono hb1.size)⟩
  by_cases h1 : limit < 1
  · have hRq : Hid (R = (113, [])) := by show _ = _; rw [HR.out, if_pos (.inl h1)]
    have t1 : decide (1 ≤ limit) = false := by simp; omega
    have hno := hno1 113
    clear HR h1 ht hin1 hok1 hno1
    go_wp2_with fail
    refine hno.mono ?_
    rintro e w2 ⟨a, c, he, ho, hb⟩
    have hP := HN (e := e) (by decide) hRq.out ⟨a, c, he, ho, hb⟩
    unfold lostG at he
    subst he
    go_wp2
    exact ⟨rfl, hP⟩
  have t1 : decide (1 ≤ limit) = true := by simp; omega
  by_cases h2 : 65536 < limit
  · have hRq : Hid (R = (113, [])) := by show _ = _; rw [HR.out, if_pos (.inr h2)]
    have t2 : decide (limit ≤ 65536) = false := by simp; omega
    have hno := hno1 113
    clear HR h1 h2 ht hin1 hok1 hno1
    go_wp2_with fail
    refine hno.mono ?_
    rintro e w2 ⟨a, c, he, ho, hb⟩
    have hP := HN (e := e) (by decide) hRq.out ⟨a, c, he, ho, hb⟩
    unfold lostG at he
    subst he
    go_wp2
    exact ⟨rfl, hP⟩
  have t2 : decide (limit ≤ 65536) = true := by simp; omega
  have hok := hok1 113
  by_cases h3 : l = []
  · have hRq : Hid (R = (115, [])) := by show _ = _; rw [HR.out, if_neg (by omega), if_pos h3]
    have hlz : l.length = 0 := by rw [h3]; rfl
    have t3 : decide ((0 : Int) < (l.length : Int)) = false := by rw [h3]; rfl
    have t4 : decide (0 < l.length) = false := by rw [h3]; rfl
    have hno := hno1 115
    generalize l.length = n at t3 t4 c1
    clear HR h1 h2 h3 ht hin1 hok1 hno1 hlz
    go_wp2_with fail
    refine hok.mono ?_
    rintro _ _ ⟨rfl, rfl⟩
    go_wp2_with fail
    refine hno.mono ?_
    rintro e w2 ⟨a, c, he, ho, hb⟩
    have hP := HN (e := e) (by decide) hRq.out ⟨a, c, he, ho, hb⟩
    unfold lostG at he
    subst he
    go_wp2
    exact ⟨rfl, hP⟩
  have hlp := List.length_pos_iff.2 h3
  have t3 : decide ((0 : Int) < (l.length : Int)) = true := by simp only [decide_eq_true_eq]; omega
  have t4 : decide (0 < l.length) = true := decide_eq_true hlp
  have hok2 := hok1 115
  have hgo := goThrough_any l w.heap.size none 0 [] 0 aa ca lo n₀ w1 (by simp) (by omega) hca hfit hll hn₀ ht hin1
  have HR2 : Hid (R = match tourL bndQ [] [] 0 l with | .ok _ => (0, []) | .bad c p _ => (c, p)) := by
    show _ = _
    rw [HR.out, if_neg (by omega), if_neg h3]
  obtain ⟨n, hn⟩ : ∃ n, l.length = n := ⟨_, rfl⟩
  rw [hn] at t3 t4 c1 hgo
  clear HR h1 h2 h3 ht hin1 hok1 hno1 hn hlp
  go_wp2_with fail
  refine hok.mono ?_
  rintro _ _ ⟨rfl, rfl⟩
  go_wp2_with fail
  refine hok2.mono ?_
  rintro _ _ ⟨rfl, rfl⟩
  go_wp2_with fail
  refine hgo.mono ?_
  clear hgo hok hok2 HN
  cases h5 : tourL bndQ [] [] 0 l with
  | ok m =>
    rintro e w2 ⟨hb2, rfl, _⟩
    have hRq : R = (0, []) := by rw [HR2.out, h5]
    have hb02 := hb1.trans hb2
    clear h5 HR2
    go_wp2
    go_end0
    try rw [hRq]
    exact .inl ⟨rfl, rfl, hb02⟩
  | bad c p m =>
    rintro e w2 ⟨hb2, a, cc, he, ho⟩
    have hRq : R = (c, p) := by rw [HR2.out, h5]
    have hb02 := hb1.trans hb2
    have hc : c ≠ 0 := tourL_ne _ _ _ _ _ _ h5
    unfold lostG at he
    subst he
    clear h5 HR2
    go_wp2
    refine ⟨rfl, ?_⟩
    try rw [hRq]
    exact .inr ⟨hc, a, cc, _, rfl, ho.mono (by omega), hb02⟩

end Go.Proofs.YtgefbgpfjbbeaaaGreatDoor
