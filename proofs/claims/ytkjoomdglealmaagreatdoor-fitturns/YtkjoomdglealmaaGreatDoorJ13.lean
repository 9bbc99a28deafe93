/- Contracts and lemmas (nothing is claimed here). -/
import Derived.Test.YtkjoomdglealmaaGreatDoorFGo
import Derived.Test.YtkjoomdglealmaaGreatDoorJ2
namespace Go.Proofs.YtkjoomdglealmaaGreatDoor
open Go.RowKit Go.Vf

/-- What a check comes to within: nothing, or what it is given up with. -/
def ChkPost (r : Int × List Int) (w : World) (e : Ending) (w' : World) : Prop :=
  (r.1 = 0 ∧ e = .returned (.tuple #[]) ∧ Below w.heap.size w w') ∨ (r.1 ≠ 0 ∧ ∃ a c m, e = lostG r.1 a r.2.length c m ∧ IOwn w' w.heap.size (.slice a r.2.length c) r.2 ∧ Below w.heap.size w w')

set_option maxHeartbeats 4000000 in
set_option maxRecDepth 20000 in
theorem check1_any (limit : Int) (l : List Fld) (aa : Option Addr) (ca lo n₀ S : Nat) (w : World) (hca : l.length ≤ ca) (hfit : ∀ x ∈ l, FitsF 17179869184 x) (hll : l.length ≤ 17179869184) (hn₀ : n₀ ≤ w.heap.size) (hS : Blk w S 24 #[.int .i64 limit, .slice aa l.length ca]) (hin : FIn w lo n₀ l aa) :
    Calls Tryz.prog 101 #[.pointer (some ⟨S, 0, none⟩)] w (ChkPost (chkS bndQ limit l) w) := by
  have hb1 := (Below.refl w.heap.size w).alloc (Nat.le_refl _) (.cells #[.slice none 0 0, .int .i64 0, seeV w.heap.size] 197)
  have hN1 := Blk.new w 197 #[.slice none 0 0, .int .i64 0, seeV w.heap.size]
  have ht : TourAt (w.alloc (.cells #[.slice none 0 0, .int .i64 0, seeV w.heap.size] 197)) w.heap.size none 0 [] 0 := ⟨hN1, IOwn.nil _ _⟩
  have hS1 := hS.old hb1
  have hin1 := hin.keep hb1 hn₀
  have c0 := hS1.cell 0
  have c1 := hS1.cell 1
  have hSl := hS.lt
  obtain ⟨R, hR⟩ : ∃ R, chkS bndQ limit l = R := ⟨_, rfl⟩
  rw [hR]
  have HR : Hid (R = if limit < 1 ∨ 65536 < limit then (113, []) else if l = [] then (115, []) else match tourL bndQ [] [] 0 l with | .ok _ => (0, []) | .bad c p _ => (c, p)) := hR.symm
  clear hR hS hin hS1 hN1
  unfold seeV at hb1 ht hin1 c0 c1
  go_enter Tryz.func101, Tryz.ntmps101
  go_upto_region 2 with fail
  generalize w.alloc (.cells #[.slice none 0 0, .int .i64 0, .func (.func 102) #[.pointer (some ⟨w.heap.size, 0, none⟩)] #[]] 197) = w1 at hb1 ht hin1 c0 c1 ⊢
  have hno1 := fun why => tneed_no w.heap.size none 0 [] 0 (by simp) false why w1 rfl ht
  have hok1 := fun why => tneed_ok (.pointer (some ⟨w.heap.size, 0, none⟩)) true why w1 rfl
  have HN : ∀ {why : Int} {e : Ending} {w' : World}, why ≠ 0 → R = (why, []) → (∃ a c, e = lostG why a ([] : List Int).length c ((0 : Nat) : Int) ∧ IOwn w' w1.heap.size (.slice a ([] : List Int).length c) [] ∧ Below w1.heap.size w1 w') → ChkPost R w e w' := by
    rintro why e w' hne rfl ⟨a, c, he, ho, hb⟩
    exact .inr ⟨hne, a, c, _, he, ho.mono hb1.size, hb1.trans (hb.mono hb1.size)⟩
  by_cases h1 : limit < 1
  · have hRq : Hid (R = (113, [])) := by show _ = _; rw [HR.out, if_pos (.inl h1)]
    have t1 : decide (1 ≤ limit) = false := by simp; omega
    have hno := hno1 113
    clear HR h1 ht hin1 hok1 hno1
    go_wp2_with fail
    refine hno.mono ?_
    rintro e w2 ⟨a, c, he, ho, hb⟩
    have hP := HN (e := e) (by decide) hRq.out ⟨a, c, he, ho, hb⟩
    unfold lostG at he
    subst he
    go_wp2
    exact ⟨rfl, hP⟩
  have t1 : decide (1 ≤ limit) = true := by simp; omega
  by_cases h2 : 65536 < limit
  · have hRq : Hid (R = (113, [])) := by show _ = _; rw [HR.out, if_pos (.inr h2)]
    have t2 : decide (limit ≤ 65536) = false := by simp; omega
    have hno := hno1 113
    clear HR h1 h2 ht hin1 hok1 hno1
    go_wp2_with fail
    refine hno.mono ?_
    rintro e w2 ⟨a, c, he, ho, hb⟩
    have hP := HN (e := e) (by decide) hRq.out ⟨a, c, he, ho, hb⟩
    unfold lostG at he
    subst he
    go_wp2
    exact ⟨rfl, hP⟩
  have t2 : decide (limit ≤ 65536) = true := by simp; omega
  have hok := hok1 113
  by_cases h3 : l = []
  · have hRq : Hid (R = (115, [])) := by show _ = _; rw [HR.out, if_neg (by omega), if_pos h3]
    have hlz : l.length = 0 := by rw [h3]; rfl
    have t3 : decide ((0 : Int) < (l.length : Int)) = false := by rw [h3]; rfl
    have t4 : decide (0 < l.length) = false := by rw [h3]; rfl
    have hno := hno1 115
    generalize l.length = n at t3 t4 c1
    clear HR h1 h2 h3 ht hin1 hok1 hno1 hlz
    go_wp2_with fail
    refine hok.mono ?_
    rintro _ _ ⟨rfl, rfl⟩
    go_wp2_with fail
    refine hno.mono ?_
    rintro e w2 ⟨a, c, he, ho, hb⟩
    have hP := HN (e := e) (by decide) hRq.out ⟨a, c, he, ho, hb⟩
    unfold lostG at he
    subst he
    go_wp2
    exact ⟨rfl, hP⟩
  have hlp := List.length_pos_iff.2 h3
  have t3 : decide ((0 : Int) < (l.length : Int)) = true := by simp only [decide_eq_true_eq]; omega
  have t4 : decide (0 < l.length) = true := decide_eq_true hlp
  have hok2 := hok1 115
  have hgo := goThrough_any l w.heap.size none 0 [] 0 aa ca lo n₀ w1 (by simp) (by omega) hca hfit hll hn₀ ht hin1
  have HR2 : Hid (R = match tourL bndQ [] [] 0 l with | .ok _ => (0, []) | .bad c p _ => (c, p)) := by
    show _ = _
    rw [HR.out, if_neg (by omega), if_neg h3]
  obtain ⟨n, hn⟩ : ∃ n, l.length = n := ⟨_, rfl⟩
  rw [hn] at t3 t4 c1 hgo
  clear HR h1 h2 h3 ht hin1 hok1 hno1 hn hlp
  go_wp2_with fail
  refine hok.mono ?_
  rintro _ _ ⟨rfl, rfl⟩
  go_wp2_with fail
  refine hok2.mono ?_
  rintro _ _ ⟨rfl, rfl⟩
  go_wp2_with fail
  refine hgo.mono ?_
  clear hgo hok hok2 HN
  cases h5 : tourL bndQ [] [] 0 l with
  | ok m =>
    rintro e w2 ⟨hb2, rfl, _⟩
    have hRq : R = (0, []) := by rw [HR2.out, h5]
    have hb02 := hb1.trans hb2
    clear h5 HR2
    go_wp2
    go_end0
    try rw [hRq]
    exact .inl ⟨rfl, rfl, hb02⟩
  | bad c p m =>
    rintro e w2 ⟨hb2, a, cc, he, ho⟩
    have hRq : R = (c, p) := by rw [HR2.out, h5]
    have hb02 := hb1.trans hb2
    have hc : c ≠ 0 := tourL_ne _ _ _ _ _ _ h5
    unfold lostG at he
    subst he
    clear h5 HR2
    go_wp2
    refine ⟨rfl, ?_⟩
    try rw [hRq]
    exact .inr ⟨hc, a, cc, _, rfl, ho.mono (by omega), hb02⟩

end Go.Proofs.YtkjoomdglealmaaGreatDoor

namespace Go.Proofs.YtkjoomdglealmaaGreatDoor
open Go.RowKit Go.Vf

def lostC (why : Int) (a : Option Addr) (n c : Nat) (m : Int) : Array Value := #[.int .i64 why, .int .i64 0, .slice a n c, .int .i64 m]
set_option maxHeartbeats 1000000 in
theorem giv_idle (B : Nat) (w : World) :
    CallsD Tryz.prog 136 #[.pointer (some ⟨B, 0, none⟩)] .returning w fun e u' w' => e = .returned (.tuple #[]) ∧ u' = .returning ∧ Below w.heap.size w w' := by
  have hta : ∀ w : World, (Instr.typeAssert .nilIface 20 136 true).run Tryz.prog w = .ok (.tuple #[.agg #[.int .i64 0, .int .i64 0, .slice none 0 0, .int .i64 0], .bool false]) w := fun w => by kernel_rfl
  have hb0 := (Below.refl w.heap.size w).alloc (Nat.le_refl _) (.cells #[.int .i64 0, .int .i64 0, .slice none 0 0, .int .i64 0] 136)
  refine callsD_of_wpS Tryz.func136 rfl fun c₀ cs hu => ?_
  apply wpS_seq
  apply wpS_region
  simp [wpOpsS, go_sem, recoverD, hu, Tryz.ntmps136, Exit.thenS, Array.replicate]
  refine wpS_of_wp ?_
  go_wp2
  exact ⟨rfl, _, rfl, _, by simp [results, Tryz.results136], rfl, hu, hb0⟩

set_option maxHeartbeats 1000000 in
theorem giv_catch (B : Nat) (why : Int) (a : Option Addr) (n c : Nat) (m : Int) (v0 : Value) (w : World) (hB : Blk w B 133 #[v0]) :
    CallsD Tryz.prog 136 #[.pointer (some ⟨B, 0, none⟩)] (.panicking [{ v := lostF why a n c m, recovered := false }]) w fun e u' w' =>
      e = .returned (.tuple #[]) ∧ u' = .panicking [{ v := lostF why a n c m, recovered := true }] ∧ w' = (w.setCell ⟨B, 0, none⟩ (.pointer (some ⟨w.heap.size, 0, none⟩))).alloc (.cells #[.int .i64 why, .int .i64 0, .slice a n c, .int .i64 m] 136) := by
  have hta : ∀ w : World, (Instr.typeAssert (lostF why a n c m) 20 136 true).run Tryz.prog w = .ok (.tuple #[.agg #[.int .i64 why, .int .i64 0, .slice a n c, .int .i64 m], .bool true]) w := fun w => by kernel_rfl
  have hb0 := (Below.refl w.heap.size w).alloc (Nat.le_refl _) (.cells #[.int .i64 why, .int .i64 0, .slice a n c, .int .i64 m] 136)
  have hBl := hB.lt
  have hB1 := hB.old hb0
  have k0 := hB1.cell 0
  have k1 := hB1.frozen 0
  refine callsD_of_wpS Tryz.func136 rfl fun c₀ cs hu => ?_
  apply wpS_seq
  apply wpS_region
  simp [wpOpsS, go_sem, recoverD, hu, Tryz.ntmps136, Exit.thenS, Array.replicate]
  refine wpS_of_wp ?_
  go_wp2
  exact ⟨rfl, _, rfl, _, by simp [results, Tryz.results136], rfl, rfl, rfl⟩

/-- What check tells. -/
def CheckPost (r : Int × List Int) (w : World) (e : Ending) (w' : World) : Prop :=
  Below w.heap.size w w' ∧ ((r.1 = 0 ∧ e = .returned (.pointer none)) ∨ (r.1 ≠ 0 ∧ ∃ L a c m, e = .returned (.pointer (some ⟨L, 0, none⟩)) ∧ Blk w' L 136 #[.int .i64 r.1, .int .i64 0, .slice a r.2.length c, .int .i64 m] ∧ IOwn w' w.heap.size (.slice a r.2.length c) r.2))
theorem giv_results {tmps : Array Value} {w : World} {h : Nat} {v : Value} (hb : Blk w h 133 #[v]) (t2 : tmps[2]?.getD undef = .pointer (some ⟨h, 0, none⟩)) :
    (results Tryz.f100 tmps).run Tryz.prog w = .ok v w := by
  have c0 := hb.cell 0
  simp [results, Tryz.results100, go_sem, t2, c0]
set_option maxHeartbeats 2000000 in
theorem givenUp_check (limit : Int) (l : List Fld) (aa : Option Addr) (ca lo n₀ S : Nat) (w : World) (hca : l.length ≤ ca) (hfit : ∀ x ∈ l, FitsF 17179869184 x) (hll : l.length ≤ 17179869184) (hn₀ : n₀ ≤ w.heap.size) (hS : Blk w S 24 #[.int .i64 limit, .slice aa l.length ca]) (hin : FIn w lo n₀ l aa) :
    Calls Tryz.prog 100 #[.func (.func 101) #[] #[.pointer (some ⟨S, 0, none⟩)]] w (CheckPost (chkS bndQ limit l) w) := by
  have hmf : ∀ (fn : Fn) (first cap : Array Value) (w : World), (Instr.makeFunc fn first cap).run Tryz.prog w = .ok (.func fn first cap) w := fun _ _ _ _ => rfl
  have hb1 := (Below.refl w.heap.size w).alloc (Nat.le_refl _) (.cells #[.pointer none] 133)
  have hN1 := Blk.new w 133 #[.pointer none]
  have hc := check1_any limit l aa ca lo n₀ S (w.alloc (.cells #[.pointer none] 133)) hca hfit hll (by have := hb1.size; omega) (hS.old hb1) (hin.keep hb1 hn₀)
  generalize chkS bndQ limit l = r at hc ⊢
  clear hS hin hfit
  go_enter_defers Tryz.func100, Tryz.ntmps100
  go_wp2_with fail
  generalize w.alloc (.cells #[.pointer none] 133) = w1 at *
  refine hc.mono ?_
  rintro e w2 (⟨h0, rfl, hb2⟩ | ⟨hne, a, c, m, he, ho, hb2⟩)
  · have hN2 := hN1.old hb2
    have c0 := hN2.cell 0
    have f0 := hN2.frozen 0
    have hb02 := hb1.trans (hb2.mono hb1.size)
    have hN3 := hN2.set 0 (.pointer none)
    have hb3 : Below w.heap.size w (w2.setCell ⟨w.heap.size, 0, none⟩ (.pointer none)) := hb02.setCell (p := ⟨w.heap.size, 0, none⟩) (Nat.le_refl _) _
    go_wp2
    refine leaves_cons (f := 136) (args := #[.pointer (some ⟨w.heap.size, 0, none⟩)]) (by simp) (by simp [go_sem]) ?_
    refine (giv_idle w.heap.size _).mono ?_
    rintro e u' w3 ⟨rfl, rfl, hb4⟩
    exact ⟨_, giv_results (hN3.old hb4) rfl, hb3.trans (hb4.mono hb3.size), .inl ⟨h0, rfl⟩⟩
  · have hN2 := hN1.old hb2
    have hb02 := hb1.trans (hb2.mono hb1.size)
    unfold lostG at he
    subst he
    go_wp2
    refine leaves_cons (f := 136) (args := #[.pointer (some ⟨w.heap.size, 0, none⟩)]) (by simp) (by simp [go_sem]) ?_
    refine (giv_catch w.heap.size r.1 a r.2.length c m _ w2 hN2).mono ?_
    rintro e u' w3 ⟨rfl, rfl, rfl⟩
    have hN3 := hN2.set 0 (.pointer (some ⟨w2.heap.size, 0, none⟩))
    have hz : (w2.setCell ⟨w.heap.size, 0, none⟩ (.pointer (some ⟨w2.heap.size, 0, none⟩))).heap.size = w2.heap.size := by simp [World.setCell]
    have hb4 := (Below.refl _ (w2.setCell ⟨w.heap.size, 0, none⟩ (.pointer (some ⟨w2.heap.size, 0, none⟩)))).alloc (Nat.le_refl _) (.cells #[.int .i64 r.1, .int .i64 0, .slice a r.2.length c, .int .i64 m] 136)
    have hN4 := Blk.new (w2.setCell ⟨w.heap.size, 0, none⟩ (.pointer (some ⟨w2.heap.size, 0, none⟩))) 136 #[.int .i64 r.1, .int .i64 0, .slice a r.2.length c, .int .i64 m]
    rw [hz] at hN4
    have ho3 : IOwn (w2.setCell ⟨w.heap.size, 0, none⟩ (.pointer (some ⟨w2.heap.size, 0, none⟩))) w1.heap.size (.slice a r.2.length c) r.2 := own_setCell ho (by show w.heap.size < w1.heap.size; exact hN1.lt) _
    have hb3 : Below w.heap.size w (w2.setCell ⟨w.heap.size, 0, none⟩ (.pointer (some ⟨w2.heap.size, 0, none⟩))) := hb02.setCell (p := ⟨w.heap.size, 0, none⟩) (Nat.le_refl _) _
    exact ⟨_, giv_results (hN3.old hb4) rfl, hb3.trans (hb4.mono hb3.size), .inr ⟨hne, _, a, c, m, rfl, hN4, IOwn.mono (own_after ho3 hb4) hb1.size⟩⟩

theorem check_post (limit : Int) (l : List Fld) (aa : Option Addr) (ca lo n₀ : Nat) (w : World) (hca : l.length ≤ ca) (hfit : ∀ x ∈ l, FitsF 17179869184 x) (hll : l.length ≤ 17179869184) (hn₀ : n₀ ≤ w.heap.size) (hin : FIn w lo n₀ l aa) :
    Calls Tryz.prog 68 #[.agg #[.int .i64 limit, .slice aa l.length ca]] w (CheckPost (chkS bndQ limit l) w) := by
  have hmf : ∀ (fn : Fn) (first cap : Array Value) (w : World), (Instr.makeFunc fn first cap).run Tryz.prog w = .ok (.func fn first cap) w := fun _ _ _ _ => rfl
  have hb1 := (Below.refl w.heap.size w).alloc (Nat.le_refl _) (.cells #[.int .i64 limit, .slice aa l.length ca] 24)
  have hN1 := Blk.new w 24 #[.int .i64 limit, .slice aa l.length ca]
  have hc := givenUp_check limit l aa ca lo n₀ w.heap.size _ hca hfit hll (by have := hb1.size; omega) hN1 (hin.keep hb1 hn₀)
  generalize chkS bndQ limit l = r at hc ⊢
  clear hin hfit hN1
  go_enter Tryz.func68, Tryz.ntmps68
  go_wp2_with fail
  refine hc.mono ?_
  rintro e w2 ⟨hb2, ⟨h0, rfl⟩ | ⟨hne, L, a, c, m, rfl, hL, ho⟩⟩
  · go_wp2
    go_ret
    exact ⟨hb1.trans (hb2.mono hb1.size), .inl ⟨h0, rfl⟩⟩
  · go_wp2
    go_ret
    exact ⟨hb1.trans (hb2.mono hb1.size), .inr ⟨hne, L, a, c, m, rfl, hL, ho.mono hb1.size⟩⟩
/-- What schema.Check tells: nothing, or a Fault. -/
def FaultAt (w : World) (base : Nat) (v : Value) (code at' : Int) (P : List Int) (why : Value) : Prop := ∃ F a c, v = .iface 98 (.pointer (some ⟨F, 0, none⟩)) ∧ base ≤ F ∧ Blk w F 100 #[.int .i64 code, .int .i64 at', .slice a P.length c, why] ∧ IOwn w base (.slice a P.length c) P ∧ some F ≠ (Value.slice a P.length c).ownBlock
def SCheckPost (r : Int × List Int) (w : World) (e : Ending) (w' : World) : Prop :=
  Below w.heap.size w w' ∧ ((r.1 = 0 ∧ e = .returned .nilIface) ∨ (r.1 ≠ 0 ∧ ∃ v, e = .returned v ∧ FaultAt w' w.heap.size v r.1 0 r.2 .nilIface))
set_option maxHeartbeats 2000000 in
theorem scheck_any (limit : Int) (l : List Fld) (aa : Option Addr) (ca lo n₀ : Nat) (w : World) (hca : l.length ≤ ca) (hfit : ∀ x ∈ l, FitsF 17179869184 x) (hll : l.length ≤ 17179869184) (hn₀ : n₀ ≤ w.heap.size) (hin : FIn w lo n₀ l aa) :
    Calls Tryz.prog 45 #[.agg #[.int .i64 limit, .slice aa l.length ca]] w (SCheckPost (chkS bndQ limit l) w) := by
  have hb1 := (Below.refl w.heap.size w).alloc (Nat.le_refl _) (.cells #[.int .i64 limit, .slice aa l.length ca] 24)
  have hc := check_post limit l aa ca lo n₀ _ hca hfit hll (by have := hb1.size; omega) (hin.keep hb1 hn₀)
  generalize chkS bndQ limit l = r at hc ⊢
  clear hin hfit
  go_enter Tryz.func45, Tryz.ntmps45
  go_wp2_with fail
  refine hc.mono ?_
  rintro e w2 ⟨hb2, ⟨h0, rfl⟩ | ⟨hne, L, a, c, m, rfl, hL, ho⟩⟩
  · go_wp2
    go_ret
    exact ⟨hb1.trans (hb2.mono hb1.size), .inl ⟨h0, rfl⟩⟩
  · have hb02 := hb1.trans (hb2.mono hb1.size)
    obtain ⟨c0, c1, c2, c3⟩ : w2.cell? ⟨L, 0, none⟩ = some (.int .i64 r.1) ∧ w2.cell? ⟨L, 1, none⟩ = some (.int .i64 0) ∧ w2.cell? ⟨L, 2, none⟩ = some (.slice a r.2.length c) ∧ w2.cell? ⟨L, 3, none⟩ = some (.int .i64 m) := ⟨hL.cell 0, hL.cell 1, hL.cell 2, hL.cell 3⟩
    have hb3 := (Below.refl w2.heap.size w2).alloc (Nat.le_refl _) (.cells #[.int .i64 r.1, .int .i64 0, .slice a r.2.length c, .nilIface] 100)
    have hN3 := Blk.new w2 100 #[.int .i64 r.1, .int .i64 0, .slice a r.2.length c, .nilIface]
    have ho3 : IOwn (w2.alloc (.cells #[.int .i64 r.1, .int .i64 0, .slice a r.2.length c, .nilIface] 100)) w.heap.size (.slice a r.2.length c) r.2 := IOwn.mono (own_after ho hb3) hb1.size
    have hne2 : some w2.heap.size ≠ (Value.slice a r.2.length c).ownBlock := fun e => by
      obtain ⟨_, cs, f, hh⟩ := own_ge ho e.symm
      have := (Array.getElem?_eq_some_iff.1 hh).1
      omega
    go_upto_region 3 with fail
    go_region
    go_wp2
    go_ret
    exact ⟨(hb02.trans (hb3.mono hb02.size)).drew, .inr ⟨hne, _, rfl, _, a, c, rfl, hb02.size, hN3, ho3, hne2⟩⟩

end Go.Proofs.YtkjoomdglealmaaGreatDoor

namespace Go.Proofs.YtkjoomdglealmaaGreatDoor
open Go.RowKit Go.Vf

theorem any_drop (f : Prt → Bool) (l : List Prt) (k : Nat) (h : k < l.length) : (l.drop k).any f = (f l[k] || (l.drop (k + 1)).any f) := by
  rw [List.drop_eq_getElem_cons h, List.any_cons]
theorem World.alloc_le (w : World) (o : Obj) : w.heap.size ≤ (w.alloc o).heap.size := by rw [alloc_size]; omega

set_option maxHeartbeats 1000000 in
set_option maxRecDepth 20000 in
theorem rdeeper_any : ∀ (d : Nat), d ≤ 1000 → ∀ (p : Prt), Fits p → ∀ (a : Option Addr) (c lo n₀ : Nat) (w : World), n₀ ≤ w.heap.size → PIn w lo n₀ p a →
    Calls Tryz.prog 40 #[pV p a c, .int .i64 d] w fun e w' => e = .returned (.bool (deeper d p)) ∧ Below w.heap.size w w' := by
  intro d
  induction d with
  | zero =>
    intro _ p hf a c lo n₀ w hn₀ hin
    cases p with | mk k y b m r l =>
    rw [deeper0]
    unfold pV
    simp only [Prt.kind, Prt.yes, Prt.neg, Prt.mag, Prt.raw, Prt.items]
    have hb1 := (Below.refl w.heap.size w).alloc (Nat.le_refl _) (.cells #[.int .u8 k, .bool y, .bool b, .string m, .string r, .slice a l.length c] 30)
    by_cases h7 : k = 7
    · subst h7
      clear hin hf
      go_enter Tryz.func40, Tryz.ntmps40
      go_wp2_with fail
      go_ret
      exact ⟨rfl, hb1⟩
    · have t0 : (k != 7) = true := by simpa using h7
      have t1 : (k == 7) = false := by simpa using h7
      rw [t1]
      clear hin hf
      go_enter Tryz.func40, Tryz.ntmps40
      go_wp2_with fail
      go_ret
      exact ⟨rfl, hb1⟩
  | succ d ih =>
    intro hd p hf a c lo n₀ w hn₀ hin
    cases p with | mk k y b m r l =>
    have hl := hf.len
    simp only [Prt.items] at hl
    rw [deeperS]
    unfold pV
    simp only [Prt.kind, Prt.yes, Prt.neg, Prt.mag, Prt.raw, Prt.items]
    have hb0 := Blk.new w 30 #[.int .u8 k, .bool y, .bool b, .string m, .string r, .slice a l.length c]
    have hb1 := (Below.refl w.heap.size w).alloc (Nat.le_refl _) (.cells #[.int .u8 k, .bool y, .bool b, .string m, .string r, .slice a l.length c] 30)
    by_cases h7 : k = 7
    · subst h7
      rw [show (((7 : Int) == 7) && l.any (deeper d)) = l.any (deeper d) by simp]
      generalize hR : l.any (deeper d) = R
      have HR : Hid (R = (l.drop 0).any (deeper d)) := hR.symm
      clear hR
      have hD1 : ((d + 1 : Nat) : Int) - 1 = (d : Int) := by omega
      have hD2 : (1 : Int) ≤ ((d + 1 : Nat) : Int) ∧ ((d + 1 : Nat) : Int) ≤ 1001 := by omega
      generalize ((d + 1 : Nat) : Int) = D at hD1 hD2 ⊢
      obtain ⟨hD3, hD4⟩ := hD2
      have t2 : decide (D < 1) = false := by simp; omega
      have hin1 := hin.keep hb1 hn₀
      have hb2 : (w.alloc (.cells #[.int .u8 7, .bool y, .bool b, .string m, .string r, .slice a l.length c] 30)).heap.size = w.heap.size + 1 := alloc_size _ _
      obtain ⟨c0, c1, c2, c3, c4, c5⟩ := hb0.c6
      go_enter Tryz.func40, Tryz.ntmps40
      go_wp2_with fail
      generalize w.alloc (.cells #[.int .u8 7, .bool y, .bool b, .string m, .string r, .slice a l.length c] 30) = w1 at hb0 hb1 hin1 hb2 c0 c1 c2 c3 c4 c5 ⊢
      clear c0 c1 c2 c3 c4 c5
      go_loopw [5] (fun i wr => ∃ (j : Nat), j ≤ l.length ∧ i = .int .i64 j ∧ Hid (R = (l.drop j).any (deeper d)) ∧ Below w1.heap.size w1 wr) (fun i _ => l.length - (intOf i).toNat)
      case atStart => exact ⟨0, by omega, rfl, HR, Below.refl _ _⟩
      case round =>
        clear HR
        obtain ⟨j, hj, rfl, HS, hbel⟩ := hrel
        obtain ⟨c0, c1, c2, c3, c4, c5⟩ := (hb0.below hbel hb0.lt).c6
        have hbb : Below w.heap.size w wr := hb1.trans (hbel.mono (by omega))
        have hsz := hbb.size
        by_cases hlt : j < l.length
        · have HD : Hid (R = (deeper d l[j] || (l.drop (j + 1)).any (deeper d))) := by
            show _ = _
            rw [HS.out, any_drop _ _ _ hlt]
          obtain ⟨bb, off, aj, cj, ha, _, _, hrow, hinj⟩ := (hin1.keep hbel (by omega)).at hlt
          simp only [Prt.items] at ha hrow hinj
          subst ha
          obtain ⟨r0, r1, r2, r3, r4, r5⟩ := hrow
          have hfj := hf.mem (p := .mk 7 y b m r l) (List.getElem_mem hlt)
          clear HS hin hf hin1
          generalize l[j] = x at *
          have hbx := hbel
          have hcall := ih (by omega) x hfj aj cj lo n₀ wr (by omega) hinj
          unfold pV at hcall
          clear ih hinj
          go_wp2_with fail
          refine hcall.mono ?_
          rintro _ w2 ⟨rfl, hb3⟩
          have hb4 : Below w1.heap.size w1 w2 := hbx.trans (hb3.mono hbx.size)
          cases hq : deeper d x with
          | true =>
            have hRn : R = true := by rw [HD.out, hq]; rfl
            clear HD hq
            go_wp2_with fail
            go_ret
            exact ⟨by rw [hRn]; rfl, hb1.trans (hb4.mono (by omega))⟩
          | false =>
            have HD2 : Hid (R = (l.drop (j + 1)).any (deeper d)) := by
              show _ = _
              rw [HD.out, hq]; rfl
            clear HD hq
            go_wp2_with fail
            go_roundw
            case rel => exact ⟨j + 1, by omega, by simp, HD2, hb4⟩
            case measure => simp only [intOf]; omega
        · have hRn : R = false := by rw [HS.out, List.drop_of_length_le (by omega)]; rfl
          clear HS ih hin hf hin1
          go_wp2_with fail
          go_ret
          exact ⟨by rw [hRn]; rfl, hbb⟩
    · have t0 : (k != 7) = true := by simpa using h7
      have t1 : (k == 7) = false := by simpa using h7
      rw [t1, Bool.false_and]
      clear hin hf ih
      go_enter Tryz.func40, Tryz.ntmps40
      go_wp2_with fail
      go_ret
      exact ⟨rfl, hb1⟩

set_option maxHeartbeats 1000000 in
set_option maxRecDepth 20000 in
theorem deeper_any : ∀ (d : Nat), d ≤ 1000 → ∀ (p : Prt), Fits p → ∀ (a : Option Addr) (c lo n₀ : Nat) (w : World), n₀ ≤ w.heap.size → PIn w lo n₀ p a →
    Calls Tryz.prog 42 #[pV p a c, .int .i64 d] w fun e w' => e = .returned (.bool (deeper d p)) ∧ Below w.heap.size w w' := by
  intro d
  induction d with
  | zero =>
    intro _ p hf a c lo n₀ w hn₀ hin
    cases p with | mk k y b m r l =>
    rw [deeper0]
    unfold pV
    simp only [Prt.kind, Prt.yes, Prt.neg, Prt.mag, Prt.raw, Prt.items]
    have hb1 := (Below.refl w.heap.size w).alloc (Nat.le_refl _) (.cells #[.int .u8 k, .bool y, .bool b, .string m, .string r, .slice a l.length c] 30)
    by_cases h7 : k = 7
    · subst h7
      clear hin hf
      go_enter Tryz.func42, Tryz.ntmps42
      go_wp2_with fail
      go_ret
      exact ⟨rfl, hb1⟩
    · have t0 : (k != 7) = true := by simpa using h7
      have t1 : (k == 7) = false := by simpa using h7
      rw [t1]
      clear hin hf
      go_enter Tryz.func42, Tryz.ntmps42
      go_wp2_with fail
      go_ret
      exact ⟨rfl, hb1⟩
  | succ d ih =>
    intro hd p hf a c lo n₀ w hn₀ hin
    cases p with | mk k y b m r l =>
    have hl := hf.len
    simp only [Prt.items] at hl
    rw [deeperS]
    unfold pV
    simp only [Prt.kind, Prt.yes, Prt.neg, Prt.mag, Prt.raw, Prt.items]
    have hb0 := Blk.new w 30 #[.int .u8 k, .bool y, .bool b, .string m, .string r, .slice a l.length c]
    have hb1 := (Below.refl w.heap.size w).alloc (Nat.le_refl _) (.cells #[.int .u8 k, .bool y, .bool b, .string m, .string r, .slice a l.length c] 30)
    by_cases h7 : k = 7
    · subst h7
      rw [show (((7 : Int) == 7) && l.any (deeper d)) = l.any (deeper d) by simp]
      generalize hR : l.any (deeper d) = R
      have HR : Hid (R = (l.drop 0).any (deeper d)) := hR.symm
      clear hR
      have hD1 : ((d + 1 : Nat) : Int) - 1 = (d : Int) := by omega
      have hD2 : (1 : Int) ≤ ((d + 1 : Nat) : Int) ∧ ((d + 1 : Nat) : Int) ≤ 1001 := by omega
      generalize ((d + 1 : Nat) : Int) = D at hD1 hD2 ⊢
      obtain ⟨hD3, hD4⟩ := hD2
      have t2 : (D == 0) = false := beq_eq_false_iff_ne.2 (by omega)
      have hin1 := hin.keep hb1 hn₀
      have hb2 : (w.alloc (.cells #[.int .u8 7, .bool y, .bool b, .string m, .string r, .slice a l.length c] 30)).heap.size = w.heap.size + 1 := alloc_size _ _
      obtain ⟨c0, c1, c2, c3, c4, c5⟩ := hb0.c6
      go_enter Tryz.func42, Tryz.ntmps42
      go_wp2_with fail
      generalize w.alloc (.cells #[.int .u8 7, .bool y, .bool b, .string m, .string r, .slice a l.length c] 30) = w1 at hb0 hb1 hin1 hb2 c0 c1 c2 c3 c4 c5 ⊢
      clear c0 c1 c2 c3 c4 c5
      go_loopw [15] (fun i wr => ∃ (j : Nat), j ≤ l.length ∧ i = .int .i64 j ∧ Hid (R = (l.drop j).any (deeper d)) ∧ Below w1.heap.size w1 wr) (fun i _ => l.length - (intOf i).toNat)
      case atStart => exact ⟨0, by omega, rfl, HR, Below.refl _ _⟩
      case round =>
        clear HR
        obtain ⟨j, hj, rfl, HS, hbel⟩ := hrel
        obtain ⟨c0, c1, c2, c3, c4, c5⟩ := (hb0.below hbel hb0.lt).c6
        have hbb : Below w.heap.size w wr := hb1.trans (hbel.mono (by omega))
        have hsz := hbb.size
        by_cases hlt : j < l.length
        · have HD : Hid (R = (deeper d l[j] || (l.drop (j + 1)).any (deeper d))) := by
            show _ = _
            rw [HS.out, any_drop _ _ _ hlt]
          obtain ⟨bb, off, aj, cj, ha, _, _, hrow, hinj⟩ := (hin1.keep hbel (by omega)).at hlt
          simp only [Prt.items] at ha hrow hinj
          subst ha
          obtain ⟨r0, r1, r2, r3, r4, r5⟩ := hrow
          have hfj := hf.mem (p := .mk 7 y b m r l) (List.getElem_mem hlt)
          clear HS hin hf hin1
          generalize l[j] = x at *
          have hbx := hbel.alloc hbel.size (.cells #[.int .u8 x.kind, .bool x.yes, .bool x.neg, .string x.mag, .string x.raw, .slice aj x.items.length cj] 30)
          have hby := (Below.refl wr.heap.size wr).alloc (Nat.le_refl _) (.cells #[.int .u8 x.kind, .bool x.yes, .bool x.neg, .string x.mag, .string x.raw, .slice aj x.items.length cj] 30)
          have hbz := hby.size
          have hcall := ih (by omega) x hfj aj cj lo n₀ _ (Nat.le_trans (by omega) hbz) (hinj.keep hby (by omega))
          clear hby hbz
          unfold pV at hcall
          clear ih hinj
          go_wp2_with fail
          refine hcall.mono ?_
          rintro _ w2 ⟨rfl, hb3⟩
          have hb4 : Below w1.heap.size w1 w2 := hbx.trans (hb3.mono hbx.size)
          cases hq : deeper d x with
          | true =>
            have hRn : R = true := by rw [HD.out, hq]; rfl
            clear HD hq
            go_wp2_with fail
            go_ret
            exact ⟨by rw [hRn]; rfl, hb1.trans (hb4.mono (by omega))⟩
          | false =>
            have HD2 : Hid (R = (l.drop (j + 1)).any (deeper d)) := by
              show _ = _
              rw [HD.out, hq]; rfl
            clear HD hq
            go_wp2_with fail
            go_roundw
            case rel => exact ⟨j + 1, by omega, by simp, HD2, hb4⟩
            case measure => simp only [intOf]; omega
        · have hRn : R = false := by rw [HS.out, List.drop_of_length_le (by omega)]; rfl
          clear HS ih hin hf hin1
          go_wp2_with fail
          go_ret
          exact ⟨by rw [hRn]; rfl, hbb⟩
    · have t0 : (k != 7) = true := by simpa using h7
      have t1 : (k == 7) = false := by simpa using h7
      rw [t1, Bool.false_and]
      clear hin hf ih
      go_enter Tryz.func42, Tryz.ntmps42
      go_wp2_with fail
      go_ret
      exact ⟨rfl, hb1⟩
end Go.Proofs.YtkjoomdglealmaaGreatDoor
