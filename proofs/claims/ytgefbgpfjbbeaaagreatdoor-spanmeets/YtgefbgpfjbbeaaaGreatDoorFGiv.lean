/- What schema's givenUp, check and Check do (contracts; nothing is claimed here). -/
import Derived.Test.YtgefbgpfjbbeaaaGreatDoorFChk
namespace Go.Proofs.YtgefbgpfjbbeaaaGreatDoor
open Go.RowKit Go.Vf

def lostC (why : Int) (a : Option Addr) (n c : Nat) (m : Int) : Array Value := #[.int .i64 why, .int .i64 0, .slice a n c, .int .i64 m]
set_option maxHeartbeats 1000000 in
theorem giv_idle (B : Nat) (w : World) :
    CallsD Tryz.prog 112 #[.pointer (some ⟨B, 0, none⟩)] .returning w fun e u' w' => e = .returned (.tuple #[]) ∧ u' = .returning ∧ Below w.heap.size w w' := by
  have hta : ∀ w : World, (Instr.typeAssert .nilIface 20 151 true).run Tryz.prog w = .ok (.tuple #[.agg #[.int .i64 0, .int .i64 0, .slice none 0 0, .int .i64 0], .bool false]) w := fun w => by kernel_rfl
  have hb0 := (Below.refl w.heap.size w).alloc (Nat.le_refl _) (.cells #[.int .i64 0, .int .i64 0, .slice none 0 0, .int .i64 0] 151)
  refine callsD_of_wpS Tryz.func112 rfl fun c₀ cs hu => ?_
  apply wpS_seq
  apply wpS_region
  simp [wpOpsS, go_sem, recoverD, hu, Tryz.ntmps112, Exit.thenS, Array.replicate]
  refine wpS_of_wp ?_
  go_wp2
  exact ⟨rfl, _, rfl, _, by simp [results, Tryz.results112], rfl, hu, hb0⟩

set_option maxHeartbeats 1000000 in
theorem giv_catch (B : Nat) (why : Int) (a : Option Addr) (n c : Nat) (m : Int) (v0 : Value) (w : World) (hB : Blk w B 148 #[v0]) :
    CallsD Tryz.prog 112 #[.pointer (some ⟨B, 0, none⟩)] (.panicking [{ v := lostF why a n c m, recovered := false }]) w fun e u' w' =>
      e = .returned (.tuple #[]) ∧ u' = .panicking [{ v := lostF why a n c m, recovered := true }] ∧ w' = (w.setCell ⟨B, 0, none⟩ (.pointer (some ⟨w.heap.size, 0, none⟩))).alloc (.cells #[.int .i64 why, .int .i64 0, .slice a n c, .int .i64 m] 151) := by
  have hta : ∀ w : World, (Instr.typeAssert (lostF why a n c m) 20 151 true).run Tryz.prog w = .ok (.tuple #[.agg #[.int .i64 why, .int .i64 0, .slice a n c, .int .i64 m], .bool true]) w := fun w => by kernel_rfl
  have hb0 := (Below.refl w.heap.size w).alloc (Nat.le_refl _) (.cells #[.int .i64 why, .int .i64 0, .slice a n c, .int .i64 m] 151)
  have hBl := hB.lt
  have hB1 := hB.old hb0
  have k0 := hB1.cell 0
  have k1 := hB1.frozen 0
  refine callsD_of_wpS Tryz.func112 rfl fun c₀ cs hu => ?_
  apply wpS_seq
  apply wpS_region
  simp [wpOpsS, go_sem, recoverD, hu, Tryz.ntmps112, Exit.thenS, Array.replicate]
  refine wpS_of_wp ?_
  go_wp2
  exact ⟨rfl, _, rfl, _, by simp [results, Tryz.results112], rfl, rfl, rfl⟩

/-- What check tells. -/
def CheckPost (r : Int × List Int) (w : World) (e : Ending) (w' : World) : Prop :=
  Below w.heap.size w w' ∧ ((r.1 = 0 ∧ e = .returned (.pointer none)) ∨ (r.1 ≠ 0 ∧ ∃ L a c m, e = .returned (.pointer (some ⟨L, 0, none⟩)) ∧ Blk w' L 151 #[.int .i64 r.1, .int .i64 0, .slice a r.2.length c, .int .i64 m] ∧ IOwn w' w.heap.size (.slice a r.2.length c) r.2))
theorem giv_results {tmps : Array Value} {w : World} {h : Nat} {v : Value} (hb : Blk w h 148 #[v]) (t2 : tmps[2]?.getD undef = .pointer (some ⟨h, 0, none⟩)) :
    (results Tryz.f82 tmps).run Tryz.prog w = .ok v w := by
  have c0 := hb.cell 0
  simp [results, Tryz.results82, go_sem, t2, c0]
set_option maxHeartbeats 2000000 in
theorem givenUp_check (limit : Int) (l : List Fld) (aa : Option Addr) (ca lo n₀ S : Nat) (w : World) (hca : l.length ≤ ca) (hfit : ∀ x ∈ l, FitsF 17179869184 x) (hll : l.length ≤ 17179869184) (hn₀ : n₀ ≤ w.heap.size) (hS : Blk w S 52 #[.int .i64 limit, .slice aa l.length ca]) (hin : FIn w lo n₀ l aa) :
    Calls Tryz.prog 82 #[.func (.func 83) #[] #[.pointer (some ⟨S, 0, none⟩)]] w (CheckPost (chkS bndQ limit l) w) := by
  have hmf : ∀ (fn : Fn) (first cap : Array Value) (w : World), (Instr.makeFunc fn first cap).run Tryz.prog w = .ok (.func fn first cap) w := fun _ _ _ _ => rfl
  have hb1 := (Below.refl w.heap.size w).alloc (Nat.le_refl _) (.cells #[.pointer none] 148)
  have hN1 := Blk.new w 148 #[.pointer none]
  have hc := check1_any limit l aa ca lo n₀ S (w.alloc (.cells #[.pointer none] 148)) hca hfit hll (by have := hb1.size; omega) (hS.old hb1) (hin.keep hb1 hn₀)
  generalize chkS bndQ limit l = r at hc ⊢
  clear hS hin hfit
  go_enter_defers Tryz.func82, Tryz.ntmps82
  go_wp2_with fail
  generalize w.alloc (.cells #[.pointer none] 148) = w1 at *
  refine hc.mono ?_
  rintro e w2 (⟨h0, rfl, hb2⟩ | ⟨hne, a, c, m, he, ho, hb2⟩)
  · have hN2 := hN1.old hb2
    have c0 := hN2.cell 0
    have f0 := hN2.frozen 0
    have hb02 := hb1.trans (hb2.mono hb1.size)
    have hN3 := hN2.set 0 (.pointer none)
    have hb3 : Below w.heap.size w (w2.setCell ⟨w.heap.size, 0, none⟩ (.pointer none)) := hb02.setCell (p := ⟨w.heap.size, 0, none⟩) (Nat.le_refl _) _
    go_wp2
    refine leaves_cons (f := 112) (args := #[.pointer (some ⟨w.heap.size, 0, none⟩)]) (by simp) (by simp [go_sem]) ?_
    refine (giv_idle w.heap.size _).mono ?_
    rintro e u' w3 ⟨rfl, rfl, hb4⟩
    exact ⟨_, giv_results (hN3.old hb4) rfl, hb3.trans (hb4.mono hb3.size), .inl ⟨h0, rfl⟩⟩
  · have hN2 := hN1.old hb2
    have hb02 := hb1.trans (hb2.mono hb1.size)
    unfold lostG at he
    subst he
    go_wp2
    refine leaves_cons (f := 112) (args := #[.pointer (some ⟨w.heap.size, 0, none⟩)]) (by simp) (by simp [go_sem]) ?_
    refine (giv_catch w.heap.size r.1 a r.2.length c m _ w2 hN2).mono ?_
    rintro e u' w3 ⟨rfl, rfl, rfl⟩
    have hN3 := hN2.set 0 (.pointer (some ⟨w2.heap.size, 0, none⟩))
    have hz : (w2.setCell ⟨w.heap.size, 0, none⟩ (.pointer (some ⟨w2.heap.size, 0, none⟩))).heap.size = w2.heap.size := by simp [World.setCell]
    have hb4 := (Below.refl _ (w2.setCell ⟨w.heap.size, 0, none⟩ (.pointer (some ⟨w2.heap.size, 0, none⟩)))).alloc (Nat.le_refl _) (.cells #[.int .i64 r.1, .int .i64 0, .slice a r.2.length c, .int .i64 m] 151)
    have hN4 := Blk.new (w2.setCell ⟨w.heap.size, 0, none⟩ (.pointer (some ⟨w2.heap.size, 0, none⟩))) 151 #[.int .i64 r.1, .int .i64 0, .slice a r.2.length c, .int .i64 m]
    rw [hz] at hN4
    have ho3 : IOwn (w2.setCell ⟨w.heap.size, 0, none⟩ (.pointer (some ⟨w2.heap.size, 0, none⟩))) w1.heap.size (.slice a r.2.length c) r.2 := own_setCell ho (by show w.heap.size < w1.heap.size; exact hN1.lt) _
    have hb3 : Below w.heap.size w (w2.setCell ⟨w.heap.size, 0, none⟩ (.pointer (some ⟨w2.heap.size, 0, none⟩))) := hb02.setCell (p := ⟨w.heap.size, 0, none⟩) (Nat.le_refl _) _
    exact ⟨_, giv_results (hN3.old hb4) rfl, hb3.trans (hb4.mono hb3.size), .inr ⟨hne, _, a, c, m, rfl, hN4, IOwn.mono (own_after ho3 hb4) hb1.size⟩⟩

theorem check_post (limit : Int) (l : List Fld) (aa : Option Addr) (ca lo n₀ : Nat) (w : World) (hca : l.length ≤ ca) (hfit : ∀ x ∈ l, FitsF 17179869184 x) (hll : l.length ≤ 17179869184) (hn₀ : n₀ ≤ w.heap.size) (hin : FIn w lo n₀ l aa) :
    Calls Tryz.prog 58 #[.agg #[.int .i64 limit, .slice aa l.length ca]] w (CheckPost (chkS bndQ limit l) w) := by
  have hmf : ∀ (fn : Fn) (first cap : Array Value) (w : World), (Instr.makeFunc fn first cap).run Tryz.prog w = .ok (.func fn first cap) w := fun _ _ _ _ => rfl
  have hb1 := (Below.refl w.heap.size w).alloc (Nat.le_refl _) (.cells #[.int .i64 limit, .slice aa l.length ca] 52)
  have hN1 := Blk.new w 52 #[.int .i64 limit, .slice aa l.length ca]
  have hc := givenUp_check limit l aa ca lo n₀ w.heap.size _ hca hfit hll (by have := hb1.size; omega) hN1 (hin.keep hb1 hn₀)
  generalize chkS bndQ limit l = r at hc ⊢
  clear hin hfit hN1
  go_enter Tryz.func58, Tryz.ntmps58
  go_wp2_with fail
  refine hc.mono ?_
  rintro e w2 ⟨hb2, ⟨h0, rfl⟩ | ⟨hne, L, a, c, m, rfl, hL, ho⟩⟩
  · go_wp2
    go_ret
    exact ⟨hb1.trans (hb2.mono hb1.size), .inl ⟨h0, rfl⟩⟩
  · go_wp2
    go_ret
    exact ⟨hb1.trans (hb2.mono hb1.size), .inr ⟨hne, L, a, c, m, rfl, hL, ho.mono hb1.size⟩⟩
/-- What schema.Check tells: nothing, or a Fault. -/
def FaultAt (w : World) (base : Nat) (v : Value) (code at' : Int) (P : List Int) (why : Value) : Prop := ∃ F a c, v = .iface 79 (.pointer (some ⟨F, 0, none⟩)) ∧ base ≤ F ∧ Blk w F 82 #[.int .i64 code, .int .i64 at', .slice a P.length c, why] ∧ IOwn w base (.slice a P.length c) P ∧ some F ≠ (Value.slice a P.length c).ownBlock
def SCheckPost (r : Int × List Int) (w : World) (e : Ending) (w' : World) : Prop :=
  Below w.heap.size w w' ∧ ((r.1 = 0 ∧ e = .returned .nilIface) ∨ (r.1 ≠ 0 ∧ ∃ v, e = .returned v ∧ FaultAt w' w.heap.size v r.1 0 r.2 .nilIface))
set_option maxHeartbeats 2000000 in
theorem scheck_any (limit : Int) (l : List Fld) (aa : Option Addr) (ca lo n₀ : Nat) (w : World) (hca : l.length ≤ ca) (hfit : ∀ x ∈ l, FitsF 17179869184 x) (hll : l.length ≤ 17179869184) (hn₀ : n₀ ≤ w.heap.size) (hin : FIn w lo n₀ l aa) :
    Calls Tryz.prog 39 #[.agg #[.int .i64 limit, .slice aa l.length ca]] w (SCheckPost (chkS bndQ limit l) w) := by
  have hb1 := (Below.refl w.heap.size w).alloc (Nat.le_refl _) (.cells #[.int .i64 limit, .slice aa l.length ca] 52)
  have hc := check_post limit l aa ca lo n₀ _ hca hfit hll (by have := hb1.size; omega) (hin.keep hb1 hn₀)
  generalize chkS bndQ limit l = r at hc ⊢
  clear hin hfit
  go_enter Tryz.func39, Tryz.ntmps39
  go_wp2_with fail
  refine hc.mono ?_
  rintro e w2 ⟨hb2, ⟨h0, rfl⟩ | ⟨hne, L, a, c, m, rfl, hL, ho⟩⟩
  · go_wp2
    go_ret
    exact ⟨hb1.trans (hb2.mono hb1.size), .inl ⟨h0, rfl⟩⟩
  · have hb02 := hb1.trans (hb2.mono hb1.size)
    obtain ⟨c0, c1, c2, c3⟩ : w2.cell? ⟨L, 0, none⟩ = some (.int .i64 r.1) ∧ w2.cell? ⟨L, 1, none⟩ = some (.int .i64 0) ∧ w2.cell? ⟨L, 2, none⟩ = some (.slice a r.2.length c) ∧ w2.cell? ⟨L, 3, none⟩ = some (.int .i64 m) := ⟨hL.cell 0, hL.cell 1, hL.cell 2, hL.cell 3⟩
    have hb3 := (Below.refl w2.heap.size w2).alloc (Nat.le_refl _) (.cells #[.int .i64 r.1, .int .i64 0, .slice a r.2.length c, .nilIface] 82)
    have hN3 := Blk.new w2 82 #[.int .i64 r.1, .int .i64 0, .slice a r.2.length c, .nilIface]
    have ho3 : IOwn (w2.alloc (.cells #[.int .i64 r.1, .int .i64 0, .slice a r.2.length c, .nilIface] 82)) w.heap.size (.slice a r.2.length c) r.2 := IOwn.mono (own_after ho hb3) hb1.size
    have hne2 : some w2.heap.size ≠ (Value.slice a r.2.length c).ownBlock := fun e => by
      obtain ⟨_, cs, f, hh⟩ := own_ge ho e.symm
      have := (Array.getElem?_eq_some_iff.1 hh).1
      omega
    go_upto_region 3 with fail
    go_region
    go_wp2
    go_ret
    exact ⟨(hb02.trans (hb3.mono hb02.size)).drew, .inr ⟨hne, _, rfl, _, a, c, rfl, hb02.size, hN3, ho3, hne2⟩⟩

end Go.Proofs.YtgefbgpfjbbeaaaGreatDoor
