/- What schema's Parse reads: readSchema under givenUp (contracts; nothing is claimed here). -/
import Derived.Test.YtcbjnifoojjipaaGreatDoorSScb
import Derived.Test.YtcbjnifoojjipaaGreatDoorJ21
namespace Go.Proofs.YtcbjnifoojjipaaGreatDoor
open Go.RowKit Go.Vf
structure ReadAt (K R S : Nat) (after : Int) (w w' : World) (q : Int × List Fld × List Int) (fa : Option Addr) (fc : Nat) (a : Option Addr) (c : Nat) : Prop where
  sch : Blk w' S 25 #[.int .i64 q.1, .slice fa q.2.1.length fc]
  cap : q.2.1.length ≤ fc
  ft : FT w' w.heap.size none q.2.1 fa fc
  rd : RdAt K R w' [] after (.slice a q.2.2.length c)
  own : IOwn w' K (.slice a q.2.2.length c) q.2.2
  os : w'.os = w.os
  tape : w'.tape = w.tape
  output : w'.output = w.output
  size : w.heap.size ≤ w'.heap.size
  block : ∀ k, k < w.heap.size → k ≠ R → k ≠ S → w'.heap[k]? = w.heap[k]?
def P1Post (K R S : Nat) (after : Int) (w : World) (r : Except Int (Int × List Fld × List Int)) (e : Ending) (w' : World) : Prop :=
  match r with
  | .error num => e = lostL num ∧ Grw K R none w w'
  | .ok q => ∃ fa fc a c, e = .returned (.tuple #[]) ∧ ReadAt K R S after w w' q fa fc a c
set_option maxHeartbeats 2000000 in
theorem parse1_any (K R Rb S : Nat) (after : Int) (ls : List Ln) (hok : ∀ l ∈ ls, WsOK l.2) (hlen : ls.length ≤ 999990) (w : World) (hRb : Blk w Rb 102 #[.pointer (some ⟨R, 0, none⟩)]) (hS : Blk w S 25 #[.int .i64 0, .slice none 0 0]) (hKS : K ≤ S) (hrd : RdAt K R w ls after (.slice none 0 0)) :
    Calls Tryz.prog 51 #[.pointer (some ⟨Rb, 0, none⟩), .pointer (some ⟨S, 0, none⟩)] w (P1Post K R S after w (schemaP after ls [])) := by
  have hc := readSchema_any K R after ls hok [] (by simp; omega) none 0 w hrd (IOwn.nil _ _)
  rw [show (Value.slice none ([] : List Int).length 0).ownBlock = none from rfl] at hc
  generalize schemaP after ls [] = r at hc ⊢
  have c0 : w.cell? ⟨Rb, 0, none⟩ = some (.pointer (some ⟨R, 0, none⟩)) := hRb.cell 0
  have hR := hrd.hR
  have hSl := hS.lt
  have hKw := hrd.hK
  have HS : Hid (Blk w S 25 #[.int .i64 0, .slice none 0 0]) := hS
  clear hRb hrd hS hok hlen
  go_enter Tryz.func51, Tryz.ntmps51
  go_wp2_with fail
  refine hc.mono ?_
  clear hc
  intro e w2 hp
  cases r with
  | error num =>
    obtain ⟨rfl, hg⟩ := hp
    unfold lostL at *
    go_wp2_with fail
    exact ⟨rfl, rfl, hg⟩
  | ok q =>
    obtain ⟨lim, fs, ns⟩ := q
    obtain ⟨fa, fc, a, c, rfl, hfc, hFT, hrs⟩ := hp
    have hS2 : Blk w2 S 25 #[.int .i64 0, .slice none 0 0] := (hrs.grw.block S hSl (by omega) (by simp)).trans HS.out
    have d0 : w2.cell? ⟨S, 0, none⟩ = some (.int .i64 0) := hS2.cell 0
    have d1 : w2.cell? ⟨S, 1, none⟩ = some (.slice none 0 0) := hS2.cell 1
    have f0 : w2.frozen? ⟨S, 0, none⟩ = false := hS2.frozen 0
    have f1 : w2.frozen? ⟨S, 1, none⟩ = false := hS2.frozen 1
    have HS2 : Hid (Blk w2 S 25 #[.int .i64 0, .slice none 0 0]) := hS2
    simp only at hfc hFT hrs
    clear hS2
    go_wp2_with fail
    have hO : Oth S w2 ((w2.setCell ⟨S, 0, none⟩ (.int .i64 lim)).setCell ⟨S, 1, none⟩ (.slice fa fs.length fc)) := (Oth.set S 0 w2 _).trans (Oth.set S 1 _ _)
    have hn : some S ≠ (Value.slice a ns.length c).ownBlock := fun e => by
      obtain ⟨_, cs, f, hh⟩ := own_ge hrs.own e.symm
      rw [show w2.heap[S]? = _ from HS2.out] at hh
      cases hh
    refine ⟨rfl, _, by simp [results, Tryz.results51], fa, fc, a, c, rfl, (HS2.out.set 0 (.int .i64 lim)).set 1 (.slice fa fs.length fc), hfc, ?_, ?_, ?_, ?_, ?_, ?_, Nat.le_trans hrs.grw.size hO.size, fun k hk hkR hkS => (hO.block k (Nat.lt_of_lt_of_le hk hrs.grw.size) hkS).trans (hrs.grw.block k hk hkR (by simp))⟩
    · exact hFT.kept (Nat.le_refl _) fun b _ _ hb => ⟨hO.block b hb.lt (by rintro rfl; exact not48 HS2.out (by decide) hb), by simp⟩
    · exact hrs.rd.kp hO.size fun k hk => hO.block k (by have := hrs.rd.hK; omega) (by omega)
    · refine own_same hrs.own fun j hj => hO.block j ?_ ?_
      · obtain ⟨_, cs, f, hh⟩ := own_ge hrs.own hj
        exact (Array.getElem?_eq_some_iff.1 hh).1
      · rintro rfl
        exact hn hj.symm
    · exact hO.os.trans hrs.grw.os
    · exact hO.tape.trans hrs.grw.tape
    · exact hO.output.trans hrs.grw.output
set_option maxHeartbeats 1000000 in
theorem giv_line (B : Nat) (num : Int) (v0 : Value) (w : World) (hB : Blk w B 69 #[v0]) :
    CallsD Tryz.prog 66 #[.pointer (some ⟨B, 0, none⟩)] (.panicking [{ v := .iface 73 (.agg #[.int .i64 110, .int .i64 num, .slice none 0 0, .int .i64 0]), recovered := false }]) w fun e u' w' =>
      e = .returned (.tuple #[]) ∧ u' = .panicking [{ v := .iface 73 (.agg #[.int .i64 110, .int .i64 num, .slice none 0 0, .int .i64 0]), recovered := true }] ∧ w' = (w.setCell ⟨B, 0, none⟩ (.pointer (some ⟨w.heap.size, 0, none⟩))).alloc (.cells #[.int .i64 110, .int .i64 num, .slice none 0 0, .int .i64 0] 73) := by
  have hta : ∀ w : World, (Instr.typeAssert (.iface 73 (.agg #[.int .i64 110, .int .i64 num, .slice none 0 0, .int .i64 0])) 20 73 true).run Tryz.prog w = .ok (.tuple #[.agg #[.int .i64 110, .int .i64 num, .slice none 0 0, .int .i64 0], .bool true]) w := fun w => by kernel_rfl
  have hb0 := (Below.refl w.heap.size w).alloc (Nat.le_refl _) (.cells #[.int .i64 110, .int .i64 num, .slice none 0 0, .int .i64 0] 73)
  have hBl := hB.lt
  have hB1 := hB.old hb0
  have k0 := hB1.cell 0
  have k1 := hB1.frozen 0
  refine callsD_of_wpS Tryz.func66 rfl fun c₀ cs hu => ?_
  apply wpS_seq
  apply wpS_region
  simp [wpOpsS, go_sem, recoverD, hu, Tryz.ntmps66, Exit.thenS, Array.replicate]
  refine wpS_of_wp ?_
  go_wp2
  exact ⟨rfl, _, rfl, _, by simp [results, Tryz.results66], rfl, rfl, rfl⟩
def GrPost (K R S : Nat) (after : Int) (w : World) (r : Except Int (Int × List Fld × List Int)) (e : Ending) (w' : World) : Prop :=
  match r with
  | .error num => ∃ L, e = .returned (.pointer (some ⟨L, 0, none⟩)) ∧ Blk w' L 73 #[.int .i64 110, .int .i64 num, .slice none 0 0, .int .i64 0] ∧ Grw K R none w w'
  | .ok q => ∃ fa fc a c, e = .returned (.pointer none) ∧ ReadAt K R S after w w' q fa fc a c
set_option maxHeartbeats 2000000 in
theorem givenUp_read (K R Rb S : Nat) (after : Int) (ls : List Ln) (hok : ∀ l ∈ ls, WsOK l.2) (hlen : ls.length ≤ 999990) (w : World) (hRb : Blk w Rb 102 #[.pointer (some ⟨R, 0, none⟩)]) (hS : Blk w S 25 #[.int .i64 0, .slice none 0 0]) (hKS : K ≤ S) (hrd : RdAt K R w ls after (.slice none 0 0)) :
    Calls Tryz.prog 37 #[.func (.func 51) #[] #[.pointer (some ⟨Rb, 0, none⟩), .pointer (some ⟨S, 0, none⟩)]] w (GrPost K R S after w (schemaP after ls [])) := by
  have hmf : ∀ (fn : Fn) (first cap : Array Value) (w : World), (Instr.makeFunc fn first cap).run Tryz.prog w = .ok (.func fn first cap) w := fun _ _ _ _ => rfl
  have hb1 := (Below.refl w.heap.size w).alloc (Nat.le_refl _) (.cells #[.pointer none] 69)
  have hN1 := Blk.new w 69 #[.pointer none]
  have hc := parse1_any K R Rb S after ls hok hlen _ (hRb.old hb1) (hS.old hb1) hKS (hrd.kp hb1.size fun k hk => hb1.block k (by have := hrd.hK; omega))
  generalize schemaP after ls [] = r at hc ⊢
  have hR := hrd.hR
  have hKw := hrd.hK
  have hSl := hS.lt
  have HSZ : Hid (w.heap.size < (w.alloc (.cells #[.pointer none] 69)).heap.size) := hN1.lt
  clear hS hRb hrd hok hlen
  go_enter_defers Tryz.func37, Tryz.ntmps37
  go_wp2_with fail
  generalize w.alloc (.cells #[.pointer none] 69) = w1 at *
  refine hc.mono ?_
  clear hc
  intro e w2 hp
  cases r with
  | error num =>
    obtain ⟨rfl, hg⟩ := hp
    have hN2 : Blk w2 w.heap.size 69 #[.pointer none] := (hg.block _ HSZ.out (by omega) (by simp)).trans hN1
    have HG : Hid (Grw K R none w1 w2) := hg
    unfold lostL
    clear hg
    go_wp2
    refine leaves_cons (f := 66) (args := #[.pointer (some ⟨w.heap.size, 0, none⟩)]) (by simp) (by simp [go_sem]) ?_
    refine (giv_line w.heap.size num _ w2 hN2).mono ?_
    rintro e u' w3 ⟨rfl, rfl, rfl⟩
    have hN3 := hN2.set 0 (.pointer (some ⟨w2.heap.size, 0, none⟩))
    have hz : (w2.setCell ⟨w.heap.size, 0, none⟩ (.pointer (some ⟨w2.heap.size, 0, none⟩))).heap.size = w2.heap.size := by simp [World.setCell]
    have hb4 := (Below.refl _ (w2.setCell ⟨w.heap.size, 0, none⟩ (.pointer (some ⟨w2.heap.size, 0, none⟩)))).alloc (Nat.le_refl _) (.cells #[.int .i64 110, .int .i64 num, .slice none 0 0, .int .i64 0] 73)
    have hN4 := Blk.new (w2.setCell ⟨w.heap.size, 0, none⟩ (.pointer (some ⟨w2.heap.size, 0, none⟩))) 73 #[.int .i64 110, .int .i64 num, .slice none 0 0, .int .i64 0]
    rw [hz] at hN4
    have hO := (Oth.set w.heap.size 0 w2 (.pointer (some ⟨w2.heap.size, 0, none⟩))).trans (Oth.of (B := w.heap.size) hb4)
    have hg := HG.out
    exact ⟨_, giv_results (hN3.old hb4) rfl, _, rfl, hN4, hO.os.trans (hg.os.trans hb1.os), hO.tape.trans (hg.tape.trans hb1.tape), hO.output.trans (hg.output.trans hb1.output), Nat.le_trans hb1.size (Nat.le_trans hg.size hO.size), fun k hk hkR _ => (hO.block k (by have := hb1.size; have := hg.size; omega) (by omega)).trans ((hg.block k (by have := hb1.size; omega) hkR (by simp)).trans (hb1.block k hk))⟩
  | ok q =>
    obtain ⟨fa, fc, a, c, rfl, hra⟩ := hp
    have hN2 : Blk w2 w.heap.size 69 #[.pointer none] := (hra.block _ HSZ.out (by omega) (by omega)).trans hN1
    have c0 := hN2.cell 0
    have f0 := hN2.frozen 0
    have hN3 := hN2.set 0 (.pointer none)
    have HRA : Hid (ReadAt K R S after w1 w2 q fa fc a c) := hra
    clear hra
    go_wp2
    refine leaves_cons (f := 66) (args := #[.pointer (some ⟨w.heap.size, 0, none⟩)]) (by simp) (by simp [go_sem]) ?_
    refine (giv_idle w.heap.size _).mono ?_
    rintro e u' w3 ⟨rfl, rfl, hb4⟩
    have hra := HRA.out
    have hO := (Oth.set w.heap.size 0 w2 (.pointer none)).trans (Oth.of (B := w.heap.size) hb4)
    have hz1 := hb1.size
    have hz2 := hra.size
    have hne : ∀ {b : Nat} {t : TypeId} {cs : Array Value} {f : Nat × Nat}, w2.heap[b]? = some (.cells cs t f) → t ≠ 69 → b ≠ w.heap.size := by
      rintro b t cs f hb ht rfl
      rw [show w2.heap[w.heap.size]? = _ from hN2] at hb
      cases hb
      exact ht rfl
    refine ⟨_, giv_results (hN3.old hb4) rfl, fa, fc, a, c, rfl, (hO.block S hra.sch.lt (by omega)).trans hra.sch, hra.cap, ?_, ?_, ?_, hO.os.trans (hra.os.trans hb1.os), hO.tape.trans (hra.tape.trans hb1.tape), hO.output.trans (hra.output.trans hb1.output), Nat.le_trans hz1 (Nat.le_trans hz2 hO.size), fun k hk hkR hkS => (hO.block k (by omega) (by omega)).trans ((hra.block k (by omega) hkR hkS).trans (hb1.block k hk))⟩
    · exact hra.ft.kept hz1 fun b _ _ hb => ⟨hO.block b hb.lt (by obtain ⟨cs, f, hb⟩ := hb; exact hne hb (by decide)), by simp⟩
    · exact hra.rd.kp hO.size fun k hk => hO.block k (by have := hra.rd.hK; omega) (by omega)
    · refine own_same hra.own fun j hj => ?_
      obtain ⟨_, cs, f, hh⟩ := own_ge hra.own hj
      exact hO.block j (Array.getElem?_eq_some_iff.1 hh).1 (hne hh (by decide))
end Go.Proofs.YtcbjnifoojjipaaGreatDoor
