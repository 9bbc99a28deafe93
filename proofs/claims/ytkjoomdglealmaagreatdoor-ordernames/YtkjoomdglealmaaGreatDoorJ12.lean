/- Contracts and lemmas (nothing is claimed here). -/
import Derived.Test.YtkjoomdglealmaaGreatDoorJ11
import Derived.Test.YtkjoomdglealmaaGreatDoorJ4
import Derived.Test.YtkjoomdglealmaaGreatDoorJ5
namespace Go.Proofs.YtkjoomdglealmaaGreatDoor
open Go.RowKit Go.Vf

set_option maxHeartbeats 1000000 in
theorem giv_idle (B : Nat) (w : World) :
    CallsD Tryz.prog 136 #[.pointer (some ⟨B, 0, none⟩)] .returning w fun e u' w' => e = .returned (.tuple #[]) ∧ u' = .returning ∧ Below w.heap.size w w' := by
  have hta : ∀ w : World, (Instr.typeAssert .nilIface 20 136 true).run Tryz.prog w = .ok (.tuple #[.agg #[.int .i64 0, .int .i64 0, .slice none 0 0, .int .i64 0], .bool false]) w := fun w => by kernel_rfl
  have hb0 := (Below.refl w.heap.size w).alloc (Nat.le_refl _) (.cells #[.int .i64 0, .int .i64 0, .slice none 0 0, .int .i64 0] 136)
  refine callsD_of_wpS Tryz.func136 rfl fun c₀ cs hu => ?_
  apply wpS_seq
  apply wpS_region
  simp [wpOpsS, go_sem, recoverD, hu, Tryz.ntmps136, Exit.thenS, Array.replicate]
  refine wpS_of_wp ?_
  go_wp2
  exact ⟨rfl, _, rfl, _, by simp [results, Tryz.results136], rfl, hu, hb0⟩

set_option maxHeartbeats 1000000 in
theorem giv_catch (B : Nat) (why : Int) (a : Option Addr) (n c : Nat) (m : Int) (v0 : Value) (w : World) (hB : Blk w B 133 #[v0]) :
    CallsD Tryz.prog 136 #[.pointer (some ⟨B, 0, none⟩)] (.panicking [{ v := lostF why a n c m, recovered := false }]) w fun e u' w' =>
      e = .returned (.tuple #[]) ∧ u' = .panicking [{ v := lostF why a n c m, recovered := true }] ∧ w' = (w.setCell ⟨B, 0, none⟩ (.pointer (some ⟨w.heap.size, 0, none⟩))).alloc (.cells #[.int .i64 why, .int .i64 0, .slice a n c, .int .i64 m] 136) := by
  have hta : ∀ w : World, (Instr.typeAssert (lostF why a n c m) 20 136 true).run Tryz.prog w = .ok (.tuple #[.agg #[.int .i64 why, .int .i64 0, .slice a n c, .int .i64 m], .bool true]) w := fun w => by kernel_rfl
  have hb0 := (Below.refl w.heap.size w).alloc (Nat.le_refl _) (.cells #[.int .i64 why, .int .i64 0, .slice a n c, .int .i64 m] 136)
  have hBl := hB.lt
  have hB1 := hB.old hb0
  have k0 := hB1.cell 0
  have k1 := hB1.frozen 0
  refine callsD_of_wpS Tryz.func136 rfl fun c₀ cs hu => ?_
  apply wpS_seq
  apply wpS_region
  simp [wpOpsS, go_sem, recoverD, hu, Tryz.ntmps136, Exit.thenS, Array.replicate]
  refine wpS_of_wp ?_
  go_wp2
  exact ⟨rfl, _, rfl, _, by simp [results, Tryz.results136], rfl, rfl, rfl⟩

def CheckPost (r : Int × List Int) (w : World) (e : Ending) (w' : World) : Prop :=
  Below w.heap.size w w' ∧ ((r.1 = 0 ∧ e = .returned (.pointer none)) ∨ (r.1 ≠ 0 ∧ ∃ L a c m, e = .returned (.pointer (some ⟨L, 0, none⟩)) ∧ Blk w' L 136 #[.int .i64 r.1, .int .i64 0, .slice a r.2.length c, .int .i64 m] ∧ IOwn w' w.heap.size (.slice a r.2.length c) r.2))
theorem giv_results {tmps : Array Value} {w : World} {h : Nat} {v : Value} (hb : Blk w h 133 #[v]) (t2 : tmps[2]?.getD undef = .pointer (some ⟨h, 0, none⟩)) :
    (results Tryz.f100 tmps).run Tryz.prog w = .ok v w := by
  have c0 := hb.cell 0
  simp [results, Tryz.results100, go_sem, t2, c0]
set_option maxHeartbeats 2000000 in
theorem givenUp_check (limit : Int) (l : List Fld) (aa : Option Addr) (ca lo n₀ S : Nat) (w : World) (hca : l.length ≤ ca) (hfit : ∀ x ∈ l, FitsF 17179869184 x) (hll : l.length ≤ 17179869184) (hn₀ : n₀ ≤ w.heap.size) (hS : Blk w S 24 #[.int .i64 limit, .slice aa l.length ca]) (hin : FIn w lo n₀ l aa) :
    Calls Tryz.prog 100 #[.func (.func 101) #[] #[.pointer (some ⟨S, 0, none⟩)]] w (CheckPost (chkS bndQ limit l) w) := by
  have hmf : ∀ (fn : Fn) (first cap : Array Value) (w : World), (Instr.makeFunc fn first cap).run Tryz.prog w = .ok (.func fn first cap) w := fun _ _ _ _ => rfl
  have hb1 := (Below.refl w.heap.size w).alloc (Nat.le_refl _) (.cells #[.pointer none] 133)
  have hN1 := Blk.new w 133 #[.pointer none]
  have hc := check1_any limit l aa ca lo n₀ S (w.alloc (.cells #[.pointer none] 133)) hca hfit hll (by have := hb1.size; omega) (hS.old hb1) (hin.keep hb1 hn₀)
  generalize chkS bndQ limit l = r at hc ⊢
  clear hS hin hfit
  go_enter_defers Tryz.func100, Tryz.ntmps100
  go_wp2_with fail
  generalize w.alloc (.cells #[.pointer none] 133) = w1 at *
  refine hc.mono ?_
  rintro e w2 (⟨h0, rfl, hb2⟩ | ⟨hne, a, c, m, he, ho, hb2⟩)
  · have hN2 := hN1.old hb2
    have c0 := hN2.cell 0
    have f0 := hN2.frozen 0
    have hb02 := hb1.trans (hb2.mono hb1.size)
    have hN3 := hN2.set 0 (.pointer none)
    have hb3 : Below w.heap.size w (w2.setCell ⟨w.heap.size, 0, none⟩ (.pointer none)) := hb02.setCell (p := ⟨w.heap.size, 0, none⟩) (Nat.le_refl _) _
    go_wp2
    refine leaves_cons (f := 136) (args := #[.pointer (some ⟨w.heap.size, 0, none⟩)]) (by simp) (by simp [go_sem]) ?_
    refine (giv_idle w.heap.size _).mono ?_
    rintro e u' w3 ⟨rfl, rfl, hb4⟩
    exact ⟨_, giv_results (hN3.old hb4) rfl, hb3.trans (hb4.mono hb3.size), .inl ⟨h0, rfl⟩⟩
  · have hN2 := hN1.old hb2
    have hb02 := hb1.trans (hb2.mono hb1.size)
    unfold lostG at he
    subst he
    go_wp2
    refine leaves_cons (f := 136) (args := #[.pointer (some ⟨w.heap.size, 0, none⟩)]) (by simp) (by simp [go_sem]) ?_
    refine (giv_catch w.heap.size r.1 a r.2.length c m _ w2 hN2).mono ?_
    rintro e u' w3 ⟨rfl, rfl, rfl⟩
    have hN3 := hN2.set 0 (.pointer (some ⟨w2.heap.size, 0, none⟩))
    have hz : (w2.setCell ⟨w.heap.size, 0, none⟩ (.pointer (some ⟨w2.heap.size, 0, none⟩))).heap.size = w2.heap.size := by simp [World.setCell]
    have hb4 := (Below.refl _ (w2.setCell ⟨w.heap.size, 0, none⟩ (.pointer (some ⟨w2.heap.size, 0, none⟩)))).alloc (Nat.le_refl _) (.cells #[.int .i64 r.1, .int .i64 0, .slice a r.2.length c, .int .i64 m] 136)
    have hN4 := Blk.new (w2.setCell ⟨w.heap.size, 0, none⟩ (.pointer (some ⟨w2.heap.size, 0, none⟩))) 136 #[.int .i64 r.1, .int .i64 0, .slice a r.2.length c, .int .i64 m]
    rw [hz] at hN4
    have ho3 : IOwn (w2.setCell ⟨w.heap.size, 0, none⟩ (.pointer (some ⟨w2.heap.size, 0, none⟩))) w1.heap.size (.slice a r.2.length c) r.2 := own_setCell ho (by show w.heap.size < w1.heap.size; exact hN1.lt) _
    have hb3 : Below w.heap.size w (w2.setCell ⟨w.heap.size, 0, none⟩ (.pointer (some ⟨w2.heap.size, 0, none⟩))) := hb02.setCell (p := ⟨w.heap.size, 0, none⟩) (Nat.le_refl _) _
    exact ⟨_, giv_results (hN3.old hb4) rfl, hb3.trans (hb4.mono hb3.size), .inr ⟨hne, _, a, c, m, rfl, hN4, IOwn.mono (own_after ho3 hb4) hb1.size⟩⟩

theorem check_post (limit : Int) (l : List Fld) (aa : Option Addr) (ca lo n₀ : Nat) (w : World) (hca : l.length ≤ ca) (hfit : ∀ x ∈ l, FitsF 17179869184 x) (hll : l.length ≤ 17179869184) (hn₀ : n₀ ≤ w.heap.size) (hin : FIn w lo n₀ l aa) :
    Calls Tryz.prog 68 #[.agg #[.int .i64 limit, .slice aa l.length ca]] w (CheckPost (chkS bndQ limit l) w) := by
  have hmf : ∀ (fn : Fn) (first cap : Array Value) (w : World), (Instr.makeFunc fn first cap).run Tryz.prog w = .ok (.func fn first cap) w := fun _ _ _ _ => rfl
  have hb1 := (Below.refl w.heap.size w).alloc (Nat.le_refl _) (.cells #[.int .i64 limit, .slice aa l.length ca] 24)
  have hN1 := Blk.new w 24 #[.int .i64 limit, .slice aa l.length ca]
  have hc := givenUp_check limit l aa ca lo n₀ w.heap.size _ hca hfit hll (by have := hb1.size; omega) hN1 (hin.keep hb1 hn₀)
  generalize chkS bndQ limit l = r at hc ⊢
  clear hin hfit hN1
  go_enter Tryz.func68, Tryz.ntmps68
  go_wp2_with fail
  refine hc.mono ?_
  rintro e w2 ⟨hb2, ⟨h0, rfl⟩ | ⟨hne, L, a, c, m, rfl, hL, ho⟩⟩
  · go_wp2
    go_ret
    exact ⟨hb1.trans (hb2.mono hb1.size), .inl ⟨h0, rfl⟩⟩
  · go_wp2
    go_ret
    exact ⟨hb1.trans (hb2.mono hb1.size), .inr ⟨hne, L, a, c, m, rfl, hL, ho.mono hb1.size⟩⟩
def FaultAt (w : World) (base : Nat) (v : Value) (code at' : Int) (P : List Int) (why : Value) : Prop := ∃ F a c, v = .iface 98 (.pointer (some ⟨F, 0, none⟩)) ∧ base ≤ F ∧ Blk w F 100 #[.int .i64 code, .int .i64 at', .slice a P.length c, why] ∧ IOwn w base (.slice a P.length c) P ∧ some F ≠ (Value.slice a P.length c).ownBlock
def SCheckPost (r : Int × List Int) (w : World) (e : Ending) (w' : World) : Prop :=
  Below w.heap.size w w' ∧ ((r.1 = 0 ∧ e = .returned .nilIface) ∨ (r.1 ≠ 0 ∧ ∃ v, e = .returned v ∧ FaultAt w' w.heap.size v r.1 0 r.2 .nilIface))
set_option maxHeartbeats 2000000 in
theorem scheck_any (limit : Int) (l : List Fld) (aa : Option Addr) (ca lo n₀ : Nat) (w : World) (hca : l.length ≤ ca) (hfit : ∀ x ∈ l, FitsF 17179869184 x) (hll : l.length ≤ 17179869184) (hn₀ : n₀ ≤ w.heap.size) (hin : FIn w lo n₀ l aa) :
    Calls Tryz.prog 45 #[.agg #[.int .i64 limit, .slice aa l.length ca]] w (SCheckPost (chkS bndQ limit l) w) := by
  have hb1 := (Below.refl w.heap.size w).alloc (Nat.le_refl _) (.cells #[.int .i64 limit, .slice aa l.length ca] 24)
  have hc := check_post limit l aa ca lo n₀ _ hca hfit hll (by have := hb1.size; omega) (hin.keep hb1 hn₀)
  generalize chkS bndQ limit l = r at hc ⊢
  clear hin hfit
  go_enter Tryz.func45, Tryz.ntmps45
  go_wp2_with fail
  refine hc.mono ?_
  rintro e w2 ⟨hb2, ⟨h0, rfl⟩ | ⟨hne, L, a, c, m, rfl, hL, ho⟩⟩
  · go_wp2
    go_ret
    exact ⟨hb1.trans (hb2.mono hb1.size), .inl ⟨h0, rfl⟩⟩
  · have hb02 := hb1.trans (hb2.mono hb1.size)
    obtain ⟨c0, c1, c2, c3⟩ : w2.cell? ⟨L, 0, none⟩ = some (.int .i64 r.1) ∧ w2.cell? ⟨L, 1, none⟩ = some (.int .i64 0) ∧ w2.cell? ⟨L, 2, none⟩ = some (.slice a r.2.length c) ∧ w2.cell? ⟨L, 3, none⟩ = some (.int .i64 m) := ⟨hL.cell 0, hL.cell 1, hL.cell 2, hL.cell 3⟩
    have hb3 := (Below.refl w2.heap.size w2).alloc (Nat.le_refl _) (.cells #[.int .i64 r.1, .int .i64 0, .slice a r.2.length c, .nilIface] 100)
    have hN3 := Blk.new w2 100 #[.int .i64 r.1, .int .i64 0, .slice a r.2.length c, .nilIface]
    have ho3 : IOwn (w2.alloc (.cells #[.int .i64 r.1, .int .i64 0, .slice a r.2.length c, .nilIface] 100)) w.heap.size (.slice a r.2.length c) r.2 := IOwn.mono (own_after ho hb3) hb1.size
    have hne2 : some w2.heap.size ≠ (Value.slice a r.2.length c).ownBlock := fun e => by
      obtain ⟨_, cs, f, hh⟩ := own_ge ho e.symm
      have := (Array.getElem?_eq_some_iff.1 hh).1
      omega
    go_upto_region 3 with fail
    go_region
    go_wp2
    go_ret
    exact ⟨(hb02.trans (hb3.mono hb02.size)).drew, .inr ⟨hne, _, rfl, _, a, c, rfl, hb02.size, hN3, ho3, hne2⟩⟩

end Go.Proofs.YtkjoomdglealmaaGreatDoor

namespace Go.Proofs.YtkjoomdglealmaaGreatDoor
open Go.RowKit Go.Vf

theorem mKindT (y : Bool) (w : World) : (method 525 128 (.agg #[.bool y]) "Kind").run Tryz.prog w = .ok (339, .agg #[.bool y]) w := by kernel_rfl
theorem mKindN (b : Bool) (m : ByteArray) (w : World) : (method 525 130 (.agg #[.bool b, .string m]) "Kind").run Tryz.prog w = .ok (341, .agg #[.bool b, .string m]) w := by kernel_rfl
theorem mKindR (k : Int) (r : ByteArray) (w : World) : (method 525 132 (.agg #[.int .u8 k, .string r]) "Kind").run Tryz.prog w = .ok (345, .agg #[.int .u8 k, .string r]) w := by kernel_rfl
theorem mKindU (a : Addr) (w : World) : (method 525 112 (.pointer (some a)) "Kind").run Tryz.prog w = .ok (336, .pointer (some a)) w := by kernel_rfl
theorem mNumN (b : Bool) (m : ByteArray) (w : World) : (method 525 130 (.agg #[.bool b, .string m]) "Num").run Tryz.prog w = .ok (342, .agg #[.bool b, .string m]) w := by kernel_rfl
theorem mBytesR (k : Int) (r : ByteArray) (w : World) : (method 525 132 (.agg #[.int .u8 k, .string r]) "Bytes").run Tryz.prog w = .ok (344, .agg #[.int .u8 k, .string r]) w := by kernel_rfl
theorem mLenU (a : Addr) (w : World) : (method 525 112 (.pointer (some a)) "Len").run Tryz.prog w = .ok (337, .pointer (some a)) w := by kernel_rfl
theorem mAtU (a : Addr) (w : World) : (method 525 112 (.pointer (some a)) "At").run Tryz.prog w = .ok (335, .pointer (some a)) w := by kernel_rfl
theorem num_results {tmps : Array Value} {w : World} {h : Nat} {a b : Value} (hb : Blk w h 27 #[a, b]) (t2 : tmps[2]?.getD undef = .pointer (some ⟨h, 0, none⟩)) :
    (results Tryz.f342 tmps).run Tryz.prog w = .ok (.agg #[a, b]) w := by
  have c0 := hb.cell 0
  have c1 := hb.cell 1
  simp at c0 c1
  simp [results, Tryz.results342, go_sem, t2, c0, c1]
theorem numNum (b : Bool) (m : ByteArray) (w : World) : Calls Tryz.prog 342 #[.agg #[.bool b, .string m]] w fun e w' => e = .returned (.agg #[.bool b, .string m]) ∧ Below w.heap.size w w' := by
  have hb1 := (Below.refl w.heap.size w).alloc (Nat.le_refl _) (.cells #[.bool b, .string m] 130)
  have hb2 := hb1.alloc hb1.size (.cells #[.bool b, .string m] 27)
  have hB := Blk.new (w.alloc (.cells #[.bool b, .string m] 130)) 27 #[.bool b, .string m]
  rw [alloc_size] at hB
  go_enter Tryz.func342, Tryz.ntmps342
  go_wp2_with fail
  exact bodyPost_ret (num_results hB (by simp)) rfl ⟨rfl, hb2⟩
theorem atTup (g : Nat) (h off n c j : Nat) (v d : Value) (hj : j < n) (_hn : n ≤ 281474976710656) (w : World) (hB : Blk w g 116 #[.slice (some ⟨h, off, none⟩) n c, d]) (hv : w.cell? ⟨h, off + j, none⟩ = some v) : Calls Tryz.prog 335 #[.pointer (some ⟨g, 0, none⟩), .int .i64 (j : Int)] w fun e w' => e = .returned v ∧ w' = w := by
  have c0 := hB.cell 0
  have t1 : decide ((j : Int) < 0) = false := by simp
  have t2 : decide ((n : Int) ≤ (j : Int)) = false := by simp; omega
  have t3 : decide (n ≤ j) = false := by simp; omega
  go_enter Tryz.func335, Tryz.ntmps335
  go_wp2_with fail
  go_ret
  exact ⟨rfl, rfl⟩
theorem bytesRaw (k : Int) (r : ByteArray) (w : World) : Calls Tryz.prog 344 #[.agg #[.int .u8 k, .string r]] w fun e w' => e = .returned (.string r) ∧ Below w.heap.size w w' := by
  go_enter Tryz.func344, Tryz.ntmps344
  go_wp2_with fail
  go_ret
  exact ⟨rfl, (Below.refl _ _).alloc (Nat.le_refl _) _⟩
theorem lenTup (g : Nat) (a : Option Addr) (n c : Nat) (d : Value) (w : World) (h : Blk w g 116 #[.slice a n c, d]) : Calls Tryz.prog 337 #[.pointer (some ⟨g, 0, none⟩)] w fun e w' => e = .returned (.int .i64 (n : Int)) ∧ w' = w := by
  have c0 := h.cell 0
  go_enter Tryz.func337, Tryz.ntmps337
  go_wp2_with fail
  go_ret
  exact ⟨rfl, rfl⟩
theorem kindTup (g : Nat) (w : World) : Calls Tryz.prog 336 #[.pointer (some ⟨g, 0, none⟩)] w fun e w' => e = .returned (.int .u8 7) ∧ w' = w := by
  go_enter Tryz.func336, Tryz.ntmps336
  go_wp2_with fail
  go_ret
  exact ⟨rfl, rfl⟩
theorem kindTruth (y : Bool) (w : World) : Calls Tryz.prog 339 #[.agg #[.bool y]] w fun e w' => e = .returned (.int .u8 1) ∧ Below w.heap.size w w' := by
  go_enter Tryz.func339, Tryz.ntmps339
  go_wp2_with fail
  go_ret
  exact ⟨rfl, (Below.refl _ _).alloc (Nat.le_refl _) _⟩
theorem kindNum (b : Bool) (m : ByteArray) (w : World) : Calls Tryz.prog 341 #[.agg #[.bool b, .string m]] w fun e w' => e = .returned (.int .u8 2) ∧ Below w.heap.size w w' := by
  go_enter Tryz.func341, Tryz.ntmps341
  go_wp2_with fail
  go_ret
  exact ⟨rfl, (Below.refl _ _).alloc (Nat.le_refl _) _⟩
theorem kindRaw (k : Int) (r : ByteArray) (w : World) : Calls Tryz.prog 345 #[.agg #[.int .u8 k, .string r]] w fun e w' => e = .returned (.int .u8 k) ∧ Below w.heap.size w w' := by
  go_enter Tryz.func345, Tryz.ntmps345
  go_wp2_with fail
  go_ret
  exact ⟨rfl, (Below.refl _ _).alloc (Nat.le_refl _) _⟩
def wnt (k pk : Int) : Int := if 7 < k then 1 else if pk = k then 0 else 4

theorem kindOf_any (v : Value) (p : Prt) (lo n₀ : Nat) (w : World) (h : VIn w lo n₀ v p) : Calls Tryz.prog 105 #[v] w fun e w' => e = .returned (.int .u8 p.kind) ∧ Below w.heap.size w w' := by
  have m1 := mKindT
  have m2 := mKindN
  have m3 := mKindR
  have m4 := mKindU
  cases h
  case null =>
    go_enter Tryz.func105, Tryz.ntmps105
    go_wp2_with fail
    go_ret
    exact ⟨rfl, Below.refl _ _⟩
  case truth y =>
    have hk := kindTruth y w
    go_enter Tryz.func105, Tryz.ntmps105
    go_wp2_with fail
    refine hk.mono ?_
    rintro _ w2 ⟨rfl, hb⟩
    go_wp2_with fail
    go_ret
    exact ⟨rfl, hb⟩
  case num b m =>
    have hk := kindNum b m w
    go_enter Tryz.func105, Tryz.ntmps105
    go_wp2_with fail
    refine hk.mono ?_
    rintro _ w2 ⟨rfl, hb⟩
    go_wp2_with fail
    go_ret
    exact ⟨rfl, hb⟩
  case raw k r _ =>
    have hk := kindRaw k r w
    go_enter Tryz.func105, Tryz.ntmps105
    go_wp2_with fail
    refine hk.mono ?_
    rintro _ w2 ⟨rfl, hb⟩
    go_wp2_with fail
    go_ret
    exact ⟨rfl, hb⟩
  case tup =>
    rename_i l g c a V h1 h2 h3 h4 h5
    have hk := kindTup g w
    clear h3 h4 h5
    go_enter Tryz.func105, Tryz.ntmps105
    go_wp2_with fail
    refine hk.mono ?_
    rintro _ _ ⟨rfl, rfl⟩
    go_wp2_with fail
    go_ret
    exact ⟨rfl, Below.refl _ _⟩

def WantE (v : Value) (r : Int) (e : Ending) (w' : World) : Prop :=
  (r = 0 ∧ e = .returned (.tuple #[v, .nilIface])) ∨ (r ≠ 0 ∧ ∃ b, e = .returned (.tuple #[.nilIface, .iface 98 (.pointer (some ⟨b, 0, none⟩))]) ∧ Blk w' b 100 #[.int .i64 r, .int .i64 0, .slice none 0 0, .nilIface])

set_option maxHeartbeats 4000000 in
theorem want_any (v : Value) (p : Prt) (k : Int) (_hk0 : 0 ≤ k) (_hk1 : k < 256) (_hp0 : 0 ≤ p.kind) (lo n₀ : Nat) (w : World) (h : VIn w lo n₀ v p) : Calls Tryz.prog 70 #[v, .int .u8 k] w fun e w' => WantE v (wnt k p.kind) e w' ∧ Below w.heap.size w w' := by
  have hk := kindOf_any v p lo n₀ w h
  clear h
  unfold wnt
  by_cases h7 : 7 < k
  · have t : decide (7 < k) = true := decide_eq_true h7
    have hb := (Below.refl w.heap.size w).alloc (Nat.le_refl _) (.cells #[.int .i64 1, .int .i64 0, .slice none 0 0, .nilIface] 100)
    have hB := Blk.new w 100 #[.int .i64 1, .int .i64 0, .slice none 0 0, .nilIface]
    rw [if_pos h7]
    clear hk
    go_enter Tryz.func70, Tryz.ntmps70
    go_wp2_with fail
    go_ret2
    exact ⟨Or.inr ⟨by decide, _, rfl, hB⟩, hb⟩
  have t : decide (7 < k) = false := decide_eq_false h7
  rw [if_neg h7]
  generalize p.kind = K at *
  by_cases hK : K = k
  · have t2 : decide (K = k) = true := decide_eq_true hK
    have t3 : (K == k) = true := by simpa using hK
    rw [if_pos hK]
    go_enter Tryz.func70, Tryz.ntmps70
    go_wp2_with fail
    refine hk.mono ?_
    rintro _ w2 ⟨rfl, hb⟩
    go_wp2_with fail
    go_ret2
    exact ⟨Or.inl ⟨rfl, rfl⟩, hb⟩
  · have t2 : decide (K = k) = false := decide_eq_false hK
    have t3 : (K == k) = false := by simpa using hK
    rw [if_neg hK]
    go_enter Tryz.func70, Tryz.ntmps70
    go_wp2_with fail
    refine hk.mono ?_
    rintro _ w2 ⟨rfl, hb⟩
    have hb2 := hb.alloc hb.size (.cells #[.int .i64 4, .int .i64 0, .slice none 0 0, .nilIface] 100)
    have hB := Blk.new w2 100 #[.int .i64 4, .int .i64 0, .slice none 0 0, .nilIface]
    go_wp2_with fail
    go_ret2
    exact ⟨Or.inr ⟨by decide, _, rfl, hB⟩, hb2⟩


end Go.Proofs.YtkjoomdglealmaaGreatDoor

namespace Go.Proofs.YtkjoomdglealmaaGreatDoor
open Go.RowKit Go.Vf

def PlainPost (code at' : Int) (why : Value) (w : World) (e : Ending) (w' : World) : Prop :=
  Below w.heap.size w w' ∧ ((code = 0 ∧ e = .returned .nilIface) ∨ (code ≠ 0 ∧ ∃ v, e = .returned v ∧ FaultAt w' w.heap.size v code at' [] why))
theorem fault_new (w W : World) (hb : Below w.heap.size w W) (code at' : Int) (why : Value) : FaultAt (W.alloc (.cells #[.int .i64 code, .int .i64 at', .slice none 0 0, why] 100)) w.heap.size (.iface 98 (.pointer (some ⟨W.heap.size, 0, none⟩))) code at' [] why :=
  ⟨W.heap.size, none, 0, rfl, hb.size, Blk.new W 100 _, IOwn.nil _ _, by simp [Value.ownBlock]⟩
theorem unfitNull_any (o : Own) (a : Option Addr) (n c : Nat) (w : World) : Calls Tryz.prog 69 #[fV o a n c] w (PlainPost (if o.nulls = 0 then 121 else 0) 0 .nilIface w) := by
  have hb1 := (Below.refl w.heap.size w).alloc (Nat.le_refl _) (.cells (cellsF o a n c) 57)
  unfold fV
  by_cases h : o.nulls = 0
  · have t : (o.nulls == 0) = true := by simpa using h
    rw [if_pos h]
    have hF := fault_new w _ hb1 121 0 .nilIface
    rw [alloc_size] at hF
    have hb2 := hb1.alloc hb1.size (.cells #[.int .i64 121, .int .i64 0, .slice none 0 0, .nilIface] 100)
    simp only [cellsF] at hb1 hF hb2
    clear h
    go_enter Tryz.func69, Tryz.ntmps69
    go_wp2_with fail
    go_ret
    exact ⟨hb2, .inr ⟨by decide, _, rfl, hF⟩⟩
  · have t : (o.nulls == 0) = false := by simpa using h
    rw [if_neg h]
    simp only [cellsF] at hb1
    clear h
    go_enter Tryz.func69, Tryz.ntmps69
    go_wp2_with fail
    go_ret
    exact ⟨hb1, .inl ⟨rfl, rfl⟩⟩
theorem above_any (ba : Bool) (a : ByteArray) (bb : Bool) (b : ByteArray) (ha : a.size ≤ 17179869184) (hb : b.size ≤ 17179869184) (h1 : chk ba a.data.toList = 0) (h2 : chk bb b.data.toList = 0) (w : World) :
    Calls Tryz.prog 110 #[.agg #[.bool ba, .string a], .agg #[.bool bb, .string b]] w fun e w' => e = .returned (.bool (decide (0 < cmpN ba a.data.toList bb b.data.toList))) ∧ Below w.heap.size w w' := by
  have hcp : ∀ W, Calls Tryz.prog 146 #[.agg #[.bool ba, .string a], .agg #[.bool bb, .string b]] W fun e w' => e = compE ba a.data.toList bb b.data.toList ∧ Below W.heap.size W w' := fun W => compare_any ba a bb b ha hb W
  rw [compE_0 h1 h2] at hcp
  generalize cmpN ba a.data.toList bb b.data.toList = q at hcp ⊢
  have hb1 := ((Below.refl w.heap.size w).alloc (Nat.le_refl _) (.cells #[.bool ba, .string a] 27)).alloc (by simp) (.cells #[.bool bb, .string b] 27)
  go_enter Tryz.func110, Tryz.ntmps110
  go_wp2_with fail
  refine (hcp _).mono ?_
  rintro _ w2 ⟨rfl, hb2⟩
  have hb3 := hb1.trans (hb2.mono hb1.size)
  clear hcp hb1 hb2
  go_wp2_with fail
  go_ret
  exact ⟨rfl, hb3⟩
theorem hasMost_any (k : Int) (w : World) : Calls Tryz.prog 106 #[.int .u8 k] w fun e w' => e = .returned (.bool (k == 3 || k == 5)) ∧ w = w' := by
  cases h1 : (k == 3) with
  | true =>
    go_enter Tryz.func106, Tryz.ntmps106
    go_wp2
    go_ret
    exact ⟨rfl, rfl⟩
  | false =>
    cases h2 : (k == 5) with
    | true =>
      go_enter Tryz.func106, Tryz.ntmps106
      go_wp2
      go_ret
      exact ⟨rfl, rfl⟩
    | false =>
      go_enter Tryz.func106, Tryz.ntmps106
      go_wp2
      go_ret
      exact ⟨rfl, rfl⟩
theorem isSpelt_any (k : Int) (w : World) : Calls Tryz.prog 107 #[.int .u8 k] w fun e w' => e = .returned (.bool (k == 5 || k == 6)) ∧ w = w' := by
  cases h1 : (k == 5) with
  | true =>
    go_enter Tryz.func107, Tryz.ntmps107
    go_wp2
    go_ret
    exact ⟨rfl, rfl⟩
  | false =>
    cases h2 : (k == 6) with
    | true =>
      go_enter Tryz.func107, Tryz.ntmps107
      go_wp2
      go_ret
      exact ⟨rfl, rfl⟩
    | false =>
      go_enter Tryz.func107, Tryz.ntmps107
      go_wp2
      go_ret
      exact ⟨rfl, rfl⟩

end Go.Proofs.YtkjoomdglealmaaGreatDoor

namespace Go.Vf

structure URow where
  first : Nat
  last : Nat
  low : Nat
  high : Nat
  size : Nat
  least : Nat
  most : Nat

def utab : Nat → URow
  | 0 => ⟨0x00, 0x7f, 0x00, 0x00, 1, 0x0000, 0x007f⟩
  | 1 => ⟨0xc2, 0xdf, 0x80, 0xbf, 2, 0x0080, 0x07ff⟩
  | 2 => ⟨0xe0, 0xe0, 0xa0, 0xbf, 3, 0x0800, 0x0fff⟩
  | 3 => ⟨0xe1, 0xec, 0x80, 0xbf, 3, 0x1000, 0xcfff⟩
  | 4 => ⟨0xed, 0xed, 0x80, 0x9f, 3, 0xd000, 0xd7ff⟩
  | 5 => ⟨0xee, 0xef, 0x80, 0xbf, 3, 0xe000, 0xffff⟩
  | 6 => ⟨0xf0, 0xf0, 0x90, 0xbf, 4, 0x10000, 0x3ffff⟩
  | 7 => ⟨0xf1, 0xf3, 0x80, 0xbf, 4, 0x40000, 0xfffff⟩
  | _ => ⟨0xf4, 0xf4, 0x80, 0x8f, 4, 0x100000, 0x10ffff⟩

def rowBU (c : Nat) : Option Nat :=
  if c ≤ 0x7f then some 0 else if c < 0xc2 then none else if c ≤ 0xdf then some 1 else if c = 0xe0 then some 2 else if c ≤ 0xec then some 3 else if c = 0xed then some 4
  else if c ≤ 0xef then some 5 else if c = 0xf0 then some 6 else if c ≤ 0xf3 then some 7 else if c = 0xf4 then some 8 else none

def rowPU (n : Int) : Option Nat :=
  if n < 0 then none else if n ≤ 0x7f then some 0 else if n ≤ 0x7ff then some 1 else if n ≤ 0xfff then some 2 else if n ≤ 0xcfff then some 3 else if n ≤ 0xd7ff then some 4
  else if n < 0xe000 then none else if n ≤ 0xffff then some 5 else if n ≤ 0x3ffff then some 6 else if n ≤ 0xfffff then some 7 else if n ≤ 0x10ffff then some 8 else none

theorem utab_nine (Q : Nat → Prop) (h : ∀ k, k < 9 → Q k) : Q 0 ∧ Q 1 ∧ Q 2 ∧ Q 3 ∧ Q 4 ∧ Q 5 ∧ Q 6 ∧ Q 7 ∧ Q 8 :=
  ⟨h 0 (by decide), h 1 (by decide), h 2 (by decide), h 3 (by decide), h 4 (by decide), h 5 (by decide), h 6 (by decide), h 7 (by decide), h 8 (by decide)⟩

theorem cases_nine {k : Nat} (h : k < 9) : k = 0 ∨ k = 1 ∨ k = 2 ∨ k = 3 ∨ k = 4 ∨ k = 5 ∨ k = 6 ∨ k = 7 ∨ k = 8 := by omega

theorem rowB_hit {c k : Nat} (hk : k < 9) (h1 : (utab k).first ≤ c) (h2 : c ≤ (utab k).last) : rowBU c = some k := by
  rcases cases_nine hk with rfl | rfl | rfl | rfl | rfl | rfl | rfl | rfl | rfl <;> simp only [utab] at h1 h2 <;> unfold rowBU <;>
    repeat (first | rw [if_pos (by omega)] | rw [if_neg (by omega)])

theorem rowB_miss {c : Nat} (h : ∀ k, k < 9 → ¬ ((utab k).first ≤ c ∧ c ≤ (utab k).last)) : rowBU c = none := by
  obtain ⟨h0, h1, h2, h3, h4, h5, h6, h7, h8⟩ := utab_nine _ h
  simp only [utab] at h0 h1 h2 h3 h4 h5 h6 h7 h8
  unfold rowBU
  rw [if_neg (by omega)]
  by_cases a : c < 0xc2
  · rw [if_pos a]
  · rw [if_neg a]
    repeat rw [if_neg (by omega)]

theorem rowP_hit {n : Int} {k : Nat} (hk : k < 9) (h1 : ((utab k).least : Int) ≤ n) (h2 : n ≤ ((utab k).most : Int)) : rowPU n = some k := by
  rcases cases_nine hk with rfl | rfl | rfl | rfl | rfl | rfl | rfl | rfl | rfl <;> simp only [utab] at h1 h2 <;> unfold rowPU <;>
    repeat (first | rw [if_pos (by omega)] | rw [if_neg (by omega)])

theorem rowB_lt {c k : Nat} (h : rowBU c = some k) : k < 9 ∧ (utab k).first ≤ c ∧ c ≤ (utab k).last := by
  unfold rowBU at h
  repeat' split at h
  all_goals (cases h <;> (simp only [utab]; omega))

def IsPt (p : Nat) : Prop := p < 0xd800 ∨ 0xe000 ≤ p ∧ p < 0x110000

def enc (p : Nat) : List UInt8 :=
  if p < 0x80 then [UInt8.ofNat p] else if p < 0x800 then [UInt8.ofNat (0xc0 + p / 64), UInt8.ofNat (0x80 + p % 64)]
  else if p < 0x10000 then [UInt8.ofNat (0xe0 + p / 4096), UInt8.ofNat (0x80 + p / 64 % 64), UInt8.ofNat (0x80 + p % 64)]
  else [UInt8.ofNat (0xf0 + p / 262144), UInt8.ofNat (0x80 + p / 4096 % 64), UInt8.ofNat (0x80 + p / 64 % 64), UInt8.ofNat (0x80 + p % 64)]

def encs : List Nat → List UInt8
  | [] => []
  | p :: ps => enc p ++ encs ps

theorem encs_append (a b : List Nat) : encs (a ++ b) = encs a ++ encs b := by
  induction a with
  | nil => rfl
  | cons p ps ih => simp [encs, ih]

theorem enc_pos (p : Nat) : 0 < (enc p).length := by unfold enc; split; simp; split; simp; split <;> simp
theorem enc_le (p : Nat) : (enc p).length ≤ 4 := by unfold enc; split; simp; split; simp; split <;> simp
theorem encs_length_ge (ps : List Nat) : ps.length ≤ (encs ps).length := by
  induction ps with
  | nil => simp
  | cons p ps ih => have := enc_pos p; simp [encs]; omega
def tailB (b : UInt8) : Bool := decide (128 ≤ b.toNat) && decide (b.toNat ≤ 191)
def secB (k : Nat) (l : List UInt8) : Bool := decide ((utab k).low ≤ (l[1]?.getD 0).toNat) && decide ((l[1]?.getD 0).toNat ≤ (utab k).high)
def wholeL (k : Nat) (l : List UInt8) : Bool := decide ((utab k).size ≤ l.length) && ((decide ((utab k).size ≤ 1) || secB k l) && ((l.take (utab k).size).drop 2).all tailB)

def noChar (l : List UInt8) : Prop := l ≠ [] ∧ ∀ k, rowBU (l[0]?.getD 0).toNat = some k → wholeL k l = false

def headOf (n : Nat) : Nat := if n = 2 then 0xc0 else if n = 3 then 0xe0 else if n = 4 then 0xf0 else 0
def accL (l : List UInt8) : Nat → Nat
  | 0 => 0
  | 1 => (l[0]?.getD 0).toNat - headOf l.length
  | i + 2 => accL l (i + 1) * 64 + ((l[i + 1]?.getD 0).toNat - 128)

theorem ofNat_toNat {n : Nat} (h : n < 256) : (UInt8.ofNat n).toNat = n := by simp [UInt8.toNat_ofNat']; omega

theorem enc_row {p : Nat} (hp : IsPt p) (t : List UInt8) : ∃ k, k < 9 ∧ rowBU ((enc p)[0]?.getD 0).toNat = some k ∧ rowPU p = some k ∧ (utab k).size = (enc p).length ∧ wholeL k (enc p ++ t) = true ∧ accL (enc p) (enc p).length = p := by
  have hb : (0 ≤ p ∧ p ≤ 0x7f) ∨ (0x80 ≤ p ∧ p ≤ 0x7ff) ∨ (0x800 ≤ p ∧ p ≤ 0xfff) ∨ (0x1000 ≤ p ∧ p ≤ 0xcfff) ∨ (0xd000 ≤ p ∧ p ≤ 0xd7ff) ∨ (0xe000 ≤ p ∧ p ≤ 0xffff) ∨ (0x10000 ≤ p ∧ p ≤ 0x3ffff) ∨ (0x40000 ≤ p ∧ p ≤ 0xfffff) ∨ (0x100000 ≤ p ∧ p ≤ 0x10ffff) := by
    unfold IsPt at hp; omega
  rcases hb with h | h | h | h | h | h | h | h | h
  · have e : enc p = [UInt8.ofNat p] := by unfold enc; rw [if_pos (by omega)]
    rw [e]
    refine ⟨0, by decide, ?_, rowP_hit (k := 0) (by decide) (by simp only [utab]; omega) (by simp only [utab]; omega), rfl, ?_, ?_⟩
    · simp only [List.getElem?_cons_zero, Option.getD_some]; rw [ofNat_toNat (by omega)]; exact rowB_hit (k := 0) (by decide) (by simp only [utab]; omega) (by simp only [utab]; omega)
    · simp [wholeL, utab]
    · show (UInt8.ofNat p).toNat - headOf 1 = p
      rw [ofNat_toNat (by omega)]
      exact Nat.sub_zero _
  · have e : enc p = [UInt8.ofNat (0xc0 + p / 64), UInt8.ofNat (0x80 + p % 64)] := by unfold enc; rw [if_neg (by omega), if_pos (by omega)]
    have e1 : (UInt8.ofNat (0xc0 + p / 64)).toNat = 0xc0 + p / 64 := ofNat_toNat (by omega)
    have e2 : (UInt8.ofNat (0x80 + p % 64)).toNat = 0x80 + p % 64 := ofNat_toNat (by omega)
    rw [e]
    refine ⟨1, by decide, ?_, rowP_hit (k := 1) (by decide) (by simp only [utab]; omega) (by simp only [utab]; omega), rfl, ?_, ?_⟩
    · simp only [List.getElem?_cons_zero, Option.getD_some]; rw [e1]; exact rowB_hit (k := 1) (by decide) (by simp only [utab]; omega) (by simp only [utab]; omega)
    · simp only [wholeL, secB, utab, List.cons_append, List.nil_append, List.length_cons, List.take_succ_cons, List.take_zero, List.drop_succ_cons, List.drop_nil, List.all_nil, List.getElem?_cons_succ, List.getElem?_cons_zero, Option.getD_some, e2]; simp; omega
    · show ((UInt8.ofNat (0xc0 + p / 64)).toNat - headOf 2) * 64 + ((UInt8.ofNat (0x80 + p % 64)).toNat - 128) = p
      rw [e1, e2, show headOf 2 = 0xc0 from rfl]; omega
  all_goals first
    | (have e : enc p = [UInt8.ofNat (0xe0 + p / 4096), UInt8.ofNat (0x80 + p / 64 % 64), UInt8.ofNat (0x80 + p % 64)] := by unfold enc; rw [if_neg (by omega), if_neg (by omega), if_pos (by omega)]
       have e1 : (UInt8.ofNat (0xe0 + p / 4096)).toNat = 0xe0 + p / 4096 := ofNat_toNat (by omega)
       have e2 : (UInt8.ofNat (0x80 + p / 64 % 64)).toNat = 0x80 + p / 64 % 64 := ofNat_toNat (by omega)
       have e3 : (UInt8.ofNat (0x80 + p % 64)).toNat = 0x80 + p % 64 := ofNat_toNat (by omega)
       rw [e]
       obtain ⟨k, hk, hk1, hk2, hk3, hk4, hk5, hk6, hk7⟩ : ∃ k, k < 9 ∧ (utab k).first ≤ 0xe0 + p / 4096 ∧ 0xe0 + p / 4096 ≤ (utab k).last ∧ (utab k).least ≤ p ∧ p ≤ (utab k).most ∧ (utab k).size = 3 ∧ (utab k).low ≤ 0x80 + p / 64 % 64 ∧ 0x80 + p / 64 % 64 ≤ (utab k).high := by
         first
           | exact ⟨2, by decide, by simp only [utab]; omega, by simp only [utab]; omega, by simp only [utab]; omega, by simp only [utab]; omega, rfl, by simp only [utab]; omega, by simp only [utab]; omega⟩
           | exact ⟨3, by decide, by simp only [utab]; omega, by simp only [utab]; omega, by simp only [utab]; omega, by simp only [utab]; omega, rfl, by simp only [utab]; omega, by simp only [utab]; omega⟩
           | exact ⟨4, by decide, by simp only [utab]; omega, by simp only [utab]; omega, by simp only [utab]; omega, by simp only [utab]; omega, rfl, by simp only [utab]; omega, by simp only [utab]; omega⟩
           | exact ⟨5, by decide, by simp only [utab]; omega, by simp only [utab]; omega, by simp only [utab]; omega, by simp only [utab]; omega, rfl, by simp only [utab]; omega, by simp only [utab]; omega⟩
       refine ⟨k, hk, ?_, rowP_hit hk (by omega) (by omega), hk5, ?_, ?_⟩
       · simp only [List.getElem?_cons_zero, Option.getD_some]; rw [e1]; exact rowB_hit hk hk1 hk2
       · simp only [wholeL, secB, hk5, List.cons_append, List.nil_append, List.length_cons, List.take_succ_cons, List.take_zero, List.drop_succ_cons, List.drop_zero, List.all_cons, List.all_nil, tailB, List.getElem?_cons_succ, List.getElem?_cons_zero, Option.getD_some, e2, e3]; simp; omega
       · show (((UInt8.ofNat (0xe0 + p / 4096)).toNat - headOf 3) * 64 + ((UInt8.ofNat (0x80 + p / 64 % 64)).toNat - 128)) * 64 + ((UInt8.ofNat (0x80 + p % 64)).toNat - 128) = p
         rw [e1, e2, e3, show headOf 3 = 0xe0 from rfl]; omega)
    | (have e : enc p = [UInt8.ofNat (0xf0 + p / 262144), UInt8.ofNat (0x80 + p / 4096 % 64), UInt8.ofNat (0x80 + p / 64 % 64), UInt8.ofNat (0x80 + p % 64)] := by unfold enc; rw [if_neg (by omega), if_neg (by omega), if_neg (by omega)]
       have e1 : (UInt8.ofNat (0xf0 + p / 262144)).toNat = 0xf0 + p / 262144 := ofNat_toNat (by omega)
       have e2 : (UInt8.ofNat (0x80 + p / 4096 % 64)).toNat = 0x80 + p / 4096 % 64 := ofNat_toNat (by omega)
       have e3 : (UInt8.ofNat (0x80 + p / 64 % 64)).toNat = 0x80 + p / 64 % 64 := ofNat_toNat (by omega)
       have e4 : (UInt8.ofNat (0x80 + p % 64)).toNat = 0x80 + p % 64 := ofNat_toNat (by omega)
       rw [e]
       obtain ⟨k, hk, hk1, hk2, hk3, hk4, hk5, hk6, hk7⟩ : ∃ k, k < 9 ∧ (utab k).first ≤ 0xf0 + p / 262144 ∧ 0xf0 + p / 262144 ≤ (utab k).last ∧ (utab k).least ≤ p ∧ p ≤ (utab k).most ∧ (utab k).size = 4 ∧ (utab k).low ≤ 0x80 + p / 4096 % 64 ∧ 0x80 + p / 4096 % 64 ≤ (utab k).high := by
         first
           | exact ⟨6, by decide, by simp only [utab]; omega, by simp only [utab]; omega, by simp only [utab]; omega, by simp only [utab]; omega, rfl, by simp only [utab]; omega, by simp only [utab]; omega⟩
           | exact ⟨7, by decide, by simp only [utab]; omega, by simp only [utab]; omega, by simp only [utab]; omega, by simp only [utab]; omega, rfl, by simp only [utab]; omega, by simp only [utab]; omega⟩
           | exact ⟨8, by decide, by simp only [utab]; omega, by simp only [utab]; omega, by simp only [utab]; omega, by simp only [utab]; omega, rfl, by simp only [utab]; omega, by simp only [utab]; omega⟩
       refine ⟨k, hk, ?_, rowP_hit hk (by omega) (by omega), hk5, ?_, ?_⟩
       · simp only [List.getElem?_cons_zero, Option.getD_some]; rw [e1]; exact rowB_hit hk hk1 hk2
       · simp only [wholeL, secB, hk5, List.cons_append, List.nil_append, List.length_cons, List.take_succ_cons, List.take_zero, List.drop_succ_cons, List.drop_zero, List.all_cons, List.all_nil, tailB, List.getElem?_cons_succ, List.getElem?_cons_zero, Option.getD_some, e2, e3, e4]; simp; omega
       · show ((((UInt8.ofNat (0xf0 + p / 262144)).toNat - headOf 4) * 64 + ((UInt8.ofNat (0x80 + p / 4096 % 64)).toNat - 128)) * 64 + ((UInt8.ofNat (0x80 + p / 64 % 64)).toNat - 128)) * 64 + ((UInt8.ofNat (0x80 + p % 64)).toNat - 128) = p
         rw [e1, e2, e3, e4, show headOf 4 = 0xf0 from rfl]; omega)

end Go.Vf
