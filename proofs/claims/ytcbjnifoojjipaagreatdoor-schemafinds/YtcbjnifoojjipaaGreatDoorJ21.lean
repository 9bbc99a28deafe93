/- Contracts and lemmas (nothing is claimed here). -/
import Derived.Test.YtcbjnifoojjipaaGreatDoorFGo
namespace Go.Proofs.YtcbjnifoojjipaaGreatDoor
open Go.RowKit Go.Vf
def chkN (Q : Own → Bool) (limit : Int) (l : List Fld) : Int :=
  if limit < 1 ∨ 65536 < limit then 0 else if l = [] then 0 else
  match tourL Q [] [] 0 l with
  | .ok _ => 0
  | .bad _ _ m => (m : Int)
def ChkPost (r : Int × List Int) (mm : Int) (w : World) (e : Ending) (w' : World) : Prop :=
  (r.1 = 0 ∧ e = .returned (.tuple #[]) ∧ Below w.heap.size w w') ∨ (r.1 ≠ 0 ∧ ∃ a c m, e = lostG r.1 a r.2.length c m ∧ m = mm ∧ IOwn w' w.heap.size (.slice a r.2.length c) r.2 ∧ Below w.heap.size w w')
set_option maxHeartbeats 4000000 in
set_option maxRecDepth 20000 in
theorem check1_any (limit : Int) (l : List Fld) (aa : Option Addr) (ca lo n₀ S : Nat) (w : World) (hca : l.length ≤ ca) (hfit : ∀ x ∈ l, FitsF 17179869184 x) (hll : l.length ≤ 17179869184) (hn₀ : n₀ ≤ w.heap.size) (hS : Blk w S 25 #[.int .i64 limit, .slice aa l.length ca]) (hin : FIn w lo n₀ l aa) :
    Calls Tryz.prog 56 #[.pointer (some ⟨S, 0, none⟩)] w (ChkPost (chkS bndQ limit l) (chkN bndQ limit l) w) := by
  have hb1 := (Below.refl w.heap.size w).alloc (Nat.le_refl _) (.cells #[.slice none 0 0, .int .i64 0, seeV w.heap.size] 85)
  have hN1 := Blk.new w 85 #[.slice none 0 0, .int .i64 0, seeV w.heap.size]
  have ht : TourAt (w.alloc (.cells #[.slice none 0 0, .int .i64 0, seeV w.heap.size] 85)) w.heap.size none 0 [] 0 := ⟨hN1, IOwn.nil _ _⟩
  have hS1 := hS.old hb1
  have hin1 := hin.keep hb1 hn₀
  have c0 := hS1.cell 0
  have c1 := hS1.cell 1
  have hSl := hS.lt
  obtain ⟨R, hR⟩ : ∃ R, chkS bndQ limit l = R := ⟨_, rfl⟩
  rw [hR]
  obtain ⟨NN, hNN⟩ : ∃ NN, chkN bndQ limit l = NN := ⟨_, rfl⟩
  rw [hNN]
  have HNN : Hid (NN = if limit < 1 ∨ 65536 < limit then 0 else if l = [] then 0 else match tourL bndQ [] [] 0 l with | .ok _ => 0 | .bad _ _ m => (m : Int)) := hNN.symm
  clear hNN
  have HR : Hid (R = if limit < 1 ∨ 65536 < limit then (113, []) else if l = [] then (115, []) else match tourL bndQ [] [] 0 l with | .ok _ => (0, []) | .bad c p _ => (c, p)) := hR.symm
  clear hR hS hin hS1 hN1
  unfold seeV at hb1 ht hin1 c0 c1
  go_enter Tryz.func56, Tryz.ntmps56
  go_upto_region 2 with fail
  generalize w.alloc (.cells #[.slice none 0 0, .int .i64 0, .func (.func 57) #[.pointer (some ⟨w.heap.size, 0, none⟩)] #[]] 85) = w1 at hb1 ht hin1 c0 c1 ⊢
  have hno1 := fun why => tneed_no w.heap.size none 0 [] 0 (by simp) false why w1 rfl ht
  have hok1 := fun why => tneed_ok (.pointer (some ⟨w.heap.size, 0, none⟩)) true why w1 rfl
  have HN : ∀ {why : Int} {e : Ending} {w' : World}, why ≠ 0 → R = (why, []) → NN = 0 → (∃ a c, e = lostG why a ([] : List Int).length c ((0 : Nat) : Int) ∧ IOwn w' w1.heap.size (.slice a ([] : List Int).length c) [] ∧ Below w1.heap.size w1 w') → ChkPost R NN w e w' := by
    rintro why e w' hne rfl rfl ⟨a, c, he, ho, hb⟩
    exact .inr ⟨hne, a, c, _, he, rfl, ho.mono hb1.size, hb1.trans (hb.mono hb1.size)⟩
  by_cases h1 : limit < 1
  · have hRq : Hid (R = (113, [])) := by show _ = _; rw [HR.out, if_pos (.inl h1)]
    have hNq : Hid (NN = 0) := by show _ = _; rw [HNN.out, if_pos (.inl h1)]
    have t1 : decide (1 ≤ limit) = false := by simp; omega
    have hno := hno1 113
    clear HR HNN h1 ht hin1 hok1 hno1
    go_wp2_with fail
    refine hno.mono ?_
    rintro e w2 ⟨a, c, he, ho, hb⟩
    have hP := HN (e := e) (by decide) hRq.out hNq.out ⟨a, c, he, ho, hb⟩
    unfold lostG at he
    subst he
    go_wp2
    exact ⟨rfl, hP⟩
  have t1 : decide (1 ≤ limit) = true := by simp; omega
  by_cases h2 : 65536 < limit
  · have hRq : Hid (R = (113, [])) := by show _ = _; rw [HR.out, if_pos (.inr h2)]
    have hNq : Hid (NN = 0) := by show _ = _; rw [HNN.out, if_pos (.inr h2)]
    have t2 : decide (limit ≤ 65536) = false := by simp; omega
    have hno := hno1 113
    clear HR HNN h1 h2 ht hin1 hok1 hno1
    go_wp2_with fail
    refine hno.mono ?_
    rintro e w2 ⟨a, c, he, ho, hb⟩
    have hP := HN (e := e) (by decide) hRq.out hNq.out ⟨a, c, he, ho, hb⟩
    unfold lostG at he
    subst he
    go_wp2
    exact ⟨rfl, hP⟩
  have t2 : decide (limit ≤ 65536) = true := by simp; omega
  have hok := hok1 113
  by_cases h3 : l = []
  · have hRq : Hid (R = (115, [])) := by show _ = _; rw [HR.out, if_neg (by omega), if_pos h3]
    have hNq : Hid (NN = 0) := by show _ = _; rw [HNN.out, if_neg (by omega), if_pos h3]
    have hlz : l.length = 0 := by rw [h3]; rfl
    have t3 : decide ((0 : Int) < (l.length : Int)) = false := by rw [h3]; rfl
    have t4 : decide (0 < l.length) = false := by rw [h3]; rfl
    have hno := hno1 115
    generalize l.length = n at t3 t4 c1
    clear HR HNN h1 h2 h3 ht hin1 hok1 hno1 hlz
    go_wp2_with fail
    refine hok.mono ?_
    rintro _ _ ⟨rfl, rfl⟩
    go_wp2_with fail
    refine hno.mono ?_
    rintro e w2 ⟨a, c, he, ho, hb⟩
    have hP := HN (e := e) (by decide) hRq.out hNq.out ⟨a, c, he, ho, hb⟩
    unfold lostG at he
    subst he
    go_wp2
    exact ⟨rfl, hP⟩
  have hlp := List.length_pos_iff.2 h3
  have t3 : decide ((0 : Int) < (l.length : Int)) = true := by simp only [decide_eq_true_eq]; omega
  have t4 : decide (0 < l.length) = true := decide_eq_true hlp
  have hok2 := hok1 115
  have hgo := goThrough_any l w.heap.size none 0 [] 0 aa ca lo n₀ w1 (by simp) (by omega) hca hfit hll hn₀ ht hin1
  have HR2 : Hid (R = match tourL bndQ [] [] 0 l with | .ok _ => (0, []) | .bad c p _ => (c, p)) := by
    show _ = _
    rw [HR.out, if_neg (by omega), if_neg h3]
  have HN2 : Hid (NN = match tourL bndQ [] [] 0 l with | .ok _ => 0 | .bad _ _ m => (m : Int)) := by
    show _ = _
    rw [HNN.out, if_neg (by omega), if_neg h3]
  obtain ⟨n, hn⟩ : ∃ n, l.length = n := ⟨_, rfl⟩
  rw [hn] at t3 t4 c1 hgo
  clear HR HNN h1 h2 h3 ht hin1 hok1 hno1 hn hlp
  go_wp2_with fail
  refine hok.mono ?_
  rintro _ _ ⟨rfl, rfl⟩
  go_wp2_with fail
  refine hok2.mono ?_
  rintro _ _ ⟨rfl, rfl⟩
  go_wp2_with fail
  refine hgo.mono ?_
  clear hgo hok hok2 HN
  cases h5 : tourL bndQ [] [] 0 l with
  | ok m =>
    rintro e w2 ⟨hb2, rfl, _⟩
    have hRq : R = (0, []) := by rw [HR2.out, h5]
    have hb02 := hb1.trans hb2
    clear h5 HR2 HN2
    go_wp2
    go_end0
    try rw [hRq]
    exact .inl ⟨rfl, rfl, hb02⟩
  | bad c p m =>
    rintro e w2 ⟨hb2, a, cc, he, ho⟩
    have hRq : R = (c, p) := by rw [HR2.out, h5]
    have hb02 := hb1.trans hb2
    have hc : c ≠ 0 := tourL_ne _ _ _ _ _ _ h5
    have hNq : Hid (NN = (m : Int)) := by show _ = _; rw [HN2.out, h5]
    unfold lostG at he
    subst he
    clear h5 HR2 HN2
    go_wp2
    refine ⟨rfl, ?_⟩
    try rw [hRq]
    exact .inr ⟨hc, a, cc, _, rfl, hNq.out.symm, ho.mono (by omega), hb02⟩
def lostC (why : Int) (a : Option Addr) (n c : Nat) (m : Int) : Array Value := #[.int .i64 why, .int .i64 0, .slice a n c, .int .i64 m]
set_option maxHeartbeats 1000000 in
theorem giv_idle (B : Nat) (w : World) :
    CallsD Tryz.prog 66 #[.pointer (some ⟨B, 0, none⟩)] .returning w fun e u' w' => e = .returned (.tuple #[]) ∧ u' = .returning ∧ Below w.heap.size w w' := by
  have hta : ∀ w : World, (Instr.typeAssert .nilIface 20 73 true).run Tryz.prog w = .ok (.tuple #[.agg #[.int .i64 0, .int .i64 0, .slice none 0 0, .int .i64 0], .bool false]) w := fun w => by kernel_rfl
  have hb0 := (Below.refl w.heap.size w).alloc (Nat.le_refl _) (.cells #[.int .i64 0, .int .i64 0, .slice none 0 0, .int .i64 0] 73)
  refine callsD_of_wpS Tryz.func66 rfl fun c₀ cs hu => ?_
  apply wpS_seq
  apply wpS_region
  simp [wpOpsS, go_sem, recoverD, hu, Tryz.ntmps66, Exit.thenS, Array.replicate]
  refine wpS_of_wp ?_
  go_wp2
  exact ⟨rfl, _, rfl, _, by simp [results, Tryz.results66], rfl, hu, hb0⟩
set_option maxHeartbeats 1000000 in
theorem giv_catch (B : Nat) (why : Int) (a : Option Addr) (n c : Nat) (m : Int) (v0 : Value) (w : World) (hB : Blk w B 69 #[v0]) :
    CallsD Tryz.prog 66 #[.pointer (some ⟨B, 0, none⟩)] (.panicking [{ v := lostF why a n c m, recovered := false }]) w fun e u' w' =>
      e = .returned (.tuple #[]) ∧ u' = .panicking [{ v := lostF why a n c m, recovered := true }] ∧ w' = (w.setCell ⟨B, 0, none⟩ (.pointer (some ⟨w.heap.size, 0, none⟩))).alloc (.cells #[.int .i64 why, .int .i64 0, .slice a n c, .int .i64 m] 73) := by
  have hta : ∀ w : World, (Instr.typeAssert (lostF why a n c m) 20 73 true).run Tryz.prog w = .ok (.tuple #[.agg #[.int .i64 why, .int .i64 0, .slice a n c, .int .i64 m], .bool true]) w := fun w => by kernel_rfl
  have hb0 := (Below.refl w.heap.size w).alloc (Nat.le_refl _) (.cells #[.int .i64 why, .int .i64 0, .slice a n c, .int .i64 m] 73)
  have hBl := hB.lt
  have hB1 := hB.old hb0
  have k0 := hB1.cell 0
  have k1 := hB1.frozen 0
  refine callsD_of_wpS Tryz.func66 rfl fun c₀ cs hu => ?_
  apply wpS_seq
  apply wpS_region
  simp [wpOpsS, go_sem, recoverD, hu, Tryz.ntmps66, Exit.thenS, Array.replicate]
  refine wpS_of_wp ?_
  go_wp2
  exact ⟨rfl, _, rfl, _, by simp [results, Tryz.results66], rfl, rfl, rfl⟩
def CheckPost (r : Int × List Int) (mm : Int) (w : World) (e : Ending) (w' : World) : Prop :=
  Below w.heap.size w w' ∧ ((r.1 = 0 ∧ e = .returned (.pointer none)) ∨ (r.1 ≠ 0 ∧ ∃ L a c m, e = .returned (.pointer (some ⟨L, 0, none⟩)) ∧ m = mm ∧ Blk w' L 73 #[.int .i64 r.1, .int .i64 0, .slice a r.2.length c, .int .i64 m] ∧ IOwn w' w.heap.size (.slice a r.2.length c) r.2))
theorem giv_results {tmps : Array Value} {w : World} {h : Nat} {v : Value} (hb : Blk w h 69 #[v]) (t2 : tmps[2]?.getD undef = .pointer (some ⟨h, 0, none⟩)) :
    (results Tryz.f37 tmps).run Tryz.prog w = .ok v w := by
  have c0 := hb.cell 0
  simp [results, Tryz.results37, go_sem, t2, c0]
set_option maxHeartbeats 2000000 in
theorem givenUp_check (limit : Int) (l : List Fld) (aa : Option Addr) (ca lo n₀ S : Nat) (w : World) (hca : l.length ≤ ca) (hfit : ∀ x ∈ l, FitsF 17179869184 x) (hll : l.length ≤ 17179869184) (hn₀ : n₀ ≤ w.heap.size) (hS : Blk w S 25 #[.int .i64 limit, .slice aa l.length ca]) (hin : FIn w lo n₀ l aa) :
    Calls Tryz.prog 37 #[.func (.func 56) #[] #[.pointer (some ⟨S, 0, none⟩)]] w (CheckPost (chkS bndQ limit l) (chkN bndQ limit l) w) := by
  have hmf : ∀ (fn : Fn) (first cap : Array Value) (w : World), (Instr.makeFunc fn first cap).run Tryz.prog w = .ok (.func fn first cap) w := fun _ _ _ _ => rfl
  have hb1 := (Below.refl w.heap.size w).alloc (Nat.le_refl _) (.cells #[.pointer none] 69)
  have hN1 := Blk.new w 69 #[.pointer none]
  have hc := check1_any limit l aa ca lo n₀ S (w.alloc (.cells #[.pointer none] 69)) hca hfit hll (by have := hb1.size; omega) (hS.old hb1) (hin.keep hb1 hn₀)
  generalize chkS bndQ limit l = r at hc ⊢
  generalize chkN bndQ limit l = mm at hc ⊢
  clear hS hin hfit
  go_enter_defers Tryz.func37, Tryz.ntmps37
  go_wp2_with fail
  generalize w.alloc (.cells #[.pointer none] 69) = w1 at *
  refine hc.mono ?_
  rintro e w2 (⟨h0, rfl, hb2⟩ | ⟨hne, a, c, m, he, hmm, ho, hb2⟩)
  · have hN2 := hN1.old hb2
    have c0 := hN2.cell 0
    have f0 := hN2.frozen 0
    have hb02 := hb1.trans (hb2.mono hb1.size)
    have hN3 := hN2.set 0 (.pointer none)
    have hb3 : Below w.heap.size w (w2.setCell ⟨w.heap.size, 0, none⟩ (.pointer none)) := hb02.setCell (p := ⟨w.heap.size, 0, none⟩) (Nat.le_refl _) _
    go_wp2
    refine leaves_cons (f := 66) (args := #[.pointer (some ⟨w.heap.size, 0, none⟩)]) (by simp) (by simp [go_sem]) ?_
    refine (giv_idle w.heap.size _).mono ?_
    rintro e u' w3 ⟨rfl, rfl, hb4⟩
    exact ⟨_, giv_results (hN3.old hb4) rfl, hb3.trans (hb4.mono hb3.size), .inl ⟨h0, rfl⟩⟩
  · have hN2 := hN1.old hb2
    have hb02 := hb1.trans (hb2.mono hb1.size)
    have HMM : Hid (m = mm) := hmm
    clear hmm
    unfold lostG at he
    subst he
    go_wp2
    refine leaves_cons (f := 66) (args := #[.pointer (some ⟨w.heap.size, 0, none⟩)]) (by simp) (by simp [go_sem]) ?_
    refine (giv_catch w.heap.size r.1 a r.2.length c m _ w2 hN2).mono ?_
    rintro e u' w3 ⟨rfl, rfl, rfl⟩
    have hN3 := hN2.set 0 (.pointer (some ⟨w2.heap.size, 0, none⟩))
    have hz : (w2.setCell ⟨w.heap.size, 0, none⟩ (.pointer (some ⟨w2.heap.size, 0, none⟩))).heap.size = w2.heap.size := by simp [World.setCell]
    have hb4 := (Below.refl _ (w2.setCell ⟨w.heap.size, 0, none⟩ (.pointer (some ⟨w2.heap.size, 0, none⟩)))).alloc (Nat.le_refl _) (.cells #[.int .i64 r.1, .int .i64 0, .slice a r.2.length c, .int .i64 m] 73)
    have hN4 := Blk.new (w2.setCell ⟨w.heap.size, 0, none⟩ (.pointer (some ⟨w2.heap.size, 0, none⟩))) 73 #[.int .i64 r.1, .int .i64 0, .slice a r.2.length c, .int .i64 m]
    rw [hz] at hN4
    have ho3 : IOwn (w2.setCell ⟨w.heap.size, 0, none⟩ (.pointer (some ⟨w2.heap.size, 0, none⟩))) w1.heap.size (.slice a r.2.length c) r.2 := own_setCell ho (by show w.heap.size < w1.heap.size; exact hN1.lt) _
    have hb3 : Below w.heap.size w (w2.setCell ⟨w.heap.size, 0, none⟩ (.pointer (some ⟨w2.heap.size, 0, none⟩))) := hb02.setCell (p := ⟨w.heap.size, 0, none⟩) (Nat.le_refl _) _
    exact ⟨_, giv_results (hN3.old hb4) rfl, hb3.trans (hb4.mono hb3.size), .inr ⟨hne, _, a, c, m, rfl, HMM.out, hN4, IOwn.mono (own_after ho3 hb4) hb1.size⟩⟩
theorem check_post (limit : Int) (l : List Fld) (aa : Option Addr) (ca lo n₀ : Nat) (w : World) (hca : l.length ≤ ca) (hfit : ∀ x ∈ l, FitsF 17179869184 x) (hll : l.length ≤ 17179869184) (hn₀ : n₀ ≤ w.heap.size) (hin : FIn w lo n₀ l aa) :
    Calls Tryz.prog 31 #[.agg #[.int .i64 limit, .slice aa l.length ca]] w (CheckPost (chkS bndQ limit l) (chkN bndQ limit l) w) := by
  have hmf : ∀ (fn : Fn) (first cap : Array Value) (w : World), (Instr.makeFunc fn first cap).run Tryz.prog w = .ok (.func fn first cap) w := fun _ _ _ _ => rfl
  have hb1 := (Below.refl w.heap.size w).alloc (Nat.le_refl _) (.cells #[.int .i64 limit, .slice aa l.length ca] 25)
  have hN1 := Blk.new w 25 #[.int .i64 limit, .slice aa l.length ca]
  have hc := givenUp_check limit l aa ca lo n₀ w.heap.size _ hca hfit hll (by have := hb1.size; omega) hN1 (hin.keep hb1 hn₀)
  generalize chkS bndQ limit l = r at hc ⊢
  generalize chkN bndQ limit l = mm at hc ⊢
  clear hin hfit hN1
  go_enter Tryz.func31, Tryz.ntmps31
  go_wp2_with fail
  refine hc.mono ?_
  rintro e w2 ⟨hb2, ⟨h0, rfl⟩ | ⟨hne, L, a, c, m, rfl, hmm, hL, ho⟩⟩
  · go_wp2
    go_ret
    exact ⟨hb1.trans (hb2.mono hb1.size), .inl ⟨h0, rfl⟩⟩
  · go_wp2
    go_ret
    exact ⟨hb1.trans (hb2.mono hb1.size), .inr ⟨hne, L, a, c, m, rfl, hmm, hL, ho.mono hb1.size⟩⟩
def FaultAt (w : World) (base : Nat) (v : Value) (code at' : Int) (P : List Int) (why : Value) : Prop := ∃ F a c, v = .iface 71 (.pointer (some ⟨F, 0, none⟩)) ∧ base ≤ F ∧ Blk w F 75 #[.int .i64 code, .int .i64 at', .slice a P.length c, why] ∧ IOwn w base (.slice a P.length c) P ∧ some F ≠ (Value.slice a P.length c).ownBlock
def SCheckPost (r : Int × List Int) (w : World) (e : Ending) (w' : World) : Prop :=
  Below w.heap.size w w' ∧ ((r.1 = 0 ∧ e = .returned .nilIface) ∨ (r.1 ≠ 0 ∧ ∃ v, e = .returned v ∧ FaultAt w' w.heap.size v r.1 0 r.2 .nilIface))
set_option maxHeartbeats 2000000 in
theorem scheck_any (limit : Int) (l : List Fld) (aa : Option Addr) (ca lo n₀ : Nat) (w : World) (hca : l.length ≤ ca) (hfit : ∀ x ∈ l, FitsF 17179869184 x) (hll : l.length ≤ 17179869184) (hn₀ : n₀ ≤ w.heap.size) (hin : FIn w lo n₀ l aa) :
    Calls Tryz.prog 13 #[.agg #[.int .i64 limit, .slice aa l.length ca]] w (SCheckPost (chkS bndQ limit l) w) := by
  have hb1 := (Below.refl w.heap.size w).alloc (Nat.le_refl _) (.cells #[.int .i64 limit, .slice aa l.length ca] 25)
  have hc := check_post limit l aa ca lo n₀ _ hca hfit hll (by have := hb1.size; omega) (hin.keep hb1 hn₀)
  generalize chkS bndQ limit l = r at hc ⊢
  generalize chkN bndQ limit l = mm at hc
  clear hin hfit
  go_enter Tryz.func13, Tryz.ntmps13
  go_wp2_with fail
  refine hc.mono ?_
  rintro e w2 ⟨hb2, ⟨h0, rfl⟩ | ⟨hne, L, a, c, m, rfl, hmm, hL, ho⟩⟩
  · go_wp2
    go_ret
    exact ⟨hb1.trans (hb2.mono hb1.size), .inl ⟨h0, rfl⟩⟩
  · have hb02 := hb1.trans (hb2.mono hb1.size)
    obtain ⟨c0, c1, c2, c3⟩ : w2.cell? ⟨L, 0, none⟩ = some (.int .i64 r.1) ∧ w2.cell? ⟨L, 1, none⟩ = some (.int .i64 0) ∧ w2.cell? ⟨L, 2, none⟩ = some (.slice a r.2.length c) ∧ w2.cell? ⟨L, 3, none⟩ = some (.int .i64 m) := ⟨hL.cell 0, hL.cell 1, hL.cell 2, hL.cell 3⟩
    have hb3 := (Below.refl w2.heap.size w2).alloc (Nat.le_refl _) (.cells #[.int .i64 r.1, .int .i64 0, .slice a r.2.length c, .nilIface] 75)
    have hN3 := Blk.new w2 75 #[.int .i64 r.1, .int .i64 0, .slice a r.2.length c, .nilIface]
    have ho3 : IOwn (w2.alloc (.cells #[.int .i64 r.1, .int .i64 0, .slice a r.2.length c, .nilIface] 75)) w.heap.size (.slice a r.2.length c) r.2 := IOwn.mono (own_after ho hb3) hb1.size
    have hne2 : some w2.heap.size ≠ (Value.slice a r.2.length c).ownBlock := fun e => by
      obtain ⟨_, cs, f, hh⟩ := own_ge ho e.symm
      have := (Array.getElem?_eq_some_iff.1 hh).1
      omega
    go_upto_region 3 with fail
    go_region
    go_wp2
    go_ret
    exact ⟨(hb02.trans (hb3.mono hb02.size)).drew, .inr ⟨hne, _, rfl, _, a, c, rfl, hb02.size, hN3, ho3, hne2⟩⟩
end Go.Proofs.YtcbjnifoojjipaaGreatDoor
