/- A nil shelf: the walk of ShelfNil (contracts; nothing is claimed here). -/
import Derived.Test.YtklnnkdcnaieoaaAwk
namespace Go.Proofs.Ytklnnkdcnaieoaa
open Go.RowKit Go.Vf
attribute [local go_sem] Oper.semAt_some

theorem no_func (a : Array Value) (w : World) : Sem.run Try.prog (binOp BinOp.eql 50 (.func (.func 36) #[] a) .nilFunc) w = .ok (.bool false) w := by kernel_rfl
theorem get_nil (k : ByteArray) (w : World) : Calls Try.prog 20 #[.pointer none, .string k] w fun e w' => e = .returned (.tuple #[.string ⟨#[]⟩, .bool false]) ∧ w = w' := by
  go_enter Try.func20, Try.ntmps20
  go_wp2
  refine bodyPost_ret bodyTwo rfl ?_
  exact ⟨rfl, rfl⟩
theorem put_nil (k v : ByteArray) (w : World) : Calls Try.prog 15 #[.pointer none, .string k, .string v] w fun e w' => e = .returned (.bool false) ∧ w = w' := by
  go_enter Try.func15, Try.ntmps15
  go_wp2
  go_ret
  exact ⟨rfl, rfl⟩
theorem delete_nil (k : ByteArray) (w : World) : Calls Try.prog 16 #[.pointer none, .string k] w fun e w' => e = .returned (.bool false) ∧ w = w' := by
  go_enter Try.func16, Try.ntmps16
  go_wp2_with fail
  refine (get_nil k w).mono ?_
  rintro e w1 ⟨rfl, rfl⟩
  go_wp2
  go_ret
  exact ⟨rfl, rfl⟩
theorem len_nil (w : World) : Calls Try.prog 19 #[.pointer none] w fun e w' => e = .returned (.int .i64 0) ∧ w = w' := by
  go_enter Try.func19, Try.ntmps19
  go_wp2
  go_ret
  exact ⟨rfl, rfl⟩
theorem clone_nil (w : World) : Calls Try.prog 10 #[.pointer none] w fun e w' => e = .returned (.pointer none) ∧ w = w' := by
  go_enter Try.func10, Try.ntmps10
  go_wp2
  go_ret
  exact ⟨rfl, rfl⟩
theorem scan1_nil (n : Nat) (Bs Ba Bb : Nat) (w : World) (h : Blk w Bs 24 #[.pointer none]) :
    TellsK n Try.prog 36 #[.pointer (some ⟨Bs, 0, none⟩), .pointer (some ⟨Ba, 0, none⟩), .pointer (some ⟨Bb, 0, none⟩)] encP [] w := by
  intro l J Jx W hW hJ hJx hY h0
  have hb1 := (Below.refl W.heap.size W).alloc (Nat.le_refl _) (.cells #[.func (.yield l) #[] #[]] 68)
  have hJ1 := own_below hJ h0 hb1
  have c1 := ((h.old hW).old hb1).c1
  refine callsIn_of_wp Try.func36 rfl trivial ?_ rfl
  simp only [Try.ntmps36, List.size_toArray, List.length_cons, List.length_nil, Nat.reduceAdd, Nat.reduceSub, Array.replicate_succ, Array.replicate_zero, List.push_toArray, List.append_toArray, List.nil_append, List.cons_append]
  gi_wp2
  refine bodyPost_ret (results_none rfl _ _ _) rfl ?_
  exact ⟨⟨_, rfl⟩, .inl hJ1⟩
set_option maxRecDepth 100000 in
set_option maxHeartbeats 8000000 in
theorem nil_in (n : Nat) (hn : 9 ≤ n) (k v f t : ByteArray) (o back : Bool) (w : World) : CallsIn Fence.wide n Try.prog 6 #[.string k, .string v, .agg #[.string f, .string t, .bool o], .bool back] w fun e w' => e = .returned (.bool true) ∧ Below w.heap.size w w' := by
  have b1 := (Below.refl w.heap.size w).alloc (Nat.le_refl _) (.cells #[.string f, .string t, .bool o] 29)
  have B1 := Blk.new w 29 #[.string f, .string t, .bool o]
  have s1 := alloc_size w (.cells #[.string f, .string t, .bool o] 29)
  refine callsIn_of_wp_marks Try.func6 rfl trivial ?_ rfl
  simp only [Try.ntmps6, List.size_toArray, List.length_cons, List.length_nil, Nat.reduceAdd, Nat.reduceSub, Array.replicate_succ, Array.replicate_zero, List.push_toArray, List.append_toArray, List.nil_append, List.cons_append]
  gi_wp2
  have b2 := (Below.refl (w.alloc (.cells #[.string f, .string t, .bool o] 29)).heap.size (w.alloc (.cells #[.string f, .string t, .bool o] 29))).alloc (Nat.le_refl _) (.cells #[.bool false] 4)
  have B2 := Blk.new (w.alloc (.cells #[.string f, .string t, .bool o] 29)) 4 #[.bool false]
  have hb2 := b1.trans (b2.mono b1.size)
  have hB2 := B1.old b2
  rw [s1] at B2
  generalize (w.alloc (.cells #[.string f, .string t, .bool o] 29)).alloc (.cells #[.bool false] 4) = w2 at *
  clear b1 B1 s1 b2
  obtain ⟨c0, c1, c2⟩ := hB2.c3
  refine ⟨trivial, fun h => (by cases h), (callsIn_wide.2 (get_nil k w2)).mono ?_⟩
  rintro e w3 ⟨rfl, rfl⟩
  gi_wp2
  refine ⟨trivial, fun h => (by cases h), (callsIn_wide.2 (scan_any none f t o back w2)).mono ?_⟩
  rintro e w3 ⟨rfl, hs, _, _, hb3⟩
  have HR : Hid (Blk w3 (w.heap.size + 1) 4 #[.bool false]) := B2.old hb3
  have HB : Hid (Below w.heap.size w w3) := hb2.trans (hb3.mono hb2.size)
  clear c0 c1 c2 hB2 B2 hb2 hb3
  generalize w2.heap.size = N at *
  have hnf := no_func #[.pointer (some ⟨N, 0, none⟩), .pointer (some ⟨N + 1, 0, none⟩), .pointer (some ⟨N + 1 + 1, 0, none⟩)] w3
  gi_wp2
  refine range_tellsK (all := ([] : List Pr)) (by omega) rfl (enters_of Try.func36 (by kernel_rfl) rfl) (scan1_nil (n - 1) _ _ _ w3 hs)
    (fun _ V => Blk V (w.heap.size + 1) 4 #[.bool false] ∧ Below w.heap.size w V) (fun _ _ _ => False)
    (OwnFrom.and (own_keepC (fun s A C h k => k.same _ _ _ h)) (ownFrom_below (Nat.le_refl _) HB.out.size)) (fun c s A C row hs hg hr => hs) ⟨HR.out, HB.out⟩
    (fun _ _ _ => True) (fun _ _ _ _ _ _ _ _ _ => trivial) ?assign ?body ?done ?stop
  case assign =>
    intro l2 pre x V K hi hp hK
    exact absurd hp.length_le (by simp)
  case body =>
    intro l2 pre x a' V hl hr hi hx hp
    exact absurd hp.length_le (by simp)
  case stop =>
    rintro D c pre V hD hpre hx hK
    exact hx.elim
  case done =>
    rintro D V hD ⟨hR, hB⟩ hK
    have hDw : w.heap.size + 1 < D := Nat.lt_of_lt_of_le HR.out.lt hD
    clear HR HB hs hnf
    gi_wp2
    refine ⟨trivial, fun h => (by cases h), (callsIn_wide.2 (put_nil k v V)).mono ?_⟩
    rintro e w9 ⟨rfl, rfl⟩
    gi_wp2
    refine ⟨trivial, fun h => (by cases h), (callsIn_wide.2 (delete_nil k V)).mono ?_⟩
    rintro e w9 ⟨rfl, rfl⟩
    gi_wp2
    refine ⟨trivial, fun h => (by cases h), (callsIn_wide.2 (len_nil V)).mono ?_⟩
    rintro e w9 ⟨rfl, rfl⟩
    gi_wp2
    refine ⟨trivial, fun h => (by cases h), (callsIn_wide.2 (clone_nil V)).mono ?_⟩
    rintro e w9 ⟨rfl, rfl⟩
    gi_wp2
    refine ⟨trivial, fun h => (by cases h), (awake_in (n - 1) (by omega) V).mono ?_⟩
    rintro e U ⟨rfl, hbU⟩
    have hKU : U.heap[D]? = some (.deferred (some [])) := (hbU.block D (Array.getElem?_eq_some_iff.1 hK).1).trans hK
    have hRU := hR.old hbU
    have hBU := hB.trans (hbU.mono hB.size)
    have c0 := hRU.c1
    have f0 := hRU.frozen 0
    have HE : Hid (Below w.heap.size w (U.setCell ⟨w.heap.size + 1, 0, none⟩ (.bool true))) := hBU.setCell (p := ⟨w.heap.size + 1, 0, none⟩) (Nat.le_succ _) _
    have hS : Blk (U.setCell ⟨w.heap.size + 1, 0, none⟩ (.bool true)) (w.heap.size + 1) 4 #[.bool true] := hRU.set 0 _
    have hK2 : (U.setCell ⟨w.heap.size + 1, 0, none⟩ (.bool true)).heap[D]? = some (.deferred (some [])) := (KeepsOthers.setCell U ⟨w.heap.size + 1, 0, none⟩ (.bool true)).same D _ hKU rfl
    clear hR hB hK hRU hBU hKU hbU
    gi_wp2
    generalize U.setCell ⟨w.heap.size + 1, 0, none⟩ (.bool true) = U2 at *
    have hS2 : Blk (U2.putObj D (.deferred none)) (w.heap.size + 1) 4 #[.bool true] := (World.putObj_heap_other (by omega)).trans hS
    have c9 := hS2.c1
    refine ⟨by simp, .inl ⟨_, _, rfl, run_takeDeferred hK2, ?_⟩⟩
    refine ⟨_, by simp [results, Try.results6, go_sem, c9], rfl, HE.out.trans (belowK_b (w := w) (Nat.le_refl _) U2 D _ _ (by omega) hK2 rfl rfl)⟩
theorem nil_any (k v f t : ByteArray) (o back : Bool) (w : World) : Calls Try.prog 6 #[.string k, .string v, .agg #[.string f, .string t, .bool o], .bool back] w fun e w' => e = .returned (.bool true) ∧ Below w.heap.size w w' :=
  callsIn_wide.1 (nil_in 9 (Nat.le_refl _) k v f t o back w)
end Go.Proofs.Ytklnnkdcnaieoaa
