/- What the statement's looks does: it says yes of a value and its part (contracts; nothing is claimed here). -/
import Derived.Test.YtedmmifflbnmbaaDoorGoes
import Derived.Test.YtedmmifflbnmbaaDoorAskb
namespace Go.Proofs.YtedmmifflbnmbaaDoor
open Go.RowKit Go.Vf
theorem mKind_81 (y : Bool) (w : World) : (method 255 84 (.agg #[.bool y]) "Kind").run Tryd.prog w = .ok (71, .agg #[.bool y]) w := by kernel_rfl
theorem mKind_83 (b : Bool) (m : ByteArray) (w : World) : (method 255 86 (.agg #[.bool b, .string m]) "Kind").run Tryd.prog w = .ok (73, .agg #[.bool b, .string m]) w := by kernel_rfl
theorem mKind_85 (k : Int) (r : ByteArray) (w : World) : (method 255 91 (.agg #[.int .u8 k, .string r]) "Kind").run Tryd.prog w = .ok (81, .agg #[.int .u8 k, .string r]) w := by kernel_rfl
theorem mKind_74 (a : Addr) (w : World) : (method 255 88 (.pointer (some a)) "Kind").run Tryd.prog w = .ok (77, .pointer (some a)) w := by kernel_rfl
theorem mNum_83 (b : Bool) (m : ByteArray) (w : World) : (method 255 86 (.agg #[.bool b, .string m]) "Num").run Tryd.prog w = .ok (74, .agg #[.bool b, .string m]) w := by kernel_rfl
/-- The contract of looks at a part. -/
def LookOk (p : Prt) : Prop := ∀ (v : Value) (a : Option Addr) (c : Nat) (w : World), VIn w 0 w.heap.size v p → PIn w 0 w.heap.size p a →
    Calls Tryd.prog 11 #[v, pV p a c] w fun e w' => e = .returned (.bool true) ∧ Below w.heap.size w w'

set_option maxRecDepth 100000 in
theorem res73_run {tmps : Array Value} {w : World} {b : Nat} {x0 x1 : Value} (h : Blk w b 24 #[x0, x1]) (t2 : tmps[2]?.getD undef = .pointer (some ⟨b, 0, none⟩)) : (results Tryd.f74 tmps).run Tryd.prog w = .ok (.agg #[x0, x1]) w := by
  have c0 : w.cell? ⟨b, 0, none⟩ = some x0 := h.cell 0
  have c1 : w.cell? ⟨b, 1, none⟩ = some x1 := h.cell 1
  simp [results, Tryd.results74, go_sem, t2, c0, c1]
theorem num_any (b : Bool) (m : ByteArray) (w : World) : Calls Tryd.prog 74 #[.agg #[.bool b, .string m]] w fun e w' => e = .returned (.agg #[.bool b, .string m]) ∧ Below w.heap.size w w' := by
  have hb1 := (Below.refl w.heap.size w).alloc (Nat.le_refl _) (.cells #[.bool b, .string m] 86)
  have hB1 := Blk.new w 86 #[.bool b, .string m]
  have c0 : (w.alloc (.cells #[.bool b, .string m] 86)).cell? ⟨w.heap.size, 0, none⟩ = some (.bool b) := hB1.cell 0
  have c1 : (w.alloc (.cells #[.bool b, .string m] 86)).cell? ⟨w.heap.size, 1, none⟩ = some (.string m) := hB1.cell 1
  go_enter Tryd.func74, Tryd.ntmps74
  go_wp2_with fail
  have hB2 := Blk.new (w.alloc (.cells #[.bool b, .string m] 86)) 24 #[.bool b, .string m]
  rw [alloc_size] at hB2
  refine bodyPost_ret (res73_run (b := w.heap.size + 1) hB2 rfl) rfl ?_
  exact ⟨rfl, hb1.alloc hb1.size _⟩
set_option maxHeartbeats 8000000 in
set_option maxRecDepth 20000 in
theorem look_null (hm : may (.mk 0 false false ⟨#[]⟩ ⟨#[]⟩ []) = true) (hf : Fits (.mk 0 false false ⟨#[]⟩ ⟨#[]⟩ [])) (a : Option Addr) (c : Nat) (w : World) (hv : VIn w 0 w.heap.size (.nilIface) (.mk 0 false false ⟨#[]⟩ ⟨#[]⟩ [])) (hp : PIn w 0 w.heap.size (.mk 0 false false ⟨#[]⟩ ⟨#[]⟩ []) a) : Calls Tryd.prog 11 #[.nilIface, pV (.mk 0 false false ⟨#[]⟩ ⟨#[]⟩ []) a c] w fun e w' => e = .returned (.bool true) ∧ Below w.heap.size w w' := by
  unfold pV
  simp only [Prt.kind, Prt.yes, Prt.neg, Prt.mag, Prt.raw, Prt.items, List.length_nil]
  have hb1 := (Below.refl w.heap.size w).alloc (Nat.le_refl _) (.cells #[.int .u8 0, .bool false, .bool false, .string ⟨#[]⟩, .string ⟨#[]⟩, .slice a 0 c] 27)
  have hB1 := Blk.new w 27 #[.int .u8 0, .bool false, .bool false, .string ⟨#[]⟩, .string ⟨#[]⟩, .slice a 0 c]
  have hv1 := VIn.go hv hb1
  have hp1 := PIn.go hp hb1
  have HF : Hid (Fits (.mk 0 false false ⟨#[]⟩ ⟨#[]⟩ [])) := hf
  clear hv hp hf
  go_enter Tryd.func11, Tryd.ntmps11
  go_upto_region 1 with fail
  generalize w.alloc (.cells #[.int .u8 0, .bool false, .bool false, .string ⟨#[]⟩, .string ⟨#[]⟩, .slice a 0 c] 27) = w1 at *
  have h28 := (asNumber_not _ _ _ _ w1 hv1 (by show (0 : Int) ≠ 2; omega)).sym'
  have h21 := (asRaw_not _ _ _ _ w1 hv1 rfl).sym'
  have h19 := (asList_not _ _ _ _ w1 hv1 (by show (0 : Int) ≠ 7; omega)).sym'
  have h18 := tell_any _ hm _ 0 w1.heap.size w1 (Nat.le_refl _) hv1
  unfold pV at h18
  simp only [Prt.kind, Prt.yes, Prt.neg, Prt.mag, Prt.raw, Prt.items, List.length_nil] at h18
  have HV1 : Hid (VIn w1 0 w1.heap.size (.nilIface) (.mk 0 false false ⟨#[]⟩ ⟨#[]⟩ [])) := hv1
  have HP1 : Hid (PIn w1 0 w1.heap.size (.mk 0 false false ⟨#[]⟩ ⟨#[]⟩ []) a) := hp1
  have HB1 : Hid (Blk w1 w.heap.size 27 #[.int .u8 0, .bool false, .bool false, .string ⟨#[]⟩, .string ⟨#[]⟩, .slice a 0 c]) := hB1
  clear hv1 hp1 hB1
  go_wp2_with fail
  refine h28.mono ?_
  rintro _ _ ⟨rfl, rfl⟩
  clear h28
  go_wp2_with fail
  refine h21.mono ?_
  rintro _ _ ⟨rfl, rfl⟩
  clear h21
  go_wp2_with fail
  refine h19.mono ?_
  rintro _ _ ⟨rfl, rfl⟩
  clear h19
  go_wp2_with fail
  refine h18.mono ?_
  rintro _ w2 ⟨a3, c3, rfl, hp2, hb2⟩
  clear h18
  have hq3 := (Below.refl w2.heap.size w2).alloc (Nat.le_refl _) (.cells #[.int .u8 0, .bool false, .bool false, .string ⟨#[]⟩, .string ⟨#[]⟩, .slice a3 0 c3] 27)
  have hB3 := Blk.new w2 27 #[.int .u8 0, .bool false, .bool false, .string ⟨#[]⟩, .string ⟨#[]⟩, .slice a3 0 c3]
  go_upto_region 5 with fail
  generalize w2.alloc (.cells #[.int .u8 0, .bool false, .bool false, .string ⟨#[]⟩, .string ⟨#[]⟩, .slice a3 0 c3] 27) = w3 at *
  have hb13 : Below w1.heap.size w1 w3 := hb2.trans (hq3.mono hb2.size)
  have hs := rsame_any _ HF.out _ HF.out a3 a c3 c 0 w3.heap.size 0 w3.heap.size w3 (Nat.le_refl _) (Nat.le_refl _) (PIn.go hp2 hq3) (PIn.go HP1.out hb13)
  rw [eqP_self] at hs
  unfold pV at hs
  simp only [Prt.kind, Prt.yes, Prt.neg, Prt.mag, Prt.raw, Prt.items, List.length_nil] at hs
  obtain ⟨x0, x1, x2, x3, x4, x5⟩ := hB3.c6
  have hBy := Blk.old HB1.out hb13
  obtain ⟨y0, y1, y2, y3, y4, y5⟩ := hBy.c6
  clear hp2 hB3 hq3 hb2 hBy
  go_wp2_with fail
  refine hs.mono ?_
  rintro _ w4 ⟨rfl, hb4⟩
  clear hs x0 x1 x2 x3 x4 x5 y0 y1 y2 y3 y4 y5
  have hb14 : Below w1.heap.size w1 w4 := hb13.trans (hb4.mono hb13.size)
  clear hb13 hb4
  have hBy := Blk.old HB1.out hb14
  obtain ⟨y0, y1, y2, y3, y4, y5⟩ := hBy.c6
  have h29 := risRaw_any 0 (by omega) (.bool false) (.bool false) (.string ⟨#[]⟩) (.string ⟨#[]⟩) (.slice a 0 c) w4
  clear hBy
  rw [show isRawK 0 = false from rfl] at h29
  go_wp2_with fail
  refine h29.mono ?_
  rintro _ w5 ⟨rfl, hb5⟩
  clear h29 y0 y1 y2 y3 y4 y5
  have hb15 : Below w1.heap.size w1 w5 := hb14.trans (hb5.mono hb14.size)
  clear hb14 hb5
  have hw5 : Below w.heap.size w w5 := hb1.trans (hb15.mono hb1.size)
  have HB5 : Hid (Blk w5 w.heap.size 27 #[.int .u8 0, .bool false, .bool false, .string ⟨#[]⟩, .string ⟨#[]⟩, .slice a 0 c]) := Blk.old HB1.out hb15
  have HV5 : Hid (VIn w5 0 w5.heap.size (.nilIface) (.mk 0 false false ⟨#[]⟩ ⟨#[]⟩ [])) := VIn.go HV1.out hb15
  have HP5 : Hid (PIn w5 0 w5.heap.size (.mk 0 false false ⟨#[]⟩ ⟨#[]⟩ []) a) := PIn.go HP1.out hb15
  clear HB1 HV1 HP1 hb15 hb1
  have hBy := HB5.out
  obtain ⟨y0, y1, y2, y3, y4, y5⟩ := hBy.c6
  clear hBy
  have hdep : dep (.mk 0 false false ⟨#[]⟩ ⟨#[]⟩ []) = 0 := dep_not (by decide)
  have h20 := (Depth_any _ _ _ _ w5 HV5.out).sym'
  rw [hdep] at h20
  go_wp2_with fail
  refine h20.mono ?_
  rintro _ _ ⟨rfl, rfl⟩
  go_wp2_with fail
  go_ret
  exact ⟨rfl, hw5⟩
set_option maxHeartbeats 8000000 in
set_option maxRecDepth 20000 in
theorem look_truth (y : Bool) (hm : may (.mk 1 y false ⟨#[]⟩ ⟨#[]⟩ []) = true) (hf : Fits (.mk 1 y false ⟨#[]⟩ ⟨#[]⟩ [])) (a : Option Addr) (c : Nat) (w : World) (hv : VIn w 0 w.heap.size (.iface 84 (.agg #[.bool y])) (.mk 1 y false ⟨#[]⟩ ⟨#[]⟩ [])) (hp : PIn w 0 w.heap.size (.mk 1 y false ⟨#[]⟩ ⟨#[]⟩ []) a) : Calls Tryd.prog 11 #[.iface 84 (.agg #[.bool y]), pV (.mk 1 y false ⟨#[]⟩ ⟨#[]⟩ []) a c] w fun e w' => e = .returned (.bool true) ∧ Below w.heap.size w w' := by
  unfold pV
  simp only [Prt.kind, Prt.yes, Prt.neg, Prt.mag, Prt.raw, Prt.items, List.length_nil]
  have hb1 := (Below.refl w.heap.size w).alloc (Nat.le_refl _) (.cells #[.int .u8 1, .bool y, .bool false, .string ⟨#[]⟩, .string ⟨#[]⟩, .slice a 0 c] 27)
  have hB1 := Blk.new w 27 #[.int .u8 1, .bool y, .bool false, .string ⟨#[]⟩, .string ⟨#[]⟩, .slice a 0 c]
  have hv1 := VIn.go hv hb1
  have hp1 := PIn.go hp hb1
  have HF : Hid (Fits (.mk 1 y false ⟨#[]⟩ ⟨#[]⟩ [])) := hf
  clear hv hp hf
  go_enter Tryd.func11, Tryd.ntmps11
  go_upto_region 1 with fail
  generalize w.alloc (.cells #[.int .u8 1, .bool y, .bool false, .string ⟨#[]⟩, .string ⟨#[]⟩, .slice a 0 c] 27) = w1 at *
  have h28 := (asNumber_not _ _ _ _ w1 hv1 (by show (1 : Int) ≠ 2; omega)).sym'
  have h21 := (asRaw_not _ _ _ _ w1 hv1 rfl).sym'
  have h19 := (asList_not _ _ _ _ w1 hv1 (by show (1 : Int) ≠ 7; omega)).sym'
  have h18 := tell_any _ hm _ 0 w1.heap.size w1 (Nat.le_refl _) hv1
  unfold pV at h18
  simp only [Prt.kind, Prt.yes, Prt.neg, Prt.mag, Prt.raw, Prt.items, List.length_nil] at h18
  have HV1 : Hid (VIn w1 0 w1.heap.size (.iface 84 (.agg #[.bool y])) (.mk 1 y false ⟨#[]⟩ ⟨#[]⟩ [])) := hv1
  have HP1 : Hid (PIn w1 0 w1.heap.size (.mk 1 y false ⟨#[]⟩ ⟨#[]⟩ []) a) := hp1
  have HB1 : Hid (Blk w1 w.heap.size 27 #[.int .u8 1, .bool y, .bool false, .string ⟨#[]⟩, .string ⟨#[]⟩, .slice a 0 c]) := hB1
  clear hv1 hp1 hB1
  go_wp2_with fail
  refine h28.mono ?_
  rintro _ _ ⟨rfl, rfl⟩
  clear h28
  go_wp2_with fail
  refine h21.mono ?_
  rintro _ _ ⟨rfl, rfl⟩
  clear h21
  go_wp2_with fail
  refine h19.mono ?_
  rintro _ _ ⟨rfl, rfl⟩
  clear h19
  go_wp2_with fail
  refine h18.mono ?_
  rintro _ w2 ⟨a3, c3, rfl, hp2, hb2⟩
  clear h18
  have hq3 := (Below.refl w2.heap.size w2).alloc (Nat.le_refl _) (.cells #[.int .u8 1, .bool y, .bool false, .string ⟨#[]⟩, .string ⟨#[]⟩, .slice a3 0 c3] 27)
  have hB3 := Blk.new w2 27 #[.int .u8 1, .bool y, .bool false, .string ⟨#[]⟩, .string ⟨#[]⟩, .slice a3 0 c3]
  go_upto_region 5 with fail
  generalize w2.alloc (.cells #[.int .u8 1, .bool y, .bool false, .string ⟨#[]⟩, .string ⟨#[]⟩, .slice a3 0 c3] 27) = w3 at *
  have hb13 : Below w1.heap.size w1 w3 := hb2.trans (hq3.mono hb2.size)
  have hs := rsame_any _ HF.out _ HF.out a3 a c3 c 0 w3.heap.size 0 w3.heap.size w3 (Nat.le_refl _) (Nat.le_refl _) (PIn.go hp2 hq3) (PIn.go HP1.out hb13)
  rw [eqP_self] at hs
  unfold pV at hs
  simp only [Prt.kind, Prt.yes, Prt.neg, Prt.mag, Prt.raw, Prt.items, List.length_nil] at hs
  obtain ⟨x0, x1, x2, x3, x4, x5⟩ := hB3.c6
  have hBy := Blk.old HB1.out hb13
  obtain ⟨y0, y1, y2, y3, y4, y5⟩ := hBy.c6
  clear hp2 hB3 hq3 hb2 hBy
  go_wp2_with fail
  refine hs.mono ?_
  rintro _ w4 ⟨rfl, hb4⟩
  clear hs x0 x1 x2 x3 x4 x5 y0 y1 y2 y3 y4 y5
  have hb14 : Below w1.heap.size w1 w4 := hb13.trans (hb4.mono hb13.size)
  clear hb13 hb4
  have hBy := Blk.old HB1.out hb14
  obtain ⟨y0, y1, y2, y3, y4, y5⟩ := hBy.c6
  have h29 := risRaw_any 1 (by omega) (.bool y) (.bool false) (.string ⟨#[]⟩) (.string ⟨#[]⟩) (.slice a 0 c) w4
  clear hBy
  rw [show isRawK 1 = false from rfl] at h29
  go_wp2_with fail
  refine h29.mono ?_
  rintro _ w5 ⟨rfl, hb5⟩
  clear h29 y0 y1 y2 y3 y4 y5
  have hb15 : Below w1.heap.size w1 w5 := hb14.trans (hb5.mono hb14.size)
  clear hb14 hb5
  have hw5 : Below w.heap.size w w5 := hb1.trans (hb15.mono hb1.size)
  have HB5 : Hid (Blk w5 w.heap.size 27 #[.int .u8 1, .bool y, .bool false, .string ⟨#[]⟩, .string ⟨#[]⟩, .slice a 0 c]) := Blk.old HB1.out hb15
  have HV5 : Hid (VIn w5 0 w5.heap.size (.iface 84 (.agg #[.bool y])) (.mk 1 y false ⟨#[]⟩ ⟨#[]⟩ [])) := VIn.go HV1.out hb15
  have HP5 : Hid (PIn w5 0 w5.heap.size (.mk 1 y false ⟨#[]⟩ ⟨#[]⟩ []) a) := PIn.go HP1.out hb15
  clear HB1 HV1 HP1 hb15 hb1
  have hBy := HB5.out
  obtain ⟨y0, y1, y2, y3, y4, y5⟩ := hBy.c6
  clear hBy
  have hdep : dep (.mk 1 y false ⟨#[]⟩ ⟨#[]⟩ []) = 0 := dep_not (by decide)
  have HKeepA : Hid (∀ x y, Below w5.heap.size w5 x → Below x.heap.size x y → Below w5.heap.size w5 y) := fun x y h1 h2 => h1.trans (h2.mono h1.size)
  have HRd : Hid (∀ x, Below w5.heap.size w5 x → Blk x w.heap.size 27 #[.int .u8 1, .bool y, .bool false, .string ⟨#[]⟩, .string ⟨#[]⟩, .slice a 0 c]) := fun x h => Blk.below HB5.out h (Blk.lt HB5.out)
  have HKd : Hid (∀ x, Below w5.heap.size w5 x → Calls Tryd.prog 71 #[.agg #[.bool y]] x fun e w' => e = .returned (.int .u8 1) ∧ Below x.heap.size x w') := fun x _ => kindTruth y x
  have HDp : Hid (∀ x, Below w5.heap.size w5 x → Calls Tryd.prog 14 #[.iface 84 (.agg #[.bool y])] x fun e w' => e = .returned (.int .i64 0) ∧ x = w') := fun x h => by
    have := (Depth_any _ _ _ _ x (HV5.out.old h (Nat.le_refl _))).sym'
    rw [hdep] at this
    exact this
  have HRp : Hid (∀ x, Below w5.heap.size w5 x → Calls Tryd.prog 29 #[.agg #[.int .u8 1, .bool y, .bool false, .string ⟨#[]⟩, .string ⟨#[]⟩, .slice a 0 c]] x fun e w' => e = .returned (.int .i64 0) ∧ Below x.heap.size x w') := fun x h => by
    have := rdep_any _ HF.out (by rw [hdep]; omega) a c 0 w5.heap.size x h.size (HP5.out.keep h (Nat.le_refl _))
    rw [hdep] at this
    exact this
  have hmk := mKind_81 y
  clear hdep
  go_upto_region 11 with fail
  refine wp_region_held_drew (S := fun x => Below w5.heap.size w5 x) (by kernel_rfl) ((Below.refl _ _).drew) (fun hHeldA => ?_)
  refine wpAnyH_takeD (i := 0) (some 88) (v := ?vA0) rfl rfl (by kernel_rfl) (by kernel_rfl) (by kernel_rfl) (fun _ _ _ h => h) (Or.inl ⟨by kernel_rfl, ?hyA0⟩) (by assumption) ?restA0
  case hyA0 => (intro x hSx; have hBq := HRd.out x hSx; obtain ⟨q0, q1, q2, q3, q4, q5⟩ := Blk.c6 hBq; clear hBq; (try dsimp only at hSx); go_simp; first | done | with_reducible rfl)
  try simp only [Act.put, List.setIfInBounds_toArray, List.set_cons_zero, List.set_cons_succ]
  refine wpAnyH_takeD (i := 1) (some 89) (v := .bool false) rfl rfl (by kernel_rfl) (by kernel_rfl) (by kernel_rfl) (fun _ _ _ h => h) (Or.inl ⟨by kernel_rfl, ?hyA1⟩) (by assumption) ?restA1
  case hyA1 => (intro x hSx; have hBq := HRd.out x hSx; obtain ⟨q0, q1, q2, q3, q4, q5⟩ := Blk.c6 hBq; clear hBq; (try dsimp only at hSx); go_simp; first | done | rfl | simp)
  try simp only [Act.put, List.setIfInBounds_toArray, List.set_cons_zero, List.set_cons_succ]
  refine wpAnyH_takeD (i := 2) (some 90) (v := ?vA2) rfl rfl (by kernel_rfl) (by kernel_rfl) (by kernel_rfl) (fun _ _ _ h => h) (Or.inl ⟨by kernel_rfl, ?hyA2⟩) (by assumption) ?restA2
  case hyA2 => (intro x hSx; have hBq := HRd.out x hSx; obtain ⟨q0, q1, q2, q3, q4, q5⟩ := Blk.c6 hBq; clear hBq; (try dsimp only at hSx); go_simp; first | done | with_reducible rfl)
  try simp only [Act.put, List.setIfInBounds_toArray, List.set_cons_zero, List.set_cons_succ]
  refine wpAnyH_takeD (i := 3) (some 91) (v := ?vA3) rfl rfl (by kernel_rfl) (by kernel_rfl) (by kernel_rfl) (fun _ _ _ h => h) (Or.inl ⟨by kernel_rfl, ?hyA3⟩) (by assumption) ?restA3
  case hyA3 => (intro x hSx; have hBq := HRd.out x hSx; obtain ⟨q0, q1, q2, q3, q4, q5⟩ := Blk.c6 hBq; clear hBq; (try dsimp only at hSx); go_simp; first | done | with_reducible rfl)
  try simp only [Act.put, List.setIfInBounds_toArray, List.set_cons_zero, List.set_cons_succ]
  refine wpAnyH_takeD (i := 5) (some 93) (v := ?vA5) rfl rfl (by kernel_rfl) (by kernel_rfl) (by kernel_rfl) (fun _ _ _ h => h) (Or.inl ⟨by kernel_rfl, ?hyA5⟩) (by assumption) ?restA5
  case hyA5 => (intro x hSx; have hBq := HRd.out x hSx; obtain ⟨q0, q1, q2, q3, q4, q5⟩ := Blk.c6 hBq; clear hBq; (try dsimp only at hSx); go_simp; first | done | with_reducible rfl)
  try simp only [Act.put, List.setIfInBounds_toArray, List.set_cons_zero, List.set_cons_succ]
  refine wpAnyH_takeD (i := 6) (some 94) (v := ?vA6) rfl rfl (by kernel_rfl) (by kernel_rfl) (by kernel_rfl) (fun _ _ _ h => h) (Or.inl ⟨by kernel_rfl, ?hyA6⟩) (by assumption) ?restA6
  case hyA6 => (intro x hSx; have hBq := HRd.out x hSx; obtain ⟨q0, q1, q2, q3, q4, q5⟩ := Blk.c6 hBq; clear hBq; (try dsimp only at hSx); go_simp; first | done | with_reducible rfl)
  try simp only [Act.put, List.setIfInBounds_toArray, List.set_cons_zero, List.set_cons_succ]
  refine wpAnyH_ready (rs := [4]) (by kernel_rfl) (by simp) ?_
  refine AllReadyH.cons rfl (fun K hK => ?_) AllReadyH.nil
  go_simp
  go_wp2_with (go_at_call 71; refine (HKd.out _ hHeldA).mono ?_; rintro e yA4 ⟨rfl, hbyA4⟩)
  refine hK.out _ _ (HKeepA.out _ _ hHeldA hbyA4) (fun hHeldA4 => ?_)
  clear hK K
  try simp only [Act.put, List.setIfInBounds_toArray, List.set_cons_zero, List.set_cons_succ]
  refine wpAnyH_takeD (i := 7) (some 95) (v := .bool false) rfl rfl (by kernel_rfl) (by kernel_rfl) (by kernel_rfl) (fun _ _ _ h => h) (Or.inl ⟨by kernel_rfl, ?hyA7⟩) (by assumption) ?restA7
  case hyA7 => (intro x hSx; have hBq := HRd.out x hSx; obtain ⟨q0, q1, q2, q3, q4, q5⟩ := Blk.c6 hBq; clear hBq; (try dsimp only at hSx); go_simp; first | done | simp)
  try simp only [Act.put, List.setIfInBounds_toArray, List.set_cons_zero, List.set_cons_succ]
  refine wpAnyH_takeD (i := 8) (some 96) (v := ?vA8) rfl rfl (by kernel_rfl) (by kernel_rfl) (by kernel_rfl) (fun _ _ _ h => h) (Or.inl ⟨by kernel_rfl, ?hyA8⟩) (by assumption) ?restA8
  case hyA8 => (intro x hSx; have hBq := HRd.out x hSx; obtain ⟨q0, q1, q2, q3, q4, q5⟩ := Blk.c6 hBq; clear hBq; (try dsimp only at hSx); go_simp; first | done | with_reducible rfl)
  try simp only [Act.put, List.setIfInBounds_toArray, List.set_cons_zero, List.set_cons_succ]
  refine wpAnyH_takeD (i := 9) (some 97) (v := ?vA9) rfl rfl (by kernel_rfl) (by kernel_rfl) (by kernel_rfl) (fun _ _ _ h => h) (Or.inl ⟨by kernel_rfl, ?hyA9⟩) (by assumption) ?restA9
  case hyA9 => (intro x hSx; have hBq := HRd.out x hSx; obtain ⟨q0, q1, q2, q3, q4, q5⟩ := Blk.c6 hBq; clear hBq; (try dsimp only at hSx); go_simp; first | done | with_reducible rfl)
  try simp only [Act.put, List.setIfInBounds_toArray, List.set_cons_zero, List.set_cons_succ]
  refine wpAnyH_takeD (i := 10) (some 98) (v := ?vA10) rfl rfl (by kernel_rfl) (by kernel_rfl) (by kernel_rfl) (fun _ _ _ h => h) (Or.inl ⟨by kernel_rfl, ?hyA10⟩) (by assumption) ?restA10
  case hyA10 => (intro x hSx; have hBq := HRd.out x hSx; obtain ⟨q0, q1, q2, q3, q4, q5⟩ := Blk.c6 hBq; clear hBq; (try dsimp only at hSx); go_simp; first | done | with_reducible rfl)
  try simp only [Act.put, List.setIfInBounds_toArray, List.set_cons_zero, List.set_cons_succ]
  refine wpAnyH_takeD (i := 12) (some 100) (v := ?vA12) rfl rfl (by kernel_rfl) (by kernel_rfl) (by kernel_rfl) (fun _ _ _ h => h) (Or.inl ⟨by kernel_rfl, ?hyA12⟩) (by assumption) ?restA12
  case hyA12 => (intro x hSx; have hBq := HRd.out x hSx; obtain ⟨q0, q1, q2, q3, q4, q5⟩ := Blk.c6 hBq; clear hBq; (try dsimp only at hSx); go_simp; first | done | with_reducible rfl)
  try simp only [Act.put, List.setIfInBounds_toArray, List.set_cons_zero, List.set_cons_succ]
  refine wpAnyH_ready (rs := [11]) (by kernel_rfl) (by simp) ?_
  refine AllReadyH.cons rfl (fun K hK => ?_) AllReadyH.nil
  go_simp
  go_wp2_with (go_at_call 14; refine (HDp.out _ hHeldA4).mono ?_; rintro e yA11 ⟨rfl, hbyA11⟩)
  subst hbyA11
  refine hK.out _ _ hHeldA4 (fun hHeldA11 => ?_)
  clear hK K
  try simp only [Act.put, List.setIfInBounds_toArray, List.set_cons_zero, List.set_cons_succ]
  refine wpAnyH_ready (rs := [13]) (by kernel_rfl) (by simp) ?_
  refine AllReadyH.cons rfl (fun K hK => ?_) AllReadyH.nil
  go_simp
  go_wp2_with (go_at_call 29; refine (HRp.out _ hHeldA11).mono ?_; rintro e yA13 ⟨rfl, hbyA13⟩)
  refine hK.out _ _ (HKeepA.out _ _ hHeldA11 hbyA13) (fun hHeldA13 => ?_)
  clear hK K
  try simp only [Act.put, List.setIfInBounds_toArray, List.set_cons_zero, List.set_cons_succ]
  refine wpAnyH_takeD (i := 14) (some 102) (v := .bool false) rfl rfl (by kernel_rfl) (by kernel_rfl) (by kernel_rfl) (fun _ _ _ h => h) (Or.inl ⟨by kernel_rfl, ?hyA14⟩) (by assumption) ?restA14
  case hyA14 => (intro x hSx; have hBq := HRd.out x hSx; obtain ⟨q0, q1, q2, q3, q4, q5⟩ := Blk.c6 hBq; clear hBq; (try dsimp only at hSx); go_simp; first | done | simp)
  try simp only [Act.put, List.setIfInBounds_toArray, List.set_cons_zero, List.set_cons_succ]
  refine wpAnyH_takeD (i := 15) (some 103) (v := ?vA15) rfl rfl (by kernel_rfl) (by kernel_rfl) (by kernel_rfl) (fun _ _ _ h => h) (Or.inl ⟨by kernel_rfl, ?hyA15⟩) (by assumption) ?restA15
  case hyA15 => (intro x hSx; have hBq := HRd.out x hSx; obtain ⟨q0, q1, q2, q3, q4, q5⟩ := Blk.c6 hBq; clear hBq; (try dsimp only at hSx); go_simp; first | done | with_reducible rfl)
  try simp only [Act.put, List.setIfInBounds_toArray, List.set_cons_zero, List.set_cons_succ]
  refine wpAnyH_done (by kernel_rfl) ?_ _
  have hw6 := hw5.trans (hHeldA13.mono hw5.size)
  have HB6 : Hid (Blk yA13 w.heap.size 27 #[.int .u8 1, .bool y, .bool false, .string ⟨#[]⟩, .string ⟨#[]⟩, .slice a 0 c]) := Blk.old HB5.out hHeldA13
  have HP6 : Hid (PIn yA13 0 yA13.heap.size (.mk 1 y false ⟨#[]⟩ ⟨#[]⟩ []) a) := PIn.go HP5.out hHeldA13
  clear HKeepA HRd HKd HDp HRp y0 y1 y2 y3 y4 y5 HB5 HP5 HV5 hmk
  have hmp := mPart_81 y
  have hpc := truthPart_any y yA13
  unfold pV at hpc
  simp only [Prt.kind, Prt.yes, Prt.neg, Prt.mag, Prt.raw, Prt.items, List.length_nil] at hpc
  generalize yA13 = w6 at *
  go_wp2_with fail
  refine hpc.mono ?_
  rintro _ w7 ⟨c4, rfl, hb7⟩
  clear hpc hmp
  have hq8 := (Below.refl w7.heap.size w7).alloc (Nat.le_refl _) (.cells #[.int .u8 1, .bool y, .bool false, .string ⟨#[]⟩, .string ⟨#[]⟩, .slice none 0 c4] 27)
  have hB8 := Blk.new w7 27 #[.int .u8 1, .bool y, .bool false, .string ⟨#[]⟩, .string ⟨#[]⟩, .slice none 0 c4]
  go_upto_region 14 with fail
  generalize w7.alloc (.cells #[.int .u8 1, .bool y, .bool false, .string ⟨#[]⟩, .string ⟨#[]⟩, .slice none 0 c4] 27) = w8 at *
  have hb68 : Below w6.heap.size w6 w8 := hb7.trans (hq8.mono hb7.size)
  have hs := rsame_any _ HF.out _ HF.out none a c4 c 0 w8.heap.size 0 w8.heap.size w8 (Nat.le_refl _) (Nat.le_refl _) (.nil rfl) (PIn.go HP6.out hb68)
  rw [eqP_self] at hs
  unfold pV at hs
  simp only [Prt.kind, Prt.yes, Prt.neg, Prt.mag, Prt.raw, Prt.items, List.length_nil] at hs
  obtain ⟨x0, x1, x2, x3, x4, x5⟩ := hB8.c6
  have hBy := Blk.old HB6.out hb68
  obtain ⟨y0, y1, y2, y3, y4, y5⟩ := hBy.c6
  clear hB8 hq8 hb7 hBy
  go_wp2_with fail
  refine hs.mono ?_
  rintro _ w9 ⟨rfl, hb9⟩
  clear hs x0 x1 x2 x3 x4 x5 y0 y1 y2 y3 y4 y5
  have hb69 : Below w6.heap.size w6 w9 := hb68.trans (hb9.mono hb68.size)
  have hw9 := hw6.trans (hb69.mono hw6.size)
  have HB9 : Hid (Blk w9 w.heap.size 27 #[.int .u8 1, .bool y, .bool false, .string ⟨#[]⟩, .string ⟨#[]⟩, .slice a 0 c]) := Blk.old HB6.out hb69
  clear hb68 hb9 hb69 HB6 HP6
  have HRd : Hid (∀ x, Below w9.heap.size w9 x → Blk x w.heap.size 27 #[.int .u8 1, .bool y, .bool false, .string ⟨#[]⟩, .string ⟨#[]⟩, .slice a 0 c]) := fun x h => Blk.below HB9.out h (Blk.lt HB9.out)
  have HKeepB : Hid (∀ x y, Below w9.heap.size w9 x → Below x.heap.size x y → Below w9.heap.size w9 y) := fun x y h1 h2 => h1.trans (h2.mono h1.size)
  go_upto_region 15 with fail
  refine wp_region_held_drew (S := fun x => Below w9.heap.size w9 x) (by kernel_rfl) ((Below.refl _ _).drew) (fun hHeldB => ?_)
  refine wpAnyH_takeD (i := 0) (some 109) (v := ?vB0) rfl rfl (by kernel_rfl) (by kernel_rfl) (by kernel_rfl) (fun _ _ _ h => h) (Or.inl ⟨by kernel_rfl, ?hyB0⟩) (by assumption) ?restB0
  case hyB0 => (intro x hSx; have hBq := HRd.out x hSx; obtain ⟨q0, q1, q2, q3, q4, q5⟩ := Blk.c6 hBq; clear hBq; (try dsimp only at hSx); go_simp; first | done | with_reducible rfl)
  try simp only [Act.put, List.setIfInBounds_toArray, List.set_cons_zero, List.set_cons_succ]
  refine wpAnyH_takeD (i := 1) (some 110) (v := ?vB1) rfl rfl (by kernel_rfl) (by kernel_rfl) (by kernel_rfl) (fun _ _ _ h => h) (Or.inl ⟨by kernel_rfl, ?hyB1⟩) (by assumption) ?restB1
  case hyB1 => (intro x hSx; have hBq := HRd.out x hSx; obtain ⟨q0, q1, q2, q3, q4, q5⟩ := Blk.c6 hBq; clear hBq; (try dsimp only at hSx); go_simp; first | done | with_reducible rfl)
  try simp only [Act.put, List.setIfInBounds_toArray, List.set_cons_zero, List.set_cons_succ]
  refine wpAnyH_takeD (i := 2) (some 111) (v := ?vB2) rfl rfl (by kernel_rfl) (by kernel_rfl) (by kernel_rfl) (fun _ _ _ h => h) (Or.inl ⟨by kernel_rfl, ?hyB2⟩) (by assumption) ?restB2
  case hyB2 => (intro x hSx; have hBq := HRd.out x hSx; obtain ⟨q0, q1, q2, q3, q4, q5⟩ := Blk.c6 hBq; clear hBq; (try dsimp only at hSx); go_simp; first | done | with_reducible rfl)
  try simp only [Act.put, List.setIfInBounds_toArray, List.set_cons_zero, List.set_cons_succ]
  refine wpAnyH_takeD (i := 3) (some 112) (v := ?vB3) rfl rfl (by kernel_rfl) (by kernel_rfl) (by kernel_rfl) (fun _ _ _ h => h) (Or.inl ⟨by kernel_rfl, ?hyB3⟩) (by assumption) ?restB3
  case hyB3 => (intro x hSx; have hBq := HRd.out x hSx; obtain ⟨q0, q1, q2, q3, q4, q5⟩ := Blk.c6 hBq; clear hBq; (try dsimp only at hSx); go_simp; first | done | with_reducible rfl)
  try simp only [Act.put, List.setIfInBounds_toArray, List.set_cons_zero, List.set_cons_succ]
  refine wpAnyH_takeD (i := 4) (some 113) (v := ?vB4) rfl rfl (by kernel_rfl) (by kernel_rfl) (by kernel_rfl) (fun _ _ _ h => h) (Or.inl ⟨by kernel_rfl, ?hyB4⟩) (by assumption) ?restB4
  case hyB4 => (intro x hSx; have hBq := HRd.out x hSx; obtain ⟨q0, q1, q2, q3, q4, q5⟩ := Blk.c6 hBq; clear hBq; (try dsimp only at hSx); go_simp; first | done | with_reducible rfl)
  try simp only [Act.put, List.setIfInBounds_toArray, List.set_cons_zero, List.set_cons_succ]
  refine wpAnyH_takeD (i := 5) (some 114) (v := undef) rfl rfl (by kernel_rfl) (by kernel_rfl) (by kernel_rfl) (fun _ _ _ h => h) (Or.inr ⟨by kernel_rfl, rfl⟩) (by assumption) ?_
  try simp only [Act.put, List.setIfInBounds_toArray, List.set_cons_zero, List.set_cons_succ]
  refine wpAnyH_takeD (i := 6) (some 115) (v := undef) rfl rfl (by kernel_rfl) (by kernel_rfl) (by kernel_rfl) (fun _ _ _ h => h) (Or.inr ⟨by kernel_rfl, rfl⟩) (by assumption) ?_
  try simp only [Act.put, List.setIfInBounds_toArray, List.set_cons_zero, List.set_cons_succ]
  refine wpAnyH_takeD (i := 7) (some 116) (v := undef) rfl rfl (by kernel_rfl) (by kernel_rfl) (by kernel_rfl) (fun _ _ _ h => h) (Or.inr ⟨by kernel_rfl, rfl⟩) (by assumption) ?_
  try simp only [Act.put, List.setIfInBounds_toArray, List.set_cons_zero, List.set_cons_succ]
  refine wpAnyH_takeD (i := 8) (some 117) (v := undef) rfl rfl (by kernel_rfl) (by kernel_rfl) (by kernel_rfl) (fun _ _ _ h => h) (Or.inr ⟨by kernel_rfl, rfl⟩) (by assumption) ?_
  try simp only [Act.put, List.setIfInBounds_toArray, List.set_cons_zero, List.set_cons_succ]
  refine wpAnyH_takeD (i := 9) (some 118) (v := undef) rfl rfl (by kernel_rfl) (by kernel_rfl) (by kernel_rfl) (fun _ _ _ h => h) (Or.inr ⟨by kernel_rfl, rfl⟩) (by assumption) ?_
  try simp only [Act.put, List.setIfInBounds_toArray, List.set_cons_zero, List.set_cons_succ]
  refine wpAnyH_takeD (i := 10) (some 119) (v := ?vB10) rfl rfl (by kernel_rfl) (by kernel_rfl) (by kernel_rfl) (fun _ _ _ h => h) (Or.inl ⟨by kernel_rfl, ?hyB10⟩) (by assumption) ?restB10
  case hyB10 => (intro x hSx; have hBq := HRd.out x hSx; obtain ⟨q0, q1, q2, q3, q4, q5⟩ := Blk.c6 hBq; clear hBq; (try dsimp only at hSx); go_simp; first | done | with_reducible rfl)
  try simp only [Act.put, List.setIfInBounds_toArray, List.set_cons_zero, List.set_cons_succ]
  refine wpAnyH_takeD (i := 11) (some 120) (v := ?vB11) rfl rfl (by kernel_rfl) (by kernel_rfl) (by kernel_rfl) (fun _ _ _ h => h) (Or.inl ⟨by kernel_rfl, ?hyB11⟩) (by assumption) ?restB11
  case hyB11 => (intro x hSx; have hBq := HRd.out x hSx; obtain ⟨q0, q1, q2, q3, q4, q5⟩ := Blk.c6 hBq; clear hBq; (try dsimp only at hSx); go_simp; first | done | with_reducible rfl)
  try simp only [Act.put, List.setIfInBounds_toArray, List.set_cons_zero, List.set_cons_succ]
  refine wpAnyH_takeD (i := 12) (some 121) (v := ?vB12) rfl rfl (by kernel_rfl) (by kernel_rfl) (by kernel_rfl) (fun _ _ _ h => h) (Or.inl ⟨by kernel_rfl, ?hyB12⟩) (by assumption) ?restB12
  case hyB12 => (intro x hSx; have hBq := HRd.out x hSx; obtain ⟨q0, q1, q2, q3, q4, q5⟩ := Blk.c6 hBq; clear hBq; (try dsimp only at hSx); go_simp; first | done | with_reducible rfl)
  try simp only [Act.put, List.setIfInBounds_toArray, List.set_cons_zero, List.set_cons_succ]
  refine wpAnyH_takeD (i := 13) (some 122) (v := ?vB13) rfl rfl (by kernel_rfl) (by kernel_rfl) (by kernel_rfl) (fun _ _ _ h => h) (Or.inl ⟨by kernel_rfl, ?hyB13⟩) (by assumption) ?restB13
  case hyB13 => (intro x hSx; have hBq := HRd.out x hSx; obtain ⟨q0, q1, q2, q3, q4, q5⟩ := Blk.c6 hBq; clear hBq; (try dsimp only at hSx); go_simp; first | done | with_reducible rfl)
  try simp only [Act.put, List.setIfInBounds_toArray, List.set_cons_zero, List.set_cons_succ]
  refine wpAnyH_takeD (i := 14) (some 123) (v := ?vB14) rfl rfl (by kernel_rfl) (by kernel_rfl) (by kernel_rfl) (fun _ _ _ h => h) (Or.inl ⟨by kernel_rfl, ?hyB14⟩) (by assumption) ?restB14
  case hyB14 => (intro x hSx; have hBq := HRd.out x hSx; obtain ⟨q0, q1, q2, q3, q4, q5⟩ := Blk.c6 hBq; clear hBq; (try dsimp only at hSx); go_simp; first | done | with_reducible rfl)
  try simp only [Act.put, List.setIfInBounds_toArray, List.set_cons_zero, List.set_cons_succ]
  refine wpAnyH_takeD (i := 15) (some 124) (v := undef) rfl rfl (by kernel_rfl) (by kernel_rfl) (by kernel_rfl) (fun _ _ _ h => h) (Or.inr ⟨by kernel_rfl, rfl⟩) (by assumption) ?_
  try simp only [Act.put, List.setIfInBounds_toArray, List.set_cons_zero, List.set_cons_succ]
  refine wpAnyH_takeD (i := 16) (some 125) (v := undef) rfl rfl (by kernel_rfl) (by kernel_rfl) (by kernel_rfl) (fun _ _ _ h => h) (Or.inr ⟨by kernel_rfl, rfl⟩) (by assumption) ?_
  try simp only [Act.put, List.setIfInBounds_toArray, List.set_cons_zero, List.set_cons_succ]
  refine wpAnyH_takeD (i := 17) (some 126) (v := undef) rfl rfl (by kernel_rfl) (by kernel_rfl) (by kernel_rfl) (fun _ _ _ h => h) (Or.inr ⟨by kernel_rfl, rfl⟩) (by assumption) ?_
  try simp only [Act.put, List.setIfInBounds_toArray, List.set_cons_zero, List.set_cons_succ]
  refine wpAnyH_takeD (i := 18) (some 127) (v := undef) rfl rfl (by kernel_rfl) (by kernel_rfl) (by kernel_rfl) (fun _ _ _ h => h) (Or.inr ⟨by kernel_rfl, rfl⟩) (by assumption) ?_
  try simp only [Act.put, List.setIfInBounds_toArray, List.set_cons_zero, List.set_cons_succ]
  refine wpAnyH_takeD (i := 19) (some 128) (v := undef) rfl rfl (by kernel_rfl) (by kernel_rfl) (by kernel_rfl) (fun _ _ _ h => h) (Or.inr ⟨by kernel_rfl, rfl⟩) (by assumption) ?_
  try simp only [Act.put, List.setIfInBounds_toArray, List.set_cons_zero, List.set_cons_succ]
  refine wpAnyH_takeD (i := 20) (some 129) (v := ?vB20) rfl rfl (by kernel_rfl) (by kernel_rfl) (by kernel_rfl) (fun _ _ _ h => h) (Or.inl ⟨by kernel_rfl, ?hyB20⟩) (by assumption) ?restB20
  case hyB20 => (intro x hSx; have hBq := HRd.out x hSx; obtain ⟨q0, q1, q2, q3, q4, q5⟩ := Blk.c6 hBq; clear hBq; (try dsimp only at hSx); go_simp; first | done | with_reducible rfl)
  try simp only [Act.put, List.setIfInBounds_toArray, List.set_cons_zero, List.set_cons_succ]
  refine wpAnyH_takeD (i := 21) (some 130) (v := ?vB21) rfl rfl (by kernel_rfl) (by kernel_rfl) (by kernel_rfl) (fun _ _ _ h => h) (Or.inl ⟨by kernel_rfl, ?hyB21⟩) (by assumption) ?restB21
  case hyB21 => (intro x hSx; have hBq := HRd.out x hSx; obtain ⟨q0, q1, q2, q3, q4, q5⟩ := Blk.c6 hBq; clear hBq; (try dsimp only at hSx); go_simp; first | done | with_reducible rfl)
  try simp only [Act.put, List.setIfInBounds_toArray, List.set_cons_zero, List.set_cons_succ]
  refine wpAnyH_done (by kernel_rfl) ?_ _
  go_wp2_with fail
  go_ret
  exact ⟨rfl, hw9.trans (hHeldB.mono hw9.size)⟩
set_option maxHeartbeats 8000000 in
set_option maxRecDepth 20000 in
theorem look_num (b : Bool) (m : ByteArray) (hm : may (.mk 2 false b m ⟨#[]⟩ []) = true) (hf : Fits (.mk 2 false b m ⟨#[]⟩ [])) (a : Option Addr) (c : Nat) (w : World) (hv : VIn w 0 w.heap.size (.iface 86 (.agg #[.bool b, .string m])) (.mk 2 false b m ⟨#[]⟩ [])) (hp : PIn w 0 w.heap.size (.mk 2 false b m ⟨#[]⟩ []) a) : Calls Tryd.prog 11 #[.iface 86 (.agg #[.bool b, .string m]), pV (.mk 2 false b m ⟨#[]⟩ []) a c] w fun e w' => e = .returned (.bool true) ∧ Below w.heap.size w w' := by
  unfold pV
  simp only [Prt.kind, Prt.yes, Prt.neg, Prt.mag, Prt.raw, Prt.items, List.length_nil]
  have hb1 := (Below.refl w.heap.size w).alloc (Nat.le_refl _) (.cells #[.int .u8 2, .bool false, .bool b, .string m, .string ⟨#[]⟩, .slice a 0 c] 27)
  have hB1 := Blk.new w 27 #[.int .u8 2, .bool false, .bool b, .string m, .string ⟨#[]⟩, .slice a 0 c]
  have hv1 := VIn.go hv hb1
  have hp1 := PIn.go hp hb1
  have HF : Hid (Fits (.mk 2 false b m ⟨#[]⟩ [])) := hf
  clear hv hp hf
  go_enter Tryd.func11, Tryd.ntmps11
  go_upto_region 1 with fail
  generalize w.alloc (.cells #[.int .u8 2, .bool false, .bool b, .string m, .string ⟨#[]⟩, .slice a 0 c] 27) = w1 at *
  have h28 := (asNumber_num b m w1).sym'
  have h21 := (asRaw_not _ _ _ _ w1 hv1 rfl).sym'
  have h19 := (asList_not _ _ _ _ w1 hv1 (by show (2 : Int) ≠ 7; omega)).sym'
  have h18 := tell_any _ hm _ 0 w1.heap.size w1 (Nat.le_refl _) hv1
  unfold pV at h18
  simp only [Prt.kind, Prt.yes, Prt.neg, Prt.mag, Prt.raw, Prt.items, List.length_nil] at h18
  have HV1 : Hid (VIn w1 0 w1.heap.size (.iface 86 (.agg #[.bool b, .string m])) (.mk 2 false b m ⟨#[]⟩ [])) := hv1
  have HP1 : Hid (PIn w1 0 w1.heap.size (.mk 2 false b m ⟨#[]⟩ []) a) := hp1
  have HB1 : Hid (Blk w1 w.heap.size 27 #[.int .u8 2, .bool false, .bool b, .string m, .string ⟨#[]⟩, .slice a 0 c]) := hB1
  clear hv1 hp1 hB1
  go_wp2_with fail
  refine h28.mono ?_
  rintro _ _ ⟨rfl, rfl⟩
  clear h28
  go_wp2_with fail
  refine h21.mono ?_
  rintro _ _ ⟨rfl, rfl⟩
  clear h21
  go_wp2_with fail
  refine h19.mono ?_
  rintro _ _ ⟨rfl, rfl⟩
  clear h19
  go_wp2_with fail
  refine h18.mono ?_
  rintro _ w2 ⟨a3, c3, rfl, hp2, hb2⟩
  clear h18
  have hq3 := (Below.refl w2.heap.size w2).alloc (Nat.le_refl _) (.cells #[.int .u8 2, .bool false, .bool b, .string m, .string ⟨#[]⟩, .slice a3 0 c3] 27)
  have hB3 := Blk.new w2 27 #[.int .u8 2, .bool false, .bool b, .string m, .string ⟨#[]⟩, .slice a3 0 c3]
  go_upto_region 5 with fail
  generalize w2.alloc (.cells #[.int .u8 2, .bool false, .bool b, .string m, .string ⟨#[]⟩, .slice a3 0 c3] 27) = w3 at *
  have hb13 : Below w1.heap.size w1 w3 := hb2.trans (hq3.mono hb2.size)
  have hs := rsame_any _ HF.out _ HF.out a3 a c3 c 0 w3.heap.size 0 w3.heap.size w3 (Nat.le_refl _) (Nat.le_refl _) (PIn.go hp2 hq3) (PIn.go HP1.out hb13)
  rw [eqP_self] at hs
  unfold pV at hs
  simp only [Prt.kind, Prt.yes, Prt.neg, Prt.mag, Prt.raw, Prt.items, List.length_nil] at hs
  obtain ⟨x0, x1, x2, x3, x4, x5⟩ := hB3.c6
  have hBy := Blk.old HB1.out hb13
  obtain ⟨y0, y1, y2, y3, y4, y5⟩ := hBy.c6
  clear hp2 hB3 hq3 hb2 hBy
  go_wp2_with fail
  refine hs.mono ?_
  rintro _ w4 ⟨rfl, hb4⟩
  clear hs x0 x1 x2 x3 x4 x5 y0 y1 y2 y3 y4 y5
  have hb14 : Below w1.heap.size w1 w4 := hb13.trans (hb4.mono hb13.size)
  clear hb13 hb4
  have hBy := Blk.old HB1.out hb14
  obtain ⟨y0, y1, y2, y3, y4, y5⟩ := hBy.c6
  have h29 := risRaw_any 2 (by omega) (.bool false) (.bool b) (.string m) (.string ⟨#[]⟩) (.slice a 0 c) w4
  clear hBy
  rw [show isRawK 2 = false from rfl] at h29
  go_wp2_with fail
  refine h29.mono ?_
  rintro _ w5 ⟨rfl, hb5⟩
  clear h29 y0 y1 y2 y3 y4 y5
  have hb15 : Below w1.heap.size w1 w5 := hb14.trans (hb5.mono hb14.size)
  clear hb14 hb5
  have hw5 : Below w.heap.size w w5 := hb1.trans (hb15.mono hb1.size)
  have HB5 : Hid (Blk w5 w.heap.size 27 #[.int .u8 2, .bool false, .bool b, .string m, .string ⟨#[]⟩, .slice a 0 c]) := Blk.old HB1.out hb15
  have HV5 : Hid (VIn w5 0 w5.heap.size (.iface 86 (.agg #[.bool b, .string m])) (.mk 2 false b m ⟨#[]⟩ [])) := VIn.go HV1.out hb15
  have HP5 : Hid (PIn w5 0 w5.heap.size (.mk 2 false b m ⟨#[]⟩ []) a) := PIn.go HP1.out hb15
  clear HB1 HV1 HP1 hb15 hb1
  have hBy := HB5.out
  obtain ⟨y0, y1, y2, y3, y4, y5⟩ := hBy.c6
  clear hBy
  have hdep : dep (.mk 2 false b m ⟨#[]⟩ []) = 0 := dep_not (by decide)
  have HKeepA : Hid (∀ x y, Below w5.heap.size w5 x → Below x.heap.size x y → Below w5.heap.size w5 y) := fun x y h1 h2 => h1.trans (h2.mono h1.size)
  have HRd : Hid (∀ x, Below w5.heap.size w5 x → Blk x w.heap.size 27 #[.int .u8 2, .bool false, .bool b, .string m, .string ⟨#[]⟩, .slice a 0 c]) := fun x h => Blk.below HB5.out h (Blk.lt HB5.out)
  have HKd : Hid (∀ x, Below w5.heap.size w5 x → Calls Tryd.prog 73 #[.agg #[.bool b, .string m]] x fun e w' => e = .returned (.int .u8 2) ∧ Below x.heap.size x w') := fun x _ => kindNum b m x
  have HDp : Hid (∀ x, Below w5.heap.size w5 x → Calls Tryd.prog 14 #[.iface 86 (.agg #[.bool b, .string m])] x fun e w' => e = .returned (.int .i64 0) ∧ x = w') := fun x h => by
    have := (Depth_any _ _ _ _ x (HV5.out.old h (Nat.le_refl _))).sym'
    rw [hdep] at this
    exact this
  have HRp : Hid (∀ x, Below w5.heap.size w5 x → Calls Tryd.prog 29 #[.agg #[.int .u8 2, .bool false, .bool b, .string m, .string ⟨#[]⟩, .slice a 0 c]] x fun e w' => e = .returned (.int .i64 0) ∧ Below x.heap.size x w') := fun x h => by
    have := rdep_any _ HF.out (by rw [hdep]; omega) a c 0 w5.heap.size x h.size (HP5.out.keep h (Nat.le_refl _))
    rw [hdep] at this
    exact this
  have hmk := mKind_83 b m
  clear hdep
  go_upto_region 11 with fail
  refine wp_region_held_drew (S := fun x => Below w5.heap.size w5 x) (by kernel_rfl) ((Below.refl _ _).drew) (fun hHeldA => ?_)
  refine wpAnyH_takeD (i := 0) (some 88) (v := ?vA0) rfl rfl (by kernel_rfl) (by kernel_rfl) (by kernel_rfl) (fun _ _ _ h => h) (Or.inl ⟨by kernel_rfl, ?hyA0⟩) (by assumption) ?restA0
  case hyA0 => (intro x hSx; have hBq := HRd.out x hSx; obtain ⟨q0, q1, q2, q3, q4, q5⟩ := Blk.c6 hBq; clear hBq; (try dsimp only at hSx); go_simp; first | done | with_reducible rfl)
  try simp only [Act.put, List.setIfInBounds_toArray, List.set_cons_zero, List.set_cons_succ]
  refine wpAnyH_takeD (i := 1) (some 89) (v := .bool false) rfl rfl (by kernel_rfl) (by kernel_rfl) (by kernel_rfl) (fun _ _ _ h => h) (Or.inl ⟨by kernel_rfl, ?hyA1⟩) (by assumption) ?restA1
  case hyA1 => (intro x hSx; have hBq := HRd.out x hSx; obtain ⟨q0, q1, q2, q3, q4, q5⟩ := Blk.c6 hBq; clear hBq; (try dsimp only at hSx); go_simp; first | done | rfl | simp)
  try simp only [Act.put, List.setIfInBounds_toArray, List.set_cons_zero, List.set_cons_succ]
  refine wpAnyH_takeD (i := 2) (some 90) (v := ?vA2) rfl rfl (by kernel_rfl) (by kernel_rfl) (by kernel_rfl) (fun _ _ _ h => h) (Or.inl ⟨by kernel_rfl, ?hyA2⟩) (by assumption) ?restA2
  case hyA2 => (intro x hSx; have hBq := HRd.out x hSx; obtain ⟨q0, q1, q2, q3, q4, q5⟩ := Blk.c6 hBq; clear hBq; (try dsimp only at hSx); go_simp; first | done | with_reducible rfl)
  try simp only [Act.put, List.setIfInBounds_toArray, List.set_cons_zero, List.set_cons_succ]
  refine wpAnyH_takeD (i := 3) (some 91) (v := ?vA3) rfl rfl (by kernel_rfl) (by kernel_rfl) (by kernel_rfl) (fun _ _ _ h => h) (Or.inl ⟨by kernel_rfl, ?hyA3⟩) (by assumption) ?restA3
  case hyA3 => (intro x hSx; have hBq := HRd.out x hSx; obtain ⟨q0, q1, q2, q3, q4, q5⟩ := Blk.c6 hBq; clear hBq; (try dsimp only at hSx); go_simp; first | done | with_reducible rfl)
  try simp only [Act.put, List.setIfInBounds_toArray, List.set_cons_zero, List.set_cons_succ]
  refine wpAnyH_takeD (i := 5) (some 93) (v := ?vA5) rfl rfl (by kernel_rfl) (by kernel_rfl) (by kernel_rfl) (fun _ _ _ h => h) (Or.inl ⟨by kernel_rfl, ?hyA5⟩) (by assumption) ?restA5
  case hyA5 => (intro x hSx; have hBq := HRd.out x hSx; obtain ⟨q0, q1, q2, q3, q4, q5⟩ := Blk.c6 hBq; clear hBq; (try dsimp only at hSx); go_simp; first | done | with_reducible rfl)
  try simp only [Act.put, List.setIfInBounds_toArray, List.set_cons_zero, List.set_cons_succ]
  refine wpAnyH_takeD (i := 6) (some 94) (v := ?vA6) rfl rfl (by kernel_rfl) (by kernel_rfl) (by kernel_rfl) (fun _ _ _ h => h) (Or.inl ⟨by kernel_rfl, ?hyA6⟩) (by assumption) ?restA6
  case hyA6 => (intro x hSx; have hBq := HRd.out x hSx; obtain ⟨q0, q1, q2, q3, q4, q5⟩ := Blk.c6 hBq; clear hBq; (try dsimp only at hSx); go_simp; first | done | with_reducible rfl)
  try simp only [Act.put, List.setIfInBounds_toArray, List.set_cons_zero, List.set_cons_succ]
  refine wpAnyH_ready (rs := [4]) (by kernel_rfl) (by simp) ?_
  refine AllReadyH.cons rfl (fun K hK => ?_) AllReadyH.nil
  go_simp
  go_wp2_with (go_at_call 73; refine (HKd.out _ hHeldA).mono ?_; rintro e yA4 ⟨rfl, hbyA4⟩)
  refine hK.out _ _ (HKeepA.out _ _ hHeldA hbyA4) (fun hHeldA4 => ?_)
  clear hK K
  try simp only [Act.put, List.setIfInBounds_toArray, List.set_cons_zero, List.set_cons_succ]
  refine wpAnyH_takeD (i := 7) (some 95) (v := .bool false) rfl rfl (by kernel_rfl) (by kernel_rfl) (by kernel_rfl) (fun _ _ _ h => h) (Or.inl ⟨by kernel_rfl, ?hyA7⟩) (by assumption) ?restA7
  case hyA7 => (intro x hSx; have hBq := HRd.out x hSx; obtain ⟨q0, q1, q2, q3, q4, q5⟩ := Blk.c6 hBq; clear hBq; (try dsimp only at hSx); go_simp; first | done | simp)
  try simp only [Act.put, List.setIfInBounds_toArray, List.set_cons_zero, List.set_cons_succ]
  refine wpAnyH_takeD (i := 8) (some 96) (v := ?vA8) rfl rfl (by kernel_rfl) (by kernel_rfl) (by kernel_rfl) (fun _ _ _ h => h) (Or.inl ⟨by kernel_rfl, ?hyA8⟩) (by assumption) ?restA8
  case hyA8 => (intro x hSx; have hBq := HRd.out x hSx; obtain ⟨q0, q1, q2, q3, q4, q5⟩ := Blk.c6 hBq; clear hBq; (try dsimp only at hSx); go_simp; first | done | with_reducible rfl)
  try simp only [Act.put, List.setIfInBounds_toArray, List.set_cons_zero, List.set_cons_succ]
  refine wpAnyH_takeD (i := 9) (some 97) (v := ?vA9) rfl rfl (by kernel_rfl) (by kernel_rfl) (by kernel_rfl) (fun _ _ _ h => h) (Or.inl ⟨by kernel_rfl, ?hyA9⟩) (by assumption) ?restA9
  case hyA9 => (intro x hSx; have hBq := HRd.out x hSx; obtain ⟨q0, q1, q2, q3, q4, q5⟩ := Blk.c6 hBq; clear hBq; (try dsimp only at hSx); go_simp; first | done | with_reducible rfl)
  try simp only [Act.put, List.setIfInBounds_toArray, List.set_cons_zero, List.set_cons_succ]
  refine wpAnyH_takeD (i := 10) (some 98) (v := ?vA10) rfl rfl (by kernel_rfl) (by kernel_rfl) (by kernel_rfl) (fun _ _ _ h => h) (Or.inl ⟨by kernel_rfl, ?hyA10⟩) (by assumption) ?restA10
  case hyA10 => (intro x hSx; have hBq := HRd.out x hSx; obtain ⟨q0, q1, q2, q3, q4, q5⟩ := Blk.c6 hBq; clear hBq; (try dsimp only at hSx); go_simp; first | done | with_reducible rfl)
  try simp only [Act.put, List.setIfInBounds_toArray, List.set_cons_zero, List.set_cons_succ]
  refine wpAnyH_takeD (i := 12) (some 100) (v := ?vA12) rfl rfl (by kernel_rfl) (by kernel_rfl) (by kernel_rfl) (fun _ _ _ h => h) (Or.inl ⟨by kernel_rfl, ?hyA12⟩) (by assumption) ?restA12
  case hyA12 => (intro x hSx; have hBq := HRd.out x hSx; obtain ⟨q0, q1, q2, q3, q4, q5⟩ := Blk.c6 hBq; clear hBq; (try dsimp only at hSx); go_simp; first | done | with_reducible rfl)
  try simp only [Act.put, List.setIfInBounds_toArray, List.set_cons_zero, List.set_cons_succ]
  refine wpAnyH_ready (rs := [11]) (by kernel_rfl) (by simp) ?_
  refine AllReadyH.cons rfl (fun K hK => ?_) AllReadyH.nil
  go_simp
  go_wp2_with (go_at_call 14; refine (HDp.out _ hHeldA4).mono ?_; rintro e yA11 ⟨rfl, hbyA11⟩)
  subst hbyA11
  refine hK.out _ _ hHeldA4 (fun hHeldA11 => ?_)
  clear hK K
  try simp only [Act.put, List.setIfInBounds_toArray, List.set_cons_zero, List.set_cons_succ]
  refine wpAnyH_ready (rs := [13]) (by kernel_rfl) (by simp) ?_
  refine AllReadyH.cons rfl (fun K hK => ?_) AllReadyH.nil
  go_simp
  go_wp2_with (go_at_call 29; refine (HRp.out _ hHeldA11).mono ?_; rintro e yA13 ⟨rfl, hbyA13⟩)
  refine hK.out _ _ (HKeepA.out _ _ hHeldA11 hbyA13) (fun hHeldA13 => ?_)
  clear hK K
  try simp only [Act.put, List.setIfInBounds_toArray, List.set_cons_zero, List.set_cons_succ]
  refine wpAnyH_takeD (i := 14) (some 102) (v := .bool false) rfl rfl (by kernel_rfl) (by kernel_rfl) (by kernel_rfl) (fun _ _ _ h => h) (Or.inl ⟨by kernel_rfl, ?hyA14⟩) (by assumption) ?restA14
  case hyA14 => (intro x hSx; have hBq := HRd.out x hSx; obtain ⟨q0, q1, q2, q3, q4, q5⟩ := Blk.c6 hBq; clear hBq; (try dsimp only at hSx); go_simp; first | done | simp)
  try simp only [Act.put, List.setIfInBounds_toArray, List.set_cons_zero, List.set_cons_succ]
  refine wpAnyH_takeD (i := 15) (some 103) (v := ?vA15) rfl rfl (by kernel_rfl) (by kernel_rfl) (by kernel_rfl) (fun _ _ _ h => h) (Or.inl ⟨by kernel_rfl, ?hyA15⟩) (by assumption) ?restA15
  case hyA15 => (intro x hSx; have hBq := HRd.out x hSx; obtain ⟨q0, q1, q2, q3, q4, q5⟩ := Blk.c6 hBq; clear hBq; (try dsimp only at hSx); go_simp; first | done | with_reducible rfl)
  try simp only [Act.put, List.setIfInBounds_toArray, List.set_cons_zero, List.set_cons_succ]
  refine wpAnyH_done (by kernel_rfl) ?_ _
  have hw6 := hw5.trans (hHeldA13.mono hw5.size)
  have HB6 : Hid (Blk yA13 w.heap.size 27 #[.int .u8 2, .bool false, .bool b, .string m, .string ⟨#[]⟩, .slice a 0 c]) := Blk.old HB5.out hHeldA13
  have HP6 : Hid (PIn yA13 0 yA13.heap.size (.mk 2 false b m ⟨#[]⟩ []) a) := PIn.go HP5.out hHeldA13
  clear HKeepA HRd HKd HDp HRp y0 y1 y2 y3 y4 y5 HB5 HP5 HV5 hmk
  have hmp := mPart_83 b m
  have hpc := numPart_any b m yA13
  unfold pV at hpc
  simp only [Prt.kind, Prt.yes, Prt.neg, Prt.mag, Prt.raw, Prt.items, List.length_nil] at hpc
  generalize yA13 = w6 at *
  go_wp2_with fail
  refine hpc.mono ?_
  rintro _ w7 ⟨c4, rfl, hb7⟩
  clear hpc hmp
  have hq8 := (Below.refl w7.heap.size w7).alloc (Nat.le_refl _) (.cells #[.int .u8 2, .bool false, .bool b, .string m, .string ⟨#[]⟩, .slice none 0 c4] 27)
  have hB8 := Blk.new w7 27 #[.int .u8 2, .bool false, .bool b, .string m, .string ⟨#[]⟩, .slice none 0 c4]
  go_upto_region 14 with fail
  generalize w7.alloc (.cells #[.int .u8 2, .bool false, .bool b, .string m, .string ⟨#[]⟩, .slice none 0 c4] 27) = w8 at *
  have hb68 : Below w6.heap.size w6 w8 := hb7.trans (hq8.mono hb7.size)
  have hs := rsame_any _ HF.out _ HF.out none a c4 c 0 w8.heap.size 0 w8.heap.size w8 (Nat.le_refl _) (Nat.le_refl _) (.nil rfl) (PIn.go HP6.out hb68)
  rw [eqP_self] at hs
  unfold pV at hs
  simp only [Prt.kind, Prt.yes, Prt.neg, Prt.mag, Prt.raw, Prt.items, List.length_nil] at hs
  obtain ⟨x0, x1, x2, x3, x4, x5⟩ := hB8.c6
  have hBy := Blk.old HB6.out hb68
  obtain ⟨y0, y1, y2, y3, y4, y5⟩ := hBy.c6
  clear hB8 hq8 hb7 hBy
  go_wp2_with fail
  refine hs.mono ?_
  rintro _ w9 ⟨rfl, hb9⟩
  clear hs x0 x1 x2 x3 x4 x5 y0 y1 y2 y3 y4 y5
  have hb69 : Below w6.heap.size w6 w9 := hb68.trans (hb9.mono hb68.size)
  have hw9 := hw6.trans (hb69.mono hw6.size)
  have HB9 : Hid (Blk w9 w.heap.size 27 #[.int .u8 2, .bool false, .bool b, .string m, .string ⟨#[]⟩, .slice a 0 c]) := Blk.old HB6.out hb69
  clear hb68 hb9 hb69 HB6 HP6
  have HRd : Hid (∀ x, Below w9.heap.size w9 x → Blk x w.heap.size 27 #[.int .u8 2, .bool false, .bool b, .string m, .string ⟨#[]⟩, .slice a 0 c]) := fun x h => Blk.below HB9.out h (Blk.lt HB9.out)
  have HKeepB : Hid (∀ x y, Below w9.heap.size w9 x → Below x.heap.size x y → Below w9.heap.size w9 y) := fun x y h1 h2 => h1.trans (h2.mono h1.size)
  have hmn := mNum_83 b m
  have HNm : Hid (∀ x, Below w9.heap.size w9 x → Calls Tryd.prog 74 #[.agg #[.bool b, .string m]] x fun e w' => e = .returned (.agg #[.bool b, .string m]) ∧ Below x.heap.size x w') := fun x _ => num_any b m x
  go_upto_region 15 with fail
  refine wp_region_held_drew (S := fun x => Below w9.heap.size w9 x) (by kernel_rfl) ((Below.refl _ _).drew) (fun hHeldB => ?_)
  refine wpAnyH_takeD (i := 0) (some 109) (v := ?vB0) rfl rfl (by kernel_rfl) (by kernel_rfl) (by kernel_rfl) (fun _ _ _ h => h) (Or.inl ⟨by kernel_rfl, ?hyB0⟩) (by assumption) ?restB0
  case hyB0 => (intro x hSx; have hBq := HRd.out x hSx; obtain ⟨q0, q1, q2, q3, q4, q5⟩ := Blk.c6 hBq; clear hBq; (try dsimp only at hSx); go_simp; first | done | with_reducible rfl)
  try simp only [Act.put, List.setIfInBounds_toArray, List.set_cons_zero, List.set_cons_succ]
  refine wpAnyH_takeD (i := 1) (some 110) (v := ?vB1) rfl rfl (by kernel_rfl) (by kernel_rfl) (by kernel_rfl) (fun _ _ _ h => h) (Or.inl ⟨by kernel_rfl, ?hyB1⟩) (by assumption) ?restB1
  case hyB1 => (intro x hSx; have hBq := HRd.out x hSx; obtain ⟨q0, q1, q2, q3, q4, q5⟩ := Blk.c6 hBq; clear hBq; (try dsimp only at hSx); go_simp; first | done | with_reducible rfl)
  try simp only [Act.put, List.setIfInBounds_toArray, List.set_cons_zero, List.set_cons_succ]
  refine wpAnyH_takeD (i := 2) (some 111) (v := ?vB2) rfl rfl (by kernel_rfl) (by kernel_rfl) (by kernel_rfl) (fun _ _ _ h => h) (Or.inl ⟨by kernel_rfl, ?hyB2⟩) (by assumption) ?restB2
  case hyB2 => (intro x hSx; have hBq := HRd.out x hSx; obtain ⟨q0, q1, q2, q3, q4, q5⟩ := Blk.c6 hBq; clear hBq; (try dsimp only at hSx); go_simp; first | done | with_reducible rfl)
  try simp only [Act.put, List.setIfInBounds_toArray, List.set_cons_zero, List.set_cons_succ]
  refine wpAnyH_takeD (i := 3) (some 112) (v := ?vB3) rfl rfl (by kernel_rfl) (by kernel_rfl) (by kernel_rfl) (fun _ _ _ h => h) (Or.inl ⟨by kernel_rfl, ?hyB3⟩) (by assumption) ?restB3
  case hyB3 => (intro x hSx; have hBq := HRd.out x hSx; obtain ⟨q0, q1, q2, q3, q4, q5⟩ := Blk.c6 hBq; clear hBq; (try dsimp only at hSx); go_simp; first | done | with_reducible rfl)
  try simp only [Act.put, List.setIfInBounds_toArray, List.set_cons_zero, List.set_cons_succ]
  refine wpAnyH_takeD (i := 4) (some 113) (v := ?vB4) rfl rfl (by kernel_rfl) (by kernel_rfl) (by kernel_rfl) (fun _ _ _ h => h) (Or.inl ⟨by kernel_rfl, ?hyB4⟩) (by assumption) ?restB4
  case hyB4 => (intro x hSx; have hBq := HRd.out x hSx; obtain ⟨q0, q1, q2, q3, q4, q5⟩ := Blk.c6 hBq; clear hBq; (try dsimp only at hSx); go_simp; first | done | with_reducible rfl)
  try simp only [Act.put, List.setIfInBounds_toArray, List.set_cons_zero, List.set_cons_succ]
  refine wpAnyH_takeD (i := 5) (some 114) (v := ?vB5) rfl rfl (by kernel_rfl) (by kernel_rfl) (by kernel_rfl) (fun _ _ _ h => h) (Or.inl ⟨by kernel_rfl, ?hyB5⟩) (by assumption) ?restB5
  case hyB5 => (intro x hSx; have hBq := HRd.out x hSx; obtain ⟨q0, q1, q2, q3, q4, q5⟩ := Blk.c6 hBq; clear hBq; (try dsimp only at hSx); go_simp; first | done | with_reducible rfl)
  try simp only [Act.put, List.setIfInBounds_toArray, List.set_cons_zero, List.set_cons_succ]
  refine wpAnyH_takeD (i := 7) (some 116) (v := ?vB7) rfl rfl (by kernel_rfl) (by kernel_rfl) (by kernel_rfl) (fun _ _ _ h => h) (Or.inl ⟨by kernel_rfl, ?hyB7⟩) (by assumption) ?restB7
  case hyB7 => (intro x hSx; have hBq := HRd.out x hSx; obtain ⟨q0, q1, q2, q3, q4, q5⟩ := Blk.c6 hBq; clear hBq; (try dsimp only at hSx); go_simp; first | done | with_reducible rfl)
  try simp only [Act.put, List.setIfInBounds_toArray, List.set_cons_zero, List.set_cons_succ]
  refine wpAnyH_takeD (i := 8) (some 117) (v := .agg #[.bool b, .string m]) rfl rfl (by kernel_rfl) (by kernel_rfl) (by kernel_rfl) (fun _ _ _ h => h) (Or.inl ⟨by kernel_rfl, ?hyB8⟩) (by assumption) ?restB8
  case hyB8 => (intro x hSx; have hBq := HRd.out x hSx; obtain ⟨q0, q1, q2, q3, q4, q5⟩ := Blk.c6 hBq; clear hBq; (try dsimp only at hSx); go_simp; first | done | rfl | simp)
  try simp only [Act.put, List.setIfInBounds_toArray, List.set_cons_zero, List.set_cons_succ]
  refine wpAnyH_ready (rs := [6]) (by kernel_rfl) (by simp) ?_
  refine AllReadyH.cons rfl (fun K hK => ?_) AllReadyH.nil
  go_simp
  go_wp2_with (go_at_call 74; refine (HNm.out _ hHeldB).mono ?_; rintro e yB6 ⟨rfl, hbyB6⟩)
  refine hK.out _ _ (HKeepB.out _ _ hHeldB hbyB6) (fun hHeldB6 => ?_)
  clear hK K
  try simp only [Act.put, List.setIfInBounds_toArray, List.set_cons_zero, List.set_cons_succ]
  refine wpAnyH_takeD (i := 9) (some 118) (v := .bool false) rfl rfl (by kernel_rfl) (by kernel_rfl) (by kernel_rfl) (fun _ _ _ h => h) (Or.inl ⟨by kernel_rfl, ?hyB9⟩) (by assumption) ?restB9
  case hyB9 => (intro x hSx; have hBq := HRd.out x hSx; obtain ⟨q0, q1, q2, q3, q4, q5⟩ := Blk.c6 hBq; clear hBq; (try dsimp only at hSx); go_simp; first | done | rfl | simp)
  try simp only [Act.put, List.setIfInBounds_toArray, List.set_cons_zero, List.set_cons_succ]
  refine wpAnyH_takeD (i := 10) (some 119) (v := ?vB10) rfl rfl (by kernel_rfl) (by kernel_rfl) (by kernel_rfl) (fun _ _ _ h => h) (Or.inl ⟨by kernel_rfl, ?hyB10⟩) (by assumption) ?restB10
  case hyB10 => (intro x hSx; have hBq := HRd.out x hSx; obtain ⟨q0, q1, q2, q3, q4, q5⟩ := Blk.c6 hBq; clear hBq; (try dsimp only at hSx); go_simp; first | done | with_reducible rfl)
  try simp only [Act.put, List.setIfInBounds_toArray, List.set_cons_zero, List.set_cons_succ]
  refine wpAnyH_takeD (i := 11) (some 120) (v := ?vB11) rfl rfl (by kernel_rfl) (by kernel_rfl) (by kernel_rfl) (fun _ _ _ h => h) (Or.inl ⟨by kernel_rfl, ?hyB11⟩) (by assumption) ?restB11
  case hyB11 => (intro x hSx; have hBq := HRd.out x hSx; obtain ⟨q0, q1, q2, q3, q4, q5⟩ := Blk.c6 hBq; clear hBq; (try dsimp only at hSx); go_simp; first | done | with_reducible rfl)
  try simp only [Act.put, List.setIfInBounds_toArray, List.set_cons_zero, List.set_cons_succ]
  refine wpAnyH_takeD (i := 12) (some 121) (v := ?vB12) rfl rfl (by kernel_rfl) (by kernel_rfl) (by kernel_rfl) (fun _ _ _ h => h) (Or.inl ⟨by kernel_rfl, ?hyB12⟩) (by assumption) ?restB12
  case hyB12 => (intro x hSx; have hBq := HRd.out x hSx; obtain ⟨q0, q1, q2, q3, q4, q5⟩ := Blk.c6 hBq; clear hBq; (try dsimp only at hSx); go_simp; first | done | with_reducible rfl)
  try simp only [Act.put, List.setIfInBounds_toArray, List.set_cons_zero, List.set_cons_succ]
  refine wpAnyH_takeD (i := 13) (some 122) (v := ?vB13) rfl rfl (by kernel_rfl) (by kernel_rfl) (by kernel_rfl) (fun _ _ _ h => h) (Or.inl ⟨by kernel_rfl, ?hyB13⟩) (by assumption) ?restB13
  case hyB13 => (intro x hSx; have hBq := HRd.out x hSx; obtain ⟨q0, q1, q2, q3, q4, q5⟩ := Blk.c6 hBq; clear hBq; (try dsimp only at hSx); go_simp; first | done | with_reducible rfl)
  try simp only [Act.put, List.setIfInBounds_toArray, List.set_cons_zero, List.set_cons_succ]
  refine wpAnyH_takeD (i := 14) (some 123) (v := ?vB14) rfl rfl (by kernel_rfl) (by kernel_rfl) (by kernel_rfl) (fun _ _ _ h => h) (Or.inl ⟨by kernel_rfl, ?hyB14⟩) (by assumption) ?restB14
  case hyB14 => (intro x hSx; have hBq := HRd.out x hSx; obtain ⟨q0, q1, q2, q3, q4, q5⟩ := Blk.c6 hBq; clear hBq; (try dsimp only at hSx); go_simp; first | done | with_reducible rfl)
  try simp only [Act.put, List.setIfInBounds_toArray, List.set_cons_zero, List.set_cons_succ]
  refine wpAnyH_takeD (i := 15) (some 124) (v := undef) rfl rfl (by kernel_rfl) (by kernel_rfl) (by kernel_rfl) (fun _ _ _ h => h) (Or.inr ⟨by kernel_rfl, rfl⟩) (by assumption) ?_
  try simp only [Act.put, List.setIfInBounds_toArray, List.set_cons_zero, List.set_cons_succ]
  refine wpAnyH_takeD (i := 16) (some 125) (v := undef) rfl rfl (by kernel_rfl) (by kernel_rfl) (by kernel_rfl) (fun _ _ _ h => h) (Or.inr ⟨by kernel_rfl, rfl⟩) (by assumption) ?_
  try simp only [Act.put, List.setIfInBounds_toArray, List.set_cons_zero, List.set_cons_succ]
  refine wpAnyH_takeD (i := 17) (some 126) (v := undef) rfl rfl (by kernel_rfl) (by kernel_rfl) (by kernel_rfl) (fun _ _ _ h => h) (Or.inr ⟨by kernel_rfl, rfl⟩) (by assumption) ?_
  try simp only [Act.put, List.setIfInBounds_toArray, List.set_cons_zero, List.set_cons_succ]
  refine wpAnyH_takeD (i := 18) (some 127) (v := undef) rfl rfl (by kernel_rfl) (by kernel_rfl) (by kernel_rfl) (fun _ _ _ h => h) (Or.inr ⟨by kernel_rfl, rfl⟩) (by assumption) ?_
  try simp only [Act.put, List.setIfInBounds_toArray, List.set_cons_zero, List.set_cons_succ]
  refine wpAnyH_takeD (i := 19) (some 128) (v := undef) rfl rfl (by kernel_rfl) (by kernel_rfl) (by kernel_rfl) (fun _ _ _ h => h) (Or.inr ⟨by kernel_rfl, rfl⟩) (by assumption) ?_
  try simp only [Act.put, List.setIfInBounds_toArray, List.set_cons_zero, List.set_cons_succ]
  refine wpAnyH_takeD (i := 20) (some 129) (v := ?vB20) rfl rfl (by kernel_rfl) (by kernel_rfl) (by kernel_rfl) (fun _ _ _ h => h) (Or.inl ⟨by kernel_rfl, ?hyB20⟩) (by assumption) ?restB20
  case hyB20 => (intro x hSx; have hBq := HRd.out x hSx; obtain ⟨q0, q1, q2, q3, q4, q5⟩ := Blk.c6 hBq; clear hBq; (try dsimp only at hSx); go_simp; first | done | with_reducible rfl)
  try simp only [Act.put, List.setIfInBounds_toArray, List.set_cons_zero, List.set_cons_succ]
  refine wpAnyH_takeD (i := 21) (some 130) (v := ?vB21) rfl rfl (by kernel_rfl) (by kernel_rfl) (by kernel_rfl) (fun _ _ _ h => h) (Or.inl ⟨by kernel_rfl, ?hyB21⟩) (by assumption) ?restB21
  case hyB21 => (intro x hSx; have hBq := HRd.out x hSx; obtain ⟨q0, q1, q2, q3, q4, q5⟩ := Blk.c6 hBq; clear hBq; (try dsimp only at hSx); go_simp; first | done | with_reducible rfl)
  try simp only [Act.put, List.setIfInBounds_toArray, List.set_cons_zero, List.set_cons_succ]
  refine wpAnyH_done (by kernel_rfl) ?_ _
  go_wp2_with fail
  go_ret
  exact ⟨rfl, hw9.trans (hHeldB6.mono hw9.size)⟩
set_option maxHeartbeats 8000000 in
set_option maxRecDepth 20000 in
theorem look_raw (k : Int) (hk : k = 3 ∨ k = 4 ∨ k = 5 ∨ k = 6) (r : ByteArray) (hm : may (.mk k false false ⟨#[]⟩ r []) = true) (hf : Fits (.mk k false false ⟨#[]⟩ r [])) (a : Option Addr) (c : Nat) (w : World) (hv : VIn w 0 w.heap.size (.iface 91 (.agg #[.int .u8 k, .string r])) (.mk k false false ⟨#[]⟩ r [])) (hp : PIn w 0 w.heap.size (.mk k false false ⟨#[]⟩ r []) a) : Calls Tryd.prog 11 #[.iface 91 (.agg #[.int .u8 k, .string r]), pV (.mk k false false ⟨#[]⟩ r []) a c] w fun e w' => e = .returned (.bool true) ∧ Below w.heap.size w w' := by
  unfold pV
  simp only [Prt.kind, Prt.yes, Prt.neg, Prt.mag, Prt.raw, Prt.items, List.length_nil]
  have hb1 := (Below.refl w.heap.size w).alloc (Nat.le_refl _) (.cells #[.int .u8 k, .bool false, .bool false, .string ⟨#[]⟩, .string r, .slice a 0 c] 27)
  have hB1 := Blk.new w 27 #[.int .u8 k, .bool false, .bool false, .string ⟨#[]⟩, .string r, .slice a 0 c]
  have hv1 := VIn.go hv hb1
  have hp1 := PIn.go hp hb1
  have HF : Hid (Fits (.mk k false false ⟨#[]⟩ r [])) := hf
  clear hv hp hf
  go_enter Tryd.func11, Tryd.ntmps11
  go_upto_region 1 with fail
  generalize w.alloc (.cells #[.int .u8 k, .bool false, .bool false, .string ⟨#[]⟩, .string r, .slice a 0 c] 27) = w1 at *
  have h28 := (asNumber_not _ _ _ _ w1 hv1 (by show (k : Int) ≠ 2; omega)).sym'
  have h21 := (asRaw_raw k r w1).sym'
  have h19 := (asList_not _ _ _ _ w1 hv1 (by show (k : Int) ≠ 7; omega)).sym'
  have h18 := tell_any _ hm _ 0 w1.heap.size w1 (Nat.le_refl _) hv1
  unfold pV at h18
  simp only [Prt.kind, Prt.yes, Prt.neg, Prt.mag, Prt.raw, Prt.items, List.length_nil] at h18
  have HV1 : Hid (VIn w1 0 w1.heap.size (.iface 91 (.agg #[.int .u8 k, .string r])) (.mk k false false ⟨#[]⟩ r [])) := hv1
  have HP1 : Hid (PIn w1 0 w1.heap.size (.mk k false false ⟨#[]⟩ r []) a) := hp1
  have HB1 : Hid (Blk w1 w.heap.size 27 #[.int .u8 k, .bool false, .bool false, .string ⟨#[]⟩, .string r, .slice a 0 c]) := hB1
  clear hv1 hp1 hB1
  have k0 : (k == 0) = false := by rw [beq_eq_false_iff_ne]; omega
  have k2 : (k == 2) = false := by rw [beq_eq_false_iff_ne]; omega
  have k7 : (k == 7) = false := by rw [beq_eq_false_iff_ne]; omega
  have hkr : isRawK k = true := by rcases hk with rfl | rfl | rfl | rfl <;> rfl
  go_wp2_with fail
  refine h28.mono ?_
  rintro _ _ ⟨rfl, rfl⟩
  clear h28
  go_wp2_with fail
  refine h21.mono ?_
  rintro _ _ ⟨rfl, rfl⟩
  clear h21
  go_wp2_with fail
  refine h19.mono ?_
  rintro _ _ ⟨rfl, rfl⟩
  clear h19
  go_wp2_with fail
  refine h18.mono ?_
  rintro _ w2 ⟨a3, c3, rfl, hp2, hb2⟩
  clear h18
  have hq3 := (Below.refl w2.heap.size w2).alloc (Nat.le_refl _) (.cells #[.int .u8 k, .bool false, .bool false, .string ⟨#[]⟩, .string r, .slice a3 0 c3] 27)
  have hB3 := Blk.new w2 27 #[.int .u8 k, .bool false, .bool false, .string ⟨#[]⟩, .string r, .slice a3 0 c3]
  go_upto_region 5 with fail
  generalize w2.alloc (.cells #[.int .u8 k, .bool false, .bool false, .string ⟨#[]⟩, .string r, .slice a3 0 c3] 27) = w3 at *
  have hb13 : Below w1.heap.size w1 w3 := hb2.trans (hq3.mono hb2.size)
  have hs := rsame_any _ HF.out _ HF.out a3 a c3 c 0 w3.heap.size 0 w3.heap.size w3 (Nat.le_refl _) (Nat.le_refl _) (PIn.go hp2 hq3) (PIn.go HP1.out hb13)
  rw [eqP_self] at hs
  unfold pV at hs
  simp only [Prt.kind, Prt.yes, Prt.neg, Prt.mag, Prt.raw, Prt.items, List.length_nil] at hs
  obtain ⟨x0, x1, x2, x3, x4, x5⟩ := hB3.c6
  have hBy := Blk.old HB1.out hb13
  obtain ⟨y0, y1, y2, y3, y4, y5⟩ := hBy.c6
  clear hp2 hB3 hq3 hb2 hBy
  go_wp2_with fail
  refine hs.mono ?_
  rintro _ w4 ⟨rfl, hb4⟩
  clear hs x0 x1 x2 x3 x4 x5 y0 y1 y2 y3 y4 y5
  have hb14 : Below w1.heap.size w1 w4 := hb13.trans (hb4.mono hb13.size)
  clear hb13 hb4
  have hBy := Blk.old HB1.out hb14
  obtain ⟨y0, y1, y2, y3, y4, y5⟩ := hBy.c6
  have h29 := risRaw_any k (by omega) (.bool false) (.bool false) (.string ⟨#[]⟩) (.string r) (.slice a 0 c) w4
  clear hBy
  rw [hkr] at h29
  go_wp2_with fail
  refine h29.mono ?_
  rintro _ w5 ⟨rfl, hb5⟩
  clear h29 y0 y1 y2 y3 y4 y5
  have hb15 : Below w1.heap.size w1 w5 := hb14.trans (hb5.mono hb14.size)
  clear hb14 hb5
  have hw5 : Below w.heap.size w w5 := hb1.trans (hb15.mono hb1.size)
  have HB5 : Hid (Blk w5 w.heap.size 27 #[.int .u8 k, .bool false, .bool false, .string ⟨#[]⟩, .string r, .slice a 0 c]) := Blk.old HB1.out hb15
  have HV5 : Hid (VIn w5 0 w5.heap.size (.iface 91 (.agg #[.int .u8 k, .string r])) (.mk k false false ⟨#[]⟩ r [])) := VIn.go HV1.out hb15
  have HP5 : Hid (PIn w5 0 w5.heap.size (.mk k false false ⟨#[]⟩ r []) a) := PIn.go HP1.out hb15
  clear HB1 HV1 HP1 hb15 hb1
  have hBy := HB5.out
  obtain ⟨y0, y1, y2, y3, y4, y5⟩ := hBy.c6
  clear hBy
  have hdep : dep (.mk k false false ⟨#[]⟩ r []) = 0 := dep_not (by omega)
  have HKeepA : Hid (∀ x y, Below w5.heap.size w5 x → Below x.heap.size x y → Below w5.heap.size w5 y) := fun x y h1 h2 => h1.trans (h2.mono h1.size)
  have HRd : Hid (∀ x, Below w5.heap.size w5 x → Blk x w.heap.size 27 #[.int .u8 k, .bool false, .bool false, .string ⟨#[]⟩, .string r, .slice a 0 c]) := fun x h => Blk.below HB5.out h (Blk.lt HB5.out)
  have HKd : Hid (∀ x, Below w5.heap.size w5 x → Calls Tryd.prog 81 #[.agg #[.int .u8 k, .string r]] x fun e w' => e = .returned (.int .u8 k) ∧ Below x.heap.size x w') := fun x _ => kindRaw k r x
  have HDp : Hid (∀ x, Below w5.heap.size w5 x → Calls Tryd.prog 14 #[.iface 91 (.agg #[.int .u8 k, .string r])] x fun e w' => e = .returned (.int .i64 0) ∧ x = w') := fun x h => by
    have := (Depth_any _ _ _ _ x (HV5.out.old h (Nat.le_refl _))).sym'
    rw [hdep] at this
    exact this
  have HRp : Hid (∀ x, Below w5.heap.size w5 x → Calls Tryd.prog 29 #[.agg #[.int .u8 k, .bool false, .bool false, .string ⟨#[]⟩, .string r, .slice a 0 c]] x fun e w' => e = .returned (.int .i64 0) ∧ Below x.heap.size x w') := fun x h => by
    have := rdep_any _ HF.out (by rw [hdep]; omega) a c 0 w5.heap.size x h.size (HP5.out.keep h (Nat.le_refl _))
    rw [hdep] at this
    exact this
  have hmk := mKind_85 k r
  clear hdep
  go_upto_region 11 with fail
  refine wp_region_held_drew (S := fun x => Below w5.heap.size w5 x) (by kernel_rfl) ((Below.refl _ _).drew) (fun hHeldA => ?_)
  refine wpAnyH_takeD (i := 0) (some 88) (v := ?vA0) rfl rfl (by kernel_rfl) (by kernel_rfl) (by kernel_rfl) (fun _ _ _ h => h) (Or.inl ⟨by kernel_rfl, ?hyA0⟩) (by assumption) ?restA0
  case hyA0 => (intro x hSx; have hBq := HRd.out x hSx; obtain ⟨q0, q1, q2, q3, q4, q5⟩ := Blk.c6 hBq; clear hBq; (try dsimp only at hSx); go_simp; first | done | with_reducible rfl)
  try simp only [Act.put, List.setIfInBounds_toArray, List.set_cons_zero, List.set_cons_succ]
  refine wpAnyH_takeD (i := 1) (some 89) (v := .bool false) rfl rfl (by kernel_rfl) (by kernel_rfl) (by kernel_rfl) (fun _ _ _ h => h) (Or.inl ⟨by kernel_rfl, ?hyA1⟩) (by assumption) ?restA1
  case hyA1 => (intro x hSx; have hBq := HRd.out x hSx; obtain ⟨q0, q1, q2, q3, q4, q5⟩ := Blk.c6 hBq; clear hBq; (try dsimp only at hSx); go_simp; first | done | rfl | simp)
  try simp only [Act.put, List.setIfInBounds_toArray, List.set_cons_zero, List.set_cons_succ]
  refine wpAnyH_takeD (i := 2) (some 90) (v := ?vA2) rfl rfl (by kernel_rfl) (by kernel_rfl) (by kernel_rfl) (fun _ _ _ h => h) (Or.inl ⟨by kernel_rfl, ?hyA2⟩) (by assumption) ?restA2
  case hyA2 => (intro x hSx; have hBq := HRd.out x hSx; obtain ⟨q0, q1, q2, q3, q4, q5⟩ := Blk.c6 hBq; clear hBq; (try dsimp only at hSx); go_simp; first | done | with_reducible rfl)
  try simp only [Act.put, List.setIfInBounds_toArray, List.set_cons_zero, List.set_cons_succ]
  refine wpAnyH_takeD (i := 3) (some 91) (v := ?vA3) rfl rfl (by kernel_rfl) (by kernel_rfl) (by kernel_rfl) (fun _ _ _ h => h) (Or.inl ⟨by kernel_rfl, ?hyA3⟩) (by assumption) ?restA3
  case hyA3 => (intro x hSx; have hBq := HRd.out x hSx; obtain ⟨q0, q1, q2, q3, q4, q5⟩ := Blk.c6 hBq; clear hBq; (try dsimp only at hSx); go_simp; first | done | with_reducible rfl)
  try simp only [Act.put, List.setIfInBounds_toArray, List.set_cons_zero, List.set_cons_succ]
  refine wpAnyH_takeD (i := 5) (some 93) (v := ?vA5) rfl rfl (by kernel_rfl) (by kernel_rfl) (by kernel_rfl) (fun _ _ _ h => h) (Or.inl ⟨by kernel_rfl, ?hyA5⟩) (by assumption) ?restA5
  case hyA5 => (intro x hSx; have hBq := HRd.out x hSx; obtain ⟨q0, q1, q2, q3, q4, q5⟩ := Blk.c6 hBq; clear hBq; (try dsimp only at hSx); go_simp; first | done | with_reducible rfl)
  try simp only [Act.put, List.setIfInBounds_toArray, List.set_cons_zero, List.set_cons_succ]
  refine wpAnyH_takeD (i := 6) (some 94) (v := ?vA6) rfl rfl (by kernel_rfl) (by kernel_rfl) (by kernel_rfl) (fun _ _ _ h => h) (Or.inl ⟨by kernel_rfl, ?hyA6⟩) (by assumption) ?restA6
  case hyA6 => (intro x hSx; have hBq := HRd.out x hSx; obtain ⟨q0, q1, q2, q3, q4, q5⟩ := Blk.c6 hBq; clear hBq; (try dsimp only at hSx); go_simp; first | done | with_reducible rfl)
  try simp only [Act.put, List.setIfInBounds_toArray, List.set_cons_zero, List.set_cons_succ]
  refine wpAnyH_ready (rs := [4]) (by kernel_rfl) (by simp) ?_
  refine AllReadyH.cons rfl (fun K hK => ?_) AllReadyH.nil
  go_simp
  go_wp2_with (go_at_call 81; refine (HKd.out _ hHeldA).mono ?_; rintro e yA4 ⟨rfl, hbyA4⟩)
  refine hK.out _ _ (HKeepA.out _ _ hHeldA hbyA4) (fun hHeldA4 => ?_)
  clear hK K
  try simp only [Act.put, List.setIfInBounds_toArray, List.set_cons_zero, List.set_cons_succ]
  refine wpAnyH_takeD (i := 7) (some 95) (v := .bool false) rfl rfl (by kernel_rfl) (by kernel_rfl) (by kernel_rfl) (fun _ _ _ h => h) (Or.inl ⟨by kernel_rfl, ?hyA7⟩) (by assumption) ?restA7
  case hyA7 => (intro x hSx; have hBq := HRd.out x hSx; obtain ⟨q0, q1, q2, q3, q4, q5⟩ := Blk.c6 hBq; clear hBq; (try dsimp only at hSx); go_simp; first | done | simp)
  try simp only [Act.put, List.setIfInBounds_toArray, List.set_cons_zero, List.set_cons_succ]
  refine wpAnyH_takeD (i := 8) (some 96) (v := ?vA8) rfl rfl (by kernel_rfl) (by kernel_rfl) (by kernel_rfl) (fun _ _ _ h => h) (Or.inl ⟨by kernel_rfl, ?hyA8⟩) (by assumption) ?restA8
  case hyA8 => (intro x hSx; have hBq := HRd.out x hSx; obtain ⟨q0, q1, q2, q3, q4, q5⟩ := Blk.c6 hBq; clear hBq; (try dsimp only at hSx); go_simp; first | done | with_reducible rfl)
  try simp only [Act.put, List.setIfInBounds_toArray, List.set_cons_zero, List.set_cons_succ]
  refine wpAnyH_takeD (i := 9) (some 97) (v := ?vA9) rfl rfl (by kernel_rfl) (by kernel_rfl) (by kernel_rfl) (fun _ _ _ h => h) (Or.inl ⟨by kernel_rfl, ?hyA9⟩) (by assumption) ?restA9
  case hyA9 => (intro x hSx; have hBq := HRd.out x hSx; obtain ⟨q0, q1, q2, q3, q4, q5⟩ := Blk.c6 hBq; clear hBq; (try dsimp only at hSx); go_simp; first | done | with_reducible rfl)
  try simp only [Act.put, List.setIfInBounds_toArray, List.set_cons_zero, List.set_cons_succ]
  refine wpAnyH_takeD (i := 10) (some 98) (v := ?vA10) rfl rfl (by kernel_rfl) (by kernel_rfl) (by kernel_rfl) (fun _ _ _ h => h) (Or.inl ⟨by kernel_rfl, ?hyA10⟩) (by assumption) ?restA10
  case hyA10 => (intro x hSx; have hBq := HRd.out x hSx; obtain ⟨q0, q1, q2, q3, q4, q5⟩ := Blk.c6 hBq; clear hBq; (try dsimp only at hSx); go_simp; first | done | with_reducible rfl)
  try simp only [Act.put, List.setIfInBounds_toArray, List.set_cons_zero, List.set_cons_succ]
  refine wpAnyH_takeD (i := 12) (some 100) (v := ?vA12) rfl rfl (by kernel_rfl) (by kernel_rfl) (by kernel_rfl) (fun _ _ _ h => h) (Or.inl ⟨by kernel_rfl, ?hyA12⟩) (by assumption) ?restA12
  case hyA12 => (intro x hSx; have hBq := HRd.out x hSx; obtain ⟨q0, q1, q2, q3, q4, q5⟩ := Blk.c6 hBq; clear hBq; (try dsimp only at hSx); go_simp; first | done | with_reducible rfl)
  try simp only [Act.put, List.setIfInBounds_toArray, List.set_cons_zero, List.set_cons_succ]
  refine wpAnyH_ready (rs := [11]) (by kernel_rfl) (by simp) ?_
  refine AllReadyH.cons rfl (fun K hK => ?_) AllReadyH.nil
  go_simp
  go_wp2_with (go_at_call 14; refine (HDp.out _ hHeldA4).mono ?_; rintro e yA11 ⟨rfl, hbyA11⟩)
  subst hbyA11
  refine hK.out _ _ hHeldA4 (fun hHeldA11 => ?_)
  clear hK K
  try simp only [Act.put, List.setIfInBounds_toArray, List.set_cons_zero, List.set_cons_succ]
  refine wpAnyH_ready (rs := [13]) (by kernel_rfl) (by simp) ?_
  refine AllReadyH.cons rfl (fun K hK => ?_) AllReadyH.nil
  go_simp
  go_wp2_with (go_at_call 29; refine (HRp.out _ hHeldA11).mono ?_; rintro e yA13 ⟨rfl, hbyA13⟩)
  refine hK.out _ _ (HKeepA.out _ _ hHeldA11 hbyA13) (fun hHeldA13 => ?_)
  clear hK K
  try simp only [Act.put, List.setIfInBounds_toArray, List.set_cons_zero, List.set_cons_succ]
  refine wpAnyH_takeD (i := 14) (some 102) (v := .bool false) rfl rfl (by kernel_rfl) (by kernel_rfl) (by kernel_rfl) (fun _ _ _ h => h) (Or.inl ⟨by kernel_rfl, ?hyA14⟩) (by assumption) ?restA14
  case hyA14 => (intro x hSx; have hBq := HRd.out x hSx; obtain ⟨q0, q1, q2, q3, q4, q5⟩ := Blk.c6 hBq; clear hBq; (try dsimp only at hSx); go_simp; first | done | simp)
  try simp only [Act.put, List.setIfInBounds_toArray, List.set_cons_zero, List.set_cons_succ]
  refine wpAnyH_takeD (i := 15) (some 103) (v := ?vA15) rfl rfl (by kernel_rfl) (by kernel_rfl) (by kernel_rfl) (fun _ _ _ h => h) (Or.inl ⟨by kernel_rfl, ?hyA15⟩) (by assumption) ?restA15
  case hyA15 => (intro x hSx; have hBq := HRd.out x hSx; obtain ⟨q0, q1, q2, q3, q4, q5⟩ := Blk.c6 hBq; clear hBq; (try dsimp only at hSx); go_simp; first | done | with_reducible rfl)
  try simp only [Act.put, List.setIfInBounds_toArray, List.set_cons_zero, List.set_cons_succ]
  refine wpAnyH_done (by kernel_rfl) ?_ _
  have hw6 := hw5.trans (hHeldA13.mono hw5.size)
  have HB6 : Hid (Blk yA13 w.heap.size 27 #[.int .u8 k, .bool false, .bool false, .string ⟨#[]⟩, .string r, .slice a 0 c]) := Blk.old HB5.out hHeldA13
  have HP6 : Hid (PIn yA13 0 yA13.heap.size (.mk k false false ⟨#[]⟩ r []) a) := PIn.go HP5.out hHeldA13
  clear HKeepA HRd HKd HDp HRp y0 y1 y2 y3 y4 y5 HB5 HP5 HV5 hmk
  have hmp := mPart_85 k r
  have hpc := rawPart_any k r yA13
  unfold pV at hpc
  simp only [Prt.kind, Prt.yes, Prt.neg, Prt.mag, Prt.raw, Prt.items, List.length_nil] at hpc
  generalize yA13 = w6 at *
  go_wp2_with fail
  refine hpc.mono ?_
  rintro _ w7 ⟨c4, rfl, hb7⟩
  clear hpc hmp
  have hq8 := (Below.refl w7.heap.size w7).alloc (Nat.le_refl _) (.cells #[.int .u8 k, .bool false, .bool false, .string ⟨#[]⟩, .string r, .slice none 0 c4] 27)
  have hB8 := Blk.new w7 27 #[.int .u8 k, .bool false, .bool false, .string ⟨#[]⟩, .string r, .slice none 0 c4]
  go_upto_region 14 with fail
  generalize w7.alloc (.cells #[.int .u8 k, .bool false, .bool false, .string ⟨#[]⟩, .string r, .slice none 0 c4] 27) = w8 at *
  have hb68 : Below w6.heap.size w6 w8 := hb7.trans (hq8.mono hb7.size)
  have hs := rsame_any _ HF.out _ HF.out none a c4 c 0 w8.heap.size 0 w8.heap.size w8 (Nat.le_refl _) (Nat.le_refl _) (.nil rfl) (PIn.go HP6.out hb68)
  rw [eqP_self] at hs
  unfold pV at hs
  simp only [Prt.kind, Prt.yes, Prt.neg, Prt.mag, Prt.raw, Prt.items, List.length_nil] at hs
  obtain ⟨x0, x1, x2, x3, x4, x5⟩ := hB8.c6
  have hBy := Blk.old HB6.out hb68
  obtain ⟨y0, y1, y2, y3, y4, y5⟩ := hBy.c6
  clear hB8 hq8 hb7 hBy
  go_wp2_with fail
  refine hs.mono ?_
  rintro _ w9 ⟨rfl, hb9⟩
  clear hs x0 x1 x2 x3 x4 x5 y0 y1 y2 y3 y4 y5
  have hb69 : Below w6.heap.size w6 w9 := hb68.trans (hb9.mono hb68.size)
  have hw9 := hw6.trans (hb69.mono hw6.size)
  have HB9 : Hid (Blk w9 w.heap.size 27 #[.int .u8 k, .bool false, .bool false, .string ⟨#[]⟩, .string r, .slice a 0 c]) := Blk.old HB6.out hb69
  clear hb68 hb9 hb69 HB6 HP6
  have HRd : Hid (∀ x, Below w9.heap.size w9 x → Blk x w.heap.size 27 #[.int .u8 k, .bool false, .bool false, .string ⟨#[]⟩, .string r, .slice a 0 c]) := fun x h => Blk.below HB9.out h (Blk.lt HB9.out)
  have HKeepB : Hid (∀ x y, Below w9.heap.size w9 x → Below x.heap.size x y → Below w9.heap.size w9 y) := fun x y h1 h2 => h1.trans (h2.mono h1.size)
  have hmb := mBytes k r
  have HBy : Hid (∀ x, Below w9.heap.size w9 x → Calls Tryd.prog 80 #[.agg #[.int .u8 k, .string r]] x fun e w' => e = .returned (.string r) ∧ Below x.heap.size x w') := fun x _ => bytes_any k r x
  go_upto_region 15 with fail
  refine wp_region_held_drew (S := fun x => Below w9.heap.size w9 x) (by kernel_rfl) ((Below.refl _ _).drew) (fun hHeldB => ?_)
  refine wpAnyH_takeD (i := 0) (some 109) (v := ?vB0) rfl rfl (by kernel_rfl) (by kernel_rfl) (by kernel_rfl) (fun _ _ _ h => h) (Or.inl ⟨by kernel_rfl, ?hyB0⟩) (by assumption) ?restB0
  case hyB0 => (intro x hSx; have hBq := HRd.out x hSx; obtain ⟨q0, q1, q2, q3, q4, q5⟩ := Blk.c6 hBq; clear hBq; (try dsimp only at hSx); go_simp; first | done | with_reducible rfl)
  try simp only [Act.put, List.setIfInBounds_toArray, List.set_cons_zero, List.set_cons_succ]
  refine wpAnyH_takeD (i := 1) (some 110) (v := ?vB1) rfl rfl (by kernel_rfl) (by kernel_rfl) (by kernel_rfl) (fun _ _ _ h => h) (Or.inl ⟨by kernel_rfl, ?hyB1⟩) (by assumption) ?restB1
  case hyB1 => (intro x hSx; have hBq := HRd.out x hSx; obtain ⟨q0, q1, q2, q3, q4, q5⟩ := Blk.c6 hBq; clear hBq; (try dsimp only at hSx); go_simp; first | done | with_reducible rfl)
  try simp only [Act.put, List.setIfInBounds_toArray, List.set_cons_zero, List.set_cons_succ]
  refine wpAnyH_takeD (i := 2) (some 111) (v := ?vB2) rfl rfl (by kernel_rfl) (by kernel_rfl) (by kernel_rfl) (fun _ _ _ h => h) (Or.inl ⟨by kernel_rfl, ?hyB2⟩) (by assumption) ?restB2
  case hyB2 => (intro x hSx; have hBq := HRd.out x hSx; obtain ⟨q0, q1, q2, q3, q4, q5⟩ := Blk.c6 hBq; clear hBq; (try dsimp only at hSx); go_simp; first | done | with_reducible rfl)
  try simp only [Act.put, List.setIfInBounds_toArray, List.set_cons_zero, List.set_cons_succ]
  refine wpAnyH_takeD (i := 3) (some 112) (v := ?vB3) rfl rfl (by kernel_rfl) (by kernel_rfl) (by kernel_rfl) (fun _ _ _ h => h) (Or.inl ⟨by kernel_rfl, ?hyB3⟩) (by assumption) ?restB3
  case hyB3 => (intro x hSx; have hBq := HRd.out x hSx; obtain ⟨q0, q1, q2, q3, q4, q5⟩ := Blk.c6 hBq; clear hBq; (try dsimp only at hSx); go_simp; first | done | with_reducible rfl)
  try simp only [Act.put, List.setIfInBounds_toArray, List.set_cons_zero, List.set_cons_succ]
  refine wpAnyH_takeD (i := 4) (some 113) (v := ?vB4) rfl rfl (by kernel_rfl) (by kernel_rfl) (by kernel_rfl) (fun _ _ _ h => h) (Or.inl ⟨by kernel_rfl, ?hyB4⟩) (by assumption) ?restB4
  case hyB4 => (intro x hSx; have hBq := HRd.out x hSx; obtain ⟨q0, q1, q2, q3, q4, q5⟩ := Blk.c6 hBq; clear hBq; (try dsimp only at hSx); go_simp; first | done | with_reducible rfl)
  try simp only [Act.put, List.setIfInBounds_toArray, List.set_cons_zero, List.set_cons_succ]
  refine wpAnyH_takeD (i := 5) (some 114) (v := undef) rfl rfl (by kernel_rfl) (by kernel_rfl) (by kernel_rfl) (fun _ _ _ h => h) (Or.inr ⟨by kernel_rfl, rfl⟩) (by assumption) ?_
  try simp only [Act.put, List.setIfInBounds_toArray, List.set_cons_zero, List.set_cons_succ]
  refine wpAnyH_takeD (i := 6) (some 115) (v := undef) rfl rfl (by kernel_rfl) (by kernel_rfl) (by kernel_rfl) (fun _ _ _ h => h) (Or.inr ⟨by kernel_rfl, rfl⟩) (by assumption) ?_
  try simp only [Act.put, List.setIfInBounds_toArray, List.set_cons_zero, List.set_cons_succ]
  refine wpAnyH_takeD (i := 7) (some 116) (v := undef) rfl rfl (by kernel_rfl) (by kernel_rfl) (by kernel_rfl) (fun _ _ _ h => h) (Or.inr ⟨by kernel_rfl, rfl⟩) (by assumption) ?_
  try simp only [Act.put, List.setIfInBounds_toArray, List.set_cons_zero, List.set_cons_succ]
  refine wpAnyH_takeD (i := 8) (some 117) (v := undef) rfl rfl (by kernel_rfl) (by kernel_rfl) (by kernel_rfl) (fun _ _ _ h => h) (Or.inr ⟨by kernel_rfl, rfl⟩) (by assumption) ?_
  try simp only [Act.put, List.setIfInBounds_toArray, List.set_cons_zero, List.set_cons_succ]
  refine wpAnyH_takeD (i := 9) (some 118) (v := undef) rfl rfl (by kernel_rfl) (by kernel_rfl) (by kernel_rfl) (fun _ _ _ h => h) (Or.inr ⟨by kernel_rfl, rfl⟩) (by assumption) ?_
  try simp only [Act.put, List.setIfInBounds_toArray, List.set_cons_zero, List.set_cons_succ]
  refine wpAnyH_takeD (i := 10) (some 119) (v := ?vB10) rfl rfl (by kernel_rfl) (by kernel_rfl) (by kernel_rfl) (fun _ _ _ h => h) (Or.inl ⟨by kernel_rfl, ?hyB10⟩) (by assumption) ?restB10
  case hyB10 => (intro x hSx; have hBq := HRd.out x hSx; obtain ⟨q0, q1, q2, q3, q4, q5⟩ := Blk.c6 hBq; clear hBq; (try dsimp only at hSx); go_simp; first | done | with_reducible rfl)
  try simp only [Act.put, List.setIfInBounds_toArray, List.set_cons_zero, List.set_cons_succ]
  refine wpAnyH_takeD (i := 11) (some 120) (v := ?vB11) rfl rfl (by kernel_rfl) (by kernel_rfl) (by kernel_rfl) (fun _ _ _ h => h) (Or.inl ⟨by kernel_rfl, ?hyB11⟩) (by assumption) ?restB11
  case hyB11 => (intro x hSx; have hBq := HRd.out x hSx; obtain ⟨q0, q1, q2, q3, q4, q5⟩ := Blk.c6 hBq; clear hBq; (try dsimp only at hSx); go_simp; first | done | with_reducible rfl)
  try simp only [Act.put, List.setIfInBounds_toArray, List.set_cons_zero, List.set_cons_succ]
  refine wpAnyH_takeD (i := 12) (some 121) (v := ?vB12) rfl rfl (by kernel_rfl) (by kernel_rfl) (by kernel_rfl) (fun _ _ _ h => h) (Or.inl ⟨by kernel_rfl, ?hyB12⟩) (by assumption) ?restB12
  case hyB12 => (intro x hSx; have hBq := HRd.out x hSx; obtain ⟨q0, q1, q2, q3, q4, q5⟩ := Blk.c6 hBq; clear hBq; (try dsimp only at hSx); go_simp; first | done | with_reducible rfl)
  try simp only [Act.put, List.setIfInBounds_toArray, List.set_cons_zero, List.set_cons_succ]
  refine wpAnyH_takeD (i := 13) (some 122) (v := ?vB13) rfl rfl (by kernel_rfl) (by kernel_rfl) (by kernel_rfl) (fun _ _ _ h => h) (Or.inl ⟨by kernel_rfl, ?hyB13⟩) (by assumption) ?restB13
  case hyB13 => (intro x hSx; have hBq := HRd.out x hSx; obtain ⟨q0, q1, q2, q3, q4, q5⟩ := Blk.c6 hBq; clear hBq; (try dsimp only at hSx); go_simp; first | done | with_reducible rfl)
  try simp only [Act.put, List.setIfInBounds_toArray, List.set_cons_zero, List.set_cons_succ]
  refine wpAnyH_takeD (i := 14) (some 123) (v := ?vB14) rfl rfl (by kernel_rfl) (by kernel_rfl) (by kernel_rfl) (fun _ _ _ h => h) (Or.inl ⟨by kernel_rfl, ?hyB14⟩) (by assumption) ?restB14
  case hyB14 => (intro x hSx; have hBq := HRd.out x hSx; obtain ⟨q0, q1, q2, q3, q4, q5⟩ := Blk.c6 hBq; clear hBq; (try dsimp only at hSx); go_simp; first | done | with_reducible rfl)
  try simp only [Act.put, List.setIfInBounds_toArray, List.set_cons_zero, List.set_cons_succ]
  refine wpAnyH_takeD (i := 15) (some 124) (v := ?vB15) rfl rfl (by kernel_rfl) (by kernel_rfl) (by kernel_rfl) (fun _ _ _ h => h) (Or.inl ⟨by kernel_rfl, ?hyB15⟩) (by assumption) ?restB15
  case hyB15 => (intro x hSx; have hBq := HRd.out x hSx; obtain ⟨q0, q1, q2, q3, q4, q5⟩ := Blk.c6 hBq; clear hBq; (try dsimp only at hSx); go_simp; first | done | with_reducible rfl)
  try simp only [Act.put, List.setIfInBounds_toArray, List.set_cons_zero, List.set_cons_succ]
  refine wpAnyH_takeD (i := 17) (some 126) (v := ?vB17) rfl rfl (by kernel_rfl) (by kernel_rfl) (by kernel_rfl) (fun _ _ _ h => h) (Or.inl ⟨by kernel_rfl, ?hyB17⟩) (by assumption) ?restB17
  case hyB17 => (intro x hSx; have hBq := HRd.out x hSx; obtain ⟨q0, q1, q2, q3, q4, q5⟩ := Blk.c6 hBq; clear hBq; (try dsimp only at hSx); go_simp; first | done | with_reducible rfl)
  try simp only [Act.put, List.setIfInBounds_toArray, List.set_cons_zero, List.set_cons_succ]
  refine wpAnyH_takeD (i := 18) (some 127) (v := ?vB18) rfl rfl (by kernel_rfl) (by kernel_rfl) (by kernel_rfl) (fun _ _ _ h => h) (Or.inl ⟨by kernel_rfl, ?hyB18⟩) (by assumption) ?restB18
  case hyB18 => (intro x hSx; have hBq := HRd.out x hSx; obtain ⟨q0, q1, q2, q3, q4, q5⟩ := Blk.c6 hBq; clear hBq; (try dsimp only at hSx); go_simp; first | done | with_reducible rfl)
  try simp only [Act.put, List.setIfInBounds_toArray, List.set_cons_zero, List.set_cons_succ]
  refine wpAnyH_ready (rs := [16]) (by kernel_rfl) (by simp) ?_
  refine AllReadyH.cons rfl (fun K hK => ?_) AllReadyH.nil
  go_simp
  go_wp2_with (go_at_call 80; refine (HBy.out _ hHeldB).mono ?_; rintro e yB16 ⟨rfl, hbyB16⟩)
  refine hK.out _ _ (HKeepB.out _ _ hHeldB hbyB16) (fun hHeldB16 => ?_)
  clear hK K
  try simp only [Act.put, List.setIfInBounds_toArray, List.set_cons_zero, List.set_cons_succ]
  refine wpAnyH_takeD (i := 19) (some 128) (v := .bool false) rfl rfl (by kernel_rfl) (by kernel_rfl) (by kernel_rfl) (fun _ _ _ h => h) (Or.inl ⟨by kernel_rfl, ?hyB19⟩) (by assumption) ?restB19
  case hyB19 => (intro x hSx; have hBq := HRd.out x hSx; obtain ⟨q0, q1, q2, q3, q4, q5⟩ := Blk.c6 hBq; clear hBq; (try dsimp only at hSx); go_simp; first | done | rfl | simp)
  try simp only [Act.put, List.setIfInBounds_toArray, List.set_cons_zero, List.set_cons_succ]
  refine wpAnyH_takeD (i := 20) (some 129) (v := ?vB20) rfl rfl (by kernel_rfl) (by kernel_rfl) (by kernel_rfl) (fun _ _ _ h => h) (Or.inl ⟨by kernel_rfl, ?hyB20⟩) (by assumption) ?restB20
  case hyB20 => (intro x hSx; have hBq := HRd.out x hSx; obtain ⟨q0, q1, q2, q3, q4, q5⟩ := Blk.c6 hBq; clear hBq; (try dsimp only at hSx); go_simp; first | done | with_reducible rfl)
  try simp only [Act.put, List.setIfInBounds_toArray, List.set_cons_zero, List.set_cons_succ]
  refine wpAnyH_takeD (i := 21) (some 130) (v := ?vB21) rfl rfl (by kernel_rfl) (by kernel_rfl) (by kernel_rfl) (fun _ _ _ h => h) (Or.inl ⟨by kernel_rfl, ?hyB21⟩) (by assumption) ?restB21
  case hyB21 => (intro x hSx; have hBq := HRd.out x hSx; obtain ⟨q0, q1, q2, q3, q4, q5⟩ := Blk.c6 hBq; clear hBq; (try dsimp only at hSx); go_simp; first | done | with_reducible rfl)
  try simp only [Act.put, List.setIfInBounds_toArray, List.set_cons_zero, List.set_cons_succ]
  refine wpAnyH_done (by kernel_rfl) ?_ _
  go_wp2_with fail
  go_ret
  exact ⟨rfl, hw9.trans (hHeldB16.mono hw9.size)⟩
end Go.Proofs.YtedmmifflbnmbaaDoor
