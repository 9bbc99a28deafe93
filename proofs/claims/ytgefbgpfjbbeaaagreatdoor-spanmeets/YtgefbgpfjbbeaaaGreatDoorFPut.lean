/- What package field does with a number and with bytes, where the field rises (contracts; nothing is claimed here). -/
import Derived.Test.YtgefbgpfjbbeaaaGreatDoorFTch
import Derived.Test.YtgefbgpfjbbeaaaGreatDoorNatPuX
import Derived.Test.YtgefbgpfjbbeaaaGreatDoorJ9
namespace Go.Proofs.YtgefbgpfjbbeaaaGreatDoor
open Go.RowKit Go.Vf

theorem tb_116 (b : Bool) (m : ByteArray) (w : World) : (Instr.typeAssert (.iface 106 (.agg #[.bool b, .string m])) 36 244 false).run Tryz.prog w = .ok (.iface 106 (.agg #[.bool b, .string m])) w := by kernel_rfl
theorem tb_111 (k : Int) (r : ByteArray) (w : World) : (Instr.typeAssert (.iface 111 (.agg #[.int .u8 k, .string r])) 36 235 false).run Tryz.prog w = .ok (.iface 111 (.agg #[.int .u8 k, .string r])) w := by kernel_rfl
theorem tl_106 (b : Bool) (m : ByteArray) (w : World) : (Instr.typeAssert (.iface 106 (.agg #[.bool b, .string m])) 36 117 true).run Tryz.prog w = .ok (.tuple #[.nilIface, .bool false]) w := run_typeAssert_lacksB Tryz.underlying117 (by kernel_rfl) (by kernel_rfl) _ _ w
theorem tl_111 (k : Int) (r : ByteArray) (w : World) : (Instr.typeAssert (.iface 111 (.agg #[.int .u8 k, .string r])) 36 117 true).run Tryz.prog w = .ok (.tuple #[.nilIface, .bool false]) w := run_typeAssert_lacksB Tryz.underlying117 (by kernel_rfl) (by kernel_rfl) _ _ w
set_option maxHeartbeats 400000 in
set_option maxRecDepth 20000 in
theorem oneByte_any (n : Nat) (hn : n < 256) (w : World) : Calls Tryz.prog 134 #[.int .i64 (n : Int)] w fun e w' => e = .returned (.string (bs [UInt8.ofNat n])) ∧ Below w.heap.size w w' := by
  have hcv := run_string_cells (P := Tryz.prog) w 155 9 5 Tryz.underlying155 Tryz.underlying5 Tryz.underlying9 [UInt8.ofNat n] #[.int .u8 (n : Int)] (by simp only [cellsL, List.map_cons, List.map_nil, ofNat_int hn]) 1 1 rfl
  generalize UInt8.ofNat n = x at hcv ⊢
  go_enter Tryz.func134, Tryz.ntmps134
  go_wp2
  go_ret
  exact ⟨rfl, (Below.refl _ _).alloc (Nat.le_refl _) _⟩
theorem turnedIf_no (s : ByteArray) (w : World) : Calls Tryz.prog 95 #[.bool false, .string s] w fun e w' => e = .returned (.string s) ∧ Below w.heap.size w w' := by
  go_enter Tryz.func95, Tryz.ntmps95
  go_wp2
  go_ret
  exact ⟨rfl, Below.refl _ _⟩
set_option maxHeartbeats 1000000 in
set_option maxRecDepth 20000 in
theorem putNumber_any (b : Bool) (m : ByteArray) (hm : m.size ≤ 17179869184) (hc : chk b m.data.toList = 0) (w : World) : Calls Tryz.prog 136 #[.agg #[.bool b, .string m]] w fun e w' => e = .returned (.string (bs (putL b m.data.toList))) ∧ Below w.heap.size w w' := by
  have hb1 := (Below.refl w.heap.size w).alloc (Nat.le_refl _) (.cells #[.bool b, .string m] 41)
  have hp := put_any b m hm (w.alloc (.cells #[.bool b, .string m] 41))
  unfold numV putE at hp
  rw [hc, if_pos rfl] at hp
  generalize bs (putL b m.data.toList) = R at hp ⊢
  clear hc
  go_enter Tryz.func136, Tryz.ntmps136
  go_wp2_with fail
  refine hp.mono ?_
  rintro _ w2 ⟨rfl, hb2⟩
  have hb3 := hb1.trans (hb2.mono hb1.size)
  clear hp hb1 hb2
  go_wp2_with fail
  go_ret
  exact ⟨rfl, hb3⟩
set_option maxHeartbeats 1000000 in
set_option maxRecDepth 20000 in
theorem tagF_any (o : Go.Vf.Own) (a : Option Addr) (n c : Nat) (hd : o.down = false) (k : Nat) (hk : o.kind = (k : Int)) (hk7 : k ≤ 7) (w : World) : Calls Tryz.prog 94 #[fV o a n c] w fun e w' => e = .returned (.string (bs [UInt8.ofNat (16 + k)])) ∧ Below w.heap.size w w' := by
  have hb1 := (Below.refl w.heap.size w).alloc (Nat.le_refl _) (.cells (cellsF o a n c) 50)
  have hN1 := Blk.new w 50 (cellsF o a n c)
  obtain ⟨c0, c1, c2, c3, c4, c5, c6, c7, c8, c9, c10, c11, c12, c13⟩ := cells14 hN1
  unfold fV
  simp only [cellsF] at hb1 hN1 c1 c2
  clear c0 c3 c4 c5 c6 c7 c8 c9 c10 c11 c12 c13
  have h1 := fun W => oneByte_any (16 + k) (by omega) W
  rw [show ((16 + k : Nat) : Int) = 16 + (k : Int) by omega] at h1
  generalize bs [UInt8.ofNat (16 + k)] = R at h1 ⊢
  rw [hd] at c2 hb1 ⊢
  rw [hk] at c1 hb1 ⊢
  rw [hd, hk] at hN1
  clear hN1 hd hk
  go_enter Tryz.func94, Tryz.ntmps94
  go_wp2_with fail
  refine (h1 _).mono ?_
  rintro _ w2 ⟨rfl, hb2⟩
  have hb3 := hb1.trans (hb2.mono hb1.size)
  clear h1 hb1 hb2
  go_wp2_with fail
  go_ret
  exact ⟨rfl, hb3⟩
set_option maxHeartbeats 2000000 in
set_option maxRecDepth 20000 in
theorem putPlain_num (t : Value) (o : Go.Vf.Own) (a : Option Addr) (n c : Nat) (hk : o.kind = 2) (b : Bool) (m : ByteArray) (hm : m.size ≤ 17179869184) (hc : chk b m.data.toList = 0) (w : World) : Calls Tryz.prog 97 #[t, fV o a n c, .iface 106 (.agg #[.bool b, .string m])] w fun e w' => e = .returned (.string (bs (putL b m.data.toList))) ∧ Below w.heap.size w w' := by
  have hb1 := (Below.refl w.heap.size w).alloc (Nat.le_refl _) (.cells (cellsF o a n c) 50)
  have hN1 := Blk.new w 50 (cellsF o a n c)
  obtain ⟨c0, c1, c2, c3, c4, c5, c6, c7, c8, c9, c10, c11, c12, c13⟩ := cells14 hN1
  unfold fV
  simp only [cellsF] at hb1 c1
  rw [hk] at c1 hb1 ⊢
  clear c0 c2 c3 c4 c5 c6 c7 c8 c9 c10 c11 c12 c13 hN1 hk
  have h1 := fun W => putNumber_any b m hm hc W
  have hta := tb_116 b m
  have hmn := mNumN b m
  generalize bs (putL b m.data.toList) = R at h1 ⊢
  clear hm hc
  go_enter Tryz.func97, Tryz.ntmps97
  go_wp2_with fail
  refine (numNum b m _).mono ?_
  rintro _ w2 ⟨rfl, hb2⟩
  have hb02 := hb1.trans (hb2.mono hb1.size)
  clear hb1 hb2
  go_wp2_with fail
  refine (h1 _).mono ?_
  rintro _ w3 ⟨rfl, hb3⟩
  have hb03 := hb02.trans (hb3.mono hb02.size)
  clear h1 hb02 hb3
  go_wp2_with fail
  go_ret
  exact ⟨rfl, hb03⟩
set_option maxHeartbeats 2000000 in
set_option maxRecDepth 20000 in
theorem putPlain_bytes (t : Value) (o : Go.Vf.Own) (a : Option Addr) (n c : Nat) (hk : o.kind = 3) (r : ByteArray) (hr : r.size ≤ 4294967296) (w : World) : Calls Tryz.prog 97 #[t, fV o a n c, .iface 111 (.agg #[.int .u8 3, .string r])] w fun e w' => e = .returned (.string (bs (esc r.data.toList))) ∧ Below w.heap.size w w' := by
  have hb1 := (Below.refl w.heap.size w).alloc (Nat.le_refl _) (.cells (cellsF o a n c) 50)
  have hN1 := Blk.new w 50 (cellsF o a n c)
  obtain ⟨c0, c1, c2, c3, c4, c5, c6, c7, c8, c9, c10, c11, c12, c13⟩ := cells14 hN1
  unfold fV
  simp only [cellsF] at hb1 c1
  rw [hk] at c1 hb1 ⊢
  clear c0 c2 c3 c4 c5 c6 c7 c8 c9 c10 c11 c12 c13 hN1 hk
  have h1 := fun W => escape_any r W hr
  have hta := tb_111 3 r
  have hmn := mBytesR 3 r
  generalize bs (esc r.data.toList) = R at h1 ⊢
  clear hr
  go_enter Tryz.func97, Tryz.ntmps97
  go_wp2_with fail
  refine (bytesRaw 3 r _).mono ?_
  rintro _ w2 ⟨rfl, hb2⟩
  have hb02 := hb1.trans (hb2.mono hb1.size)
  clear hb1 hb2
  go_wp2_with fail
  refine (h1 _).mono ?_
  rintro _ w3 ⟨rfl, hb3⟩
  have hb03 := hb02.trans (hb3.mono hb02.size)
  clear h1 hb02 hb3
  go_wp2_with fail
  go_ret
  exact ⟨rfl, hb03⟩
set_option maxHeartbeats 4000000 in
set_option maxRecDepth 20000 in
theorem putF_num (t : Value) (o : Go.Vf.Own) (a : Option Addr) (n c : Nat) (hd : o.down = false) (b : Bool) (m : ByteArray) (T P : ByteArray) (hsz : T.size + P.size ≤ 9223372036854775807) (w : World)
    (htg : ∀ W, Calls Tryz.prog 94 #[fV o a n c] W fun e w' => e = .returned (.string T) ∧ Below W.heap.size W w')
    (hpl : ∀ W, Calls Tryz.prog 97 #[t, fV o a n c, .iface 106 (.agg #[.bool b, .string m])] W fun e w' => e = .returned (.string P) ∧ Below W.heap.size W w') :
    Calls Tryz.prog 66 #[t, fV o a n c, .iface 106 (.agg #[.bool b, .string m])] w fun e w' => e = .returned (.string (T ++ P)) ∧ Below w.heap.size w w' := by
  have hb1 := (Below.refl w.heap.size w).alloc (Nat.le_refl _) (.cells (cellsF o a n c) 50)
  have hN1 := Blk.new w 50 (cellsF o a n c)
  obtain ⟨c0, c1, c2, c3, c4, c5, c6, c7, c8, c9, c10, c11, c12, c13⟩ := cells14 hN1
  unfold fV at htg hpl ⊢
  simp only [cellsF] at hb1 hN1
  rw [hd] at htg hpl hb1 hN1 ⊢
  clear c0 c1 c2 c3 c4 c5 c6 c7 c8 c9 c10 c11 c12 c13 hd
  have hta := tl_106 b m
  go_enter Tryz.func66, Tryz.ntmps66
  go_upto_region 8 with fail
  generalize w.alloc (.cells #[.string o.name, .int .u8 o.kind, .bool false, .int .u8 o.nulls, .bool o.bnd, .bool o.ln, .string o.lm, .bool o.hn, .string o.hm, .int .i64 o.most, .int .i64 o.str, .bool o.shf, .bool o.bck, .slice a n c] 50) = w1 at hb1 hN1 ⊢
  have HKeepp : Hid (∀ x y, Below w1.heap.size w1 x → Below x.heap.size x y → Below w1.heap.size w1 y) := fun x y h1 h2 => h1.trans (h2.mono h1.size)
  refine wp_region_held_drew (S := fun x => Below w1.heap.size w1 x) (by kernel_rfl) ((Below.refl _ _).drew) (fun hHeldp => ?_)
  refine wpAnyH_takeD (i := 0) (some 28) (v := .agg #[.string o.name, .int .u8 o.kind, .bool false, .int .u8 o.nulls, .bool o.bnd, .bool o.ln, .string o.lm, .bool o.hn, .string o.hm, .int .i64 o.most, .int .i64 o.str, .bool o.shf, .bool o.bck, .slice a n c]) rfl rfl (by kernel_rfl) (by kernel_rfl) (by kernel_rfl) (fun _ _ _ h => h) (Or.inl ⟨by kernel_rfl, ?hyp1⟩) (by assumption) ?restp1
  case hyp1 => (intro x hSx; obtain ⟨p0, p1, p2, p3, p4, p5, p6, p7, p8, p9, p10, p11, p12, p13⟩ := (hN1.old hSx).c14; (try dsimp only at hSx); go_simp; first | done | with_reducible rfl | assumption)
  try simp only [Act.put, List.setIfInBounds_toArray, List.set_cons_zero, List.set_cons_succ]
  refine wpAnyH_takeD (i := 2) (some 30) (v := .pointer (some ⟨w.heap.size, 2, none⟩)) rfl rfl (by kernel_rfl) (by kernel_rfl) (by kernel_rfl) (fun _ _ _ h => h) (Or.inl ⟨by kernel_rfl, ?hyp2⟩) (by assumption) ?restp2
  case hyp2 => (intro x hSx; (try dsimp only at hSx); go_simp; first | done | with_reducible rfl | assumption)
  try simp only [Act.put, List.setIfInBounds_toArray, List.set_cons_zero, List.set_cons_succ]
  refine wpAnyH_takeD (i := 3) (some 31) (v := .bool false) rfl rfl (by kernel_rfl) (by kernel_rfl) (by kernel_rfl) (fun _ _ _ h => h) (Or.inl ⟨by kernel_rfl, ?hyp3⟩) (by assumption) ?restp3
  case hyp3 => (intro x hSx; obtain ⟨p0, p1, p2, p3, p4, p5, p6, p7, p8, p9, p10, p11, p12, p13⟩ := (hN1.old hSx).c14; (try dsimp only at hSx); go_simp; first | done | with_reducible rfl | assumption)
  try simp only [Act.put, List.setIfInBounds_toArray, List.set_cons_zero, List.set_cons_succ]
  refine wpAnyH_takeD (i := 4) (some 32) (v := t) rfl rfl (by kernel_rfl) (by kernel_rfl) (by kernel_rfl) (fun _ _ _ h => h) (Or.inl ⟨by kernel_rfl, ?hyp4⟩) (by assumption) ?restp4
  case hyp4 => (intro x hSx; (try dsimp only at hSx); go_simp; first | done | with_reducible rfl | assumption)
  try simp only [Act.put, List.setIfInBounds_toArray, List.set_cons_zero, List.set_cons_succ]
  refine wpAnyH_takeD (i := 5) (some 33) (v := .agg #[.string o.name, .int .u8 o.kind, .bool false, .int .u8 o.nulls, .bool o.bnd, .bool o.ln, .string o.lm, .bool o.hn, .string o.hm, .int .i64 o.most, .int .i64 o.str, .bool o.shf, .bool o.bck, .slice a n c]) rfl rfl (by kernel_rfl) (by kernel_rfl) (by kernel_rfl) (fun _ _ _ h => h) (Or.inl ⟨by kernel_rfl, ?hyp5⟩) (by assumption) ?restp5
  case hyp5 => (intro x hSx; obtain ⟨p0, p1, p2, p3, p4, p5, p6, p7, p8, p9, p10, p11, p12, p13⟩ := (hN1.old hSx).c14; (try dsimp only at hSx); go_simp; first | done | with_reducible rfl | assumption)
  try simp only [Act.put, List.setIfInBounds_toArray, List.set_cons_zero, List.set_cons_succ]
  refine wpAnyH_takeD (i := 6) (some 34) (v := .iface 106 (.agg #[.bool b, .string m])) rfl rfl (by kernel_rfl) (by kernel_rfl) (by kernel_rfl) (fun _ _ _ h => h) (Or.inl ⟨by kernel_rfl, ?hyp6⟩) (by assumption) ?restp6
  case hyp6 => (intro x hSx; (try dsimp only at hSx); go_simp; first | done | with_reducible rfl | assumption)
  try simp only [Act.put, List.setIfInBounds_toArray, List.set_cons_zero, List.set_cons_succ]
  refine wpAnyH_ready (rs := [1]) (by kernel_rfl) (by simp) ?_
  refine AllReadyH.cons rfl (fun K hK => ?_) AllReadyH.nil
  go_simp
  go_wp2_with (go_at_call 94; refine (htg _).mono ?_; rintro e yp7 ⟨rfl, hbp7⟩)
  refine hK.out _ _ (HKeepp.out _ _ hHeldp hbp7) (fun hHp7 => ?_)
  clear hK K
  try simp only [Act.put, List.setIfInBounds_toArray, List.set_cons_zero, List.set_cons_succ]
  refine wpAnyH_ready (rs := [7]) (by kernel_rfl) (by simp) ?_
  refine AllReadyH.cons rfl (fun K hK => ?_) AllReadyH.nil
  go_simp
  go_wp2_with (go_at_call 97; refine (hpl _).mono ?_; rintro e yp8 ⟨rfl, hbp8⟩)
  refine hK.out _ _ (HKeepp.out _ _ hHp7 hbp8) (fun hHp8 => ?_)
  clear hK K
  try simp only [Act.put, List.setIfInBounds_toArray, List.set_cons_zero, List.set_cons_succ]
  refine wpAnyH_ready (rs := [8]) (by kernel_rfl) (by simp) ?_
  refine AllReadyH.cons rfl (fun K hK => ?_) AllReadyH.nil
  go_simp
  go_wp2_with (go_at_call 95; refine (turnedIf_no P _).mono ?_; rintro e yp9 ⟨rfl, hbp9⟩)
  refine hK.out _ _ (HKeepp.out _ _ hHp8 hbp9) (fun hHp9 => ?_)
  clear hK K
  try simp only [Act.put, List.setIfInBounds_toArray, List.set_cons_zero, List.set_cons_succ]
  refine wpAnyH_takeD (i := 9) (some 37) (v := .string (T ++ P)) rfl rfl (by kernel_rfl) (by kernel_rfl) (by kernel_rfl) (fun _ _ _ h => h) (Or.inl ⟨by kernel_rfl, ?hyp10⟩) (by assumption) ?restp10
  case hyp10 => (intro x hSx; have hsz := hsz; (try dsimp only at hSx); go_simp; first | done | with_reducible rfl | assumption)
  try simp only [Act.put, List.setIfInBounds_toArray, List.set_cons_zero, List.set_cons_succ]
  refine wpAnyH_takeD (i := 10) (some 6) (v := .string (T ++ P)) rfl rfl (by kernel_rfl) (by kernel_rfl) (by kernel_rfl) (fun _ _ _ h => h) (Or.inl ⟨by kernel_rfl, ?hyp11⟩) (by assumption) ?restp11
  case hyp11 => (intro x hSx; (try dsimp only at hSx); go_simp; first | done | with_reducible rfl | assumption)
  try simp only [Act.put, List.setIfInBounds_toArray, List.set_cons_zero, List.set_cons_succ]
  refine wpAnyH_done (by kernel_rfl) ?_ _
  have hbF := hb1.trans (hHp9.mono hb1.size)
  clear htg hpl
  go_wp2_with fail
  go_ret
  exact ⟨rfl, hbF⟩
set_option maxHeartbeats 4000000 in
set_option maxRecDepth 20000 in
theorem putF_raw (t : Value) (o : Go.Vf.Own) (a : Option Addr) (n c : Nat) (hd : o.down = false) (kr : Int) (r : ByteArray) (T P : ByteArray) (hsz : T.size + P.size ≤ 9223372036854775807) (w : World)
    (htg : ∀ W, Calls Tryz.prog 94 #[fV o a n c] W fun e w' => e = .returned (.string T) ∧ Below W.heap.size W w')
    (hpl : ∀ W, Calls Tryz.prog 97 #[t, fV o a n c, .iface 111 (.agg #[.int .u8 kr, .string r])] W fun e w' => e = .returned (.string P) ∧ Below W.heap.size W w') :
    Calls Tryz.prog 66 #[t, fV o a n c, .iface 111 (.agg #[.int .u8 kr, .string r])] w fun e w' => e = .returned (.string (T ++ P)) ∧ Below w.heap.size w w' := by
  have hb1 := (Below.refl w.heap.size w).alloc (Nat.le_refl _) (.cells (cellsF o a n c) 50)
  have hN1 := Blk.new w 50 (cellsF o a n c)
  obtain ⟨c0, c1, c2, c3, c4, c5, c6, c7, c8, c9, c10, c11, c12, c13⟩ := cells14 hN1
  unfold fV at htg hpl ⊢
  simp only [cellsF] at hb1 hN1
  rw [hd] at htg hpl hb1 hN1 ⊢
  clear c0 c1 c2 c3 c4 c5 c6 c7 c8 c9 c10 c11 c12 c13 hd
  have hta := tl_111 kr r
  go_enter Tryz.func66, Tryz.ntmps66
  go_upto_region 8 with fail
  generalize w.alloc (.cells #[.string o.name, .int .u8 o.kind, .bool false, .int .u8 o.nulls, .bool o.bnd, .bool o.ln, .string o.lm, .bool o.hn, .string o.hm, .int .i64 o.most, .int .i64 o.str, .bool o.shf, .bool o.bck, .slice a n c] 50) = w1 at hb1 hN1 ⊢
  have HKeepp : Hid (∀ x y, Below w1.heap.size w1 x → Below x.heap.size x y → Below w1.heap.size w1 y) := fun x y h1 h2 => h1.trans (h2.mono h1.size)
  refine wp_region_held_drew (S := fun x => Below w1.heap.size w1 x) (by kernel_rfl) ((Below.refl _ _).drew) (fun hHeldp => ?_)
  refine wpAnyH_takeD (i := 0) (some 28) (v := .agg #[.string o.name, .int .u8 o.kind, .bool false, .int .u8 o.nulls, .bool o.bnd, .bool o.ln, .string o.lm, .bool o.hn, .string o.hm, .int .i64 o.most, .int .i64 o.str, .bool o.shf, .bool o.bck, .slice a n c]) rfl rfl (by kernel_rfl) (by kernel_rfl) (by kernel_rfl) (fun _ _ _ h => h) (Or.inl ⟨by kernel_rfl, ?hyp1⟩) (by assumption) ?restp1
  case hyp1 => (intro x hSx; obtain ⟨p0, p1, p2, p3, p4, p5, p6, p7, p8, p9, p10, p11, p12, p13⟩ := (hN1.old hSx).c14; (try dsimp only at hSx); go_simp; first | done | with_reducible rfl | assumption)
  try simp only [Act.put, List.setIfInBounds_toArray, List.set_cons_zero, List.set_cons_succ]
  refine wpAnyH_takeD (i := 2) (some 30) (v := .pointer (some ⟨w.heap.size, 2, none⟩)) rfl rfl (by kernel_rfl) (by kernel_rfl) (by kernel_rfl) (fun _ _ _ h => h) (Or.inl ⟨by kernel_rfl, ?hyp2⟩) (by assumption) ?restp2
  case hyp2 => (intro x hSx; (try dsimp only at hSx); go_simp; first | done | with_reducible rfl | assumption)
  try simp only [Act.put, List.setIfInBounds_toArray, List.set_cons_zero, List.set_cons_succ]
  refine wpAnyH_takeD (i := 3) (some 31) (v := .bool false) rfl rfl (by kernel_rfl) (by kernel_rfl) (by kernel_rfl) (fun _ _ _ h => h) (Or.inl ⟨by kernel_rfl, ?hyp3⟩) (by assumption) ?restp3
  case hyp3 => (intro x hSx; obtain ⟨p0, p1, p2, p3, p4, p5, p6, p7, p8, p9, p10, p11, p12, p13⟩ := (hN1.old hSx).c14; (try dsimp only at hSx); go_simp; first | done | with_reducible rfl | assumption)
  try simp only [Act.put, List.setIfInBounds_toArray, List.set_cons_zero, List.set_cons_succ]
  refine wpAnyH_takeD (i := 4) (some 32) (v := t) rfl rfl (by kernel_rfl) (by kernel_rfl) (by kernel_rfl) (fun _ _ _ h => h) (Or.inl ⟨by kernel_rfl, ?hyp4⟩) (by assumption) ?restp4
  case hyp4 => (intro x hSx; (try dsimp only at hSx); go_simp; first | done | with_reducible rfl | assumption)
  try simp only [Act.put, List.setIfInBounds_toArray, List.set_cons_zero, List.set_cons_succ]
  refine wpAnyH_takeD (i := 5) (some 33) (v := .agg #[.string o.name, .int .u8 o.kind, .bool false, .int .u8 o.nulls, .bool o.bnd, .bool o.ln, .string o.lm, .bool o.hn, .string o.hm, .int .i64 o.most, .int .i64 o.str, .bool o.shf, .bool o.bck, .slice a n c]) rfl rfl (by kernel_rfl) (by kernel_rfl) (by kernel_rfl) (fun _ _ _ h => h) (Or.inl ⟨by kernel_rfl, ?hyp5⟩) (by assumption) ?restp5
  case hyp5 => (intro x hSx; obtain ⟨p0, p1, p2, p3, p4, p5, p6, p7, p8, p9, p10, p11, p12, p13⟩ := (hN1.old hSx).c14; (try dsimp only at hSx); go_simp; first | done | with_reducible rfl | assumption)
  try simp only [Act.put, List.setIfInBounds_toArray, List.set_cons_zero, List.set_cons_succ]
  refine wpAnyH_takeD (i := 6) (some 34) (v := .iface 111 (.agg #[.int .u8 kr, .string r])) rfl rfl (by kernel_rfl) (by kernel_rfl) (by kernel_rfl) (fun _ _ _ h => h) (Or.inl ⟨by kernel_rfl, ?hyp6⟩) (by assumption) ?restp6
  case hyp6 => (intro x hSx; (try dsimp only at hSx); go_simp; first | done | with_reducible rfl | assumption)
  try simp only [Act.put, List.setIfInBounds_toArray, List.set_cons_zero, List.set_cons_succ]
  refine wpAnyH_ready (rs := [1]) (by kernel_rfl) (by simp) ?_
  refine AllReadyH.cons rfl (fun K hK => ?_) AllReadyH.nil
  go_simp
  go_wp2_with (go_at_call 94; refine (htg _).mono ?_; rintro e yp7 ⟨rfl, hbp7⟩)
  refine hK.out _ _ (HKeepp.out _ _ hHeldp hbp7) (fun hHp7 => ?_)
  clear hK K
  try simp only [Act.put, List.setIfInBounds_toArray, List.set_cons_zero, List.set_cons_succ]
  refine wpAnyH_ready (rs := [7]) (by kernel_rfl) (by simp) ?_
  refine AllReadyH.cons rfl (fun K hK => ?_) AllReadyH.nil
  go_simp
  go_wp2_with (go_at_call 97; refine (hpl _).mono ?_; rintro e yp8 ⟨rfl, hbp8⟩)
  refine hK.out _ _ (HKeepp.out _ _ hHp7 hbp8) (fun hHp8 => ?_)
  clear hK K
  try simp only [Act.put, List.setIfInBounds_toArray, List.set_cons_zero, List.set_cons_succ]
  refine wpAnyH_ready (rs := [8]) (by kernel_rfl) (by simp) ?_
  refine AllReadyH.cons rfl (fun K hK => ?_) AllReadyH.nil
  go_simp
  go_wp2_with (go_at_call 95; refine (turnedIf_no P _).mono ?_; rintro e yp9 ⟨rfl, hbp9⟩)
  refine hK.out _ _ (HKeepp.out _ _ hHp8 hbp9) (fun hHp9 => ?_)
  clear hK K
  try simp only [Act.put, List.setIfInBounds_toArray, List.set_cons_zero, List.set_cons_succ]
  refine wpAnyH_takeD (i := 9) (some 37) (v := .string (T ++ P)) rfl rfl (by kernel_rfl) (by kernel_rfl) (by kernel_rfl) (fun _ _ _ h => h) (Or.inl ⟨by kernel_rfl, ?hyp10⟩) (by assumption) ?restp10
  case hyp10 => (intro x hSx; have hsz := hsz; (try dsimp only at hSx); go_simp; first | done | with_reducible rfl | assumption)
  try simp only [Act.put, List.setIfInBounds_toArray, List.set_cons_zero, List.set_cons_succ]
  refine wpAnyH_takeD (i := 10) (some 6) (v := .string (T ++ P)) rfl rfl (by kernel_rfl) (by kernel_rfl) (by kernel_rfl) (fun _ _ _ h => h) (Or.inl ⟨by kernel_rfl, ?hyp11⟩) (by assumption) ?restp11
  case hyp11 => (intro x hSx; (try dsimp only at hSx); go_simp; first | done | with_reducible rfl | assumption)
  try simp only [Act.put, List.setIfInBounds_toArray, List.set_cons_zero, List.set_cons_succ]
  refine wpAnyH_done (by kernel_rfl) ?_ _
  have hbF := hb1.trans (hHp9.mono hb1.size)
  clear htg hpl
  go_wp2_with fail
  go_ret
  exact ⟨rfl, hbF⟩

end Go.Proofs.YtgefbgpfjbbeaaaGreatDoor
