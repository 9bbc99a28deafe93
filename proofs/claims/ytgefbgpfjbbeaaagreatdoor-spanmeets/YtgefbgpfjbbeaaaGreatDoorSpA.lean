/- What field.Put does with the document's example of spans; fit.Least of bytes (contracts; nothing is claimed here). -/
import Derived.Test.YtgefbgpfjbbeaaaGreatDoorFPut
namespace Go.Proofs.YtgefbgpfjbbeaaaGreatDoor
open Go.RowKit Go.Vf

set_option maxHeartbeats 1000000 in
set_option maxRecDepth 20000 in
theorem fieldPut_of (tb : Nat) (o : Go.Vf.Own) (a : Option Addr) (n c : Nat) (v : Value) (R : ByteArray) (w : World)
    (hfit : ∀ W, Calls Tryz.prog 65 #[fV o a n c, v] W fun e w' => e = .returned .nilIface ∧ Below W.heap.size W w')
    (hput : ∀ W, Calls Tryz.prog 66 #[.pointer (some ⟨tb, 0, none⟩), fV o a n c, v] W fun e w' => e = .returned (.string R) ∧ Below W.heap.size W w') :
    Calls Tryz.prog 44 #[.pointer (some ⟨tb, 0, none⟩), fV o a n c, v] w fun e w' => e = .returned (.tuple #[.string R, .nilIface]) ∧ Below w.heap.size w w' := by
  have hb1 := (Below.refl w.heap.size w).alloc (Nat.le_refl _) (.cells (cellsF o a n c) 50)
  have hN1 := Blk.new w 50 (cellsF o a n c)
  obtain ⟨c0, c1, c2, c3, c4, c5, c6, c7, c8, c9, c10, c11, c12, c13⟩ := cells14 hN1
  unfold fV at hfit hput ⊢
  simp only [cellsF] at hb1 hN1 c0 c1 c2 c3 c4 c5 c6 c7 c8 c9 c10 c11 c12 c13
  go_enter Tryz.func44, Tryz.ntmps44
  go_wp2_with fail
  refine (hfit _).mono ?_
  rintro _ w2 ⟨rfl, hb2⟩
  have hb02 := hb1.trans (hb2.mono hb1.size)
  have hN2 := hN1.old hb2
  clear c0 c1 c2 c3 c4 c5 c6 c7 c8 c9 c10 c11 c12 c13 hN1 hb1 hb2 hfit
  obtain ⟨c0, c1, c2, c3, c4, c5, c6, c7, c8, c9, c10, c11, c12, c13⟩ := hN2.c14
  go_wp2_with fail
  refine (hput _).mono ?_
  rintro _ w3 ⟨rfl, hb3⟩
  have hb03 := hb02.trans (hb3.mono hb02.size)
  clear c0 c1 c2 c3 c4 c5 c6 c7 c8 c9 c10 c11 c12 c13 hN2 hb02 hb3 hput
  go_wp2_with fail
  go_ret2
  exact ⟨rfl, hb03⟩
/-- field.Put of one at the first field. -/
theorem fieldPutA (tb : Nat) (w : World) : Calls Tryz.prog 44 #[.pointer (some ⟨tb, 0, none⟩), fV oA none 0 0, .iface 106 (.agg #[.bool false, .string ⟨#[1]⟩])] w fun e w' => e = .returned (.tuple #[.string ⟨#[18, 129, 1]⟩, .nilIface]) ∧ Below w.heap.size w w' := by
  refine fieldPut_of tb oA none 0 0 _ _ w (fun W => fitA 1 rfl W) (fun W => ?_)
  have h := putF_num (.pointer (some ⟨tb, 0, none⟩)) oA none 0 0 rfl false ⟨#[1]⟩ _ _ (by decide) W (fun W => tagF_any oA none 0 0 rfl 2 rfl (by decide) W) (fun W => putPlain_num _ oA none 0 0 rfl false ⟨#[1]⟩ (by decide) (by decide) W)
  rw [show bs [UInt8.ofNat (16 + 2)] ++ bs (putL false (⟨#[1]⟩ : ByteArray).data.toList) = ⟨#[18, 129, 1]⟩ by decide] at h
  exact h
/-- field.Put of no bytes at the second. -/
theorem fieldPutB (tb : Nat) (w : World) : Calls Tryz.prog 44 #[.pointer (some ⟨tb, 0, none⟩), fV oB none 0 0, .iface 111 (.agg #[.int .u8 3, .string ⟨#[]⟩])] w fun e w' => e = .returned (.tuple #[.string ⟨#[19, 0, 1]⟩, .nilIface]) ∧ Below w.heap.size w w' := by
  refine fieldPut_of tb oB none 0 0 _ _ w (fun W => fitB W) (fun W => ?_)
  have h := putF_raw (.pointer (some ⟨tb, 0, none⟩)) oB none 0 0 rfl 3 ⟨#[]⟩ _ _ (by decide) W (fun W => tagF_any oB none 0 0 rfl 3 rfl (by decide) W) (fun W => putPlain_bytes _ oB none 0 0 rfl ⟨#[]⟩ (by decide) W)
  rw [show bs [UInt8.ofNat (16 + 3)] ++ bs (esc (⟨#[]⟩ : ByteArray).data.toList) = ⟨#[19, 0, 1]⟩ by decide] at h
  exact h
theorem least_results {tmps : Array Value} {w : World} {h : Nat} {a0 a1 a2 a3 a4 a5 : Value} (hb : Blk w h 44 #[a0, a1, a2, a3, a4, a5]) (t2 : tmps[2]?.getD undef = .pointer (some ⟨h, 0, none⟩)) :
    (results Tryz.f64 tmps).run Tryz.prog w = .ok (.agg #[a0, a1, a2, a3, a4, a5]) w := by
  obtain ⟨c0, c1, c2, c3, c4, c5⟩ := hb.c6
  simp [results, Tryz.results64, go_sem, t2, c0, c1, c2, c3, c4, c5]
set_option maxHeartbeats 2000000 in
set_option maxRecDepth 20000 in
/-- fit's least at bytes. -/
theorem leastB (o : Go.Vf.Own) (a : Option Addr) (n c : Nat) (hk : o.kind = 3) (w : World) : Calls Tryz.prog 64 #[fV o a n c] w fun e w' => e = .returned (.agg #[.int .u8 3, .bool false, .bool false, .string ⟨#[]⟩, .string ⟨#[]⟩, .slice none 0 0]) ∧ Below w.heap.size w w' := by
  have hb1 := (Below.refl w.heap.size w).alloc (Nat.le_refl _) (.cells (cellsF o a n c) 50)
  have hN1 := Blk.new w 50 (cellsF o a n c)
  obtain ⟨c0, c1, c2, c3, c4, c5, c6, c7, c8, c9, c10, c11, c12, c13⟩ := cells14 hN1
  unfold fV
  simp only [cellsF] at hb1 c1 hN1
  rw [hk] at c1 hb1 hN1 ⊢
  clear c0 c2 c3 c4 c5 c6 c7 c8 c9 c10 c11 c12 c13 hk
  have hb2 := hb1.alloc hb1.size (.cells #[.int .u8 3, .bool false, .bool false, .string ⟨#[]⟩, .string ⟨#[]⟩, .slice none 0 0] 44)
  have hR2 := Blk.new (w.alloc (.cells #[.string o.name, .int .u8 3, .bool o.down, .int .u8 o.nulls, .bool o.bnd, .bool o.ln, .string o.lm, .bool o.hn, .string o.hm, .int .i64 o.most, .int .i64 o.str, .bool o.shf, .bool o.bck, .slice a n c] 50)) 44 #[.int .u8 3, .bool false, .bool false, .string ⟨#[]⟩, .string ⟨#[]⟩, .slice none 0 0]
  rw [alloc_size] at hR2
  have hb3 := hb2.alloc hb2.size (.cells #[.int .u8 3, .bool false, .bool false, .string ⟨#[]⟩, .string ⟨#[]⟩, .slice none 0 0] 44)
  have hR3 := hR2.old ((Below.refl _ _).alloc (Nat.le_refl _) (.cells #[.int .u8 3, .bool false, .bool false, .string ⟨#[]⟩, .string ⟨#[]⟩, .slice none 0 0] 44))
  clear hb1 hN1 hb2 hR2
  go_enter Tryz.func64, Tryz.ntmps64
  go_wp2_with fail
  exact bodyPost_ret (least_results hR3 rfl) rfl ⟨rfl, hb3⟩
set_option maxHeartbeats 2000000 in
set_option maxRecDepth 20000 in
/-- fit.Least at the second field. -/
theorem fitLeastB (w : World) : Calls Tryz.prog 43 #[fV oB none 0 0] w fun e w' => e = .returned (.tuple #[.iface 111 (.agg #[.int .u8 3, .string ⟨#[]⟩]), .int .i64 0]) ∧ Below w.heap.size w w' := by
  have hb1 := (Below.refl w.heap.size w).alloc (Nat.le_refl _) (.cells (cellsF oB none 0 0) 50)
  have hN1 := Blk.new w 50 (cellsF oB none 0 0)
  obtain ⟨c0, c1, c2, c3, c4, c5, c6, c7, c8, c9, c10, c11, c12, c13⟩ := cells14 hN1
  have hal := alone_any (.mk oB []) none 0 0 0 (w.alloc (.cells (cellsF oB none 0 0) 50)) (Nat.le_refl _) (Nat.zero_le _) .nil
  have hsc : ∀ g W, FIn W 0 W.heap.size [.mk oB []] (some ⟨g, 0, none⟩) → Calls Tryz.prog 39 #[.agg #[.int .i64 65536, .slice (some ⟨g, 0, none⟩) 1 1]] W (SCheckPost (chkS bndQ 65536 [.mk oB []]) W) := fun g W hW => scheck_any 65536 [.mk oB []] (some ⟨g, 0, none⟩) 1 0 W.heap.size W (by simp) (fun x hx => by rw [List.mem_singleton.1 hx]; exact oB_fits) (by simp) (Nat.le_refl _) hW
  have hle := fun W => leastB oB none 0 0 rfl W
  have hmk : ∀ W, Calls Tryz.prog 14 #[.agg #[.int .u8 3, .bool false, .bool false, .string ⟨#[]⟩, .string ⟨#[]⟩, .slice none 0 0]] W fun e w' => e = .returned (.tuple #[.iface 111 (.agg #[.int .u8 3, .string ⟨#[]⟩]), .int .i64 0]) ∧ Below W.heap.size W w' := fun W => by
    refine (make_any (.mk 3 false false ⟨#[]⟩ ⟨#[]⟩ []) (.mk (by show (0 : Int) ≤ 3; decide) (by show 0 ≤ _; decide) (by show 0 ≤ _; decide) (by show 0 ≤ _; decide) (fun y hy => by cases hy)) none 0 0 0 W (Nat.zero_le _) (.nil rfl)).mono ?_
    rintro e w' ⟨hb, ⟨h4, _⟩ | ⟨_, h4, _⟩ | ⟨_, _, v, rfl, hv⟩⟩
    · exact absurd h4 (by decide)
    · exact absurd h4 (by decide)
    · refine ⟨?_, hb⟩
      cases hv with
      | raw k r hk => rfl
  have h0 := oB_chk
  generalize chkS bndQ 65536 [.mk oB []] = q at hsc h0
  unfold fV at hal hle ⊢
  simp only [cellsF, Fld.own, Fld.fields, oB, List.length_nil] at hb1 hN1 hal hle c0 c1 c2 c3 c4 c5 c6 c7 c8 c9 c10 c11 c12 c13 ⊢
  go_enter Tryz.func43, Tryz.ntmps43
  go_wp2_with fail
  refine hal.mono ?_
  rintro _ w2 ⟨g, rfl, hin2, hb2⟩
  have hb02 := hb1.trans (hb2.mono hb1.size)
  have hN2 := hN1.old hb2
  have hsc2 := hsc g w2 hin2
  clear hsc hal c0 c1 c2 c3 c4 c5 c6 c7 c8 c9 c10 c11 c12 c13 hin2 hN1 hb1 hb2
  go_wp2_with fail
  refine hsc2.mono ?_
  rintro e w3 ⟨hb3, ⟨_, rfl⟩ | ⟨hne, _⟩⟩
  case inr => exact absurd h0 hne
  have hb03 := hb02.trans (hb3.mono hb02.size)
  have hN3 := hN2.old hb3
  obtain ⟨c0, c1, c2, c3, c4, c5, c6, c7, c8, c9, c10, c11, c12, c13⟩ := hN3.c14
  clear hsc2 hb02 hb3 hN2
  go_wp2_with fail
  refine (hle _).mono ?_
  rintro _ w4 ⟨rfl, hb4⟩
  have hb04 := hb03.trans (hb4.mono hb03.size)
  clear hle hb03 hb4 c0 c1 c2 c3 c4 c5 c6 c7 c8 c9 c10 c11 c12 c13 hN3
  go_wp2_with fail
  refine (hmk _).mono ?_
  rintro _ w5 ⟨rfl, hb5⟩
  have hb05 := hb04.trans (hb5.mono hb04.size)
  clear hmk hb04 hb5
  go_wp2_with fail
  go_ret2
  exact ⟨rfl, hb05⟩

end Go.Proofs.YtgefbgpfjbbeaaaGreatDoor
