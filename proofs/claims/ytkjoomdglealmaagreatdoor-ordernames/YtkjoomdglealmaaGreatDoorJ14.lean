/- Contracts and lemmas (nothing is claimed here). -/
import Derived.Test.YtkjoomdglealmaaGreatDoorJ13
import Derived.Maps.AppendAt
import Derived.Test.YtkjoomdglealmaaGreatDoorJ12
namespace Go.Proofs.YtkjoomdglealmaaGreatDoor
open Go.RowKit Go.Vf Go.Shelf
attribute [local go_sem] Oper.semAt_some

set_option maxHeartbeats 1000000 in
theorem chars_in (n : Nat) (s : ByteArray) (w : World) :
    CallsIn Fence.wide n Tryz.prog 143 #[.string s] w fun e w' => e = .returned (.func (.func 181) #[] #[.pointer (some ⟨w.heap.size, 0, none⟩)]) ∧ w' = w.alloc (.cells #[.string s] 9) := by
  refine callsIn_of_wp Tryz.func143 rfl trivial ?_ rfl
  simp only [Tryz.ntmps143, List.size_toArray, List.length_cons, List.length_nil, Nat.reduceAdd, Nat.reduceSub, Array.replicate_succ, Array.replicate_zero, List.push_toArray, List.append_toArray, List.nil_append, List.cons_append]
  gi_wp2
  go_ret
  exact ⟨rfl, rfl⟩

set_option maxRecDepth 100000 in
set_option maxHeartbeats 1000000 in
theorem chars1_in (n : Nat) (hn : 1 ≤ n) (l Bs n₀ : Nat) (hn₀ : 3 ≤ n₀) (s : ByteArray) (hsz : s.size ≤ 4294967296) (ps : List Nat) (rest : List UInt8) (hs : s.data.toList = encs ps ++ rest) (hps : ∀ p ∈ ps, IsPt p) (hrest : rest = [] ∨ noChar rest)
    (J Jx : List (Nat × Int) → World → Prop) (W : World) (hJ : AbidesFrom W.heap.size J)
    (hY : ∀ pre x W1, J pre W1 → pre.length < (full ps rest).length → YieldAt Fence.wide (n - 1) Tryz.prog l #[.int .i64 (x.1 : Int), .int .i64 x.2] W1 fun e W' =>
      (e = .returned (.bool true) ∧ J (pre ++ [x]) W' ∧ Kpt n₀ W1 W') ∨ (e = .returned (.bool false) ∧ Jx (pre ++ [x]) W'))
    (hBs : Blk W Bs 9 #[.string s]) (ht : Tabs W) (h0 : J [] W) (hnW : n₀ ≤ W.heap.size) :
    CallsIn Fence.wide n Tryz.prog 181 #[.func (.yield l) #[] #[], .pointer (some ⟨Bs, 0, none⟩)] W fun e W' => (∃ v, e = .returned v) ∧
      ((∃ ys, ys = full ps rest ∧ J ys W') ∨ (∃ pre, pre <+: full ps rest ∧ Jx pre W')) := by
  have HS : Hid (s.data.toList = encs ps ++ rest) := hs
  clear hs
  refine callsIn_of_wp Tryz.func181 rfl trivial ?_ rfl
  simp only [Tryz.ntmps181, List.size_toArray, List.length_cons, List.length_nil, Nat.reduceAdd, Nat.reduceSub, Array.replicate_succ, Array.replicate_zero, List.push_toArray, List.append_toArray, List.nil_append, List.cons_append]
  gi_wp2
  gi_loopw [3] (fun i wr => ∃ (ps1 ps2 : List Nat), ps = ps1 ++ ps2 ∧ i = .int .i64 ((encs ps1).length : Nat) ∧ J (pl 0 ps1) wr ∧ Blk wr Bs 9 #[.string s] ∧ Below n₀ W wr)
    (fun i _ => s.size - (intOf i).toNat)
  case atStart => exact ⟨[], ps, rfl, rfl, h0, hBs, Below.refl _ _⟩
  case round =>
    obtain ⟨ps1, ps2, HP, rfl, hJs, hB1, hbel⟩ := hrel
    have hc0 : wr.cell? ⟨Bs, 0, none⟩ = some (.string s) := hB1.cell 0
    have htr : Tabs wr := ht.below hn₀ hbel
    obtain ⟨at_, hat⟩ : ∃ at_, at_ = (encs ps1).length := ⟨_, rfl⟩
    rw [← hat]
    have hle : at_ ≤ s.size := by rw [hat, Lib.size_eq, HS.out, HP, encs_append]; simp
    by_cases hlt : at_ < s.size
    · have Hat : Hid (at_ = (encs ps1).length) := hat
      have HP' : Hid (ps = ps1 ++ ps2) := HP
      clear hat HP
      cases ps2 with
      | nil =>
        have hps1 : ps = ps1 := by rw [HP'.out, List.append_nil]
        have hdrop : s.data.toList.drop at_ = rest := by
          rw [HS.out, hps1, Hat.out, List.drop_left]
        have hne : rest ≠ [] := by
          intro h
          have := congrArg List.length hdrop
          rw [h, List.length_drop, ← Lib.size_eq] at this
          simp at this
          omega
        obtain ⟨_, hno⟩ := hrest.resolve_left hne
        have hh : s[at_] = rest[0]?.getD 0 := by
          have h1 : (s.data.toList.drop at_)[0]? = some s[at_] := by rw [List.getElem?_drop]; exact list_get s at_ hlt
          rw [hdrop] at h1
          rw [h1]; rfl
        rw [← hh] at hno
        have hsl : (s.extract at_ s.size).data.toList = rest := by
          rw [Lib.extract_data, List.take_of_length_le (by rw [List.length_drop, ← Lib.size_eq]; exact Nat.le_refl _)]; exact hdrop
        rw [← hsl] at hno
        have HNO : Hid (∀ k, rowBU s[at_].toNat = some k → wholeL k (s.extract at_ s.size).data.toList = false) := hno
        have hpre : pl 0 ps1 ++ [(at_, (-1 : Int))] = full ps rest := by rw [full_broken _ hne, hps1, Hat.out]
        have HPRE : Hid (pl 0 ps1 ++ [(at_, (-1 : Int))] = full ps rest) := hpre
        have hlen : (pl 0 ps1).length < (full ps rest).length := by rw [← hpre]; simp
        clear hh hno hsl hdrop hpre hps1 hne
        have hfin : ∀ w5 : World, Below wr.heap.size wr w5 → ∃ fn tmps assign body, (Instr.yield l #[.int .i64 (at_ : Int), .int .i64 (-1)]).run Tryz.prog w5 = .ok (.round l fn tmps assign body) w5 ∧ RoundIn Fence.wide (n - 1) Tryz.prog l fn tmps assign body w5 fun e W' => (e = .returned (.bool true) ∧ J (full ps rest) W') ∨ (e = .returned (.bool false) ∧ Jx (full ps rest) W') := fun w5 hg5 => by
          have hJ5 : J (pl 0 ps1) w5 := hJ _ wr w5 none hJs (grown_of_belowU hg5) (by simp)
          obtain ⟨fn, tmps, assign, body, hy, hR⟩ := hY (pl 0 ps1) (at_, (-1 : Int)) w5 hJ5 hlen
          rw [HPRE.out] at hR
          exact ⟨fn, tmps, assign, body, hy, hR.mono fun e W' h => h.imp (fun h => ⟨h.1, h.2.1⟩) id⟩
        gi_wp2
        refine ⟨trivial, (callsIn_wide.2 (rowOfByte_any s[at_] wr htr)).mono ?_⟩
        rintro e w2 ⟨⟨R, rfl, hR, hR0⟩, hb2⟩
        have hc2 : w2.cell? ⟨Bs, 0, none⟩ = some (.string s) := (hb2.cell (p := ⟨Bs, 0, none⟩) hB1.lt).trans hc0
        cases hrow : rowBU s[at_].toNat with
        | none =>
          obtain rfl := hR0 hrow
          unfold noRowV
          clear hR hR0 hrow
          gi_wp2
          have hbel3 := (Below.refl w2.heap.size w2).alloc (Nat.le_refl _) (.cells #[.int .u8 0, .int .u8 0, .int .u8 0, .int .u8 0, .int .i64 0, .int .i64 0, .int .i64 0] 307)
          generalize w2.alloc (.cells #[.int .u8 0, .int .u8 0, .int .u8 0, .int .u8 0, .int .i64 0, .int .i64 0, .int .i64 0] 307) = W3 at hbel3 ⊢
          have hg3 : Below wr.heap.size wr W3 := hb2.trans (hbel3.mono hb2.size)
          obtain ⟨b, hb⟩ : ∃ b, b = w2.heap.size := ⟨_, rfl⟩
          rw [← hb]
          clear hb hc2
          refine wpIn_wide.2 ?_
          go_region
          go_wp2
          obtain ⟨fn, tmps, assign, body, hy, hR⟩ := hfin _ hg3.drew
          gi_wp2
          refine hR.mono ?_
          rintro e W6 (⟨rfl, hJ6⟩ | ⟨rfl, hJx6⟩)
          · gi_wp2
            refine bodyPost_ret (results_none rfl _ _ _) rfl ?_
            exact ⟨⟨_, rfl⟩, .inl ⟨_, rfl, hJ6⟩⟩
          · gi_wp2
            refine bodyPost_ret (results_none rfl _ _ _) rfl ?_
            exact ⟨⟨_, rfl⟩, .inr ⟨_, List.prefix_rfl, hJx6⟩⟩
        | some k =>
          obtain rfl := hR k hrow
          have hk := (rowB_lt hrow).1
          have HWH : Hid (wholeL k (s.extract at_ s.size).data.toList = false) := HNO.out k hrow
          unfold rowV
          clear hR hR0 hrow
          gi_wp2
          have hb3 := Blk.new w2 307 #[.int .u8 ((utab k).first : Int), .int .u8 ((utab k).last : Int), .int .u8 ((utab k).low : Int), .int .u8 ((utab k).high : Int), .int .i64 ((utab k).size : Int), .int .i64 ((utab k).least : Int), .int .i64 ((utab k).most : Int)]
          have hbel3 := (Below.refl w2.heap.size w2).alloc (Nat.le_refl _) (.cells #[.int .u8 ((utab k).first : Int), .int .u8 ((utab k).last : Int), .int .u8 ((utab k).low : Int), .int .u8 ((utab k).high : Int), .int .i64 ((utab k).size : Int), .int .i64 ((utab k).least : Int), .int .i64 ((utab k).most : Int)] 307)
          generalize w2.alloc (.cells #[.int .u8 ((utab k).first : Int), .int .u8 ((utab k).last : Int), .int .u8 ((utab k).low : Int), .int .u8 ((utab k).high : Int), .int .i64 ((utab k).size : Int), .int .i64 ((utab k).least : Int), .int .i64 ((utab k).most : Int)] 307) = W3 at hb3 hbel3 ⊢
          have hbB3 : Blk W3 Bs 9 #[.string s] := (hB1.below hb2 hB1.lt).below hbel3 (Nat.lt_of_lt_of_le hB1.lt hb2.size)
          have hg3 : Below wr.heap.size wr W3 := hb2.trans (hbel3.mono hb2.size)
          have d0 := hbB3.cell 0
          have r0 := hb3.cell 0
          have r1 := hb3.cell 1
          have r2 := hb3.cell 2
          have r3 := hb3.cell 3
          have r4 := hb3.cell 4
          have r5 := hb3.cell 5
          have r6 := hb3.cell 6
          have l1 := hbB3.lt
          have l2 := hb3.lt
          simp only [List.getElem?_toArray, List.getElem?_cons_zero, List.getElem?_cons_succ] at d0 r0 r1 r2 r3 r4 r5 r6
          obtain ⟨b, hb⟩ : ∃ b, b = w2.heap.size := ⟨_, rfl⟩
          rw [← hb] at r0 r1 r2 r3 r4 r5 r6 l2 hb3 ⊢
          clear hb hc2
          refine wpIn_wide.2 ?_
          go_region_held (fun w' => w'.cell? ⟨Bs, 0, none⟩ = some (.string s) ∧ w'.cell? ⟨b, 0, none⟩ = some (.int .u8 ((utab k).first : Int)) ∧ w'.cell? ⟨b, 1, none⟩ = some (.int .u8 ((utab k).last : Int)) ∧ w'.cell? ⟨b, 2, none⟩ = some (.int .u8 ((utab k).low : Int)) ∧ w'.cell? ⟨b, 3, none⟩ = some (.int .u8 ((utab k).high : Int)) ∧ w'.cell? ⟨b, 4, none⟩ = some (.int .i64 ((utab k).size : Int)) ∧ w'.cell? ⟨b, 5, none⟩ = some (.int .i64 ((utab k).least : Int)) ∧ w'.cell? ⟨b, 6, none⟩ = some (.int .i64 ((utab k).most : Int)) ∧ Bs < w'.heap.size ∧ b < w'.heap.size) (first | go_keep | exact keep_two (by assumption) (by assumption)) (first | (go_at_call 183; refine (whole_any (s.extract at_ s.size) k hk _ (by simp; omega)).mono ?_; rw [HWH.out]; rintro e w4 ⟨rfl, hb4⟩))
          go_wp2
          have hg4 : Below wr.heap.size wr w4 := hg3.drew.trans (hb4.mono hg3.size)
          clear d0 r0 r1 r2 r3 r4 r5 r6
          obtain ⟨fn, tmps, assign, body, hy, hR⟩ := hfin _ hg4
          gi_wp2
          refine hR.mono ?_
          rintro e W6 (⟨rfl, hJ6⟩ | ⟨rfl, hJx6⟩)
          · gi_wp2
            refine bodyPost_ret (results_none rfl _ _ _) rfl ?_
            exact ⟨⟨_, rfl⟩, .inl ⟨_, rfl, hJ6⟩⟩
          · gi_wp2
            refine bodyPost_ret (results_none rfl _ _ _) rfl ?_
            exact ⟨⟨_, rfl⟩, .inr ⟨_, List.prefix_rfl, hJx6⟩⟩
      | cons p ps2 =>
        have hp : IsPt p := hps p (by rw [HP'.out]; simp)
        have hdrop : s.data.toList.drop at_ = enc p ++ (encs ps2 ++ rest) := by
          rw [HS.out, HP'.out, Hat.out, encs_append, List.append_assoc, List.drop_left]; simp [encs]
        obtain ⟨k, hk, hk1, _, hk2, hk3, _⟩ := enc_row hp (encs ps2 ++ rest)
        have hh : s[at_] = (enc p)[0]?.getD 0 := by
          have h1 : (s.data.toList.drop at_)[0]? = some s[at_] := by rw [List.getElem?_drop]; exact list_get s at_ hlt
          rw [hdrop, List.getElem?_append_left (enc_pos p)] at h1
          rw [h1]; rfl
        have hrow : rowBU s[at_].toNat = some k := by rw [hh]; exact hk1
        have hsl : (s.extract at_ s.size).data.toList = enc p ++ (encs ps2 ++ rest) := by
          rw [Lib.extract_data, List.take_of_length_le (by rw [List.length_drop, ← Lib.size_eq]; exact Nat.le_refl _)]; exact hdrop
        have hwh : wholeL k (s.extract at_ s.size).data.toList = true := by rw [hsl]; exact hk3
        have HK2 : Hid ((utab k).size = (enc p).length) := hk2
        have HSL : Hid ((s.extract at_ s.size).data.toList = enc p ++ (encs ps2 ++ rest)) := hsl
        have HROW : Hid (rowBU s[at_].toNat = some k) := hrow
        have HWH : Hid (wholeL k (s.extract at_ s.size).data.toList = true) := hwh
        clear hh hrow hsl hwh hdrop hk1 hk2 hk3
        gi_wp2
        refine ⟨trivial, (callsIn_wide.2 (rowOfByte_any s[at_] wr htr)).mono ?_⟩
        rintro e w2 ⟨⟨R, rfl, hR, hR0⟩, hb2⟩
        obtain rfl := hR k HROW.out
        rw [HROW.out]
        unfold rowV
        have hc2 : w2.cell? ⟨Bs, 0, none⟩ = some (.string s) := (hb2.cell (p := ⟨Bs, 0, none⟩) hB1.lt).trans hc0
        gi_wp2
        have hb3 := Blk.new w2 307 #[.int .u8 ((utab k).first : Int), .int .u8 ((utab k).last : Int), .int .u8 ((utab k).low : Int), .int .u8 ((utab k).high : Int), .int .i64 ((utab k).size : Int), .int .i64 ((utab k).least : Int), .int .i64 ((utab k).most : Int)]
        have hbel3 := (Below.refl w2.heap.size w2).alloc (Nat.le_refl _) (.cells #[.int .u8 ((utab k).first : Int), .int .u8 ((utab k).last : Int), .int .u8 ((utab k).low : Int), .int .u8 ((utab k).high : Int), .int .i64 ((utab k).size : Int), .int .i64 ((utab k).least : Int), .int .i64 ((utab k).most : Int)] 307)
        generalize w2.alloc (.cells #[.int .u8 ((utab k).first : Int), .int .u8 ((utab k).last : Int), .int .u8 ((utab k).low : Int), .int .u8 ((utab k).high : Int), .int .i64 ((utab k).size : Int), .int .i64 ((utab k).least : Int), .int .i64 ((utab k).most : Int)] 307) = W3 at hb3 hbel3 ⊢
        have hbB3 : Blk W3 Bs 9 #[.string s] := (hB1.below hb2 hB1.lt).below hbel3 (Nat.lt_of_lt_of_le hB1.lt hb2.size)
        have hg3 : Below wr.heap.size wr W3 := hb2.trans (hbel3.mono hb2.size)
        have d0 := hbB3.cell 0
        have r0 := hb3.cell 0
        have r1 := hb3.cell 1
        have r2 := hb3.cell 2
        have r3 := hb3.cell 3
        have r4 := hb3.cell 4
        have r5 := hb3.cell 5
        have r6 := hb3.cell 6
        have l1 := hbB3.lt
        have l2 := hb3.lt
        simp only [List.getElem?_toArray, List.getElem?_cons_zero, List.getElem?_cons_succ] at d0 r0 r1 r2 r3 r4 r5 r6
        obtain ⟨b, hb⟩ : ∃ b, b = w2.heap.size := ⟨_, rfl⟩
        rw [← hb] at r0 r1 r2 r3 r4 r5 r6 l2 hb3 ⊢
        have HSZ : Hid (b = w2.heap.size) := hb
        clear hb hc2 hR hR0
        refine wpIn_wide.2 ?_
        go_region_held (fun w' => w'.cell? ⟨Bs, 0, none⟩ = some (.string s) ∧ w'.cell? ⟨b, 0, none⟩ = some (.int .u8 ((utab k).first : Int)) ∧ w'.cell? ⟨b, 1, none⟩ = some (.int .u8 ((utab k).last : Int)) ∧ w'.cell? ⟨b, 2, none⟩ = some (.int .u8 ((utab k).low : Int)) ∧ w'.cell? ⟨b, 3, none⟩ = some (.int .u8 ((utab k).high : Int)) ∧ w'.cell? ⟨b, 4, none⟩ = some (.int .i64 ((utab k).size : Int)) ∧ w'.cell? ⟨b, 5, none⟩ = some (.int .i64 ((utab k).least : Int)) ∧ w'.cell? ⟨b, 6, none⟩ = some (.int .i64 ((utab k).most : Int)) ∧ Bs < w'.heap.size ∧ b < w'.heap.size) (first | go_keep | exact keep_two (by assumption) (by assumption)) (first | (go_at_call 183; refine (whole_any (s.extract at_ s.size) k hk _ (by simp; omega)).mono ?_; rw [HWH.out]; rintro e w4 ⟨rfl, hb4⟩))
        go_wp2
        have hB4 : Blk w4 Bs 9 #[.string s] := Blk.below (W := W3.drew) hbB3 hb4 l1
        have hr4 : Blk w4 b 307 #[.int .u8 ((utab k).first : Int), .int .u8 ((utab k).last : Int), .int .u8 ((utab k).low : Int), .int .u8 ((utab k).high : Int), .int .i64 ((utab k).size : Int), .int .i64 ((utab k).least : Int), .int .i64 ((utab k).most : Int)] := Blk.below (W := W3.drew) hb3 hb4 l2
        have hg4 : Below wr.heap.size wr w4 := hg3.drew.trans (hb4.mono hg3.size)
        have ht4 : Tabs w4 := htr.own hg4
        have c4 := hB4.cell 0
        have r44 := hr4.cell 4
        simp only [List.getElem?_toArray, List.getElem?_cons_zero, List.getElem?_cons_succ] at c4 r44
        have hz1 : at_ + (utab k).size ≤ s.size := by
          have h1 := congrArg List.length HSL.out
          rw [← Lib.size_eq, List.length_append, ← HK2.out] at h1
          simp at h1
          omega
        have hzk : 1 ≤ (utab k).size ∧ (utab k).size ≤ 4 := by rw [HK2.out]; exact ⟨enc_pos p, enc_le p⟩
        clear d0 r0 r1 r2 r3 r4 r5 r6
        have hch : (s.extract at_ (at_ + (utab k).size)).data.toList = enc p := by
          have h1 : (s.extract at_ (at_ + (utab k).size)).data.toList = (s.extract at_ s.size).data.toList.take (utab k).size := by
            rw [Lib.extract_data, Lib.extract_data, List.take_take]
            congr 1
            omega
          rw [h1, HSL.out, HK2.out, List.take_left]
        have HCH : Hid ((s.extract at_ (at_ + (utab k).size)).data.toList = enc p) := hch
        clear hch
        gi_wp2
        refine ⟨trivial, (callsIn_wide.2 (pointOf_any (s.extract at_ (at_ + (utab k).size)) p hp HCH.out w4 ht4)).mono ?_⟩
        rintro e w5 ⟨rfl, hb5⟩
        have hB5 : Blk w5 Bs 9 #[.string s] := hB4.below hb5 hB4.lt
        have hr5 := hr4.below hb5 hr4.lt
        have hg5 : Below wr.heap.size wr w5 := hg4.trans (hb5.mono hg4.size)
        have hJ5 : J (pl 0 ps1) w5 := hJ _ wr w5 none hJs (grown_of_belowU hg5) (by simp)
        have hpre : pl 0 ps1 ++ [(at_, (p : Int))] = pl 0 (ps1 ++ [p]) := by rw [pl_append, Hat.out]; simp [pl]
        have hfull : pl 0 (ps1 ++ [p]) <+: full ps rest := by rw [HP'.out, show ps1 ++ p :: ps2 = (ps1 ++ [p]) ++ ps2 by simp]; exact full_prefix _ _ _
        obtain ⟨fn, tmps, assign, body, hy, hR⟩ := hY (pl 0 ps1) (at_, (p : Int)) w5 hJ5 (by have := hfull.length_le; rw [← hpre] at this; simp at this; omega)
        dsimp only at hy
        clear c4 r44
        gi_wp2
        refine hR.mono ?_
        rintro e W6 (⟨rfl, hJ6, hk6⟩ | ⟨rfl, hJx6⟩)
        · have hB6 := hk6.2 _ _ _ (.inr rfl) hB5
          have hr6 := hk6.2 _ _ _ (.inl rfl) hr5
          have r64 := hr6.cell 4
          simp only [List.getElem?_toArray, List.getElem?_cons_zero, List.getElem?_cons_succ] at r64
          rw [hpre] at hJ6
          have hb6 : Below n₀ W W6 := (hbel.trans (hg5.mono (Nat.le_trans hnW hbel.size))).trans hk6.1
          have HL : Hid ((encs (ps1 ++ [p])).length = at_ + (utab k).size) := by show _ = _; rw [encs_append, List.length_append, Hat.out, HK2.out]; simp [encs]
          gi_wp2
          go_roundw
          case rel => exact ⟨ps1 ++ [p], ps2, by rw [HP'.out]; simp, by rw [HL.out]; go_num, hJ6, hB6, hb6⟩
          case measure => simp [intOf]; omega
        · gi_wp2
          refine bodyPost_ret (results_none rfl _ _ _) rfl ?_
          exact ⟨⟨_, rfl⟩, .inr ⟨_, hpre ▸ hfull, hJx6⟩⟩
    · have hend : ps2 = [] ∧ rest = [] := by
        have h1 : (encs ps2 ++ rest).length = 0 := by
          have := Lib.size_eq s
          rw [HS.out, HP, encs_append, List.append_assoc, List.length_append, ← hat] at this
          omega
        have h2 := encs_length_ge ps2
        rw [List.length_append] at h1
        exact ⟨List.eq_nil_of_length_eq_zero (by omega), List.eq_nil_of_length_eq_zero (by omega)⟩
      obtain ⟨h1, h2⟩ := hend
      have Hat : Hid (at_ = (encs ps1).length) := hat
      have HP' : Hid (ps = ps1 ++ ps2) := HP
      clear hat HP
      gi_wp2
      go_end0
      refine ⟨⟨_, rfl⟩, .inl ⟨_, rfl, ?_⟩⟩
      rw [h2, full_nil, HP'.out, h1, List.append_nil]
      exact hJs

end Go.Proofs.YtkjoomdglealmaaGreatDoor

namespace Go.Proofs.YtkjoomdglealmaaGreatDoor
open Go.RowKit Go.Vf Go.Shelf
attribute [local go_sem] Oper.semAt_some

theorem chars_stops (n : Nat) (hn : 1 ≤ n) (Bs n₀ : Nat) (hn₀ : 3 ≤ n₀) (s : ByteArray) (hsz : s.size ≤ 4294967296) (ps : List Nat) (rest : List UInt8) (hs : s.data.toList = encs ps ++ rest) (hps : ∀ p ∈ ps, IsPt p) (hrest : rest = [] ∨ noChar rest)
    (w : World) (hnw : n₀ ≤ w.heap.size) (hBs : Blk w Bs 9 #[.string s]) (ht : Tabs w) :
    SeqStopsK Fence.wide n Tryz.prog 181 #[.pointer (some ⟨Bs, 0, none⟩)] (fun x : Nat × Int => #[Value.int .i64 (x.1 : Int), Value.int .i64 x.2]) (Kpt n₀) (fun ys => ys = full ps rest) (fun pre => pre <+: full ps rest) (full ps rest).length w := fun l J Jx W hW hJ _ hY h0 =>
  chars1_in n hn l Bs n₀ hn₀ s hsz ps rest hs hps hrest J Jx W hJ hY (hBs.below hW hBs.lt) (ht.own hW) h0 (Nat.le_trans hnw hW.size)

def chkOf (ps : List Nat) (rest : List UInt8) : Int := if rest = [] then -1 else ((encs ps).length : Int)

set_option maxRecDepth 100000 in
set_option maxHeartbeats 2000000 in
theorem ucheck_any (s : ByteArray) (hsz : s.size ≤ 4294967296) (ps : List Nat) (rest : List UInt8) (hs : s.data.toList = encs ps ++ rest) (hps : ∀ p ∈ ps, IsPt p) (hrest : rest = [] ∨ noChar rest) (w : World) (ht : Tabs w) :
    Calls Tryz.prog 108 #[.string s] w fun e w' => e = .returned (.int .i64 (chkOf ps rest)) ∧ Below w.heap.size w w' := by
  refine (callsIn_wide (n := 3)).1 ?_
  refine callsIn_of_wp_marks Tryz.func108 rfl trivial ?_ rfl
  simp only [Tryz.ntmps108, List.size_toArray, List.length_cons, List.length_nil, Nat.reduceAdd, Nat.reduceSub, Array.replicate_succ, Array.replicate_zero, List.push_toArray, List.append_toArray, List.nil_append, List.cons_append]
  gi_wp2
  refine ⟨trivial, (chars_in _ s _).mono ?_⟩
  rintro e w' ⟨rfl, rfl⟩
  gi_wp2
  have bR := Boxed.new w 3 (.int .i64 0)
  have bN : Blk ((w.alloc (.cells #[.int .i64 0] 3)).alloc (.cells #[.string s] 9)) (w.heap.size + 1) 9 #[.string s] := by
    have := Blk.new (w.alloc (.cells #[.int .i64 0] 3)) 9 #[.string s]
    rwa [World.size_alloc] at this
  have hB0 : Below w.heap.size w ((w.alloc (.cells #[.int .i64 0] 3)).alloc (.cells #[.string s] 9)) := ((Below.refl _ w).alloc (Nat.le_refl _) _).alloc (by simp) _
  refine wpIn_rangeFunc_ownG (F := Fence.wide) rfl (by decide) (gf := 181) (lb := #[.pointer (some ⟨w.heap.size + 1, 0, none⟩)]) rfl trivial (enters_of Tryz.func181 (by kernel_rfl) rfl)
    (chars_stops (3 - 1) (by decide) (w.heap.size + 1) w.heap.size ht.size s hsz ps rest hs hps hrest _ (by simp; omega) bN (ht.own hB0)) Kpt.trans (Kpt.putObj (by simp; omega)) (Below.refl _ _) (fun _ => rfl)
    (fun pre W => ((∀ p ∈ pre, p.2 ≠ -1) ∧ W.cell? ⟨w.heap.size, 0, none⟩ = some (.int .i64 0) ∧ W.frozen? ⟨w.heap.size, 0, none⟩ = false) ∧ Below w.heap.size w W)
    (fun c pre W => (c = .ret ∧ ∃ ini last, pre = ini ++ [last] ∧ last.2 = -1 ∧ W.cell? ⟨w.heap.size, 0, none⟩ = some (.int .i64 (last.1 : Int))) ∧ Below w.heap.size w W)
    (OwnFrom.and (Own.from (fun s A B row hs hg hr => ⟨hs.1, cell_kept hs.2.1 hg hr, (frozen_kept hs.2.1 hg hr).trans hs.2.2⟩) _) (ownFrom_below (Nat.le_refl _) (by simp; omega)))
    (fun c => OwnFrom.and (Own.from (fun s A B row hs hg hr => by obtain ⟨hc, ini, last, e1, e3, e4⟩ := hs; exact ⟨hc, ini, last, e1, e3, cell_kept e4 hg hr⟩) _) (ownFrom_below (Nat.le_refl _) (by simp; omega)))
    ⟨⟨by simp, (bR.alloc _).cell, (bR.alloc _).frozen⟩, hB0⟩
    (fun x => { tmps := #[.string s, undef, .pointer (some ⟨w.heap.size, 0, none⟩), .int .i64 (x.1 : Int), .int .i64 x.2, .string s, .func (.func 181) #[] #[.pointer (some ⟨w.heap.size + 1, 0, none⟩)], .int .i64 (x.1 : Int), .int .i64 x.2, undef, undef, undef], defers := [] }) ?assign ?body ?done ?stop
  case assign =>
    intro l x W K hK
    gi_wp2
    exact hK
  case body =>
    rintro l pre x W ⟨⟨hp, hcr, hfr⟩, hB⟩ _
    gi_wp2
    · rename_i hx
      have hx : x.2 = -1 := eq_of_beq hx
      exact ⟨(KeepsOthers.setCell _ _ _).from _, ⟨rfl, pre, x, rfl, hx, World.cell?_setCell_same' _ _ _ (by rw [hcr]; rfl)⟩, hB.setCell (p := ⟨w.heap.size, 0, none⟩) (Nat.le_refl _) _⟩
    · rename_i hx
      exact ⟨KeepsFrom.refl _ _, Kpt.refl _ _, ⟨fun p hp' => (List.mem_append.1 hp').elim (hp p) (fun e => by simp at e; subst e; simpa using hx), hcr, hfr⟩, hB⟩
  case done =>
    rintro D ys W hD rfl ⟨⟨hne, hcr, hfr⟩, hB⟩ hK
    have hr : rest = [] := Classical.byContradiction fun h => by
      rw [full_broken _ h] at hne
      exact hne _ (List.mem_append.2 (.inr (List.mem_singleton.2 rfl))) rfl
    gi_wp2
    have hK' := (KeepsOthers.setCell W ⟨w.heap.size, 0, none⟩ (.int .i64 (-1))).same D _ hK rfl
    refine ⟨by simp, .inl ⟨_, _, rfl, run_takeDeferred hK', ?_⟩⟩
    have hc5 := cell_kept (World.cell?_setCell_same' W ⟨w.heap.size, 0, none⟩ (.int .i64 (-1)) (by rw [hcr]; rfl)) (grownBy_putObj' _ D (.deferred none)) (fun r e => by cases e; exact ⟨_, hK', rfl⟩)
    refine ⟨.int .i64 (-1), ?_, by rw [chkOf, if_pos hr], (hB.setCell (p := ⟨w.heap.size, 0, none⟩) (Nat.le_refl _) _).trans (belowK_b (w := w) (Nat.le_refl _) _ D _ _ (by simp at hD; omega) hK' rfl rfl)⟩
    simp [results, Tryz.f108, go_sem, hc5]
  case stop =>
    rintro D c pre W hD hpre ⟨⟨rfl, ini, last, e1, e3, hcr⟩, hB⟩ hK
    rw [e1] at hpre
    obtain ⟨hr, hl, _⟩ := full_end hpre e3
    gi_wp2
    refine ⟨by simp, .inl ⟨_, _, rfl, run_takeDeferred hK, ?_⟩⟩
    have hc5 := cell_kept hcr (grownBy_putObj' _ D (.deferred none)) (fun r e => by cases e; exact ⟨_, hK, rfl⟩)
    refine ⟨.int .i64 (last.1 : Int), ?_, by rw [chkOf, if_neg hr, hl], hB.trans (belowK_b (w := w) (Nat.le_refl _) W D _ _ (by simp at hD; omega) hK rfl rfl)⟩
    simp [results, Tryz.f108, go_sem, hc5]

end Go.Proofs.YtkjoomdglealmaaGreatDoor

namespace Go.Proofs.YtkjoomdglealmaaGreatDoor
open Go.RowKit Go.Vf

def bytR (o : Go.Vf.Own) (n : Nat) (at' : Int) : Int :=
  if (o.kind == 3 || o.kind == 5) && decide (o.most < (n : Int)) then 124 else if (o.kind == 5 || o.kind == 6) && decide (0 ≤ at') then 125 else 0
set_option maxHeartbeats 2000000 in
set_option maxRecDepth 20000 in
theorem unfitBytes_any (o : Go.Vf.Own) (a : Option Addr) (n c : Nat) (r : ByteArray) (_hr : r.size ≤ 281474976710656) (at' : Int) (w : World) (ht : Tabs w) (hU : ∀ W, Tabs W → Calls Tryz.prog 108 #[.string r] W fun e w' => e = .returned (.int .i64 at') ∧ Below W.heap.size W w') :
    Calls Tryz.prog 71 #[fV o a n c, .string r] w (PlainPost (bytR o r.size at') (if bytR o r.size at' = 125 then at' else 0) (if bytR o r.size at' = 125 then .iface 34 (.int .i64 30) else .nilIface) w) := by
  have hb1 := (Below.refl w.heap.size w).alloc (Nat.le_refl _) (.cells (cellsF o a n c) 57)
  have hN1 := Blk.new w 57 (cellsF o a n c)
  have ht1 : Tabs (w.alloc (.cells (cellsF o a n c) 57)) := ht.below ht.size hb1
  obtain ⟨c0, c1, c2, c3, c4, c5, c6, c7, c8, c9, c10, c11, c12, c13⟩ := cells14 hN1
  unfold fV
  simp only [cellsF] at hb1 hN1 ht1 c1 c9
  clear c0 c2 c3 c4 c5 c6 c7 c8 c10 c11 c12 c13
  have hm := hasMost_any o.kind
  have hsp := isSpelt_any o.kind
  obtain ⟨m, hmq⟩ : ∃ m, (o.kind == 3 || o.kind == 5) = m := ⟨_, rfl⟩
  obtain ⟨sp, hsq⟩ : ∃ m, (o.kind == 5 || o.kind == 6) = m := ⟨_, rfl⟩
  obtain ⟨lg, hlg⟩ : ∃ m, decide (o.most < (r.size : Int)) = m := ⟨_, rfl⟩
  obtain ⟨R, hR⟩ : ∃ R, bytR o r.size at' = R := ⟨_, rfl⟩
  have HR : Hid (R = if m && lg then 124 else if sp && decide (0 ≤ at') then 125 else 0) := by
    show _ = _
    rw [← hR, bytR, hmq, hsq, hlg]
  rw [hmq] at hm
  rw [hsq] at hsp
  rw [hR]
  obtain ⟨A, hA⟩ : ∃ A, (if R = 125 then at' else 0) = A := ⟨_, rfl⟩
  obtain ⟨Y, hY⟩ : ∃ Y : Value, (if R = 125 then .iface 34 (.int .i64 30) else .nilIface) = Y := ⟨_, rfl⟩
  rw [hA, hY]
  have HA : Hid ((if R = 125 then at' else 0) = A) := hA
  have HY : Hid ((if R = 125 then (.iface 34 (.int .i64 30) : Value) else .nilIface) = Y) := hY
  clear hR hA hY hmq hsq ht hN1
  go_enter Tryz.func71, Tryz.ntmps71
  go_upto_region 1 with fail
  generalize w.alloc (.cells #[.string o.name, .int .u8 o.kind, .bool o.down, .int .u8 o.nulls, .bool o.bnd, .bool o.ln, .string o.lm, .bool o.hn, .string o.hm, .int .i64 o.most, .int .i64 o.str, .bool o.shf, .bool o.bck, .slice a n c] 57) = w1 at hb1 ht1 c1 c9 ⊢
  have hm1 := hm w1
  have hsp1 := hsp w1
  have hU1 := hU w1 ht1
  clear hm hsp hU ht1
  have HL : Hid ((m && lg) = true → PlainPost R A Y w (.returned (.iface 98 (.pointer (some ⟨w1.heap.size, 0, none⟩)))) (w1.alloc (.cells #[.int .i64 124, .int .i64 0, .slice none 0 0, .nilIface] 100))) := fun h => by
    have e : R = 124 := by rw [HR.out, if_pos h]
    have e1 : A = 0 := by rw [← HA.out, e]; rfl
    have e2 : Y = .nilIface := by rw [← HY.out, e]; rfl
    rw [e, e1, e2]
    exact ⟨hb1.alloc hb1.size _, .inr ⟨by decide, _, rfl, fault_new w w1 hb1 124 0 .nilIface⟩⟩
  have HZ : Hid (R = 0 → ∀ W, Below w.heap.size w W → PlainPost R A Y w (.returned .nilIface) W) := fun h W hb => by
    rw [h]; exact ⟨hb, .inl ⟨rfl, rfl⟩⟩
  have HU : Hid (R = 125 → ∀ W, Below w.heap.size w W → PlainPost R A Y w (.returned (.iface 98 (.pointer (some ⟨W.heap.size, 0, none⟩)))) (W.alloc (.cells #[.int .i64 125, .int .i64 at', .slice none 0 0, .iface 34 (.int .i64 30)] 100))) := fun e W hb => by
    have e1 : A = at' := by rw [← HA.out, e]; rfl
    have e2 : Y = .iface 34 (.int .i64 30) := by rw [← HY.out, e]; rfl
    rw [e, e1, e2]
    exact ⟨hb.alloc hb.size _, .inr ⟨by decide, _, rfl, fault_new w W hb 125 at' _⟩⟩
  clear HA HY
  have tail : True := trivial
  cases m with
  | true =>
    cases lg with
    | true =>
      have hP := HL.out rfl
      clear HL HZ HU HR hU1 hsp1
      go_wp2_with fail
      refine hm1.mono ?_
      rintro _ _ ⟨rfl, rfl⟩
      go_wp2_with fail
      go_ret
      exact hP
    | false =>
      clear HL
      go_wp2_with fail
      refine hm1.mono ?_
      rintro _ _ ⟨rfl, rfl⟩
      cases sp with
      | false =>
        have hP := HZ.out (by rw [HR.out]; rfl) w1 hb1
        clear HZ HU HR hU1
        go_wp2_with fail
        refine hsp1.mono ?_
        rintro _ _ ⟨rfl, rfl⟩
        go_wp2_with fail
        go_ret
        exact hP
      | true =>
        go_wp2_with fail
        refine hsp1.mono ?_
        rintro _ _ ⟨rfl, rfl⟩
        go_wp2_with fail
        refine hU1.mono ?_
        rintro _ w2 ⟨rfl, hb2⟩
        have hb02 := hb1.trans (hb2.mono hb1.size)
        cases hq : decide (0 ≤ at') with
        | true =>
          have hP := HU.out (by rw [HR.out, hq]; rfl) w2 hb02
          clear HZ HU HR
          go_wp2_with fail
          go_ret
          exact hP
        | false =>
          have hP := HZ.out (by rw [HR.out, hq]; rfl) w2 hb02
          clear HZ HU HR
          go_wp2_with fail
          go_ret
          exact hP
  | false =>
    clear HL
    go_wp2_with fail
    refine hm1.mono ?_
    rintro _ _ ⟨rfl, rfl⟩
    cases sp with
    | false =>
      have hP := HZ.out (by rw [HR.out]; rfl) w1 hb1
      clear HZ HU HR hU1
      go_wp2_with fail
      refine hsp1.mono ?_
      rintro _ _ ⟨rfl, rfl⟩
      go_wp2_with fail
      go_ret
      exact hP
    | true =>
      go_wp2_with fail
      refine hsp1.mono ?_
      rintro _ _ ⟨rfl, rfl⟩
      go_wp2_with fail
      refine hU1.mono ?_
      rintro _ w2 ⟨rfl, hb2⟩
      have hb02 := hb1.trans (hb2.mono hb1.size)
      cases hq : decide (0 ≤ at') with
      | true =>
        have hP := HU.out (by rw [HR.out, hq]; rfl) w2 hb02
        clear HZ HU HR
        go_wp2_with fail
        go_ret
        exact hP
      | false =>
        have hP := HZ.out (by rw [HR.out, hq]; rfl) w2 hb02
        clear HZ HU HR
        go_wp2_with fail
        go_ret
        exact hP

end Go.Proofs.YtkjoomdglealmaaGreatDoor
