/- What the document's tuple and value of layer 10 do (contracts; nothing is claimed here). -/
import Derived.Test.YtffhbellpcneeaaRVal
namespace Go.Proofs.Ytffhbellpcneeaa
open Go.RowKit Go.Vf
set_option maxRecDepth 100000 in
theorem res59_run {tmps : Array Value} {w : World} {b : Nat} {a0 a1 a2 a3 a4 a5 n y : Value} (h : Blk w b 27 #[a0, a1, a2, a3, a4, a5]) (t6 : tmps[6]?.getD undef = .pointer (some ⟨b, 0, none⟩)) (t7 : tmps[7]?.getD undef = n) (t8 : tmps[8]?.getD undef = y) :
    (results Try.f59 tmps).run Try.prog w = .ok (.tuple #[.agg #[a0, a1, a2, a3, a4, a5], n, y]) w := by
  obtain ⟨c0, c1, c2, c3, c4, c5⟩ := h.c6
  simp [results, Try.results59, go_sem, t6, t7, t8, c0, c1, c2, c3, c4, c5]
theorem pre_in {c : UInt8} {s : ByteArray} {k : Nat} (hk : k < s.size) : [c].isPrefixOf (s.data.toList.drop k) = decide (s[k] = c) := by
  rw [drop_at s k hk]
  show (c == s[k] && true) = _
  rw [Bool.and_true, Bool.eq_iff_iff, beq_iff_eq, decide_eq_true_iff]
  exact eq_comm
theorem pre_out {c : UInt8} {s : ByteArray} {k : Nat} (hk : ¬ k < s.size) : [c].isPrefixOf (s.data.toList.drop k) = false := by
  rw [drop_end s k (by omega)]; rfl
/-- One more item, and on. -/
def tupN (f : List UInt8 → Got) (k : Nat) (acc : List Prt) (t : List UInt8) : Got := match f t with
  | .ok (p, t') => tupR f k (acc ++ [p]) t'
  | .error e => .error e
theorem rd_nil (n : Nat) : rd n [] = .error 0 := by cases n <;> rfl
set_option maxHeartbeats 16000000 in
set_option maxRecDepth 20000 in
theorem rtuple_any (n D : Nat) (hD : D + n = 16) (s : ByteArray) (hs : s.size ≤ 65536)
    (hv : ∀ (k : Nat), k ≤ s.size → ∀ (w : World), Calls Try.prog 32 #[.string s, .int .i64 (k : Int), .int .i64 (D : Int)] w (RvE s (rd n (s.data.toList.drop k)) w))
    (k : Nat) (hk : k ≤ s.size) (w : World) : Calls Try.prog 59 #[.string s, .int .i64 (k : Int), .int .i64 (D : Int)] w (RvE s (tupR (rd n) ((s.data.toList.drop k).length + 1) [] (s.data.toList.drop k)) w) := by
  have hb1 := (Below.refl w.heap.size w).alloc (Nat.le_refl _) (.cells #[.int .u8 0, .bool false, .bool false, .string ⟨#[]⟩, .string ⟨#[]⟩, .slice none 0 0] 27)
  have hB0 := Blk.new w 27 #[.int .u8 0, .bool false, .bool false, .string ⟨#[]⟩, .string ⟨#[]⟩, .slice none 0 0]
  have hs1 := alloc_size w (.cells #[.int .u8 0, .bool false, .bool false, .string ⟨#[]⟩, .string ⟨#[]⟩, .slice none 0 0] 27)
  obtain ⟨G, hG⟩ : ∃ G, tupR (rd n) ((s.data.toList.drop k).length + 1) [] (s.data.toList.drop k) = G := ⟨_, rfl⟩
  have HG : Hid (tupR (rd n) (s.size - k + 1) [] (s.data.toList.drop k) = G) := by show _ = _; rw [← hG, drop_len]
  rw [hG]
  clear hG
  have hD16 : D ≤ 16 := by omega
  go_enter Try.func59, Try.ntmps59
  go_upto_region 1 with fail
  generalize w.alloc (.cells #[.int .u8 0, .bool false, .bool false, .string ⟨#[]⟩, .string ⟨#[]⟩, .slice none 0 0] 27) = w1 at *
  have hb2 := hb1.alloc hb1.size (.cells #[.int .u8 0, .bool false, .bool false, .string ⟨#[]⟩, .string ⟨#[]⟩, .slice none 0 0] 27)
  have hB1 := Blk.new w1 27 #[.int .u8 0, .bool false, .bool false, .string ⟨#[]⟩, .string ⟨#[]⟩, .slice none 0 0]
  have hB0b := hB0.old ((Below.refl w1.heap.size w1).alloc (Nat.le_refl _) (.cells #[.int .u8 0, .bool false, .bool false, .string ⟨#[]⟩, .string ⟨#[]⟩, .slice none 0 0] 27))
  have hs2 := alloc_size w1 (.cells #[.int .u8 0, .bool false, .bool false, .string ⟨#[]⟩, .string ⟨#[]⟩, .slice none 0 0] 27)
  rw [hs1] at hB1 hs2
  go_upto_region 2 with fail
  generalize w1.alloc (.cells #[.int .u8 0, .bool false, .bool false, .string ⟨#[]⟩, .string ⟨#[]⟩, .slice none 0 0] 27) = w2 at *
  have hb3 := hb2.alloc hb2.size (.cells #[.int .u8 7, .bool false, .bool false, .string ⟨#[]⟩, .string ⟨#[]⟩, .slice none 0 0] 27)
  have hB2 := Blk.new w2 27 #[.int .u8 7, .bool false, .bool false, .string ⟨#[]⟩, .string ⟨#[]⟩, .slice none 0 0]
  have hB1c := hB1.old ((Below.refl w2.heap.size w2).alloc (Nat.le_refl _) (.cells #[.int .u8 7, .bool false, .bool false, .string ⟨#[]⟩, .string ⟨#[]⟩, .slice none 0 0] 27))
  have hB0c := hB0b.old ((Below.refl w2.heap.size w2).alloc (Nat.le_refl _) (.cells #[.int .u8 7, .bool false, .bool false, .string ⟨#[]⟩, .string ⟨#[]⟩, .slice none 0 0] 27))
  have hs3 := alloc_size w2 (.cells #[.int .u8 7, .bool false, .bool false, .string ⟨#[]⟩, .string ⟨#[]⟩, .slice none 0 0] 27)
  rw [hs2] at hB2 hs3
  go_upto_region 3 with fail
  generalize w2.alloc (.cells #[.int .u8 7, .bool false, .bool false, .string ⟨#[]⟩, .string ⟨#[]⟩, .slice none 0 0] 27) = w3 at *
  have HS3 : Hid (w3.heap.size = w.heap.size + 1 + 1 + 1) := hs3
  have HB0 : Hid (Blk w3 w.heap.size 27 #[.int .u8 0, .bool false, .bool false, .string ⟨#[]⟩, .string ⟨#[]⟩, .slice none 0 0]) := hB0c
  have HB1 : Hid (Blk w3 (w.heap.size + 1) 27 #[.int .u8 0, .bool false, .bool false, .string ⟨#[]⟩, .string ⟨#[]⟩, .slice none 0 0]) := hB1c
  have HB2 : Hid (Blk w3 (w.heap.size + 1 + 1) 27 #[.int .u8 7, .bool false, .bool false, .string ⟨#[]⟩, .string ⟨#[]⟩, .slice none 0 0]) := hB2
  clear hB0 hB0b hB0c hB1 hB1c hB2 hs1 hs2 hs3 hb1 hb2
  by_cases hlt : k < s.size
  · have tl : decide ((k : Int) < (s.size : Int)) = true := decide_eq_true (by omega)
    have tl2 : decide (k < s.size) = true := decide_eq_true hlt
    have hki : (k : Int) < (s.size : Int) := by omega
    by_cases hc : s[k] = 41
    · have tc : ((s[k].toNat : Int) == 41) = true := u8_eqn _ 41 (by omega) hc
      have HE : Hid (G = .ok (tupP [], s.data.toList.drop (k + 1))) := by
        show _ = _
        rw [← HG.out, tupR, if_pos (by rw [pre_in hlt]; exact decide_eq_true hc), drop_more]
      have hBp := HB2.out
      obtain ⟨d0, d1, d2, d3, d4, d5⟩ := Blk.c6 hBp
      clear hv HG hc hBp
      have hBr : Blk w3 w.heap.size 27 #[.int .u8 0, .bool false, .bool false, .string ⟨#[]⟩, .string ⟨#[]⟩, .slice none 0 0] := HB0.out
      obtain ⟨c0, c1, c2, c3, c4, c5⟩ := hBr.c6
      have f0 := hBr.frozen 0
      have f1 := hBr.frozen 1
      have f2 := hBr.frozen 2
      have f3 := hBr.frozen 3
      have f4 := hBr.frozen 4
      have f5 := hBr.frozen 5
      clear hBr
      go_wp2_with fail
      have hfin := Blk.set6 HB0.out (.int .u8 7) (.bool false) (.bool false) (.string ⟨#[]⟩) (.string ⟨#[]⟩) (.slice none 0 0)
      have hbw := set6_below (hb3) (Nat.le_refl _) 0 (.int .u8 7) (.bool false) (.bool false) (.string ⟨#[]⟩) (.string ⟨#[]⟩) (.slice none 0 0)
      refine bodyPost_ret (res59_run (b := w.heap.size) hfin rfl rfl rfl) rfl ?_
      rw [HE.out]
      exact ⟨hbw, none, 0, k + 1, hlt, rfl, rfl, .nil rfl⟩
    · have tc : ((s[k].toNat : Int) == 41) = false := u8_nen _ 41 hc
      have HG0 : Hid (G = tupN (rd n) (s.size - k) [] (s.data.toList.drop k)) := by
        show _ = _
        rw [← HG.out, tupR, if_neg (by rw [pre_in hlt, decide_eq_false hc]; simp), if_pos (by simp)]
        rfl
      clear HG hc
      go_upto_region 5 with fail
      go_loopw [1] (fun av wr => ∃ (m F na : Nat) (acc : List Prt) (a : Option Addr) (c : Nat), m ≤ s.size ∧ s.size - m ≤ F ∧ av = .int .i64 (m : Int) ∧ Hid (acc.length = na) ∧ na < 1024 ∧ PItm (w.heap.size + 1 + 1 + 1) wr (.slice a na c) acc ∧ Hid (Blk wr w.heap.size 27 #[.int .u8 0, .bool false, .bool false, .string ⟨#[]⟩, .string ⟨#[]⟩, .slice none 0 0]) ∧ Hid (Blk wr (w.heap.size + 1) 27 #[.int .u8 0, .bool false, .bool false, .string ⟨#[]⟩, .string ⟨#[]⟩, .slice none 0 0]) ∧
        Hid (Blk wr (w.heap.size + 1 + 1) 27 #[.int .u8 7, .bool false, .bool false, .string ⟨#[]⟩, .string ⟨#[]⟩, .slice a na c]) ∧ Below w.heap.size w wr ∧ Hid (w.heap.size + 1 + 1 + 1 ≤ wr.heap.size) ∧ Hid (G = tupN (rd n) F acc (s.data.toList.drop m))) (fun av _ => s.size - (intOf av).toNat)
      case atStart => exact ⟨k, s.size - k, 0, [], none, 0, hk, Nat.le_refl _, rfl, rfl, by decide, PItm.nil _ _, HB0, HB1, HB2, hb3, by have := HS3.out; show _ ≤ _; omega, HG0⟩
      case round =>
        clear HB0 HB1 HB2 HG0 hb3 HS3
        obtain ⟨m, F, na, acc, a, c, hm, hF, rfl, HNA, hna, hit, HB0, HB1, HB2, hb, HLE, HG⟩ := hrel
        have hcall := hv m hm wr
        have hbsz : w.heap.size ≤ wr.heap.size := hb.size
        cases hg : rd n (s.data.toList.drop m) with
        | error r =>
          rw [hg] at hcall
          have HGE : Hid (G = .error r) := by show _ = _; rw [HG.out, tupN, hg]
          clear hv HG hg
          go_wp2_with fail
          refine hcall.mono ?_
          rintro _ w4 ⟨hb4, k5, hk5, hr5, rfl⟩
          have HE : Hid (G = .error (s.size - k5)) := by show _ = _; rw [HGE.out, hr5]
          unfold pV nullP
          simp only [Prt.kind, Prt.yes, Prt.neg, Prt.mag, Prt.raw, Prt.items, List.length_nil]
          have hb5 := hb4.alloc hb4.size (.cells #[.int .u8 0, .bool false, .bool false, .string ⟨#[]⟩, .string ⟨#[]⟩, .slice none 0 0] 27)
          clear hcall HGE hr5
          go_upto_region 6 with fail
          generalize w4.alloc (.cells #[.int .u8 0, .bool false, .bool false, .string ⟨#[]⟩, .string ⟨#[]⟩, .slice none 0 0] 27) = w5 at *
          have HB5 : Hid (Blk w5 w.heap.size 27 #[.int .u8 0, .bool false, .bool false, .string ⟨#[]⟩, .string ⟨#[]⟩, .slice none 0 0]) := Blk.old HB0.out hb5
          have hB5n := Blk.old HB1.out hb5
          obtain ⟨d0, d1, d2, d3, d4, d5⟩ := Blk.c6 hB5n
          clear hB5n
          have hBr : Blk w5 w.heap.size 27 #[.int .u8 0, .bool false, .bool false, .string ⟨#[]⟩, .string ⟨#[]⟩, .slice none 0 0] := HB5.out
          obtain ⟨c0, c1, c2, c3, c4, c5⟩ := hBr.c6
          have f0 := hBr.frozen 0
          have f1 := hBr.frozen 1
          have f2 := hBr.frozen 2
          have f3 := hBr.frozen 3
          have f4 := hBr.frozen 4
          have f5 := hBr.frozen 5
          clear hBr
          go_wp2_with fail
          have hfin := Blk.set6 HB5.out (.int .u8 0) (.bool false) (.bool false) (.string ⟨#[]⟩) (.string ⟨#[]⟩) (.slice none 0 0)
          have hbw := set6_below (hb.trans (hb5.mono hbsz)) (Nat.le_refl _) 0 (.int .u8 0) (.bool false) (.bool false) (.string ⟨#[]⟩) (.string ⟨#[]⟩) (.slice none 0 0)
          refine bodyPost_ret (res59_run (b := w.heap.size) hfin rfl rfl rfl) rfl ?_
          rw [HE.out]
          exact ⟨hbw, k5, hk5, rfl, rfl⟩
        | ok z =>
          obtain ⟨p, rest⟩ := z
          rw [hg] at hcall
          obtain ⟨e1, e2, e3⟩ := rd_inv n _ _ _ (by rw [drop_len]; omega) hg
          have hpos := txt_pos e2
          have HGE : Hid (G = tupR (rd n) F (acc ++ [p]) rest) := by show _ = _; rw [HG.out, tupN, hg]
          clear HG hg
          go_wp2_with fail
          refine hcall.mono ?_
          rintro _ w4 ⟨hb4, ap, cp, k5, hk5, hr5, rfl, hpin⟩
          have hlt5 : m < k5 := by
            have := congrArg List.length e1
            rw [hr5, List.length_append, drop_len, drop_len] at this
            omega
          obtain ⟨F, rfl⟩ : ∃ f, F = f + 1 := ⟨F - 1, by omega⟩
          have HG : Hid (G = tupR (rd n) (F + 1) (acc ++ [p]) (s.data.toList.drop k5)) := by show _ = _; rw [HGE.out, hr5]
          unfold pV
          have hb5 := hb4.alloc hb4.size (.cells #[.int .u8 p.kind, .bool p.yes, .bool p.neg, .string p.mag, .string p.raw, .slice ap p.items.length cp] 27)
          have hB5 := Blk.new w4 27 #[.int .u8 p.kind, .bool p.yes, .bool p.neg, .string p.mag, .string p.raw, .slice ap p.items.length cp]
          have hq5 := (Below.refl w4.heap.size w4).alloc (Nat.le_refl _) (.cells #[.int .u8 p.kind, .bool p.yes, .bool p.neg, .string p.mag, .string p.raw, .slice ap p.items.length cp] 27)
          clear hcall HGE hr5 e1 e2 e3 hpos
          go_upto_region 6 with fail
          generalize w4.alloc (.cells #[.int .u8 p.kind, .bool p.yes, .bool p.neg, .string p.mag, .string p.raw, .slice ap p.items.length cp] 27) = w5 at *
          have HP5 : Hid (PIn w5 wr.heap.size w5.heap.size p ap) := (hpin.keep hq5 (Nat.le_refl _)).mono hq5.size (Nat.le_refl _)
          have HI5 : Hid (PItm (w.heap.size + 1 + 1 + 1) w5 (.slice a na c) acc) := hit.old hb5
          have HRL : Hid (∀ k, (Value.slice a na c).ownBlock = some k → k < wr.heap.size) := hit.row_lt
          have hBx := hB5
          obtain ⟨x0, x1, x2, x3, x4, x5⟩ := Blk.c6 hBx
          have HBr : Hid (Blk w5 w.heap.size 27 #[.int .u8 0, .bool false, .bool false, .string ⟨#[]⟩, .string ⟨#[]⟩, .slice none 0 0]) := Blk.old HB0.out hb5
          have HBn : Hid (Blk w5 (w.heap.size + 1) 27 #[.int .u8 0, .bool false, .bool false, .string ⟨#[]⟩, .string ⟨#[]⟩, .slice none 0 0]) := Blk.old HB1.out hb5
          have HBp : Hid (Blk w5 (w.heap.size + 1 + 1) 27 #[.int .u8 7, .bool false, .bool false, .string ⟨#[]⟩, .string ⟨#[]⟩, .slice a na c]) := Blk.old HB2.out hb5
          have p5 : w5.cell? ⟨w.heap.size + 1 + 1, 5, none⟩ = some (.slice a na c) := Blk.cell HBp.out 5
          have HZ5 : Hid (wr.heap.size ≤ w5.heap.size) := hb5.size
          have HAL : Hid (acc.length < 1024) := by have := HNA.out; show _ < _; omega
          have HL6 : Hid ((acc ++ [p]).length = na + 1) := by have := HNA.out; show _ = _; simp; omega
          clear hit hpin hBx hB5 hq5 HB0 HB1 HB2
          go_upto_region 9 with (at_builtin; refine PItm.more HI5.out HLE.out HZ5.out HRL.out HAL.out HP5.out (.tmp 42) (.tmp 44) rfl rfl rfl rfl ?_; intro v' w6 hit6 hb6; obtain ⟨a6, c6, hv6⟩ := hit6.form; rw [HL6.out] at hv6; subst hv6; have q5 : w6.cell? ⟨w.heap.size + 1 + 1, 5, none⟩ = some (.slice a na c) := Blk.cell (Blk.below HBp.out hb6 (Nat.lt_succ_self _)) 5; have qf : w6.frozen? ⟨w.heap.size + 1 + 1, 5, none⟩ = false := Blk.frozen (Blk.below HBp.out hb6 (Nat.lt_succ_self _)) 5)

          have hBp7 : Blk (w6.setCell ⟨w.heap.size + 1 + 1, 5, none⟩ (.slice a6 (na + 1) c6)) (w.heap.size + 1 + 1) 27 #[.int .u8 7, .bool false, .bool false, .string ⟨#[]⟩, .string ⟨#[]⟩, .slice a6 (na + 1) c6] := by
            have := (Blk.below HBp.out hb6 (Nat.lt_succ_self _)).set 5 (.slice a6 (na + 1) c6)
            simpa using this
          have hBr7 : Blk (w6.setCell ⟨w.heap.size + 1 + 1, 5, none⟩ (.slice a6 (na + 1) c6)) w.heap.size 27 #[.int .u8 0, .bool false, .bool false, .string ⟨#[]⟩, .string ⟨#[]⟩, .slice none 0 0] := Blk.other (Blk.below HBr.out hb6 (by omega)) (p := ⟨w.heap.size + 1 + 1, 5, none⟩) (by show w.heap.size ≠ w.heap.size + 1 + 1; omega) _
          have hBn7 : Blk (w6.setCell ⟨w.heap.size + 1 + 1, 5, none⟩ (.slice a6 (na + 1) c6)) (w.heap.size + 1) 27 #[.int .u8 0, .bool false, .bool false, .string ⟨#[]⟩, .string ⟨#[]⟩, .slice none 0 0] := Blk.other (Blk.below HBn.out hb6 (by omega)) (p := ⟨w.heap.size + 1 + 1, 5, none⟩) (by show w.heap.size + 1 ≠ w.heap.size + 1 + 1; omega) _
          have hit7 : PItm (w.heap.size + 1 + 1 + 1) (w6.setCell ⟨w.heap.size + 1 + 1, 5, none⟩ (.slice a6 (na + 1) c6)) (.slice a6 (na + 1) c6) (acc ++ [p]) := hit6.keep (fun b q1 q2 => Below.heap_setCell _ _ _ b (by show b ≠ w.heap.size + 1 + 1; omega)) (by rw [set_size]; exact Nat.le_refl _)
          have hb7 : Below w.heap.size w (w6.setCell ⟨w.heap.size + 1 + 1, 5, none⟩ (.slice a6 (na + 1) c6)) := ((hb.trans (hb5.mono hbsz)).trans (hb6.mono (by omega))).setCell (p := ⟨w.heap.size + 1 + 1, 5, none⟩) (by show w.heap.size ≤ w.heap.size + 1 + 1; omega) _
          have hsz7 : w.heap.size + 1 + 1 + 1 ≤ (w6.setCell ⟨w.heap.size + 1 + 1, 5, none⟩ (.slice a6 (na + 1) c6)).heap.size := by
            rw [set_size]
            have := HLE.out
            have := HZ5.out
            have := hb6.size
            omega
          generalize w6.setCell ⟨w.heap.size + 1 + 1, 5, none⟩ (.slice a6 (na + 1) c6) = w7 at *
          have HBP : Hid (Blk w7 (w.heap.size + 1 + 1) 27 #[.int .u8 7, .bool false, .bool false, .string ⟨#[]⟩, .string ⟨#[]⟩, .slice a6 (na + 1) c6]) := hBp7
          have HBN : Hid (Blk w7 (w.heap.size + 1) 27 #[.int .u8 0, .bool false, .bool false, .string ⟨#[]⟩, .string ⟨#[]⟩, .slice none 0 0]) := hBn7
          have HBR : Hid (Blk w7 w.heap.size 27 #[.int .u8 0, .bool false, .bool false, .string ⟨#[]⟩, .string ⟨#[]⟩, .slice none 0 0]) := hBr7
          have HIT : Hid (PItm (w.heap.size + 1 + 1 + 1) w7 (.slice a6 (na + 1) c6) (acc ++ [p])) := hit7
          have HSZ : Hid (w.heap.size + 1 + 1 + 1 ≤ w7.heap.size) := hsz7
          clear hBp7 hBn7 hBr7 hit7 hsz7 q5 qf hit6 hb6 hb5 hb4 HI5 HP5 HRL HBr HBn HBp p5 x0 x1 x2 x3 x4 x5 HLE HZ5 HAL
          by_cases hl5 : k5 < s.size
          · have tl5 : decide ((k5 : Int) < (s.size : Int)) = true := decide_eq_true (by omega)
            have tl5' : decide (k5 < s.size) = true := decide_eq_true hl5
            have tg5 : decide ((s.size : Int) ≤ (k5 : Int)) = false := decide_eq_false (by omega)
            have tg5' : decide (s.size ≤ k5) = false := decide_eq_false (by omega)
            have hki5 : (k5 : Int) < (s.size : Int) := by omega
            by_cases h41 : s[k5] = 41
            · have t41 : ((s[k5].toNat : Int) == 41) = true := u8_eqn _ 41 (by omega) h41
              have HE : Hid (G = .ok (tupP (acc ++ [p]), s.data.toList.drop (k5 + 1))) := by
                show _ = _
                rw [HG.out, tupR, if_pos (by rw [pre_in hl5]; exact decide_eq_true h41), drop_more]
              have hBq := HBP.out
              obtain ⟨d0, d1, d2, d3, d4, d5⟩ := Blk.c6 hBq
              clear hv HG h41 hBq
              have hBr : Blk w7 w.heap.size 27 #[.int .u8 0, .bool false, .bool false, .string ⟨#[]⟩, .string ⟨#[]⟩, .slice none 0 0] := HBR.out
              obtain ⟨c0, c1, c2, c3, c4, c5⟩ := hBr.c6
              have f0 := hBr.frozen 0
              have f1 := hBr.frozen 1
              have f2 := hBr.frozen 2
              have f3 := hBr.frozen 3
              have f4 := hBr.frozen 4
              have f5 := hBr.frozen 5
              clear hBr
              go_wp2_with fail
              have hfin := Blk.set6 HBR.out (.int .u8 7) (.bool false) (.bool false) (.string ⟨#[]⟩) (.string ⟨#[]⟩) (.slice a6 (na + 1) c6)
              have hbw := set6_below (hb7) (Nat.le_refl _) 0 (.int .u8 7) (.bool false) (.bool false) (.string ⟨#[]⟩) (.string ⟨#[]⟩) (.slice a6 (na + 1) c6)
              refine bodyPost_ret (res59_run (b := w.heap.size) hfin rfl rfl rfl) rfl ?_
              rw [HE.out]
              refine ⟨hbw, a6, c6, k5 + 1, hl5, rfl, ?_, ?_⟩
              · unfold pV
                simp only [tupP, Prt.kind, Prt.yes, Prt.neg, Prt.mag, Prt.raw, Prt.items]
                rw [HL6.out]
                rfl
              · have e7 := set6_size w7 w.heap.size 0 (.int .u8 7) (.bool false) (.bool false) (.string ⟨#[]⟩) (.string ⟨#[]⟩) (.slice a6 (na + 1) c6)
                show PIn (set6 w7 w.heap.size 0 (.int .u8 7) (.bool false) (.bool false) (.string ⟨#[]⟩) (.string ⟨#[]⟩) (.slice a6 (na + 1) c6)) _ (set6 w7 w.heap.size 0 (.int .u8 7) (.bool false) (.bool false) (.string ⟨#[]⟩) (.string ⟨#[]⟩) (.slice a6 (na + 1) c6)).heap.size (tupP (acc ++ [p])) a6
                rw [e7]
                exact (HIT.out.pin.keep' (fun b q1 q2 => set6_other (by omega))).mono (Nat.le_refl _) (by omega)
            · have t41 : ((s[k5].toNat : Int) == 41) = false := u8_nen _ 41 h41
              have hn41 : ¬ [41].isPrefixOf (s.data.toList.drop k5) = true := by rw [pre_in hl5, decide_eq_false h41]; simp
              have hne0 : ¬ (acc ++ [p]).length = 0 := by rw [HL6.out]; omega
              by_cases h32 : s[k5] = 32
              · have t32 : ((s[k5].toNat : Int) != 32) = false := u8_eqnb _ 32 (by omega) h32
                have t32' : ((s[k5].toNat : Int) == 32) = true := u8_eqn _ 32 (by omega) h32
                by_cases hmany : na + 1 < 1024
                · have tm : (((na + 1 : Nat) : Int) == 1024) = false := by rw [beq_eq_false_iff_ne]; omega
                  have tm' : ((na : Int) + 1 == 1024) = false := by rw [beq_eq_false_iff_ne]; omega
                  have HGN : Hid (G = tupN (rd n) F (acc ++ [p]) (s.data.toList.drop (k5 + 1))) := by
                    show _ = _
                    rw [HG.out, tupR, if_neg hn41, if_neg hne0, if_pos ⟨by rw [HL6.out]; exact hmany, by rw [pre_in hl5]; exact decide_eq_true h32⟩, drop_more]
                    rfl
                  have r5 : w7.cell? ⟨w.heap.size + 1 + 1, 5, none⟩ = some (.slice a6 (na + 1) c6) := Blk.cell HBP.out 5
                  clear hv HG h41 hn41 hne0 h32
                  go_wp2_with fail
                  go_roundw
                  case rel => exact ⟨k5 + 1, F, na + 1, acc ++ [p], a6, c6, hl5, by omega, by simp, HL6, hmany, HIT.out, HBR, HBN, HBP, hb7, HSZ, HGN⟩
                  case measure => simp only [intOf]; omega
                · have tm : (((na + 1 : Nat) : Int) == 1024) = true := by rw [beq_iff_eq]; omega
                  have tm' : ((na : Int) + 1 == 1024) = true := by rw [beq_iff_eq]; omega
                  have HE : Hid (G = .error (s.size - k5)) := by
                    show _ = _
                    rw [HG.out, tupR, if_neg hn41, if_neg hne0, if_neg (by rintro ⟨q, _⟩; rw [HL6.out] at q; exact hmany q), drop_len]
                  have r5 : w7.cell? ⟨w.heap.size + 1 + 1, 5, none⟩ = some (.slice a6 (na + 1) c6) := Blk.cell HBP.out 5
                  have hBq := HBN.out
                  obtain ⟨d0, d1, d2, d3, d4, d5⟩ := Blk.c6 hBq
                  clear hv HG h41 hn41 hne0 h32 hBq
                  have hBr : Blk w7 w.heap.size 27 #[.int .u8 0, .bool false, .bool false, .string ⟨#[]⟩, .string ⟨#[]⟩, .slice none 0 0] := HBR.out
                  obtain ⟨c0, c1, c2, c3, c4, c5⟩ := hBr.c6
                  have f0 := hBr.frozen 0
                  have f1 := hBr.frozen 1
                  have f2 := hBr.frozen 2
                  have f3 := hBr.frozen 3
                  have f4 := hBr.frozen 4
                  have f5 := hBr.frozen 5
                  clear hBr
                  go_wp2_with fail
                  have hfin := Blk.set6 HBR.out (.int .u8 0) (.bool false) (.bool false) (.string ⟨#[]⟩) (.string ⟨#[]⟩) (.slice none 0 0)
                  have hbw := set6_below (hb7) (Nat.le_refl _) 0 (.int .u8 0) (.bool false) (.bool false) (.string ⟨#[]⟩) (.string ⟨#[]⟩) (.slice none 0 0)
                  refine bodyPost_ret (res59_run (b := w.heap.size) hfin rfl rfl rfl) rfl ?_
                  rw [HE.out]
                  exact ⟨hbw, k5, hk5, rfl, rfl⟩
              · have t32 : ((s[k5].toNat : Int) != 32) = true := u8_nenb _ 32 h32
                have t32' : ((s[k5].toNat : Int) == 32) = false := u8_nen _ 32 h32
                have HE : Hid (G = .error (s.size - k5)) := by
                  show _ = _
                  rw [HG.out, tupR, if_neg hn41, if_neg hne0, if_neg (by rintro ⟨_, q⟩; rw [pre_in hl5, decide_eq_false h32] at q; simp at q), drop_len]
                have hBq := HBN.out
                obtain ⟨d0, d1, d2, d3, d4, d5⟩ := Blk.c6 hBq
                clear hv HG h41 hn41 hne0 h32 hBq
                have hBr : Blk w7 w.heap.size 27 #[.int .u8 0, .bool false, .bool false, .string ⟨#[]⟩, .string ⟨#[]⟩, .slice none 0 0] := HBR.out
                obtain ⟨c0, c1, c2, c3, c4, c5⟩ := hBr.c6
                have f0 := hBr.frozen 0
                have f1 := hBr.frozen 1
                have f2 := hBr.frozen 2
                have f3 := hBr.frozen 3
                have f4 := hBr.frozen 4
                have f5 := hBr.frozen 5
                clear hBr
                go_wp2_with fail
                have hfin := Blk.set6 HBR.out (.int .u8 0) (.bool false) (.bool false) (.string ⟨#[]⟩) (.string ⟨#[]⟩) (.slice none 0 0)
                have hbw := set6_below (hb7) (Nat.le_refl _) 0 (.int .u8 0) (.bool false) (.bool false) (.string ⟨#[]⟩) (.string ⟨#[]⟩) (.slice none 0 0)
                refine bodyPost_ret (res59_run (b := w.heap.size) hfin rfl rfl rfl) rfl ?_
                rw [HE.out]
                exact ⟨hbw, k5, hk5, rfl, rfl⟩
          · have tl5 : decide ((k5 : Int) < (s.size : Int)) = false := decide_eq_false (by omega)
            have tl5' : decide (k5 < s.size) = false := decide_eq_false hl5
            have tg5 : decide ((s.size : Int) ≤ (k5 : Int)) = true := decide_eq_true (by omega)
            have tg5' : decide (s.size ≤ k5) = true := decide_eq_true (by omega)
            have HE : Hid (G = .error (s.size - k5)) := by
              show _ = _
              rw [HG.out, tupR, if_neg (by rw [pre_out hl5]; simp), if_neg (by rw [HL6.out]; omega), if_neg (by rintro ⟨_, q⟩; rw [pre_out hl5] at q; simp at q), drop_len]
            have hBq := HBN.out
            obtain ⟨d0, d1, d2, d3, d4, d5⟩ := Blk.c6 hBq
            clear hv HG hBq
            have hBr : Blk w7 w.heap.size 27 #[.int .u8 0, .bool false, .bool false, .string ⟨#[]⟩, .string ⟨#[]⟩, .slice none 0 0] := HBR.out
            obtain ⟨c0, c1, c2, c3, c4, c5⟩ := hBr.c6
            have f0 := hBr.frozen 0
            have f1 := hBr.frozen 1
            have f2 := hBr.frozen 2
            have f3 := hBr.frozen 3
            have f4 := hBr.frozen 4
            have f5 := hBr.frozen 5
            clear hBr
            go_wp2_with fail
            have hfin := Blk.set6 HBR.out (.int .u8 0) (.bool false) (.bool false) (.string ⟨#[]⟩) (.string ⟨#[]⟩) (.slice none 0 0)
            have hbw := set6_below (hb7) (Nat.le_refl _) 0 (.int .u8 0) (.bool false) (.bool false) (.string ⟨#[]⟩) (.string ⟨#[]⟩) (.slice none 0 0)
            refine bodyPost_ret (res59_run (b := w.heap.size) hfin rfl rfl rfl) rfl ?_
            rw [HE.out]
            exact ⟨hbw, k5, hk5, rfl, rfl⟩
  · have tl : decide ((k : Int) < (s.size : Int)) = false := decide_eq_false (by omega)
    have tl2 : decide (k < s.size) = false := decide_eq_false hlt
    have hnil := drop_end s k (by omega)
    have HGE : Hid (G = .error 0) := by
      show _ = _
      rw [← HG.out, hnil, tupR, if_neg (by simp [List.isPrefixOf]), if_pos (by simp), rd_nil]
    have hcall := hv k hk w3
    rw [hnil, rd_nil] at hcall
    clear HG hv hnil
    go_upto_region 5 with fail
    go_loopw [1] (fun av wr => av = .int .i64 (k : Int) ∧ wr = w3) (fun _ _ => 0)
    case atStart => exact ⟨rfl, rfl⟩
    case round =>
      obtain ⟨rfl, rfl⟩ := hrel
      have hbsz : w.heap.size ≤ wr.heap.size := hb3.size
      go_wp2_with fail
      refine hcall.mono ?_
      rintro _ w4 ⟨hb4, k5, hk5, hr5, rfl⟩
      have HE : Hid (G = .error (s.size - k5)) := by show _ = _; rw [HGE.out, ← hr5]
      unfold pV nullP
      simp only [Prt.kind, Prt.yes, Prt.neg, Prt.mag, Prt.raw, Prt.items, List.length_nil]
      have hb5 := hb4.alloc hb4.size (.cells #[.int .u8 0, .bool false, .bool false, .string ⟨#[]⟩, .string ⟨#[]⟩, .slice none 0 0] 27)
      clear hcall HGE hr5
      go_upto_region 6 with fail
      generalize w4.alloc (.cells #[.int .u8 0, .bool false, .bool false, .string ⟨#[]⟩, .string ⟨#[]⟩, .slice none 0 0] 27) = w5 at *
      have HB5 : Hid (Blk w5 w.heap.size 27 #[.int .u8 0, .bool false, .bool false, .string ⟨#[]⟩, .string ⟨#[]⟩, .slice none 0 0]) := Blk.old HB0.out hb5
      have hB5n := Blk.old HB1.out hb5
      obtain ⟨d0, d1, d2, d3, d4, d5⟩ := Blk.c6 hB5n
      clear hB5n
      have hBr : Blk w5 w.heap.size 27 #[.int .u8 0, .bool false, .bool false, .string ⟨#[]⟩, .string ⟨#[]⟩, .slice none 0 0] := HB5.out
      obtain ⟨c0, c1, c2, c3, c4, c5⟩ := hBr.c6
      have f0 := hBr.frozen 0
      have f1 := hBr.frozen 1
      have f2 := hBr.frozen 2
      have f3 := hBr.frozen 3
      have f4 := hBr.frozen 4
      have f5 := hBr.frozen 5
      clear hBr
      go_wp2_with fail
      have hfin := Blk.set6 HB5.out (.int .u8 0) (.bool false) (.bool false) (.string ⟨#[]⟩) (.string ⟨#[]⟩) (.slice none 0 0)
      have hbw := set6_below (hb3.trans (hb5.mono hbsz)) (Nat.le_refl _) 0 (.int .u8 0) (.bool false) (.bool false) (.string ⟨#[]⟩) (.string ⟨#[]⟩) (.slice none 0 0)
      refine bodyPost_ret (res59_run (b := w.heap.size) hfin rfl rfl rfl) rfl ?_
      rw [HE.out]
      exact ⟨hbw, k5, hk5, rfl, rfl⟩
theorem rvalue_any (s : ByteArray) (hs : s.size ≤ 65536) : ∀ (n D : Nat), D + n = 16 → ∀ (k : Nat), k ≤ s.size → ∀ (w : World), Calls Try.prog 32 #[.string s, .int .i64 (k : Int), .int .i64 (D : Int)] w (RvE s (rd n (s.data.toList.drop k)) w)
  | 0, D, hD, k, hk, w => rvalue_step (fun t => .error (t.length + 1)) D (by omega) s hs (fun h => by omega) (fun _ _ => rfl) k hk w
  | n + 1, D, hD, k, hk, w => rvalue_step (fun t => tupR (rd n) (t.length + 1) [] t) D (by omega) s hs (fun _ k hk _ w => rtuple_any n (D + 1) (by omega) s hs (rvalue_any s hs n (D + 1) (by omega)) (k + 1) hk w) (fun h => absurd (by omega) h) k hk w
end Go.Proofs.Ytffhbellpcneeaa
