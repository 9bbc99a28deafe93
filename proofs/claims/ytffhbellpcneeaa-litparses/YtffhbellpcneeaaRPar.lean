/- What the document's Parse of layer 10 does (contracts; nothing is claimed here). -/
import Derived.Test.YtffhbellpcneeaaRTup
import Derived.Test.YtffhbellpcneeaaLBeh
namespace Go.Proofs.Ytffhbellpcneeaa
open Go.RowKit Go.Vf
def RpE (g : Except (Int × Nat) Prt) (w : World) (e : Ending) (w' : World) : Prop := Below w.heap.size w w' ∧ match g with
  | .ok p => ∃ (a : Option Addr) (c : Nat), e = .returned (.tuple #[pV p a c, .int .i64 0, .int .i64 0]) ∧ PIn w' w.heap.size w'.heap.size p a
  | .error (why, i) => e = .returned (.tuple #[pV nullP none 0, .int .i64 why, .int .i64 (i : Int)])
set_option maxRecDepth 100000 in
theorem res16_run {tmps : Array Value} {w : World} {b : Nat} {a0 a1 a2 a3 a4 a5 n y : Value} (h : Blk w b 27 #[a0, a1, a2, a3, a4, a5]) (t6 : tmps[2]?.getD undef = .pointer (some ⟨b, 0, none⟩)) (t7 : tmps[3]?.getD undef = n) (t8 : tmps[4]?.getD undef = y) :
    (results Try.f16 tmps).run Try.prog w = .ok (.tuple #[.agg #[a0, a1, a2, a3, a4, a5], n, y]) w := by
  obtain ⟨c0, c1, c2, c3, c4, c5⟩ := h.c6
  simp [results, Try.results16, go_sem, t6, t7, t8, c0, c1, c2, c3, c4, c5]
set_option maxHeartbeats 2000000 in
set_option maxRecDepth 20000 in
theorem rparse10_any (s : ByteArray) (hs : s.size ≤ 17179869184) (w : World) : Calls Try.prog 16 #[.string s] w (RpE (parseL s.data.toList) w) := by
  have hsl : s.data.toList.length = s.size := (Lib.size_eq s).symm
  have hb1 := (Below.refl w.heap.size w).alloc (Nat.le_refl _) (.cells #[.int .u8 0, .bool false, .bool false, .string ⟨#[]⟩, .string ⟨#[]⟩, .slice none 0 0] 27)
  have hB0 := Blk.new w 27 #[.int .u8 0, .bool false, .bool false, .string ⟨#[]⟩, .string ⟨#[]⟩, .slice none 0 0]
  have hs1 := alloc_size w (.cells #[.int .u8 0, .bool false, .bool false, .string ⟨#[]⟩, .string ⟨#[]⟩, .slice none 0 0] 27)
  obtain ⟨G, hG⟩ : ∃ G, parseL s.data.toList = G := ⟨_, rfl⟩
  have HG : Hid (parseL s.data.toList = G) := hG
  rw [hG]
  clear hG
  go_enter Try.func16, Try.ntmps16
  go_upto_region 1 with fail
  generalize w.alloc (.cells #[.int .u8 0, .bool false, .bool false, .string ⟨#[]⟩, .string ⟨#[]⟩, .slice none 0 0] 27) = w1 at *
  have HS1 : Hid (w1.heap.size = w.heap.size + 1) := hs1
  have HB0 : Hid (Blk w1 w.heap.size 27 #[.int .u8 0, .bool false, .bool false, .string ⟨#[]⟩, .string ⟨#[]⟩, .slice none 0 0]) := hB0
  have hlo : w.heap.size ≤ w1.heap.size := hb1.size
  clear hs1 hB0
  by_cases hlong : 65536 < s.size
  · have HE : Hid (G = .error (2, 0)) := by show _ = _; rw [← HG.out, parseL, if_pos (by omega)]
    have hj : decide ((65536 : Int) < (s.size : Int)) = true := decide_eq_true (by omega)
    have hBr := HB0.out
    obtain ⟨c0, c1, c2, c3, c4, c5⟩ := Blk.c6 hBr
    have f0 := Blk.frozen HB0.out 0
    have f1 := Blk.frozen HB0.out 1
    have f2 := Blk.frozen HB0.out 2
    have f3 := Blk.frozen HB0.out 3
    have f4 := Blk.frozen HB0.out 4
    have f5 := Blk.frozen HB0.out 5
    clear hBr HG hsl
    go_wp2_with fail
    have hfin := Blk.set6 HB0.out (.int .u8 0) (.bool false) (.bool false) (.string ⟨#[]⟩) (.string ⟨#[]⟩) (.slice none 0 0)
    have hbw := set6_below hb1 (Nat.le_refl _) 0 (.int .u8 0) (.bool false) (.bool false) (.string ⟨#[]⟩) (.string ⟨#[]⟩) (.slice none 0 0)
    refine bodyPost_ret (res16_run (b := w.heap.size) hfin rfl rfl rfl) rfl ?_
    rw [HE.out]
    exact ⟨hbw, rfl⟩
  · have hs' : s.size ≤ 65536 := by omega
    have hj : decide ((65536 : Int) < (s.size : Int)) = false := decide_eq_false (by omega)
    have HGo : Hid (∀ p rest, rd 16 s.data.toList = .ok (p, rest) → G = if rest = [] then .ok p else .error (100, s.size - rest.length)) := fun p rest h => by
      rw [← HG.out, parseL, if_neg (by omega), h, hsl]
    have HGr : Hid (∀ r, rd 16 s.data.toList = .error r → G = .error (100, s.size - r)) := fun r h => by
      rw [← HG.out, parseL, if_neg (by omega), h, hsl]
    have hcall := rvalue_any s hs' 16 0 rfl 0 (Nat.zero_le _) w1
    rw [List.drop_zero] at hcall
    clear HG
    cases hg : rd 16 s.data.toList with
    | error r =>
      have HGd : Hid _ := HGr.out _ hg
      rw [hg] at hcall
      clear hg HGo HGr
      go_wp2_with fail
      refine hcall.mono ?_
      rintro _ w2 ⟨hb2, k', hk', hr, rfl⟩
      have HE : Hid (G = .error (100, k')) := by
        show _ = _
        rw [HGd.out, hr, show s.size - (s.size - k') = k' by omega]
      unfold pV nullP
      simp only [Prt.kind, Prt.yes, Prt.neg, Prt.mag, Prt.raw, Prt.items, List.length_nil]
      have hb3 := hb2.alloc hb2.size (.cells #[.int .u8 0, .bool false, .bool false, .string ⟨#[]⟩, .string ⟨#[]⟩, .slice none 0 0] 27)
      clear hcall HGd hr
      go_upto_region 4 with fail
      generalize w2.alloc (.cells #[.int .u8 0, .bool false, .bool false, .string ⟨#[]⟩, .string ⟨#[]⟩, .slice none 0 0] 27) = w3 at *
      have HB3 : Hid (Blk w3 w.heap.size 27 #[.int .u8 0, .bool false, .bool false, .string ⟨#[]⟩, .string ⟨#[]⟩, .slice none 0 0]) := Blk.old HB0.out hb3
      have hBr := HB3.out
      obtain ⟨c0, c1, c2, c3, c4, c5⟩ := Blk.c6 hBr
      have f0 := Blk.frozen HB3.out 0
      have f1 := Blk.frozen HB3.out 1
      have f2 := Blk.frozen HB3.out 2
      have f3 := Blk.frozen HB3.out 3
      have f4 := Blk.frozen HB3.out 4
      have f5 := Blk.frozen HB3.out 5
      clear hBr
      go_wp2_with fail
      have hfin := Blk.set6 HB3.out (.int .u8 0) (.bool false) (.bool false) (.string ⟨#[]⟩) (.string ⟨#[]⟩) (.slice none 0 0)
      have hbw := set6_below (hb1.trans (hb3.mono hlo)) (Nat.le_refl _) 0 (.int .u8 0) (.bool false) (.bool false) (.string ⟨#[]⟩) (.string ⟨#[]⟩) (.slice none 0 0)
      refine bodyPost_ret (res16_run (b := w.heap.size) hfin rfl rfl rfl) rfl ?_
      rw [HE.out]
      exact ⟨hbw, rfl⟩
    | ok z =>
      obtain ⟨p, rest⟩ := z
      have HGd : Hid _ := HGo.out _ _ hg
      rw [hg] at hcall
      clear HGo HGr
      obtain ⟨e1, e2, e3⟩ := rd_inv 16 _ _ _ (by rw [hsl]; exact hs') hg
      have hmay := fun a c lo n₀ w' h1 h2 => rmay_any p (may_fits p e2) a c lo n₀ w' h1 h2
      rw [e2] at hmay
      clear hg e1 e2 e3
      go_wp2_with fail
      refine hcall.mono ?_
      rintro _ w2 ⟨hb2, ap, cp, k', hk', hr, rfl, hpin⟩
      have hlen : rest.length = s.size - k' := by rw [hr, drop_len]
      unfold pV at hmay ⊢
      have hb3 := hb2.alloc hb2.size (.cells #[.int .u8 p.kind, .bool p.yes, .bool p.neg, .string p.mag, .string p.raw, .slice ap p.items.length cp] 27)
      have hB3 := Blk.new w2 27 #[.int .u8 p.kind, .bool p.yes, .bool p.neg, .string p.mag, .string p.raw, .slice ap p.items.length cp]
      have hq3 := (Below.refl w2.heap.size w2).alloc (Nat.le_refl _) (.cells #[.int .u8 p.kind, .bool p.yes, .bool p.neg, .string p.mag, .string p.raw, .slice ap p.items.length cp] 27)
      clear hcall hr
      go_upto_region 4 with fail
      generalize w2.alloc (.cells #[.int .u8 p.kind, .bool p.yes, .bool p.neg, .string p.mag, .string p.raw, .slice ap p.items.length cp] 27) = w3 at *
      have HP3 : Hid (PIn w3 w1.heap.size w3.heap.size p ap) := (hpin.keep hq3 (Nat.le_refl _)).mono hq3.size (Nat.le_refl _)
      have HBX : Hid (Blk w3 w2.heap.size 27 #[.int .u8 p.kind, .bool p.yes, .bool p.neg, .string p.mag, .string p.raw, .slice ap p.items.length cp]) := hB3
      have HB3 : Hid (Blk w3 w.heap.size 27 #[.int .u8 0, .bool false, .bool false, .string ⟨#[]⟩, .string ⟨#[]⟩, .slice none 0 0]) := Blk.old HB0.out hb3
      clear hB3 hpin hq3 hb2
      by_cases he : k' < s.size
      · have HE : Hid (G = .error (100, k')) := by
          show _ = _
          rw [HGd.out, if_neg (by intro h0; rw [h0] at hlen; simp at hlen; omega), hlen, show s.size - (s.size - k') = k' by omega]
        have tl : decide ((k' : Int) < (s.size : Int)) = true := decide_eq_true (by omega)
        have tl2 : decide (k' < s.size) = true := decide_eq_true he
        have hBr := HB3.out
        obtain ⟨c0, c1, c2, c3, c4, c5⟩ := Blk.c6 hBr
        have f0 := Blk.frozen HB3.out 0
        have f1 := Blk.frozen HB3.out 1
        have f2 := Blk.frozen HB3.out 2
        have f3 := Blk.frozen HB3.out 3
        have f4 := Blk.frozen HB3.out 4
        have f5 := Blk.frozen HB3.out 5
        clear hBr hmay HGd hlen
        go_wp2_with fail
        have hfin := Blk.set6 HB3.out (.int .u8 0) (.bool false) (.bool false) (.string ⟨#[]⟩) (.string ⟨#[]⟩) (.slice none 0 0)
        have hbw := set6_below (hb1.trans (hb3.mono hlo)) (Nat.le_refl _) 0 (.int .u8 0) (.bool false) (.bool false) (.string ⟨#[]⟩) (.string ⟨#[]⟩) (.slice none 0 0)
        refine bodyPost_ret (res16_run (b := w.heap.size) hfin rfl rfl rfl) rfl ?_
        rw [HE.out]
        exact ⟨hbw, rfl⟩
      · have HE : Hid (G = .ok p) := by
          show _ = _
          rw [HGd.out, if_pos (List.eq_nil_of_length_eq_zero (by omega))]
        have tl : decide ((k' : Int) < (s.size : Int)) = false := decide_eq_false (by omega)
        have tl2 : decide (k' < s.size) = false := decide_eq_false he
        have hm3 := hmay ap cp w1.heap.size w3.heap.size w3 (Nat.le_refl _) HP3.out
        have hBx := HBX.out
        obtain ⟨x0, x1, x2, x3, x4, x5⟩ := Blk.c6 hBx
        clear hmay HGd hlen hBx
        go_wp2_with fail
        refine hm3.mono ?_
        rintro _ w4 ⟨rfl, hb4⟩
        have HB4 : Hid (Blk w4 w.heap.size 27 #[.int .u8 0, .bool false, .bool false, .string ⟨#[]⟩, .string ⟨#[]⟩, .slice none 0 0]) := Blk.old HB3.out hb4
        have hBx := Blk.old HBX.out hb4
        clear x0 x1 x2 x3 x4 x5 hm3
        obtain ⟨x0, x1, x2, x3, x4, x5⟩ := Blk.c6 hBx
        have hBr := HB4.out
        obtain ⟨c0, c1, c2, c3, c4, c5⟩ := Blk.c6 hBr
        have f0 := Blk.frozen HB4.out 0
        have f1 := Blk.frozen HB4.out 1
        have f2 := Blk.frozen HB4.out 2
        have f3 := Blk.frozen HB4.out 3
        have f4 := Blk.frozen HB4.out 4
        have f5 := Blk.frozen HB4.out 5
        clear hBr hBx
        go_wp2_with fail
        have hfin := Blk.set6 HB4.out (.int .u8 p.kind) (.bool p.yes) (.bool p.neg) (.string p.mag) (.string p.raw) (.slice ap p.items.length cp)
        have hz3 := hb3.size
        have hz4 := hb4.size
        have hbw := set6_below ((hb1.trans (hb3.mono hlo)).trans (hb4.mono (by omega))) (Nat.le_refl _) 0 (.int .u8 p.kind) (.bool p.yes) (.bool p.neg) (.string p.mag) (.string p.raw) (.slice ap p.items.length cp)
        refine bodyPost_ret (res16_run (b := w.heap.size) hfin rfl rfl rfl) rfl ?_
        rw [HE.out]
        refine ⟨hbw, ap, cp, rfl, ?_⟩
        have e7 := set6_size w4 w.heap.size 0 (.int .u8 p.kind) (.bool p.yes) (.bool p.neg) (.string p.mag) (.string p.raw) (.slice ap p.items.length cp)
        show PIn (set6 w4 w.heap.size 0 (.int .u8 p.kind) (.bool p.yes) (.bool p.neg) (.string p.mag) (.string p.raw) (.slice ap p.items.length cp)) _ (set6 w4 w.heap.size 0 (.int .u8 p.kind) (.bool p.yes) (.bool p.neg) (.string p.mag) (.string p.raw) (.slice ap p.items.length cp)).heap.size p ap
        rw [e7]
        have e1 := HS1.out
        exact (((HP3.out.keep hb4 (Nat.le_refl _)).keep' (fun b q1 q2 => set6_other (by omega)))).mono hz4 hlo
end Go.Proofs.Ytffhbellpcneeaa
