/- What lit's writeTruth, writeNumber and writeRaw do (contracts; nothing is claimed here). -/
import Derived.Test.YtffhbellpcneeaaLWq
import Derived.Test.YtffhbellpcneeaaAsk
namespace Go.Proofs.Ytffhbellpcneeaa
open Go.RowKit Go.Vf
theorem Pr.P_le {w : World} {P base : Nat} {acc : List UInt8} (h : Pr w P base acc) : P ≤ w.heap.size := by have := h.lt; have := h.le; omega
theorem num_res {tmps : Array Value} {w : World} {b : Nat} {a0 a1 : Value} (h : Blk w b 24 #[a0, a1]) (t2 : tmps[2]?.getD undef = .pointer (some ⟨b, 0, none⟩)) :
    (results Try.f118 tmps).run Try.prog w = .ok (.agg #[a0, a1]) w := by
  have c0 : w.cell? ⟨b, 0, none⟩ = some a0 := h.cell 0
  have c1 : w.cell? ⟨b, 1, none⟩ = some a1 := h.cell 1
  simp [results, Try.results118, go_sem, t2, c0, c1]
theorem num_any (b : Bool) (m : ByteArray) (w : World) : Calls Try.prog 118 #[.agg #[.bool b, .string m]] w fun e w' => e = .returned (.agg #[.bool b, .string m]) ∧ Below w.heap.size w w' := by
  have hb1 := (Below.refl w.heap.size w).alloc (Nat.le_refl _) (.cells #[.bool b, .string m] 76)
  have hb2 := hb1.alloc hb1.size (.cells #[.bool b, .string m] 24)
  have hB := Blk.new (w.alloc (.cells #[.bool b, .string m] 76)) 24 #[.bool b, .string m]
  rw [alloc_size] at hB
  go_enter Try.func118, Try.ntmps118
  go_wp2_with fail
  refine bodyPost_ret (num_res hB rfl) rfl ?_
  exact ⟨rfl, hb2⟩
theorem rawKind_any (k : Int) (r : ByteArray) (w : World) : Calls Try.prog 125 #[.agg #[.int .u8 k, .string r]] w fun e w' => e = .returned (.int .u8 k) ∧ Below w.heap.size w w' := by
  go_enter Try.func125, Try.ntmps125
  go_wp2_with fail
  go_ret
  exact ⟨rfl, (Below.refl _ _).alloc (Nat.le_refl _) _⟩
theorem mNum (b : Bool) (m : ByteArray) (w : World) : (method 258 76 (.agg #[.bool b, .string m]) "Num").run Try.prog w = .ok (118, .agg #[.bool b, .string m]) w := by kernel_rfl
theorem mKind (k : Int) (r : ByteArray) (w : World) : (method 258 81 (.agg #[.int .u8 k, .string r]) "Kind").run Try.prog w = .ok (125, .agg #[.int .u8 k, .string r]) w := by kernel_rfl

theorem yes_field (y : Bool) (c : Nat) (w : World) : (Instr.field 27 (.agg #[.int .u8 1, .bool y, .bool false, .string ⟨#[]⟩, .string ⟨#[]⟩, .slice none 0 c]) 1).run Try.prog w = .ok (.bool y) w := by kernel_rfl
set_option maxHeartbeats 1000000 in
set_option maxRecDepth 20000 in
theorem writeTruth_any (y : Bool) (P base : Nat) (acc : List UInt8) (w : World) (h : Pr w P base acc) :
    Calls Try.prog 44 #[.pointer (some ⟨P, 0, none⟩), .iface 74 (.agg #[.bool y])] w (WrE P base acc (if y then [121, 101, 115] else [110, 111]) w) := by
  have hm := mPart_81 y
  have hp := truthPart_any y w
  unfold pV at hp
  simp only [Prt.kind, Prt.yes, Prt.neg, Prt.mag, Prt.raw, Prt.items, List.length_nil] at hp
  have hfl := yes_field y
  have hPl := h.P_le
  have hwy := fun w' (h' : Pr w' P base acc) => write_any P base acc ⟨#[121, 101, 115]⟩ (by decide) w' h'
  have hwn := fun w' (h' : Pr w' P base acc) => write_any P base acc ⟨#[110, 111]⟩ (by decide) w' h'
  have HP : Hid _ := h
  clear h
  cases y with
  | true =>
    clear hwn
    go_enter Try.func44, Try.ntmps44
    go_wp2_with fail
    refine hp.mono ?_
    rintro _ w1 ⟨c, rfl, hb1⟩
    have hw := hwy w1 (HP.out.keep hb1)
    have hbP := hb1.mono hPl
    clear hwy hp
    go_wp2_with fail
    refine hw.mono ?_
    rintro e w2 hE
    rcases hE.cases with ⟨_, rfl, hb2, hp2⟩ | ⟨hbad, rfl, hb2⟩
    · go_wp2_with fail
      go_end0
      exact WrE.ok (hbP.trans hb2) hp2
    · exact ⟨rfl, WrE.no (hbP.trans hb2) hbad⟩
  | false =>
    clear hwy
    go_enter Try.func44, Try.ntmps44
    go_wp2_with fail
    refine hp.mono ?_
    rintro _ w1 ⟨c, rfl, hb1⟩
    have hw := hwn w1 (HP.out.keep hb1)
    have hbP := hb1.mono hPl
    clear hwn hp
    go_wp2_with fail
    refine hw.mono ?_
    rintro e w2 hE
    rcases hE.cases with ⟨_, rfl, hb2, hp2⟩ | ⟨hbad, rfl, hb2⟩
    · go_wp2_with fail
      go_end0
      exact WrE.ok (hbP.trans hb2) hp2
    · exact ⟨rfl, WrE.no (hbP.trans hb2) hbad⟩

theorem printL_len {b : Bool} {m : List UInt8} (h : m.length ≤ 255) : (printL b m).length ≤ 1000 := by
  have := decD_bound h
  unfold printL
  split
  · simp
  · split
    · simp; omega
    · simp; omega
set_option maxHeartbeats 1000000 in
theorem writeNumber_any (b : Bool) (m : ByteArray) (hc : chk b m.data.toList = 0) (P base : Nat) (acc : List UInt8) (w : World) (h : Pr w P base acc) :
    Calls Try.prog 41 #[.pointer (some ⟨P, 0, none⟩), .iface 76 (.agg #[.bool b, .string m])] w (WrE P base acc (printL b m.data.toList) w) := by
  have hm := mNum b m
  have hn := num_any b m w
  have hml : m.size ≤ 255 := by rw [Lib.size_eq]; exact (chk_zero hc).1
  have hpr := fun w' => print_any b m (by omega) w'
  simp only [printE, hc, if_pos] at hpr
  have hPl := h.P_le
  have hlen := printL_len (b := b) (m := m.data.toList) (by rw [← Lib.size_eq]; exact hml)
  have hwy := fun w' (h' : Pr w' P base acc) => write_any P base acc (bs (printL b m.data.toList)) (by rw [bs_size]; omega) w' h'
  simp only [bs_data] at hwy
  generalize bs (printL b m.data.toList) = X at *
  have HP : Hid _ := h
  clear h hc
  go_enter Try.func41, Try.ntmps41
  go_wp2_with fail
  refine hn.mono ?_
  rintro _ w1 ⟨rfl, hb1⟩
  have hp1 := hpr w1
  have hpr1 := HP.out.keep hb1
  have HP1 : Hid _ := hpr1
  have hz1 := hb1.size
  clear hpr1 hpr hn
  go_wp2_with fail
  refine hp1.mono ?_
  rintro _ w2 ⟨rfl, hb2⟩
  have hw := hwy w2 (HP1.out.keep hb2)
  have hbP : Below P w w2 := (hb1.mono hPl).trans (hb2.mono (by omega))
  clear hwy hp1
  go_wp2_with fail
  refine hw.mono ?_
  rintro e w3 hE
  rcases hE.cases with ⟨_, rfl, hb3, hp3⟩ | ⟨hbad, rfl, hb3⟩
  · go_wp2_with fail
    go_end0
    exact WrE.ok (hbP.trans hb3) hp3
  · exact ⟨rfl, WrE.no (hbP.trans hb3) hbad⟩

set_option maxHeartbeats 1000000 in
theorem writeHex_any (k : Int) (c : UInt8) (hk : k = 3 ∧ c = 120 ∨ k = 4 ∧ c = 35) (r : ByteArray) (hr : r.size ≤ 65536) (P base : Nat) (acc : List UInt8) (w : World) (h : Pr w P base acc) :
    Calls Try.prog 42 #[.pointer (some ⟨P, 0, none⟩), .iface 81 (.agg #[.int .u8 k, .string r])] w (WrE P base acc (c :: r.data.toList.flatMap hex2) w) := by
  have hm := mKind k r
  have hmb := mBytes k r
  have hn := rawKind_any k r w
  have hPl := h.P_le
  have hw1 := fun w' (h' : Pr w' P base acc) => write_any P base acc (bs [c]) (by rw [bs_size]; simp) w' h'
  simp only [bs_data] at hw1
  have hw2 := fun w' (h' : Pr w' P base (acc ++ [c])) => writeDigits_lit P base (acc ++ [c]) r hr w' h'
  have hby := fun w' => bytes_any k r w'
  have HP : Hid _ := h
  clear h
  rcases hk with ⟨rfl, rfl⟩ | ⟨rfl, rfl⟩
  all_goals
    go_enter Try.func42, Try.ntmps42
    go_wp2_with fail
    refine hn.mono ?_
    rintro _ w1 ⟨rfl, hb1⟩
    have hwa := hw1 w1 (HP.out.keep hb1)
    have hbP := hb1.mono hPl
    clear hw1 hn
    go_wp2_with fail
    refine hwa.mono ?_
    rintro e w2 hE
    rcases hE.cases with ⟨_, rfl, hb2, hp2⟩ | ⟨hbad, rfl, hb2⟩
    · have hby2 := hby w2
      have hPl2 := hp2.P_le
      have HP2 : Hid _ := hp2
      clear hwa hby hp2
      go_wp2_with fail
      refine hby2.mono ?_
      rintro _ w3 ⟨rfl, hb3⟩
      have hwb := hw2 w3 (HP2.out.keep hb3)
      have hbP3 := (hbP.trans hb2).trans (hb3.mono hPl2)
      clear hw2 hby2
      go_wp2_with fail
      refine hwb.mono ?_
      rintro e w4 hE
      rcases hE.cases with ⟨_, rfl, hb4, hp4⟩ | ⟨hbad, rfl, hb4⟩
      · go_wp2_with fail
        go_end0
        exact WrE.ok (hbP3.trans hb4) (by simpa using hp4)
      · refine ⟨rfl, WrE.no (hbP3.trans hb4) ?_⟩
        simp only [List.length_append, List.length_cons, List.length_nil] at hbad ⊢
        omega
    · refine ⟨rfl, WrE.no (hbP.trans hb2) ?_⟩
      simp only [List.length_cons, List.length_nil] at hbad ⊢
      omega
set_option maxHeartbeats 1000000 in
theorem writeQuo_any (k : Int) (q : UInt8) (hk : k = 5 ∧ q = 39 ∨ k = 6 ∧ q = 34) (r : ByteArray) (hr : r.size ≤ 65536) (P base : Nat) (acc : List UInt8) (w : World) (h : Pr w P base acc) :
    Calls Try.prog 42 #[.pointer (some ⟨P, 0, none⟩), .iface 81 (.agg #[.int .u8 k, .string r])] w (WrE P base acc (q :: (r.data.toList.flatMap (spelt q) ++ [q])) w) := by
  have hm := mKind k r
  have hmb := mBytes k r
  have hn := rawKind_any k r w
  have hPl := h.P_le
  have hw2 := fun w' (h' : Pr w' P base acc) => writeQuoted_lit q P base acc r hr w' h'
  have hby := fun w' => bytes_any k r w'
  have HP : Hid _ := h
  clear h
  rcases hk with ⟨rfl, rfl⟩ | ⟨rfl, rfl⟩
  all_goals
    go_enter Try.func42, Try.ntmps42
    go_wp2_with fail
    refine hn.mono ?_
    rintro _ w1 ⟨rfl, hb1⟩
    have hp1 := HP.out.keep hb1
    have hPl1 := hp1.P_le
    have HP1 : Hid _ := hp1
    have hbP := hb1.mono hPl
    have hby1 := hby w1
    clear hn hp1 hby
    go_wp2_with fail
    refine hby1.mono ?_
    rintro _ w3 ⟨rfl, hb3⟩
    have hwb := hw2 w3 (HP1.out.keep hb3)
    have hbP3 := hbP.trans (hb3.mono hPl1)
    clear hw2 hby1
    go_wp2_with fail
    refine hwb.mono ?_
    rintro e w4 hE
    rcases hE.cases with ⟨_, rfl, hb4, hp4⟩ | ⟨hbad, rfl, hb4⟩
    · go_wp2_with fail
      go_end0
      exact WrE.ok (hbP3.trans hb4) hp4
    · exact ⟨rfl, WrE.no (hbP3.trans hb4) hbad⟩
end Go.Proofs.Ytffhbellpcneeaa
