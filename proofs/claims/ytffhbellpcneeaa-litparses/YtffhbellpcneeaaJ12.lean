/- What lit's writeTruth, writeNumber and writeRaw do (contracts; nothing is claimed here). · What lit's writeList and writeValue do (contracts; nothing is claimed here). · What lit.Print does (contracts; nothing is claimed here). -/
import Derived.Test.YtffhbellpcneeaaLWq
import Derived.Test.YtffhbellpcneeaaAsk
namespace Go.Proofs.Ytffhbellpcneeaa
open Go.RowKit Go.Vf
theorem Pr.P_le {w : World} {P base : Nat} {acc : List UInt8} (h : Pr w P base acc) : P ≤ w.heap.size := by have := h.lt; have := h.le; omega
theorem num_res {tmps : Array Value} {w : World} {b : Nat} {a0 a1 : Value} (h : Blk w b 24 #[a0, a1]) (t2 : tmps[2]?.getD undef = .pointer (some ⟨b, 0, none⟩)) :
    (results Try.f118 tmps).run Try.prog w = .ok (.agg #[a0, a1]) w := by
  have c0 : w.cell? ⟨b, 0, none⟩ = some a0 := h.cell 0
  have c1 : w.cell? ⟨b, 1, none⟩ = some a1 := h.cell 1
  simp [results, Try.results118, go_sem, t2, c0, c1]
theorem num_any (b : Bool) (m : ByteArray) (w : World) : Calls Try.prog 118 #[.agg #[.bool b, .string m]] w fun e w' => e = .returned (.agg #[.bool b, .string m]) ∧ Below w.heap.size w w' := by
  have hb1 := (Below.refl w.heap.size w).alloc (Nat.le_refl _) (.cells #[.bool b, .string m] 76)
  have hb2 := hb1.alloc hb1.size (.cells #[.bool b, .string m] 24)
  have hB := Blk.new (w.alloc (.cells #[.bool b, .string m] 76)) 24 #[.bool b, .string m]
  rw [alloc_size] at hB
  go_enter Try.func118, Try.ntmps118
  go_wp2_with fail
  refine bodyPost_ret (num_res hB rfl) rfl ?_
  exact ⟨rfl, hb2⟩
theorem rawKind_any (k : Int) (r : ByteArray) (w : World) : Calls Try.prog 125 #[.agg #[.int .u8 k, .string r]] w fun e w' => e = .returned (.int .u8 k) ∧ Below w.heap.size w w' := by
  go_enter Try.func125, Try.ntmps125
  go_wp2_with fail
  go_ret
  exact ⟨rfl, (Below.refl _ _).alloc (Nat.le_refl _) _⟩
theorem mNum (b : Bool) (m : ByteArray) (w : World) : (method 258 76 (.agg #[.bool b, .string m]) "Num").run Try.prog w = .ok (118, .agg #[.bool b, .string m]) w := by kernel_rfl
theorem mKind (k : Int) (r : ByteArray) (w : World) : (method 258 81 (.agg #[.int .u8 k, .string r]) "Kind").run Try.prog w = .ok (125, .agg #[.int .u8 k, .string r]) w := by kernel_rfl

theorem yes_field (y : Bool) (c : Nat) (w : World) : (Instr.field 27 (.agg #[.int .u8 1, .bool y, .bool false, .string ⟨#[]⟩, .string ⟨#[]⟩, .slice none 0 c]) 1).run Try.prog w = .ok (.bool y) w := by kernel_rfl
set_option maxHeartbeats 1000000 in
set_option maxRecDepth 20000 in
theorem writeTruth_any (y : Bool) (P base : Nat) (acc : List UInt8) (w : World) (h : Pr w P base acc) :
    Calls Try.prog 44 #[.pointer (some ⟨P, 0, none⟩), .iface 74 (.agg #[.bool y])] w (WrE P base acc (if y then [121, 101, 115] else [110, 111]) w) := by
  have hm := mPart_81 y
  have hp := truthPart_any y w
  unfold pV at hp
  simp only [Prt.kind, Prt.yes, Prt.neg, Prt.mag, Prt.raw, Prt.items, List.length_nil] at hp
  have hfl := yes_field y
  have hPl := h.P_le
  have hwy := fun w' (h' : Pr w' P base acc) => write_any P base acc ⟨#[121, 101, 115]⟩ (by decide) w' h'
  have hwn := fun w' (h' : Pr w' P base acc) => write_any P base acc ⟨#[110, 111]⟩ (by decide) w' h'
  have HP : Hid _ := h
  clear h
  cases y with
  | true =>
    clear hwn
    go_enter Try.func44, Try.ntmps44
    go_wp2_with fail
    refine hp.mono ?_
    rintro _ w1 ⟨c, rfl, hb1⟩
    have hw := hwy w1 (HP.out.keep hb1)
    have hbP := hb1.mono hPl
    clear hwy hp
    go_wp2_with fail
    refine hw.mono ?_
    rintro e w2 hE
    rcases hE.cases with ⟨_, rfl, hb2, hp2⟩ | ⟨hbad, rfl, hb2⟩
    · go_wp2_with fail
      go_end0
      exact WrE.ok (hbP.trans hb2) hp2
    · exact ⟨rfl, WrE.no (hbP.trans hb2) hbad⟩
  | false =>
    clear hwy
    go_enter Try.func44, Try.ntmps44
    go_wp2_with fail
    refine hp.mono ?_
    rintro _ w1 ⟨c, rfl, hb1⟩
    have hw := hwn w1 (HP.out.keep hb1)
    have hbP := hb1.mono hPl
    clear hwn hp
    go_wp2_with fail
    refine hw.mono ?_
    rintro e w2 hE
    rcases hE.cases with ⟨_, rfl, hb2, hp2⟩ | ⟨hbad, rfl, hb2⟩
    · go_wp2_with fail
      go_end0
      exact WrE.ok (hbP.trans hb2) hp2
    · exact ⟨rfl, WrE.no (hbP.trans hb2) hbad⟩

theorem printL_len {b : Bool} {m : List UInt8} (h : m.length ≤ 255) : (printL b m).length ≤ 1000 := by
  have := decD_bound h
  unfold printL
  split
  · simp
  · split
    · simp; omega
    · simp; omega
set_option maxHeartbeats 1000000 in
theorem writeNumber_any (b : Bool) (m : ByteArray) (hc : chk b m.data.toList = 0) (P base : Nat) (acc : List UInt8) (w : World) (h : Pr w P base acc) :
    Calls Try.prog 41 #[.pointer (some ⟨P, 0, none⟩), .iface 76 (.agg #[.bool b, .string m])] w (WrE P base acc (printL b m.data.toList) w) := by
  have hm := mNum b m
  have hn := num_any b m w
  have hml : m.size ≤ 255 := by rw [Lib.size_eq]; exact (chk_zero hc).1
  have hpr := fun w' => print_any b m (by omega) w'
  simp only [printE, hc, if_pos] at hpr
  have hPl := h.P_le
  have hlen := printL_len (b := b) (m := m.data.toList) (by rw [← Lib.size_eq]; exact hml)
  have hwy := fun w' (h' : Pr w' P base acc) => write_any P base acc (bs (printL b m.data.toList)) (by rw [bs_size]; omega) w' h'
  simp only [bs_data] at hwy
  generalize bs (printL b m.data.toList) = X at *
  have HP : Hid _ := h
  clear h hc
  go_enter Try.func41, Try.ntmps41
  go_wp2_with fail
  refine hn.mono ?_
  rintro _ w1 ⟨rfl, hb1⟩
  have hp1 := hpr w1
  have hpr1 := HP.out.keep hb1
  have HP1 : Hid _ := hpr1
  have hz1 := hb1.size
  clear hpr1 hpr hn
  go_wp2_with fail
  refine hp1.mono ?_
  rintro _ w2 ⟨rfl, hb2⟩
  have hw := hwy w2 (HP1.out.keep hb2)
  have hbP : Below P w w2 := (hb1.mono hPl).trans (hb2.mono (by omega))
  clear hwy hp1
  go_wp2_with fail
  refine hw.mono ?_
  rintro e w3 hE
  rcases hE.cases with ⟨_, rfl, hb3, hp3⟩ | ⟨hbad, rfl, hb3⟩
  · go_wp2_with fail
    go_end0
    exact WrE.ok (hbP.trans hb3) hp3
  · exact ⟨rfl, WrE.no (hbP.trans hb3) hbad⟩

set_option maxHeartbeats 1000000 in
theorem writeHex_any (k : Int) (c : UInt8) (hk : k = 3 ∧ c = 120 ∨ k = 4 ∧ c = 35) (r : ByteArray) (hr : r.size ≤ 65536) (P base : Nat) (acc : List UInt8) (w : World) (h : Pr w P base acc) :
    Calls Try.prog 42 #[.pointer (some ⟨P, 0, none⟩), .iface 81 (.agg #[.int .u8 k, .string r])] w (WrE P base acc (c :: r.data.toList.flatMap hex2) w) := by
  have hm := mKind k r
  have hmb := mBytes k r
  have hn := rawKind_any k r w
  have hPl := h.P_le
  have hw1 := fun w' (h' : Pr w' P base acc) => write_any P base acc (bs [c]) (by rw [bs_size]; simp) w' h'
  simp only [bs_data] at hw1
  have hw2 := fun w' (h' : Pr w' P base (acc ++ [c])) => writeDigits_lit P base (acc ++ [c]) r hr w' h'
  have hby := fun w' => bytes_any k r w'
  have HP : Hid _ := h
  clear h
  rcases hk with ⟨rfl, rfl⟩ | ⟨rfl, rfl⟩
  all_goals
    go_enter Try.func42, Try.ntmps42
    go_wp2_with fail
    refine hn.mono ?_
    rintro _ w1 ⟨rfl, hb1⟩
    have hwa := hw1 w1 (HP.out.keep hb1)
    have hbP := hb1.mono hPl
    clear hw1 hn
    go_wp2_with fail
    refine hwa.mono ?_
    rintro e w2 hE
    rcases hE.cases with ⟨_, rfl, hb2, hp2⟩ | ⟨hbad, rfl, hb2⟩
    · have hby2 := hby w2
      have hPl2 := hp2.P_le
      have HP2 : Hid _ := hp2
      clear hwa hby hp2
      go_wp2_with fail
      refine hby2.mono ?_
      rintro _ w3 ⟨rfl, hb3⟩
      have hwb := hw2 w3 (HP2.out.keep hb3)
      have hbP3 := (hbP.trans hb2).trans (hb3.mono hPl2)
      clear hw2 hby2
      go_wp2_with fail
      refine hwb.mono ?_
      rintro e w4 hE
      rcases hE.cases with ⟨_, rfl, hb4, hp4⟩ | ⟨hbad, rfl, hb4⟩
      · go_wp2_with fail
        go_end0
        exact WrE.ok (hbP3.trans hb4) (by simpa using hp4)
      · refine ⟨rfl, WrE.no (hbP3.trans hb4) ?_⟩
        simp only [List.length_append, List.length_cons, List.length_nil] at hbad ⊢
        omega
    · refine ⟨rfl, WrE.no (hbP.trans hb2) ?_⟩
      simp only [List.length_cons, List.length_nil] at hbad ⊢
      omega
set_option maxHeartbeats 1000000 in
theorem writeQuo_any (k : Int) (q : UInt8) (hk : k = 5 ∧ q = 39 ∨ k = 6 ∧ q = 34) (r : ByteArray) (hr : r.size ≤ 65536) (P base : Nat) (acc : List UInt8) (w : World) (h : Pr w P base acc) :
    Calls Try.prog 42 #[.pointer (some ⟨P, 0, none⟩), .iface 81 (.agg #[.int .u8 k, .string r])] w (WrE P base acc (q :: (r.data.toList.flatMap (spelt q) ++ [q])) w) := by
  have hm := mKind k r
  have hmb := mBytes k r
  have hn := rawKind_any k r w
  have hPl := h.P_le
  have hw2 := fun w' (h' : Pr w' P base acc) => writeQuoted_lit q P base acc r hr w' h'
  have hby := fun w' => bytes_any k r w'
  have HP : Hid _ := h
  clear h
  rcases hk with ⟨rfl, rfl⟩ | ⟨rfl, rfl⟩
  all_goals
    go_enter Try.func42, Try.ntmps42
    go_wp2_with fail
    refine hn.mono ?_
    rintro _ w1 ⟨rfl, hb1⟩
    have hp1 := HP.out.keep hb1
    have hPl1 := hp1.P_le
    have HP1 : Hid _ := hp1
    have hbP := hb1.mono hPl
    have hby1 := hby w1
    clear hn hp1 hby
    go_wp2_with fail
    refine hby1.mono ?_
    rintro _ w3 ⟨rfl, hb3⟩
    have hwb := hw2 w3 (HP1.out.keep hb3)
    have hbP3 := hbP.trans (hb3.mono hPl1)
    clear hw2 hby1
    go_wp2_with fail
    refine hwb.mono ?_
    rintro e w4 hE
    rcases hE.cases with ⟨_, rfl, hb4, hp4⟩ | ⟨hbad, rfl, hb4⟩
    · go_wp2_with fail
      go_end0
      exact WrE.ok (hbP3.trans hb4) hp4
    · exact ⟨rfl, WrE.no (hbP3.trans hb4) hbad⟩
end Go.Proofs.Ytffhbellpcneeaa

namespace Go.Proofs.Ytffhbellpcneeaa
open Go.RowKit Go.Vf
theorem txtB_append (a b : List Prt) : txtB (a ++ b) = txtB a ++ txtB b := by
  induction a with
  | nil => simp [txtB]
  | cons x r ih => rw [List.cons_append, txtB, txtB, ih]; simp
theorem txtB_le (l : List Prt) (j : Nat) : (txtB (l.take j)).length ≤ (txtB l).length := by
  have := congrArg (fun l => (txtB l).length) (List.take_append_drop j l)
  simp only [txtB_append, List.length_append] at this
  omega
theorem txtB_first (l : List Prt) (h : 0 < l.length) : (txtB (l.take 1)).drop 1 = txt l[0] := by
  have := txtB_take l 0 h
  rw [this]; simp [txtB]
theorem txtB_next (l : List Prt) (j : Nat) (hj : 0 < j) (h : j < l.length) : (txtB (l.take (j + 1))).drop 1 = (txtB (l.take j)).drop 1 ++ 32 :: txt l[j] := by
  rw [txtB_take l j h]
  have h1 : 0 < (txtB (l.take j)).length := by have := txtB_len (l.take j); rw [List.length_take] at this; omega
  rw [List.drop_append_of_le_length (by omega)]
/-- What writeValue does with a value. -/
def WvOk (p : Prt) : Prop := ∀ (v : Value) (lo n₀ P base : Nat) (acc : List UInt8) (w : World), VIn w lo n₀ v p → n₀ ≤ P → Pr w P base acc → Calls Try.prog 27 #[.pointer (some ⟨P, 0, none⟩), v] w (WrE P base acc (txt p) w)

set_option maxHeartbeats 2000000 in
set_option maxRecDepth 20000 in
theorem writeList_step (l : List Prt) (hln : l.length ≤ 1024) (ih : ∀ x ∈ l, WvOk x) (g lo n₀ P base : Nat) (acc : List UInt8) (w : World) (hv : VIn w lo n₀ (.iface 78 (.pointer (some ⟨g, 0, none⟩))) (tupP l)) (hn : n₀ ≤ P) (h : Pr w P base acc) :
    Calls Try.prog 43 #[.pointer (some ⟨P, 0, none⟩), .iface 78 (.pointer (some ⟨g, 0, none⟩))] w (WrE P base acc (40 :: ((txtB l).drop 1 ++ [41])) w) := by
  have hPl := h.P_le
  have m1 := mLen ⟨g, 0, none⟩
  have m2 := mAt ⟨g, 0, none⟩
  have hw1 : ∀ w', Pr w' P base acc → Calls Try.prog 40 #[.pointer (some ⟨P, 0, none⟩), .string ⟨#[40]⟩] w' (WrE P base acc [40] w') := fun w' h' => write_any P base acc ⟨#[40]⟩ (by decide) w' h'
  have hwb : ∀ acc' w', Pr w' P base acc' → Calls Try.prog 40 #[.pointer (some ⟨P, 0, none⟩), .string ⟨#[32]⟩] w' (WrE P base acc' [32] w') := fun acc' w' h' => write_any P base acc' ⟨#[32]⟩ (by decide) w' h'
  have hwe : ∀ acc' w', Pr w' P base acc' → Calls Try.prog 40 #[.pointer (some ⟨P, 0, none⟩), .string ⟨#[41]⟩] w' (WrE P base acc' [41] w') := fun acc' w' h' => write_any P base acc' ⟨#[41]⟩ (by decide) w' h'
  have hwa := hw1 w h
  have HV : Hid _ := hv
  obtain ⟨ln, hl⟩ : ∃ ln, l.length = ln := ⟨_, rfl⟩
  have HLN : Hid (l.length = ln) := hl
  rw [hl] at hln
  have HIN : Hid (∃ a c, ∀ w', Below P w w' → w'.cell? ⟨g, 0, none⟩ = some (.slice a ln c) ∧ ∀ j (hj : j < l.length), ∃ h off V, a = some ⟨h, off, none⟩ ∧ w'.cell? ⟨h, off + j, none⟩ = some V ∧ VIn w' lo n₀ V l[j]) := by
    cases hv with
    | @tup _ _ c a V q1 q2 q3 q4 q5 =>
      refine ⟨a, c, fun w' hb => ⟨?_, fun j hj => ?_⟩⟩
      · have := (q3.below hb (by omega)).cell 0
        rw [← hl]; exact this
      · obtain ⟨h, off, e, r1, r2, r3⟩ := q4 j hj
        exact ⟨h, off, V j, e, (cell_block (hb.block h (by omega)) _).trans r3, (q5 j hj).old hb hn⟩
  obtain ⟨a, c, hin⟩ := HIN.out
  clear h hv hl hw1 HIN
  go_enter Try.func43, Try.ntmps43
  go_wp2_with fail
  refine hwa.mono ?_
  rintro e w2 hE
  rcases hE.cases with ⟨_, rfl, hb2, hp2⟩ | ⟨hbad, rfl, hb2⟩
  · have n1 := (len_any g a ln c w2 (hin w2 hb2).1 (by omega)).mono (R' := fun e w' => e = .returned (.int .i64 ln) ∧ w2 = w') fun _ _ h => ⟨h.1, h.2.symm⟩
    clear hwa hE
    go_wp2_with fail
    refine n1.mono ?_
    rintro _ _ ⟨rfl, rfl⟩
    clear n1
    go_wp2_with fail
    go_loopw [9] (fun i wr => ∃ j : Nat, j ≤ ln ∧ i = .int .i64 (j : Int) ∧ Pr wr P base (acc ++ [40] ++ (txtB (l.take j)).drop 1) ∧ Below P w wr) (fun i _ => ln - (intOf i).toNat)
    case atStart => exact ⟨0, Nat.zero_le _, rfl, by simpa [txtB] using hp2, hb2⟩
    case round =>
      clear hp2 hb2
      obtain ⟨j, hj, rfl, hpr, hb⟩ := hrel
      by_cases hlt : j < ln
      · have hlt2 : j < l.length := by rw [HLN.out]; exact hlt
        have hmono := txtB_le l (j + 1)
        have hwv := ih l[j] (List.getElem_mem hlt2)
        by_cases h0 : j = 0
        · subst h0
          obtain ⟨hc0, hit⟩ := hin wr hb
          obtain ⟨h', off, V, ha, q0, hvj⟩ := hit 0 hlt2
          subst ha
          have n2 := (at_in g h' off ln c 0 V wr hlt (by omega) hc0 q0).mono (R' := fun e w' => e = .returned V ∧ wr = w') fun _ _ h => ⟨h.1, h.2.symm⟩
          have hf := txtB_first l hlt2
          have hpr0 : Pr wr P base (acc ++ [40]) := by simpa [txtB] using hpr
          have hwv0 := hwv V lo n₀ P base (acc ++ [40]) wr hvj hn hpr0
          have HF : Hid _ := hf
          have hfl2 : (txt l[0]).length + 1 ≤ (txtB l).length := by
            have h1 := txtB_take l 0 hlt2
            rw [h1] at hmono
            simp [txtB] at hmono
            omega
          clear hwv hf hit hwb hwe hpr hpr0 hvj
          go_wp2_with fail
          refine n2.mono ?_
          rintro _ _ ⟨rfl, rfl⟩
          go_wp2_with fail
          refine hwv0.mono ?_
          rintro e w4 hE
          rcases hE.cases with ⟨_, rfl, hb4, hp4⟩ | ⟨hbad, rfl, hb4⟩
          · go_wp2_with fail
            go_roundw
            case rel => exact ⟨1, by omega, rfl, by rw [HF.out]; exact hp4, hb.trans hb4⟩
            case measure => simp only [intOf]; omega
          · refine ⟨rfl, WrE.no (hb.trans hb4) ?_⟩
            simp only [List.length_append, List.length_cons, List.length_nil, List.length_drop] at hbad ⊢
            omega
        · have hjp : 0 < j := by omega
          have t0 : decide ((0 : Int) < (j : Int)) = true := decide_eq_true (by omega)
          have hf := txtB_next l j hjp hlt2
          have hfl : ((txtB (l.take j)).drop 1).length + 1 + (txt l[j]).length + 1 ≤ (txtB l).length := by
            have h1 := congrArg List.length hf
            rw [List.length_drop, List.length_append, List.length_cons] at h1
            omega
          have hwb1 := hwb _ wr hpr
          have HF : Hid _ := hf
          obtain ⟨A, hA⟩ : ∃ A, (txtB (l.take j)).drop 1 = A := ⟨_, rfl⟩
          rw [hA] at hfl hwb1 hpr
          have HA : Hid _ := hA
          clear hf hwb hwe hpr hA h0
          go_wp2_with fail
          refine hwb1.mono ?_
          rintro e w3 hE
          rcases hE.cases with ⟨_, rfl, hb3, hp3⟩ | ⟨hbad, rfl, hb3⟩
          · obtain ⟨hc0, hit⟩ := hin w3 (hb.trans hb3)
            obtain ⟨h', off, V, ha, q0, hvj⟩ := hit j hlt2
            subst ha
            have n2 := (at_in g h' off ln c j V w3 hlt (by omega) hc0 q0).mono (R' := fun e w' => e = .returned V ∧ w3 = w') fun _ _ h => ⟨h.1, h.2.symm⟩
            have hwv0 := hwv V lo n₀ P base _ w3 hvj hn hp3
            clear hwv hit hp3 hvj hE hwb1
            go_wp2_with fail
            refine n2.mono ?_
            rintro _ _ ⟨rfl, rfl⟩
            go_wp2_with fail
            refine hwv0.mono ?_
            rintro e w4 hE
            rcases hE.cases with ⟨_, rfl, hb4, hp4⟩ | ⟨hbad, rfl, hb4⟩
            · go_wp2_with fail
              go_roundw
              case rel => exact ⟨j + 1, by omega, by simp, by rw [HF.out, HA.out]; simpa using hp4, (hb.trans hb3).trans hb4⟩
              case measure => simp only [intOf]; omega
            · refine ⟨rfl, WrE.no ((hb.trans hb3).trans hb4) ?_⟩
              simp only [List.length_append, List.length_cons, List.length_nil, List.length_drop] at hbad hfl ⊢
              omega
          · refine ⟨rfl, WrE.no (hb.trans hb3) ?_⟩
            simp only [List.length_append, List.length_cons, List.length_nil, List.length_drop] at hbad hfl ⊢
            omega
      · rw [List.take_of_length_le (by rw [HLN.out]; omega)] at hpr
        have hwe1 := hwe _ wr hpr
        clear hpr hwb hwe hin
        go_wp2_with fail
        refine hwe1.mono ?_
        rintro e w3 hE
        rcases hE.cases with ⟨_, rfl, hb3, hp3⟩ | ⟨hbad, rfl, hb3⟩
        · go_wp2_with fail
          go_end0
          exact WrE.ok (hb.trans hb3) (by simpa using hp3)
        · refine ⟨rfl, WrE.no (hb.trans hb3) ?_⟩
          simp only [List.length_append, List.length_cons, List.length_nil, List.drop_one, List.length_tail] at hbad ⊢
          omega
  · refine ⟨rfl, WrE.no hb2 ?_⟩
    simp only [List.length_append, List.length_cons, List.length_nil] at hbad ⊢
    omega

theorem nil_eq (w : World) : (binOp .eql 33 .nilIface .nilIface).run Try.prog w = .ok (.bool true) w := by kernel_rfl
set_option maxHeartbeats 2000000 in
set_option maxRecDepth 20000 in
theorem writeValue_any : ∀ (p : Prt), may p = true → WvOk p := by
  intro p
  induction p using Prt.ind with
  | h k y b m r l ih =>
    intro hmay v lo n₀ P base acc w hv hn h
    generalize hp : Prt.mk k y b m r l = p at hmay hv ⊢
    cases hv with
    | null =>
      have hw : Calls Try.prog 40 #[.pointer (some ⟨P, 0, none⟩), .string ⟨#[110, 117, 108, 108]⟩] w (WrE P base acc (txt (.mk 0 false false ⟨#[]⟩ ⟨#[]⟩ [])) w) := write_any P base acc ⟨#[110, 117, 108, 108]⟩ (by decide) w h
      clear ih hp hmay h
      generalize txt (.mk 0 false false ⟨#[]⟩ ⟨#[]⟩ []) = T at *
      go_enter Try.func27, Try.ntmps27
      go_wp2_with fail
      refine hw.mono ?_
      rintro e w2 hE
      rcases hE.cases with ⟨_, rfl, hb2, hp2⟩ | ⟨hbad, rfl, hb2⟩
      · go_wp2_with fail
        go_end0
        exact WrE.ok hb2 hp2
      · exact ⟨rfl, WrE.no hb2 hbad⟩
    | truth y =>
      have hw := writeTruth_any y P base acc w h
      rw [show (if y then [121, 101, 115] else [110, 111] : List UInt8) = txt (.mk 1 y false ⟨#[]⟩ ⟨#[]⟩ []) by cases y <;> rfl] at hw
      have z1 := ta67_81 y
      have z2 := ta58_81 y
      have z3 := ta44_81 y
      clear ih hp hmay h
      generalize txt (.mk 1 y false ⟨#[]⟩ ⟨#[]⟩ []) = T at *
      go_enter Try.func27, Try.ntmps27
      go_wp2_with fail
      refine hw.mono ?_
      rintro e w2 hE
      rcases hE.cases with ⟨_, rfl, hb2, hp2⟩ | ⟨hbad, rfl, hb2⟩
      · go_wp2_with fail
        go_end0
        exact WrE.ok hb2 hp2
      · exact ⟨rfl, WrE.no hb2 hbad⟩
    | num b m =>
      have hnok : numOk b m = true := by
        rw [may_eq] at hmay
        simp [own2, Prt.kind, Prt.neg, Prt.mag] at hmay
        exact hmay.1.2
      have hw := writeNumber_any b m (numOk_chk hnok) P base acc w h
      rw [show printL b m.data.toList = txt (.mk 2 false b m ⟨#[]⟩ []) by simp [txt]] at hw
      have z1 := ta67_83 b m
      clear ih hp hmay h hnok
      generalize txt (.mk 2 false b m ⟨#[]⟩ []) = T at *
      go_enter Try.func27, Try.ntmps27
      go_wp2_with fail
      refine hw.mono ?_
      rintro e w2 hE
      rcases hE.cases with ⟨_, rfl, hb2, hp2⟩ | ⟨hbad, rfl, hb2⟩
      · go_wp2_with fail
        go_end0
        exact WrE.ok hb2 hp2
      · exact ⟨rfl, WrE.no hb2 hbad⟩
    | raw k r hk =>
      have h0 : k ≠ 0 := by rintro rfl; simp [isRawK] at hk
      have h1 : k ≠ 1 := by rintro rfl; simp [isRawK] at hk
      have h2 : k ≠ 2 := by rintro rfl; simp [isRawK] at hk
      have h7 : k ≠ 7 := by rintro rfl; simp [isRawK] at hk
      have ht : txt (.mk k false false ⟨#[]⟩ r []) = rawTxt k r.data.toList := by simp [txt, h0, h1, h2, h7]
      have hrl : r.size ≤ 65536 := by
        rw [may_eq] at hmay
        simp only [own2, Prt.kind, Prt.neg, Prt.mag, Prt.raw, Prt.items, Bool.and_eq_true, Bool.or_eq_true, beq_iff_eq] at hmay
        rcases hmay.1.2 with ((((q | q) | q) | q) | q) | q
        · exact absurd q h0
        · exact absurd q h1
        · exact absurd q.1 h2
        · exact of_decide_eq_true q.2
        · omega
        · exact absurd q.1 h7
      have hw : Calls Try.prog 42 #[.pointer (some ⟨P, 0, none⟩), .iface 81 (.agg #[.int .u8 k, .string r])] w (WrE P base acc (txt (.mk k false false ⟨#[]⟩ r [])) w) := by
        rw [ht]
        have hk' : k = 3 ∨ k = 4 ∨ k = 5 ∨ k = 6 := by simpa [isRawK, or_assoc] using hk
        rcases hk' with rfl | rfl | rfl | rfl
        · exact writeHex_any 3 120 (.inl ⟨rfl, rfl⟩) r hrl P base acc w h
        · exact writeHex_any 4 35 (.inr ⟨rfl, rfl⟩) r hrl P base acc w h
        · exact writeQuo_any 5 39 (.inl ⟨rfl, rfl⟩) r hrl P base acc w h
        · exact writeQuo_any 6 34 (.inr ⟨rfl, rfl⟩) r hrl P base acc w h
      have z1 := ta67_85 k r
      have z2 := ta58_85 k r
      clear ih hp hmay h ht h0 h1 h2 h7 hk
      generalize txt (.mk k false false ⟨#[]⟩ r []) = T at *
      go_enter Try.func27, Try.ntmps27
      go_wp2_with fail
      refine hw.mono ?_
      rintro e w2 hE
      rcases hE.cases with ⟨_, rfl, hb2, hp2⟩ | ⟨hbad, rfl, hb2⟩
      · go_wp2_with fail
        go_end0
        exact WrE.ok hb2 hp2
      · exact ⟨rfl, WrE.no hb2 hbad⟩
    | @tup l' g c a V q1 q2 q3 q4 q5 =>
      injection hp with e1 e2 e3 e4 e5 e6
      subst e6
      obtain ⟨hlen, hall⟩ : l.length ≤ 1024 ∧ l.all may = true := by
        have := may_shape hmay
        cases this with
        | raw k r hk => simp [isRawK] at hk
        | tup _ h1 h2 => exact ⟨h1, h2⟩
      have hw := writeList_step l hlen (fun x hx => ih x hx (List.all_eq_true.1 hall x hx)) g lo n₀ P base acc w (.tup V q1 q2 q3 q4 q5) hn h
      rw [← txt_tup, tupP] at hw
      have z1 := ta67_74 ⟨g, 0, none⟩
      have z2 := ta58_74 ⟨g, 0, none⟩
      have z3 := ta44_74 ⟨g, 0, none⟩
      clear ih hmay h q3 q4 q5 hall hlen
      generalize txt (.mk 7 false false ⟨#[]⟩ ⟨#[]⟩ l) = T at *
      go_enter Try.func27, Try.ntmps27
      go_wp2_with fail
      refine hw.mono ?_
      rintro e w2 hE
      rcases hE.cases with ⟨_, rfl, hb2, hp2⟩ | ⟨hbad, rfl, hb2⟩
      · go_wp2_with fail
        go_end0
        exact WrE.ok hb2 hp2
      · exact ⟨rfl, WrE.no hb2 hbad⟩
end Go.Proofs.Ytffhbellpcneeaa

namespace Go.Proofs.Ytffhbellpcneeaa
open Go.RowKit Go.Vf
theorem lw_idle (p q : Addr) (w : World) :
    CallsD Try.prog 26 #[.pointer (some p), .pointer (some q)] .returning w fun e u' w' => e = .returned (.tuple #[]) ∧ u' = .returning ∧ w' = w := by
  refine callsD_of_wpS Try.func26 rfl fun c₀ cs hu => ?_
  apply wpS_seq
  apply wpS_region
  simp [wpOpsS, go_sem, recoverD, hu, Try.ntmps26, Exit.thenS]
  apply wpS_seq
  apply wpS_region
  simp [wpOpsS, go_sem, Exit.thenS]
  refine wpS_cond (t := false) (by simp [Act.eval, Array.replicate]) ?_
  simp only [Bool.false_eq_true, if_false]
  refine wpS_of_wp (wp_skip ?_)
  cases c₀
  simp_all [bodyPostS, results, Try.results26]
/-- The two variables of Print's results. -/
structure Duo (w : World) (h : Nat) (s : ByteArray) (e : Int) : Prop where
  c0 : Blk w h 9 #[.string s]
  c1 : Blk w (h + 1) 30 #[.int .i64 e]
theorem Duo.below {w w' : World} {B h : Nat} {s : ByteArray} {e : Int} (h3 : Duo w h s e) (hb : Below B w w') (hB : h + 1 < B) : Duo w' h s e := ⟨h3.c0.below hb (by omega), h3.c1.below hb hB⟩
theorem Duo.set {w : World} {h : Nat} {s : ByteArray} {e : Int} (h3 : Duo w h s e) (s' : ByteArray) (e' : Int) : Duo ((w.setCell ⟨h, 0, none⟩ (.string s')).setCell ⟨h + 1, 0, none⟩ (.int .i64 e')) h s' e' :=
  ⟨(h3.c0.set 0 _).other (p := ⟨h + 1, 0, none⟩) (by show h ≠ h + 1; omega) _, (h3.c1.other (p := ⟨h, 0, none⟩) (by show h + 1 ≠ h; omega) _).set 0 _⟩
theorem duo_below (w : World) (h : Nat) (a b : Value) : Below h w ((w.setCell ⟨h, 0, none⟩ a).setCell ⟨h + 1, 0, none⟩ b) :=
  ((Below.refl h w).setCell (p := ⟨h, 0, none⟩) (Nat.le_refl _) _).setCell (p := ⟨h + 1, 0, none⟩) (Nat.le_succ _) _
set_option maxHeartbeats 1000000 in
theorem lw_catch (h : Nat) (why at_ : Int) (s : ByteArray) (e0 : Int) (w : World) (h3 : Duo w h s e0) :
    CallsD Try.prog 26 #[.pointer (some ⟨h, 0, none⟩), .pointer (some ⟨h + 1, 0, none⟩)] (.panicking [{ v := .iface 60 (.agg #[.int .i64 why, .int .i64 at_]), recovered := false }]) w fun e u' w' =>
      e = .returned (.tuple #[]) ∧ u' = .panicking [{ v := .iface 60 (.agg #[.int .i64 why, .int .i64 at_]), recovered := true }] ∧ Duo w' h ⟨#[]⟩ why ∧ Below h w w' := by
  have hta : ∀ w : World, (Instr.typeAssert (.iface 60 (.agg #[.int .i64 why, .int .i64 at_])) 20 60 false).run Try.prog w = .ok (.agg #[.int .i64 why, .int .i64 at_]) w := fun w => by kernel_rfl
  refine callsD_of_wpS Try.func26 rfl fun c₀ cs hu => ?_
  apply wpS_seq
  apply wpS_region
  simp [wpOpsS, go_sem, recoverD, hu, Try.ntmps26, Exit.thenS, Array.replicate]
  apply wpS_seq
  apply wpS_region
  simp [wpOpsS, go_sem, Exit.thenS]
  refine wpS_cond (t := true) (by simp [Act.eval]) ?_
  simp only [if_true]
  refine wpS_of_wp ?_
  have hfl : ∀ w : World, (Instr.field 60 (.agg #[.int .i64 why, .int .i64 at_]) 0).run Try.prog w = .ok (.int .i64 why) w := fun w => by kernel_rfl
  have h4 := h3.set ⟨#[]⟩ why
  have hb4 := duo_below w h (.string ⟨#[]⟩) (.int .i64 why)
  have c0 : w.cell? ⟨h, 0, none⟩ = some (.string s) := h3.c0.cell 0
  have c1 : w.cell? ⟨h + 1, 0, none⟩ = some (.int .i64 e0) := h3.c1.cell 0
  have f0 := h3.c0.frozen 0
  have f1 := h3.c1.frozen 0
  have h5 : Duo ((w.setCell ⟨h, 0, none⟩ (.string ⟨#[]⟩)).setCell ⟨h + 1, 0, none⟩ (.int .i64 why)).drew h ⟨#[]⟩ why := ⟨h4.c0, h4.c1⟩
  go_region
  exact ⟨rfl, _, rfl, _, by simp [results, Try.results26], rfl, rfl, h5, hb4.drew⟩
theorem lw_results {tmps : Array Value} {w : World} {h : Nat} {s : ByteArray} {e : Int} (h3 : Duo w h s e) (t2 : tmps[2]?.getD undef = .pointer (some ⟨h, 0, none⟩)) (t3 : tmps[3]?.getD undef = .pointer (some ⟨h + 1, 0, none⟩)) :
    (results Try.f11 tmps).run Try.prog w = .ok (.tuple #[.string s, .int .i64 e]) w := by
  have c0 : w.cell? ⟨h, 0, none⟩ = some (.string s) := h3.c0.cell 0
  have c1 : w.cell? ⟨h + 1, 0, none⟩ = some (.int .i64 e) := h3.c1.cell 0
  simp [results, Try.results11, go_sem, t2, t3, c0, c1]
theorem duo_new (w : World) (s : ByteArray) (e : Int) : Duo ((w.alloc (.cells #[.string s] 9)).alloc (.cells #[.int .i64 e] 30)) w.heap.size s e := by
  have s1 := alloc_size w (.cells #[.string s] 9)
  have b1 := Blk.new w 9 #[.string s]
  have b2 := Blk.new (w.alloc (.cells #[.string s] 9)) 30 #[.int .i64 e]
  rw [s1] at b2
  exact ⟨b1.old ((Below.refl _ _).alloc (Nat.le_refl _) _), b2⟩
/-- What Print answers of a value. -/
def prnV (p : Prt) : Value := if (txt p).length ≤ 65536 then .tuple #[.string (bs (txt p)), .int .i64 0] else .tuple #[.string ⟨#[]⟩, .int .i64 2]
set_option maxHeartbeats 2000000 in
set_option maxRecDepth 20000 in
theorem lprint_any (v : Value) (p : Prt) (hmay : may p = true) (lo n₀ : Nat) (w : World) (hn : n₀ ≤ w.heap.size) (hv : VIn w lo n₀ v p) :
    Calls Try.prog 11 #[v] w fun e w' => e = .returned (prnV p) ∧ Below w.heap.size w w' := by
  have hmf : ∀ (fn : Fn) (first cap : Array Value) (w : World), (Instr.makeFunc fn first cap).run Try.prog w = .ok (.func fn first cap) w := fun _ _ _ _ => rfl
  have hb2 := ((Below.refl w.heap.size w).alloc (Nat.le_refl _) (.cells #[.string ⟨#[]⟩] 9)).alloc (by simp) (.cells #[.int .i64 0] 30)
  have hs2 : ((w.alloc (.cells #[.string ⟨#[]⟩] 9)).alloc (.cells #[.int .i64 0] 30)).heap.size = w.heap.size + 2 := by simp
  have hd2 := duo_new w ⟨#[]⟩ 0
  have hb3 := hb2.alloc (by rw [hs2]; omega) (.cells #[.slice none 0 0] 63)
  have hP := Blk.new ((w.alloc (.cells #[.string ⟨#[]⟩] 9)).alloc (.cells #[.int .i64 0] 30)) 63 #[.slice none 0 0]
  have hs3 := alloc_size ((w.alloc (.cells #[.string ⟨#[]⟩] 9)).alloc (.cells #[.int .i64 0] 30)) (.cells #[.slice none 0 0] 63)
  have hbA := (Below.refl (w.heap.size + 2) ((w.alloc (.cells #[.string ⟨#[]⟩] 9)).alloc (.cells #[.int .i64 0] 30))).alloc (by rw [hs2]; exact Nat.le_refl _) (.cells #[.slice none 0 0] 63)
  have hd3 := hd2.below hbA (by omega)
  rw [hs2] at hP hs3
  have hpr : Pr (((w.alloc (.cells #[.string ⟨#[]⟩] 9)).alloc (.cells #[.int .i64 0] 30)).alloc (.cells #[.slice none 0 0] 63)) (w.heap.size + 2) (w.heap.size + 3) [] :=
    ⟨⟨_, hP, BOwn.nil _ _ _⟩, by omega, by rw [hs3]; omega, by simp⟩
  have hwv := writeValue_any p hmay v lo n₀ (w.heap.size + 2) (w.heap.size + 3) [] _ (hv.old hb3 hn) (by omega) hpr
  have HD : Hid _ := hd3
  have hform := hv.form
  clear hpr hP hbA hd2 hd3 hs3 hv hb2 hs2
  obtain ⟨T, hT⟩ : ∃ T, txt p = T := ⟨_, rfl⟩
  have HR : Hid (prnV p = if T.length ≤ 65536 then .tuple #[.string (bs T), .int .i64 0] else .tuple #[.string ⟨#[]⟩, .int .i64 2]) := by show _ = _; rw [prnV, hT]
  obtain ⟨R, hR⟩ : ∃ R, prnV p = R := ⟨_, rfl⟩
  rw [hT] at hwv
  rw [hR] at HR ⊢
  clear hT hR
  go_enter_defers Try.func11, Try.ntmps11
  go_wp2_with fail
  generalize ((w.alloc (.cells #[.string ⟨#[]⟩] 9)).alloc (.cells #[.int .i64 0] 30)).alloc (.cells #[.slice none 0 0] 63) = w3 at *
  refine hwv.mono ?_
  rintro e w4 hE
  rcases hE.cases with ⟨hle, rfl, hb4, hp4⟩ | ⟨hbad, rfl, hb4⟩
  · have HR2 : Hid (R = .tuple #[.string (bs T), .int .i64 0]) := by show _ = _; rw [HR.out, if_pos (by simpa using hle)]
    have hd4 := HD.out.below hb4 (by omega)
    obtain ⟨⟨v5, hblk, hown⟩, _, _, _⟩ := hp4
    simp only [List.nil_append] at hown
    have c0 : w4.cell? ⟨w.heap.size + 2, 0, none⟩ = some v5 := hblk.cell 0
    have hcv := run_string_own (P := Try.prog) w4 61 9 5 Try.underlying61 Try.underlying5 Try.underlying9 (w.heap.size + 3) v5 T hown
    obtain ⟨a5, c5, rfl⟩ := row_val hown
    have d0 : w4.cell? ⟨w.heap.size, 0, none⟩ = some (.string ⟨#[]⟩) := hd4.c0.cell 0
    have d1 : w4.cell? ⟨w.heap.size + 1, 0, none⟩ = some (.int .i64 0) := hd4.c1.cell 0
    have f0 := hd4.c0.frozen 0
    have f1 := hd4.c1.frozen 0
    have hd5 := hd4.set (bs T) 0
    have hb5 := duo_below w4 w.heap.size (.string (bs T)) (.int .i64 0)
    have hbw : Below w.heap.size w w4 := hb3.trans (hb4.mono (by omega))
    clear hE hwv hown hblk HR hle
    generalize bs T = X at *
    generalize T.length = tl at *
    go_wp2
    refine leaves_cons (f := 26) (args := #[.pointer (some ⟨w.heap.size, 0, none⟩), .pointer (some ⟨w.heap.size + 1, 0, none⟩)]) (by simp) (by simp [go_sem]) ?_
    refine (lw_idle _ _ _).mono ?_
    rintro e u' w'' ⟨rfl, rfl, rfl⟩
    exact ⟨_, lw_results hd5 rfl rfl, by rw [HR2.out], hbw.trans hb5⟩
  · have HR2 : Hid (R = .tuple #[.string ⟨#[]⟩, .int .i64 2]) := by show _ = _; rw [HR.out, if_neg (by simpa using hbad)]
    have hd4 := HD.out.below hb4 (by omega)
    have hbw : Below w.heap.size w w4 := hb3.trans (hb4.mono (by omega))
    clear hE hwv HR hbad
    go_wp2
    refine leaves_cons (f := 26) (args := #[.pointer (some ⟨w.heap.size, 0, none⟩), .pointer (some ⟨w.heap.size + 1, 0, none⟩)]) (by simp) (by simp [go_sem]) ?_
    refine (lw_catch w.heap.size 2 0 _ _ _ hd4).mono ?_
    rintro e u' w'' ⟨rfl, rfl, h4, hb5⟩
    exact ⟨_, lw_results h4 rfl rfl, by rw [HR2.out], hbw.trans hb5⟩
end Go.Proofs.Ytffhbellpcneeaa
