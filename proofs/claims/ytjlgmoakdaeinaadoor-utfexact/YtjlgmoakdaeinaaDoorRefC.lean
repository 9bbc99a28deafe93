/- What dovetailref03's IsPoint, char and Text do (contracts; nothing is claimed here). -/
import Derived.Test.YtjlgmoakdaeinaaDoorRefB
namespace Go.Vf
theorem isSome_rowP (n : Int) : (rowP n).isSome = (decide (0 ≤ n) && (decide (n ≤ 1114111) && (decide (n < 55296) || decide (57343 < n)))) := by
  unfold rowP
  by_cases h0 : n < 0
  · rw [if_pos h0]; simp; omega
  · rw [if_neg h0]
    by_cases h1 : n < 0xd800
    · have e : ((if n ≤ 0x7f then some 0 else if n ≤ 0x7ff then some 1 else if n ≤ 0xfff then some 2 else if n ≤ 0xcfff then some 3 else if n ≤ 0xd7ff then some 4
        else if n < 0xe000 then none else if n ≤ 0xffff then some 5 else if n ≤ 0x3ffff then some 6 else if n ≤ 0xfffff then some 7 else if n ≤ 0x10ffff then some 8 else none : Option Nat)).isSome = true := by
        repeat' split
        all_goals first | rfl | omega
      rw [e]
      simp
      omega
    · by_cases h2 : n < 0xe000
      · rw [if_neg (by omega), if_neg (by omega), if_neg (by omega), if_neg (by omega), if_neg (by omega), if_pos h2]
        simp
        omega
      · by_cases h3 : n ≤ 0x10ffff
        · have e : ((if n ≤ 0x7f then some 0 else if n ≤ 0x7ff then some 1 else if n ≤ 0xfff then some 2 else if n ≤ 0xcfff then some 3 else if n ≤ 0xd7ff then some 4
            else if n < 0xe000 then none else if n ≤ 0xffff then some 5 else if n ≤ 0x3ffff then some 6 else if n ≤ 0xfffff then some 7 else if n ≤ 0x10ffff then some 8 else none : Option Nat)).isSome = true := by
            repeat' split
            all_goals first | rfl | omega
          rw [e]
          simp
          omega
        · rw [if_neg (by omega), if_neg (by omega), if_neg (by omega), if_neg (by omega), if_neg (by omega), if_neg (by omega), if_neg (by omega), if_neg (by omega), if_neg (by omega), if_neg (by omega)]
          simp
          omega

/-- Bytes that were just written out. -/
theorem bown_new (e : TypeId) (w : World) (base : Nat) (hb : base ≤ w.heap.size) (cs : Array Value) (l : List UInt8) (n : Nat) (hn : n = l.length) (hl : l.length ≤ 4096) (h : cs = (cellsL l).toArray) : BOwn e (w.alloc (.cells cs e)) base (.slice (some ⟨w.heap.size, 0, none⟩) n n) l := by
  subst h hn
  refine ⟨by simp [cellsL], .inr ⟨w.heap.size, l.length, (cellsL l).toArray, rfl, hb, World.alloc_heap_new w _, Nat.le_refl _, by unfold maxLen; omega, by simp [cellsL], ?_⟩⟩
  rw [List.take_of_length_le (by simp [cellsL])]
end Go.Vf
namespace Go.Proofs.YtjlgmoakdaeinaaDoor
open Go.RowKit Go.Vf

set_option maxHeartbeats 400000 in
theorem isPoint_any (n : Int) (w : World) : Calls Tryd.prog 24 #[.int .i64 n] w fun e w' => e = .returned (.bool (rowP n).isSome) ∧ w = w' := by
  obtain ⟨R, HR⟩ : ∃ R, Hid (R = (rowP n).isSome) := ⟨_, rfl⟩
  rw [← HR.out]
  have hR : R = (decide (0 ≤ n) && (decide (n ≤ 1114111) && (decide (n < 55296) || decide (57343 < n)))) := by rw [HR.out]; exact isSome_rowP n
  clear HR
  by_cases h0 : 0 ≤ n
  · by_cases h1 : n ≤ 1114111
    · by_cases h2 : n < 55296
      · have hR' : R = true := by rw [hR]; simp [h0, h1, h2]
        clear hR
        go_enter Tryd.func24, Tryd.ntmps24
        go_wp2
        go_ret
        exact ⟨by first | (rw [hR']; rfl) | rfl, rfl⟩
      · by_cases h3 : 57343 < n
        · have hR' : R = true := by rw [hR]; simp [h0, h1, h3]
          clear hR
          go_enter Tryd.func24, Tryd.ntmps24
          go_wp2
          go_ret
          exact ⟨by first | (rw [hR']; rfl) | rfl, rfl⟩
        · have hR' : R = false := by rw [hR]; simp [h2, h3]
          clear hR
          go_enter Tryd.func24, Tryd.ntmps24
          go_wp2
          go_ret
          exact ⟨by first | (rw [hR']; rfl) | rfl, rfl⟩
    · have hR' : R = false := by rw [hR]; simp [h1]
      clear hR
      go_enter Tryd.func24, Tryd.ntmps24
      go_wp2
      go_ret
      exact ⟨by first | (rw [hR']; rfl) | rfl, rfl⟩
  · have hR' : R = false := by rw [hR]; simp [h0]
    clear hR
    go_enter Tryd.func24, Tryd.ntmps24
    go_wp2
    go_ret
    exact ⟨by first | (rw [hR']; rfl) | rfl, rfl⟩

set_option maxHeartbeats 1000000 in
set_option maxRecDepth 100000 in
/-- A point's character. -/
theorem char_any (p : Nat) (hp : IsPt p) (w : World) : Calls Tryd.prog 25 #[.int .i64 (p : Int)] w fun e w' => ∃ g n, e = .returned (.slice (some ⟨g, 0, none⟩) n n) ∧ BOwn 5 w' w.heap.size (.slice (some ⟨g, 0, none⟩) n n) (enc p) ∧ Below w.heap.size w w' := by
  have hp' : p ≤ 1114111 := by unfold IsPt at hp; omega
  clear hp
  have hbel : ∀ cs, Below w.heap.size w (w.alloc (.cells cs 5)) := fun cs => (Below.refl _ _).alloc (Nat.le_refl _) _
  by_cases h1 : p < 0x80
  · have e : enc p = [UInt8.ofNat p] := by unfold enc; rw [if_pos (by omega)]
    have HE : Hid (enc p = [UInt8.ofNat p]) := e
    clear e
    go_enter Tryd.func25, Tryd.ntmps25
    go_wp2
    go_ret
    refine ⟨_, _, rfl, ?_, hbel _⟩
    rw [HE.out]
    refine bown_new 5 w _ (Nat.le_refl _) _ _ _ rfl (by simp) ?_
    simp only [cellsL, List.map_cons, List.map_nil, List.toArray_inj, Array.mk.injEq, List.cons.injEq, Value.int.injEq, true_and, and_true]
    rw [ofNat_toNat (by omega)]
  · by_cases h2 : p < 0x800
    · have e : enc p = [UInt8.ofNat (0xc0 + p / 64), UInt8.ofNat (0x80 + p % 64)] := by unfold enc; rw [if_neg (by omega), if_pos (by omega)]
      have HE : Hid (enc p = [UInt8.ofNat (0xc0 + p / 64), UInt8.ofNat (0x80 + p % 64)]) := e
      clear e
      go_enter Tryd.func25, Tryd.ntmps25
      go_wp2
      go_ret
      refine ⟨_, _, rfl, ?_, hbel _⟩
      rw [HE.out]
      refine bown_new 5 w _ (Nat.le_refl _) _ _ _ rfl (by simp) ?_
      simp only [cellsL, List.map_cons, List.map_nil, List.toArray_inj, Array.mk.injEq, List.cons.injEq, Value.int.injEq, true_and, and_true]
      exact ⟨by rw [ofNat_toNat (by omega)]; omega, by rw [ofNat_toNat (by omega)]; omega⟩
    · by_cases h3 : p < 0x10000
      · have e : enc p = [UInt8.ofNat (0xe0 + p / 4096), UInt8.ofNat (0x80 + p / 64 % 64), UInt8.ofNat (0x80 + p % 64)] := by unfold enc; rw [if_neg (by omega), if_neg (by omega), if_pos (by omega)]
        have HE : Hid (enc p = [UInt8.ofNat (0xe0 + p / 4096), UInt8.ofNat (0x80 + p / 64 % 64), UInt8.ofNat (0x80 + p % 64)]) := e
        clear e
        have t1 : decide ((p : Int) < 128) = false := by simp; omega
        have t2 : decide ((p : Int) < 2048) = false := by simp; omega
        have t3 : decide ((p : Int) < 65536) = true := by simp; omega
        have H1 : Hid (2048 ≤ p ∧ p < 65536) := ⟨by omega, h3⟩
        clear h1 h2 h3
        go_enter Tryd.func25, Tryd.ntmps25
        go_wp2
        obtain ⟨g1, g2⟩ := H1.out
        go_ret
        refine ⟨_, _, rfl, ?_, hbel _⟩
        rw [HE.out]
        refine bown_new 5 w _ (Nat.le_refl _) _ _ _ rfl (by simp) ?_
        simp only [cellsL, List.map_cons, List.map_nil, List.toArray_inj, Array.mk.injEq, List.cons.injEq, Value.int.injEq, true_and, and_true]
        exact ⟨by rw [ofNat_toNat (by omega)]; omega, by rw [ofNat_toNat (by omega)]; omega, by rw [ofNat_toNat (by omega)]; omega⟩
      · have e : enc p = [UInt8.ofNat (0xf0 + p / 262144), UInt8.ofNat (0x80 + p / 4096 % 64), UInt8.ofNat (0x80 + p / 64 % 64), UInt8.ofNat (0x80 + p % 64)] := by unfold enc; rw [if_neg (by omega), if_neg (by omega), if_neg (by omega)]
        have HE : Hid (enc p = [UInt8.ofNat (0xf0 + p / 262144), UInt8.ofNat (0x80 + p / 4096 % 64), UInt8.ofNat (0x80 + p / 64 % 64), UInt8.ofNat (0x80 + p % 64)]) := e
        clear e
        have t1 : decide ((p : Int) < 128) = false := by simp; omega
        have t2 : decide ((p : Int) < 2048) = false := by simp; omega
        have t3 : decide ((p : Int) < 65536) = false := by simp; omega
        have H1 : Hid (65536 ≤ p) := Nat.le_of_not_lt h3
        clear h1 h2 h3
        go_enter Tryd.func25, Tryd.ntmps25
        go_wp2
        have g1 := H1.out
        go_ret
        refine ⟨_, _, rfl, ?_, hbel _⟩
        rw [HE.out]
        refine bown_new 5 w _ (Nat.le_refl _) _ _ _ rfl (by simp) ?_
        simp only [cellsL, List.map_cons, List.map_nil, List.toArray_inj, Array.mk.injEq, List.cons.injEq, Value.int.injEq, true_and, and_true]
        exact ⟨by rw [ofNat_toNat (by omega)]; omega, by rw [ofNat_toNat (by omega)]; omega, by rw [ofNat_toNat (by omega)]; omega, by rw [ofNat_toNat (by omega)]; omega⟩

/-- 'out = append(out, c...)'. -/
theorem wpList_append_bytes {w : World} {ops : Array Oper} {rest : List Oper} {o : Oper} {a : Act} {Q : Exit → Act → World → Prop} (hgd : o.guard = none) (s x : Operand)
    (ho : o.op = .call { callee := .builtin .append, args := #[s, x], argTypes := #[46, 46] })
    (base : Nat) (v : Value) (acc : List UInt8) (hs : a.eval s = v) (hown : BOwn 5 w base v acc) (b2 g n : Nat) (hx : a.eval x = .slice (some ⟨g, 0, none⟩) n n) (l : List UInt8) (hown2 : BOwn 5 w b2 (.slice (some ⟨g, 0, none⟩) n n) l)
    (hlen : acc.length + l.length ≤ 1099511627776) (hbase : base ≤ w.heap.size) (B : Nat) (w0 : World) (hb : Below B w0 w) (hB : B ≤ base)
    (h : ∀ v' w', BOwn 5 w' base v' (acc ++ l) → Below B w0 w' → base ≤ w'.heap.size → wpList Tryd.prog ops Q rest (a.put o.dst v') w') :
    wpList Tryd.prog ops Q (o :: rest) a w := by
  obtain ⟨i, hi, hz, hsz, hby⟩ := info_parts info5
  obtain ⟨hn, hr⟩ : n = l.length ∧ BRow w g l := by
    rcases hown2.form with ⟨h, _⟩ | ⟨g', cap, h, _, _, _, hr⟩
    · cases h
    · cases h; exact ⟨rfl, hr⟩
  subst hn
  refine wpList_append_own (P := Tryd.prog) _ hgd s x 46 ho base 5 i (.int .u8 0) 1 1 Tryd.underlying46 hi hz hsz hby rfl (by decide) v acc.length (cellsL acc) hs hown ⟨g, 0, none⟩ l.length l.length (cellsL l) hx (by simp [cellsL]) ?_ ?_ ?_ ?_ hbase ?_
  · intro j u hj
    have hjl : j < l.length := by
      have := (List.getElem?_eq_some_iff.1 hj).1
      simpa [cellsL] using this
    have := hr.cell j hjl
    simp only [cellsL, List.getElem?_map, List.getElem?_eq_getElem hjl, Option.map_some, Option.some.injEq] at hj
    rw [Go.WideShapes.add_plain, Nat.zero_add, this, hj]
  · intro u hu
    obtain ⟨y, _, rfl⟩ := List.mem_map.1 hu
    rfl
  · unfold maxLen; omega
  · omega
  · intro v' w' h1 h2 _
    refine h v' w' ?_ ?_ ?_
    · unfold BOwn
      have e1 : cellsL (acc ++ l) = cellsL acc ++ cellsL l := by simp [cellsL]
      rw [e1, List.length_append]
      exact h1
    · exact hb.grown h2 (by omega) (fun k hk => by have := (own_ge hown hk).1; omega)
    · have := h2.size; omega

theorem results17_run {tmps : Array Value} {w : World} {s : ByteArray} {e n : Int} (t2 : tmps[2]?.getD undef = .string s) (t3 : tmps[3]?.getD undef = .int .i64 e) (t4 : tmps[4]?.getD undef = .int .i64 n) :
    (results Tryd.f17 tmps).run Tryd.prog w = .ok (.tuple #[.string s, .int .i64 e, .int .i64 n]) w := by
  simp [results, Tryd.results17, go_sem, t2, t3, t4]

set_option maxHeartbeats 2000000 in
set_option maxRecDepth 20000 in
/-- Text(l). -/
theorem refText_any (v : Value) (zs : List Int) (hlen : zs.length ≤ 4294967296) (ps : List Nat) (tl : List Int) (hz : zs = (ps.map fun p : Nat => (p : Int)) ++ tl) (hps : ∀ p ∈ ps, IsPt p) (htl : tl = [] ∨ ∃ z r, tl = z :: r ∧ rowP z = none) (w : World) (hv : Ints w.heap.size w v zs) :
    Calls Tryd.prog 17 #[v] w fun e w' => TxtPost ps tl e ∧ Below w.heap.size w w' := by
  rcases hv with ⟨va, vcap, rfl, rfl⟩ | ⟨b, off, cap, rfl, hb, hc⟩
  · have h1 : ps = [] ∧ tl = [] := by
      have := congrArg List.length hz
      simp at this
      exact ⟨List.eq_nil_of_length_eq_zero (by omega), List.eq_nil_of_length_eq_zero (by omega)⟩
    obtain ⟨rfl, rfl⟩ := h1
    have hnil : ∀ W : World, (convert 46 9 (.slice none 0 0)).run Tryd.prog W = .ok (.string (bs [])) W := fun W => run_string_own W 46 9 5 Tryd.underlying46 Tryd.underlying5 Tryd.underlying9 0 _ [] (BOwn.nil 5 W 0)
    clear hz hps htl
    go_enter Tryd.func17, Tryd.ntmps17
    go_wp2
    go_loopw [5, 6] (fun t i wr => t = .slice none 0 0 ∧ i = .int .i64 0 ∧ wr = w) (fun _ _ _ => 0)
    case atStart => exact ⟨rfl, rfl, rfl⟩
    case round =>
      obtain ⟨rfl, rfl, rfl⟩ := hrel
      go_wp2
      refine bodyPost_ret (results17_run rfl rfl rfl) rfl ?_
      exact ⟨.inl ⟨rfl, rfl⟩, Below.refl _ _⟩
  · have HZ : Hid (zs = (ps.map fun p : Nat => (p : Int)) ++ tl) := hz
    have hpl : ps.length ≤ zs.length := by rw [hz]; simp
    clear hz
    obtain ⟨L, hL⟩ : ∃ L, L = zs.length := ⟨_, rfl⟩
    rw [← hL] at hc hlen hpl ⊢
    have HL : Hid (L = zs.length) := hL
    clear hL
    go_enter Tryd.func17, Tryd.ntmps17
    go_wp2
    go_loopw [5, 6] (fun t i wr => ∃ (j : Nat) (ps1 ps2 : List Nat), j ≤ L ∧ i = .int .i64 j ∧ Hid (ps = ps1 ++ ps2 ∧ ps1.length = j) ∧ BOwn 5 wr w.heap.size t (encs ps1) ∧ Below w.heap.size w wr) (fun _ i _ => L - (intOf i).toNat)
    case atStart => exact ⟨0, [], ps, Nat.zero_le _, rfl, ⟨rfl, rfl⟩, BOwn.nil _ _ _, Below.refl _ _⟩
    case round =>
      obtain ⟨j, ps1, ps2, hj, rfl, HP, hown, hbel⟩ := hrel
      by_cases hlt : j < L
      · have hcj : wr.cell? ⟨b, off + j, none⟩ = some (.int .i64 (zs[j]?.getD 0)) := (hbel.cell (p := ⟨b, off + j, none⟩) hb).trans (hc j hlt)
        obtain ⟨n, hn⟩ : ∃ n, n = zs[j]?.getD 0 := ⟨_, rfl⟩
        rw [← hn] at hcj
        have HN : Hid (n = zs[j]?.getD 0) := hn
        clear hn
        cases ps2 with
        | nil =>
          obtain ⟨hp1, hp2⟩ := HP.out
          rw [List.append_nil] at hp1
          have htl2 : tl ≠ [] := by
            intro h
            have := congrArg List.length HZ.out
            rw [← HL.out, h, hp1] at this
            simp at this
            omega
          obtain ⟨z, r, rfl, hzr⟩ := htl.resolve_left htl2
          have hnz : n = z := by
            rw [HN.out, HZ.out, List.getElem?_append_right (by simp [hp1, hp2])]
            simp [hp1, hp2]
          have HRP : Hid (rowP n = none) := by show _ = _; rw [hnz]; exact hzr
          have HJ : Hid (ps.length = j) := by show _ = _; rw [hp1]; exact hp2
          clear hnz hzr hp1 hp2 HP
          go_wp2_with fail
          refine (isPoint_any n _).mono ?_
          rintro e w2 ⟨rfl, rfl⟩
          rw [HRP.out]
          go_wp2
          refine bodyPost_ret (results17_run rfl rfl rfl) rfl ?_
          exact ⟨.inr ⟨htl2, by rw [HJ.out]⟩, hbel⟩
        | cons p ps2 =>
          obtain ⟨hp1, hp2⟩ := HP.out
          have hp : IsPt p := hps p (by rw [hp1]; simp)
          have hnz : n = (p : Int) := by
            rw [HN.out, HZ.out, hp1, List.getElem?_append_left (by simp; omega)]
            simp [← hp2]
          obtain ⟨k, hk, _, hk1, _, _, _⟩ := enc_row hp []
          have HRP : Hid (rowP n = some k) := by show _ = _; rw [hnz]; exact hk1
          have HNZ : Hid (n = (p : Int)) := hnz
          have HE : Hid ((encs ps1).length + (enc p).length ≤ 1099511627776) := by
            show _ ≤ _
            have := encs_length_le ps1
            have := enc_le p
            omega
          have hcj2 : ∀ W, Below wr.heap.size wr W → W.cell? ⟨b, off + j, none⟩ = some (.int .i64 n) := fun W h => (h.cell (p := ⟨b, off + j, none⟩) (show b < wr.heap.size from Nat.lt_of_lt_of_le hb hbel.size)).trans hcj
          clear hnz hp1 hp2 hk1
          go_wp2_with fail
          refine (isPoint_any n _).mono ?_
          rintro e w2 ⟨rfl, rfl⟩
          rw [HRP.out]
          go_wp2_with fail
          rw [show (Calls Tryd.prog 25 #[Value.int IntKind.i64 n] wr) = (Calls Tryd.prog 25 #[Value.int IntKind.i64 (p : Int)] wr) by rw [HNZ.out]]
          refine (char_any p hp wr).mono ?_
          rintro e W4 ⟨g, m, rfl, hown4, hbel4⟩
          have hfin : Below w.heap.size w W4 := hbel.trans (hbel4.mono hbel.size)
          have hown3 : BOwn 5 W4 w.heap.size u5 (encs ps1) := own_after hown hbel4
          have hsz4 : w.heap.size ≤ W4.heap.size := hfin.size
          have HEN : Hid (encs ps1 ++ enc p = encs (ps1 ++ [p])) := by show _ = _; rw [encs_append]; simp [encs]
          clear hown
          go_wp2_with (at_builtin; refine wpList_append_bytes rfl _ _ rfl w.heap.size _ _ rfl hown3 wr.heap.size g m rfl (enc p) hown4 HE.out hsz4 w.heap.size w hfin (Nat.le_refl _) ?_; intro v5 W5 hown5 hbel5 hsz5; rw [HEN.out] at hown5)
          go_roundw
          case rel => exact ⟨j + 1, ps1 ++ [p], ps2, by omega, by go_num, ⟨by rw [HP.out.1]; simp, by rw [List.length_append, HP.out.2]; rfl⟩, hown5, hbel5⟩
          case measure => simp [intOf]; omega
      · have hend : ps2 = [] ∧ tl = [] := by
          have h1 := congrArg List.length HZ.out
          rw [← HL.out, HP.out.1] at h1
          simp at h1
          have h2 := HP.out.2
          exact ⟨List.eq_nil_of_length_eq_zero (by omega), List.eq_nil_of_length_eq_zero (by omega)⟩
        obtain ⟨rfl, rfl⟩ := hend
        have hstr : (convert 46 9 u5).run Tryd.prog wr = .ok (.string (bs (encs ps))) wr := by
          rw [HP.out.1, List.append_nil]
          exact run_string_own wr 46 9 5 Tryd.underlying46 Tryd.underlying5 Tryd.underlying9 w.heap.size u5 _ hown
        clear hown
        go_wp2
        refine bodyPost_ret (results17_run rfl rfl rfl) rfl ?_
        exact ⟨.inl ⟨rfl, rfl⟩, hbel⟩

end Go.Proofs.YtjlgmoakdaeinaaDoor
