/- What utf.Text does (contracts; nothing is claimed here). -/
import Derived.Test.YtjlgmoakdaeinaaDoorText
namespace Go.Vf

theorem rowP_isPt {z : Int} {k : Nat} (h : rowP z = some k) : ∃ p : Nat, z = (p : Int) ∧ IsPt p := by
  obtain ⟨hk, h1, h2⟩ := rowP_lt h
  refine ⟨z.toNat, by omega, ?_⟩
  unfold IsPt
  rcases cases_nine hk with rfl | rfl | rfl | rfl | rfl | rfl | rfl | rfl | rfl <;> simp only [utab] at h1 h2 <;> omega

/-- Numbers: the points ahead of the first that is none, and what is left. -/
theorem split_ints (zs : List Int) : ∃ (ps : List Nat) (tl : List Int), zs = (ps.map fun p : Nat => (p : Int)) ++ tl ∧ (∀ p ∈ ps, IsPt p) ∧ (tl = [] ∨ ∃ z r, tl = z :: r ∧ rowP z = none) := by
  induction zs with
  | nil => exact ⟨[], [], rfl, by simp, .inl rfl⟩
  | cons z zs ih =>
    cases hz : rowP z with
    | none => exact ⟨[], z :: zs, rfl, by simp, .inr ⟨z, zs, rfl, hz⟩⟩
    | some k =>
      obtain ⟨p, rfl, hp⟩ := rowP_isPt hz
      obtain ⟨ps, tl, rfl, h1, h2⟩ := ih
      exact ⟨p :: ps, tl, rfl, by simpa using ⟨hp, h1⟩, h2⟩

end Go.Vf
namespace Go.Proofs.YtjlgmoakdaeinaaDoor
open Go.RowKit Go.Vf

/-- A slice of these ints, in a block that lies here. -/
def Ints (n₀ : Nat) (W : World) (v : Value) (zs : List Int) : Prop :=
  (∃ a cap, v = .slice a 0 cap ∧ zs = []) ∨ ∃ b off cap, v = .slice (some ⟨b, off, none⟩) zs.length cap ∧ b < n₀ ∧ ∀ j, j < zs.length → W.cell? ⟨b, off + j, none⟩ = some (.int .i64 (zs[j]?.getD 0))
theorem Ints.below {n₀ n : Nat} {A B : World} (h : Below n A B) (hn : n₀ ≤ n) {v : Value} {zs : List Int} : Ints n₀ A v zs → Ints n₀ B v zs
  | .inl e => .inl e
  | .inr ⟨b, off, cap, e, hb, hc⟩ => .inr ⟨b, off, cap, e, hb, fun j hj => (h.cell (p := ⟨b, off + j, none⟩) (show b < n by omega)).trans (hc j hj)⟩
theorem Ints.mono {n₀ n : Nat} {A : World} (hn : n₀ ≤ n) {v : Value} {zs : List Int} : Ints n₀ A v zs → Ints n A v zs
  | .inl e => .inl e
  | .inr ⟨b, off, cap, e, hb, hc⟩ => .inr ⟨b, off, cap, e, Nat.lt_of_lt_of_le hb hn, hc⟩

theorem IOwn.form {w : World} {base : Nat} {v : Value} {zs : List Int} (h : IOwn w base v zs) :
    (v = .slice none 0 0 ∧ zs = []) ∨ ∃ g cap, v = .slice (some ⟨g, 0, none⟩) zs.length cap ∧ base ≤ g ∧ g < w.heap.size ∧ zs.length ≤ cap ∧ (∀ j, j < zs.length → w.cell? ⟨g, j, none⟩ = some (.int .i64 (zs[j]?.getD 0))) ∧ (∀ j, w.frozen? ⟨g, j, none⟩ = false) := by
  obtain ⟨h1, h2⟩ := h
  rcases h2 with ⟨rfl, hn⟩ | ⟨g, cap, cur, rfl, hb, hh, hc1, hc2, hc3, hc4⟩
  · exact .inl ⟨rfl, List.eq_nil_of_length_eq_zero hn⟩
  · refine .inr ⟨g, cap, rfl, hb, (Array.getElem?_eq_some_iff.1 hh).1, hc1, fun j hj => ?_, fun j => ?_⟩
    · have hx : (zs.map (Value.int .i64))[j]? = some (.int .i64 (zs[j]?.getD 0)) := by simp [hj]
      rw [← hc4, List.getElem?_take_of_lt (by omega)] at hx
      simp only [World.cell?, hh]
      simpa using hx
    · simp [World.frozen?, hh]

theorem IOwn.ints {w : World} {base : Nat} {v : Value} {zs : List Int} (h : IOwn w base v zs) : Ints w.heap.size w v zs := by
  rcases h.form with h | ⟨g, cap, rfl, hb, hlt, _, hc, _⟩
  · exact .inl ⟨none, 0, h⟩
  · exact .inr ⟨g, 0, cap, rfl, hlt, fun j hj => by rw [Nat.zero_add]; exact hc j hj⟩

/-- What Text hands back of these points with those numbers behind them. -/
def TxtPost (ps : List Nat) (tl : List Int) (e : Ending) : Prop :=
  (tl = [] ∧ e = .returned (.tuple #[.string (bs (encs ps)), .int .i64 0, .int .i64 0])) ∨
  (tl ≠ [] ∧ e = .returned (.tuple #[.string ⟨#[]⟩, .int .i64 30, .int .i64 (ps.length : Int)]))

theorem own_after {w w' : World} {base : Nat} {e : TypeId} {size : Nat} {v : Value} {k : Nat} {xs : List Value} (h : w.ownsRow base e size v k xs) (hb : Below w.heap.size w w') : w'.ownsRow base e size v k xs := by
  refine World.ownsRow.kept h (grown_of_below hb) ?_
  cases v.ownBlock with
  | none => exact .inl rfl
  | some j => exact .inr (fun e => by cases e)

theorem results16_run {tmps : Array Value} {w : World} {s : ByteArray} {e n : Int} (t2 : tmps[2]?.getD undef = .string s) (t3 : tmps[3]?.getD undef = .int .i64 e) (t4 : tmps[4]?.getD undef = .int .i64 n) :
    (results Tryd.f16 tmps).run Tryd.prog w = .ok (.tuple #[.string s, .int .i64 e, .int .i64 n]) w := by
  simp [results, Tryd.results16, go_sem, t2, t3, t4]

set_option maxHeartbeats 2000000 in
set_option maxRecDepth 20000 in
/-- Text(l). -/
theorem text_any (v : Value) (zs : List Int) (hlen : zs.length ≤ 4294967296) (ps : List Nat) (tl : List Int) (hz : zs = (ps.map fun p : Nat => (p : Int)) ++ tl) (hps : ∀ p ∈ ps, IsPt p) (htl : tl = [] ∨ ∃ z r, tl = z :: r ∧ rowP z = none) (w : World) (ht : Tabs w) (hv : Ints w.heap.size w v zs) :
    Calls Tryd.prog 16 #[v] w fun e w' => TxtPost ps tl e ∧ Below w.heap.size w w' := by
  rcases hv with ⟨va, vcap, rfl, rfl⟩ | ⟨b, off, cap, rfl, hb, hc⟩
  · have h1 : ps = [] ∧ tl = [] := by
      have := congrArg List.length hz
      simp at this
      exact ⟨List.eq_nil_of_length_eq_zero (by omega), List.eq_nil_of_length_eq_zero (by omega)⟩
    obtain ⟨rfl, rfl⟩ := h1
    have hnil : ∀ W : World, (convert 46 9 (.slice none 0 0)).run Tryd.prog W = .ok (.string (bs [])) W := fun W => run_string_own W 46 9 5 Tryd.underlying46 Tryd.underlying5 Tryd.underlying9 0 _ [] (BOwn.nil 5 W 0)
    clear hz hps htl
    go_enter Tryd.func16, Tryd.ntmps16
    go_wp2
    go_loopw [5, 12] (fun t i wr => t = .slice none 0 0 ∧ i = .int .i64 0 ∧ wr = w) (fun _ _ _ => 0)
    case atStart => exact ⟨rfl, rfl, rfl⟩
    case round =>
      obtain ⟨rfl, rfl, rfl⟩ := hrel
      go_wp2
      refine bodyPost_ret (results16_run rfl rfl rfl) rfl ?_
      exact ⟨.inl ⟨rfl, rfl⟩, Below.refl _ _⟩
  · have HZ : Hid (zs = (ps.map fun p : Nat => (p : Int)) ++ tl) := hz
    have hpl : ps.length ≤ zs.length := by rw [hz]; simp
    clear hz
    obtain ⟨L, hL⟩ : ∃ L, L = zs.length := ⟨_, rfl⟩
    rw [← hL] at hc hlen hpl ⊢
    have HL : Hid (L = zs.length) := hL
    clear hL
    have h2 : 2 ≤ w.heap.size := ht.size
    go_enter Tryd.func16, Tryd.ntmps16
    go_wp2
    go_loopw [5, 12] (fun t i wr => ∃ (j : Nat) (ps1 ps2 : List Nat), j ≤ L ∧ i = .int .i64 j ∧ Hid (ps = ps1 ++ ps2 ∧ ps1.length = j) ∧ BOwn 5 wr w.heap.size t (encs ps1) ∧ Below w.heap.size w wr) (fun _ i _ => L - (intOf i).toNat)
    case atStart => exact ⟨0, [], ps, Nat.zero_le _, rfl, ⟨rfl, rfl⟩, BOwn.nil _ _ _, Below.refl _ _⟩
    case round =>
      obtain ⟨j, ps1, ps2, hj, rfl, HP, hown, hbel⟩ := hrel
      have htr := ht.own hbel
      by_cases hlt : j < L
      · have hcj : wr.cell? ⟨b, off + j, none⟩ = some (.int .i64 (zs[j]?.getD 0)) := (hbel.cell (p := ⟨b, off + j, none⟩) hb).trans (hc j hlt)
        obtain ⟨n, hn⟩ : ∃ n, n = zs[j]?.getD 0 := ⟨_, rfl⟩
        rw [← hn] at hcj
        have HN : Hid (n = zs[j]?.getD 0) := hn
        clear hn
        cases ps2 with
        | nil =>
          obtain ⟨hp1, hp2⟩ := HP.out
          rw [List.append_nil] at hp1
          have htl2 : tl ≠ [] := by
            intro h
            have := congrArg List.length HZ.out
            rw [← HL.out, h, hp1] at this
            simp at this
            omega
          obtain ⟨z, r, rfl, hzr⟩ := htl.resolve_left htl2
          have hnz : n = z := by
            rw [HN.out, HZ.out, List.getElem?_append_right (by simp [hp1, hp2])]
            simp [hp1, hp2]
          have HRP : Hid (rowP n = none) := by show _ = _; rw [hnz]; exact hzr
          have HJ : Hid (ps.length = j) := by show _ = _; rw [hp1]; exact hp2
          clear hnz hzr hp1 hp2 HP
          go_wp2_with (go_at_call 22; refine (rowOfPoint_any n wr htr).mono ?_; rintro e w2 ⟨⟨R, rfl, hR, hR0⟩, hb2⟩; obtain rfl := hR0 HRP.out; rw [HRP.out]; unfold noRowV; clear hR hR0)
          refine bodyPost_ret (results16_run rfl rfl rfl) rfl ?_
          refine ⟨.inr ⟨htl2, by rw [HJ.out]⟩, ?_⟩
          exact (hbel.trans (hb2.mono hbel.size)).alloc (Nat.le_trans hbel.size hb2.size) _
        | cons p ps2 =>
          obtain ⟨hp1, hp2⟩ := HP.out
          have hp : IsPt p := hps p (by rw [hp1]; simp)
          have hnz : n = (p : Int) := by
            rw [HN.out, HZ.out, hp1, List.getElem?_append_left (by simp; omega)]
            simp [← hp2]
          obtain ⟨k, hk, _, hk1, hk2, _, _⟩ := enc_row hp []
          have HRP : Hid (rowP n = some k) := by show _ = _; rw [hnz]; exact hk1
          have HNZ : Hid (n = (p : Int)) := hnz
          have HK2 : Hid ((utab k).size = (enc p).length) := hk2
          have HE : Hid ((encs ps1).length ≤ 17179869184) := by
            show _ ≤ _
            have := encs_length_le ps1
            omega
          clear hnz hp1 hp2 hk1 hk2
          go_wp2_with (first | (go_at_call 22; refine (rowOfPoint_any n wr htr).mono ?_; rintro e w2 ⟨⟨R, rfl, hR, hR0⟩, hb2⟩; obtain rfl := hR k HRP.out; rw [HRP.out]; unfold rowV; clear hR hR0))
          have hown2 : BOwn 5 w2 w.heap.size u5 (encs ps1) := own_after hown hb2
          have hbel2 : Below w.heap.size w w2 := hbel.trans (hb2.mono hbel.size)
          have hbel3 := hbel2.alloc hbel2.size (.cells #[.int .u8 ((utab k).first : Int), .int .u8 ((utab k).last : Int), .int .u8 ((utab k).low : Int), .int .u8 ((utab k).high : Int), .int .i64 ((utab k).size : Int), .int .i64 ((utab k).least : Int), .int .i64 ((utab k).most : Int)] 48)
          have hown3 := hown2.alloc (.cells #[.int .u8 ((utab k).first : Int), .int .u8 ((utab k).last : Int), .int .u8 ((utab k).low : Int), .int .u8 ((utab k).high : Int), .int .i64 ((utab k).size : Int), .int .i64 ((utab k).least : Int), .int .i64 ((utab k).most : Int)] 48)
          generalize w2.alloc (.cells #[.int .u8 ((utab k).first : Int), .int .u8 ((utab k).last : Int), .int .u8 ((utab k).low : Int), .int .u8 ((utab k).high : Int), .int .i64 ((utab k).size : Int), .int .i64 ((utab k).least : Int), .int .i64 ((utab k).most : Int)] 48) = W3 at hbel3 hown3 ⊢
          rw [show (Calls Tryd.prog 23 #[u5, Value.int IntKind.i64 n, Value.int IntKind.i64 ((utab k).size : Int)] W3) = (Calls Tryd.prog 23 #[u5, Value.int IntKind.i64 (p : Int), Value.int IntKind.i64 ((enc p).length : Int)] W3) by rw [HNZ.out, HK2.out]]
          refine (appendPoint_any u5 (encs ps1) p hp w.heap.size W3 hbel3.size (ht.own hbel3) hown3 (by have := HE.out; omega)).mono ?_
          rintro e W4 ⟨v4, rfl, hown4, hbel4⟩
          have hfin : Below w.heap.size w W4 := hbel3.trans hbel4
          have hencs : encs (ps1 ++ [p]) = encs ps1 ++ enc p := by rw [encs_append]; simp [encs]
          rw [← hencs] at hown4
          clear hown hown2 hown3 hencs
          go_wp2
          go_roundw
          case rel => exact ⟨j + 1, ps1 ++ [p], ps2, by omega, by go_num, ⟨by rw [HP.out.1]; simp, by rw [List.length_append, HP.out.2]; rfl⟩, hown4, hfin⟩
          case measure => simp [intOf]; omega
      · have hend : ps2 = [] ∧ tl = [] := by
          have h1 := congrArg List.length HZ.out
          rw [← HL.out, HP.out.1] at h1
          simp at h1
          have h2 := HP.out.2
          exact ⟨List.eq_nil_of_length_eq_zero (by omega), List.eq_nil_of_length_eq_zero (by omega)⟩
        obtain ⟨rfl, rfl⟩ := hend
        have hstr : (convert 46 9 u5).run Tryd.prog wr = .ok (.string (bs (encs ps))) wr := by
          rw [HP.out.1, List.append_nil]
          exact run_string_own wr 46 9 5 Tryd.underlying46 Tryd.underlying5 Tryd.underlying9 w.heap.size u5 _ hown
        clear hown
        go_wp2
        refine bodyPost_ret (results16_run rfl rfl rfl) rfl ?_
        exact ⟨.inl ⟨rfl, rfl⟩, hbel⟩

end Go.Proofs.YtjlgmoakdaeinaaDoor
