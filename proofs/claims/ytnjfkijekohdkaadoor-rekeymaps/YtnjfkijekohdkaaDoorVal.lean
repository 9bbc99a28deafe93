/- Values in memory; what value.depth does (contracts; nothing is claimed here). -/
import Derived.Test.YtnjfkijekohdkaaDoorTa
namespace Go.Proofs.YtnjfkijekohdkaaDoor
open Go.RowKit Go.Vf

/-- The value v, in blocks from lo on, below n₀, is what p says. -/
inductive VIn (w : World) (lo n₀ : Nat) : Value → Prt → Prop where
  | null : VIn w lo n₀ .nilIface (.mk 0 false false ⟨#[]⟩ ⟨#[]⟩ [])
  | truth (y : Bool) : VIn w lo n₀ (.iface 79 (.agg #[.bool y])) (.mk 1 y false ⟨#[]⟩ ⟨#[]⟩ [])
  | num (b : Bool) (m : ByteArray) : VIn w lo n₀ (.iface 81 (.agg #[.bool b, .string m])) (.mk 2 false b m ⟨#[]⟩ [])
  | raw (k : Int) (r : ByteArray) : isRawK k = true → VIn w lo n₀ (.iface 86 (.agg #[.int .u8 k, .string r])) (.mk k false false ⟨#[]⟩ r [])
  | tup {l : List Prt} {g c : Nat} {a : Option Addr} (V : Nat → Value) : lo ≤ g → g < n₀ → Blk w g 115 #[.slice a l.length c, .int .i64 ((depL l + 1 : Nat) : Int)] →
      (∀ j, j < l.length → ∃ h off, a = some ⟨h, off, none⟩ ∧ lo ≤ h ∧ h < n₀ ∧ w.cell? ⟨h, off + j, none⟩ = some (V j)) → (∀ j (hj : j < l.length), VIn w lo n₀ (V j) l[j]) →
      VIn w lo n₀ (.iface 83 (.pointer (some ⟨g, 0, none⟩))) (.mk 7 false false ⟨#[]⟩ ⟨#[]⟩ l)

theorem cell_block {w w' : World} {h : Nat} (e : w'.heap[h]? = w.heap[h]?) (k : Nat) : w'.cell? ⟨h, k, none⟩ = w.cell? ⟨h, k, none⟩ := by
  unfold World.cell?
  simp only [e]
theorem VIn.keep {w w' : World} {lo n₀ : Nat} {v : Value} {p : Prt} (h : VIn w lo n₀ v p) (hb : ∀ b, lo ≤ b → b < n₀ → w'.heap[b]? = w.heap[b]?) : VIn w' lo n₀ v p := by
  induction h with
  | null => exact .null
  | truth y => exact .truth y
  | num b m => exact .num b m
  | raw k r hk => exact .raw k r hk
  | tup V h1 h2 h3 h4 _ ih =>
    refine .tup V h1 h2 ((hb _ h1 h2).trans h3) (fun j hj => ?_) ih
    obtain ⟨h, off, e, q1, q2, q3⟩ := h4 j hj
    exact ⟨h, off, e, q1, q2, (cell_block (hb h q1 q2) _).trans q3⟩
theorem VIn.old {w w' : World} {lo n₀ n : Nat} {v : Value} {p : Prt} (h : VIn w lo n₀ v p) (hb : Below n w w') (hn : n₀ ≤ n) : VIn w' lo n₀ v p := h.keep fun b _ h2 => hb.block b (by omega)
theorem VIn.mono {w : World} {lo lo' n₀ n : Nat} {v : Value} {p : Prt} (h : VIn w lo n₀ v p) (hn : n₀ ≤ n) (hlo : lo' ≤ lo) : VIn w lo' n v p := by
  induction h with
  | null => exact .null
  | truth y => exact .truth y
  | num b m => exact .num b m
  | raw k r hk => exact .raw k r hk
  | tup V h1 h2 h3 h4 _ ih =>
    refine .tup V (by omega) (by omega) h3 (fun j hj => ?_) ih
    obtain ⟨h, off, e, q1, q2, q3⟩ := h4 j hj
    exact ⟨h, off, e, by omega, by omega, q3⟩

theorem VIn.form {w : World} {lo n₀ : Nat} {v : Value} {p : Prt} (h : VIn w lo n₀ v p) : v = .nilIface ∨ ∃ t x, v = .iface t x := by
  cases h
  · exact .inl rfl
  all_goals exact .inr ⟨_, _, rfl⟩

theorem depth_any (v : Value) (p : Prt) (lo n₀ : Nat) (w : World) (h : VIn w lo n₀ v p) : Calls Tryd.prog 56 #[v] w fun e w' => e = .returned (.int .i64 (dep p : Nat)) ∧ w' = w := by
  have z0 := ta74_nil
  have z1 := ta74_81
  have z2 := ta74_83
  have z3 := ta74_85
  have z4 := ta74_74
  cases h with
  | null =>
    go_enter Tryd.func56, Tryd.ntmps56
    go_wp2_with fail
    go_ret
    exact ⟨rfl, rfl⟩
  | truth y =>
    go_enter Tryd.func56, Tryd.ntmps56
    go_wp2_with fail
    go_ret
    exact ⟨rfl, rfl⟩
  | num b m =>
    go_enter Tryd.func56, Tryd.ntmps56
    go_wp2_with fail
    go_ret
    exact ⟨rfl, rfl⟩
  | raw k r hk =>
    have hd : dep (.mk k false false ⟨#[]⟩ r []) = 0 := by
      rw [dep, if_neg]
      intro h7; subst h7; simp [isRawK] at hk
    rw [hd]
    clear hk hd
    go_enter Tryd.func56, Tryd.ntmps56
    go_wp2_with fail
    go_ret
    exact ⟨rfl, rfl⟩
  | @tup l g c a V h1 h2 h3 h4 h5 =>
    have c1 := h3.cell 1
    have hd : dep (.mk 7 false false ⟨#[]⟩ ⟨#[]⟩ l) = depL l + 1 := by rw [dep, if_pos rfl]
    rw [hd]
    clear h3 h4 h5 hd
    generalize depL l + 1 = D at c1 ⊢
    have c1' : w.cell? ⟨g, 1, none⟩ = some (.int .i64 (D : Int)) := c1
    clear c1
    go_enter Tryd.func56, Tryd.ntmps56
    go_wp2_with fail
    go_ret
    exact ⟨rfl, rfl⟩

set_option maxHeartbeats 1000000 in
set_option maxRecDepth 20000 in
theorem tupleOf_any (l : List Prt) (hl : l.length ≤ 281474976710656) (hd : depL l ≤ 1000) (a : Option Addr) (c lo n₀ : Nat) (V : Nat → Value) (w : World)
    (hc : ∀ j, j < l.length → ∃ h off, a = some ⟨h, off, none⟩ ∧ lo ≤ h ∧ h < n₀ ∧ w.cell? ⟨h, off + j, none⟩ = some (V j)) (hv : ∀ j (hj : j < l.length), VIn w lo n₀ (V j) l[j]) :
    Calls Tryd.prog 40 #[.slice a l.length c] w fun e w' => e = .returned (.pointer (some ⟨w.heap.size, 0, none⟩)) ∧ w' = w.alloc (.cells #[.slice a l.length c, .int .i64 ((depL l + 1 : Nat) : Int)] 115) := by
  obtain ⟨ln, hln⟩ : ∃ ln, l.length = ln := ⟨_, rfl⟩
  have HLN : Hid (l.length = ln) := hln
  rw [hln] at hl ⊢
  clear hln
  obtain ⟨D, hD⟩ : ∃ D, depL l = D := ⟨_, rfl⟩
  have HD : Hid (depL l = D) := hD
  rw [hD] at hd ⊢
  clear hD
  go_enter Tryd.func40, Tryd.ntmps40
  go_wp2_with fail
  go_loopw [3, 8] (fun x i wr => ∃ (j s : Nat), j ≤ ln ∧ i = .int .i64 j ∧ x = .int .i64 s ∧ Hid (s = depL (l.take j)) ∧ s ≤ 1000 ∧ wr = w) (fun _ i _ => ln - (intOf i).toNat)
  case atStart => exact ⟨0, 0, by omega, rfl, rfl, by show _ = _; simp [depL], by omega, rfl⟩
  case round =>
    obtain ⟨j, s, hj, rfl, rfl, HS, hs, rfl⟩ := hrel
    by_cases hlt : j < ln
    · have hlt2 : j < l.length := by rw [HLN.out]; exact hlt
      obtain ⟨h, off, rfl, _, _, c0⟩ := hc j hlt2
      have hcall := depth_any (V j) l[j] lo n₀ wr (hv j hlt2)
      have hT : Hid (depL (l.take (j + 1)) = max s (dep l[j])) := by
        show _ = _
        rw [depL_take l j hlt2, HS.out]
      have hdl : dep l[j] ≤ 1000 := by
        have := depL_mem (List.getElem_mem hlt2)
        have := HD.out
        omega
      clear HS hc hv
      generalize V j = vj at c0 hcall
      generalize dep l[j] = dj at hcall hT hdl
      by_cases hsd : s < dj
      · have HM : Hid (dj = depL (l.take (j + 1))) := by show _ = _; rw [hT.out]; omega
        clear hT
        go_wp2_with fail
        refine hcall.mono ?_
        rintro _ _ ⟨rfl, rfl⟩
        go_wp2_with fail
        go_roundw
        case rel => exact ⟨j + 1, dj, by omega, by simp, rfl, HM, hdl, trivial⟩
        case measure => simp only [intOf]; omega
      · have HM : Hid (s = depL (l.take (j + 1))) := by show _ = _; rw [hT.out]; omega
        clear hT
        go_wp2_with fail
        refine hcall.mono ?_
        rintro _ _ ⟨rfl, rfl⟩
        go_wp2_with fail
        go_roundw
        case rel => exact ⟨j + 1, s, by omega, by simp, rfl, HM, hs, trivial⟩
        case measure => simp only [intOf]; omega
    · have hsD : s = D := by
        rw [HS.out, ← HD.out, List.take_of_length_le (by rw [HLN.out]; omega)]
      have hsD' : (s : Int) + 1 = ((D + 1 : Nat) : Int) := by omega
      clear HS hc hv
      go_wp2_with fail
      go_ret
      subst hsD
      exact ⟨rfl, by simp⟩
end Go.Proofs.YtnjfkijekohdkaaDoor
