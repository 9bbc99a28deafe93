/- What the document's Digit, digits and quoted of layer 10 do (contracts; nothing is claimed here). · Rows of bytes that are appended; what the document's quoted of layer 10 does (contracts; nothing is claimed here). · What the document's bytesOf of layer 10 does (contracts; nothing is claimed here). -/
import Derived.Test.YtffhbellpcneeaaLWq
import Derived.Deep.AppendLies
import Derived.Deep.Upon
import Derived.Test.YtffhbellpcneeaaJ8
namespace Go.Proofs.Ytffhbellpcneeaa
open Go.RowKit Go.Vf
theorem wpAnyH_takeD {P : Program} {md : Region.Mode} {ops : Array Oper} {Q : Exit → Act → World → Prop} {S : World → Prop} {i : Nat} {oi : Oper} {v : Value} {fuel : Nat} {listed : Array Bool} {a : Act} {w : World} (d : Option Nat) (hi : ops[i]? = some oi) (hd : oi.dst = d)
    (hs : Region.noSelect ops = true) (hf : Region.free md ops listed i = true) (hr : (Region.ready md ops listed).contains i = true)
    (hQ : ∀ c a w, Q (.panic c) (a.put oi.dst v) w → Q (.panic c) a w) (hy : YieldsIf P ops S oi v a) (hS : S w)
    (h : wpAnyH P md ops Q S fuel (listed.setIfInBounds i true) (a.put d v) w) : wpAnyH P md ops Q S (fuel + 1) listed a w := by
  subst hd
  exact wpAnyH_take hi hs hf hr hQ hy hS h
theorem hexD_low (n : Nat) (h : n < 10) : IntKind.u8.wrap (48 + (n : Int)) = ((hexD n).toNat : Int) := by
  have : ((List.range 10).all fun n => IntKind.u8.wrap (48 + (n : Int)) == ((hexD n).toNat : Int)) = true := by kernel_rfl
  exact beq_iff_eq.1 (List.all_eq_true.1 this n (List.mem_range.2 h))
theorem hexD_high (n : Nat) (h : n < 16) (h2 : ¬ n < 10) : IntKind.u8.wrap (97 + (n : Int) - 10) = ((hexD n).toNat : Int) := by
  have : ((List.range 16).all fun n => decide (n < 10) || IntKind.u8.wrap (97 + (n : Int) - 10) == ((hexD n).toNat : Int)) = true := by kernel_rfl
  have := List.all_eq_true.1 this n (List.mem_range.2 h)
  simp [h2] at this
  exact this
theorem rdigit_q (n : Nat) (h : n < 16) (w : World) : Calls Try.prog 67 #[.int .i64 (n : Int)] w fun e w' => e = .returned (.int .u8 ((hexD n).toNat : Int)) ∧ w' = w := by
  by_cases h1 : n < 10
  · have e1 := hexD_low n h1
    generalize hexD n = x at *
    go_enter Try.func67, Try.ntmps67
    go_wp2
    go_ret
    exact ⟨rfl, rfl⟩
  · have e1 := hexD_high n h h1
    generalize hexD n = x at *
    go_enter Try.func67, Try.ntmps67
    go_wp2
    go_ret
    exact ⟨rfl, rfl⟩
theorem new_cells (w : World) (l : List UInt8) : ∀ j u, (cellsL l)[j]? = some u → (w.alloc (.cells (cellsL l).toArray 5)).cell? ((⟨w.heap.size, 0, none⟩ : Addr).add j) = some u := fun j u hu => by
  rw [Go.WideShapes.add_plain, Nat.zero_add]
  have := (Blk.new w 5 (cellsL l).toArray).cell j
  rw [this]
  simpa using hu
theorem cells_one (l : List UInt8) : ∀ u ∈ cellsL l, u.oneCell' = true := fun u hu => by
  obtain ⟨x, _, rfl⟩ := List.mem_map.1 hu
  rfl
set_option maxHeartbeats 2000000 in
set_option maxRecDepth 20000 in
theorem rdigits10_any (s : ByteArray) (hs : s.size ≤ 65536) (w : World) : Calls Try.prog 46 #[.string s] w fun e w' => ∃ v, e = .returned v ∧ BOwn 5 w' w.heap.size v (s.data.toList.flatMap hex2) ∧ Below w.heap.size w w' := by
  obtain ⟨i, hi, hz, hsz, hby⟩ := info5'
  go_enter Try.func46, Try.ntmps46
  go_wp2_with fail
  go_loopw [3, 4] (fun v iv wr => ∃ j : Nat, j ≤ s.size ∧ iv = .int .i64 (j : Int) ∧ BOwn 5 wr w.heap.size v ((s.data.toList.take j).flatMap hex2) ∧ Below w.heap.size w wr) (fun _ iv _ => s.size - (intOf iv).toNat)
  case atStart => exact ⟨0, Nat.zero_le _, rfl, by simpa using BOwn.nil 5 _ _, Below.refl _ _⟩
  case round =>
    obtain ⟨j, hj, rfl, hown, hb⟩ := hrel
    by_cases hlt : j < s.size
    · have hft := flat_take hex2 s j hlt
      have hjl : ((s.data.toList.take j).flatMap hex2).length = 2 * j := by rw [hex2_length, List.length_take, ← Lib.size_eq]; omega
      obtain ⟨av, cv, rfl⟩ := row_val hown
      have hO : wr.ownsRow w.heap.size 5 1 (.slice av (2 * j) cv) (2 * j) (cellsL ((s.data.toList.take j).flatMap hex2)) := by rw [← hjl]; exact hown
      have hwz := hb.size
      have HFT : Hid _ := hft
      have hh : hex2 s[j] = [hexD (s[j].toNat / 16), hexD (s[j].toNat % 16)] := rfl
      have e3 : ((s[j]).toNat : Int) / 16 = ((s[j].toNat / 16 : Nat) : Int) := by omega
      have e4 : ((s[j]).toNat : Int) % 16 = ((s[j].toNat % 16 : Nat) : Int) := by omega
      have hub := s[j].toNat_lt
      have f1 : IntKind.i64.wrap ((s[j]).toNat : Int) = ((s[j]).toNat : Int) := IntWalk.i64_in _ (by omega)
      have f2 : IntKind.i64.wrap (Int.tdiv ((s[j]).toNat : Int) 16) = ((s[j].toNat / 16 : Nat) : Int) := by
        rw [show Int.tdiv ((s[j]).toNat : Int) 16 = ((s[j].toNat / 16 : Nat) : Int) from rfl]; exact IntWalk.i64_in _ (by omega)
      have f3 : IntKind.i64.wrap (Int.tmod ((s[j]).toNat : Int) 16) = ((s[j].toNat % 16 : Nat) : Int) := by
        rw [show Int.tmod ((s[j]).toNat : Int) 16 = ((s[j].toNat % 16 : Nat) : Int) from rfl]; exact IntWalk.i64_in _ (by omega)
      have e5 : Int.tmod ((s[j]).toNat : Int) 16 = ((s[j].toNat % 16 : Nat) : Int) := rfl
      have b1 : s[j].toNat / 16 < 16 := by have := s[j].toNat_lt; omega
      have b2 : s[j].toNat % 16 < 16 := by omega
      rw [hjl]
      obtain ⟨A, hA⟩ : ∃ A, (s.data.toList.take j).flatMap hex2 = A := ⟨_, rfl⟩
      rw [hA] at hO HFT
      rw [hh] at HFT
      have hj1 : (j : Int) < (s.size : Int) := by omega
      have hj0 : (0 : Int) ≤ (j : Int) := by omega
      obtain ⟨H1, hH1⟩ : ∃ H1, s[j].toNat / 16 = H1 := ⟨_, rfl⟩
      obtain ⟨L1, hL1⟩ : ∃ L1, s[j].toNat % 16 = L1 := ⟨_, rfl⟩
      rw [hH1] at HFT e3 b1 f2
      rw [hL1] at HFT e4 b2 f3 e5
      have g1 : IntKind.i64.wrap (H1 : Int) = (H1 : Int) := IntWalk.i64_in _ (by omega)
      have g2 : IntKind.i64.wrap (L1 : Int) = (L1 : Int) := IntWalk.i64_in _ (by omega)
      have HO : Hid _ := hO
      have hm1 : 2 * j + 2 ≤ maxLen := by unfold maxLen; omega
      have hm2 : (2 * j + 2) * 1 ≤ 140737488355328 := by omega
      have hm3 : w.heap.size ≤ (wr.alloc (.cells (cellsL [hexD H1, hexD L1]).toArray 5)).drew.heap.size := by show _ ≤ (wr.alloc _).heap.size; rw [alloc_size]; omega
      have HAL : Hid (A.length = 2 * j) := by show _ = _; rw [← hA]; exact hjl
      clear hown hft hH1 hL1 hA hO hh hjl
      go_upto_region 5 with fail
      refine wp_region_held_drew (S := fun _ => True) (by kernel_rfl) trivial (fun hHeld => ?_)
      refine wpAnyH_takeD (i := 0) (some 11) (v := ?v0) rfl rfl (by kernel_rfl) (by kernel_rfl) (by kernel_rfl) (fun _ _ _ h => h) (Or.inl ⟨by kernel_rfl, ?hy0⟩) trivial ?rest0
      case hy0 => (intro x _; go_simp; first | done | with_reducible rfl)
      try simp only [Act.put, List.setIfInBounds_toArray, List.set_cons_zero, List.set_cons_succ]
      refine wpAnyH_takeD (i := 1) (some 12) (v := ?v1) rfl rfl (by kernel_rfl) (by kernel_rfl) (by kernel_rfl) (fun _ _ _ h => h) (Or.inl ⟨by kernel_rfl, ?hy1⟩) trivial ?rest1
      case hy1 => (intro x _; go_simp; first | done | with_reducible rfl)
      try simp only [Act.put, List.setIfInBounds_toArray, List.set_cons_zero, List.set_cons_succ]
      refine wpAnyH_takeD (i := 2) (some 13) (v := ?v2) rfl rfl (by kernel_rfl) (by kernel_rfl) (by kernel_rfl) (fun _ _ _ h => h) (Or.inl ⟨by kernel_rfl, ?hy2⟩) trivial ?rest2
      case hy2 => (intro x _; go_simp; first | done | with_reducible rfl)
      try simp only [Act.put, List.setIfInBounds_toArray, List.set_cons_zero, List.set_cons_succ]
      refine wpAnyH_takeD (i := 3) (some 14) (v := ?v3) rfl rfl (by kernel_rfl) (by kernel_rfl) (by kernel_rfl) (fun _ _ _ h => h) (Or.inl ⟨by kernel_rfl, ?hy3⟩) trivial ?rest3
      case hy3 => (intro x _; go_simp; first | done | with_reducible rfl)
      try simp only [Act.put, List.setIfInBounds_toArray, List.set_cons_zero, List.set_cons_succ]
      refine wpAnyH_takeD (i := 4) (some 15) (v := ?v4) rfl rfl (by kernel_rfl) (by kernel_rfl) (by kernel_rfl) (fun _ _ _ h => h) (Or.inl ⟨by kernel_rfl, ?hy4⟩) trivial ?rest4
      case hy4 => (intro x _; go_simp; first | done | with_reducible rfl)
      try simp only [Act.put, List.setIfInBounds_toArray, List.set_cons_zero, List.set_cons_succ]
      refine wpAnyH_takeD (i := 5) (some 16) (v := ?v5) rfl rfl (by kernel_rfl) (by kernel_rfl) (by kernel_rfl) (fun _ _ _ h => h) (Or.inl ⟨by kernel_rfl, ?hy5⟩) trivial ?rest5
      case hy5 => (intro x _; go_simp; first | done | with_reducible rfl)
      try simp only [Act.put, List.setIfInBounds_toArray, List.set_cons_zero, List.set_cons_succ]
      refine wpAnyH_takeD (i := 7) (some 18) (v := ?v7) rfl rfl (by kernel_rfl) (by kernel_rfl) (by kernel_rfl) (fun _ _ _ h => h) (Or.inl ⟨by kernel_rfl, ?hy7⟩) trivial ?rest7
      case hy7 => (intro x _; go_simp; first | done | with_reducible rfl)
      try simp only [Act.put, List.setIfInBounds_toArray, List.set_cons_zero, List.set_cons_succ]
      refine wpAnyH_takeD (i := 8) (some 19) (v := ?v8) rfl rfl (by kernel_rfl) (by kernel_rfl) (by kernel_rfl) (fun _ _ _ h => h) (Or.inl ⟨by kernel_rfl, ?hy8⟩) trivial ?rest8
      case hy8 => (intro x _; go_simp; first | done | with_reducible rfl)
      try simp only [Act.put, List.setIfInBounds_toArray, List.set_cons_zero, List.set_cons_succ]
      refine wpAnyH_takeD (i := 9) (some 20) (v := ?v9) rfl rfl (by kernel_rfl) (by kernel_rfl) (by kernel_rfl) (fun _ _ _ h => h) (Or.inl ⟨by kernel_rfl, ?hy9⟩) trivial ?rest9
      case hy9 => (intro x _; go_simp; first | done | with_reducible rfl)
      try simp only [Act.put, List.setIfInBounds_toArray, List.set_cons_zero, List.set_cons_succ]
      refine wpAnyH_takeD (i := 10) (some 21) (v := ?v10) rfl rfl (by kernel_rfl) (by kernel_rfl) (by kernel_rfl) (fun _ _ _ h => h) (Or.inl ⟨by kernel_rfl, ?hy10⟩) trivial ?rest10
      case hy10 => (intro x _; go_simp; first | done | with_reducible rfl)
      try simp only [Act.put, List.setIfInBounds_toArray, List.set_cons_zero, List.set_cons_succ]
      refine wpAnyH_takeD (i := 11) (some 22) (v := ?v11) rfl rfl (by kernel_rfl) (by kernel_rfl) (by kernel_rfl) (fun _ _ _ h => h) (Or.inl ⟨by kernel_rfl, ?hy11⟩) trivial ?rest11
      case hy11 => (intro x _; go_simp; first | done | with_reducible rfl)
      try simp only [Act.put, List.setIfInBounds_toArray, List.set_cons_zero, List.set_cons_succ]
      refine wpAnyH_ready (rs := [6]) (by kernel_rfl) (by simp) ?_
      refine AllReadyH.cons rfl (fun K hK => ?_) AllReadyH.nil
      go_simp
      refine (rdigit_q _ b1 _).mono ?_
      rintro _ _ ⟨rfl, rfl⟩
      go_simp
      refine hK.out _ _ trivial (fun hH6 => ?_)
      clear hK K
      refine wpAnyH_ready (rs := [12]) (by kernel_rfl) (by simp) ?_
      refine AllReadyH.cons rfl (fun K hK => ?_) AllReadyH.nil
      go_simp
      refine (rdigit_q _ b2 _).mono ?_
      rintro _ _ ⟨rfl, rfl⟩
      go_simp
      refine hK.out _ _ trivial (fun hH12 => ?_)
      clear hK K
      refine wpAnyH_ready (rs := [13]) (by kernel_rfl) (by simp) ?_
      refine AllReadyH.cons rfl (fun K hK => ?_) AllReadyH.nil
      go_simp
      refine hK.out _ _ trivial (fun hH13 => ?_)
      clear hK K
      refine wpAnyH_ready (rs := [14]) (by kernel_rfl) (by simp) ?_
      refine AllReadyH.cons rfl (fun K hK => ?_) AllReadyH.nil
      rw [if_pos (by kernel_rfl)]
      refine wp_append_own _ (.tmp 11) (.tmp 24) 61 rfl w.heap.size 5 i (.int .u8 0) 1 1 Try.underlying61 hi hz hsz hby rfl (by decide) (.slice av (2 * j) cv) (2 * j) (cellsL A) rfl (World.ownsRow.alloc HO.out _) ⟨wr.heap.size, 0, none⟩ 2 2 (cellsL [hexD H1, hexD L1]) rfl rfl (new_cells wr [hexD H1, hexD L1]) (cells_one _) hm1 hm2 hm3 ?_
      intro v' w5 ho5 hg5 _
      refine hK.out _ _ trivial (fun hH14 => ?_)
      clear hK K
      refine wpAnyH_takeD (i := 15) (some 3) (v := v') rfl rfl (by kernel_rfl) (by kernel_rfl) (by kernel_rfl) (fun _ _ _ h => h) (Or.inl ⟨by kernel_rfl, ?hy15⟩) trivial ?rest15
      case hy15 => (intro x _; go_simp; first | done | with_reducible rfl)
      try simp only [Act.put, List.setIfInBounds_toArray]
      refine wpAnyH_done (by kernel_rfl) ?_ _
      have hrow := World.ownsRow.lt HO.out
      have hb5 : Below w.heap.size wr w5 := (((Below.refl w.heap.size wr).alloc hwz (.cells (cellsL [hexD H1, hexD L1]).toArray 5)).drew).grown hg5 hm3 (fun k hk => (hrow k hk).1)
      go_wp2_with fail
      go_roundw
      case rel =>
        refine ⟨j + 1, by omega, by simp, ?_, hb.trans hb5⟩
        rw [HFT.out]
        show World.ownsRow _ _ 5 1 _ (A ++ [hexD H1, hexD L1]).length (cellsL (A ++ [hexD H1, hexD L1]))
        have e : cellsL (A ++ [hexD H1, hexD L1]) = cellsL A ++ cellsL [hexD H1, hexD L1] := by simp [cellsL]
        rw [e, List.length_append, HAL.out]
        exact ho5
      case measure => simp only [intOf]; omega
    · rw [flat_all hex2 s j hlt] at hown
      have HO : Hid _ := hown
      clear hown
      go_wp2_with fail
      go_ret
      exact ⟨_, rfl, HO.out, hb⟩
end Go.Proofs.Ytffhbellpcneeaa

namespace Go.Proofs.Ytffhbellpcneeaa
open Go.RowKit Go.Vf
theorem wpList_append_bytes {w : World} {ops : Array Oper} {rest : List Oper} {o : Oper} {a : Act} {Q : Exit → Act → World → Prop} (hgd : o.guard = none) (s x : Operand)
    (ho : o.op = .call { callee := .builtin .append, args := #[s, x], argTypes := #[61, 61] }) (base : Nat) (v : Value) (acc : List UInt8) (hs : a.eval s = v) (hown : BOwn 5 w base v acc) (l : List UInt8) (cs : Array Value) (hcs : cs = (cellsL l).toArray) (n : Nat) (hn : n = l.length)
    (hx : a.eval x = .slice (some ⟨w.heap.size, 0, none⟩) n n) (hlen : acc.length + l.length ≤ 1099511627776) (hbase : base ≤ w.heap.size)
    (h : ∀ v' w', BOwn 5 w' base v' (acc ++ l) → Below base w w' → base ≤ w'.heap.size → wpList Try.prog ops Q rest (a.put o.dst v') w') : wpList Try.prog ops Q (o :: rest) a (w.alloc (.cells cs 5)) := by
  subst hcs hn
  obtain ⟨i, hi, hz, hsz, hby⟩ := info5'
  have hsA := alloc_size w (.cells (cellsL l).toArray 5)
  have hO : (w.alloc (.cells (cellsL l).toArray 5)).ownsRow base 5 1 v acc.length (cellsL acc) := World.ownsRow.alloc hown _
  refine wpList_append_own _ hgd s x 61 ho base 5 i (.int .u8 0) 1 1 Try.underlying61 hi hz hsz hby rfl (by decide) v acc.length (cellsL acc) hs hO ⟨w.heap.size, 0, none⟩ l.length l.length (cellsL l) hx (by simp [cellsL]) (new_cells w l) (cells_one l) (by unfold maxLen; omega) (by omega) (by rw [hsA]; omega) ?_
  intro v' w' h2 h3 _
  have hb : Below base w w' := ((Below.refl base w).alloc hbase (.cells (cellsL l).toArray 5)).grown h3 (by rw [hsA]; omega) (fun k hk => (World.ownsRow.lt hO k hk).1)
  refine h v' w' ?_ hb (Nat.le_trans hbase hb.size)
  show World.ownsRow _ _ 5 1 _ (acc ++ l).length (cellsL (acc ++ l))
  have e : cellsL (acc ++ l) = cellsL acc ++ cellsL l := by simp [cellsL]
  rw [e, List.length_append]
  exact h2
/-- A row of bytes behind another one. -/
theorem wpList_append_row {w : World} {ops : Array Oper} {rest : List Oper} {o : Oper} {a : Act} {Q : Exit → Act → World → Prop} (hgd : o.guard = none) (s x : Operand)
    (ho : o.op = .call { callee := .builtin .append, args := #[s, x], argTypes := #[61, 61] }) (base base2 : Nat) (v v2 : Value) (acc l : List UInt8) (hs : a.eval s = v) (hown : BOwn 5 w base v acc) (hx : a.eval x = v2) (hown2 : BOwn 5 w base2 v2 l)
    (hlen : acc.length + l.length ≤ 1099511627776) (hbase : base ≤ w.heap.size)
    (h : ∀ v' w', BOwn 5 w' base v' (acc ++ l) → Below base w w' → base ≤ w'.heap.size → wpList Try.prog ops Q rest (a.put o.dst v') w') : wpList Try.prog ops Q (o :: rest) a w := by
  obtain ⟨i, hi, hz, hsz, hby⟩ := info5'
  rcases hown2.form with ⟨rfl, rfl⟩ | ⟨g, cap, rfl, hg, hle, hm, hrow⟩
  · have hf : ∃ b n c, v = .slice b n c ∧ n ≤ c := by
      rcases hown.form with ⟨rfl, rfl⟩ | ⟨g, cap, rfl, _, hle, _, _⟩
      · exact ⟨none, 0, 0, rfl, Nat.le_refl _⟩
      · exact ⟨_, _, _, rfl, hle⟩
    obtain ⟨b, n, c, rfl, hnc⟩ := hf
    refine wpList_plain hgd fun K hK => ?_
    have hr : (Builtin.append_ #[61, 61] o.type #[.slice b n c, .slice none 0 0]).run Try.prog w = .ok (.slice b n c) w := run_append_nothing w 61 61 o.type 5 i Try.underlying61 hi b n c hnc (.slice none 0 0) (Src.ofNil w Try.underlying61 0)
    unfold Oper.wp execOp
    simp only [ho, resolve, invoke, builtin, Sem.run_bind, Sem.run_pure, Result.andThen_ok, List.map_toArray, List.map_cons, List.map_nil, hs, hx, hr]
    exact hK _ _ (h _ w (by simpa using hown) (Below.refl _ _) hbase)
  · refine wpList_append_own _ hgd s x 61 ho base 5 i (.int .u8 0) 1 1 Try.underlying61 hi hz hsz hby rfl (by decide) v acc.length (cellsL acc) hs hown ⟨g, 0, none⟩ l.length cap (cellsL l) hx (by simp [cellsL]) (fun j u hu => ?_) (cells_one l) (by unfold maxLen; omega) (by omega) hbase ?_
    · rw [Go.WideShapes.add_plain, Nat.zero_add]
      obtain ⟨hj, rfl⟩ := List.getElem?_eq_some_iff.1 hu
      have hj' : j < l.length := by simpa [cellsL] using hj
      rw [hrow.cell j hj']
      simp [cellsL]
    · intro v' w' h2 h3 _
      have hb : Below base w w' := (Below.refl base w).grown h3 hbase (fun k hk => (World.ownsRow.lt hown k hk).1)
      refine h v' w' ?_ hb (Nat.le_trans hbase hb.size)
      show World.ownsRow _ _ 5 1 _ (acc ++ l).length (cellsL (acc ++ l))
      have e : cellsL (acc ++ l) = cellsL acc ++ cellsL l := by simp [cellsL]
      rw [e, List.length_append]
      exact h2

theorem tdiv_q (x : UInt8) : Int.tdiv (x.toNat : Int) 16 = ((x.toNat / 16 : Nat) : Int) := rfl
theorem tmod_q (x : UInt8) : Int.tmod (x.toNat : Int) 16 = ((x.toNat % 16 : Nat) : Int) := rfl
theorem below_step {base : Nat} {w wr w1 : World} (hb : Below base w wr) (h1 : Below wr.heap.size wr w1) (hle : base ≤ wr.heap.size) : Below base w w1 := hb.trans (h1.mono hle)
set_option maxHeartbeats 2000000 in
set_option maxRecDepth 20000 in
theorem rquoted_any (q : UInt8) (s : ByteArray) (hs : s.size ≤ 65536) (w : World) : Calls Try.prog 47 #[.string s, .int .u8 (q.toNat : Int)] w fun e w' => ∃ v, e = .returned v ∧ BOwn 5 w' w.heap.size v (q :: (s.data.toList.flatMap (spelt q) ++ [q])) ∧ Below w.heap.size w w' := by
  have hb0 := (Below.refl w.heap.size w).alloc (Nat.le_refl _) (.cells #[.int .u8 q.toNat] 5)
  have hs0 := alloc_size w (.cells #[.int .u8 q.toNat] 5)
  have hO0 : BOwn 5 (w.alloc (.cells #[.int .u8 q.toNat] 5)) w.heap.size (.slice (some ⟨w.heap.size, 0, none⟩) 1 1) [q] := World.ownsRow_lit w #[.int .u8 q.toNat] 1 (Nat.le_refl _) (by unfold maxLen; omega) rfl
  go_enter Try.func47, Try.ntmps47
  go_wp2_with fail
  generalize w.alloc (.cells #[.int .u8 q.toNat] 5) = w0 at *
  go_loopw [5, 6] (fun v iv wr => ∃ j : Nat, j ≤ s.size ∧ iv = .int .i64 (j : Int) ∧ BOwn 5 wr w.heap.size v ([q] ++ (s.data.toList.take j).flatMap (spelt q)) ∧ Below w.heap.size w wr ∧ w.heap.size ≤ wr.heap.size) (fun _ iv _ => s.size - (intOf iv).toNat)
  case atStart => exact ⟨0, Nat.zero_le _, rfl, by simpa using hO0, hb0, hb0.size⟩
  case round =>
    clear hO0 hb0 hs0
    obtain ⟨j, hj, rfl, hown, hb, hle⟩ := hrel
    have hfb : ∀ k, ((s.data.toList.take k).flatMap (spelt q)).length ≤ 4 * k := by
      intro k
      have : ∀ l : List UInt8, (l.flatMap (spelt q)).length ≤ 4 * l.length := by
        intro l
        induction l with
        | nil => simp
        | cons a r ih => rw [List.flatMap_cons, List.length_append, List.length_cons]; have := spelt_le q a; omega
      have h1 := this (s.data.toList.take k)
      rw [List.length_take] at h1
      omega
    by_cases hlt : j < s.size
    · have hft := flat_take (spelt q) s j hlt
      have hbl := hfb j
      have hlen : ([q] ++ (s.data.toList.take j).flatMap (spelt q)).length ≤ 300000 := by simp only [List.length_append, List.length_cons, List.length_nil]; omega
      have HFT : Hid _ := hft
      have hj1 : (j : Int) < (s.size : Int) := by omega
      obtain ⟨A, hA⟩ : ∃ A, [q] ++ (s.data.toList.take j).flatMap (spelt q) = A := ⟨_, rfl⟩
      have HA : Hid _ := hA
      rw [hA] at hown hlen
      have hnext : ∀ l v' w', spelt q s[j] = l → BOwn 5 w' w.heap.size v' (A ++ l) → BOwn 5 w' w.heap.size v' ([q] ++ (s.data.toList.take (j + 1)).flatMap (spelt q)) := by
        rintro l v' w' rfl h
        rw [HFT.out, ← List.append_assoc, HA.out]; exact h
      clear hft hfb hbl hA
      generalize hc : s[j] = c at *
      by_cases h1 : c = q ∨ c = 92
      · have hR : spelt q c = [92, c] := by rw [spelt, if_pos h1]
        have hn2 := hnext [92, c]
        clear hnext
        by_cases hq : c = q
        · have t1 := u8_eq c q hq
          clear hq h1
          go_wp2_with (at_builtin; refine wpList_append_bytes rfl (.tmp 26) (.tmp 28) rfl w.heap.size _ A rfl hown [92, c] _ rfl 2 rfl rfl (by simp; omega) hle ?_; intro v' w' ho' hb' hl')
          go_roundw
          case rel => exact ⟨j + 1, by omega, by simp, hn2 v' w' hR ho', hb.trans hb', hl'⟩
          case measure => simp only [intOf]; omega
        · have t1 := u8_ne c q hq
          have t2 : ((c.toNat : Int) == 92) = true := u8_eqn c 92 (by omega) (h1.resolve_left hq)
          clear hq h1
          go_wp2_with (at_builtin; refine wpList_append_bytes rfl (.tmp 26) (.tmp 28) rfl w.heap.size _ A rfl hown [92, c] _ rfl 2 rfl rfl (by simp; omega) hle ?_; intro v' w' ho' hb' hl')
          go_roundw
          case rel => exact ⟨j + 1, by omega, by simp, hn2 v' w' hR ho', hb.trans hb', hl'⟩
          case measure => simp only [intOf]; omega
      · have t1 := u8_ne c q (fun e => h1 (.inl e))
        have t2 : ((c.toNat : Int) == 92) = false := u8_nen c 92 (fun e => h1 (.inr e))
        by_cases h3 : 32 ≤ c.toNat ∧ c.toNat ≤ 126
        · have hR : spelt q c = [c] := by rw [spelt, if_neg h1, if_pos h3]
          have t3 : decide ((32 : Int) ≤ (c.toNat : Int)) = true := decide_eq_true (by omega)
          have t4 : decide ((c.toNat : Int) ≤ 126) = true := decide_eq_true (by omega)
          have hn2 := hnext [c]
          clear hnext h1 h3
          go_wp2_with (at_builtin; refine wpList_append_bytes rfl (.tmp 36) (.tmp 38) rfl w.heap.size _ A rfl hown [c] _ rfl 1 rfl rfl (by simp; omega) hle ?_; intro v' w' ho' hb' hl')
          go_roundw
          case rel => exact ⟨j + 1, by omega, by simp, hn2 v' w' hR ho', hb.trans hb', hl'⟩
          case measure => simp only [intOf]; omega
        · have hR : spelt q c = [92, 120, hexD (c.toNat / 16), hexD (c.toNat % 16)] := by rw [spelt, if_neg h1, if_neg h3]; rfl
          have hn2 := hnext [92, 120, hexD (c.toNat / 16), hexD (c.toNat % 16)]
          have e1 := tdiv_q c
          have e2 := tmod_q c
          have e3 : (c.toNat : Int) / 16 = ((c.toNat / 16 : Nat) : Int) := by omega
          have e4 : (c.toNat : Int) % 16 = ((c.toNat % 16 : Nat) : Int) := by omega
          have b1 : c.toNat / 16 < 16 := by have := c.toNat_lt; omega
          have b2 : c.toNat % 16 < 16 := by omega
          have b3 : c.toNat < 256 := c.toNat_lt
          have hd1 := fun w => (rdigit_q (c.toNat / 16) b1 w).mono (R' := fun e w' => e = .returned (.int .u8 ((hexD (c.toNat / 16)).toNat : Int)) ∧ w = w') fun _ _ h => ⟨h.1, h.2.symm⟩
          have hd2 := fun w => (rdigit_q (c.toNat % 16) b2 w).mono (R' := fun e w' => e = .returned (.int .u8 ((hexD (c.toNat % 16)).toNat : Int)) ∧ w = w') fun _ _ h => ⟨h.1, h.2.symm⟩
          have hcases : decide ((32 : Int) ≤ (c.toNat : Int)) = false ∨ (decide ((32 : Int) ≤ (c.toNat : Int)) = true ∧ decide ((c.toNat : Int) ≤ 126) = false) := by
            by_cases h4 : 32 ≤ c.toNat
            · exact .inr ⟨decide_eq_true (by omega), decide_eq_false (by omega)⟩
            · exact .inl (decide_eq_false (by omega))
          generalize c.toNat / 16 = H1 at *
          generalize c.toNat % 16 = L1 at *
          clear hnext h1 h3
          rcases hcases with t3 | ⟨t3, t4⟩
          all_goals
            go_wp2_with fail
            refine (hd1 _).mono ?_
            rintro _ _ ⟨rfl, rfl⟩
            go_wp2_with fail
            refine (hd2 _).mono ?_
            rintro _ _ ⟨rfl, rfl⟩
            go_wp2_with (at_builtin; refine wpList_append_bytes rfl (.tmp 40) (.tmp 49) rfl w.heap.size _ A rfl hown [92, 120, hexD H1, hexD L1] _ rfl 4 rfl rfl (by simp; omega) hle ?_; intro v' w' ho' hb' hl')
            go_roundw
            case rel => exact ⟨j + 1, by omega, by simp, hn2 v' w' hR ho', hb.trans hb', hl'⟩
            case measure => simp only [intOf]; omega
    · have hbl := hfb j
      rw [flat_all (spelt q) s j hlt] at hown hbl
      have hlen : ([q] ++ s.data.toList.flatMap (spelt q)).length + 1 ≤ 300000 := by simp only [List.length_append, List.length_cons, List.length_nil]; omega
      generalize hA : [q] ++ s.data.toList.flatMap (spelt q) = A at *
      have HA : Hid _ := hA
      clear hA hfb hbl
      go_wp2_with (at_builtin; refine wpList_append_bytes rfl (.tmp 51) (.tmp 53) rfl w.heap.size _ A rfl hown [q] _ rfl 1 rfl rfl (by simp; omega) hle ?_; intro v' w' ho' hb' hl')
      go_ret
      refine ⟨v', rfl, ?_, hb.trans hb'⟩
      rw [← HA.out] at ho'
      simpa using ho'
end Go.Proofs.Ytffhbellpcneeaa

namespace Go.Proofs.Ytffhbellpcneeaa
open Go.RowKit Go.Vf

theorem say_unh {a b : UInt8} (ha : isHex a = true) (hb : isHex b = true) : IntKind.u8.wrap (16 * sayV a + sayV b) = ((unh a b).toNat : Int) ∧ 0 ≤ sayV a ∧ sayV a ≤ 15 ∧ 0 ≤ sayV b ∧ sayV b ≤ 15 := by
  have := all_bytes (P := fun a => !isHex a || (List.range 256).all fun n => !isHex (UInt8.ofNat n) || (IntKind.u8.wrap (16 * sayV a + sayV (UInt8.ofNat n)) == ((unh a (UInt8.ofNat n)).toNat : Int) && decide (0 ≤ sayV a) && decide (sayV a ≤ 15) && decide (0 ≤ sayV (UInt8.ofNat n)) && decide (sayV (UInt8.ofNat n) ≤ 15))) (by kernel_rfl) a
  rw [ha] at this
  have := all_bytes (P := fun b => !isHex b || (IntKind.u8.wrap (16 * sayV a + sayV b) == ((unh a b).toNat : Int) && decide (0 ≤ sayV a) && decide (sayV a ≤ 15) && decide (0 ≤ sayV b) && decide (sayV b ≤ 15))) (by simpa only [Bool.not_true, Bool.false_or] using this) b
  rw [hb] at this
  simp only [Bool.not_true, Bool.false_or, Bool.and_eq_true, beq_iff_eq, decide_eq_true_iff] at this
  obtain ⟨⟨⟨⟨h1, h2⟩, h3⟩, h4⟩, h5⟩ := this
  exact ⟨h1, h2, h3, h4, h5⟩

set_option maxHeartbeats 2000000 in
set_option maxRecDepth 20000 in
theorem rbytesOf_any (s : ByteArray) (hs : s.size ≤ 65536) (he : s.size % 2 = 0) (hx : ∀ k (h : k < s.size), isHex s[k] = true) (w : World) :
    Calls Try.prog 57 #[.string s] w fun e w' => e = .returned (.string (bs (unhex s.data.toList))) ∧ Below w.heap.size w w' := by
  obtain ⟨N, hN⟩ : ∃ N, s.size = 2 * N := ⟨s.size / 2, by omega⟩
  have HX : Hid (∀ k (h : k < s.size), isHex s[k] = true) := hx
  obtain ⟨X, hX⟩ : ∃ X, bs (unhex s.data.toList) = X := ⟨_, rfl⟩
  rw [hX]
  have HV : Hid (bs (unhex s.data.toList) = X) := hX
  clear hx he hX
  go_enter Try.func57, Try.ntmps57
  go_wp2_with fail
  go_loopw [3, 4] (fun v iv wr => ∃ j : Nat, j ≤ N ∧ iv = .int .i64 ((2 * j : Nat) : Int) ∧ BOwn 5 wr w.heap.size v (unhex (s.data.toList.take (2 * j))) ∧ Below w.heap.size w wr ∧ w.heap.size ≤ wr.heap.size) (fun _ iv _ => s.size - (intOf iv).toNat)
  case atStart => exact ⟨0, Nat.zero_le _, rfl, by simpa [unhex] using BOwn.nil 5 _ _, Below.refl _ _, Nat.le_refl _⟩
  case round =>
    obtain ⟨j, hj, rfl, hown, hb, hle⟩ := hrel
    have hlen : (unhex (s.data.toList.take (2 * j))).length = j := by
      rw [unhex_length, List.length_take, ← Lib.size_eq]; omega
    by_cases hlt : j < N
    · have hz : 2 * j + 1 < s.size := by omega
      have hT := unhex_take s j hz
      obtain ⟨hu, a0, a1, b0, b1⟩ := say_unh (HX.out (2 * j) (by omega)) (HX.out (2 * j + 1) hz)
      have hA := says_any s[2 * j]
      have hB := says_any s[2 * j + 1]
      obtain ⟨A, eA⟩ : ∃ A, unhex (s.data.toList.take (2 * j)) = A := ⟨_, rfl⟩
      rw [eA] at hT hown hlen
      have HT : Hid _ := hT
      have hn2 : ∀ v' w', BOwn 5 w' w.heap.size v' (A ++ [unh s[2 * j] s[2 * j + 1]]) → BOwn 5 w' w.heap.size v' (unhex (s.data.toList.take (2 * (j + 1)))) := fun v' w' h => by rw [HT.out]; exact h
      clear hT eA HT
      generalize unh s[2 * j] s[2 * j + 1] = U at *
      obtain ⟨VA, eVA⟩ : ∃ VA, sayV s[2 * j] = VA := ⟨_, rfl⟩
      obtain ⟨VB, eVB⟩ : ∃ VB, sayV s[2 * j + 1] = VB := ⟨_, rfl⟩
      rw [eVA] at hA hu a0 a1
      rw [eVB] at hB hu b0 b1
      clear eVA eVB
      obtain ⟨m, hm⟩ : ∃ m, m = 2 * j := ⟨_, rfl⟩
      have HM : Hid (m = 2 * j) := hm
      simp only [← hm] at hA hB hz ⊢
      have i0 : m < s.size := Nat.lt_of_succ_lt hz
      have hA1 : ∀ w, Calls Try.prog 77 #[.int .u8 ((s[m]'i0).toNat : Int)] w fun e w' => e = .returned (.int .i64 VA) ∧ w' = w := hA
      have hB1 : ∀ w, Calls Try.prog 77 #[.int .u8 ((s[m + 1]'hz).toNat : Int)] w fun e w' => e = .returned (.int .i64 VB) ∧ w' = w := hB
      clear hA hB hm
      have t0 : decide ((m : Int) + 1 < (s.size : Int)) = true := decide_eq_true (by omega)
      have hAl : A.length ≤ 65536 := by omega
      have hj2 : j + 1 ≤ N := by omega
      clear hlen hlt hN
      go_wp2_with fail
      refine (hA1 _).mono ?_
      rintro _ _ ⟨rfl, rfl⟩
      go_wp2_with fail
      refine (hB1 _).mono ?_
      rintro _ _ ⟨rfl, rfl⟩
      go_wp2_with (at_builtin; refine wpList_append_bytes rfl (.tmp 23) (.tmp 29) rfl w.heap.size _ A rfl hown [U] _ rfl 1 rfl rfl (by simp; omega) hle ?_; intro v' w' ho' hb' hl')
      go_roundw
      case rel => exact ⟨j + 1, hj2, by have := HM.out; simp; omega, hn2 v' w' ho', hb.trans hb', hl'⟩
      case measure => have := HM.out; simp only [intOf]; omega
    · have hjN : j = N := by omega
      have hlist : s.data.toList.take (2 * j) = s.data.toList := List.take_of_length_le (by rw [← Lib.size_eq]; omega)
      rw [hlist] at hown
      have hcv := run_string_own (P := Try.prog) wr 61 9 5 Try.underlying61 Try.underlying5 Try.underlying9 w.heap.size _ _ hown
      obtain ⟨av, cv, rfl⟩ := row_val hown
      have tf : decide (((2 * j : Nat) : Int) + 1 < (s.size : Int)) = false := decide_eq_false (by omega)
      obtain ⟨m, hm⟩ : ∃ m, m = 2 * j := ⟨_, rfl⟩
      rw [← hm] at tf ⊢
      have hmb : m ≤ 65536 := by omega
      rw [HV.out] at hcv
      clear hown hlist hm hjN hlen hN
      generalize (unhex s.data.toList).length = L at *
      go_wp2_with fail
      go_ret
      exact ⟨rfl, hb⟩
end Go.Proofs.Ytffhbellpcneeaa
