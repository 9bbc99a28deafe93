/- Contracts and lemmas (nothing is claimed here). -/
import Derived.Test.YtghjmfpjaabilaaGreatDoorJ29
import Derived.Test.YtghjmfpjaabilaaGreatDoorJ2
import Derived.Lib.AppendStr
import Derived.Test.YtghjmfpjaabilaaGreatDoorSLin
namespace Go.Proofs.YtghjmfpjaabilaaGreatDoor
open Go.RowKit Go.Vf

theorem row_valR {w : World} {base : Nat} {e : TypeId} {size : Nat} {v : Value} {k : Nat} {xs : List Value} (h : w.ownsRow base e size v k xs) : ∃ a cap, v = .slice a k cap := by
  rcases h.2 with ⟨rfl, rfl⟩ | ⟨g, cap, cur, rfl, _⟩
  · exact ⟨_, _, rfl⟩
  · exact ⟨_, _, rfl⟩
theorem own_ne_blkR {w : World} {base : Nat} {e t : TypeId} {size k b : Nat} {v : Value} {xs : List Value} {cs : Array Value} (h : w.ownsRow base e size v k xs) (hb : Blk w b t cs) (hne : e ≠ t) : some b ≠ v.ownBlock := fun hv => by
  obtain ⟨_, c1, f1, g1⟩ := own_ge h hv.symm
  rw [show w.heap[b]? = _ from hb] at g1
  simp only [Option.some.injEq, Obj.cells.injEq] at g1
  exact hne g1.2.1.symm
theorem bown_afterR {e : TypeId} {w w' : World} {base : Nat} {v : Value} {acc : List UInt8} (h : BOwn e w base v acc) (hb : Below w.heap.size w w') : BOwn e w' base v acc := own_after h hb
theorem bown_valR {e : TypeId} {w : World} {base : Nat} {v : Value} {acc : List UInt8} (h : BOwn e w base v acc) : ∃ a cap, v = .slice a acc.length cap := row_valR h
theorem KO.allocR {w w' : World} (h : KO w w') (o : Obj) : KO w (w'.alloc o) := fun j t cs ht hj => (Below.heap_alloc w' o j (h j t cs ht hj).lt).trans (h j t cs ht hj)
theorem KO.grownR {w w' : World} {base : Nat} {v : Value} {acc : List UInt8} (hown : BOwn 5 w base v acc) (hg : w.grownBy w' v.ownBlock) : KO w w' := fun j _ _ ht hj => (hg.block j hj.lt (own_ne_blkR hown hj (fun e => ht e.symm))).trans hj

/-- 'out = append(out, b)'. -/
theorem wpList_append_byteR {w : World} {ops : Array Oper} {rest : List Oper} {o : Oper} {a : Act} {Q : Exit → Act → World → Prop} (hgd : o.guard = none) (s x : Operand)
    (ho : o.op = .call { callee := .builtin .append, args := #[s, x], argTypes := #[56, 56] })
    (base : Nat) (v : Value) (acc : List UInt8) (hs : a.eval s = v) (hown : BOwn 5 w base v acc) (b : UInt8) (n : Int) (hn : n = (b.toNat : Int)) (c : Nat) (hx : a.eval x = .slice (some ⟨w.heap.size, 0, none⟩) 1 c)
    (hlen : acc.length ≤ 1099511627776) (hbase : base ≤ w.heap.size) (w0 : World) (hb : Below base w0 w) (hk : KO w0 w)
    (h : ∀ v' w', BOwn 5 w' base v' (acc ++ [b]) → Below base w0 w' → base ≤ w'.heap.size → KO w0 w' → wpList Tryz.prog ops Q rest (a.put o.dst v') w') :
    wpList Tryz.prog ops Q (o :: rest) a (w.alloc (.cells #[.int .u8 n] 5)) := by
  subst hn
  obtain ⟨i, hi, hz, hsz, hby⟩ := info_parts info5b
  refine wpList_append_own (P := Tryz.prog) _ hgd s x 56 ho base 5 i (.int .u8 0) 1 1 Tryz.underlying56 hi hz hsz hby rfl (by decide) v acc.length (cellsL acc) hs (BOwn.alloc hown _) ⟨w.heap.size, 0, none⟩ 1 c [.int .u8 (b.toNat : Int)] hx rfl ?_ ?_ ?_ ?_ ?_ ?_
  · intro j u hj
    match j, hj with
    | 0, hj => simp at hj; subst hj; simp [Addr.add]
  · intro u hu; simp at hu; subst hu; rfl
  · unfold maxLen; omega
  · omega
  · simp; omega
  · intro v' w' h1 h2 _
    refine h v' w' ?_ ?_ ?_ ?_
    · unfold BOwn
      have e1 : cellsL (acc ++ [b]) = cellsL acc ++ [.int .u8 (b.toNat : Int)] := by simp [cellsL]
      rw [e1, List.length_append]
      exact h1
    · exact (hb.alloc hbase _).grown h2 (by simp; omega) (fun k hk => (World.ownsRow.lt (BOwn.alloc hown (.cells #[.int .u8 (b.toNat : Int)] 5)) k hk).1)
    · have := h2.size; simp at this; omega
    · exact (hk.allocR _).trans (KO.grownR (BOwn.alloc hown _) h2)

/-- 'out = append(out, s...)' of a string. -/
theorem wpList_append_textR {w : World} {ops : Array Oper} {rest : List Oper} {o : Oper} {a : Act} {Q : Exit → Act → World → Prop} (hgd : o.guard = none) (sl x : Operand)
    (ho : o.op = .call { callee := .builtin .append, args := #[sl, x], argTypes := #[56, 9] }) (base : Nat) (v : Value) (acc : List UInt8) (hs : a.eval sl = v) (hown : BOwn 5 w base v acc) (l : List UInt8) (hx : a.eval x = .string (bs l))
    (hlen : acc.length + l.length ≤ 1099511627776) (hbase : base ≤ w.heap.size)
    (h : ∀ v' w', BOwn 5 w' base v' (acc ++ l) → Below base w w' → base ≤ w'.heap.size → KO w w' → wpList Tryz.prog ops Q rest (a.put o.dst v') w') : wpList Tryz.prog ops Q (o :: rest) a w := by
  obtain ⟨i, hi, hz, hsz, hby⟩ := info_parts info5b
  have hsl : (bs l).size = l.length := bs_size l
  refine Lib.wpList_append_own_string (P := Tryz.prog) w hgd sl x 56 9 ho base 5 i Tryz.underlying56 Tryz.underlying9 hi hz hsz hby v acc.length (cellsL acc) hs hown (bs l) hx (by rw [hsl]; unfold maxLen; omega) (by rw [hsl]; omega) hbase ?_
  intro v' w' h1 h2 _
  refine h v' w' ?_ ((Below.refl base w).grown h2 hbase (fun j hj => (own_ge hown hj).1)) (Nat.le_trans hbase h2.size) (KO.grownR hown h2)
  unfold BOwn
  rw [hsl] at h1
  rw [List.length_append]
  have e : cellsL (acc ++ l) = cellsL acc ++ Lib.strCells (bs l) := by simp [cellsL, Lib.strCells, bs]
  rw [e]
  exact h1

theorem pick_any (z : Int) (h0 : -9223372036854775808 ≤ z) (h1 : z ≤ 9223372036854775807) (w : World) : Calls Tryz.prog 14 #[.int .i64 z, .int .i64 5] w fun e w' => e = .returned (.int .i64 (pickN z : Int)) ∧ w = w' := by
  by_cases hz : z < 0
  · have t1 : decide (z < 0) = true := decide_eq_true hz
    have e1 : IntKind.i64.wrap (z + 1) = z + 1 := IntWalk.i64_in _ (by omega)
    have e2 : IntKind.i64.wrap (-(z + 1)) = -(z + 1) := IntWalk.i64_in _ (by omega)
    have e3 : Int.tmod (-(z + 1)) 5 = (pickN z : Int) := by unfold pickN; rw [if_pos hz]; rw [Int.tmod_eq_emod_of_nonneg (by omega)]; omega
    have e4 : IntKind.i64.wrap (Int.tmod (-(z + 1)) 5) = (pickN z : Int) := by rw [e3]; exact IntWalk.i64_in _ (by have : pickN z < 5 := Nat.mod_lt _ (by omega); omega)
    generalize pickN z = p at *
    go_enter Tryz.func14, Tryz.ntmps14
    go_wp2
    go_ret
    exact ⟨rfl, rfl⟩
  · have t1 : decide (z < 0) = false := decide_eq_false hz
    have e3 : Int.tmod z 5 = (pickN z : Int) := by unfold pickN; rw [if_neg hz]; rw [Int.tmod_eq_emod_of_nonneg (by omega)]; omega
    have e4 : IntKind.i64.wrap (Int.tmod z 5) = (pickN z : Int) := by rw [e3]; exact IntWalk.i64_in _ (by have : pickN z < 5 := Nat.mod_lt _ (by omega); omega)
    generalize pickN z = p at *
    go_enter Tryz.func14, Tryz.ntmps14
    go_wp2
    go_ret
    exact ⟨rfl, rfl⟩
end Go.Proofs.YtghjmfpjaabilaaGreatDoor

namespace Go.Proofs.YtghjmfpjaabilaaGreatDoor
open Go.RowKit Go.Vf

theorem own_sameR {w w' : World} {base : Nat} {e : TypeId} {size : Nat} {v : Value} {k : Nat} {xs : List Value} (h : w.ownsRow base e size v k xs) (hs : ∀ j, v.ownBlock = some j → w'.heap[j]? = w.heap[j]?) : w'.ownsRow base e size v k xs := by
  obtain ⟨h1, h2⟩ := h
  refine ⟨h1, ?_⟩
  rcases h2 with h2 | ⟨g, cap, cur, rfl, e2, e3, e4⟩
  · exact .inl h2
  · exact .inr ⟨g, cap, cur, rfl, e2, (hs g rfl).trans e3, e4⟩
/-- Blanks and remarks in memory. -/
def RoomsAt (w : World) (a : Option Addr) (rs : List (Int × List UInt8)) : Prop :=
  ∀ k (_ : k < rs.length), ∃ b off, a = some ⟨b, off, none⟩ ∧ b < w.heap.size ∧ w.cell? ⟨b, off + k * 2, none⟩ = some (.int .i64 rs[k].1) ∧ w.cell? ⟨b, off + k * 2 + 1, none⟩ = some (.string (bs rs[k].2))
theorem RoomsAt.old {w w' : World} {a : Option Addr} {rs : List (Int × List UInt8)} (h : RoomsAt w a rs) (hb : Below w.heap.size w w') : RoomsAt w' a rs := by
  intro k hk
  obtain ⟨b, off, h1, h2, h3, h4⟩ := h k hk
  exact ⟨b, off, h1, Nat.lt_of_lt_of_le h2 hb.size, (hb.cell (p := ⟨b, _, none⟩) h2).trans h3, (hb.cell (p := ⟨b, _, none⟩) h2).trans h4⟩
theorem putR_len (c : UInt8) (n : Nat) (ws : List UInt8) (hn : n < 5) : (putR c n ws).length ≤ 50 := by
  unfold putR
  have h1 := List.length_filter_le (· != 10) (ws.take 30)
  have h2 : (ws.take 30).length ≤ 30 := by simp; omega
  simp only [List.length_append, List.length_cons, List.length_nil]
  have a1 : (if c = 32 ∧ n < 3 then List.replicate n (32 : UInt8) else []).length ≤ 4 := by split <;> simp; omega
  have a2 : (if c = 10 then List.replicate n (32 : UInt8) ++ (if 1 < n then 35 :: (ws.take 30).filter (· != 10) else []) ++ (if n = 4 then [10, 32, 32, 35, 32] else []) else []).length ≤ 45 := by
    split
    · simp only [List.length_append, List.length_replicate]
      have b1 : (if 1 < n then 35 :: (ws.take 30).filter (· != 10) else []).length ≤ 31 := by split <;> simp only [List.length_cons, List.length_nil] <;> omega
      have b2 : (if n = 4 then ([10, 32, 32, 35, 32] : List UInt8) else []).length ≤ 5 := by split <;> simp
      omega
    · simp
  omega
theorem roomL_at {t : List UInt8} {rs : List (Int × List UInt8)} {i k : Nat} (hi : i < t.length) (hk : k < rs.length) : roomL (t.drop i) (rs.drop k) = putR t[i] (pickN rs[k].1) rs[k].2 ++ roomL (t.drop (i + 1)) (rs.drop (k + 1)) := by
  rw [List.drop_eq_getElem_cons hi, List.drop_eq_getElem_cons hk, roomL]
theorem roomL_past {t : List UInt8} {rs : List (Int × List UInt8)} {i k : Nat} (hi : i < t.length) (hk : rs.length ≤ k) : roomL (t.drop i) (rs.drop k) = putR t[i] (pickN 0) [] ++ roomL (t.drop (i + 1)) (rs.drop k) := by
  rw [List.drop_eq_getElem_cons hi, List.drop_of_length_le hk, roomL]
  rfl
/-- The remark's signs from a place on. -/
theorem rest_at {ws : List UInt8} {j : Nat} (h : j < ws.length) (h30 : j < 30) : ((ws.take 30).drop j).filter (· != 10) = (if ws[j] != 10 then [ws[j]] else []) ++ ((ws.take 30).drop (j + 1)).filter (· != 10) := by
  have hj : j < (ws.take 30).length := by simp; omega
  rw [List.drop_eq_getElem_cons hj, List.filter_cons]
  simp only [List.getElem_take]
  split <;> simp
theorem rest_end {ws : List UInt8} {j : Nat} (h : ws.length ≤ j ∨ 30 ≤ j) : ((ws.take 30).drop j).filter (· != 10) = [] := by
  rw [List.drop_of_length_le (by simp; omega)]; rfl
theorem blanks3 {n : Nat} (h : n < 3) : (⟨#[32, 32, 32]⟩ : ByteArray).extract 0 n = bs (List.replicate n 32) := by
  obtain rfl | rfl | rfl : n = 0 ∨ n = 1 ∨ n = 2 := by omega
  all_goals rfl
theorem blanks5 {n : Nat} (h : n < 5) : (⟨#[32, 32, 32, 32, 32]⟩ : ByteArray).extract 0 n = bs (List.replicate n 32) := by
  obtain rfl | rfl | rfl | rfl | rfl : n = 0 ∨ n = 1 ∨ n = 2 ∨ n = 3 ∨ n = 4 := by omega
  all_goals rfl
set_option maxHeartbeats 4000000 in
set_option maxRecDepth 20000 in
theorem roomy_any (t : List UInt8) (ht : t.length ≤ 65536) (rs : List (Int × List UInt8)) (hrl : rs.length ≤ 281474976710656) (hz : ∀ r ∈ rs, -9223372036854775808 ≤ r.1 ∧ r.1 ≤ 9223372036854775807 ∧ r.2.length ≤ 281474976710656) (a : Option Addr) (c : Nat) (w : World) (hR : RoomsAt w a rs) :
    Calls Tryz.prog 7 #[.string (bs t), .slice a rs.length c] w fun e w' => e = .returned (.string (bs (roomL t rs))) ∧ Below w.heap.size w w' := by
  obtain ⟨R, hRd⟩ : ∃ R, roomL t rs = R := ⟨_, rfl⟩
  rw [hRd]
  have HR0 : Hid ([] ++ roomL (t.drop 0) (rs.drop 0) = R) := by show _ = _; simpa using hRd
  obtain ⟨rl, hrd⟩ : ∃ rl, rs.length = rl := ⟨_, rfl⟩
  have HRL : Hid (rs.length = rl) := hrd
  rw [hrd] at hrl ⊢
  obtain ⟨T, hT⟩ : ∃ T, bs t = T := ⟨_, rfl⟩
  have HT : Hid (bs t = T) := hT
  have htz : T.size ≤ 65536 := by rw [← hT, bs_size]; exact ht
  have HTZ : Hid (T.size = t.length) := by show _ = _; rw [← hT, bs_size]
  rw [hT]
  have HRM : Hid (RoomsAt w a rs) := hR
  have HZ : Hid (∀ r ∈ rs, -9223372036854775808 ≤ r.1 ∧ r.1 ≤ 9223372036854775807 ∧ r.2.length ≤ 281474976710656) := hz
  clear hR hz hRd hrd hT
  go_enter Tryz.func7, Tryz.ntmps7
  go_wp2_with fail
  go_loopw [5, 6, 7] (fun v kv iv wr => ∃ (i k : Nat) (ac : List UInt8) (av : Option Addr) (cv : Nat), i ≤ T.size ∧ iv = .int .i64 (i : Int) ∧ k ≤ rl ∧ kv = .int .i64 (k : Int) ∧ v = .slice av ac.length cv ∧ Hid (BOwn 5 wr w.heap.size (.slice av ac.length cv) ac) ∧ Hid (ac ++ roomL (t.drop i) (rs.drop k) = R) ∧ ac.length ≤ 50 * i ∧ Below w.heap.size w wr ∧ w.heap.size ≤ wr.heap.size) (fun _ _ iv _ => T.size - (intOf iv).toNat)
  case atStart => exact ⟨0, 0, [], none, 0, Nat.zero_le _, rfl, Nat.zero_le _, rfl, rfl, BOwn.nil _ _ _, HR0, by simp, Below.refl _ _, Nat.le_refl _⟩
  case round =>
    clear HR0
    obtain ⟨i, k, ac, av, cv, hi, rfl, hk, rfl, rfl, HOW, HR, hal, hb, hbs⟩ := hrel
    by_cases hlt : i < T.size
    · have tl : decide ((i : Int) < (T.size : Int)) = true := decide_eq_true (by omega)
      have tl2 : decide (i < T.size) = true := decide_eq_true hlt
      have hit : i < t.length := by rw [← HTZ.out]; exact hlt
      have hb1 := (Below.refl wr.heap.size wr).alloc (Nat.le_refl _) (.cells #[.int .i64 0, .string ⟨#[]⟩] 58)
      have hN1 := Blk.new wr 58 #[.int .i64 0, .string ⟨#[]⟩]
      go_upto_region 7 with fail
      have HO1 : Hid (BOwn 5 (wr.alloc (.cells #[.int .i64 0, .string ⟨#[]⟩] 58)) w.heap.size (.slice av ac.length cv) ac) := bown_afterR HOW.out hb1
      have hs1 := hb1.size
      have hb01 : Below w.heap.size w (wr.alloc (.cells #[.int .i64 0, .string ⟨#[]⟩] 58)) := hb.trans (hb1.mono hbs)
      generalize wr.alloc (.cells #[.int .i64 0, .string ⟨#[]⟩] 58) = w1 at *
      obtain ⟨X, hX⟩ : ∃ X, wr.heap.size = X := ⟨_, rfl⟩
      have hXw : w.heap.size ≤ X := by rw [← hX]; exact hbs
      rw [hX] at hN1 hs1 ⊢
      clear hb1 HOW hb hbs hX
      have hs01 : w.heap.size ≤ w1.heap.size := by omega
      go_upto_if 21 with fail
      go_cut [6] from 22 to 27 (fun kv wx => ∃ (k2 : Nat) (z : Int) (ws : List UInt8), kv = .int .i64 (k2 : Int) ∧ k2 ≤ rl ∧ Blk wx X 58 #[.int .i64 z, .string (bs ws)] ∧ -9223372036854775808 ≤ z ∧ z ≤ 9223372036854775807 ∧ ws.length ≤ 281474976710656 ∧ BOwn 5 wx w.heap.size (.slice av ac.length cv) ac ∧ Below w.heap.size w wx ∧ w.heap.size ≤ wx.heap.size ∧ ac ++ (putR (t[i]'hit) (pickN z) ws ++ roomL (t.drop (i + 1)) (rs.drop k2)) = R)
      case first =>
        by_cases hkl : k < rl
        · have tk : decide ((k : Int) < (rl : Int)) = true := decide_eq_true (by omega)
          have tk2 : decide (k < rl) = true := decide_eq_true hkl
          have hkr : k < rs.length := by rw [HRL.out]; exact hkl
          obtain ⟨b, off, ha, hbl, hc0, hc1⟩ := HRM.out k hkr
          have c0 : w1.cell? ⟨b, off + k * 2, none⟩ = some (.int .i64 rs[k].1) := (hb01.cell (p := ⟨b, _, none⟩) hbl).trans hc0
          have c1 : w1.cell? ⟨b, off + k * 2 + 1, none⟩ = some (.string (bs rs[k].2)) := (hb01.cell (p := ⟨b, _, none⟩) hbl).trans hc1
          have hzk := HZ.out rs[k] (List.getElem_mem hkr)
          have HRk : Hid (ac ++ (putR (t[i]'hit) (pickN rs[k].1) rs[k].2 ++ roomL (t.drop (i + 1)) (rs.drop (k + 1))) = R) := by show _ = _; rw [← roomL_at hit hkr]; exact HR.out
          have HZK : Hid (-9223372036854775808 ≤ rs[k].1 ∧ rs[k].1 ≤ 9223372036854775807 ∧ rs[k].2.length ≤ 281474976710656) := hzk
          obtain ⟨z, hz⟩ : ∃ z, rs[k].1 = z := ⟨_, rfl⟩
          obtain ⟨ws, hws⟩ : ∃ ws, rs[k].2 = ws := ⟨_, rfl⟩
          rw [hz, hws] at HRk HZK
          rw [hz] at c0
          rw [hws] at c1
          subst ha
          have hN0 : Hid (Blk w1 X 58 #[.int .i64 0, .string ⟨#[]⟩]) := hN1
          have n0 : w1.cell? ⟨X, 0, none⟩ = some (.int .i64 0) := hN1.cell 0
          have n1 : w1.cell? ⟨X, 1, none⟩ = some (.string ⟨#[]⟩) := hN1.cell 1
          have f0 : w1.frozen? ⟨X, 0, none⟩ = false := hN1.frozen 0
          have f1 : w1.frozen? ⟨X, 1, none⟩ = false := hN1.frozen 1
          clear hc0 hc1 hz hws hzk hN1
          go_wp2_with fail
          go_meet
          have hN2 : Blk ((w1.setCell ⟨X, 0, none⟩ (.int .i64 z)).setCell ⟨X, 1, none⟩ (.string (bs ws))) X 58 #[.int .i64 z, .string (bs ws)] := ((hN0.out).set 0 _).set 1 _
          have hb2 := (hb01.setCell (p := ⟨X, 0, none⟩) hXw (.int .i64 z)).setCell (p := ⟨X, 1, none⟩) hXw (.string (bs ws))
          refine ⟨k + 1, z, ws, by simp, by omega, hN2, HZK.out.1, HZK.out.2.1, HZK.out.2.2, ?_, hb2, hb2.size, HRk.out⟩
          refine own_sameR HO1.out fun j hj => ?_
          have hjX : j ≠ X := by rintro rfl; exact own_ne_blkR HO1.out hN0.out (by decide) hj.symm
          exact ((Oth.set X 0 w1 (.int .i64 z)).trans (Oth.set X 1 _ (.string (bs ws)))).block j (World.ownsRow.lt HO1.out j hj).2 hjX
        · have tk : decide ((k : Int) < (rl : Int)) = false := decide_eq_false (by omega)
          have tk2 : decide (k < rl) = false := decide_eq_false hkl
          have HRk : Hid (ac ++ (putR (t[i]'hit) (pickN 0) [] ++ roomL (t.drop (i + 1)) (rs.drop k)) = R) := by show _ = _; rw [← roomL_past hit (by rw [HRL.out]; omega)]; exact HR.out
          have HN0 : Hid (Blk w1 X 58 #[.int .i64 0, .string ⟨#[]⟩]) := hN1
          clear hN1
          go_wp2_with fail
          go_meet
          exact ⟨k, 0, [], rfl, hk, HN0.out, by omega, by omega, by simp, HO1.out, hb01, hs01, HRk.out⟩
      case rest =>
        obtain ⟨k2, z, ws, rfl, hk2, hNx, hz0, hz1, hwl, hox, hbx, hsx, hRx⟩ := hcut
        have hti : T[i] = t[i]'hit := by
          have := HT.out
          subst this
          simp [bs, ByteArray.getElem_eq_getElem_data]
        obtain ⟨ch, hch⟩ : ∃ ch, t[i]'hit = ch := ⟨_, rfl⟩
        rw [hch] at hRx hti
        have HCH : Hid (((T[i]'hlt).toNat : Int) = (ch.toNat : Int)) := by show _ = _; rw [hti]
        have hpk := pick_any z hz0 hz1
        have hn5 : pickN z < 5 := Nat.mod_lt _ (by omega)
        have x0 : wc.cell? ⟨X, 0, none⟩ = some (.int .i64 z) := hNx.cell 0
        have hpl := putR_len ch (pickN z) ws hn5
        generalize pickN z = n at *
        have HNx : Hid (Blk wc X 58 #[.int .i64 z, .string (bs ws)]) := hNx
        have HOx : Hid (BOwn 5 wc w.heap.size (.slice av ac.length cv) ac) := hox
        have HRx : Hid (ac ++ (putR ch n ws ++ roomL (t.drop (i + 1)) (rs.drop k2)) = R) := hRx
        clear HO1 hb01 hs1 hs01 HR hN1 hNx hox hRx hz0 hz1 hch
        go_wp2_with fail
        refine (hpk _).mono ?_
        clear hpk x0
        rintro _ _ ⟨rfl, rfl⟩
        have hci : (T[i]'hlt).toNat < 256 := (T[i]'hlt).toNat_lt
        clear hti
        have hk1 : KO w wc := KO.of_below hbx
        by_cases c32 : ch = 32
        · have tb : (((T[i]'hlt).toNat : Int) == 32) = true := by rw [HCH.out, c32]; rfl
          have td : (((T[i]'hlt).toNat : Int) == 10) = false := by rw [HCH.out, c32]; rfl
          by_cases h3 : n < 3
          · have t3 : decide ((n : Int) < 3) = true := decide_eq_true (by omega)
            have hn3 : (n : Int) ≤ 3 := by omega
            have HEQ : Hid (Value.string ((⟨#[32, 32, 32]⟩ : ByteArray).extract 0 n) = .string (bs (List.replicate n 32))) := by show _ = _; rw [blanks3 h3]
            have HR1 : Hid ((ac ++ List.replicate n 32) ++ ([ch] ++ roomL (t.drop (i + 1)) (rs.drop k2)) = R) := by
              show _ = _
              rw [← HRx.out, putR, if_pos ⟨c32, h3⟩, if_neg (by rw [c32]; decide)]; simp
            have HLa : Hid (ac.length + (List.replicate n (32 : UInt8)).length ≤ 1099511627776) := by show _ ≤ _; rw [List.length_replicate]; omega
            clear hk1 h3 c32
            go_upto_region 13 with (at_builtin; refine wpList_append_textR rfl _ _ rfl w.heap.size _ ac rfl HOx.out (List.replicate n 32) HEQ.out HLa.out hsx ?_; intro v1 w1 ho1 hb1' hs1 hk1')
            obtain ⟨a1, cp1, hv1⟩ := bown_valR ho1
            subst hv1
            have hb1 := hbx.trans hb1'
            have hk1 := (KO.of_below hbx).trans hk1'
            obtain ⟨ac1, hac1⟩ : ∃ ac1, ac ++ List.replicate n 32 = ac1 := ⟨_, rfl⟩
            have hl1 : ac1.length ≤ 50 * i + 4 := by rw [← hac1, List.length_append, List.length_replicate]; omega
            rw [hac1] at HR1 ho1 ⊢
            have HO1 : Hid (BOwn 5 w1 w.heap.size (.slice a1 ac1.length cp1) ac1) := ho1
            clear hac1 ho1 HEQ HLa hb1' hk1' HOx
            have HLe : Hid ((ac1).length ≤ 1099511627776) := by show _ ≤ _; omega
            go_wp2_with (at_builtin; refine wpList_append_byteR rfl _ _ rfl w.heap.size _ (ac1) rfl HO1.out ch _ HCH.out _ rfl HLe.out hs1 w hb1 hk1 ?_; intro ve we hoe hbe hse hke)
            obtain ⟨ae, ce, hve⟩ := bown_valR hoe
            subst hve
            go_roundw
            case rel => exact ⟨i + 1, k2, ac1 ++ [ch], ae, ce, by omega, by simp, hk2, rfl, rfl, hoe, by show _ = _; rw [List.append_assoc]; exact HR1.out, by simp only [List.length_append, List.length_singleton]; omega, hbe, hse⟩
            case measure => simp only [intOf]; omega
          · have t3 : decide ((n : Int) < 3) = false := decide_eq_false (by omega)
            have HR1 : Hid (ac ++ ([ch] ++ roomL (t.drop (i + 1)) (rs.drop k2)) = R) := by
              show _ = _
              rw [← HRx.out, putR, if_neg (by omega), if_neg (by rw [c32]; decide)]; simp
            clear h3 c32
            have HLe : Hid ((ac).length ≤ 1099511627776) := by show _ ≤ _; omega
            go_wp2_with (at_builtin; refine wpList_append_byteR rfl _ _ rfl w.heap.size _ (ac) rfl HOx.out ch _ HCH.out _ rfl HLe.out hsx w hbx hk1 ?_; intro ve we hoe hbe hse hke)
            obtain ⟨ae, ce, hve⟩ := bown_valR hoe
            subst hve
            go_roundw
            case rel => exact ⟨i + 1, k2, ac ++ [ch], ae, ce, by omega, by simp, hk2, rfl, rfl, hoe, by show _ = _; rw [List.append_assoc]; exact HR1.out, by simp only [List.length_append, List.length_singleton]; omega, hbe, hse⟩
            case measure => simp only [intOf]; omega
        · have tb : (((T[i]'hlt).toNat : Int) == 32) = false := by
            rw [HCH.out]
            exact beq_eq_false_iff_ne.2 (fun h => c32 (UInt8.toNat.inj (by rw [show (32 : UInt8).toNat = 32 from rfl]; omega)))
          by_cases c10 : ch = 10
          · have td : (((T[i]'hlt).toNat : Int) == 10) = true := by rw [HCH.out, c10]; rfl
            have hn5i : (n : Int) ≤ 5 := by omega
            have HEQ : Hid (Value.string ((⟨#[32, 32, 32, 32, 32]⟩ : ByteArray).extract 0 n) = .string (bs (List.replicate n 32))) := by show _ = _; rw [blanks5 hn5]
            have HRB : Hid ((ac ++ List.replicate n 32) ++ ((if 1 < n then 35 :: (ws.take 30).filter (· != 10) else []) ++ ((if n = 4 then [10, 32, 32, 35, 32] else []) ++ ([ch] ++ roomL (t.drop (i + 1)) (rs.drop k2)))) = R) := by
              show _ = _
              have hp : putR ch n ws = List.replicate n 32 ++ (if 1 < n then 35 :: (ws.take 30).filter (· != 10) else []) ++ (if n = 4 then [10, 32, 32, 35, 32] else []) ++ [ch] := by
                unfold putR
                rw [if_neg (fun h : ch = 32 ∧ n < 3 => c32 h.1), if_pos c10, List.nil_append]
              rw [← HRx.out, hp]; simp only [List.append_assoc]
            have HLa : Hid (ac.length + (List.replicate n (32 : UInt8)).length ≤ 1099511627776) := by show _ ≤ _; rw [List.length_replicate]; omega
            clear hk1 c32 c10 HRx
            go_upto_region 15 with (at_builtin; refine wpList_append_textR rfl _ _ rfl w.heap.size _ ac rfl HOx.out (List.replicate n 32) HEQ.out HLa.out hsx ?_; intro v1 w1 ho1 hb1' hs1 hk1')
            obtain ⟨a1, cp1, hv1⟩ := bown_valR ho1
            subst hv1
            have hb1 := hbx.trans hb1'
            have hk1 := (KO.of_below hbx).trans hk1'
            obtain ⟨ac1, hac1⟩ : ∃ ac1, ac ++ List.replicate n 32 = ac1 := ⟨_, rfl⟩
            have hl1 : ac1.length ≤ 50 * i + 4 := by rw [← hac1, List.length_append, List.length_replicate]; omega
            rw [hac1] at HRB ho1 ⊢
            have HO1 : Hid (BOwn 5 w1 w.heap.size (.slice a1 ac1.length cp1) ac1) := ho1
            have HN1 : Hid (Blk w1 X 58 #[.int .i64 z, .string (bs ws)]) := hk1' _ _ _ (by decide) HNx.out
            clear hac1 ho1 HEQ HLa hb1' hk1' HOx HNx hbx hsx
            by_cases h1 : 1 < n
            · have t1 : decide ((1 : Int) < (n : Int)) = true := decide_eq_true (by omega)
              have t1n : decide (1 < n) = true := decide_eq_true h1
              rw [if_pos h1] at HRB
              obtain ⟨WS, hWS⟩ : ∃ WS, bs ws = WS := ⟨_, rfl⟩
              have HWZ : Hid (WS.size = ws.length) := by show _ = _; rw [← hWS, bs_size]
              have HWS : Hid (∀ j (h : j < WS.size) (h2 : j < ws.length), WS[j]'h = ws[j]'h2) := by
                intro j h h2
                subst hWS
                simp [bs, ByteArray.getElem_eq_getElem_data]
              rw [hWS] at HN1
              have hWz : WS.size ≤ 281474976710656 := by rw [HWZ.out]; exact hwl
              have HLb : Hid (ac1.length ≤ 1099511627776) := by show _ ≤ _; omega
              clear h1 hWS
              go_upto_region 17 with (at_builtin; refine wpList_append_byteR rfl _ _ rfl w.heap.size _ ac1 rfl HO1.out 35 _ rfl _ rfl HLb.out hs1 w1 (Below.refl _ _) (KO.refl _) ?_; intro v2 w2 ho2 hb2' hs2 hk2')
              obtain ⟨a2, cp2, hv2⟩ := bown_valR ho2
              subst hv2
              have hb2 := hb1.trans hb2'
              have hkw2 := hk1.trans hk2'
              have HN2 : Hid (Blk w2 X 58 #[.int .i64 z, .string WS]) := hk2' _ _ _ (by decide) HN1.out
              obtain ⟨ac2, hac2⟩ : ∃ ac2, ac1 ++ [35] = ac2 := ⟨_, rfl⟩
              have hl2 : ac2.length ≤ 50 * i + 5 := by rw [← hac2, List.length_append, List.length_singleton]; omega
              have HRC : Hid (ac2 ++ (((ws.take 30).drop 0).filter (· != 10) ++ ((if n = 4 then [10, 32, 32, 35, 32] else []) ++ ([ch] ++ roomL (t.drop (i + 1)) (rs.drop k2)))) = R) := by
                show _ = _
                rw [← HRB.out, ← hac2]; simp
              rw [hac2] at ho2 ⊢
              have HO2 : Hid (BOwn 5 w2 w.heap.size (.slice a2 ac2.length cp2) ac2) := ho2
              clear hac2 ho2 hb2' hk2' HO1 HRB HN1 hb1 hk1 hs1 hl1 HLb
              go_wp2_with fail
              go_loopw [5, 10] (fun v jv wr => ∃ (j : Nat) (ad : List UInt8) (ax : Option Addr) (cx : Nat), j ≤ 30 ∧ j ≤ WS.size ∧ jv = .int .i64 (j : Int) ∧ v = .slice ax ad.length cx ∧ Hid (BOwn 5 wr w.heap.size (.slice ax ad.length cx) ad) ∧ Hid (ad ++ (((ws.take 30).drop j).filter (· != 10) ++ ((if n = 4 then [10, 32, 32, 35, 32] else []) ++ ([ch] ++ roomL (t.drop (i + 1)) (rs.drop k2)))) = R) ∧ ad.length ≤ 50 * i + 5 + j ∧ Below w.heap.size w wr ∧ w.heap.size ≤ wr.heap.size ∧ Hid (KO w wr) ∧ Hid (Blk wr X 58 #[.int .i64 z, .string WS])) (fun _ jv _ => 30 - (intOf jv).toNat)
              case atStart => exact ⟨0, ac2, a2, cp2, by omega, by omega, rfl, rfl, HO2, HRC, by omega, hb2, hs2, hkw2, HN2⟩
              case round =>
                clear HRC HO2 hl2 hb2 hs2 hkw2 HN2
                obtain ⟨j, ad, ax, cx, hj30, hjw, rfl, rfl, HOd, HRd, hld, hbd, hsd, HKd, HNd⟩ := hrel
                have n1 : wr.cell? ⟨X, 1, none⟩ = some (.string WS) := HNd.out.cell 1
                by_cases g1 : j < WS.size
                · have u1 : decide ((j : Int) < (WS.size : Int)) = true := decide_eq_true (by omega)
                  have u2 : decide (j < WS.size) = true := decide_eq_true g1
                  by_cases g2 : j < 30
                  · have u3 : decide ((j : Int) < 30) = true := decide_eq_true (by omega)
                    have g1' : j < ws.length := by rw [← HWZ.out]; exact g1
                    have he := HWS.out j g1 g1'
                    have hcj : (WS[j]'g1).toNat < 256 := (WS[j]'g1).toNat_lt
                    have hRj := HRd.out
                    rw [rest_at g1' g2, ← he] at hRj
                    by_cases hc : WS[j]'g1 = 10
                    · have tq : (((WS[j]'g1).toNat : Int) != 10) = false := by rw [hc]; rfl
                      have tq2 : (((WS[j]'g1).toNat : Int) == 10) = true := by rw [hc]; rfl
                      rw [if_neg (by simp [hc]), List.nil_append] at hRj
                      have HRj : Hid (ad ++ (((ws.take 30).drop (j + 1)).filter (· != 10) ++ ((if n = 4 then [10, 32, 32, 35, 32] else []) ++ ([ch] ++ roomL (t.drop (i + 1)) (rs.drop k2)))) = R) := hRj
                      clear hc hRj he HRd
                      go_wp2_with fail
                      go_roundw
                      case rel => exact ⟨j + 1, ad, ax, cx, by omega, by omega, by simp, rfl, HOd, HRj, by omega, hbd, hsd, HKd, HNd⟩
                      case measure => simp only [intOf]; omega
                    · have hne : ¬ (((WS[j]'g1).toNat : Int) = 10) := fun h => hc (UInt8.toNat.inj (by rw [show (10 : UInt8).toNat = 10 from rfl]; omega))
                      have tq : (((WS[j]'g1).toNat : Int) != 10) = true := by rw [bne, beq_eq_false_iff_ne.2 hne]; rfl
                      have tq2 : (((WS[j]'g1).toNat : Int) == 10) = false := beq_eq_false_iff_ne.2 hne
                      rw [if_pos (by simpa using hc)] at hRj
                      have HRj : Hid ((ad ++ [WS[j]'g1]) ++ (((ws.take 30).drop (j + 1)).filter (· != 10) ++ ((if n = 4 then [10, 32, 32, 35, 32] else []) ++ ([ch] ++ roomL (t.drop (i + 1)) (rs.drop k2)))) = R) := by show _ = _; rw [← hRj]; simp only [List.append_assoc]
                      have HLd : Hid (ad.length ≤ 1099511627776) := by show _ ≤ _; omega
                      have hkd := HKd.out
                      clear hc hRj he HRd hne
                      go_wp2_with (at_builtin; refine wpList_append_byteR rfl _ _ rfl w.heap.size _ ad rfl HOd.out (WS[j]'g1) _ rfl _ rfl HLd.out hsd wr (Below.refl _ _) (KO.refl _) ?_; intro v3 w3 ho3 hb3 hs3 hk3)
                      obtain ⟨a3, cp3, hv3⟩ := bown_valR ho3
                      subst hv3
                      go_roundw
                      case rel => exact ⟨j + 1, ad ++ [WS[j]'g1], a3, cp3, by omega, by omega, by simp, rfl, ho3, HRj, by simp only [List.length_append, List.length_singleton]; omega, hbd.trans hb3, hs3, hkd.trans hk3, hk3 _ _ _ (by decide) HNd.out⟩
                      case measure => simp only [intOf]; omega
                  · have u3 : decide ((j : Int) < 30) = false := decide_eq_false (by omega)
                    have HRE : Hid (ad ++ ((if n = 4 then [10, 32, 32, 35, 32] else []) ++ ([ch] ++ roomL (t.drop (i + 1)) (rs.drop k2))) = R) := by
                      show _ = _
                      rw [← HRd.out, rest_end (.inr (by omega)), List.nil_append]
                    clear HRd g2
                    by_cases h4 : n = 4
                    · have t4 : ((n : Int) == 4) = true := beq_iff_eq.2 (by omega)
                      have t4b : (n == 4) = true := beq_iff_eq.2 h4
                      have HRF : Hid ((ad ++ [10, 32, 32, 35, 32]) ++ ([ch] ++ roomL (t.drop (i + 1)) (rs.drop k2)) = R) := by
                        show _ = _
                        rw [← HRE.out, if_pos h4]; simp only [List.append_assoc]
                      have HLc : Hid (ad.length + ([10, 32, 32, 35, 32] : List UInt8).length ≤ 1099511627776) := by show _ ≤ _; simp; omega
                      have hn4 : n < 5 := hn5
                      clear h4 HRE
                      go_upto_region 24 with (at_builtin; refine wpList_append_textR rfl _ _ rfl w.heap.size _ ad rfl HOd.out [10, 32, 32, 35, 32] rfl HLc.out hsd ?_; intro v3 w3 ho3 hb3' hs3 hk3')
                      obtain ⟨a3, cp3, hv3⟩ := bown_valR ho3
                      subst hv3
                      have hb3 := hbd.trans hb3'
                      have hk3 := HKd.out.trans hk3'
                      obtain ⟨ac3, hac3⟩ : ∃ ac3, ad ++ [10, 32, 32, 35, 32] = ac3 := ⟨_, rfl⟩
                      have hl3 : ac3.length ≤ 50 * i + 40 := by rw [← hac3, List.length_append]; simp; omega
                      rw [hac3] at HRF ho3 ⊢
                      have HO3 : Hid (BOwn 5 w3 w.heap.size (.slice a3 ac3.length cp3) ac3) := ho3
                      clear hac3 ho3 hb3' hk3' HOd HLc
                      have HLe : Hid ((ac3).length ≤ 1099511627776) := by show _ ≤ _; omega
                      go_wp2_with (at_builtin; refine wpList_append_byteR rfl _ _ rfl w.heap.size _ (ac3) rfl HO3.out ch _ HCH.out _ rfl HLe.out hs3 w hb3 hk3 ?_; intro ve we hoe hbe hse hke)
                      obtain ⟨ae, ce, hve⟩ := bown_valR hoe
                      subst hve
                      go_roundw
                      case rel => exact ⟨i + 1, k2, ac3 ++ [ch], ae, ce, by omega, by simp, hk2, rfl, rfl, hoe, by show _ = _; rw [List.append_assoc]; exact HRF.out, by simp only [List.length_append, List.length_singleton]; omega, hbe, hse⟩
                      case measure => simp only [intOf]; omega
                    · have t4 : ((n : Int) == 4) = false := beq_eq_false_iff_ne.2 (by omega)
                      have t4b : (n == 4) = false := beq_eq_false_iff_ne.2 h4
                      have HRF : Hid (ad ++ ([ch] ++ roomL (t.drop (i + 1)) (rs.drop k2)) = R) := by
                        show _ = _
                        rw [← HRE.out, if_neg h4, List.nil_append]
                      have hkd := HKd.out
                      clear h4 HRE
                      have HLe : Hid ((ad).length ≤ 1099511627776) := by show _ ≤ _; omega
                      go_wp2_with (at_builtin; refine wpList_append_byteR rfl _ _ rfl w.heap.size _ (ad) rfl HOd.out ch _ HCH.out _ rfl HLe.out hsd w hbd hkd ?_; intro ve we hoe hbe hse hke)
                      obtain ⟨ae, ce, hve⟩ := bown_valR hoe
                      subst hve
                      go_roundw
                      case rel => exact ⟨i + 1, k2, ad ++ [ch], ae, ce, by omega, by simp, hk2, rfl, rfl, hoe, by show _ = _; rw [List.append_assoc]; exact HRF.out, by simp only [List.length_append, List.length_singleton]; omega, hbe, hse⟩
                      case measure => simp only [intOf]; omega
                · have u1 : decide ((j : Int) < (WS.size : Int)) = false := decide_eq_false (by omega)
                  have u2 : decide (j < WS.size) = false := decide_eq_false g1
                  have HRE : Hid (ad ++ ((if n = 4 then [10, 32, 32, 35, 32] else []) ++ ([ch] ++ roomL (t.drop (i + 1)) (rs.drop k2))) = R) := by
                    show _ = _
                    rw [← HRd.out, rest_end (.inl (by rw [← HWZ.out]; omega)), List.nil_append]
                  clear HRd g1
                  by_cases h4 : n = 4
                  · have t4 : ((n : Int) == 4) = true := beq_iff_eq.2 (by omega)
                    have t4b : (n == 4) = true := beq_iff_eq.2 h4
                    have HRF : Hid ((ad ++ [10, 32, 32, 35, 32]) ++ ([ch] ++ roomL (t.drop (i + 1)) (rs.drop k2)) = R) := by
                      show _ = _
                      rw [← HRE.out, if_pos h4]; simp only [List.append_assoc]
                    have HLc : Hid (ad.length + ([10, 32, 32, 35, 32] : List UInt8).length ≤ 1099511627776) := by show _ ≤ _; simp; omega
                    have hn4 : n < 5 := hn5
                    clear h4 HRE
                    go_upto_region 24 with (at_builtin; refine wpList_append_textR rfl _ _ rfl w.heap.size _ ad rfl HOd.out [10, 32, 32, 35, 32] rfl HLc.out hsd ?_; intro v3 w3 ho3 hb3' hs3 hk3')
                    obtain ⟨a3, cp3, hv3⟩ := bown_valR ho3
                    subst hv3
                    have hb3 := hbd.trans hb3'
                    have hk3 := HKd.out.trans hk3'
                    obtain ⟨ac3, hac3⟩ : ∃ ac3, ad ++ [10, 32, 32, 35, 32] = ac3 := ⟨_, rfl⟩
                    have hl3 : ac3.length ≤ 50 * i + 40 := by rw [← hac3, List.length_append]; simp; omega
                    rw [hac3] at HRF ho3 ⊢
                    have HO3 : Hid (BOwn 5 w3 w.heap.size (.slice a3 ac3.length cp3) ac3) := ho3
                    clear hac3 ho3 hb3' hk3' HOd HLc
                    have HLe : Hid ((ac3).length ≤ 1099511627776) := by show _ ≤ _; omega
                    go_wp2_with (at_builtin; refine wpList_append_byteR rfl _ _ rfl w.heap.size _ (ac3) rfl HO3.out ch _ HCH.out _ rfl HLe.out hs3 w hb3 hk3 ?_; intro ve we hoe hbe hse hke)
                    obtain ⟨ae, ce, hve⟩ := bown_valR hoe
                    subst hve
                    go_roundw
                    case rel => exact ⟨i + 1, k2, ac3 ++ [ch], ae, ce, by omega, by simp, hk2, rfl, rfl, hoe, by show _ = _; rw [List.append_assoc]; exact HRF.out, by simp only [List.length_append, List.length_singleton]; omega, hbe, hse⟩
                    case measure => simp only [intOf]; omega
                  · have t4 : ((n : Int) == 4) = false := beq_eq_false_iff_ne.2 (by omega)
                    have t4b : (n == 4) = false := beq_eq_false_iff_ne.2 h4
                    have HRF : Hid (ad ++ ([ch] ++ roomL (t.drop (i + 1)) (rs.drop k2)) = R) := by
                      show _ = _
                      rw [← HRE.out, if_neg h4, List.nil_append]
                    have hkd := HKd.out
                    clear h4 HRE
                    have HLe : Hid ((ad).length ≤ 1099511627776) := by show _ ≤ _; omega
                    go_wp2_with (at_builtin; refine wpList_append_byteR rfl _ _ rfl w.heap.size _ (ad) rfl HOd.out ch _ HCH.out _ rfl HLe.out hsd w hbd hkd ?_; intro ve we hoe hbe hse hke)
                    obtain ⟨ae, ce, hve⟩ := bown_valR hoe
                    subst hve
                    go_roundw
                    case rel => exact ⟨i + 1, k2, ad ++ [ch], ae, ce, by omega, by simp, hk2, rfl, rfl, hoe, by show _ = _; rw [List.append_assoc]; exact HRF.out, by simp only [List.length_append, List.length_singleton]; omega, hbe, hse⟩
                    case measure => simp only [intOf]; omega
            · have t1 : decide ((1 : Int) < (n : Int)) = false := decide_eq_false (by omega)
              have t1n : decide (1 < n) = false := decide_eq_false h1
              have t4 : ((n : Int) == 4) = false := beq_eq_false_iff_ne.2 (by omega)
              have t4d : decide ((n : Int) = 4) = false := decide_eq_false (by omega)
              have t4n : decide (n = 4) = false := decide_eq_false (by omega)
              have t4b : (n == 4) = false := beq_eq_false_iff_ne.2 (by omega)
              have HR1 : Hid (ac1 ++ ([ch] ++ roomL (t.drop (i + 1)) (rs.drop k2)) = R) := by
                show _ = _
                rw [← HRB.out, if_neg h1, if_neg (by omega)]; simp
              clear h1 HRB
              have HLe : Hid ((ac1).length ≤ 1099511627776) := by show _ ≤ _; omega
              go_wp2_with (at_builtin; refine wpList_append_byteR rfl _ _ rfl w.heap.size _ (ac1) rfl HO1.out ch _ HCH.out _ rfl HLe.out hs1 w hb1 hk1 ?_; intro ve we hoe hbe hse hke)
              obtain ⟨ae, ce, hve⟩ := bown_valR hoe
              subst hve
              go_roundw
              case rel => exact ⟨i + 1, k2, ac1 ++ [ch], ae, ce, by omega, by simp, hk2, rfl, rfl, hoe, by show _ = _; rw [List.append_assoc]; exact HR1.out, by simp only [List.length_append, List.length_singleton]; omega, hbe, hse⟩
              case measure => simp only [intOf]; omega
          · have td : (((T[i]'hlt).toNat : Int) == 10) = false := by
              rw [HCH.out]
              exact beq_eq_false_iff_ne.2 (fun h => c10 (UInt8.toNat.inj (by rw [show (10 : UInt8).toNat = 10 from rfl]; omega)))
            have HR1 : Hid (ac ++ ([ch] ++ roomL (t.drop (i + 1)) (rs.drop k2)) = R) := by
              show _ = _
              rw [← HRx.out, putR, if_neg (fun h => c32 h.1), if_neg c10]; simp
            clear c10 c32
            have HLe : Hid ((ac).length ≤ 1099511627776) := by show _ ≤ _; omega
            go_wp2_with (at_builtin; refine wpList_append_byteR rfl _ _ rfl w.heap.size _ (ac) rfl HOx.out ch _ HCH.out _ rfl HLe.out hsx w hbx hk1 ?_; intro ve we hoe hbe hse hke)
            obtain ⟨ae, ce, hve⟩ := bown_valR hoe
            subst hve
            go_roundw
            case rel => exact ⟨i + 1, k2, ac ++ [ch], ae, ce, by omega, by simp, hk2, rfl, rfl, hoe, by show _ = _; rw [List.append_assoc]; exact HR1.out, by simp only [List.length_append, List.length_singleton]; omega, hbe, hse⟩
            case measure => simp only [intOf]; omega
    · have tl : decide ((i : Int) < (T.size : Int)) = false := decide_eq_false (by omega)
      have tl2 : decide (i < T.size) = false := decide_eq_false hlt
      have hin : t.length ≤ i := by rw [← HTZ.out]; omega
      have hRR : ac = R := by rw [← HR.out, List.drop_of_length_le hin, roomL, List.append_nil]
      have hcv := run_string_own (P := Tryz.prog) wr 56 9 5 Tryz.underlying56 Tryz.underlying5 Tryz.underlying9 w.heap.size _ ac HOW.out
      have HRR : Hid (ac = R) := hRR
      clear hin hRR HR
      go_wp2_with fail
      go_ret
      refine ⟨?_, hb⟩
      have := HRR.out
      subst this
      rfl
end Go.Proofs.YtghjmfpjaabilaaGreatDoor
