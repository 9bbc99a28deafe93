/- What dovetailref03's Check and Points do (contracts; nothing is claimed here). -/
import Derived.Test.YtjlgmoakdaeinaaDoorRefOne
import Derived.Test.YtjlgmoakdaeinaaDoorSame
namespace Go.Proofs.YtjlgmoakdaeinaaDoor
open Go.RowKit Go.Vf

set_option maxHeartbeats 1000000 in
set_option maxRecDepth 20000 in
theorem refCheck_any (s : ByteArray) (hsz : s.size ≤ 4294967296) (ps : List Nat) (rest : List UInt8) (hs : s.data.toList = encs ps ++ rest) (hps : ∀ p ∈ ps, IsPt p) (hrest : rest = [] ∨ noChar rest) (w : World) :
    Calls Tryd.prog 11 #[.string s] w fun e w' => e = .returned (.int .i64 (chkOf ps rest)) ∧ w = w' := by
  have HS : Hid (s.data.toList = encs ps ++ rest) := hs
  obtain ⟨C, HC⟩ : ∃ C, Hid (C = chkOf ps rest) := ⟨_, rfl⟩
  rw [← HC.out]
  clear hs
  go_enter Tryd.func11, Tryd.ntmps11
  go_wp2
  go_loopw [3] (fun i wr => ∃ (ps1 ps2 : List Nat) (k : Nat), Hid (ps = ps1 ++ ps2 ∧ k = (encs ps1).length) ∧ k ≤ s.size ∧ i = .int .i64 k ∧ wr = w) (fun i _ => s.size - (intOf i).toNat)
  case atStart => exact ⟨[], ps, 0, ⟨rfl, rfl⟩, Nat.zero_le _, rfl, rfl⟩
  case round =>
    obtain ⟨ps1, ps2, k, HP, hk, rfl, rfl⟩ := hrel
    by_cases hlt : k < s.size
    · cases ps2 with
      | nil =>
        have hdrop : s.data.toList.drop k = rest := by rw [HS.out, HP.out.1, HP.out.2, List.append_nil, List.drop_left]
        have hne : rest ≠ [] := by
          intro h
          have := congrArg List.length hdrop
          rw [h, List.length_drop, ← Lib.size_eq] at this
          simp at this
          omega
        have h1 : oneN (s.data.toList.drop k) = (0, 0) := by rw [hdrop]; exact oneN_none (hrest.resolve_left hne)
        have hC : C = (k : Int) := by rw [HC.out, chkOf, if_neg hne, HP.out.1, List.append_nil, ← HP.out.2]
        have H1 : Hid (oneN (s.data.toList.drop k) = (0, 0)) := h1
        clear h1 hdrop
        go_wp2_with fail
        refine (one_any s k hlt hsz _).mono ?_
        rintro e w1 ⟨rfl, rfl⟩
        rw [H1.out]
        go_wp2
        go_ret
        exact ⟨by first | (rw [hC]; rfl) | rfl, rfl⟩
      | cons p ps2 =>
        have hp : IsPt p := hps p (by rw [HP.out.1]; simp)
        have hdrop : s.data.toList.drop k = enc p ++ (encs ps2 ++ rest) := by
          rw [HS.out, HP.out.1, HP.out.2, encs_append, List.append_assoc, List.drop_left]; simp [encs]
        obtain ⟨z, hz⟩ : ∃ z, z = (enc p).length := ⟨_, rfl⟩
        have h1 : oneN (s.data.toList.drop k) = (p, z) := by rw [hdrop, hz]; exact oneN_enc hp _
        have hz1 : 1 ≤ z ∧ z ≤ 4 := by rw [hz]; exact ⟨enc_pos p, enc_le p⟩
        have hfit : k + z ≤ s.size := by
          have := congrArg List.length hdrop
          rw [List.length_drop, ← Lib.size_eq, List.length_append, ← hz] at this
          omega
        have HP2 : Hid (ps = (ps1 ++ [p]) ++ ps2 ∧ k + z = (encs (ps1 ++ [p])).length) := by
          refine ⟨by rw [HP.out.1]; simp, ?_⟩
          rw [encs_append, List.length_append, ← HP.out.2, hz]; simp [encs]
        have H1 : Hid (oneN (s.data.toList.drop k) = (p, z)) := h1
        have hz0 : ((z : Int) == 0) = false := by simp; omega
        clear h1 hdrop hz HP
        go_wp2_with fail
        refine (one_any s k hlt hsz _).mono ?_
        rintro e w1 ⟨rfl, rfl⟩
        rw [H1.out]
        go_wp2
        go_roundw
        case rel => exact ⟨ps1 ++ [p], ps2, k + z, HP2, hfit, by go_num, trivial⟩
        case measure => simp [intOf]; omega
    · have hend : rest = [] := by
        have h1 := Lib.size_eq s
        rw [HS.out, HP.out.1, encs_append, List.append_assoc, List.length_append, ← HP.out.2, List.length_append] at h1
        exact List.eq_nil_of_length_eq_zero (by omega)
      have hC : C = -1 := by rw [HC.out, chkOf, if_pos hend]
      go_wp2
      go_ret
      exact ⟨by first | (rw [hC]; rfl) | rfl, rfl⟩

/-- 'out = append(out, x)', x having been laid in a new block. -/
theorem wpList_append_int {w : World} {ops : Array Oper} {rest : List Oper} {o : Oper} {a : Act} {Q : Exit → Act → World → Prop} (hgd : o.guard = none) (s x : Operand)
    (ho : o.op = .call { callee := .builtin .append, args := #[s, x], argTypes := #[25, 25] })
    (base : Nat) (v : Value) (zs : List Int) (hs : a.eval s = v) (hown : IOwn w base v zs) (n : Int) (c : Nat) (hx : a.eval x = .slice (some ⟨w.heap.size, 0, none⟩) 1 c)
    (hlen : zs.length ≤ 1099511627776) (hbase : base ≤ w.heap.size) (B : Nat) (w0 : World) (hb : Below B w0 w) (hB : B ≤ base)
    (h : ∀ v' w', IOwn w' base v' (zs ++ [n]) → Below B w0 w' → base ≤ w'.heap.size → w.grownBy w' v.ownBlock → wpList Tryd.prog ops Q rest (a.put o.dst v') w') :
    wpList Tryd.prog ops Q (o :: rest) a (w.alloc (.cells #[.int .i64 n] 3)) := by
  obtain ⟨i, hi, hz, hsz, hby⟩ := info_parts info3
  refine wpList_append_own (P := Tryd.prog) _ hgd s x 25 ho base 3 i (.int .i64 0) 1 8 Tryd.underlying25 hi hz hsz hby rfl (by decide) v zs.length (zs.map (Value.int .i64)) hs (World.ownsRow.alloc hown _) ⟨w.heap.size, 0, none⟩ 1 c [.int .i64 n] hx rfl ?_ ?_ ?_ ?_ ?_ ?_
  · intro j u hj
    match j, hj with
    | 0, hj => simp at hj; subst hj; simp [Addr.add]
  · intro u hu; simp at hu; subst hu; rfl
  · unfold maxLen; omega
  · omega
  · simp; omega
  · intro v' w' h1 h2 _
    have hg : w.grownBy w' v.ownBlock := by
      refine ⟨h2.os.trans rfl, h2.tape.trans rfl, h2.output.trans rfl, by have := h2.size; simp at this; omega, fun k hk hne => ?_⟩
      exact (h2.block k (by simp; omega) hne).trans (Below.heap_alloc w _ k hk)
    refine h v' w' ?_ ?_ ?_ hg
    · unfold IOwn
      rw [List.map_append, List.length_append]
      exact h1
    · exact (hb.alloc (by omega) _).grown h2 (by simp; omega) (fun k hk => by
        have := (own_ge (World.ownsRow.alloc hown (.cells #[.int .i64 n] 3)) hk).1
        omega)
    · have := h2.size; simp at this; omega

theorem results13_run {tmps : Array Value} {w : World} {a : Option Addr} {l c : Nat} {e n : Int} (t2 : tmps[2]?.getD undef = .slice a l c) (t3 : tmps[3]?.getD undef = .int .i64 e) (t4 : tmps[4]?.getD undef = .int .i64 n) :
    (results Tryd.f13 tmps).run Tryd.prog w = .ok (.tuple #[.slice a l c, .int .i64 e, .int .i64 n]) w := by
  simp [results, Tryd.results13, go_sem, t2, t3, t4]

set_option maxHeartbeats 1000000 in
set_option maxRecDepth 20000 in
theorem refPoints_any (s : ByteArray) (hsz : s.size ≤ 4294967296) (ps : List Nat) (rest : List UInt8) (hs : s.data.toList = encs ps ++ rest) (hps : ∀ p ∈ ps, IsPt p) (hrest : rest = [] ∨ noChar rest) (w : World) :
    Calls Tryd.prog 13 #[.string s] w fun e w' => PtsPost ps rest w e w' ∧ Below w.heap.size w w' := by
  have HS : Hid (s.data.toList = encs ps ++ rest) := hs
  clear hs
  by_cases hr : rest = []
  · have hC : chkOf ps rest = -1 := by rw [chkOf, if_pos hr]
    have HC : Hid (chkOf ps rest = -1) := hC
    clear hC
    go_enter Tryd.func13, Tryd.ntmps13
    go_wp2_with fail
    refine (refCheck_any s hsz ps rest HS.out hps hrest w).mono ?_
    rintro e w1 ⟨rfl, rfl⟩
    rw [HC.out]
    go_wp2_with fail
    go_loopw [6, 7] (fun v i wr => ∃ (ps1 ps2 : List Nat) (k : Nat), Hid (ps = ps1 ++ ps2 ∧ k = (encs ps1).length) ∧ k ≤ s.size ∧ i = .int .i64 k ∧ IOwn wr w.heap.size v (ps1.map fun p : Nat => (p : Int)) ∧ Below w.heap.size w wr) (fun _ i _ => s.size - (intOf i).toNat)
    case atStart => exact ⟨[], ps, 0, ⟨rfl, rfl⟩, Nat.zero_le _, rfl, IOwn.nil _ _, Below.refl _ _⟩
    case round =>
      obtain ⟨ps1, ps2, k, HP, hk, rfl, hown, hbel⟩ := hrel
      by_cases hlt : k < s.size
      · cases ps2 with
        | nil =>
          have h1 := Lib.size_eq s
          rw [HS.out, HP.out.1, hr, List.append_nil, List.append_nil, ← HP.out.2] at h1
          omega
        | cons p ps2 =>
          have hp : IsPt p := hps p (by rw [HP.out.1]; simp)
          have hdrop : s.data.toList.drop k = enc p ++ (encs ps2 ++ rest) := by
            rw [HS.out, HP.out.1, HP.out.2, encs_append, List.append_assoc, List.drop_left]; simp [encs]
          obtain ⟨z, hz⟩ : ∃ z, z = (enc p).length := ⟨_, rfl⟩
          have h1 : oneN (s.data.toList.drop k) = (p, z) := by rw [hdrop, hz]; exact oneN_enc hp _
          have hz1 : 1 ≤ z ∧ z ≤ 4 := by rw [hz]; exact ⟨enc_pos p, enc_le p⟩
          have hfit : k + z ≤ s.size := by
            have := congrArg List.length hdrop
            rw [List.length_drop, ← Lib.size_eq, List.length_append, ← hz] at this
            omega
          have HP2 : Hid (ps = (ps1 ++ [p]) ++ ps2 ∧ k + z = (encs (ps1 ++ [p])).length) := by
            refine ⟨by rw [HP.out.1]; simp, ?_⟩
            rw [encs_append, List.length_append, ← HP.out.2, hz]; simp [encs]
          have hlen : (ps1.map fun p : Nat => (p : Int)).length ≤ 1099511627776 := by
            have := encs_length_ge ps1
            rw [← HP.out.2] at this
            simp
            omega
          have HLEN : Hid ((ps1.map fun p : Nat => (p : Int)).length ≤ 1099511627776) := hlen
          have H1 : Hid (oneN (s.data.toList.drop k) = (p, z)) := h1
          have hmap : (ps1.map fun p : Nat => (p : Int)) ++ [(p : Int)] = (ps1 ++ [p]).map fun p : Nat => (p : Int) := by simp
          have HMAP : Hid ((ps1.map fun p : Nat => (p : Int)) ++ [(p : Int)] = (ps1 ++ [p]).map fun p : Nat => (p : Int)) := hmap
          have hsz1 := hbel.size
          clear h1 hdrop hz HP hlen hmap
          go_wp2_with fail
          refine (one_any s k hlt hsz _).mono ?_
          rintro e w1 ⟨rfl, rfl⟩
          rw [H1.out]
          go_wp2_with (at_builtin; refine wpList_append_int rfl _ _ rfl w.heap.size _ _ rfl hown _ 1 rfl HLEN.out hsz1 w.heap.size w hbel (Nat.le_refl _) ?_; intro v2 W2 hown2 hbel2 hsz2 _; rw [HMAP.out] at hown2)
          go_roundw
          case rel => exact ⟨ps1 ++ [p], ps2, k + z, HP2, hfit, by go_num, hown2, hbel2⟩
          case measure => simp [intOf]; omega
      · have hend : ps2 = [] := by
          have h1 := Lib.size_eq s
          rw [HS.out, HP.out.1, encs_append, List.append_assoc, List.length_append, ← HP.out.2, List.length_append] at h1
          have := encs_length_ge ps2
          exact List.eq_nil_of_length_eq_zero (by omega)
        have hpe : ps1 = ps := by rw [HP.out.1, hend, List.append_nil]
        obtain ⟨va, vc, hval⟩ := hown.ints.val
        have hown2 : IOwn wr w.heap.size u6 (ps.map fun p : Nat => (p : Int)) := hpe ▸ hown
        rw [hval] at hown2
        subst hval
        clear hown
        go_wp2
        refine bodyPost_ret (results13_run rfl rfl rfl) rfl ?_
        exact ⟨.inl ⟨hr, _, rfl, hown2⟩, hbel⟩
  · have hC : chkOf ps rest = ((encs ps).length : Int) := by rw [chkOf, if_neg hr]
    obtain ⟨k, hk⟩ : ∃ k, k = (encs ps).length := ⟨_, rfl⟩
    rw [← hk] at hC
    have HC : Hid (chkOf ps rest = (k : Int)) := hC
    have HK : Hid (k = (encs ps).length) := hk
    clear hC hk
    go_enter Tryd.func13, Tryd.ntmps13
    go_wp2_with fail
    refine (refCheck_any s hsz ps rest HS.out hps hrest w).mono ?_
    rintro e w1 ⟨rfl, rfl⟩
    rw [HC.out]
    go_wp2_with fail
    refine bodyPost_ret (results13_run rfl rfl rfl) rfl ?_
    exact ⟨.inr ⟨hr, by rw [← HK.out]⟩, Below.refl _ _⟩

end Go.Proofs.YtjlgmoakdaeinaaDoor
