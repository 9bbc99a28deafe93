/- What the document's Of does; lists of values and of parts that grow side by side (contracts; nothing is claimed here). -/
import Derived.Test.YtedmmifflbnmbaaVOf
import Derived.Test.YtedmmifflbnmbaaDpr
namespace Go.Proofs.Ytedmmifflbnmbaa
open Go.RowKit Go.Vf
/-- What the document's Of answers. -/
def ROfE (l : List Prt) (w : World) (e : Ending) (w' : World) : Prop := Below w.heap.size w w' ∧
  ((1024 < l.length ∧ e = .returned (.tuple #[.agg #[.int .u8 0, .bool false, .bool false, .string ⟨#[]⟩, .string ⟨#[]⟩, .slice none 0 0], .int .i64 2])) ∨
   (l.length ≤ 1024 ∧ 16 < depL l + 1 ∧ e = .returned (.tuple #[.agg #[.int .u8 0, .bool false, .bool false, .string ⟨#[]⟩, .string ⟨#[]⟩, .slice none 0 0], .int .i64 91])) ∨
   (l.length ≤ 1024 ∧ depL l + 1 ≤ 16 ∧ ∃ a' c', e = .returned (.tuple #[.agg #[.int .u8 7, .bool false, .bool false, .string ⟨#[]⟩, .string ⟨#[]⟩, .slice a' l.length c'], .int .i64 0]) ∧ PIn w' w.heap.size w'.heap.size (tupP l) a'))
set_option maxRecDepth 100000 in
theorem res13_run {tmps : Array Value} {w : World} {b : Nat} {a0 a1 a2 a3 a4 a5 n : Value} (h : Blk w b 27 #[a0, a1, a2, a3, a4, a5]) (t2 : tmps[2]?.getD undef = .pointer (some ⟨b, 0, none⟩)) (t3 : tmps[3]?.getD undef = n) :
    (results Try.f13 tmps).run Try.prog w = .ok (.tuple #[.agg #[a0, a1, a2, a3, a4, a5], n]) w := by
  obtain ⟨c0, c1, c2, c3, c4, c5⟩ := h.c6
  simp [results, Try.results13, go_sem, t2, t3, c0, c1, c2, c3, c4, c5]
theorem may_tupP {l : List Prt} (hl : l.length ≤ 1024) (hm : ∀ x ∈ l, may x = true) : may (tupP l) = true := by
  rw [tupP, may_mk]
  have : l.all may = true := List.all_eq_true.2 hm
  simp [isRawK, hl, this]
  rfl
theorem dep_tupP (l : List Prt) : dep (tupP l) = depL l + 1 := by rw [tupP, dep, if_pos rfl]
set_option maxHeartbeats 2000000 in
set_option maxRecDepth 20000 in
theorem rof_any (l : List Prt) (hf : Fits (tupP l)) (hm : ∀ x ∈ l, may x = true) (hll : l.length ≤ 8388608) (a : Option Addr) (c : Nat) (w : World) (hp : PIn w 0 w.heap.size (tupP l) a) : Calls Try.prog 13 #[.slice a l.length c] w (ROfE l w) := by
  have hb1 := (Below.refl w.heap.size w).alloc (Nat.le_refl _) (.cells #[.int .u8 0, .bool false, .bool false, .string ⟨#[]⟩, .string ⟨#[]⟩, .slice none 0 0] 27)
  have hB1 := Blk.new w 27 #[.int .u8 0, .bool false, .bool false, .string ⟨#[]⟩, .string ⟨#[]⟩, .slice none 0 0]
  have HC : Hid (∀ w', PIn w' 0 w'.heap.size (tupP l) a → l.length ≤ 1024 → Calls Try.prog 16 #[pV (tupP l) a c] w' fun e w'' => ∃ a' c', e = .returned (pV (tupP l) a' c') ∧ PIn w'' w'.heap.size w''.heap.size (tupP l) a' ∧ Below w'.heap.size w' w'') := fun w' h hl => copied_any _ (may_tupP hl hm) a c 0 w'.heap.size w' (Nat.le_refl _) h
  have HD : Hid (∀ w', PIn w' 0 w'.heap.size (tupP l) a → Calls Try.prog 26 #[pV (tupP l) a c, .int .i64 16] w' fun e w'' => e = .returned (.bool (decide (16 < depL l + 1))) ∧ Below w'.heap.size w' w'') := fun w' h => by
    have := rdeeper_any 16 (by omega) (tupP l) hf a c 0 w'.heap.size w' (Nat.le_refl _) h
    rw [deeper_dep, dep_tupP] at this
    exact this
  unfold pV at HC HD
  simp only [tupP, Prt.kind, Prt.yes, Prt.neg, Prt.mag, Prt.raw, Prt.items] at HC HD
  obtain ⟨n, hN⟩ : ∃ n, l.length = n := ⟨_, rfl⟩
  have HN : Hid (l.length = n) := hN
  rw [hN] at HC HD hll ⊢
  have HP : Hid (PIn w 0 w.heap.size (tupP l) a) := hp
  obtain ⟨DB, hDB⟩ : ∃ DB, decide (16 < depL l + 1) = DB := ⟨_, rfl⟩
  have HDB : Hid (decide (16 < depL l + 1) = DB) := hDB
  simp only [hDB] at HD
  clear hp hf hm hN hDB
  go_enter Try.func13, Try.ntmps13
  go_upto_region 1 with fail
  generalize w.alloc (.cells #[.int .u8 0, .bool false, .bool false, .string ⟨#[]⟩, .string ⟨#[]⟩, .slice none 0 0] 27) = w1 at *
  have HB1 : Hid (Blk w1 w.heap.size 27 #[.int .u8 0, .bool false, .bool false, .string ⟨#[]⟩, .string ⟨#[]⟩, .slice none 0 0]) := hB1
  by_cases hlong : 1024 < n
  · have t : decide ((1024 : Int) < (n : Int)) = true := decide_eq_true (by omega)
    have t2 : decide (1024 < n) = true := decide_eq_true hlong
    obtain ⟨c0, c1, c2, c3, c4, c5⟩ := hB1.c6
    have f0 := Blk.frozen HB1.out 0
    have f1 := Blk.frozen HB1.out 1
    have f2 := Blk.frozen HB1.out 2
    have f3 := Blk.frozen HB1.out 3
    have f4 := Blk.frozen HB1.out 4
    have f5 := Blk.frozen HB1.out 5
    clear hB1
    go_wp2_with fail
    have hfin := Blk.set6 HB1.out (.int .u8 0) (.bool false) (.bool false) (.string ⟨#[]⟩) (.string ⟨#[]⟩) (.slice none 0 0)
    have hbw := set6_below hb1 (Nat.le_refl _) 0 (.int .u8 0) (.bool false) (.bool false) (.string ⟨#[]⟩) (.string ⟨#[]⟩) (.slice none 0 0)
    refine bodyPost_ret (res13_run (b := w.heap.size) hfin rfl rfl) rfl ?_
    exact ⟨hbw, .inl ⟨by rw [HN.out]; exact hlong, rfl⟩⟩
  have t : decide ((1024 : Int) < (n : Int)) = false := decide_eq_false (by omega)
  have t2 : decide (1024 < n) = false := decide_eq_false hlong
  have hb2 := hb1.alloc hb1.size (.cells #[.int .u8 7, .bool false, .bool false, .string ⟨#[]⟩, .string ⟨#[]⟩, .slice a n c] 27)
  have hq2 := (Below.refl w1.heap.size w1).alloc (Nat.le_refl _) (.cells #[.int .u8 7, .bool false, .bool false, .string ⟨#[]⟩, .string ⟨#[]⟩, .slice a n c] 27)
  have hB2 := Blk.new w1 27 #[.int .u8 7, .bool false, .bool false, .string ⟨#[]⟩, .string ⟨#[]⟩, .slice a n c]
  clear hB1
  go_upto_region 4 with fail
  generalize w1.alloc (.cells #[.int .u8 7, .bool false, .bool false, .string ⟨#[]⟩, .string ⟨#[]⟩, .slice a n c] 27) = w2 at *
  have HB2 : Hid (Blk w2 w1.heap.size 27 #[.int .u8 7, .bool false, .bool false, .string ⟨#[]⟩, .string ⟨#[]⟩, .slice a n c]) := hB2
  have HP2 : Hid (PIn w2 0 w2.heap.size (tupP l) a) := (HP.out.keep hb2 (Nat.le_refl _)).mono hb2.size (Nat.zero_le _)
  have HR2 : Hid (Blk w2 w.heap.size 27 #[.int .u8 0, .bool false, .bool false, .string ⟨#[]⟩, .string ⟨#[]⟩, .slice none 0 0]) := Blk.old HB1.out hq2
  have h26 := HD.out w2 HP2.out
  obtain ⟨x0, x1, x2, x3, x4, x5⟩ := hB2.c6
  clear hB2 hq2 HD HP HB1
  go_wp2_with fail
  refine h26.mono ?_
  rintro _ w3 ⟨rfl, hb3⟩
  have hw3 := hb2.trans (hb3.mono hb2.size)
  have HB3 : Hid (Blk w3 w1.heap.size 27 #[.int .u8 7, .bool false, .bool false, .string ⟨#[]⟩, .string ⟨#[]⟩, .slice a n c]) := Blk.old HB2.out hb3
  have HR3 : Hid (Blk w3 w.heap.size 27 #[.int .u8 0, .bool false, .bool false, .string ⟨#[]⟩, .string ⟨#[]⟩, .slice none 0 0]) := Blk.old HR2.out hb3
  have HP3 : Hid (PIn w3 0 w3.heap.size (tupP l) a) := (HP2.out.keep hb3 (Nat.le_refl _)).mono hb3.size (Nat.zero_le _)
  clear h26 x0 x1 x2 x3 x4 x5 HB2 HR2 HP2
  cases DB with
  | true =>
    have hd16 : 16 < depL l + 1 := of_decide_eq_true HDB.out
    have HD16 : Hid (16 < depL l + 1) := hd16
    have hB1 := HR3.out
    obtain ⟨c0, c1, c2, c3, c4, c5⟩ := Blk.c6 hB1
    have f0 := Blk.frozen HR3.out 0
    have f1 := Blk.frozen HR3.out 1
    have f2 := Blk.frozen HR3.out 2
    have f3 := Blk.frozen HR3.out 3
    have f4 := Blk.frozen HR3.out 4
    have f5 := Blk.frozen HR3.out 5
    clear hB1 hd16
    go_wp2_with fail
    have hfin := Blk.set6 HR3.out (.int .u8 0) (.bool false) (.bool false) (.string ⟨#[]⟩) (.string ⟨#[]⟩) (.slice none 0 0)
    have hbw := set6_below hw3 (Nat.le_refl _) 0 (.int .u8 0) (.bool false) (.bool false) (.string ⟨#[]⟩) (.string ⟨#[]⟩) (.slice none 0 0)
    refine bodyPost_ret (res13_run (b := w.heap.size) hfin rfl rfl) rfl ?_
    exact ⟨hbw, .inr (.inl ⟨by rw [HN.out]; omega, HD16.out, rfl⟩)⟩
  | false =>
    have HD16 : Hid (depL l + 1 ≤ 16) := by have := of_decide_eq_false HDB.out; show _ ≤ _; omega
    have h16 := HC.out w3 HP3.out (by omega)
    have hBx := HB3.out
    obtain ⟨x0, x1, x2, x3, x4, x5⟩ := Blk.c6 hBx
    clear hBx HC
    go_wp2_with fail
    refine h16.mono ?_
    rintro _ w4 ⟨a', c', rfl, hp4, hb4⟩
    have HR4 : Hid (Blk w4 w.heap.size 27 #[.int .u8 0, .bool false, .bool false, .string ⟨#[]⟩, .string ⟨#[]⟩, .slice none 0 0]) := Blk.old HR3.out hb4
    have HP4 : Hid (PIn w4 w3.heap.size w4.heap.size (tupP l) a') := hp4
    clear h16 x0 x1 x2 x3 x4 x5 hp4
    have hB1 := HR4.out
    obtain ⟨c0, c1, c2, c3, c4, c5⟩ := Blk.c6 hB1
    have f0 := Blk.frozen HR4.out 0
    have f1 := Blk.frozen HR4.out 1
    have f2 := Blk.frozen HR4.out 2
    have f3 := Blk.frozen HR4.out 3
    have f4 := Blk.frozen HR4.out 4
    have f5 := Blk.frozen HR4.out 5
    clear hB1
    go_wp2_with fail
    have hfin := Blk.set6 HR4.out (.int .u8 7) (.bool false) (.bool false) (.string ⟨#[]⟩) (.string ⟨#[]⟩) (.slice a' n c')
    have hbw := set6_below (hw3.trans (hb4.mono hw3.size)) (Nat.le_refl _) 0 (.int .u8 7) (.bool false) (.bool false) (.string ⟨#[]⟩) (.string ⟨#[]⟩) (.slice a' n c')
    refine bodyPost_ret (res13_run (b := w.heap.size) hfin rfl rfl) rfl ?_
    refine ⟨hbw, .inr (.inr ⟨by rw [HN.out]; omega, HD16.out, a', c', by rw [HN.out]; rfl, ?_⟩)⟩
    have e7 := set6_size w4 w.heap.size 0 (.int .u8 7) (.bool false) (.bool false) (.string ⟨#[]⟩) (.string ⟨#[]⟩) (.slice a' n c')
    show PIn (set6 w4 w.heap.size 0 (.int .u8 7) (.bool false) (.bool false) (.string ⟨#[]⟩) (.string ⟨#[]⟩) (.slice a' n c')) _ (set6 w4 w.heap.size 0 (.int .u8 7) (.bool false) (.bool false) (.string ⟨#[]⟩) (.string ⟨#[]⟩) (.slice a' n c')).heap.size _ a'
    rw [e7]
    have z3 := hw3.size
    have z0 := Blk.lt HR3.out
    exact (HP4.out.keep' (fun b q1 q2 => set6_other (by omega))).mono (Nat.le_refl _) z3

/-- Values and parts, each list in a row of its own. -/
structure TwoR (lo n₀ : Nat) (wr : World) (v6 v7 : Value) (acc bcc : List Prt) : Prop where
  vals : ∃ vs : List Value, ∃ hl : vs.length = acc.length, VOwn wr lo v6 vs ∧ ∀ j (hj : j < acc.length), VAt wr (fun b => lo ≤ b ∧ b < wr.heap.size ∧ v6.ownBlock ≠ some b ∧ v7.ownBlock ≠ some b) (vs[j]'(by omega)) acc[j]
  parts : ∃ ts : List Trp, ts.map (·.1) = bcc ∧ wr.ownsRow lo 27 6 v7 ts.length (flatT ts) ∧ ∀ t ∈ ts, PIn wr 0 n₀ t.1 t.2.1
  apart : ∀ k, v6.ownBlock = some k → v7.ownBlock ≠ some k
theorem TwoR.nil (lo n₀ : Nat) (wr : World) : TwoR lo n₀ wr (.slice none 0 0) (.slice none 0 0) [] [] :=
  ⟨⟨[], rfl, VOwn.nil _ _, fun j hj => by simp at hj⟩, ⟨[], rfl, World.ownsRow_nil _ _ _ _, fun t ht => by simp at ht⟩, fun k h => by cases h⟩
theorem TwoR.old {lo n₀ : Nat} {wr wr' : World} {v6 v7 : Value} {acc bcc : List Prt} (h : TwoR lo n₀ wr v6 v7 acc bcc) (hn : n₀ ≤ lo) (hlo : lo ≤ wr.heap.size) (hb : Below wr.heap.size wr wr') : TwoR lo n₀ wr' v6 v7 acc bcc := by
  obtain ⟨⟨vs, hl, h1, h2⟩, ⟨ts, e, h3, h4⟩, h5⟩ := h
  have hs := hb.size
  exact ⟨⟨vs, hl, own_keep h1 (fun b _ q => hb.block b q), fun j hj => (h2 j hj).keep (fun b q => hb.block b q.2.1) (fun b q => ⟨q.1, by omega, q.2.2⟩)⟩, ⟨ts, e, own_keep h3 (fun b _ q => hb.block b q), fun t ht => (h4 t ht).keep hb (by omega)⟩, h5⟩
theorem TwoR.form6 {lo n₀ : Nat} {wr : World} {v6 v7 : Value} {acc bcc : List Prt} (h : TwoR lo n₀ wr v6 v7 acc bcc) : ∃ a c, v6 = .slice a acc.length c := by
  obtain ⟨⟨vs, hl, h1, h2⟩, _, _⟩ := h
  rcases h1.form with ⟨rfl, e⟩ | ⟨g, cap, rfl, _⟩
  · subst e; exact ⟨none, 0, by rw [← hl]; rfl⟩
  · exact ⟨_, _, by rw [hl]⟩
theorem TwoR.form7 {lo n₀ : Nat} {wr : World} {v6 v7 : Value} {acc bcc : List Prt} (h : TwoR lo n₀ wr v6 v7 acc bcc) : ∃ a c, v7 = .slice a bcc.length c := by
  obtain ⟨_, ⟨ts, rfl, h1, h2⟩, _⟩ := h
  rcases h1.2 with ⟨rfl, e⟩ | ⟨g, cap, cur, rfl, _⟩
  · exact ⟨none, 0, by rw [List.length_map, e]⟩
  · exact ⟨_, _, by rw [List.length_map]⟩
/-- One more value. -/
theorem TwoR.more1 {lo n₀ lo2 : Nat} {wr : World} {v6 v7 : Value} {acc bcc : List Prt} (h : TwoR lo n₀ wr v6 v7 acc bcc) (hn : n₀ ≤ lo) (hlo : lo ≤ lo2) (hlo2 : lo2 ≤ wr.heap.size) (hr6 : ∀ k, v6.ownBlock = some k → k < lo2) (hr7 : ∀ k, v7.ownBlock = some k → k < lo2) (ha : acc.length < 8388608) {x : Value} {p : Prt} (hx : VIn wr lo2 wr.heap.size x p)
    {ops : Array Oper} {rest : List Oper} {o : Oper} {a : Act} {Q : Exit → Act → World → Prop} (s y : Operand) (hgd : o.guard = none) (ho : o.op = .call { callee := .builtin .append, args := #[s, y], argTypes := #[38, 38] }) (hs : a.eval s = v6) (hy : a.eval y = .slice (some ⟨wr.heap.size, 0, none⟩) 1 1)
    (hK : ∀ v' w', TwoR lo n₀ w' v' v7 (acc ++ [p]) bcc → Below lo wr w' → wpList Try.prog ops Q rest (a.put o.dst v') w') : wpList Try.prog ops Q (o :: rest) a (wr.alloc (.cells #[x] 31)) := by
  obtain ⟨i, hi, hzz⟩ := Option.map_eq_some_iff.1 info31v
  simp only [Prod.mk.injEq] at hzz
  obtain ⟨hz, hsz, hby⟩ := hzz
  obtain ⟨⟨vs, hl, h1, h2⟩, ⟨ts, e, h3, h4⟩, h5⟩ := h
  have hbA := (Below.refl wr.heap.size wr).alloc (Nat.le_refl _) (.cells #[x] 31)
  have hsA := alloc_size wr (.cells #[x] 31)
  have hownA : (wr.alloc (.cells #[x] 31)).ownsRow lo 31 1 v6 vs.length vs := World.ownsRow.alloc h1 (.cells #[x] 31)
  have hnews : ∀ j u, [x][j]? = some u → (wr.alloc (.cells #[x] 31)).cell? ((⟨wr.heap.size, 0, none⟩ : Addr).add j) = some u := cell_one_new wr x 31
  refine wpList_append_own_at _ hgd s y 38 ho lo 31 i .nilIface 1 16 Try.underlying38 hi hz hsz hby rfl (by decide) v6 vs.length vs hs hownA ⟨wr.heap.size, 0, none⟩ 1 1 [x] hy rfl hnews (by simpa using hx.one) (by simp [maxLen]; omega) (by omega) (by rw [hsA]; omega) ?_
  intro v' w' ho' hg' _ hat
  have hb' : Below lo wr w' := (hbA.mono (by omega)).grown hg' (by rw [hsA]; omega) (fun k hk => (World.ownsRow.lt hownA k hk).1)
  have hblk : ∀ b, b < wr.heap.size → v6.ownBlock ≠ some b → w'.heap[b]? = wr.heap[b]? := fun b hb hne => (hg'.block b (by rw [hsA]; omega) (fun e => hne e.symm)).trans (Below.heap_alloc _ _ _ hb)
  have hS : ∀ b, b < wr.heap.size → v6.ownBlock ≠ some b → v'.ownBlock ≠ some b := fun b hb hne e => by
    rcases hat with h | h
    · exact hne (h.symm.trans e)
    · rw [e] at h; simp only [Option.some.injEq] at h; rw [hsA] at h; omega
  have hsz' := hb'.size
  have h7lt : ∀ k, v7.ownBlock = some k → k < wr.heap.size := fun k hk => by have := hr7 k hk; omega
  refine hK v' w' ⟨⟨vs ++ [x], by simp [hl], by simpa [VOwn] using ho', fun j hj => ?_⟩, ⟨ts, e, ?_, fun t ht => (h4 t ht).keep hb' hn⟩, fun k hk h7 => ?_⟩ hb'
  · by_cases hj' : j < acc.length
    · rw [List.getElem_append_left (by omega), List.getElem_append_left hj']
      exact (h2 j hj').keep (fun b q => hblk b q.2.1 q.2.2.1) (fun b q => ⟨q.1, by omega, hS b q.2.1 q.2.2.1, q.2.2.2⟩)
    · have e : j = acc.length := by simp at hj; omega
      subst e
      rw [List.getElem_append_right (by omega), List.getElem_append_right (by omega)]
      simp only [hl, Nat.sub_self, List.getElem_cons_zero]
      have hne : ∀ b, lo2 ≤ b → v6.ownBlock ≠ some b := fun b hb e => by have := hr6 b e; omega
      have hne7 : ∀ b, lo2 ≤ b → v7.ownBlock ≠ some b := fun b hb e => by have := hr7 b e; omega
      have hx' : VAt wr (fun b => lo2 ≤ b ∧ b < wr.heap.size) x p := VAt.of hx fun b q1 q2 => ⟨q1, q2⟩
      exact hx'.keep (fun b q => hblk b q.2 (hne b q.1)) (fun b q => ⟨by omega, by omega, hS b q.2 (hne b q.1), hne7 b q.1⟩)
  · rcases h3.2 with ⟨e1, e2⟩ | ⟨g, cap, cur, e1, q1, q2, q3⟩
    · exact ⟨h3.1, .inl ⟨e1, e2⟩⟩
    · refine ⟨h3.1, .inr ⟨g, cap, cur, e1, q1, ?_, q3⟩⟩
      rw [hblk g (Array.getElem?_eq_some_iff.1 q2).1 (fun e6 => h5 g e6 (by rw [e1]; rfl))]
      exact q2
  · by_cases h6 : v6.ownBlock = some k
    · exact h5 k h6 h7
    · exact hS k (h7lt k h7) h6 hk
/-- One more part. -/
theorem TwoR.more2 {lo n₀ : Nat} {wr : World} {v6 v7 : Value} {acc bcc : List Prt} (h : TwoR lo n₀ wr v6 v7 acc bcc) (hn : n₀ ≤ lo) (hlo : lo ≤ wr.heap.size) (ha : bcc.length < 8388608) {p : Prt} {ap : Option Addr} {cp : Nat} (hx : PIn wr 0 n₀ p ap)
    {ops : Array Oper} {rest : List Oper} {o : Oper} {a : Act} {Q : Exit → Act → World → Prop} (s y : Operand) (hgd : o.guard = none) (ho : o.op = .call { callee := .builtin .append, args := #[s, y], argTypes := #[25, 25] }) (hs : a.eval s = v7) (hy : a.eval y = .slice (some ⟨wr.heap.size, 0, none⟩) 1 1)
    (hK : ∀ v' w', TwoR lo n₀ w' v6 v' acc (bcc ++ [p]) → Below lo wr w' → wpList Try.prog ops Q rest (a.put o.dst v') w') : wpList Try.prog ops Q (o :: rest) a (wr.alloc (.cells #[.int .u8 p.kind, .bool p.yes, .bool p.neg, .string p.mag, .string p.raw, .slice ap p.items.length cp] 27)) := by
  obtain ⟨i, hi, hzz⟩ := Option.map_eq_some_iff.1 info27p
  simp only [Prod.mk.injEq] at hzz
  obtain ⟨hz, hsz, hby⟩ := hzz
  obtain ⟨⟨vs, hl, h1, h2⟩, ⟨ts, rfl, h3, h4⟩, h5⟩ := h
  rw [List.length_map] at ha
  have hBk := Blk.new wr 27 #[.int .u8 p.kind, .bool p.yes, .bool p.neg, .string p.mag, .string p.raw, .slice ap p.items.length cp]
  have hbA := (Below.refl wr.heap.size wr).alloc (Nat.le_refl _) (.cells #[.int .u8 p.kind, .bool p.yes, .bool p.neg, .string p.mag, .string p.raw, .slice ap p.items.length cp] 27)
  have hsA := alloc_size wr (.cells #[.int .u8 p.kind, .bool p.yes, .bool p.neg, .string p.mag, .string p.raw, .slice ap p.items.length cp] 27)
  have hownA := World.ownsRow.alloc h3 (.cells #[.int .u8 p.kind, .bool p.yes, .bool p.neg, .string p.mag, .string p.raw, .slice ap p.items.length cp] 27)
  have hfl : flatT [(p, ap, cp)] = [.int .u8 p.kind, .bool p.yes, .bool p.neg, .string p.mag, .string p.raw, .slice ap p.items.length cp] := rfl
  generalize hW : wr.alloc (.cells #[.int .u8 p.kind, .bool p.yes, .bool p.neg, .string p.mag, .string p.raw, .slice ap p.items.length cp] 27) = wA at *
  have hnews : ∀ j u, (flatT [(p, ap, cp)])[j]? = some u → wA.cell? ((⟨wr.heap.size, 0, none⟩ : Addr).add j) = some u := fun j u hu => by
    rw [Go.WideShapes.add_plain, Nat.zero_add, hBk.cell j, ← hu, hfl]
    simp
  refine wpList_append_own_at _ hgd s y 25 ho lo 27 i _ 6 72 Try.underlying25 hi hz hsz hby rfl (by decide) v7 ts.length (flatT ts) hs hownA ⟨wr.heap.size, 0, none⟩ 1 1 (flatT [(p, ap, cp)]) hy (flatT_len _) hnews (by rw [hfl]; intro u hu; simp at hu; rcases hu with rfl | rfl | rfl | rfl | rfl | rfl <;> rfl) (by simp [maxLen]; omega) (by omega) (by omega) ?_
  intro v' w' ho' hg' _ hat
  have hb' : Below lo wr w' := (hbA.mono (by omega)).grown hg' (by rw [hsA]; omega) (fun k hk => (World.ownsRow.lt hownA k hk).1)
  have hblk : ∀ b, b < wr.heap.size → v7.ownBlock ≠ some b → w'.heap[b]? = wr.heap[b]? := fun b hb hne => (hg'.block b (by rw [hsA]; omega) (fun e => hne e.symm)).trans (hbA.block b hb)
  have hS : ∀ b, b < wr.heap.size → v7.ownBlock ≠ some b → v'.ownBlock ≠ some b := fun b hb hne e => by
    rcases hat with h | h
    · exact hne (h.symm.trans e)
    · rw [e] at h; simp only [Option.some.injEq] at h; rw [hsA] at h; omega
  have hsz' := hb'.size
  refine hK v' w' ⟨⟨vs, hl, ?_, fun j hj => (h2 j hj).keep (fun b q => hblk b q.2.1 q.2.2.2) (fun b q => ⟨q.1, by omega, q.2.2.1, hS b q.2.1 q.2.2.2⟩)⟩, ⟨ts ++ [(p, ap, cp)], by simp, by rw [List.length_append, flatT, List.flatMap_append]; exact ho', fun t ht => ?_⟩, fun k hk h7 => ?_⟩ hb'
  · rcases h1.2 with ⟨e1, e2⟩ | ⟨g, cap, cur, e1, q1, q2, q3⟩
    · exact ⟨h1.1, .inl ⟨e1, e2⟩⟩
    · refine ⟨h1.1, .inr ⟨g, cap, cur, e1, q1, ?_, q3⟩⟩
      rw [hblk g (Array.getElem?_eq_some_iff.1 q2).1 (fun e7 => h5 g (by rw [e1]; rfl) e7)]
      exact q2
  · rcases List.mem_append.1 ht with ht | ht
    · exact (h4 t ht).keep hb' hn
    · simp only [List.mem_singleton] at ht
      subst ht
      exact hx.keep hb' hn
  · have hk6 : k < wr.heap.size := (World.ownsRow.lt h1 k hk).2
    exact hS k hk6 (h5 k hk) h7
theorem TwoR.lt6 {lo n₀ : Nat} {wr : World} {v6 v7 : Value} {acc bcc : List Prt} (h : TwoR lo n₀ wr v6 v7 acc bcc) : ∀ k, v6.ownBlock = some k → k < wr.heap.size := by
  obtain ⟨⟨vs, hl, h1, h2⟩, _, _⟩ := h
  intro k hk
  exact (World.ownsRow.lt h1 k hk).2
theorem TwoR.lt7 {lo n₀ : Nat} {wr : World} {v6 v7 : Value} {acc bcc : List Prt} (h : TwoR lo n₀ wr v6 v7 acc bcc) : ∀ k, v7.ownBlock = some k → k < wr.heap.size := by
  obtain ⟨_, ⟨ts, e, h3, h4⟩, _⟩ := h
  intro k hk
  exact (World.ownsRow.lt h3 k hk).2
theorem TwoR.pin {lo n₀ : Nat} {wr : World} {v6 : Value} {a : Option Addr} {n c : Nat} {acc bcc : List Prt} (h : TwoR lo n₀ wr v6 (.slice a n c) acc bcc) (hn : n₀ ≤ wr.heap.size) : PIn wr 0 wr.heap.size (tupP bcc) a := by
  obtain ⟨_, ⟨ts, rfl, h1, h2⟩, _⟩ := h
  have h0 := h1
  rcases h1.2 with ⟨e, e2⟩ | ⟨g, cap, cur, e, q1, q2, _⟩
  · exact .nil (by rw [List.eq_nil_of_length_eq_zero e2]; rfl)
  · simp only [Value.slice.injEq] at e
    obtain ⟨rfl, rfl, rfl⟩ := e
    have hc : ∀ j (hj : j < ts.length) k, k < 6 → wr.cell? ⟨g, j * 6 + k, none⟩ = (cellsT ts[j])[k]? := fun j hj k hk => by
      rw [World.ownsRow.cellAt h0 _ (by omega), flatT_at ts j hj k hk]
    have hA : ∀ j (hj : j < ts.length), (ts[j]?.map (·.2.1)).getD none = ts[j].2.1 := fun j hj => by rw [List.getElem?_eq_getElem hj]; rfl
    have hC : ∀ j (hj : j < ts.length), (ts[j]?.map (·.2.2)).getD 0 = ts[j].2.2 := fun j hj => by rw [List.getElem?_eq_getElem hj]; rfl
    refine .cons (fun j => (ts[j]?.map (·.2.1)).getD none) (fun j => (ts[j]?.map (·.2.2)).getD 0) (Nat.zero_le _) (Array.getElem?_eq_some_iff.1 q2).1 (fun j hj => ?_) (fun j hj => ?_)
    · have hj' : j < ts.length := by simpa [tupP, Prt.items] using hj
      have e : (tupP (ts.map (·.1))).items[j] = ts[j].1 := by simp [tupP, Prt.items]
      simp only [hA j hj', hC j hj', e, Nat.zero_add]
      exact ⟨hc j hj' 0 (by omega), hc j hj' 1 (by omega), hc j hj' 2 (by omega), hc j hj' 3 (by omega), hc j hj' 4 (by omega), hc j hj' 5 (by omega)⟩
    · have hj' : j < ts.length := by simpa [tupP, Prt.items] using hj
      have e : (tupP (ts.map (·.1))).items[j] = ts[j].1 := by simp [tupP, Prt.items]
      simp only [hA j hj', e]
      exact (h2 _ (List.getElem_mem hj')).mono hn (Nat.zero_le _)
end Go.Proofs.Ytedmmifflbnmbaa
