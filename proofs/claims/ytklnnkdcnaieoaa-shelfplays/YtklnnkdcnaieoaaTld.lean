/- What the statements' told does: a span's pairs as a row (contracts; nothing is claimed here). -/
import Derived.Test.YtklnnkdcnaieoaaTla
import Derived.Deep.AppendLies
namespace Go.Proofs.Ytklnnkdcnaieoaa
open Go.RowKit Go.Vf
attribute [local go_sem] Oper.semAt_some

theorem no_func (a : Array Value) (w : World) : Sem.run Try.prog (binOp BinOp.eql 50 (.func (.func 36) #[] a) .nilFunc) w = .ok (.bool false) w := by kernel_rfl
/-- A row of pairs, in blocks from base on. -/
def PRow (w : World) (base : Nat) (v : Value) (l : List Pr) : Prop := w.ownsRow base 45 2 v l.length (cellsP l)
theorem PRow.shape {w : World} {base : Nat} {v : Value} {l : List Pr} (h : PRow w base v l) : ∃ a c, v = .slice a l.length c := by
  rcases h.2 with ⟨rfl, h0⟩ | ⟨g, cap, cur, rfl, _⟩
  · exact ⟨none, 0, by rw [h0]⟩
  · exact ⟨_, _, rfl⟩
theorem PRow.keepB {w w' : World} {base : Nat} {v : Value} {l : List Pr} (h : PRow w base v l) (hk : ∀ b cs, base ≤ b → Blk w b 45 cs → Blk w' b 45 cs) : PRow w' base v l := by
  refine ⟨h.1, ?_⟩
  rcases h.2 with h0 | ⟨g, cap, cur, rfl, hb, hg, hr⟩
  · exact .inl h0
  · exact .inr ⟨g, cap, cur, rfl, hb, hk g cur hb hg, hr⟩
theorem PRow.keep {w w' : World} {base : Nat} {v : Value} {l : List Pr} (h : PRow w base v l) (hk : KeepC w w') : PRow w' base v l := h.keepB fun b cs _ q => hk.same b 45 cs q
theorem PRow.old {w w' : World} {base : Nat} {v : Value} {l : List Pr} (h : PRow w base v l) (hb : Below w.heap.size w w') : PRow w' base v l := h.keep (.of hb)
/-- What an append to the row in box O leaves as it lay. -/
theorem app_keep {V w1 : World} {O base k : Nat} {v v' : Value} {xs : List Value} {tmp : Obj} {b : Nat} {t : TypeId} {cs : Array Value} (hv : Blk V O 39 #[v]) (hrow : V.ownsRow base 45 2 v k xs) (hgrow : (V.alloc tmp).grownBy w1 v.ownBlock)
    (hb : Blk V b t cs) (h45 : t ≠ 45) (h39 : t ≠ 39) : Blk (w1.setCell ⟨O, 0, none⟩ v') b t cs := by
  have h1 : Blk (V.alloc tmp) b t cs := hb.old ((Below.refl _ _).alloc (Nat.le_refl _) _)
  have h2 : Blk w1 b t cs := by
    refine (hgrow.block b h1.lt (fun e => ?_)).trans h1
    rcases hrow.2 with ⟨rfl, _⟩ | ⟨g, cap, cur, rfl, _, hg, _⟩
    · cases e
    · have e2 : b = g := by simpa [Value.ownBlock] using e
      subst e2
      exact (Blk.apart hb (u := 45) (ds := cur) hg h45) rfl
  exact h2.other (p := ⟨O, 0, none⟩) (hb.apart hv h39) v'
theorem app_keepT {V w1 : World} {O base k : Nat} {v v' : Value} {xs : List Value} {tmp : Obj} (hv : Blk V O 39 #[v]) (hrow : V.ownsRow base 45 2 v k xs) (hgrow : (V.alloc tmp).grownBy w1 v.ownBlock) (hs : V.heap.size ≤ (w1.setCell ⟨O, 0, none⟩ v').heap.size) : KeepT V (w1.setCell ⟨O, 0, none⟩ v') :=
  ⟨hs, fun b t cs ht q => app_keep hv hrow hgrow q (by rcases ht with rfl | rfl | rfl <;> decide) (by rcases ht with rfl | rfl | rfl <;> decide)⟩
theorem tuple18 {tmps : Array Value} {w : World} : (results Try.f18 tmps).run Try.prog w = .ok (.tuple #[tmps[8]?.getD undef, tmps[9]?.getD undef]) w := by simp [results, Try.results18, go_sem]
set_option maxRecDepth 100000 in
set_option maxHeartbeats 8000000 in
theorem told_in (n : Nat) (hn : 6 ≤ n) (B : Nat) (L : List Pr) (f t : ByteArray) (o back : Bool) (w : World) (h : ShAt w B L) (hlen : L.length ≤ 2147483648) :
    CallsIn Fence.wide n Try.prog 18 #[.pointer (some ⟨B, 0, none⟩), .agg #[.string f, .string t, .bool o], .bool back, .int .i64 (-1)] w fun e w' => ∃ v, e = .returned (.tuple #[v, .bool true]) ∧ PRow w' w.heap.size v (tellP f t o back L) ∧ Below w.heap.size w w' := by
  have b1 := (Below.refl w.heap.size w).alloc (Nat.le_refl _) (.cells #[.string f, .string t, .bool o] 29)
  have B1 := Blk.new w 29 #[.string f, .string t, .bool o]
  have s1 := alloc_size w (.cells #[.string f, .string t, .bool o] 29)
  refine callsIn_of_wp_marks Try.func18 rfl trivial ?_ rfl
  simp only [Try.ntmps18, List.size_toArray, List.length_cons, List.length_nil, Nat.reduceAdd, Nat.reduceSub, Array.replicate_succ, Array.replicate_zero, List.push_toArray, List.append_toArray, List.nil_append, List.cons_append]
  obtain ⟨w1, hw1⟩ : ∃ w1, w.alloc (.cells #[.string f, .string t, .bool o] 29) = w1 := ⟨_, rfl⟩
  rw [hw1] at b1 B1 s1
  have b2 := (Below.refl w1.heap.size w1).alloc (Nat.le_refl _) (.cells #[.int .i64 (-1)] 3)
  have B2 := Blk.new w1 3 #[.int .i64 (-1)]
  have s2 := alloc_size w1 (.cells #[.int .i64 (-1)] 3)
  obtain ⟨w2, hw2⟩ : ∃ w2, w1.alloc (.cells #[.int .i64 (-1)] 3) = w2 := ⟨_, rfl⟩
  rw [hw2] at b2 B2 s2
  have b3 := (Below.refl w2.heap.size w2).alloc (Nat.le_refl _) (.cells #[.slice none 0 0] 39)
  have B3 := Blk.new w2 39 #[.slice none 0 0]
  obtain ⟨w3, hw3⟩ : ∃ w3, w2.alloc (.cells #[.slice none 0 0] 39) = w3 := ⟨_, rfl⟩
  rw [hw3] at b3 B3
  have A3 := (B1.old b2).old b3
  have M3 := B2.old b3
  have HB3 : Hid (Below w.heap.size w w3) := (b1.trans (b2.mono b1.size)).trans (b3.mono (Nat.le_trans b1.size b2.size))
  have h3 := ((h.old b1).old b2).old b3
  have hM : w.heap.size ≤ w1.heap.size := b1.size
  have hO : w.heap.size ≤ w2.heap.size := Nat.le_trans b1.size b2.size
  obtain ⟨c0, c1, c2⟩ := A3.c3
  clear b1 b2 b3 B1 B2 s1 s2 h
  gi_wp2
  clear hw1 hw2 hw3
  generalize w1.heap.size = M at *
  generalize w2.heap.size = O at *
  refine ⟨trivial, fun h => (by cases h), (callsIn_wide.2 (scan_sh B L f t o back w3 h3)).mono ?_⟩
  rintro e w4 ⟨rfl, hsc, hb4⟩
  have HM4 : Hid (Blk w4 M 3 #[.int .i64 (-1)]) := M3.old hb4
  have HO4 : Hid (Blk w4 O 39 #[.slice none 0 0]) := B3.old hb4
  have HB4 : Hid (Below w.heap.size w w4) := HB3.out.trans (hb4.mono HB3.out.size)
  clear A3 c0 c1 c2 B3 M3 h3 hb4 HB3
  generalize w3.heap.size = N at *
  have hnf := no_func #[.pointer (some ⟨N, 0, none⟩), .pointer (some ⟨N + 1, 0, none⟩), .pointer (some ⟨N + 1 + 1, 0, none⟩)] w4
  gi_wp2
  have HLP : Hid ((tellP f t o back L).length ≤ 2147483648) := by
    show _ ≤ _
    refine Nat.le_trans ?_ hlen
    unfold tellP
    cases back
    · exact List.length_filter_le _ _
    · simp only [if_true, List.length_reverse]; exact List.length_filter_le _ _
  clear hlen hnf
  obtain ⟨i0, hi, hz0, hz1, hz2⟩ := info_parts Try.info45
  refine range_tellsK (all := tellP f t o back L) (by omega) rfl (enters_of Try.func36 (by kernel_rfl) rfl) (scan1_tells (n - 1) (by omega) _ _ _ _ _ _ _ _ _ w4 hsc)
    (fun pre V => ((∃ v, Blk V O 39 #[v] ∧ PRow V w.heap.size v pre) ∧ Blk V M 3 #[.int .i64 (-1)]) ∧ Below w.heap.size w V) (fun _ _ _ => False)
    (OwnFrom.and (own_keepC (fun s A C h k => by obtain ⟨⟨v, h1, h2⟩, h3⟩ := h; exact ⟨⟨v, k.same _ _ _ h1, h2.keep k⟩, k.same _ _ _ h3⟩)) (ownFrom_below (Nat.le_refl _) HB4.out.size)) (fun c s A C row hs hg hr => hs) ⟨⟨⟨_, HO4.out, World.ownsRow_nil _ _ _ _⟩, HM4.out⟩, HB4.out⟩
    (fun x a' V => ∃ Bp, Blk V Bp 45 #[.string x.1, .string x.2] ∧ a' = { tmps := #[Value.pointer (some { block := B, off := 0 }), Value.agg #[Value.string f, Value.string t, Value.bool o], Value.bool back, Value.int IntKind.i64 (-1), undef, Value.pointer (some { block := w.heap.size, off := 0 }), undef, Value.pointer (some { block := M, off := 0 }), Value.slice none 0 0, Value.bool false, Value.pointer (some { block := O, off := 0 }), Value.func (Fn.func 36) #[] #[Value.pointer (some { block := N, off := 0 }), Value.pointer (some { block := N + 1, off := 0 }), Value.pointer (some { block := N + 1 + 1, off := 0 })], Value.pointer (some { block := Bp, off := 0 }), Value.pointer (some { block := B, off := 0 }), Value.agg #[Value.string f, Value.string t, Value.bool o], Value.bool back, Value.func (Fn.func 36) #[] #[Value.pointer (some { block := N, off := 0 }), Value.pointer (some { block := N + 1, off := 0 }), Value.pointer (some { block := N + 1 + 1, off := 0 })], Value.func (Fn.func 36) #[] #[Value.pointer (some { block := N, off := 0 }), Value.pointer (some { block := N + 1, off := 0 }), Value.pointer (some { block := N + 1 + 1, off := 0 })], Value.bool false, Value.func (Fn.func 36) #[] #[Value.pointer (some { block := N, off := 0 }), Value.pointer (some { block := N + 1, off := 0 }), Value.pointer (some { block := N + 1 + 1, off := 0 })], Value.agg #[Value.string x.1, Value.string x.2], undef, undef, undef, undef, undef, undef, undef, undef, undef], defers := [] })
    (fun x a' => own_keepC (fun s A C h k => by obtain ⟨Bp, h2, h3⟩ := h; exact ⟨Bp, k.same _ _ _ h2, h3⟩)) ?assign ?body ?done ?stop
  case assign =>
    intro l2 pre x V K hi hp hK
    have hb := (Below.refl V.heap.size V).alloc (Nat.le_refl _) (.cells #[.string x.1, .string x.2] 45)
    have hB := Blk.new V 45 #[.string x.1, .string x.2]
    dsimp only [encP]
    gi_wp2
    obtain ⟨⟨⟨v, g1, g2⟩, g3⟩, g4⟩ := hi
    exact hK _ _ ((KeepsOthers.alloc _ _).from _) (KeepT.of hb) ⟨⟨⟨v, g1.old hb, g2.old hb⟩, g3.old hb⟩, g4.trans (hb.mono g4.size)⟩ ⟨V.heap.size, hB, rfl⟩
  case body =>
    rintro l2 pre x a' V hl ⟨r, hr⟩ ⟨⟨⟨v, g1, g2⟩, g3⟩, g4⟩ ⟨Bp, hx, rfl⟩ hpx
    have hpl : pre.length + 1 ≤ 2147483648 := by
      have h1 := hpx.length_le
      have h2 := HLP.out
      simp only [List.length_append, List.length_cons, List.length_nil] at h1
      omega
    obtain ⟨a, c, rfl⟩ := g2.shape
    have d1 := g1.c1
    have d3 := g3.c1
    obtain ⟨e0, e1⟩ := hx.c2
    have hrow : V.ownsRow w.heap.size 45 2 (.slice a pre.length c) pre.length (cellsP pre) := g2
    have hVs : w.heap.size ≤ V.heap.size := g4.size
    obtain ⟨m, hm⟩ : ∃ m, m = pre.length := ⟨_, rfl⟩
    have Hm : Hid (m = pre.length) := hm
    rw [← hm] at d1 hrow hpl g1
    clear hm
    have HG1 : Hid (Blk V O 39 #[.slice a m c]) := g1
    have HG3 : Hid (Blk V M 3 #[.int .i64 (-1)]) := g3
    have HG4 : Hid (Below w.heap.size w V) := g4
    clear g1 g2 g3 g4 hx
    have hmn : ((m : Int) == -1) = false := by
      rw [beq_eq_false_iff_ne]
      omega
    have q2 : ∀ j u, [Value.string x.1, Value.string x.2][j]? = some u → (V.alloc (.cells #[.string x.1, .string x.2] 45)).cell? ((⟨V.heap.size, 0, none⟩ : Addr).add j) = some u := World.news_of_block (cs := #[.string x.1, .string x.2]) (t := 45) (fr := (0, 0)) (heap_alloc_new V _)
    have q3 : ∀ u ∈ [Value.string x.1, Value.string x.2], u.oneCell' = true := by simp [Value.oneCell']
    have q4 : m + 1 ≤ maxLen := by unfold maxLen; omega
    have q5 : (m + 1) * 32 ≤ 140737488355328 := by omega
    have q6 : w.heap.size ≤ (V.alloc (.cells #[.string x.1, .string x.2] 45)).heap.size := by rw [alloc_size]; omega
    gi_wp2_with (gi_at_builtin; refine wpListIn_append_own _ rfl _ _ 39 rfl w.heap.size 45 i0 _ 2 32 Try.underlying39 hi hz0 hz1 hz2 rfl (by decide) _ m (cellsP pre) rfl (hrow.alloc _) ⟨V.heap.size, 0, none⟩ 1 1 [.string x.1, .string x.2] rfl rfl q2 q3 q4 q5 q6 ?_; clear q2 q3 q4 q5 q6; intro v' w1 hown' hgrow _; obtain ⟨g', cap', rfl⟩ := ownsRow_succ hown'; obtain ⟨hv1, hv2, hr2, hk2, hb2⟩ := Boxed.appended HG1.out (by decide) hrow hVs hO hown' hgrow; have hc1 := hv1.cell; have hf1 := hv1.frozen)
    have hM2 : Blk (w1.setCell ⟨O, 0, none⟩ (.slice (some ⟨g', 0, none⟩) (m + 1) cap')) M 3 #[.int .i64 (-1)] := app_keep HG1.out hrow hgrow HG3.out (by decide) (by decide)
    have hKT := app_keepT (v' := .slice (some ⟨g', 0, none⟩) (m + 1) cap') HG1.out hrow hgrow hb2.size
    refine ⟨hk2.from _, hKT, ⟨⟨_, hv2, ?_⟩, hM2⟩, HG4.out.trans hb2⟩
    have hr3 := hr2
    rw [Hm.out] at hr3 ⊢
    rw [show PRow = PRow from rfl]
    unfold PRow
    rw [cellsP_snoc]
    simpa using hr3
  case done =>
    rintro D V hD ⟨⟨⟨v, g1, g2⟩, g3⟩, g4⟩ hK
    have d1 := g1.c1
    have hRf : PRow (V.putObj D (.deferred none)) w.heap.size v (tellP f t o back L) := g2.keep (keepC_of (grownBy_putObj' V D _) (fun r e => by cases e; exact ⟨_, hK, rfl⟩))
    have hDw : w.heap.size ≤ D := Nat.le_trans HB4.out.size hD
    gi_wp2
    refine ⟨by simp, .inl ⟨_, _, rfl, run_takeDeferred hK, ?_⟩⟩
    exact ⟨_, tuple18, v, rfl, hRf, g4.trans (belowK_b (w := w) (Nat.le_refl _) V D _ _ hDw hK rfl rfl)⟩
  case stop =>
    rintro D c pre V hD hpre hx hK
    exact hx.elim
end Go.Proofs.Ytklnnkdcnaieoaa
