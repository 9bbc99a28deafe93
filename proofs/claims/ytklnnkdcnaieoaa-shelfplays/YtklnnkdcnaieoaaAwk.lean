/- The statements' awake: the document's examples (a contract; nothing is claimed here). -/
import Derived.Test.YtklnnkdcnaieoaaTla
namespace Go.Proofs.Ytklnnkdcnaieoaa
open Go.RowKit Go.Vf
attribute [local go_sem] Oper.semAt_some

def kA : ByteArray := ⟨#[97]⟩
def kB : ByteArray := ⟨#[98]⟩
def v1 : ByteArray := ⟨#[49]⟩
def v2 : ByteArray := ⟨#[50]⟩
def v3 : ByteArray := ⟨#[51]⟩
theorem lt_ab : lt kA kB = true := by rw [lt_sd]; rfl
theorem lt_ba : lt kB kA = false := lt_asymm lt_ab
theorem lt_none (k : ByteArray) : lt k ⟨#[]⟩ = false := by
  rw [lt_sd]
  have : sd k ⟨#[]⟩ ≠ -1 := by
    unfold sd
    cases k.data.toList with
    | nil => decide
    | cons a r => simp [cmpL]
  simpa using this
theorem ins1 : ins kB v1 [] = [(kB, v1)] := rfl
theorem ins2 : ins kA v2 [(kB, v1)] = [(kA, v2), (kB, v1)] := by simp [ins, lt_ab, lt_ba]
theorem ins3 : ins kB v3 [(kA, v2), (kB, v1)] = [(kA, v2), (kB, v3)] := by simp [ins, lt_ab, lt_ba, lt_irrefl]
theorem ne_ab : ¬ kA = kB := lt_ne lt_ab
theorem get1 : get kB [] = none := rfl
theorem get2 : get kA [(kB, v1)] = none := by
  have h : ¬ kB = kA := fun h => ne_ab h.symm
  simp [Go.Vf.get, h]
theorem get3 : get kB [(kA, v2), (kB, v1)] = some v1 := by simp [Go.Vf.get, ne_ab]
theorem get4 : get kB [(kA, v2), (kB, v3)] = some v3 := by simp [Go.Vf.get, ne_ab]
theorem tell4 : tellP ⟨#[]⟩ ⟨#[]⟩ true true [(kA, v2), (kB, v3)] = [(kB, v3), (kA, v2)] := by simp [tellP, inSp, lt_none]
set_option maxRecDepth 100000 in
set_option maxHeartbeats 8000000 in
theorem awake_in (n : Nat) (hn : 8 ≤ n) (w : World) : CallsIn Fence.wide n Try.prog 14 #[] w fun e w' => e = .returned (.bool true) ∧ Below w.heap.size w w' := by
  have b1 := (Below.refl w.heap.size w).alloc (Nat.le_refl _) (.cells #[.bool false] 4)
  have B1 := Blk.new w 4 #[.bool false]
  refine callsIn_of_wp_marks Try.func14 rfl trivial ?_ rfl
  simp only [Try.ntmps14, List.size_toArray, List.length_nil, Nat.reduceSub, Array.replicate_succ, Array.replicate_zero, List.push_toArray, List.append_toArray, List.nil_append, List.cons_append]
  gi_wp2
  generalize w.alloc (.cells #[.bool false] 4) = w1 at *
  refine ⟨trivial, fun h => (by cases h), (callsIn_wide.2 (new_any w1)).mono ?_⟩
  rintro e w2 ⟨rfl, hs2, hb2⟩
  have HB2 : Hid (Below w.heap.size w w2) := b1.trans (hb2.mono b1.size)
  have HR2 : Hid (Blk w2 w.heap.size 4 #[.bool false]) := B1.old hb2
  have hne : w.heap.size < w1.heap.size := B1.lt
  clear b1 hb2 B1
  generalize w1.heap.size = B at *
  gi_wp2
  refine ⟨trivial, fun h => (by cases h), (callsIn_wide.2 (put_any w2 B [] kB v1 hs2 (by decide))).mono ?_⟩
  rintro e w3 ⟨rfl, hs3, ho3, hb3⟩
  rw [ins1] at hs3
  rw [get1]
  have HB3 : Hid (Below w.heap.size w w3) := HB2.out.trans (hb3.mono (Nat.le_of_lt hne))
  have HR3 : Hid (Blk w3 w.heap.size 4 #[.bool false]) := HR2.out.below hb3 hne
  clear hs2 ho3 hb3 HB2 HR2
  gi_wp2
  refine ⟨trivial, fun h => (by cases h), (callsIn_wide.2 (put_any w3 B [(kB, v1)] kA v2 hs3 (by decide))).mono ?_⟩
  rintro e w4 ⟨rfl, hs4, ho4, hb4⟩
  rw [ins2] at hs4
  rw [get2]
  have HB4 : Hid (Below w.heap.size w w4) := HB3.out.trans (hb4.mono (Nat.le_of_lt hne))
  have HR4 : Hid (Blk w4 w.heap.size 4 #[.bool false]) := HR3.out.below hb4 hne
  clear hs3 ho4 hb4 HB3 HR3
  gi_wp2
  refine ⟨trivial, fun h => (by cases h), (callsIn_wide.2 (put_any w4 B [(kA, v2), (kB, v1)] kB v3 hs4 (by decide))).mono ?_⟩
  rintro e w5 ⟨rfl, hs5, ho5, hb5⟩
  rw [ins3] at hs5
  rw [get3]
  have HB5 : Hid (Below w.heap.size w w5) := HB4.out.trans (hb5.mono (Nat.le_of_lt hne))
  have HR5 : Hid (Blk w5 w.heap.size 4 #[.bool false]) := HR4.out.below hb5 hne
  clear hs4 ho5 hb5 HB4 HR4
  gi_wp2
  refine ⟨trivial, fun h => (by cases h), (callsIn_wide.2 (get_any w5 B [(kA, v2), (kB, v3)] kB hs5)).mono ?_⟩
  rintro e w6 ⟨rfl, hb6⟩
  rw [getV, get4]
  have HB6 : Hid (Below w.heap.size w w6) := HB5.out.trans (hb6.mono HB5.out.size)
  have HR6 : Hid (Blk w6 w.heap.size 4 #[.bool false]) := HR5.out.old hb6
  have hs6 := hs5.old hb6
  clear hs5 hb6 HB5 HR5
  simp only [Option.getD_some, Option.isSome_some]
  have b7 := (Below.refl w6.heap.size w6).alloc (Nat.le_refl _) (.cells #[.int .i64 0] 3)
  have B7 := Blk.new w6 3 #[.int .i64 0]
  have hs7 := hs6.old b7
  have HB7 : Hid (Below w.heap.size w (w6.alloc (.cells #[.int .i64 0] 3))) := HB6.out.trans (b7.mono HB6.out.size)
  have HR7 : Hid (Blk (w6.alloc (.cells #[.int .i64 0] 3)) w.heap.size 4 #[.bool false]) := HR6.out.old b7
  have HNB : Hid (w.heap.size ≤ w6.heap.size) := HB6.out.size
  clear hs6 HB6 HR6 b7
  gi_wp2
  generalize w6.alloc (.cells #[.int .i64 0] 3) = w7 at *
  refine ⟨trivial, fun h => (by cases h), (callsIn_wide.2 (scan_sh B [(kA, v2), (kB, v3)] ⟨#[]⟩ ⟨#[]⟩ true true w7 hs7)).mono ?_⟩
  rintro e w8 ⟨rfl, hsc, hb8⟩
  have hB8 := B7.old hb8
  have HB8 : Hid (Below w.heap.size w w8) := HB7.out.trans (hb8.mono HB7.out.size)
  have HR8 : Hid (Blk w8 w.heap.size 4 #[.bool false]) := HR7.out.old hb8
  have hNB : w.heap.size ≤ w6.heap.size := HNB.out
  clear hs7 hb8 B7 HB7 HR7
  generalize w7.heap.size = N at *
  generalize w6.heap.size = NB at *
  gi_wp2
  refine range_tellsK (all := tellP ⟨#[]⟩ ⟨#[]⟩ true true [(kA, v2), (kB, v3)]) (by omega) rfl (enters_of Try.func36 (by kernel_rfl) rfl) (scan1_tells (n - 1) (by omega) _ _ _ _ _ _ _ _ _ w8 hsc)
    (fun pre V => (Blk V NB 3 #[.int .i64 (pre.length : Int)] ∧ Blk V w.heap.size 4 #[.bool false] ∧ ShAt V B [(kA, v2), (kB, v3)]) ∧ Below w.heap.size w V) (fun _ _ _ => False)
    (OwnFrom.and (own_keepC (fun s A C h k => ⟨k.same _ _ _ h.1, k.same _ _ _ h.2.1, h.2.2.keep k⟩)) (ownFrom_below (Nat.le_refl _) HB8.out.size)) (fun c s A C row hs hg hr => hs) ⟨⟨hB8, HR8.out, hsc.sh⟩, HB8.out⟩
    (fun x a' V => ∃ Bp, True ∧ Blk V Bp 45 #[.string x.1, .string x.2] ∧ a' = { tmps := #[Value.pointer (some { block := w.heap.size, off := 0 }), Value.pointer (some { block := B, off := 0 }), Value.bool false, Value.bool false, Value.bool true, Value.string v3, Value.bool true, Value.pointer (some { block := NB, off := 0 }), Value.pointer (some { block := Bp, off := 0 }), Value.pointer (some { block := B, off := 0 }), Value.pointer (some { block := B, off := 0 }), Value.bool false, Value.pointer (some { block := B, off := 0 }), Value.bool false, Value.pointer (some { block := B, off := 0 }), Value.bool false, Value.pointer (some { block := B, off := 0 }), Value.bool true, Value.tuple #[Value.string v3, Value.bool true], Value.pointer (some { block := B, off := 0 }), Value.tuple #[Value.string v3, Value.bool true], Value.string v3, Value.bool true, Value.pointer (some { block := B, off := 0 }), Value.agg #[Value.string { data := #[] }, Value.string { data := #[] }, Value.bool true], Value.func (Fn.func 36) #[] #[Value.pointer (some { block := N, off := 0 }), Value.pointer (some { block := N + 1, off := 0 }), Value.pointer (some { block := N + 1 + 1, off := 0 })], Value.agg #[Value.string x.1, Value.string x.2], undef, undef, undef, undef, undef, undef, undef, undef, undef, undef, undef, undef, undef, undef, undef, undef, undef, undef, undef, undef, undef, undef, undef, undef, undef, undef, undef, undef, undef, undef, undef, undef, undef, undef], defers := [] })
    (fun x a' => own_keepC (fun s A C h k => by obtain ⟨Bp, h1, h2, h3⟩ := h; exact ⟨Bp, h1, k.same _ _ _ h2, h3⟩)) ?assign ?body ?done ?stop
  case assign =>
    intro l2 pre x V K hi hp hK
    have hb := (Below.refl V.heap.size V).alloc (Nat.le_refl _) (.cells #[.string x.1, .string x.2] 45)
    have hB := Blk.new V 45 #[.string x.1, .string x.2]
    dsimp only [encP]
    gi_wp2
    exact hK _ _ ((KeepsOthers.alloc _ _).from _) (KeepT.of hb) ⟨⟨hi.1.1.old hb, hi.1.2.1.old hb, hi.1.2.2.old hb⟩, hi.2.trans (hb.mono hi.2.size)⟩ ⟨V.heap.size, trivial, hB, rfl⟩
  case body =>
    rintro l2 pre x a' V hl ⟨r, hr⟩ ⟨⟨h1, h2, h3⟩, h4⟩ ⟨Bp, hBp, hx, rfl⟩ hpx
    rw [tell4] at hpx
    have c1 := h1.c1
    have f1 := h1.frozen 0
    obtain ⟨c2, c3⟩ := hx.c2
    rcases pre with _ | ⟨y, _ | ⟨z, pre⟩⟩
    · have hxe : x = (kB, v3) := by
        obtain ⟨q, hq⟩ := hpx
        simp only [List.nil_append, List.cons_append, List.cons.injEq] at hq
        exact hq.1
      subst hxe
      simp only [List.length_nil] at c1
      have hO : Oth NB V (V.setCell ⟨NB, 0, none⟩ (.int .i64 1)) := (Oth.refl _ _).setCell 0 _
      have hS : Blk (V.setCell ⟨NB, 0, none⟩ (.int .i64 1)) NB 3 #[.int .i64 1] := h1.set 0 _
      obtain ⟨d2, d3⟩ := (hO.blk hx (hx.apart h1 (by decide))).c2
      have d1 := hS.c1
      dsimp only [kB, v3] at d2 d3
      have HI : Hid ((Blk (V.setCell ⟨NB, 0, none⟩ (.int .i64 1)) NB 3 #[.int .i64 1] ∧ Blk (V.setCell ⟨NB, 0, none⟩ (.int .i64 1)) w.heap.size 4 #[.bool false] ∧ ShAt (V.setCell ⟨NB, 0, none⟩ (.int .i64 1)) B [(kA, v2), (kB, v3)]) ∧ Below w.heap.size w (V.setCell ⟨NB, 0, none⟩ (.int .i64 1))) :=
        ⟨⟨hS, hO.blk h2 (h2.apart h1 (by decide)), h3.oth h1 (by decide) hO (by obtain ⟨cs, q⟩ := h3.blk; exact q.apart h1 (by decide))⟩, h4.setCell (p := ⟨NB, 0, none⟩) hNB _⟩
      have HK : Hid (KeepT V (V.setCell ⟨NB, 0, none⟩ (.int .i64 1))) := KeepT.oth hO h1 (by unfold KT; decide)
      clear hO hS h1 h2 h3 h4 hx c2 c3
      gi_wp2
      exact ⟨(KeepsOthers.setCell _ _ _).from _, HK.out, HI.out⟩
    · simp only [List.length_cons, List.length_nil] at c1
      have e1 : ((0 + 1 : Nat) : Int) = 1 := rfl
      rw [e1] at c1
      have hO : Oth NB V (V.setCell ⟨NB, 0, none⟩ (.int .i64 2)) := (Oth.refl _ _).setCell 0 _
      have hS : Blk (V.setCell ⟨NB, 0, none⟩ (.int .i64 2)) NB 3 #[.int .i64 2] := h1.set 0 _
      obtain ⟨d2, d3⟩ := (hO.blk hx (hx.apart h1 (by decide))).c2
      have d1 := hS.c1
      have HI : Hid ((Blk (V.setCell ⟨NB, 0, none⟩ (.int .i64 2)) NB 3 #[.int .i64 2] ∧ Blk (V.setCell ⟨NB, 0, none⟩ (.int .i64 2)) w.heap.size 4 #[.bool false] ∧ ShAt (V.setCell ⟨NB, 0, none⟩ (.int .i64 2)) B [(kA, v2), (kB, v3)]) ∧ Below w.heap.size w (V.setCell ⟨NB, 0, none⟩ (.int .i64 2))) :=
        ⟨⟨hS, hO.blk h2 (h2.apart h1 (by decide)), h3.oth h1 (by decide) hO (by obtain ⟨cs, q⟩ := h3.blk; exact q.apart h1 (by decide))⟩, h4.setCell (p := ⟨NB, 0, none⟩) hNB _⟩
      have HK : Hid (KeepT V (V.setCell ⟨NB, 0, none⟩ (.int .i64 2))) := KeepT.oth hO h1 (by unfold KT; decide)
      clear hO hS h1 h2 h3 h4 hx c2 c3
      gi_wp2
      exact ⟨(KeepsOthers.setCell _ _ _).from _, HK.out, HI.out⟩
    · exfalso
      have := hpx.length_le
      simp at this
  case done =>
    rintro D V hD ⟨⟨h1, h2, h3⟩, h4⟩ hK
    rw [tell4] at h1
    have c1 : V.cell? ⟨NB, 0, none⟩ = some (.int .i64 2) := h1.c1
    have c0 := h2.c1
    have f0 := h2.frozen 0
    have HE : Hid (Below w.heap.size w (V.setCell ⟨w.heap.size, 0, none⟩ (.bool true))) := h4.setCell (p := ⟨w.heap.size, 0, none⟩) (Nat.le_refl _) _
    have hS : Blk (V.setCell ⟨w.heap.size, 0, none⟩ (.bool true)) w.heap.size 4 #[.bool true] := h2.set 0 _
    have hK2 : (V.setCell ⟨w.heap.size, 0, none⟩ (.bool true)).heap[D]? = some (.deferred (some [])) := (KeepsOthers.setCell V ⟨w.heap.size, 0, none⟩ (.bool true)).same D _ hK rfl
    have hDw : w.heap.size < D := Nat.lt_of_lt_of_le HR8.out.lt hD
    dsimp only [v3]
    gi_wp2
    refine ⟨trivial, fun h => (by cases h), (callsIn_wide.2 (len_any V B _ h3)).mono ?_⟩
    rintro e V2 ⟨rfl, rfl⟩
    dsimp only [List.length_cons, List.length_nil]
    clear h1 h2 h3 h4 hsc hB8 HB8 HR8
    gi_wp2
    generalize V.setCell ⟨w.heap.size, 0, none⟩ (.bool true) = U at *
    have hP : U.heap[w.heap.size]? = some (.cells #[.bool true] 4 (0, 0)) := hS
    have hS2 : Blk (U.putObj D (.deferred none)) w.heap.size 4 #[.bool true] := (World.putObj_heap_other (by omega)).trans hP
    have c9 := hS2.c1
    refine ⟨by simp, .inl ⟨_, _, rfl, run_takeDeferred hK2, ?_⟩⟩
    refine ⟨_, by simp [results, Try.results14, go_sem, c9], rfl, HE.out.trans (belowK_b (w := w) (Nat.le_refl _) U D _ _ (by omega) hK2 rfl rfl)⟩
  case stop =>
    rintro D c pre V hD hpre hx hK
    exact hx.elim
end Go.Proofs.Ytklnnkdcnaieoaa
