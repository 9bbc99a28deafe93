/- What (*Shelf).Scan hands back, as an iterator (contracts; nothing is claimed here). -/
import Derived.Test.YtklnnkdcnaieoaaNod
import Derived.Test.YtklnnkdcnaieoaaShl
import Derived.OrdersIn
namespace Go.Proofs.Ytklnnkdcnaieoaa
open Go.RowKit Go.Vf
attribute [local go_sem] Oper.semAt_some

/-- It does not panic. -/
def NoPanic (Q : Exit → Act → World → Prop) : Exit → Act → World → Prop
  | .panic _, _, _ => False
  | e, a, w => Q e a w
theorem wp_noPanic {P : Program} {c : Code} {Q : Exit → Act → World → Prop} {a : Act} {w : World} (h : c.wp P (NoPanic Q) a w) : c.wp P Q a w := by
  refine wp_mono h ?_
  intro e a w q
  cases e with
  | panic c => exact q.elim
  | _ => exact q
theorem noPanic_normal {Q : Exit → Act → World → Prop} {a : Act} {w : World} (h : Q .normal a w) : NoPanic Q .normal a w := h
theorem into_gives (f t : ByteArray) (o : Bool) (w : World) : Calls Try.prog 38 #[.agg #[.string f, .string t, .bool o]] w fun e w' => e = .returned (.func (.func 48) #[] #[.pointer (some ⟨w.heap.size, 0, none⟩)]) ∧ Blk w' w.heap.size 29 #[.string f, .string t, .bool o] ∧ Below w.heap.size w w' :=
  (into_any f t o w).mono fun e w' h => by
    obtain ⟨h1, rfl⟩ := h
    exact ⟨h1, Blk.new w 29 _, (Below.refl w.heap.size w).alloc (Nat.le_refl _) _⟩
/-- The pairs of a span, rising or falling. -/
def tellP (f t : ByteArray) (o back : Bool) (L : List Pr) : List Pr := if back then (L.filter (fun x => inSp f t o x.1)).reverse else L.filter (fun x => inSp f t o x.1)
theorem tellN_map (f t : ByteArray) (o back : Bool) (T : Tr) : (tellN f t o back T).map (·.2) = tellP f t o back T.toL := by
  have e : (T.nds.filter (fun x => inSp f t o x.2.1)).map (·.2) = T.toL.filter (fun x => inSp f t o x.1) := by
    rw [← Tr.nds_toL, List.filter_map]
    rfl
  unfold tellN tellP
  cases back
  · exact e
  · simp only [if_true, List.map_reverse, e]
theorem tellN_mem {f t : ByteArray} {o back : Bool} {T : Tr} {x : Nat × Pr} (h : x ∈ tellN f t o back T) : x ∈ T.nds := by
  unfold tellN at h
  cases back with
  | false =>
    have h' : x ∈ T.nds.filter (fun x => inSp f t o x.2.1) := h
    exact (List.mem_filter.1 h').1
  | true =>
    simp only [if_true, List.mem_reverse] at h
    exact (List.mem_filter.1 h).1
theorem nds_blk {w : World} : ∀ {T : Tr}, TAt w T → ∀ {x : Nat × Pr}, x ∈ T.nds → ∃ a b c, Blk w x.1 66 #[.string x.2.1, .string x.2.2, a, b, c]
  | .leaf, _, _, h => by cases h
  | .node _ _ _ _ _, ht, _, h => by
    rcases List.mem_append.1 h with h | h
    · exact nds_blk ht.2.1 h
    · rcases List.mem_cons.1 h with rfl | h
      · exact ⟨_, _, _, ht.1⟩
      · exact nds_blk ht.2.2 h
/-- A pair as it is told. -/
def encP (x : Pr) : Value := .agg #[.string x.1, .string x.2]
/-- What the iterator over pairs reads. -/
structure ScnAt (w : World) (Bs Ba Bb B : Nat) (f t : ByteArray) (o back : Bool) (L : List Pr) : Prop where
  bs : Blk w Bs 24 #[.pointer (some ⟨B, 0, none⟩)]
  ba : Blk w Ba 29 #[.string f, .string t, .bool o]
  bb : Blk w Bb 4 #[.bool back]
  sh : ShAt w B L
theorem ScnAt.old {w w' : World} {Bs Ba Bb B : Nat} {f t : ByteArray} {o back : Bool} {L : List Pr} (h : ScnAt w Bs Ba Bb B f t o back L) (hb : Below w.heap.size w w') : ScnAt w' Bs Ba Bb B f t o back L :=
  ⟨h.bs.old hb, h.ba.old hb, h.bb.old hb, h.sh.old hb⟩
theorem own_keepT {α : Type} {B : Nat} {w : World} : OwnFrom (β := List α) B (fun _ W => KeepT w W) := fun s A C row hs hg hr =>
  ⟨Nat.le_trans hs.size hg.size, fun b t cs ht q => by
    have q2 := hs.same b t cs ht q
    refine (hg.block b q2.lt (fun e => ?_)).trans q2
    obtain ⟨_, o, h1, h2⟩ := hr b e.symm
    have e2 := h1.symm.trans q2
    injection e2 with e2
    subst e2
    cases h2⟩
theorem own_map {α β : Type} {B : Nat} {J : List β → World → Prop} (f : α → β) (h : OwnFrom B J) : OwnFrom B (fun (pre : List α) W => J (pre.map f) W) := fun s A C row hs hg hr => h (s.map f) A C row hs hg hr
theorem own_below {α : Type} {B : Nat} {J : List α → World → Prop} (h : OwnFrom B J) {pre : List α} {A C : World} (hs : J pre A) (hb : Below A.heap.size A C) : J pre C :=
  h pre A C none hs ⟨hb.os, hb.tape, hb.output, hb.size, fun k hk _ => hb.block k hk⟩ (fun r e => by cases e)
set_option maxRecDepth 100000 in
set_option maxHeartbeats 8000000 in
theorem scan1_tells (n : Nat) (hn : 2 ≤ n) (Bs Ba Bb B : Nat) (f t : ByteArray) (o back : Bool) (L : List Pr) (w : World) (h : ScnAt w Bs Ba Bb B f t o back L) :
    TellsK n Try.prog 36 #[.pointer (some ⟨Bs, 0, none⟩), .pointer (some ⟨Ba, 0, none⟩), .pointer (some ⟨Bb, 0, none⟩)] encP (tellP f t o back L) w := by
  intro l J Jx W hW hJ hJx hY h0
  have hN := h.old hW
  obtain ⟨T, hTL, hT, hBk⟩ := hN.sh.tree
  have HS : Hid (Srt T.toL) := by rw [hTL]; exact hN.sh.srt
  have HE : Hid ((tellN f t o back T).map (·.2) = tellP f t o back L) := by rw [← hTL]; exact tellN_map f t o back T
  have hb1 := (Below.refl W.heap.size W).alloc (Nat.le_refl _) (.cells #[.func (.yield l) #[] #[]] 68)
  have hB1 := Blk.new W 68 #[.func (.yield l) #[] #[]]
  have hJ1 := own_below hJ h0 hb1
  have HT1 : Hid (TAt (W.alloc (.cells #[.func (.yield l) #[] #[]] 68)) T) := hT.old hb1
  have hs1 := (hN.bs.old hb1).c1
  have HF : Hid (∀ y, Below (W.alloc (.cells #[.func (.yield l) #[] #[]] 68)).heap.size (W.alloc (.cells #[.func (.yield l) #[] #[]] 68)) y → y.cell? ⟨Bs, 0, none⟩ = some (.pointer (some ⟨B, 0, none⟩)) ∧ y.cell? ⟨B, 0, none⟩ = some (.pointer T.ptr) ∧ y.cell? ⟨Ba, 0, none⟩ = some (.string f) ∧ y.cell? ⟨Ba, 1, none⟩ = some (.string t) ∧ y.cell? ⟨Ba, 2, none⟩ = some (.bool o) ∧ y.cell? ⟨Bb, 0, none⟩ = some (.bool back)) := fun y hy =>
    have q := ((hN.ba.old hb1).old hy).c3
    ⟨((hN.bs.old hb1).old hy).c1, ((hBk.old hb1).old hy).c2.1, q.1, q.2.1, q.2.2, ((hN.bb.old hb1).old hy).c1⟩
  have hWl : W.heap.size < (W.alloc (.cells #[.func (.yield l) #[] #[]] 68)).heap.size := hB1.lt
  clear hN hT hBk h hW h0 hTL
  refine callsIn_of_wp_marks Try.func36 rfl trivial ?_ rfl
  simp only [Try.ntmps36, List.size_toArray, List.length_cons, List.length_nil, Nat.reduceAdd, Nat.reduceSub, Array.replicate_succ, Array.replicate_zero, List.push_toArray, List.append_toArray, List.nil_append, List.cons_append]
  gi_wp2
  generalize W.alloc (.cells #[.func (.yield l) #[] #[]] 68) = W1 at *
  refine wpIn_wide.2 ?_
  refine wp_noPanic ?_
  refine wp_region_held_drew (S := fun x => Below W1.heap.size W1 x) (by kernel_rfl) ((Below.refl _ _).drew) (fun hHelda => ?_)
  refine wpAnyH_takeD (i := 0) (some 8) (v := ?va0) rfl rfl (by kernel_rfl) (by kernel_rfl) (by kernel_rfl) (fun _ _ _ h => h) (Or.inl ⟨by kernel_rfl, ?hya0⟩) (by assumption) ?resta0
  case hya0 => (intro x hSx; (try dsimp only at hSx); obtain ⟨z0, z1, z2, z3, z4, z5⟩ := HF.out x hSx; go_simp; first | done | with_reducible rfl)
  try simp only [Act.put, List.setIfInBounds_toArray, List.set_cons_zero, List.set_cons_succ]
  refine wpAnyH_takeD (i := 1) (some 9) (v := ?va1) rfl rfl (by kernel_rfl) (by kernel_rfl) (by kernel_rfl) (fun _ _ _ h => h) (Or.inl ⟨by kernel_rfl, ?hya1⟩) (by assumption) ?resta1
  case hya1 => (intro x hSx; (try dsimp only at hSx); go_simp; first | done | with_reducible rfl)
  try simp only [Act.put, List.setIfInBounds_toArray, List.set_cons_zero, List.set_cons_succ]
  refine wpAnyH_takeD (i := 2) (some 10) (v := ?va2) rfl rfl (by kernel_rfl) (by kernel_rfl) (by kernel_rfl) (fun _ _ _ h => h) (Or.inl ⟨by kernel_rfl, ?hya2⟩) (by assumption) ?resta2
  case hya2 => (intro x hSx; (try dsimp only at hSx); go_simp; first | done | with_reducible rfl)
  try simp only [Act.put, List.setIfInBounds_toArray, List.set_cons_zero, List.set_cons_succ]
  refine wpAnyH_takeD (i := 3) (some 11) (v := ?va3) rfl rfl (by kernel_rfl) (by kernel_rfl) (by kernel_rfl) (fun _ _ _ h => h) (Or.inl ⟨by kernel_rfl, ?hya3⟩) (by assumption) ?resta3
  case hya3 => (intro x hSx; (try dsimp only at hSx); obtain ⟨z0, z1, z2, z3, z4, z5⟩ := HF.out x hSx; go_simp; first | done | with_reducible rfl)
  try simp only [Act.put, List.setIfInBounds_toArray, List.set_cons_zero, List.set_cons_succ]
  refine wpAnyH_takeD (i := 4) (some 12) (v := ?va4) rfl rfl (by kernel_rfl) (by kernel_rfl) (by kernel_rfl) (fun _ _ _ h => h) (Or.inl ⟨by kernel_rfl, ?hya4⟩) (by assumption) ?resta4
  case hya4 => (intro x hSx; (try dsimp only at hSx); obtain ⟨z0, z1, z2, z3, z4, z5⟩ := HF.out x hSx; go_simp; first | done | with_reducible rfl)
  try simp only [Act.put, List.setIfInBounds_toArray, List.set_cons_zero, List.set_cons_succ]
  refine wpAnyH_takeD (i := 6) (some 14) (v := ?va6) rfl rfl (by kernel_rfl) (by kernel_rfl) (by kernel_rfl) (fun _ _ _ h => h) (Or.inl ⟨by kernel_rfl, ?hya6⟩) (by assumption) ?resta6
  case hya6 => (intro x hSx; (try dsimp only at hSx); obtain ⟨z0, z1, z2, z3, z4, z5⟩ := HF.out x hSx; go_simp; first | done | with_reducible rfl)
  try simp only [Act.put, List.setIfInBounds_toArray, List.set_cons_zero, List.set_cons_succ]
  refine wpAnyH_ready (rs := [5]) (by kernel_rfl) (by simp) ?_
  refine AllReadyH.cons rfl (fun K hK => ?_) AllReadyH.nil
  go_simp
  go_wp2_with (go_at_call 38; refine (into_gives f t o _).mono ?_; rintro e y5 ⟨rfl, hi5, hq5⟩)
  refine hK.out _ _ (hHelda.trans (hq5.mono hHelda.size)) (fun hHelda5 => ?_)
  clear hK K
  try simp only [Act.put, List.setIfInBounds_toArray, List.set_cons_zero, List.set_cons_succ]
  refine wpAnyH_ready (rs := [7]) (by kernel_rfl) (by simp) ?_
  refine AllReadyH.cons rfl (fun K hK => ?_) AllReadyH.nil
  go_simp
  go_wp2_with (go_at_call 37; refine (nodes_any T.ptr 48 W1.heap.size back _).mono ?_; rintro e y7 ⟨rfl, hn7, hw7, hb7, hq7⟩)
  refine hK.out _ _ (hHelda5.trans (hq7.mono hHelda5.size)) (fun hHelda7 => ?_)
  clear hK K
  try simp only [Act.put, List.setIfInBounds_toArray, List.set_cons_zero, List.set_cons_succ]
  refine wpAnyH_done (by kernel_rfl) ?_ _
  refine noPanic_normal ?_
  have hNod : NodAt y7 y5.heap.size (y5.heap.size + 1) (y5.heap.size + 1 + 1) W1.heap.size f t o back T := ⟨hn7, hw7, hb7, hi5.old hq7, HT1.out.old hHelda7, HS.out⟩
  have hJ7 : J [] y7 := own_below hJ hJ1 hHelda7
  have hY7 : Blk y7 W.heap.size 68 #[.func (.yield l) #[] #[]] := hB1.old hHelda7
  have hsz7 : W.heap.size ≤ y7.heap.size := Nat.le_trans (Nat.le_of_lt hWl) hHelda7.size
  generalize y5.heap.size = N5 at *
  clear hn7 hw7 hb7 hi5 hq7 hq5 HF HT1 hJ1 hs1 hHelda7 hHelda hHelda5 hb1 hB1
  go_wp2
  gi_wp2
  refine range_tellsK (all := tellN f t o back T) (by omega) rfl (enters_of Try.func46 (by kernel_rfl) rfl) (nodes1_tells (n - 1) _ _ _ _ f t o back T y7 hNod) (fun pre V => J (pre.map (·.2)) V ∧ KeepT y7 V) (fun c pre V => c = .ret ∧ Jx (pre.map (·.2)) V)
    ((own_more (own_map _ hJ) hsz7).and own_keepT) (fun c s A C row hs hg hr => ⟨hs.1, (own_more (own_map (·.2) hJx) hsz7) s A C row hs.2 hg hr⟩) ⟨hJ7, KeepT.refl _⟩
    (fun x a' _ => a' = { tmps := #[.func (.yield l) #[] #[], .pointer (some ⟨Bs, 0, none⟩), .pointer (some ⟨Ba, 0, none⟩), .pointer (some ⟨Bb, 0, none⟩), .pointer (some ⟨W.heap.size, 0, none⟩), .pointer (some ⟨x.1, 0, none⟩), .pointer (some ⟨B, 0, none⟩), .bool false, .pointer (some ⟨B, 0, none⟩), .pointer (some ⟨B, 0, none⟩), .pointer (some ⟨B, 0, none⟩), .pointer T.ptr, .agg #[.string f, .string t, .bool o], .func (.func 48) #[] #[.pointer (some ⟨W1.heap.size, 0, none⟩)], .bool back, .func (.func 46) #[] #[.pointer (some ⟨N5, 0, none⟩), .pointer (some ⟨N5 + 1, 0, none⟩), .pointer (some ⟨N5 + 1 + 1, 0, none⟩)], .pointer (some ⟨x.1, 0, none⟩), undef, undef, undef, undef, undef, undef, undef], defers := [] })
    (fun x a' s A C row hs _ _ => hs) ?assign ?body ?done ?stop
  case assign =>
    intro l2 pre x V K hi _ hK
    gi_wp2
    exact hK _ _ (KeepsFrom.refl _ _) (KeepT.refl _) hi rfl
  case body =>
    rintro l2 pre x a' V hl ⟨r, hr⟩ ⟨hj, hk⟩ rfl hpx
    have cy := (hk.same _ _ _ (.inr (.inr rfl)) hY7).c1
    have hxm : x ∈ tellN f t o back T := by
      obtain ⟨z, hz⟩ := hpx
      rw [← hz]
      simp
    obtain ⟨v2, v3, v4, hnb⟩ := nds_blk hNod.tr (tellN_mem hxm)
    obtain ⟨n0, n1, _, _, _⟩ := (hk.same _ _ _ (.inl rfl) hnb).c5
    have hpx2 : (pre.map (·.2)) ++ [x.2] <+: tellP f t o back L := by
      rw [← HE.out]
      obtain ⟨z, hz⟩ := hpx
      exact ⟨z.map (·.2), by rw [← hz]; simp⟩
    obtain ⟨fn, tmps, assign, body, hy, hR⟩ := yield_any (m' := n - 1 - 1 - 1) (hY (pre.map (·.2)) x.2 V.drew (own_drew hJ hj) hpx2)
    dsimp only [encP] at hy
    obtain ⟨xb, xk, xv⟩ := x
    dsimp only at *
    clear hnb hpx2 hxm
    have HK1 : Hid (KeepT V V.drew) := KeepT.of (Below.refl _ _).drew
    have HK2 : Hid (KeepsFrom y7.heap.size V V.drew) := (KeepsOthers.drew V).from _
    have HKV : Hid (KeepT y7 V) := hk
    clear hk hj hJ7 hNod hJ hJx hY
    have hR2 := hR.mono (R' := fun e V3 => ∃ bb, e = .returned (.bool bb) ∧ Hid ((bb = true ∧ J (pre.map (·.2) ++ [(xk, xv)]) V3 ∧ KeepT V.drew V3 ∧ KeepsFrom W.heap.size V.drew V3) ∨ (bb = false ∧ Jx (pre.map (·.2) ++ [(xk, xv)]) V3 ∧ KeepsFrom W.heap.size V.drew V3))) (by
      rintro e V3 (⟨rfl, q⟩ | ⟨rfl, q⟩)
      · exact ⟨true, rfl, .inl ⟨rfl, q⟩⟩
      · exact ⟨false, rfl, .inr ⟨rfl, q⟩⟩)
    clear hR
    gi_wp2
    gi_region_with (first | (refine ⟨fun h => (by cases h), hR2.mono ?_⟩; rintro e V3 ⟨bb, rfl, hbb⟩) | (refine hR2.mono ?_; rintro e V3 ⟨bb, rfl, hbb⟩))
    all_goals (rcases hbb.out with ⟨rfl, hj3, hk3, hf3⟩ | ⟨rfl, hx3, hf3⟩)
    all_goals gi_wp2
    all_goals first
      | exact ⟨HK2.out.trans (keeps_more hf3 hsz7), HK1.out.trans hk3, by simpa using hj3, HKV.out.trans (HK1.out.trans hk3)⟩
      | exact ⟨HK2.out.trans (keeps_more hf3 hsz7), rfl, by simpa using hx3⟩
  case done =>
    rintro D V hD ⟨hj, hk⟩ hK
    have hJf := hJ.putObj (.deferred none) hj (Nat.le_trans hsz7 hD) hK rfl
    rw [HE.out] at hJf
    gi_wp2
    refine ⟨by simp, .inl ⟨_, _, rfl, run_takeDeferred hK, ?_⟩⟩
    exact ⟨_, by simp [results, Try.results36]; rfl, ⟨_, rfl⟩, .inl hJf⟩
  case stop =>
    rintro D c pre V hD hpre ⟨rfl, hx⟩ hK
    have hJf := hJx.putObj (.deferred none) hx (Nat.le_trans hsz7 hD) hK rfl
    have hpf : pre.map (·.2) <+: tellP f t o back L := by
      rw [← HE.out]
      exact hpre.map _
    gi_wp2
    refine ⟨by simp, .inl ⟨_, _, rfl, run_takeDeferred hK, ?_⟩⟩
    exact ⟨_, by simp [results, Try.results36]; rfl, ⟨_, rfl⟩, .inr ⟨_, hpf, hJf⟩⟩

end Go.Proofs.Ytklnnkdcnaieoaa
