/- A shelf in memory: New, Len, Clone, Get (contracts; nothing is claimed here). -/
import Derived.Test.YtklnnkdcnaieoaaWth
import Derived.Test.YtklnnkdcnaieoaaWot
namespace Go.Proofs.Ytklnnkdcnaieoaa
open Go.RowKit Go.Vf

/-- A shelf lies in its block, with these pairs. -/
structure ShAt (w : World) (B : Nat) (L : List Pr) : Prop where
  srt : Srt L
  tree : ∃ T : Tr, T.toL = L ∧ TAt w T ∧ Blk w B 56 #[.pointer T.ptr, .int .i64 (L.length : Int)]
theorem ShAt.lt {w : World} {B : Nat} {L : List Pr} (h : ShAt w B L) : B < w.heap.size := by
  obtain ⟨T, _, _, hb⟩ := h.tree
  exact hb.lt
theorem ShAt.old {w w' : World} {B : Nat} {L : List Pr} (h : ShAt w B L) (hb : Below w.heap.size w w') : ShAt w' B L := by
  obtain ⟨T, h1, h2, h3⟩ := h.tree
  exact ⟨h.srt, T, h1, h2.old hb, h3.old hb⟩
theorem ShAt.oth {w w' : World} {B C : Nat} {L : List Pr} {t : TypeId} {cs : Array Value} (h : ShAt w B L) (hC : Blk w C t cs) (ht : (66 : TypeId) ≠ t) (ho : Oth C w w') (hn : B ≠ C) : ShAt w' B L := by
  obtain ⟨T, h1, h2, h3⟩ := h.tree
  exact ⟨h.srt, T, h1, h2.keep (KeepN.oth ho hC ht), ho.blk h3 hn⟩
theorem ShAt.blk {w : World} {B : Nat} {L : List Pr} (h : ShAt w B L) : ∃ cs, Blk w B 56 cs := by
  obtain ⟨T, _, _, hb⟩ := h.tree
  exact ⟨_, hb⟩
theorem ShAt.other {w w' : World} {B C : Nat} {L M : List Pr} (h : ShAt w B L) (k : ShAt w C M) (ho : Oth C w w') (hn : B ≠ C) : ShAt w' B L := by
  obtain ⟨cs, hC⟩ := k.blk
  exact h.oth hC (by decide) ho hn
theorem new_any (w : World) : Calls Try.prog 8 #[] w fun e w' => e = .returned (.pointer (some ⟨w.heap.size, 0, none⟩)) ∧ ShAt w' w.heap.size [] ∧ Below w.heap.size w w' := by
  go_enter Try.func8, Try.ntmps8
  go_wp2
  go_ret
  exact ⟨rfl, ⟨List.Pairwise.nil, .leaf, rfl, trivial, Blk.new w 56 #[.pointer none, .int .i64 0]⟩, (Below.refl w.heap.size w).alloc (Nat.le_refl _) _⟩
theorem len_any (w : World) (B : Nat) (L : List Pr) (h : ShAt w B L) : Calls Try.prog 19 #[.pointer (some ⟨B, 0, none⟩)] w fun e w' => e = .returned (.int .i64 (L.length : Int)) ∧ w = w' := by
  obtain ⟨T, _, _, hb⟩ := h.tree
  obtain ⟨c0, c1⟩ := hb.c2
  generalize (L.length : Int) = n at *
  go_enter Try.func19, Try.ntmps19
  go_wp2
  go_ret
  exact ⟨rfl, rfl⟩
theorem toward_gives (k : ByteArray) (w : World) : Calls Try.prog 32 #[.string k] w fun e w' => e = .returned (.func (.func 43) #[] #[.pointer (some ⟨w.heap.size, 0, none⟩)]) ∧ Blk w' w.heap.size 9 #[.string k] ∧ Below w.heap.size w w' :=
  (toward_any k w).mono fun e w' h => by
    obtain ⟨h1, rfl⟩ := h
    exact ⟨h1, Blk.new w 9 _, (Below.refl w.heap.size w).alloc (Nat.le_refl _) _⟩
theorem cell_lt {w : World} {b j : Nat} {v : Value} (h : w.cell? ⟨b, j, none⟩ = some v) : b < w.heap.size := by
  unfold World.cell? at h
  cases hb : w.heap[b]? with
  | none => simp only [hb] at h; cases h
  | some o => exact (Array.getElem?_eq_some_iff.1 hb).1
/-- What Get answers. -/
def getV (k : ByteArray) (L : List Pr) : Value := .tuple #[.string ((get k L).getD ⟨#[]⟩), .bool (get k L).isSome]
theorem bodyTwo {tmps : Array Value} {w : World} : (results Try.f20 tmps).run Try.prog w = .ok (.tuple #[tmps[4]?.getD undef, tmps[5]?.getD undef]) w := by simp [results, Try.results20, go_sem]
set_option maxHeartbeats 8000000 in
set_option maxRecDepth 20000 in
theorem get_any (w : World) (B : Nat) (L : List Pr) (k : ByteArray) (h : ShAt w B L) : Calls Try.prog 20 #[.pointer (some ⟨B, 0, none⟩), .string k] w fun e w' => e = .returned (getV k L) ∧ Below w.heap.size w w' := by
  obtain ⟨T, hTL, hT, hB⟩ := h.tree
  have HS : Hid (Srt T.toL) := by rw [hTL]; exact h.srt
  have HL : Hid (T.toL = L) := hTL
  have HT : Hid (TAt w T) := hT
  have HF : Hid (∀ y, Below w.heap.size w y → y.cell? ⟨B, 0, none⟩ = some (.pointer T.ptr)) := fun y hy => (hB.old hy).c2.1
  clear hTL hT hB h
  obtain ⟨G, HG⟩ : ∃ G, Hid (G = getV k L) := ⟨_, rfl⟩
  rw [← HG.out]
  go_enter Try.func20, Try.ntmps20
  go_upto_region 3 with fail
  refine wp_region_held_drew (S := fun x => Below w.heap.size w x) (by kernel_rfl) ((Below.refl _ _).drew) (fun hHelda => ?_)
  refine wpAnyH_takeD (i := 0) (some 9) (v := ?v0n1) rfl rfl (by kernel_rfl) (by kernel_rfl) (by kernel_rfl) (fun _ _ _ h => h) (Or.inl ⟨by kernel_rfl, ?hy0n1⟩) (by assumption) ?rest0n1
  case hy0n1 => (intro x hSx; (try dsimp only at hSx); go_simp; first | done | with_reducible rfl)
  try simp only [Act.put, List.setIfInBounds_toArray, List.set_cons_zero, List.set_cons_succ]
  refine wpAnyH_takeD (i := 1) (some 10) (v := ?v1n2) rfl rfl (by kernel_rfl) (by kernel_rfl) (by kernel_rfl) (fun _ _ _ h => h) (Or.inl ⟨by kernel_rfl, ?hy1n2⟩) (by assumption) ?rest1n2
  case hy1n2 => (intro x hSx; (try dsimp only at hSx); go_simp; first | done | with_reducible rfl)
  try simp only [Act.put, List.setIfInBounds_toArray, List.set_cons_zero, List.set_cons_succ]
  refine wpAnyH_takeD (i := 2) (some 11) (v := ?v2n3) rfl rfl (by kernel_rfl) (by kernel_rfl) (by kernel_rfl) (fun _ _ _ h => h) (Or.inl ⟨by kernel_rfl, ?hy2n3⟩) (by assumption) ?rest2n3
  case hy2n3 => (intro x hSx; (try dsimp only at hSx); go_simp; first | done | with_reducible rfl)
  try simp only [Act.put, List.setIfInBounds_toArray, List.set_cons_zero, List.set_cons_succ]
  refine wpAnyH_takeD (i := 3) (some 12) (v := ?v3n4) rfl rfl (by kernel_rfl) (by kernel_rfl) (by kernel_rfl) (fun _ _ _ h => h) (Or.inl ⟨by kernel_rfl, ?hy3n4⟩) (by assumption) ?rest3n4
  case hy3n4 => (intro x hSx; (try dsimp only at hSx); have z0 := HF.out x hSx; go_simp; first | done | with_reducible rfl)
  try simp only [Act.put, List.setIfInBounds_toArray, List.set_cons_zero, List.set_cons_succ]
  refine wpAnyH_takeD (i := 4) (some 13) (v := ?v4n5) rfl rfl (by kernel_rfl) (by kernel_rfl) (by kernel_rfl) (fun _ _ _ h => h) (Or.inl ⟨by kernel_rfl, ?hy4n5⟩) (by assumption) ?rest4n5
  case hy4n5 => (intro x hSx; (try dsimp only at hSx); go_simp; first | done | with_reducible rfl)
  try simp only [Act.put, List.setIfInBounds_toArray, List.set_cons_zero, List.set_cons_succ]
  refine wpAnyH_ready (rs := [5]) (by kernel_rfl) (by simp) ?_
  refine AllReadyH.cons rfl (fun K hK => ?_) AllReadyH.nil
  go_simp
  go_wp2_with (go_at_call 32; refine (toward_gives k _).mono ?_; rintro e y5 ⟨rfl, hk5, hq5⟩)
  refine hK.out _ _ (hHelda.trans (hq5.mono hHelda.size)) (fun hHelda5 => ?_)
  clear hK K
  try simp only [Act.put, List.setIfInBounds_toArray, List.set_cons_zero, List.set_cons_succ]
  refine wpAnyH_ready (rs := [6]) (by kernel_rfl) (by simp) ?_
  refine AllReadyH.cons rfl (fun K hK => ?_) AllReadyH.nil
  go_simp
  go_wp2_with (go_at_call 34; refine (find_any T k w.heap.size _ (HT.out.old hHelda5) HS.out hk5.c1).mono ?_; rintro e y6 ⟨rfl, ⟨rfl, hg⟩ | ⟨b, v, rfl, hg, hv⟩⟩)
  · have HG2 : Hid (get k T.toL = none) := hg
    clear hg
    refine hK.out _ _ hHelda5 (fun hHelda6 => ?_)
    clear hK K
    try simp only [Act.put, List.setIfInBounds_toArray, List.set_cons_zero, List.set_cons_succ]
    refine wpAnyH_takeD (i := 7) (some 6) (v := ?v7n6) rfl rfl (by kernel_rfl) (by kernel_rfl) (by kernel_rfl) (fun _ _ _ h => h) (Or.inl ⟨by kernel_rfl, ?hy7n6⟩) (by assumption) ?rest7n6
    case hy7n6 => (intro x hSx; (try dsimp only at hSx); go_simp; first | done | with_reducible rfl)
    try simp only [Act.put, List.setIfInBounds_toArray, List.set_cons_zero, List.set_cons_succ]
    refine wpAnyH_done (by kernel_rfl) ?_ _
    go_wp2
    refine bodyPost_ret bodyTwo rfl ?_
    refine ⟨?_, hHelda5⟩
    rw [HG.out, getV, ← HL.out, HG2.out]
    rfl
  · have HG2 : Hid (get k T.toL = some v) := hg
    clear hg
    refine hK.out _ _ hHelda5 (fun hHelda6 => ?_)
    clear hK K
    try simp only [Act.put, List.setIfInBounds_toArray, List.set_cons_zero, List.set_cons_succ]
    refine wpAnyH_takeD (i := 7) (some 6) (v := ?v7n7) rfl rfl (by kernel_rfl) (by kernel_rfl) (by kernel_rfl) (fun _ _ _ h => h) (Or.inl ⟨by kernel_rfl, ?hy7n7⟩) (by assumption) ?rest7n7
    case hy7n7 => (intro x hSx; (try dsimp only at hSx); go_simp; first | done | with_reducible rfl)
    try simp only [Act.put, List.setIfInBounds_toArray, List.set_cons_zero, List.set_cons_succ]
    refine wpAnyH_done (by kernel_rfl) ?_ _
    go_wp2
    refine bodyPost_ret bodyTwo rfl ?_
    refine ⟨?_, hHelda5⟩
    rw [HG.out, getV, ← HL.out, HG2.out]
    rfl
theorem clone_any (w : World) (B : Nat) (L : List Pr) (h : ShAt w B L) : Calls Try.prog 10 #[.pointer (some ⟨B, 0, none⟩)] w fun e w' => e = .returned (.pointer (some ⟨w.heap.size, 0, none⟩)) ∧ ShAt w' w.heap.size L ∧ Below w.heap.size w w' := by
  obtain ⟨T, hTL, hT, hb⟩ := h.tree
  obtain ⟨c0, c1⟩ := hb.c2
  have HN : Hid (∀ y : World, y.heap = w.heap → ShAt (y.alloc (.cells #[.pointer T.ptr, .int .i64 (L.length : Int)] 56)) w.heap.size L) := fun y hy => by
    have hT' : TAt y T := hT.keep ⟨by rw [hy]; exact Nat.le_refl _, fun b cs q => by unfold Blk at *; rw [hy]; exact q⟩
    refine ⟨h.srt, T, hTL, hT'.old ((Below.refl _ _).alloc (Nat.le_refl _) _), ?_⟩
    have := Blk.new y 56 #[.pointer T.ptr, .int .i64 (L.length : Int)]
    rwa [hy] at this
  clear hTL hT hb h
  generalize (L.length : Int) = n at *
  go_enter Try.func10, Try.ntmps10
  go_upto_region 3 with fail
  have HF : Hid (∀ y, Below w.heap.size w y → y.cell? ⟨B, 0, none⟩ = some (.pointer T.ptr) ∧ y.cell? ⟨B, 1, none⟩ = some (.int .i64 n)) := fun y hy => by
    have hl : B < w.heap.size := cell_lt c0
    exact ⟨(hy.cell (p := ⟨B, 0, none⟩) hl).trans c0, (hy.cell (p := ⟨B, 1, none⟩) hl).trans c1⟩
  go_upto_region 3 with fail
  refine wp_region_held_drew (S := fun x => Below w.heap.size w x) (by kernel_rfl) ((Below.refl _ _).drew) (fun hHelda => ?_)
  refine wpAnyH_takeD (i := 0) (some 5) (v := ?va0c1) rfl rfl (by kernel_rfl) (by kernel_rfl) (by kernel_rfl) (fun _ _ _ h => h) (Or.inl ⟨by kernel_rfl, ?hya0c1⟩) (by assumption) ?resta0c1
  case hya0c1 => (intro x hSx; (try dsimp only at hSx); go_simp; first | done | with_reducible rfl)
  try simp only [Act.put, List.setIfInBounds_toArray, List.set_cons_zero, List.set_cons_succ]
  refine wpAnyH_takeD (i := 1) (some 6) (v := ?va1c2) rfl rfl (by kernel_rfl) (by kernel_rfl) (by kernel_rfl) (fun _ _ _ h => h) (Or.inl ⟨by kernel_rfl, ?hya1c2⟩) (by assumption) ?resta1c2
  case hya1c2 => (intro x hSx; (try dsimp only at hSx); go_simp; first | done | with_reducible rfl)
  try simp only [Act.put, List.setIfInBounds_toArray, List.set_cons_zero, List.set_cons_succ]
  refine wpAnyH_takeD (i := 2) (some 7) (v := ?va2c3) rfl rfl (by kernel_rfl) (by kernel_rfl) (by kernel_rfl) (fun _ _ _ h => h) (Or.inl ⟨by kernel_rfl, ?hya2c3⟩) (by assumption) ?resta2c3
  case hya2c3 => (intro x hSx; (try dsimp only at hSx); go_simp; first | done | with_reducible rfl)
  try simp only [Act.put, List.setIfInBounds_toArray, List.set_cons_zero, List.set_cons_succ]
  refine wpAnyH_takeD (i := 3) (some 8) (v := ?va3c4) rfl rfl (by kernel_rfl) (by kernel_rfl) (by kernel_rfl) (fun _ _ _ h => h) (Or.inl ⟨by kernel_rfl, ?hya3c4⟩) (by assumption) ?resta3c4
  case hya3c4 => (intro x hSx; (try dsimp only at hSx); obtain ⟨z0, z1⟩ := HF.out x hSx; go_simp; first | done | with_reducible rfl)
  try simp only [Act.put, List.setIfInBounds_toArray, List.set_cons_zero, List.set_cons_succ]
  refine wpAnyH_takeD (i := 4) (some 9) (v := ?va4c5) rfl rfl (by kernel_rfl) (by kernel_rfl) (by kernel_rfl) (fun _ _ _ h => h) (Or.inl ⟨by kernel_rfl, ?hya4c5⟩) (by assumption) ?resta4c5
  case hya4c5 => (intro x hSx; (try dsimp only at hSx); go_simp; first | done | with_reducible rfl)
  try simp only [Act.put, List.setIfInBounds_toArray, List.set_cons_zero, List.set_cons_succ]
  refine wpAnyH_takeD (i := 5) (some 10) (v := ?va5c6) rfl rfl (by kernel_rfl) (by kernel_rfl) (by kernel_rfl) (fun _ _ _ h => h) (Or.inl ⟨by kernel_rfl, ?hya5c6⟩) (by assumption) ?resta5c6
  case hya5c6 => (intro x hSx; (try dsimp only at hSx); go_simp; first | done | with_reducible rfl)
  try simp only [Act.put, List.setIfInBounds_toArray, List.set_cons_zero, List.set_cons_succ]
  refine wpAnyH_takeD (i := 6) (some 11) (v := ?va6c7) rfl rfl (by kernel_rfl) (by kernel_rfl) (by kernel_rfl) (fun _ _ _ h => h) (Or.inl ⟨by kernel_rfl, ?hya6c7⟩) (by assumption) ?resta6c7
  case hya6c7 => (intro x hSx; (try dsimp only at hSx); go_simp; first | done | with_reducible rfl)
  try simp only [Act.put, List.setIfInBounds_toArray, List.set_cons_zero, List.set_cons_succ]
  refine wpAnyH_takeD (i := 7) (some 12) (v := ?va7c8) rfl rfl (by kernel_rfl) (by kernel_rfl) (by kernel_rfl) (fun _ _ _ h => h) (Or.inl ⟨by kernel_rfl, ?hya7c8⟩) (by assumption) ?resta7c8
  case hya7c8 => (intro x hSx; (try dsimp only at hSx); obtain ⟨z0, z1⟩ := HF.out x hSx; go_simp; first | done | with_reducible rfl)
  try simp only [Act.put, List.setIfInBounds_toArray, List.set_cons_zero, List.set_cons_succ]
  refine wpAnyH_takeD (i := 8) (some 13) (v := ?va8c9) rfl rfl (by kernel_rfl) (by kernel_rfl) (by kernel_rfl) (fun _ _ _ h => h) (Or.inl ⟨by kernel_rfl, ?hya8c9⟩) (by assumption) ?resta8c9
  case hya8c9 => (intro x hSx; (try dsimp only at hSx); go_simp; first | done | with_reducible rfl)
  try simp only [Act.put, List.setIfInBounds_toArray, List.set_cons_zero, List.set_cons_succ]
  refine wpAnyH_ready (rs := [9]) (by kernel_rfl) (by simp) ?_
  refine AllReadyH.cons rfl (fun K hK => ?_) AllReadyH.nil
  go_simp
  refine hK.out _ _ (hHelda.alloc hHelda.size _) (fun hHelda9 => ?_)
  clear hK K
  try simp only [Act.put, List.setIfInBounds_toArray, List.set_cons_zero, List.set_cons_succ]
  refine wpAnyH_takeD (i := 10) (some 2) (v := ?va10c10) rfl rfl (by kernel_rfl) (by kernel_rfl) (by kernel_rfl) (fun _ _ _ h => h) (Or.inl ⟨by kernel_rfl, ?hya10c10⟩) (by assumption) ?resta10c10
  case hya10c10 => (intro x hSx; (try dsimp only at hSx); go_simp; first | done | with_reducible rfl)
  try simp only [Act.put, List.setIfInBounds_toArray, List.set_cons_zero, List.set_cons_succ]
  refine wpAnyH_done (by kernel_rfl) ?_ _
  go_wp2
  go_ret
  exact ⟨rfl, HN.out w.drew rfl, hHelda9⟩
end Go.Proofs.Ytklnnkdcnaieoaa
