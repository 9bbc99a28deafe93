/- What (*node).first does: the lowest pair, and the tree of the others (contracts; nothing is claimed here). -/
import Derived.Test.YtklnnkdcnaieoaaEvn
namespace Go.Proofs.Ytklnnkdcnaieoaa
open Go.RowKit Go.Vf

/-- The first pair of a list, and the tree of the others. -/
def FstPost (L : List Pr) (w : World) (e : Ending) (w' : World) : Prop := ∃ (k v : ByteArray) (T : Tr), e = .returned (.tuple #[.agg #[.string k, .string v], .pointer T.ptr]) ∧ TAt w' T ∧ L = (k, v) :: T.toL ∧ Below w.heap.size w w'
theorem res51 {tmps : Array Value} {w : World} {B : Nat} {a0 a1 : Value} (hB : Blk w B 45 #[a0, a1]) (t2 : tmps[2]?.getD undef = .pointer (some ⟨B, 0, none⟩)) :
    (results Try.f51 tmps).run Try.prog w = .ok (.tuple #[.agg #[a0, a1], tmps[3]?.getD undef]) w := by
  obtain ⟨c0, c1⟩ := hB.c2
  simp [results, Try.results51, go_sem, t2, c0, c1]
theorem set2 {w : World} {b : Nat} {a0 a1 : Value} (x0 x1 : Value) (h : Blk w b 45 #[a0, a1]) : Blk ((w.setCell ⟨b, 0, none⟩ x0).setCell ⟨b, 1, none⟩ x1) b 45 #[x0, x1] := by
  have h1 : Blk (w.setCell ⟨b, 0, none⟩ x0) b 45 #[x0, a1] := h.set 0 x0
  exact h1.set 1 x1

set_option maxHeartbeats 8000000 in
set_option maxRecDepth 20000 in
theorem first_any (T : Tr) : ∀ (w : World), TAt w T → T.toL.length < 288230376151711744 → (∃ b k v l r, T = .node b k v l r) → Calls Try.prog 51 #[.pointer T.ptr] w (FstPost T.toL w) := by
  induction T with
  | leaf =>
    intro w _ _ h
    obtain ⟨b, k, v, l, r, h⟩ := h
    cases h
  | node nb m x l r ihl ihr =>
    intro w hT hb _
    clear ihr
    have e0 : (Tr.node nb m x l r).ptr = some ⟨nb, 0, none⟩ := rfl
    rw [e0]
    have hb1 := (Below.refl w.heap.size w).alloc (Nat.le_refl _) (.cells #[.string ⟨#[]⟩, .string ⟨#[]⟩] 45)
    have hB1 := Blk.new w 45 #[.string ⟨#[]⟩, .string ⟨#[]⟩]
    have hT1 := hT.old hb1
    have hlen : l.toL.length + r.toL.length + 1 < 288230376151711744 := by simp only [Tr.toL, List.length_append, List.length_cons] at hb; omega
    have hlh := l.ht_le
    have hrh := r.ht_le
    have hnb : nb < w.heap.size := hT.1.lt
    have HT0 : Hid (TAt w (.node nb m x l r)) := hT
    clear hb hT
    go_enter Try.func51, Try.ntmps51
    go_upto_region 1 with fail
    generalize (w.alloc (.cells #[.string ⟨#[]⟩, .string ⟨#[]⟩] 45)) = w1 at *
    have hsz : w.heap.size < w1.heap.size := hB1.lt
    have HBL : Hid (Below w.heap.size w w1) := hb1
    clear hb1
    obtain ⟨c0, c1, c2, c3, _⟩ := hT1.cells
    obtain ⟨p0, p1⟩ := hB1.c2
    have f0 := hB1.frozen 0
    have f1 := hB1.frozen 1
    have HT : Hid (TAt w1 (.node nb m x l r)) := hT1
    have HF : Hid (∀ y, Below w.heap.size w y → y.cell? ⟨nb, 0, none⟩ = some (.string m) ∧ y.cell? ⟨nb, 1, none⟩ = some (.string x) ∧ y.cell? ⟨nb, 2, none⟩ = some (.pointer l.ptr) ∧ y.cell? ⟨nb, 3, none⟩ = some (.pointer r.ptr)) := fun y hy =>
      have q := (HT0.out.old hy).cells
      ⟨q.1, q.2.1, q.2.2.1, q.2.2.2.1⟩
    clear hT1
    cases l with
    | leaf =>
      have c2' : w1.cell? ⟨nb, 2, none⟩ = some (.pointer none) := c2
      clear c2 ihl
      go_upto_region 2 with fail
      refine wp_region_held_drew (S := fun x => Below w.heap.size w x) (by kernel_rfl) (HBL.out.drew) (fun hHelda => ?_)
      refine wpAnyH_takeD (i := 0) (some 11) (v := ?va0) rfl rfl (by kernel_rfl) (by kernel_rfl) (by kernel_rfl) (fun _ _ _ h => h) (Or.inl ⟨by kernel_rfl, ?hya0⟩) (by assumption) ?resta0
      case hya0 => (intro x hSx; (try dsimp only at hSx); go_simp; first | done | with_reducible rfl)
      try simp only [Act.put, List.setIfInBounds_toArray, List.set_cons_zero, List.set_cons_succ]
      refine wpAnyH_takeD (i := 1) (some 12) (v := ?va1) rfl rfl (by kernel_rfl) (by kernel_rfl) (by kernel_rfl) (fun _ _ _ h => h) (Or.inl ⟨by kernel_rfl, ?hya1⟩) (by assumption) ?resta1
      case hya1 => (intro x hSx; (try dsimp only at hSx); go_simp; first | done | with_reducible rfl)
      try simp only [Act.put, List.setIfInBounds_toArray, List.set_cons_zero, List.set_cons_succ]
      refine wpAnyH_takeD (i := 2) (some 13) (v := ?va2) rfl rfl (by kernel_rfl) (by kernel_rfl) (by kernel_rfl) (fun _ _ _ h => h) (Or.inl ⟨by kernel_rfl, ?hya2⟩) (by assumption) ?resta2
      case hya2 => (intro x hSx; (try dsimp only at hSx); go_simp; first | done | with_reducible rfl)
      try simp only [Act.put, List.setIfInBounds_toArray, List.set_cons_zero, List.set_cons_succ]
      refine wpAnyH_takeD (i := 3) (some 14) (v := ?va3) rfl rfl (by kernel_rfl) (by kernel_rfl) (by kernel_rfl) (fun _ _ _ h => h) (Or.inl ⟨by kernel_rfl, ?hya3⟩) (by assumption) ?resta3
      case hya3 => (intro x hSx; (try dsimp only at hSx); obtain ⟨z0, z1, z2, z3⟩ := HF.out x hSx; go_simp; first | done | with_reducible rfl)
      try simp only [Act.put, List.setIfInBounds_toArray, List.set_cons_zero, List.set_cons_succ]
      refine wpAnyH_takeD (i := 4) (some 15) (v := ?va4) rfl rfl (by kernel_rfl) (by kernel_rfl) (by kernel_rfl) (fun _ _ _ h => h) (Or.inl ⟨by kernel_rfl, ?hya4⟩) (by assumption) ?resta4
      case hya4 => (intro x hSx; (try dsimp only at hSx); go_simp; first | done | with_reducible rfl)
      try simp only [Act.put, List.setIfInBounds_toArray, List.set_cons_zero, List.set_cons_succ]
      refine wpAnyH_takeD (i := 5) (some 16) (v := ?va5) rfl rfl (by kernel_rfl) (by kernel_rfl) (by kernel_rfl) (fun _ _ _ h => h) (Or.inl ⟨by kernel_rfl, ?hya5⟩) (by assumption) ?resta5
      case hya5 => (intro x hSx; (try dsimp only at hSx); go_simp; first | done | with_reducible rfl)
      try simp only [Act.put, List.setIfInBounds_toArray, List.set_cons_zero, List.set_cons_succ]
      refine wpAnyH_takeD (i := 6) (some 17) (v := ?va6) rfl rfl (by kernel_rfl) (by kernel_rfl) (by kernel_rfl) (fun _ _ _ h => h) (Or.inl ⟨by kernel_rfl, ?hya6⟩) (by assumption) ?resta6
      case hya6 => (intro x hSx; (try dsimp only at hSx); go_simp; first | done | with_reducible rfl)
      try simp only [Act.put, List.setIfInBounds_toArray, List.set_cons_zero, List.set_cons_succ]
      refine wpAnyH_takeD (i := 7) (some 18) (v := ?va7) rfl rfl (by kernel_rfl) (by kernel_rfl) (by kernel_rfl) (fun _ _ _ h => h) (Or.inl ⟨by kernel_rfl, ?hya7⟩) (by assumption) ?resta7
      case hya7 => (intro x hSx; (try dsimp only at hSx); obtain ⟨z0, z1, z2, z3⟩ := HF.out x hSx; go_simp; first | done | with_reducible rfl)
      try simp only [Act.put, List.setIfInBounds_toArray, List.set_cons_zero, List.set_cons_succ]
      refine wpAnyH_ready (rs := [8]) (by kernel_rfl) (by simp) ?_
      refine AllReadyH.cons rfl (fun K hK => ?_) AllReadyH.nil
      go_simp
      refine hK.out _ _ ((hHelda.setCell (p := ⟨w.heap.size, 0, none⟩) (Nat.le_refl _) _).setCell (p := ⟨w.heap.size, 1, none⟩) (Nat.le_refl _) _) (fun hHelda8 => ?_)
      clear hK K
      try simp only [Act.put, List.setIfInBounds_toArray, List.set_cons_zero, List.set_cons_succ]
      refine wpAnyH_takeD (i := 9) (some 3) (v := ?va9) rfl rfl (by kernel_rfl) (by kernel_rfl) (by kernel_rfl) (fun _ _ _ h => h) (Or.inl ⟨by kernel_rfl, ?hya9⟩) (by assumption) ?resta9
      case hya9 => (intro x hSx; (try dsimp only at hSx); go_simp; first | done | with_reducible rfl)
      try simp only [Act.put, List.setIfInBounds_toArray, List.set_cons_zero, List.set_cons_succ]
      refine wpAnyH_done (by kernel_rfl) ?_ _
      have hB2 := set2 (.string m) (.string x) hB1
      have hN := HT0.out.2.2.old (((HBL.out.setCell (p := ⟨w.heap.size, 0, none⟩) (Nat.le_refl _) (.string m)).setCell (p := ⟨w.heap.size, 1, none⟩) (Nat.le_refl _) (.string x)))
      generalize hw2 : ((w1.setCell ⟨w.heap.size, 0, none⟩ (.string m)).setCell ⟨w.heap.size, 1, none⟩ (.string x)) = w2 at *
      go_wp2
      refine bodyPost_ret (res51 (w := w2.drew) hB2 rfl) rfl ?_
      exact ⟨m, x, r, rfl, hN.old (Below.refl _ _).drew, rfl, hHelda8⟩
    | node lb lk lv ll lr =>
      have c2' : w1.cell? ⟨nb, 2, none⟩ = some (.pointer (some ⟨lb, 0, none⟩)) := c2
      clear c2
      have h1 := ihl w1 HT.out.2.1 (by omega) ⟨_, _, _, _, _, rfl⟩
      clear ihl
      go_wp2_with fail
      refine h1.mono ?_
      clear h1
      rintro e w2 ⟨k, v, U, rfl, hU, hUL, hb2⟩
      have hUl : U.toL.length + 1 = (Tr.node lb lk lv ll lr).toL.length := by rw [hUL]; rfl
      have hUh := U.ht_le
      have HUL : Hid ((Tr.node lb lk lv ll lr).toL = (k, v) :: U.toL) := hUL
      clear hUL
      have HB2 : Hid (Below w.heap.size w w2) := HBL.out.trans (hb2.mono (Nat.le_of_lt hsz))
      have hR2 := hB1.old hb2
      have hT2 := HT.out.old hb2
      clear HT HBL hB1 p0 p1 f0 f1 c0 c1 c2' c3
      have hs3 := (Below.refl w2.heap.size w2).alloc (Nat.le_refl _) (.cells #[.string k, .string v] 45)
      have hN4 := Blk.new w2 45 #[.string k, .string v]
      have hR3 := hR2.old hs3
      have hT3 := hT2.old hs3
      have hU3 := hU.old hs3
      have HB3 : Hid (Below w.heap.size w (w2.alloc (.cells #[.string k, .string v] 45))) := HB2.out.trans (hs3.mono HB2.out.size)
      have hne : w2.heap.size ≠ w.heap.size := by have := hR2.lt; omega
      clear HB2 hR2 hT2 hU hs3 HF
      go_upto_region 4 with fail
      generalize (w2.alloc (.cells #[.string k, .string v] 45)) = w3 at *
      have HK : Hid (∀ y, Oth w.heap.size w3 y → KeepN w3 y) := fun y hy => KeepN.oth hy hR3 (by decide)
      have HF : Hid (∀ y, Below w.heap.size w y ∧ Oth w.heap.size w3 y → y.cell? ⟨nb, 0, none⟩ = some (.string m) ∧ y.cell? ⟨nb, 1, none⟩ = some (.string x) ∧ y.cell? ⟨nb, 2, none⟩ = some (.pointer (some ⟨lb, 0, none⟩)) ∧ y.cell? ⟨nb, 3, none⟩ = some (.pointer r.ptr) ∧ y.cell? ⟨w2.heap.size, 0, none⟩ = some (.string k) ∧ y.cell? ⟨w2.heap.size, 1, none⟩ = some (.string v)) := fun y hy =>
        have q := (hT3.keep (HK.out y hy.2)).cells
        have q2 := (hy.2.blk hN4 hne).c2
        ⟨q.1, q.2.1, q.2.2.1, q.2.2.2.1, q2.1, q2.2⟩
      have HU3 : Hid (TAt w3 U) := hU3
      have HT3 : Hid (TAt w3 (.node nb m x (.node lb lk lv ll lr) r)) := hT3
      have HR3 : Hid (Blk w3 w.heap.size 45 #[.string ⟨#[]⟩, .string ⟨#[]⟩]) := hR3
      clear hU3 hT3 hR3 hN4
      go_upto_region 4 with fail
      refine wp_region_held_drew (S := fun x => Below w.heap.size w x ∧ Oth w.heap.size w3 x) (by kernel_rfl) (⟨HB3.out.drew, Oth.of ((Below.refl _ _).drew)⟩) (fun hHeldb => ?_)
      refine wpAnyH_takeD (i := 0) (some 27) (v := ?vb0) rfl rfl (by kernel_rfl) (by kernel_rfl) (by kernel_rfl) (fun _ _ _ h => h) (Or.inl ⟨by kernel_rfl, ?hyb0⟩) (by assumption) ?restb0
      case hyb0 => (intro x hSx; (try dsimp only at hSx); obtain ⟨z0, z1, z2, z3, z4, z5⟩ := HF.out x hSx; go_simp; first | done | with_reducible rfl)
      try simp only [Act.put, List.setIfInBounds_toArray, List.set_cons_zero, List.set_cons_succ]
      refine wpAnyH_takeD (i := 1) (some 28) (v := ?vb1) rfl rfl (by kernel_rfl) (by kernel_rfl) (by kernel_rfl) (fun _ _ _ h => h) (Or.inl ⟨by kernel_rfl, ?hyb1⟩) (by assumption) ?restb1
      case hyb1 => (intro x hSx; (try dsimp only at hSx); go_simp; first | done | with_reducible rfl)
      try simp only [Act.put, List.setIfInBounds_toArray, List.set_cons_zero, List.set_cons_succ]
      refine wpAnyH_takeD (i := 2) (some 29) (v := ?vb2) rfl rfl (by kernel_rfl) (by kernel_rfl) (by kernel_rfl) (fun _ _ _ h => h) (Or.inl ⟨by kernel_rfl, ?hyb2⟩) (by assumption) ?restb2
      case hyb2 => (intro x hSx; (try dsimp only at hSx); go_simp; first | done | with_reducible rfl)
      try simp only [Act.put, List.setIfInBounds_toArray, List.set_cons_zero, List.set_cons_succ]
      refine wpAnyH_takeD (i := 3) (some 30) (v := ?vb3) rfl rfl (by kernel_rfl) (by kernel_rfl) (by kernel_rfl) (fun _ _ _ h => h) (Or.inl ⟨by kernel_rfl, ?hyb3⟩) (by assumption) ?restb3
      case hyb3 => (intro x hSx; (try dsimp only at hSx); go_simp; first | done | with_reducible rfl)
      try simp only [Act.put, List.setIfInBounds_toArray, List.set_cons_zero, List.set_cons_succ]
      refine wpAnyH_takeD (i := 4) (some 31) (v := ?vb4) rfl rfl (by kernel_rfl) (by kernel_rfl) (by kernel_rfl) (fun _ _ _ h => h) (Or.inl ⟨by kernel_rfl, ?hyb4⟩) (by assumption) ?restb4
      case hyb4 => (intro x hSx; (try dsimp only at hSx); go_simp; first | done | with_reducible rfl)
      try simp only [Act.put, List.setIfInBounds_toArray, List.set_cons_zero, List.set_cons_succ]
      refine wpAnyH_takeD (i := 5) (some 32) (v := ?vb5) rfl rfl (by kernel_rfl) (by kernel_rfl) (by kernel_rfl) (fun _ _ _ h => h) (Or.inl ⟨by kernel_rfl, ?hyb5⟩) (by assumption) ?restb5
      case hyb5 => (intro x hSx; (try dsimp only at hSx); obtain ⟨z0, z1, z2, z3, z4, z5⟩ := HF.out x hSx; go_simp; first | done | with_reducible rfl)
      try simp only [Act.put, List.setIfInBounds_toArray, List.set_cons_zero, List.set_cons_succ]
      refine wpAnyH_takeD (i := 6) (some 33) (v := ?vb6) rfl rfl (by kernel_rfl) (by kernel_rfl) (by kernel_rfl) (fun _ _ _ h => h) (Or.inl ⟨by kernel_rfl, ?hyb6⟩) (by assumption) ?restb6
      case hyb6 => (intro x hSx; (try dsimp only at hSx); go_simp; first | done | with_reducible rfl)
      try simp only [Act.put, List.setIfInBounds_toArray, List.set_cons_zero, List.set_cons_succ]
      refine wpAnyH_takeD (i := 7) (some 34) (v := ?vb7) rfl rfl (by kernel_rfl) (by kernel_rfl) (by kernel_rfl) (fun _ _ _ h => h) (Or.inl ⟨by kernel_rfl, ?hyb7⟩) (by assumption) ?restb7
      case hyb7 => (intro x hSx; (try dsimp only at hSx); go_simp; first | done | with_reducible rfl)
      try simp only [Act.put, List.setIfInBounds_toArray, List.set_cons_zero, List.set_cons_succ]
      refine wpAnyH_takeD (i := 8) (some 35) (v := ?vb8) rfl rfl (by kernel_rfl) (by kernel_rfl) (by kernel_rfl) (fun _ _ _ h => h) (Or.inl ⟨by kernel_rfl, ?hyb8⟩) (by assumption) ?restb8
      case hyb8 => (intro x hSx; (try dsimp only at hSx); go_simp; first | done | with_reducible rfl)
      try simp only [Act.put, List.setIfInBounds_toArray, List.set_cons_zero, List.set_cons_succ]
      refine wpAnyH_takeD (i := 9) (some 36) (v := ?vb9) rfl rfl (by kernel_rfl) (by kernel_rfl) (by kernel_rfl) (fun _ _ _ h => h) (Or.inl ⟨by kernel_rfl, ?hyb9⟩) (by assumption) ?restb9
      case hyb9 => (intro x hSx; (try dsimp only at hSx); obtain ⟨z0, z1, z2, z3, z4, z5⟩ := HF.out x hSx; go_simp; first | done | with_reducible rfl)
      try simp only [Act.put, List.setIfInBounds_toArray, List.set_cons_zero, List.set_cons_succ]
      refine wpAnyH_ready (rs := [10]) (by kernel_rfl) (by simp) ?_
      refine AllReadyH.cons rfl (fun K hK => ?_) AllReadyH.nil
      go_simp
      go_wp2_with (go_at_call 42; refine (even_any U r m x _ (HU3.out.keep (HK.out _ hHeldb.2)) (HT3.out.2.2.keep (HK.out _ hHeldb.2)) (by omega)).mono ?_; rintro e y10 ⟨V, rfl, hv, hVL, hq10⟩)
      have hR10 : Blk y10 w.heap.size 45 #[.string ⟨#[]⟩, .string ⟨#[]⟩] := Blk.old (w := w3.drew) HR3.out hq10
      refine hK.out _ _ ⟨hHeldb.1.trans (hq10.mono hHeldb.1.size), hHeldb.2.trans (Oth.of hq10)⟩ (fun hHeldb10 => ?_)
      clear hK K
      try simp only [Act.put, List.setIfInBounds_toArray, List.set_cons_zero, List.set_cons_succ]
      refine wpAnyH_ready (rs := [11]) (by kernel_rfl) (by simp) ?_
      refine AllReadyH.cons rfl (fun K hK => ?_) AllReadyH.nil
      obtain ⟨p0, p1⟩ := hR10.c2
      have f0 := hR10.frozen 0
      have f1 := hR10.frozen 1
      go_simp
      refine hK.out _ _ ⟨(hHeldb10.1.setCell (p := ⟨w.heap.size, 0, none⟩) (Nat.le_refl _) _).setCell (p := ⟨w.heap.size, 1, none⟩) (Nat.le_refl _) _, (hHeldb10.2.setCell 0 _).setCell 1 _⟩ (fun hHeldb11 => ?_)
      clear p0 p1 f0 f1
      clear hK K
      try simp only [Act.put, List.setIfInBounds_toArray, List.set_cons_zero, List.set_cons_succ]
      refine wpAnyH_takeD (i := 12) (some 3) (v := ?vb12) rfl rfl (by kernel_rfl) (by kernel_rfl) (by kernel_rfl) (fun _ _ _ h => h) (Or.inl ⟨by kernel_rfl, ?hyb12⟩) (by assumption) ?restb12
      case hyb12 => (intro x hSx; (try dsimp only at hSx); go_simp; first | done | with_reducible rfl)
      try simp only [Act.put, List.setIfInBounds_toArray, List.set_cons_zero, List.set_cons_succ]
      refine wpAnyH_done (by kernel_rfl) ?_ _
      have hBf := set2 (.string k) (.string v) hR10
      have hVf : TAt ((y10.setCell ⟨w.heap.size, 0, none⟩ (.string k)).setCell ⟨w.heap.size, 1, none⟩ (.string v)) V := hv.keep (KeepN.oth (((Oth.refl _ _).setCell 0 _).setCell 1 _) hR10 (by decide))
      have hbf := hHeldb11.1
      generalize ((y10.setCell ⟨w.heap.size, 0, none⟩ (.string k)).setCell ⟨w.heap.size, 1, none⟩ (.string v)) = wf at *
      go_wp2
      refine bodyPost_ret (res51 hBf rfl) rfl ?_
      refine ⟨k, v, V, rfl, hVf, ?_, hbf⟩
      rw [hVL]
      show _ ++ _ = _
      rw [HUL.out]
      rfl
end Go.Proofs.Ytklnnkdcnaieoaa
