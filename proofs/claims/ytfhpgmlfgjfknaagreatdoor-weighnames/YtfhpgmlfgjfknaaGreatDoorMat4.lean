/- What (*match.walk).beginning does (a contract; nothing is claimed here). -/
import Derived.Test.YtfhpgmlfgjfknaaGreatDoorMat2
import Derived.Test.YtfhpgmlfgjfknaaGreatDoorTAsk6
import Derived.Test.YtfhpgmlfgjfknaaGreatDoorAwakeN
namespace Go.Proofs.YtfhpgmlfgjfknaaGreatDoor
open Go.RowKit Go.Vf Go.Maps

/-- Is a row an entry's? -/
def fndT (E : List Ent) (q : List Int) : Bool := (findT E q).isSome

theorem find_b (T me ml n₀ : Nat) (val : List Int → Value) (E : List Ent) (v : Value) (zs : List Int) (w : World) (ht : TabAt w T me ml val E) (hn₀ : n₀ ≤ w.heap.size) (hin : Ints n₀ w v zs) (hll : zs.length ≤ 4611686018427387904) :
    Calls Tryz.prog 106 #[.pointer (some ⟨T, 0, none⟩), v] w fun e w' => ∃ u, e = .returned (.tuple #[u, .bool (fndT E zs)]) ∧ Below w.heap.size w w' := by
  refine (find_any T me ml n₀ val E v zs w ht hn₀ hin hll).mono ?_
  rintro e w' ⟨hb, hm⟩
  unfold fndT
  cases hf : findT E zs with
  | none => rw [hf] at hm; exact ⟨_, hm, hb⟩
  | some l => rw [hf] at hm; obtain ⟨a, n, c, rfl, _⟩ := hm; exact ⟨_, rfl, hb⟩

set_option maxHeartbeats 4000000 in
set_option maxRecDepth 20000 in
theorem beginning_any {w₁ : World} {bd T B g off cap me ml : Nat} {val : List Int → Value} {E : List Ent} {x : Int} {t : List Int} {ps : List (List Int)} {W : World} (hk : MWk w₁ bd T B g off cap ((x :: t) :: ps) W) (ht : TabAt w₁ T me ml val E) (hx : InI x)
    (hl : ((x :: t) :: ps).length ≤ 4611686018427387904) (hpl : ∀ p ∈ (x :: t) :: ps, p.length ≤ 4611686018427387904) (hm8 : longT E x ≤ 8) :
    Calls Tryz.prog 175 #[.pointer (some ⟨B, 0, none⟩)] W fun e W' => ∃ n b gr k c, e = .returned (.tuple #[.slice (some ⟨gr, 0, none⟩) k c, .bool b]) ∧ n = firstN (fndT E) ((x :: t) :: ps).flatten (min (max 1 (longT E x)) ((x :: t) :: ps).flatten.length) ∧ b = decide (n ≠ 0) ∧ IOwn W' W.heap.size (.slice (some ⟨gr, 0, none⟩) k c) (((x :: t) :: ps).flatten.take (if n = 0 then 1 else n)) ∧ Below W.heap.size W W' := by
  obtain ⟨c0, c1, c2⟩ := hk.cells
  obtain ⟨pb, po, c, d0, d1, d2⟩ := hk.piece (j := 0) (by simp)
  simp only [List.getElem_cons_zero, Nat.add_zero] at d0 d1 d2
  have d3 := d2.2 0 (by simp)
  simp only [List.getElem?_cons_zero, Option.getD_some, Nat.add_zero] at d3
  have htw : ∀ W', Below W.heap.size W W' → TabAt W' T me ml val E := fun W' h => ht.below (hk.below.trans (h.mono hk.below.size))
  obtain ⟨M, hM⟩ : ∃ M, M = max 1 (longT E x) := ⟨_, rfl⟩
  have hMi : max (1 : Int) ((longT E x : Nat) : Int) = (M : Int) := by omega
  have hM8 : 1 ≤ M ∧ M ≤ 8 := by omega
  have HL : Hid (∀ W', Below W.heap.size W W' → Calls Tryz.prog 209 #[.pointer (some ⟨T, 0, none⟩), .int .i64 x] W' fun e w' => e = .returned (.int .i64 (longT E x : Int)) ∧ W' = w') := fun W' h => longest_any T me ml val E x hx W' (htw W' h)
  have HF : Hid (∀ W', Below W.heap.size W W' → Calls Tryz.prog 208 #[.pointer (some ⟨B, 0, none⟩), .int .i64 M] W' fun e W2 => ∃ gr k c, e = .returned (.slice (some ⟨gr, 0, none⟩) k c) ∧ IOwn W2 W.heap.size (.slice (some ⟨gr, 0, none⟩) k c) (((x :: t) :: ps).flatten.take M) ∧ Below W.heap.size W W2) := fun W' h => (front_any (hk.go h) hl hpl M hM8.2).mono (by
    rintro e W2 ⟨gr, k, c, e1, e2, e3⟩
    exact ⟨gr, k, c, e1, e2.mono h.size, h.trans (e3.mono h.size)⟩)
  rw [← hM]
  clear hM
  generalize longT E x = LL at *
  have hbz : Below W.heap.size W W.drew := (Below.refl _ W).drew
  have HTW : Hid _ := htw
  clear htw
  have hlpos : 1 ≤ ((x :: t) :: ps).flatten.length := by simp
  generalize ((x :: t) :: ps).flatten = l at HF hlpos ⊢
  go_enter Tryz.func175, Tryz.ntmps175
  go_upto_region 1 with fail
  go_cut [4] from 8 to 23 (fun v wx => ∃ gr kr cr, v = .slice (some ⟨gr, 0, none⟩) kr cr ∧ Aside (IOwn wx W.heap.size (.slice (some ⟨gr, 0, none⟩) kr cr) (l.take M)) ∧ Below W.heap.size W wx)
  case first =>
    go_region_with (first | (go_at_call 209; with_reducible refine (HL.out _ (by assumption)).mono ?_; rintro e w2 ⟨rfl, rfl⟩) | (go_at_call 208; with_reducible refine (HF.out _ (by assumption)).mono ?_; rintro e w3 ⟨gr, kr, cr, rfl, hown3, hb3⟩))
    all_goals
      go_wp2_with fail
      go_meet
      exact ⟨gr, kr, cr, rfl, hown3, hb3⟩
  case rest =>
    obtain ⟨gr, kr, cr, rfl, HOWN, hb3⟩ := hcut
    have hkr := HOWN.out.form1
    rw [List.length_take] at hkr
    have HKR : Hid (kr = min M l.length) := hkr
    have hkr1 : 1 ≤ kr ∧ kr ≤ 8 := by omega
    clear hkr HL HF
    go_wp2_with fail
    go_loopw [5] (fun nv wr => ∃ k : Nat, k ≤ kr ∧ nv = .int .i64 k ∧ Hid (firstN (fndT E) l k = firstN (fndT E) l kr) ∧ Aside (IOwn wr W.heap.size (.slice (some ⟨gr, 0, none⟩) kr cr) (l.take M)) ∧ Below W.heap.size W wr) (fun nv _ => (intOf nv).toNat)
    case atStart => exact ⟨kr, Nat.le_refl _, rfl, rfl, HOWN, hb3⟩
    case round =>
      clear HOWN hb3
      obtain ⟨k, hk1, rfl, HF, HOWN, hbr⟩ := hrel
      have htr := HTW.out _ hbr
      have r1 : wr.cell? ⟨B, 1, none⟩ = some (.pointer (some ⟨T, 0, none⟩)) := (hbr.cell (p := ⟨B, 1, none⟩) hk.blk.lt).trans c1
      cases k with
      | zero =>
        have h0 : firstN (fndT E) l kr = 0 := HF.out.symm
        have hfin : IOwn wr W.heap.size (.slice (some ⟨gr, 0, none⟩) 1 cr) (l.take 1) := by
          have := HOWN.out.take (m := 1) (by rw [List.length_take]; omega)
          rwa [List.take_take, Nat.min_eq_left hM8.1] at this
        obtain ⟨hcap1, hcap2⟩ : 1 ≤ kr ∧ kr ≤ cr := ⟨hkr1.1, by
          rcases HOWN.out.form with ⟨e, _⟩ | ⟨g', cp, e, _, _, hle, _⟩
          · cases e
          · cases e; rw [List.length_take, ← HKR.out] at hle; exact hle⟩
        go_wp2_with fail
        go_ret2
        exact ⟨0, false, gr, 1, cr, rfl, by rw [← HKR.out]; exact h0.symm, by simp, hfin, hbr⟩
      | succ k =>
        have hown := HOWN.out.take (m := k + 1) (by rw [List.length_take, ← HKR.out]; exact hk1)
        rw [List.take_take, Nat.min_eq_left (show k + 1 ≤ M by have := HKR.out; omega)] at hown
        have hcap2 : kr ≤ cr := by
          rcases HOWN.out.form with ⟨e, _⟩ | ⟨g', cp, e, _, _, hle, _⟩
          · cases e
          · cases e; rw [List.length_take, ← HKR.out] at hle; exact hle
        have hlen : (l.take (k + 1)).length = k + 1 := by rw [List.length_take]; have := HKR.out; omega
        have HFD : Hid (∀ n, Calls Tryz.prog 106 #[.pointer (some ⟨T, 0, none⟩), .slice (some ⟨gr, 0, none⟩) (k + 1) cr] (wr.drewN n) fun e w' => ∃ u, e = .returned (.tuple #[u, .bool (fndT E (l.take (k + 1)))]) ∧ Below (wr.drewN n).heap.size (wr.drewN n) w') := fun n => find_b T me ml _ val E _ (l.take (k + 1)) (wr.drewN n) (htr.below (below_drewQ _ _)) (Nat.le_refl _) (IOwn.ints (own_after hown (below_drewQ _ _))) (by omega)
        have hfd1 := HFD.out 1
        generalize hfb : fndT E (l.take (k + 1)) = fb at HFD hfd1
        have HFB : Hid (fndT E (l.take (k + 1)) = fb) := hfb
        clear hfb
        have h1 : wr.drewN 1 = wr.drew := rfl
        rw [h1] at hfd1
        go_upto_region 5 with fail
        go_cut [6, 7] from 26 to 44 (fun _ v wx => v = .bool fb ∧ Aside (Below wr.heap.size wr wx))
        case first =>
          go_region_with (first | (go_at_call 106; with_reducible refine hfd1.mono ?_; rintro e w2 ⟨u, rfl, hb2⟩))
          all_goals
            go_wp2_with fail
            go_meet
            exact ⟨rfl, (Below.refl _ wr).drew.trans hb2⟩
        case rest =>
          obtain ⟨rfl, HB⟩ := hcut
          have hbc : Below W.heap.size W wc := hbr.trans (HB.out.mono hbr.size)
          have HOW2 : Aside (IOwn wc W.heap.size (.slice (some ⟨gr, 0, none⟩) kr cr) (l.take M)) := own_after HOWN.out HB.out
          have HOW3 : Aside (IOwn wc W.heap.size (.slice (some ⟨gr, 0, none⟩) (k + 1) cr) (l.take (k + 1))) := own_after hown HB.out
          clear HFD hfd1 HOWN hown HB
          cases fb with
          | true =>
            have hfn : firstN (fndT E) l kr = k + 1 := by rw [← HF.out, firstN, HFB.out]; rfl
            go_wp2_with fail
            go_ret2
            exact ⟨k + 1, true, gr, k + 1, cr, rfl, by rw [← HKR.out]; exact hfn.symm, by simp, by simpa using HOW3.out, hbc⟩
          | false =>
            have HF2 : Hid (firstN (fndT E) l k = firstN (fndT E) l kr) := by
              show _ = _
              rw [← HF.out, firstN, HFB.out]
              rfl
            go_wp2_with fail
            go_roundw
            case rel => exact ⟨k, by omega, by simp, HF2, HOW2, hbc⟩
            case measure => simp only [intOf]; omega
end Go.Proofs.YtfhpgmlfgjfknaaGreatDoor
