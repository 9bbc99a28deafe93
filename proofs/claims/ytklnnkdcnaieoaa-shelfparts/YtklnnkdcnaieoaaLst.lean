/- What ShelfLast's own function 'last' answers (contracts; nothing is claimed here). -/
import Derived.Test.YtklnnkdcnaieoaaLsm
import Derived.Test.YtklnnkdcnaieoaaShl
namespace Go.Proofs.Ytklnnkdcnaieoaa
open Go.RowKit Go.Vf

theorem tuple17 {tmps : Array Value} {w : World} : (results Try.f17 tmps).run Try.prog w = .ok (.tuple #[tmps[3]?.getD undef, tmps[4]?.getD undef]) w := by simp [results, Try.results17, go_sem]
def LstPost (G : Value) (w : World) (e : Ending) (w' : World) : Prop := e = .returned G ∧ w = w'
set_option maxHeartbeats 4000000 in
set_option maxRecDepth 20000 in
theorem last_any (w : World) (S n₀ : Nat) (a : Option Addr) (c : Nat) (l : List Ac) (k : ByteArray) (hS : w.cell? ⟨S, 0, none⟩ = some (.slice a l.length c)) (h : AcIn w n₀ a l) (hl : l.length ≤ 2147483647) :
    Calls Try.prog 17 #[.string k, .pointer (some ⟨S, 0, none⟩)] w (LstPost (getV k (runA l)) w) := by
  obtain ⟨G, HG⟩ : ∃ G, Hid (G = getV k (runA l)) := ⟨_, rfl⟩
  rw [← HG.out]
  obtain ⟨m, hm⟩ : ∃ m, m = l.length := ⟨_, rfl⟩
  rw [← hm] at hS
  have Hm : Hid (m = l.length) := hm
  have hmb : m ≤ 2147483647 := by rw [hm]; exact hl
  have HA : Hid (AcIn w n₀ a l) := h
  clear h hl hm
  go_enter Try.func17, Try.ntmps17
  go_wp2
  go_loopw [5] (fun i wr => ∃ j : Nat, j ≤ m ∧ i = .int .i64 ((j : Int) - 1) ∧ Hid (get k (runA (l.take j)) = get k (runA l)) ∧ w = wr) (fun i _ => (intOf i + 1).toNat)
  case atStart => exact ⟨m, Nat.le_refl _, by go_num, (by show _ = _; rw [Hm.out, List.take_length]), rfl⟩
  case round =>
    obtain ⟨j, hj, rfl, hg, rfl⟩ := hrel
    cases j with
    | zero =>
      have e0 : ((0 : Nat) : Int) - 1 = -1 := rfl
      rw [e0]
      go_wp2
      refine bodyPost_ret tuple17 rfl ?_
      refine ⟨?_, rfl⟩
      rw [HG.out, getV, ← hg.out]
      rfl
    | succ j =>
      have e0 : ((j + 1 : Nat) : Int) - 1 = (j : Int) := by omega
      rw [e0]
      have hj1 : j < l.length := by rw [← Hm.out]; omega
      obtain ⟨b, off, ha, hbn, c0, c2, c3, _, _⟩ := HA.out j hj1
      obtain ⟨y, hy⟩ : ∃ y, y = l[j] := ⟨_, rfl⟩
      rw [← hy] at c0 c2 c3
      have HX : Hid (get k (runA l) = if y.key = k ∧ y.kind = 1 then some y.val else if y.key = k ∧ y.kind = 3 then none else get k (runA (l.take j))) := by
        show _ = _
        rw [← hg.out, runA_take l j hj1, get_step (runA_srt _), ← hy]
      obtain ⟨yk, y1, y2, y3, y4⟩ := y
      dsimp only at c0 c2 c3 HX
      subst ha
      have hji : (j : Int) < (m : Int) := by omega
      have hj0 : (0 : Int) ≤ (j : Int) := by omega
      clear hy hg e0
      by_cases hk : y1 = k
      · have hkb : (y1.toList == k.toList) = true := by rw [hk]; exact beq_self_eq_true _
        by_cases h1 : yk = 1
        · have HR : Hid (get k (runA l) = some y2) := by show _ = _; rw [HX.out, if_pos ⟨hk, h1⟩]
          have h1b : (yk == 1) = true := by rw [h1]; rfl
          clear hk h1
          go_wp2
          refine bodyPost_ret tuple17 rfl ?_
          refine ⟨?_, rfl⟩
          rw [HG.out, getV, HR.out]
          rfl
        · have h1b : (yk == 1) = false := by simpa using h1
          by_cases h3 : yk = 3
          · have HR : Hid (get k (runA l) = none) := by show _ = _; rw [HX.out, if_neg (fun e => h1 e.2), if_pos ⟨hk, h3⟩]
            have h3b : (yk == 3) = true := by rw [h3]; rfl
            clear hk h1 h3
            go_wp2
            refine bodyPost_ret tuple17 rfl ?_
            refine ⟨?_, rfl⟩
            rw [HG.out, getV, HR.out]
            rfl
          · have HR : Hid (get k (runA (l.take j)) = get k (runA l)) := by show _ = _; rw [HX.out, if_neg (fun e => h1 e.2), if_neg (fun e => h3 e.2)]
            have h3b : (yk == 3) = false := by simpa using h3
            clear hk h1 h3
            go_wp2
            go_roundw
            case rel => exact ⟨j, by omega, by go_num, HR, trivial⟩
            case measure => simp [intOf]
      · have hkb : (y1.toList == k.toList) = false := by
          rw [beq_eq_false_iff_ne]
          exact fun e => hk (ba_ext e)
        have HR : Hid (get k (runA (l.take j)) = get k (runA l)) := by show _ = _; rw [HX.out, if_neg (fun e => hk e.1), if_neg (fun e => hk e.1)]
        clear hk
        go_wp2
        go_roundw
        case rel => exact ⟨j, by omega, by go_num, HR, trivial⟩
        case measure => simp [intOf]
end Go.Proofs.Ytklnnkdcnaieoaa
