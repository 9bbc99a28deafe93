/- Points taken out one by one (plain functions); what dovetailref00.Ints does (a contract; nothing is claimed here). -/
import Derived.Test.YtkcnjnccdafbfaaDoorSameW
namespace Go.Proofs.YtkcnjnccdafbfaaDoor
open Go.RowKit Go.Vf Go.Maps

theorem erase_len (x : Int) (l : List Int) : l.length ≤ (l.erase x).length + 1 := by
  rw [List.length_erase]
  split <;> omega
theorem foldl_erase_len : ∀ (q l : List Int), l.length ≤ (q.foldl List.erase l).length + q.length := by
  intro q
  induction q with
  | nil => intro l; simp
  | cons x t ih =>
    intro l
    have h1 := ih (l.erase x)
    have h2 := erase_len x l
    rw [List.foldl_cons, List.length_cons]
    omega
/-- What is taken out so that each takes one was there. -/
theorem erase_mem {x : Int} {q l : List Int} (h : ((x :: q).foldl List.erase l).length + (x :: q).length = l.length) : x ∈ l ∧ (q.foldl List.erase (l.erase x)).length + q.length = (l.erase x).length := by
  have hx : x ∈ l := by
    refine Classical.byContradiction fun hn => ?_
    rw [List.foldl_cons, List.erase_of_not_mem hn] at h
    have := foldl_erase_len q l
    rw [List.length_cons] at h
    omega
  refine ⟨hx, ?_⟩
  rw [List.foldl_cons, List.length_cons] at h
  have := List.length_erase_of_mem hx
  have h0 : 0 < l.length := List.length_pos_of_mem hx
  omega
theorem erase_at : ∀ {l : List Int} {x : Int} {p : Nat} (hp : p < l.length), l[p] = x → (∀ j (h : j < l.length), j < p → l[j] ≠ x) → l.erase x = l.take p ++ l.drop (p + 1) := by
  intro l
  induction l with
  | nil => intro x p hp; simp at hp
  | cons y t ih =>
    intro x p hp he hn
    cases p with
    | zero => simp at he; subst he; simp
    | succ p =>
      have h0 := hn 0 (by simp) (by omega)
      simp only [List.getElem_cons_zero] at h0
      rw [List.erase_cons_tail (by simpa using h0)]
      simp only [List.take_succ_cons, List.drop_succ_cons, List.cons_append]
      rw [ih (by simpa using hp) (by simpa using he) (fun j h hj => by have := hn (j + 1) (by simpa using h) (by omega); simpa using this)]

set_option maxHeartbeats 4000000 in
set_option maxRecDepth 20000 in
theorem ints_copy {v : Value} {zs : List Int} {n₀ : Nat} {w : World} (hn₀ : n₀ ≤ w.heap.size) (hin : Ints n₀ w v zs) (hl : zs.length ≤ 1000000000000) :
    Calls Tryd.prog 11 #[v] w fun e w' => ∃ v', e = .returned v' ∧ IOwn w' w.heap.size v' zs ∧ Below w.heap.size w w' := by
  obtain ⟨a, c, rfl⟩ := hin.val
  generalize hk : zs.length = k at hl ⊢
  have HK : Hid (zs.length = k) := hk
  have HIN : Aside (Ints n₀ w (.slice a k c) zs) := by rw [hk] at hin; exact hin
  clear hin hk
  go_enter Tryd.func11, Tryd.ntmps11
  go_wp2_with fail
  go_loopw [3, 4] (fun ov iv wr => ∃ (i : Nat) (acc : List Int) (oa : Option Addr) (oc : Nat), i ≤ k ∧ iv = .int .i64 i ∧ ov = .slice oa acc.length oc ∧ Aside (IOwn wr w.heap.size (.slice oa acc.length oc) acc) ∧ Hid (acc ++ zs.drop i = zs ∧ acc.length = i) ∧ Below w.heap.size w wr) (fun _ iv _ => k - (intOf iv).toNat)
  case atStart => exact ⟨0, [], none, 0, by omega, rfl, rfl, IOwn.nil _ _, ⟨by simp, rfl⟩, Below.refl _ _⟩
  case round =>
    obtain ⟨i, acc, oa, oc, hi, rfl, rfl, HO, HA, hbr⟩ := hrel
    by_cases hlt : i < k
    · have hltp : i < zs.length := by rw [HK.out]; exact hlt
      obtain ⟨b3, o3, hao, hnk, hblt, hcell⟩ := Ints.cell HIN.out (fun e => by rw [e] at hltp; simp at hltp)
      have hcj := (hbr.cell (p := ⟨b3, o3 + i, none⟩) (show b3 < w.heap.size by omega)).trans (hcell i hltp)
      rw [show zs[i]?.getD 0 = zs[i] by simp [List.getElem?_eq_getElem hltp]] at hcj
      have HA2 : Hid ((acc ++ [zs[i]]) ++ zs.drop (i + 1) = zs ∧ (acc ++ [zs[i]]).length = i + 1) := ⟨by
        rw [List.append_assoc, List.singleton_append, ← List.drop_eq_getElem_cons hltp]
        exact HA.out.1, by rw [List.length_append, HA.out.2]; rfl⟩
      generalize zs[i] = q at hcj HA2
      subst hao
      have hbA := (Below.refl wr.heap.size wr).alloc (Nat.le_refl _) (.cells #[.int .i64 q] 3)
      have hnb := Blk.new wr 3 #[.int .i64 q]
      have HO2 : Aside (IOwn (wr.alloc (.cells #[.int .i64 q] 3)) w.heap.size (.slice oa acc.length oc) acc) := own_after HO.out hbA
      have hszA : w.heap.size ≤ (wr.alloc (.cells #[.int .i64 q] 3)).heap.size := Nat.le_trans hbr.size hbA.size
      have hl2 : acc.length ≤ 1099511627776 := by have := HA.out.2; omega
      clear hcell hltp HO HA hnk
      go_wp2_with (first | (at_builtin; refine wpList_append_keep rfl _ _ rfl w.heap.size _ acc rfl HO2.out q ⟨wr.heap.size, 0, none⟩ _ rfl (hnb.cell 0) hl2 hszA ?_; intro v4 w4 hown4 hold4 hgr4; obtain ⟨a4, c4, rfl⟩ := hown4.val))
      have hb4 : Below w.heap.size w w4 := (hbr.alloc hbr.size _).grown hgr4 hszA (fun j hj => (own_ge HO2.out hj).1)
      have HO4 : Aside (IOwn w4 w.heap.size (.slice a4 (acc ++ [q]).length c4) (acc ++ [q])) := hown4
      clear hown4 hold4 hgr4
      go_roundw
      case rel => exact ⟨i + 1, acc ++ [q], a4, c4, by omega, by simp, by simp, HO4, HA2, hb4⟩
      case measure => simp only [intOf]; omega
    · have hfin : acc = zs := by have := HA.out.1; rwa [List.drop_of_length_le (by rw [HK.out]; omega), List.append_nil] at this
      clear HA
      go_wp2_with fail
      go_ret
      exact ⟨_, rfl, hfin ▸ HO.out, hbr⟩
end Go.Proofs.YtkcnjnccdafbfaaDoor
