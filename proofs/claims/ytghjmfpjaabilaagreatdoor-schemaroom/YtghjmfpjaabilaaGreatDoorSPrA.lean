/- What schema's Print does, against what the document's does (a contract; nothing is claimed here). -/
import Derived.Test.YtghjmfpjaabilaaGreatDoorJ27
import Derived.Test.YtghjmfpjaabilaaGreatDoorJ26
namespace Go.Proofs.YtghjmfpjaabilaaGreatDoor
open Go.RowKit Go.Vf

def prnA (limit : Int) (l : List Fld) : List UInt8 × Int × List Int :=
  if (chkS bndQ limit l).1 = 0 then (if 65536 < (prnS limit l).length then ([], 2, []) else (prnS limit l, 0, [])) else ([], (chkS bndQ limit l).1, (chkS bndQ limit l).2)

set_option maxHeartbeats 4000000 in
set_option maxRecDepth 20000 in
theorem print_t (limit : Int) (l : List Fld) (hl : l.length ≤ 17179869184) (hfit : ∀ x ∈ l, FitsF 17179869184 x) (a : Option Addr) (c lo n₀ : Nat) (hc : l.length ≤ c) (w : World) (hn₀ : n₀ ≤ w.heap.size) (hin : FIn w lo n₀ l a) (hE : Env w) :
    Calls Tryz.prog 6 #[.agg #[.int .i64 limit, .slice a l.length c]] w (PrnPost limit l w) := by
  have hb1 := (Below.refl w.heap.size w).alloc (Nat.le_refl _) (.cells #[.int .i64 limit, .slice a l.length c] 24)
  have hS1 := Blk.new w 24 #[.int .i64 limit, .slice a l.length c]
  have hgood : (chkS bndQ limit l).1 = 0 → (∀ x ∈ l, OkP x) ∧ (prnS limit l).length ≤ 400000 := chkS_good
  have hck := scheck_any limit l a c lo n₀ (w.alloc (.cells #[.int .i64 limit, .slice a l.length c] 24)) hc hfit hl (by have := hb1.size; omega) (hin.keep hb1 hn₀)
  have HPR : Hid ((chkS bndQ limit l).1 = 0 → ∀ W, Below w.heap.size w W → Calls Tryz.prog 13 #[.agg #[.int .i64 limit, .slice a l.length c]] W fun e w' => e = .returned (.string (bs (prnS limit l))) ∧ Below W.heap.size W w') := fun h W hW => printed_any limit (by have := (chkS_god h).2.1; omega) (by have := (chkS_god h).2.2.1; omega) l hl (hgood h).1 hfit (hgood h).2 a c lo n₀ W (by have := hW.size; omega) (hin.keep hW hn₀) (hE.old hW)
  have HGL : Hid ((chkS bndQ limit l).1 = 0 → (prnS limit l).length ≤ 400000) := fun h => (hgood h).2
  obtain ⟨q, P, hqP⟩ : ∃ q P, chkS bndQ limit l = (q, P) := ⟨_, _, rfl⟩
  unfold PrnPost
  rw [hqP] at hck HPR HGL ⊢
  generalize prnS limit l = T at *
  clear hin hfit hgood hqP hE
  unfold SCheckPost at hck
  go_enter Tryz.func6, Tryz.ntmps6
  go_upto_region 1 with fail
  generalize w.alloc (.cells #[.int .i64 limit, .slice a l.length c] 24) = w1 at *
  have c0 : w1.cell? ⟨w.heap.size, 0, none⟩ = some (.int .i64 limit) := hS1.cell 0
  have c1 : w1.cell? ⟨w.heap.size, 1, none⟩ = some (.slice a l.length c) := hS1.cell 1
  go_wp2_with fail
  refine hck.mono ?_
  rintro e w2 ⟨hb2, ⟨hq, rfl⟩ | ⟨hq, v, rfl, hF⟩⟩
  · have hb02 := hb1.trans (hb2.mono hb1.size)
    have hS2 := hS1.old hb2
    have d0 : w2.cell? ⟨w.heap.size, 0, none⟩ = some (.int .i64 limit) := hS2.cell 0
    have d1 : w2.cell? ⟨w.heap.size, 1, none⟩ = some (.slice a l.length c) := hS2.cell 1
    have hp := HPR.out hq w2 hb02
    have hT := HGL.out hq
    have HQ : Hid (q = 0) := hq
    have hTz : (bs T).size = T.length := bs_size T
    clear hck c0 c1 hS1 hS2 HPR HGL hq
    go_wp2_with fail
    refine hp.mono ?_
    rintro _ w3 ⟨rfl, hb3⟩
    have hb03 := hb02.trans (hb3.mono hb02.size)
    have hz3 := hb03.size
    clear hp d0 d1
    by_cases hlong : 65536 < T.length
    · have t1 : decide ((65536 : Int) < ((bs T).size : Int)) = true := decide_eq_true (by rw [hTz]; omega)
      have t2 : decide (65536 < (bs T).size) = true := decide_eq_true (by rw [hTz]; exact hlong)
      have hF := Blk.new w3 55 #[.int .i64 2, .int .i64 0, .slice none 0 0, .nilIface]
      have hb04 := hb03.alloc hb03.size (.cells #[.int .i64 2, .int .i64 0, .slice none 0 0, .nilIface] 55)
      have HL : Hid (65536 < T.length) := hlong
      clear hTz hlong hT
      go_wp2_with fail
      exact bodyPost_ret (res25_run rfl rfl) rfl ⟨hb04, .inr (.inl ⟨HQ.out, HL.out, _, rfl, _, _, _, rfl, hz3, hF, IOwn.nil _ _, by simp [Value.ownBlock]⟩)⟩
    · have t1 : decide ((65536 : Int) < ((bs T).size : Int)) = false := decide_eq_false (by rw [hTz]; omega)
      have t2 : decide (65536 < (bs T).size) = false := decide_eq_false (by rw [hTz]; exact hlong)
      have HL : Hid (T.length ≤ 65536) := Nat.le_of_not_lt hlong
      clear hTz hlong hT
      go_wp2_with fail
      exact bodyPost_ret (res25_run rfl rfl) rfl ⟨hb03, .inr (.inr ⟨HQ.out, HL.out, rfl⟩)⟩
  · have hb02 := hb1.trans (hb2.mono hb1.size)
    have HF : Hid (FaultAt w2 w.heap.size v q 0 P .nilIface) := by
      obtain ⟨F, x, z, e1, e2, e3, e4, e5⟩ := hF
      exact ⟨F, x, z, e1, Nat.le_trans hb1.size e2, e3, e4.mono hb1.size, e5⟩
    obtain ⟨F, x, z, rfl, _⟩ := hF
    clear hck c0 c1 hS1 HPR HGL
    go_wp2_with fail
    exact bodyPost_ret (res25_run rfl rfl) rfl ⟨hb02, .inl ⟨hq, _, rfl, HF.out⟩⟩
/-- What Print answers, as Is and the comparison of texts want it. -/
def PrA (r : List UInt8 × Int × List Int) (w : World) (e : Ending) (w' : World) : Prop :=
  ∃ ev, e = .returned (.tuple #[.string (bs r.1), ev]) ∧ SCheckPost r.2 w (.returned ev) w'
theorem print_a (limit : Int) (l : List Fld) (hl : l.length ≤ 17179869184) (hfit : ∀ x ∈ l, FitsF 17179869184 x) (a : Option Addr) (c lo n₀ : Nat) (hc : l.length ≤ c) (w : World) (hn₀ : n₀ ≤ w.heap.size) (hin : FIn w lo n₀ l a) (hE : Env w) :
    Calls Tryz.prog 6 #[.agg #[.int .i64 limit, .slice a l.length c]] w (PrA (prnA limit l) w) := by
  refine (print_t limit l hl hfit a c lo n₀ hc w hn₀ hin hE).mono ?_
  rintro e w' ⟨hb, ⟨h1, v, rfl, hF⟩ | ⟨h1, h2, v, rfl, hF⟩ | ⟨h1, h2, rfl⟩⟩
  · have hA : prnA limit l = ([], (chkS bndQ limit l).1, (chkS bndQ limit l).2) := by unfold prnA; rw [if_neg h1]
    rw [hA]
    exact ⟨v, rfl, hb, .inr ⟨h1, v, rfl, hF⟩⟩
  · have hA : prnA limit l = ([], 2, []) := by unfold prnA; rw [if_pos h1, if_pos h2]
    rw [hA]
    exact ⟨v, rfl, hb, .inr ⟨by simp, v, rfl, hF⟩⟩
  · have hA : prnA limit l = (prnS limit l, 0, []) := by unfold prnA; rw [if_pos h1, if_neg (by omega)]
    rw [hA]
    exact ⟨_, rfl, hb, .inl ⟨rfl, rfl⟩⟩
theorem prnA_len (limit : Int) (l : List Fld) : (prnA limit l).2.2.length ≤ 17 := by
  have h := chkS_len bndQ limit l
  unfold prnA
  split
  · split <;> simp
  · exact h
end Go.Proofs.YtghjmfpjaabilaaGreatDoor
