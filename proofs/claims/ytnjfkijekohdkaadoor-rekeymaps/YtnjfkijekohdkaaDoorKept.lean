/- What dovetailkeep.Kept does: it says yes of what was lent and stayed (contracts; nothing is claimed here). -/
import Derived.Test.YtnjfkijekohdkaaDoorLent
namespace Go.Proofs.YtnjfkijekohdkaaDoor
open Go.RowKit Go.Vf
def KeptOk (p : Prt) : Prop := ∀ (a a2 : Option Addr) (c c2 lo n n2 : Nat) (w : World), n ≤ w.heap.size → n2 ≤ w.heap.size → LIn w lo n p a c → PIn w 0 n2 p a2 → Calls Tryd.prog 35 #[pV p a c, pV p a2 c2] w fun e w' => e = .returned (.bool true) ∧ Below w.heap.size w w'
theorem LIn.old {w w' : World} {lo n : Nat} {p : Prt} {a : Option Addr} {c : Nat} (h : LIn w lo n p a c) (hb : Below w.heap.size w w') (hn : n ≤ w.heap.size) : LIn w' lo n p a c := h.keep fun b _ q => hb.block b (by omega)
set_option maxHeartbeats 16000000 in
set_option maxRecDepth 20000 in
theorem kept_step (k : Int) (y b : Bool) (m r : ByteArray) (l : List Prt) (hl : l.length ≤ 33554432) (ih : ∀ x ∈ l, KeptOk x) : KeptOk (.mk k y b m r l) := by
  intro a a2 c c2 lo n n2 w hn hn2 hlin hin
  unfold pV
  simp only [Prt.kind, Prt.yes, Prt.neg, Prt.mag, Prt.raw, Prt.items]
  obtain ⟨ln, hln⟩ : ∃ ln, l.length = ln := ⟨_, rfl⟩
  have HLN : Hid (l.length = ln) := hln
  rw [hln] at hl ⊢
  clear hln
  have HIN : Hid (∀ w1, Below w.heap.size w w1 → PIn w1 0 n2 (.mk k y b m r l) a2) := fun w1 h => hin.keep h hn2
  have HLI : Hid (∀ w1, Below w.heap.size w w1 → LIn w1 lo n (.mk k y b m r l) a c) := fun w1 h => hlin.old h hn
  have hform : ∃ g, a = some ⟨g, 0, none⟩ ∧ c = ln + 2 := by
    cases hlin with
    | row A C P h1 h2 h3 h4 h5 h6 h7 hmx hmk h8 h9 => exact ⟨_, rfl, by rw [h7]; simp only [Prt.items]; rw [HLN.out]⟩
  obtain ⟨g, rfl, rfl⟩ := hform
  have HIT : Hid (∀ w1, Below w.heap.size w w1 → ∀ j (hj : j < l.length), ∃ aj cj, Row6 w1 g (j * 6) l[j] aj cj ∧ LIn w1 0 n l[j] aj cj) := fun w1 h1 j hj => by
    cases HLI.out w1 h1 with
    | row A C P q1 q2 q3 q4 q5 q6 q7 qm qk q8 q9 =>
      exact ⟨A j, C j, q8 j hj, (q9 j hj).lower (Nat.zero_le _) (Nat.le_trans (q3 (j + 1) _ hj (Nat.le_refl _)) q4)⟩
  have HMK : Hid (∀ w1, Below w.heap.size w w1 → ∀ j, ln ≤ j → j < ln + 2 → w1.cell? ⟨g, j * 6, none⟩ = some (.int .u8 99) ∧ w1.cell? ⟨g, j * 6 + 4, none⟩ = some (.string ⟨#[109, 97, 114, 107]⟩)) := fun w1 h1 j q1 q2 => by
    cases HLI.out w1 h1 with
    | row A C P r1 r2 r3 r4 r5 r6 r7 rm rk r8 r9 => exact rk j (by simp only [Prt.items]; rw [HLN.out]; exact q1) (by simp only [Prt.items]; rw [HLN.out]; exact q2)
  have hB0 := Blk.new w 29 #[.int .u8 k, .bool y, .bool b, .string m, .string r, .slice (some ⟨g, 0, none⟩) ln (ln + 2)]
  have hb1 := (Below.refl w.heap.size w).alloc (Nat.le_refl _) (.cells #[.int .u8 k, .bool y, .bool b, .string m, .string r, .slice (some ⟨g, 0, none⟩) ln (ln + 2)] 29)
  have hs1 := alloc_size w (.cells #[.int .u8 k, .bool y, .bool b, .string m, .string r, .slice (some ⟨g, 0, none⟩) ln (ln + 2)] 29)
  have hb2 := hb1.alloc hb1.size (.cells #[.int .u8 k, .bool y, .bool b, .string m, .string r, .slice a2 ln c2] 29)
  have hB1 := Blk.new (w.alloc (.cells #[.int .u8 k, .bool y, .bool b, .string m, .string r, .slice (some ⟨g, 0, none⟩) ln (ln + 2)] 29)) 29 #[.int .u8 k, .bool y, .bool b, .string m, .string r, .slice a2 ln c2]
  have hB0b := hB0.old ((Below.refl _ (w.alloc (.cells #[.int .u8 k, .bool y, .bool b, .string m, .string r, .slice (some ⟨g, 0, none⟩) ln (ln + 2)] 29))).alloc (Nat.le_refl _) (.cells #[.int .u8 k, .bool y, .bool b, .string m, .string r, .slice a2 ln c2] 29))
  rw [hs1] at hB1
  have ym : (m.toList == m.toList) = true := by simp
  have yr : (r.toList == r.toList) = true := by simp
  have yk : (k == k) = true := by simp
  have yk2 : (k != k) = false := by simp
  have heq2 : ∀ w : World, (Op.equalIn 10000 26 (.agg #[.bool b, .string m]) (.agg #[.bool b, .string m])).run Tryd.prog w = .ok true w := fun w => by
    rw [num_eq]; simp
  clear hlin hin
  go_enter Tryd.func35, Tryd.ntmps35
  go_upto_region 1 with fail
  generalize (w.alloc (.cells #[.int .u8 k, .bool y, .bool b, .string m, .string r, .slice (some ⟨g, 0, none⟩) ln (ln + 2)] 29)).alloc (.cells #[.int .u8 k, .bool y, .bool b, .string m, .string r, .slice a2 ln c2] 29) = w1 at *
  have HX1 : Hid (Blk w1 w.heap.size 29 #[.int .u8 k, .bool y, .bool b, .string m, .string r, .slice (some ⟨g, 0, none⟩) ln (ln + 2)]) := hB0b
  have HP1 : Hid (Blk w1 (w.heap.size + 1) 29 #[.int .u8 k, .bool y, .bool b, .string m, .string r, .slice a2 ln c2]) := hB1
  obtain ⟨x0, x1, x2, x3, x4, x5⟩ := hB0b.c6
  obtain ⟨p0, p1, p2, p3, p4, p5⟩ := hB1.c6
  clear hB0 hB0b hB1 hs1 hb1
  go_wp2_with fail
  clear x0 x1 x2 x3 x4 x5 p0 p1 p2 p3 p4 p5 heq2 ym yr yk yk2
  go_loopw [5] (fun iv wr => ∃ (j : Nat), j ≤ ln ∧ iv = .int .i64 (j : Int) ∧ Hid (Blk wr w.heap.size 29 #[.int .u8 k, .bool y, .bool b, .string m, .string r, .slice (some ⟨g, 0, none⟩) ln (ln + 2)]) ∧ Hid (Blk wr (w.heap.size + 1) 29 #[.int .u8 k, .bool y, .bool b, .string m, .string r, .slice a2 ln c2]) ∧ Below w.heap.size w wr) (fun iv _ => ln - (intOf iv).toNat)
  case atStart => exact ⟨0, Nat.zero_le _, rfl, HX1, HP1, hb2⟩
  case round =>
    clear HX1 HP1 hb2
    obtain ⟨j, hj, rfl, HX, HP, hb⟩ := hrel
    have hsz := hb.size
    have x5 : wr.cell? ⟨w.heap.size, 5, none⟩ = some (.slice (some ⟨g, 0, none⟩) ln (ln + 2)) := Blk.cell HX.out 5
    have p5 : wr.cell? ⟨w.heap.size + 1, 5, none⟩ = some (.slice a2 ln c2) := Blk.cell HP.out 5
    by_cases hlt : j < ln
    · have tl : decide ((j : Int) < (ln : Int)) = true := decide_eq_true (by omega)
      have tl2 : decide (j < ln) = true := decide_eq_true hlt
      have hji : (j : Int) < (ln : Int) := by omega
      have hjl : j < l.length := by rw [HLN.out]; exact hlt
      obtain ⟨a3, c3, hrow, hl3⟩ := HIT.out wr hb j hjl
      obtain ⟨bb, off, aj, cj, ha, _, hbb, hrow2, hinj⟩ := (HIN.out wr hb).at (p := .mk k y b m r l) hjl
      simp only [Prt.items] at ha hrow2 hinj
      subst ha
      obtain ⟨r0, r1, r2, r3, r4, r5⟩ := hrow
      obtain ⟨s0, s1, s2, s3, s4, s5⟩ := hrow2
      have hdr : Below wr.heap.size wr wr.drew := (Below.refl _ _).drew
      have hcall := ih l[j] (List.getElem_mem hjl) a3 aj c3 cj 0 n n2 wr.drew (by show n ≤ wr.heap.size; omega) (by show n2 ≤ wr.heap.size; omega) (hl3.old hdr (by omega)) (hinj.keep hdr (by omega))
      unfold pV at hcall
      have hszd : wr.drew.heap.size = wr.heap.size := rfl
      rw [hszd] at hcall
      generalize l[j] = x at *
      clear hl3 hinj hszd ih
      go_wp2_with fail
      go_region_with (go_at_call 35; refine hcall.mono ?_; rintro _ w4 ⟨rfl, hb4⟩)
      all_goals
        have hbx : Below wr.heap.size wr w4 := hdr.trans hb4
        have HX4 : Hid _ := Blk.old HX.out hbx
        have HP4 : Hid _ := Blk.old HP.out hbx
        have hfin := hb.trans (hbx.mono hsz)
        clear hcall r0 r1 r2 r3 r4 r5 s0 s1 s2 s3 s4 s5 x5 p5
        go_wp2_with fail
        go_roundw
        case rel => exact ⟨j + 1, hlt, by simp, HX4, HP4, hfin⟩
        case measure => simp only [intOf]; omega
    · have tl : decide ((j : Int) < (ln : Int)) = false := decide_eq_false (by omega)
      have tl2 : decide (j < ln) = false := decide_eq_false hlt
      clear ih HIT HIN HLI p5 hlt
      go_wp2_with fail
      go_loopw [7] (fun iv wr => ∃ (i : Nat), ln ≤ i ∧ i ≤ ln + 2 ∧ iv = .int .i64 (i : Int) ∧ Below w.heap.size w wr) (fun iv _ => ln + 2 - (intOf iv).toNat)
      case atStart => exact ⟨ln, Nat.le_refl _, by omega, rfl, hb⟩
      case round =>
        clear hb hsz x5 HX HP
        obtain ⟨i, hi1, hi2, rfl, hb⟩ := hrel
        by_cases hlt : i < ln + 2
        · have tl3 : decide ((i : Int) < (ln : Int) + 2) = true := decide_eq_true (by omega)
          have tl4 : decide ((i : Int) < ((ln + 2 : Nat) : Int)) = true := decide_eq_true (by omega)
          have tl5 : decide (i < ln + 2) = true := decide_eq_true hlt
          have hji : (i : Int) < (ln : Int) + 2 := by omega
          obtain ⟨m0, m4⟩ := HMK.out wr hb i hi1 hlt
          go_wp2_with fail
          go_roundw
          case rel => exact ⟨i + 1, by omega, by omega, by simp, hb⟩
          case measure => simp only [intOf]; omega
        · have tl3 : decide ((i : Int) < (ln : Int) + 2) = false := decide_eq_false (by omega)
          have tl4 : decide ((i : Int) < ((ln + 2 : Nat) : Int)) = false := decide_eq_false (by omega)
          have tl5 : decide (i < ln + 2) = false := decide_eq_false hlt
          go_wp2_with fail
          go_ret
          exact ⟨rfl, hb⟩
theorem kept_any : ∀ (p : Prt), wt p ≤ 536870912 → KeptOk p := by
  intro p
  induction p using Prt.ind with
  | h k y b m r l ih =>
    intro hw
    have h1 := wt_items (k := k) (y := y) (b := b) (m := m) (r := r) (l := l)
    have h2 := wt_len l
    exact kept_step k y b m r l (by omega) (fun x hx => ih x hx (by have := wt_mem hx; omega))
end Go.Proofs.YtnjfkijekohdkaaDoor
