/- What dovetailkeep.Write does: parts whose rows lie apart are written over, and nothing else is (contracts; nothing is claimed here). -/
import Derived.Test.YtnjfkijekohdkaaDoorCop
namespace Go.Proofs.YtnjfkijekohdkaaDoor
open Go.RowKit Go.Vf
/-- The items of p lie at a, in a row with room for c, from lo on and below n; each item's own rows lie apart from it and from the other items'. -/
inductive WIn (w : World) : Nat → Nat → Prt → Option Addr → Nat → Prop where
  | none {lo n : Nat} {p : Prt} : p.items = [] → WIn w lo n p none 0
  | row {lo n : Nat} {p : Prt} {b cap : Nat} {cs : Array Value} (A : Nat → Option Addr) (C P : Nat → Nat) : lo ≤ b → b < P 0 → (∀ i j, i ≤ j → j ≤ p.items.length → P i ≤ P j) → P p.items.length ≤ n → Blk w b 29 cs → cs.size = cap * 6 → p.items.length ≤ cap → cap ≤ 1099511627776 →
      (∀ j (hj : j < p.items.length), Row6 w b (j * 6) p.items[j] (A j) (C j)) → (∀ j (hj : j < p.items.length), WIn w (P j) (P (j + 1)) p.items[j] (A j) (C j)) → WIn w lo n p (some ⟨b, 0, Option.none⟩) cap
theorem WIn.keep {w w' : World} {lo n : Nat} {p : Prt} {a : Option Addr} {c : Nat} (h : WIn w lo n p a c) (hk : ∀ b, lo ≤ b → b < n → w'.heap[b]? = w.heap[b]?) : WIn w' lo n p a c := by
  induction h with
  | none h => exact .none h
  | @row lo n p b cap cs A C P h1 h2 h3 h4 h5 h6 h7 hmx h8 h9 ih =>
    have hb : b < n := by have := h3 0 _ (Nat.zero_le _) (Nat.le_refl _); omega
    have e := hk b h1 hb
    refine .row A C P h1 h2 h3 h4 (e.trans h5) h6 h7 hmx (fun j hj => ?_) (fun j hj => ih j hj fun b' q1 q2 => hk b' ?_ ?_)
    · have q := fun k => cell_of_block e k
      obtain ⟨r0, r1, r2, r3, r4, r5⟩ := h8 j hj
      exact ⟨(q _).trans r0, (q _).trans r1, (q _).trans r2, (q _).trans r3, (q _).trans r4, (q _).trans r5⟩
    · have := h3 0 j (Nat.zero_le _) (by omega); omega
    · have := h3 (j + 1) _ hj (Nat.le_refl _); omega
/-- What lies in [lo, n) may be written over; what lies elsewhere stays. -/
structure Wrt (lo n : Nat) (w w' : World) : Prop where
  below : Below lo w w'
  above : ∀ b, n ≤ b → b < w.heap.size → w'.heap[b]? = w.heap[b]?
theorem Wrt.refl (lo n : Nat) (w : World) : Wrt lo n w w := ⟨Below.refl _ _, fun _ _ _ => rfl⟩
theorem Wrt.trans {lo n : Nat} {a b c : World} (h : Wrt lo n a b) (h' : Wrt lo n b c) : Wrt lo n a c := ⟨h.below.trans h'.below, fun k h1 h2 => (h'.above k h1 (Nat.lt_of_lt_of_le h2 h.below.size)).trans (h.above k h1 h2)⟩
theorem Wrt.mono {lo lo' n n' : Nat} {a b : World} (h : Wrt lo n a b) (h1 : lo' ≤ lo) (h2 : n ≤ n') : Wrt lo' n' a b := ⟨h.below.mono h1, fun k q1 q2 => h.above k (by omega) q2⟩
theorem Wrt.ofBelow {lo n : Nat} {a b : World} (h : Below a.heap.size a b) (h1 : lo ≤ a.heap.size) : Wrt lo n a b := ⟨h.mono h1, fun k _ q => h.block k q⟩
def WriteOk (p : Prt) : Prop := ∀ (a : Option Addr) (c lo n : Nat) (w : World), lo ≤ n → n ≤ w.heap.size → WIn w lo n p a c → Calls Tryd.prog 16 #[pV p a c] w fun e w' => e = .returned (.tuple #[]) ∧ Wrt lo n w w'
theorem own_of_blk {w : World} {g ln cap : Nat} {cur : Array Value} (h : Blk w g 29 cur) (hc : cur.size = cap * 6) (hl : ln ≤ cap) (hm : cap ≤ 1099511627776) (base : Nat) (hb : base ≤ g) : w.ownsRow base 29 6 (.slice (some ⟨g, 0, none⟩) ln cap) ln (cur.toList.take (ln * 6)) :=
  ⟨by rw [List.length_take, Array.length_toList]; omega, .inr ⟨g, cap, cur, rfl, hb, h, hl, by unfold maxLen; omega, hc, rfl⟩⟩
/-- The last step of Write: what stands behind. -/
theorem behind_ok {lo n : Nat} {w wr w' : World} {v v' : Value} {ln : Nat} {xs : List Value} {base : Nat} (hW : Wrt lo n w wr) (hsz : w.heap.size ≤ wr.heap.size) (hn : n ≤ w.heap.size) (hlo : lo ≤ n) (hbase : lo ≤ base) (_hbs : base ≤ wr.heap.size) (hown : ∀ k, v.ownBlock = some k → lo ≤ k ∧ k < n)
    (o : Obj) (ho' : w'.ownsRow base 29 6 v' (ln + 1) xs) (hg' : (wr.alloc o).grownBy w' v.ownBlock) (hat : v'.ownBlock = v.ownBlock ∨ v'.ownBlock = some (wr.alloc o).heap.size) :
    ∃ g' cap' cv, v' = .slice (some ⟨g', 0, none⟩) (ln + 1) cap' ∧ w'.cell? ⟨g', ln * 6 + 4, none⟩ = some cv ∧ w'.frozen? ⟨g', ln * 6 + 4, none⟩ = false ∧ ∀ x, Wrt lo n w (w'.setCell ⟨g', ln * 6 + 4, none⟩ x) := by
  have hsA := alloc_size wr o
  rcases ho'.2 with ⟨_, e⟩ | ⟨g', cap', cur', e, q1, q2, q3, q4, q5, q6⟩
  · omega
  have hB : Blk w' g' 29 cur' := q2
  have hc := hB.cell (ln * 6 + 4)
  rw [Array.getElem?_eq_getElem (by omega)] at hc
  have hbel : Below lo wr w' := ((Below.refl wr.heap.size wr).alloc (Nat.le_refl _) o |>.mono (by omega)).grown hg' (by omega) (fun k hk => (hown k hk).1)
  refine ⟨g', cap', _, e, hc, hB.frozen _, fun x => ⟨(hW.below.trans hbel).setCell (p := ⟨g', ln * 6 + 4, none⟩) (by show lo ≤ g'; omega) x, fun b h1 h2 => ?_⟩⟩
  have hne : b ≠ g' := by
    intro e'
    subst e'
    rw [e] at hat
    rcases hat with h | h
    · have := hown b (h.symm.trans rfl); omega
    · simp only [Value.ownBlock, Option.some.injEq] at h; omega
  rw [Below.heap_setCell _ _ _ b hne, hg'.block b (by omega) (fun e' => by have := hown b e'.symm; omega), Below.heap_alloc _ _ _ (by omega)]
  exact hW.above b h1 h2
set_option maxHeartbeats 8000000 in
set_option maxRecDepth 20000 in
theorem write_step (k : Int) (y b : Bool) (m r : ByteArray) (l : List Prt) (hl : l.length ≤ 33554432) (ih : ∀ x ∈ l, WriteOk x) : WriteOk (.mk k y b m r l) := by
  intro a c lo n w hlo hn hin
  unfold pV
  simp only [Prt.kind, Prt.yes, Prt.neg, Prt.mag, Prt.raw, Prt.items]
  obtain ⟨ln, hln⟩ : ∃ ln, l.length = ln := ⟨_, rfl⟩
  have HLN : Hid (l.length = ln) := hln
  rw [hln] at hl ⊢
  clear hln
  have hB0 := Blk.new w 29 #[.int .u8 k, .bool y, .bool b, .string m, .string r, .slice a ln c]
  have hb1 := (Below.refl w.heap.size w).alloc (Nat.le_refl _) (.cells #[.int .u8 k, .bool y, .bool b, .string m, .string r, .slice a ln c] 29)
  have hs1 := alloc_size w (.cells #[.int .u8 k, .bool y, .bool b, .string m, .string r, .slice a ln c] 29)
  have hw1 := hin.keep (fun b' _ q => hb1.block b' (by omega))
  go_enter Tryd.func16, Tryd.ntmps16
  go_upto_region 1 with fail
  generalize w.alloc (.cells #[.int .u8 k, .bool y, .bool b, .string m, .string r, .slice a ln c] 29) = w1 at *
  have HW1 : Hid (Wrt lo n w w1) := Wrt.ofBelow hb1 (by omega)
  have HS1 : Hid (w1.heap.size = w.heap.size + 1) := hs1
  have HB0 : Hid (Blk w1 w.heap.size 29 #[.int .u8 k, .bool y, .bool b, .string m, .string r, .slice a ln c]) := hB0
  clear hin hB0 hs1 hb1
  obtain ⟨i, hi, hzz⟩ := Option.map_eq_some_iff.1 info27p
  simp only [Prod.mk.injEq] at hzz
  obtain ⟨hz, hsz, hby⟩ := hzz
  cases hw1 with
  | none h0 =>
    have hl0 : l = [] := h0
    subst hl0
    have hl00 : ln = 0 := by have := HLN.out; simpa using this.symm
    subst hl00
    clear ih
    have HP5 : Hid (Blk w1 w.heap.size 29 #[.int .u8 k, .bool y, .bool b, .string m, .string r, .slice none 0 0]) := HB0.out
    have hB5 := HP5.out
    obtain ⟨p0, p1, p2, p3, p4, p5⟩ := Blk.c6 hB5
    clear hB5
    go_wp2_with fail
    go_loopw [2] (fun iv wr => iv = .int .i64 0 ∧ wr = w1) (fun _ _ => 0)
    case atStart => exact ⟨rfl, rfl⟩
    case round =>
      obtain ⟨rfl, rfl⟩ := hrel
      have HOW : Hid (wr.ownsRow wr.heap.size 29 6 (.slice none 0 0) 0 []) := World.ownsRow_nil _ _ _ _
      have hsz1 : w.heap.size ≤ wr.heap.size := by have := HS1.out; omega
      have hoA := World.ownsRow.alloc HOW.out (.cells #[.int .u8 78, .bool false, .bool false, .string ⟨#[]⟩, .string ⟨#[]⟩, .slice none 0 0] 29)
      have hsA := alloc_size wr (.cells #[.int .u8 78, .bool false, .bool false, .string ⟨#[]⟩, .string ⟨#[]⟩, .slice none 0 0] 29)
      have hnews : ∀ j u, ([.int .u8 78, .bool false, .bool false, .string ⟨#[]⟩, .string ⟨#[]⟩, .slice none 0 0] : List Value)[j]? = some u → (wr.alloc (.cells #[.int .u8 78, .bool false, .bool false, .string ⟨#[]⟩, .string ⟨#[]⟩, .slice none 0 0] 29)).cell? ((⟨wr.heap.size, 0, none⟩ : Addr).add j) = some u := fun j u hu => by
        rw [Go.WideShapes.add_plain, Nat.zero_add, (Blk.new wr 29 #[.int .u8 78, .bool false, .bool false, .string ⟨#[]⟩, .string ⟨#[]⟩, .slice none 0 0]).cell j, ← hu]
        simp
      have hone : ∀ u ∈ ([.int .u8 78, .bool false, .bool false, .string ⟨#[]⟩, .string ⟨#[]⟩, .slice none 0 0] : List Value), u.oneCell' = true := by intro u hu; simp at hu; rcases hu with rfl | rfl | rfl | rfl | rfl | rfl <;> rfl
      have HOA : Hid _ := hoA
      have HNW : Hid _ := hnews
      have HON : Hid _ := hone
      have HBS : Hid (wr.heap.size ≤ (wr.alloc (.cells #[.int .u8 78, .bool false, .bool false, .string ⟨#[]⟩, .string ⟨#[]⟩, .slice none 0 0] 29)).heap.size) := by show _ ≤ _; rw [hsA]; omega
      clear hoA hnews hone hsA
      go_upto_region 7 with (at_builtin; refine wpList_append_own_at _ rfl (.tmp 23) (.tmp 25) 27 rfl wr.heap.size 29 i _ 6 72 Tryd.underlying27 hi hz hsz hby rfl (by decide) _ 0 _ rfl HOA.out ⟨wr.heap.size, 0, none⟩ 1 1 _ rfl rfl HNW.out HON.out (by unfold maxLen; omega) (by omega) HBS.out ?_; intro v' w' ho' hg' _ hat)
      obtain ⟨g', cap', cv, hv', hc', hf', hfin⟩ := behind_ok HW1.out hsz1 hn hlo (by omega) (Nat.le_refl _) (fun k hk => by cases hk) (.cells #[.int .u8 78, .bool false, .bool false, .string ⟨#[]⟩, .string ⟨#[]⟩, .slice none 0 0] 29) ho' hg' hat
      subst hv'
      have HFI : Hid _ := hfin
      clear ho' hg' hat hfin
      go_wp2_with fail
      go_end0
      exact ⟨rfl, HFI.out _⟩
  | @row _ _ _ bb _ cs A C P h1 h2 h3 h4 h5 h6 h7 hmx h8 h9 =>
    simp only [Prt.items] at h3 h4 h7 h8 h9
    rw [HLN.out] at h3 h4 h7
    have HM : Hid (∀ i j, i ≤ j → j ≤ ln → P i ≤ P j) := h3
    have HPn : Hid (P ln ≤ n) := h4
    have HLB : Hid (lo ≤ bb ∧ bb < P 0) := ⟨h1, h2⟩
    have H89 : Hid (∀ j', 0 ≤ j' → ∀ hj : j' < l.length, Row6 w1 bb (j' * 6) l[j'] (A j') (C j') ∧ WIn w1 (P j') (P (j' + 1)) l[j'] (A j') (C j')) := fun j' _ hj => ⟨h8 j' hj, h9 j' hj⟩
    have HBB : Hid (Blk w1 bb 29 cs) := h5
    have HB0' : Hid (Blk w1 w.heap.size 29 #[.int .u8 k, .bool y, .bool b, .string m, .string r, .slice (some ⟨bb, 0, none⟩) ln c]) := HB0.out
    have HCS : Hid (cs.size = c * 6) := h6
    have h7' : ln ≤ c := h7
    clear h1 h2 h3 h4 h5 h6 h7 h8 h9 HB0
    go_wp2_with fail
    go_loopw [2] (fun iv wr => ∃ (j : Nat) (cur : Array Value), j ≤ ln ∧ iv = .int .i64 (j : Int) ∧ Hid (Blk wr w.heap.size 29 #[.int .u8 k, .bool y, .bool b, .string m, .string r, .slice (some ⟨bb, 0, none⟩) ln c]) ∧ Hid (Blk wr bb 29 cur) ∧ Hid (cur.size = c * 6) ∧ Wrt lo n w wr ∧ Hid (w.heap.size + 1 ≤ wr.heap.size) ∧ Hid (∀ j', j ≤ j' → ∀ hj : j' < l.length, Row6 wr bb (j' * 6) l[j'] (A j') (C j') ∧ WIn wr (P j') (P (j' + 1)) l[j'] (A j') (C j'))) (fun iv _ => ln - (intOf iv).toNat)
    case atStart => exact ⟨0, cs, Nat.zero_le _, rfl, HB0', HBB, HCS, HW1.out, by have := HS1.out; show _ ≤ _; omega, H89⟩
    case round =>
      clear HB0' HBB HCS H89 HW1 HS1
      obtain ⟨j, cur, hj, rfl, HBX, HBC, HCS, hW, HSZ, HR⟩ := hrel
      have p5 : wr.cell? ⟨w.heap.size, 5, none⟩ = some (.slice (some ⟨bb, 0, none⟩) ln c) := Blk.cell HBX.out 5
      have hbb := HLB.out
      have hws := hW.below.size
      have hsz0 := HSZ.out
      by_cases hlt : j < ln
      · have tl : decide ((j : Int) < (ln : Int)) = true := decide_eq_true (by omega)
        have tl2 : decide (j < ln) = true := decide_eq_true hlt
        have hji : (j : Int) < (ln : Int) := by omega
        have hjl : j < l.length := by rw [HLN.out]; exact hlt
        obtain ⟨hrow, hwin⟩ := HR.out j (Nat.le_refl _) hjl
        obtain ⟨r0, r1, r2, r3, r4, r5⟩ := hrow
        have mo1 := HM.out 0 j (Nat.zero_le _) hj
        have mo2 := HM.out j (j + 1) (Nat.le_succ _) hlt
        have mo3 : P (j + 1) ≤ n := Nat.le_trans (HM.out (j + 1) ln hlt (Nat.le_refl _)) HPn.out
        have hcall := ih l[j] (List.getElem_mem hjl) (A j) (C j) (P j) (P (j + 1)) wr mo2 (by omega) hwin
        unfold pV at hcall
        have HRN : Hid (∀ j', j + 1 ≤ j' → ∀ hj : j' < l.length, Row6 wr bb (j' * 6) l[j'] (A j') (C j') ∧ WIn wr (P j') (P (j' + 1)) l[j'] (A j') (C j')) := fun j' h hj => HR.out j' (by omega) hj
        obtain ⟨x, hx⟩ : ∃ x, l[j] = x := ⟨_, rfl⟩
        rw [hx] at hcall r0 r1 r2 r3 r4 r5
        generalize A j = aj at hcall r0 r1 r2 r3 r4 r5
        generalize C j = cj at hcall r0 r1 r2 r3 r4 r5
        clear HR hwin hx
        go_wp2_with fail
        refine hcall.mono ?_
        rintro _ w2 ⟨rfl, hW2⟩
        have e1 : w2.heap[bb]? = wr.heap[bb]? := hW2.below.block bb (by omega)
        have HBC2 : Hid (Blk w2 bb 29 cur) := e1.trans HBC.out
        have HBX2 : Hid (Blk w2 w.heap.size 29 #[.int .u8 k, .bool y, .bool b, .string m, .string r, .slice (some ⟨bb, 0, none⟩) ln c]) := (hW2.above _ (by omega) (by omega)).trans HBX.out
        have s5 : w2.cell? ⟨w.heap.size, 5, none⟩ = some (.slice (some ⟨bb, 0, none⟩) ln c) := Blk.cell HBX2.out 5
        have q := fun k => cell_of_block e1 k
        have t0 := (q _).trans r0
        have t1 := (q _).trans r1
        have t2 := (q _).trans r2
        have t3 := (q _).trans r3
        have t4 := (q _).trans r4
        have t5 := (q _).trans r5
        have f0 := Blk.frozen HBC2.out (j * 6)
        have f1 := Blk.frozen HBC2.out (j * 6 + 1)
        have f2 := Blk.frozen HBC2.out (j * 6 + 2)
        have f3 := Blk.frozen HBC2.out (j * 6 + 3)
        have f4 := Blk.frozen HBC2.out (j * 6 + 4)
        have f5 := Blk.frozen HBC2.out (j * 6 + 5)
        have HQ : Hid (w2.heap[bb]? = wr.heap[bb]?) := e1
        have HW2 : Hid (Wrt (P j) (P (j + 1)) wr w2) := hW2
        have HWT : Hid (Wrt lo n w w2) := hW.trans (hW2.mono (by omega) mo3)
        have HMO : Hid (P 0 ≤ P j ∧ P j ≤ P (j + 1) ∧ P (j + 1) ≤ n) := ⟨mo1, mo2, mo3⟩
        have HWS : Hid (w.heap.size + 1 ≤ w2.heap.size) := by have := hW2.below.size; show _ ≤ _; omega
        clear hcall r0 r1 r2 r3 r4 r5 p5 q e1 hW2 mo1 mo2 mo3
        go_wp2_with fail
        go_roundw
        case rel =>
          have hmo := HMO.out
          refine ⟨j + 1, _, hlt, by simp, ?_, set6_blk HBC2.out (j * 6) (.int .u8 77) (.bool false) (.bool false) (.string ⟨#[]⟩) (.string ⟨#[119, 114, 105, 116, 116, 101, 110]⟩) (.slice none 0 0), ?_, ?_, ?_, ?_⟩
          · exact (set6_other (by omega)).trans HBX2.out
          · have := HCS.out
            show _ = _
            simp only [Array.size_setIfInBounds]
            exact this
          · refine ⟨set6_below HWT.out.below hbb.1 (j * 6) (.int .u8 77) (.bool false) (.bool false) (.string ⟨#[]⟩) (.string ⟨#[119, 114, 105, 116, 116, 101, 110]⟩) (.slice none 0 0), fun b' q1 q2 => ?_⟩
            exact (set6_other (by omega)).trans (HWT.out.above b' q1 q2)
          · show w.heap.size + 1 ≤ (set6 w2 bb (j * 6) (.int .u8 77) (.bool false) (.bool false) (.string ⟨#[]⟩) (.string ⟨#[119, 114, 105, 116, 116, 101, 110]⟩) (.slice none 0 0)).heap.size
            rw [set6_size]
            exact HWS.out
          · intro j' hj' hjl'
            obtain ⟨hrow', hwin'⟩ := HRN.out j' hj' hjl'
            have hm1 := HM.out (j + 1) j' hj' (by rw [← HLN.out]; omega)
            have hm2 := HM.out (j' + 1) ln (by rw [← HLN.out]; omega) (Nat.le_refl _)
            have hpn := HPn.out
            refine ⟨?_, ?_⟩
            · have qc : ∀ o, o ≤ 5 → (set6 w2 bb (j * 6) (.int .u8 77) (.bool false) (.bool false) (.string ⟨#[]⟩) (.string ⟨#[119, 114, 105, 116, 116, 101, 110]⟩) (.slice none 0 0)).cell? ⟨bb, j' * 6 + o, none⟩ = wr.cell? ⟨bb, j' * 6 + o, none⟩ := fun o ho => by
                rw [Blk.cell (set6_blk HBC2.out (j * 6) (.int .u8 77) (.bool false) (.bool false) (.string ⟨#[]⟩) (.string ⟨#[119, 114, 105, 116, 116, 101, 110]⟩) (.slice none 0 0)), six_out (by omega), ← Blk.cell HBC2.out, cell_of_block HQ.out]
              obtain ⟨z0, z1, z2, z3, z4, z5⟩ := hrow'
              exact ⟨(qc 0 (by omega)).trans z0, (qc 1 (by omega)).trans z1, (qc 2 (by omega)).trans z2, (qc 3 (by omega)).trans z3, (qc 4 (by omega)).trans z4, (qc 5 (by omega)).trans z5⟩
            · refine hwin'.keep fun b' q1 q2 => ?_
              exact (set6_other (by omega)).trans (HW2.out.above b' (by omega) (by omega))
        case measure => simp only [intOf]; omega
      · have tl : decide ((j : Int) < (ln : Int)) = false := decide_eq_false (by omega)
        have tl2 : decide (j < ln) = false := decide_eq_false hlt
        have HOW : Hid (wr.ownsRow bb 29 6 (.slice (some ⟨bb, 0, none⟩) ln c) ln (cur.toList.take (ln * 6))) := own_of_blk HBC.out HCS.out h7' hmx bb (Nat.le_refl _)
        have hbw : bb < n := by have := HM.out 0 ln (Nat.zero_le _) (Nat.le_refl _); have := HPn.out; omega
        have hsz1 : w.heap.size ≤ wr.heap.size := by omega
        clear ih HR
        have hoA := World.ownsRow.alloc HOW.out (.cells #[.int .u8 78, .bool false, .bool false, .string ⟨#[]⟩, .string ⟨#[]⟩, .slice none 0 0] 29)
        have hsA := alloc_size wr (.cells #[.int .u8 78, .bool false, .bool false, .string ⟨#[]⟩, .string ⟨#[]⟩, .slice none 0 0] 29)
        have hnews : ∀ j u, ([.int .u8 78, .bool false, .bool false, .string ⟨#[]⟩, .string ⟨#[]⟩, .slice none 0 0] : List Value)[j]? = some u → (wr.alloc (.cells #[.int .u8 78, .bool false, .bool false, .string ⟨#[]⟩, .string ⟨#[]⟩, .slice none 0 0] 29)).cell? ((⟨wr.heap.size, 0, none⟩ : Addr).add j) = some u := fun j u hu => by
          rw [Go.WideShapes.add_plain, Nat.zero_add, (Blk.new wr 29 #[.int .u8 78, .bool false, .bool false, .string ⟨#[]⟩, .string ⟨#[]⟩, .slice none 0 0]).cell j, ← hu]
          simp
        have hone : ∀ u ∈ ([.int .u8 78, .bool false, .bool false, .string ⟨#[]⟩, .string ⟨#[]⟩, .slice none 0 0] : List Value), u.oneCell' = true := by intro u hu; simp at hu; rcases hu with rfl | rfl | rfl | rfl | rfl | rfl <;> rfl
        have HOA : Hid _ := hoA
        have HNW : Hid _ := hnews
        have HON : Hid _ := hone
        have HBS : Hid (bb ≤ (wr.alloc (.cells #[.int .u8 78, .bool false, .bool false, .string ⟨#[]⟩, .string ⟨#[]⟩, .slice none 0 0] 29)).heap.size) := by show _ ≤ _; rw [hsA]; omega
        clear hoA hnews hone hsA
        go_upto_region 7 with (at_builtin; refine wpList_append_own_at _ rfl (.tmp 23) (.tmp 25) 27 rfl bb 29 i _ 6 72 Tryd.underlying27 hi hz hsz hby rfl (by decide) _ ln _ rfl HOA.out ⟨wr.heap.size, 0, none⟩ 1 1 _ rfl rfl HNW.out HON.out (by unfold maxLen; omega) (by omega) HBS.out ?_; intro v' w' ho' hg' _ hat)
        obtain ⟨g', cap', cv, hv', hc', hf', hfin⟩ := behind_ok hW hsz1 hn hlo hbb.1 (by omega) (fun k hk => by cases hk; exact ⟨hbb.1, hbw⟩) (.cells #[.int .u8 78, .bool false, .bool false, .string ⟨#[]⟩, .string ⟨#[]⟩, .slice none 0 0] 29) ho' hg' hat
        subst hv'
        have HFI : Hid _ := hfin
        clear ho' hg' hat hfin
        go_wp2_with fail
        go_end0
        exact ⟨rfl, HFI.out _⟩
theorem wt_mem {x : Prt} {l : List Prt} (h : x ∈ l) : wt x ≤ wtL l := by
  induction l with
  | nil => cases h
  | cons a r ih =>
    rw [wtL]
    rcases List.mem_cons.1 h with rfl | h
    · omega
    · have := ih h; omega
theorem wt_len (l : List Prt) : l.length * 16 ≤ wtL l := by
  induction l with
  | nil => simp
  | cons a r ih =>
    rw [wtL, List.length_cons]
    have : 16 ≤ wt a := by cases a with | mk k y b m r l => rw [wt]; omega
    omega
theorem wt_items {k : Int} {y b : Bool} {m r : ByteArray} {l : List Prt} : wtL l ≤ wt (.mk k y b m r l) := by rw [wt]; omega
theorem write_any : ∀ (p : Prt), wt p ≤ 536870912 → WriteOk p := by
  intro p
  induction p using Prt.ind with
  | h k y b m r l ih =>
    intro hw
    have h1 := wt_items (k := k) (y := y) (b := b) (m := m) (r := r) (l := l)
    have h2 := wt_len l
    exact write_step k y b m r l (by omega) (fun x hx => ih x hx (by have := wt_mem hx; omega))
end Go.Proofs.YtnjfkijekohdkaaDoor
