/- What dovetaillaw04.marks does (a contract; nothing is claimed here). -/
import Derived.Test.YtpmckfmjegehgaaGreatDoorLawP
import Derived.Test.YtpmckfmjegehgaaGreatDoorMarks2
import Derived.Test.YtpmckfmjegehgaaGreatDoorLent
namespace Go.Proofs.YtpmckfmjegehgaaGreatDoor
open Go.RowKit Go.Vf Go.Maps

theorem row_set {w : World} {base g n c : Nat} {e : TypeId} {size : Nat} {xs : List Value} (h : w.ownsRow base e size (.slice (some ⟨g, 0, none⟩) n c) n xs) (k : Nat) (u : Value) : (w.setCell ⟨g, k, none⟩ u).ownsRow base e size (.slice (some ⟨g, 0, none⟩) n c) n (xs.set k u) := by
  rcases h.2 with ⟨e, _⟩ | ⟨g', cap, cur, e, hb, hg, hn, hm, hs, ht⟩
  · cases e
  · simp only [Value.slice.injEq, Option.some.injEq, Addr.mk.injEq] at e
    obtain ⟨⟨rfl, _, _⟩, _, rfl⟩ := e
    refine ⟨by rw [List.length_set]; exact h.1, .inr ⟨g, c, cur.setIfInBounds k u, by simp, hb, ?_, hn, hm, by simpa using hs, ?_⟩⟩
    · exact (show Blk w g _ cur from hg).set k u
    · rw [Array.toList_setIfInBounds, List.take_set, ht]
theorem own_other {w w' : World} {b1 : Nat} {e1 : TypeId} {s1 k1 : Nat} {v1 : Value} {x1 : List Value} (h1 : w.ownsRow b1 e1 s1 v1 k1 x1) (hk : ∀ g, v1.ownBlock = some g → w'.heap[g]? = w.heap[g]?) : w'.ownsRow b1 e1 s1 v1 k1 x1 := by
  refine ⟨h1.1, h1.2.imp id fun ⟨g, cap, cur, q1, q2, q3, q4⟩ => ⟨g, cap, cur, q1, q2, ?_, q4⟩⟩
  exact (hk g (by rw [q1]; rfl)).trans q3
theorem wpList_append_markX {w : World} {ops : Array Oper} {rest : List Oper} {o : Oper} {a : Act} {Q : Exit → Act → World → Prop} (hgd : o.guard = none) (s x : Operand)
    (ho : o.op = .call { callee := .builtin .append, args := #[s, x], argTypes := #[27, 27] })
    (base : Nat) (v : Value) (n : Nat) (xs : List Value) (hs : a.eval s = v) (hown : w.ownsRow base 36 3 v n xs) (p c : Int) (ua : Option Addr) (uk uc : Nat) (hx : a.eval x = .slice (some ⟨w.heap.size, 0, none⟩) 1 1)
    (hlen : n ≤ 1099511627776) (hbase : base ≤ w.heap.size)
    (h : ∀ a' c' w', w'.ownsRow base 36 3 (.slice a' (n + 1) c') (n + 1) (xs ++ [.int .i64 p, .int .i64 c, .slice ua uk uc]) → (w.alloc (.cells #[.int .i64 p, .int .i64 c, .slice ua uk uc] 36)).grownBy w' v.ownBlock → ((Value.slice a' (n + 1) c').ownBlock = v.ownBlock ∨ (Value.slice a' (n + 1) c').ownBlock = some (w.alloc (.cells #[.int .i64 p, .int .i64 c, .slice ua uk uc] 36)).heap.size) → wpList Tryz.prog ops Q rest (a.put o.dst (.slice a' (n + 1) c')) w') :
    wpList Tryz.prog ops Q (o :: rest) a (w.alloc (.cells #[.int .i64 p, .int .i64 c, .slice ua uk uc] 36)) := by
  obtain ⟨i, hi, hz, hsz, hby⟩ := info_parts info36
  have hb := Blk.new w 36 #[.int .i64 p, .int .i64 c, .slice ua uk uc]
  refine wpList_append_own_at (P := Tryz.prog) _ hgd s x 27 ho base 36 i _ 3 40 Tryz.underlying27 hi hz hsz hby rfl (by decide) v n xs hs (World.ownsRow.alloc hown _) ⟨w.heap.size, 0, none⟩ 1 1 [.int .i64 p, .int .i64 c, .slice ua uk uc] hx (by rfl) ?_ ?_ ?_ ?_ ?_ ?_
  · intro j u hu
    match j, hu with
    | 0, hu => simp at hu; subst hu; exact hb.cell 0
    | 1, hu => simp at hu; subst hu; exact hb.cell 1
    | 2, hu => simp at hu; subst hu; exact hb.cell 2
  · intro u hu; simp at hu; rcases hu with rfl | rfl | rfl <;> rfl
  · unfold maxLen; omega
  · omega
  · simp; omega
  · intro v' w' h1 h2 _ h4
    obtain ⟨a', c', rfl⟩ := row_val h1
    exact h a' c' w' h1 h2 h4

/-- What stays while the first list is written over. -/
structure Stays (B1 B2 B3 : Nat) (w3 wr : World) : Prop where
  os : wr.os = w3.os
  tape : wr.tape = w3.tape
  output : wr.output = w3.output
  size : w3.heap.size ≤ wr.heap.size
  block : ∀ k, k < B3 → (k < B1 ∨ B2 ≤ k) → wr.heap[k]? = w3.heap[k]?
theorem Stays.refl (B1 B2 B3 : Nat) (w : World) : Stays B1 B2 B3 w w := ⟨rfl, rfl, rfl, Nat.le_refl _, fun _ _ _ => rfl⟩
theorem Stays.grown {B1 B2 B3 : Nat} {w3 wr wx : World} {row : Option Nat} (h : Stays B1 B2 B3 w3 wr) (hB : B3 ≤ wr.heap.size) (hg : wr.grownBy wx row) (hr : ∀ g, row = some g → (B1 ≤ g ∧ g < B2) ∨ B3 ≤ g) : Stays B1 B2 B3 w3 wx :=
  ⟨hg.os.trans h.os, hg.tape.trans h.tape, hg.output.trans h.output, Nat.le_trans h.size hg.size, fun k hk hc => (hg.block k (by omega) (fun e => by have := hr k e.symm; omega)).trans (h.block k hk hc)⟩
theorem Stays.alloc {B1 B2 B3 : Nat} {w3 wr : World} (h : Stays B1 B2 B3 w3 wr) (hB : B3 ≤ wr.heap.size) (o : Obj) : Stays B1 B2 B3 w3 (wr.alloc o) := h.grown hB (row := none) (grown_of_below ((Below.refl _ wr).alloc (Nat.le_refl _) o)) (fun g hg => by cases hg)
theorem Stays.set {B1 B2 B3 : Nat} {w3 wr : World} (h : Stays B1 B2 B3 w3 wr) (g k : Nat) (u : Value) (hg : B1 ≤ g ∧ g < B2) : Stays B1 B2 B3 w3 (wr.setCell ⟨g, k, none⟩ u) :=
  ⟨h.os, h.tape, h.output, by simpa [World.setCell] using h.size, fun j hj hc => (Below.heap_setCell _ ⟨g, k, none⟩ _ j (by show j ≠ g; omega)).trans (h.block j hj hc)⟩

set_option maxHeartbeats 4000000 in
set_option maxRecDepth 20000 in
theorem lawMarks_any (l : List PM) (hll : l.length ≤ 4611686018427387904) (hpl : ∀ m ∈ l, m.parts.length ≤ 4611686018427387904) (hl4 : l.length ≤ 4096) (hp5 : ∀ m ∈ l, m.parts.length ≤ 1000000) (bd : Nat) (L : List Mk) (E : Int → List Int) (hLR : marksR L = l) (da : Option Addr) (dn dc n₀ : Nat) (w : World) (hn₀ : n₀ ≤ w.heap.size) (hin : MIn n₀ w (.slice da dn dc) l) (hd : DataAt w bd L E) :
    Calls Tryz.prog 12 #[.pointer (some ⟨bd, 0, none⟩), .agg #[.slice da dn dc]] w fun e w' => e = .returned (.bool true) ∧ Below w.heap.size w w' := by
  have HLR : Hid (marksR L = l) := hLR
  clear hLR
  have hb0 := (Below.refl w.heap.size w).alloc (Nat.le_refl _) (.cells #[.slice da dn dc] 29)
  have hbn := Blk.new w 29 #[.slice da dn dc]
  have hlt0 : w.heap.size < (w.alloc (.cells #[.slice da dn dc] 29)).heap.size := by simp
  go_enter Tryz.func12, Tryz.ntmps12
  go_upto_region 1 with fail
  generalize w.alloc (.cells #[.slice da dn dc] 29) = W at hb0 hbn hlt0 ⊢
  go_wp2_with fail
  refine (marks_any2 bd L E W (hd.below hb0)).mono ?_
  rintro e w1 ⟨a1, k1, c1, ps, rfl, hmo1, hps1, hb1, hap⟩
  rw [HLR.out] at hps1
  have hb01 := hb0.trans (hb1.mono hb0.size)
  go_wp2_with fail
  refine (marks_any bd L E w1 (hd.below hb01)).mono ?_
  rintro e w2 ⟨a2, k2, c2, ps2, rfl, hmo2, hps2, hb2⟩
  rw [HLR.out] at hps2
  have hb02 := hb01.trans (hb2.mono hb01.size)
  have hbox2 := (hbn.below hb1 hbn.lt).below hb2 (Nat.lt_of_lt_of_le hbn.lt hb1.size)
  have f2 : w2.cell? ⟨w.heap.size, 0, none⟩ = some (.slice da dn dc) := hbox2.cell 0
  have hmi1 : MIn w1.heap.size w2 (.slice a1 k1 c1) l := by
    have := hmo1.min.below hb2 (Nat.le_refl _)
    rwa [hps1] at this
  have hin2 := hin.below hb02 hn₀
  go_wp2_with fail
  refine (sameMarks_any _ _ l _ _ w2 hmi1 hin2 hll hpl).mono ?_
  rintro e w3 ⟨rfl, hb3⟩
  have hb03 := hb02.trans (hb3.mono hb02.size)
  have hmo13 : MOwn w3 W.heap.size (.slice a1 k1 c1) ps := (hmo1.after hb2).after hb3
  have hmo23 : MOwn w3 w1.heap.size (.slice a2 k2 c2) ps2 := hmo2.after hb3
  have hbox3 := hbox2.below hb3 hbox2.lt
  have hk1 : k1 = ps.length := by obtain ⟨_, _, e⟩ := row_val hmo13.1; cases e; rfl
  subst hk1
  have hpsl : ps.length ≤ 4096 := by rw [← hps1] at hl4; simpa using hl4
  have HPP : Hid (∀ x ∈ ps, x.1.parts.length ≤ 1000000) := fun x hx => hp5 _ (by rw [← hps1]; exact List.mem_map.2 ⟨x, hx, rfl⟩)
  have hs13 : w1.heap.size ≤ w3.heap.size := Nat.le_trans hb2.size hb3.size
  have hW1 := hb1.size
  have HLT : Hid (∀ x ∈ ps, ∀ g, x.2.ownBlock = some g → W.heap.size ≤ g ∧ g < w1.heap.size) := fun x hx g hg => ⟨(own_ge (hmo1.2 x hx) hg).1, own_lt (hmo1.2 x hx) g hg⟩
  have HRT : Hid (∀ g, (Value.slice a1 ps.length c1).ownBlock = some g → W.heap.size ≤ g ∧ g < w1.heap.size) := fun g hg => ⟨(own_ge hmo1.1 hg).1, own_lt hmo1.1 g hg⟩
  have HAP : Hid (Apart ps) := hap
  clear hmo1 hmo2 hmi1 hin2 hap f2 hbox2 hbn
  go_wp2_with fail
  go_loopw [8] (fun i wr => ∃ (k : Nat) (xs : List Value), k ≤ ps.length ∧ i = .int .i64 k ∧ wr.ownsRow W.heap.size 36 3 (.slice a1 ps.length c1) ps.length xs ∧ Hid (∀ j (h : j < ps.length), k ≤ j → xs[j * 3 + 2]? = some (ps[j]).2) ∧ Hid (∀ j (h : j < ps.length), k ≤ j → IOwn wr W.heap.size (ps[j]).2 (ps[j]).1.parts) ∧ Stays W.heap.size w1.heap.size w3.heap.size w3 wr) (fun i _ => ps.length - (intOf i).toNat)
  case atStart => exact ⟨0, flatM ps, by omega, rfl, hmo13.1, fun j h _ => (flatM_at ps j h).2.2, fun j h _ => hmo13.2 _ (List.getElem_mem h), Stays.refl _ _ _ _⟩
  case round =>
    obtain ⟨k, xs, hk, rfl, hrow, HX, HO, hst⟩ := hrel
    have hszr : w3.heap.size ≤ wr.heap.size := hst.size
    by_cases hlt : k < ps.length
    · obtain ⟨g1, cc, e1, hcap, hg1, hcells⟩ := row_some hrow (by omega)
      cases e1
      have hu := hcells _ _ (HX.out k hlt (Nat.le_refl _))
      have hok := HO.out k hlt (Nat.le_refl _)
      have hpk := HPP.out _ (List.getElem_mem hlt)
      have HAK : Hid (∀ j (h : j < ps.length), k < j → ∀ g, (ps[j]).2.ownBlock = some g → (ps[k]).2.ownBlock ≠ some g) := fun j h hkj g hg he => List.pairwise_iff_getElem.1 HAP.out k j hlt h hkj g he hg
      have HKT := HLT.out _ (List.getElem_mem hlt)
      generalize (ps[k]).1.parts = us at hok hpk
      generalize (ps[k]).2 = u at hu hok HAK HKT
      obtain ⟨ua, uc, rfl⟩ := hok.val
      have hbW : W.heap.size ≤ wr.heap.size := by omega
      have hgR := HRT.out g1 rfl
      go_wp2_with fail
      refine (spoiled_any us hpk _ W.heap.size wr hbW hok).mono ?_
      rintro e w5 ⟨rfl, hg5⟩
      have hrow5 := own_kept_row hrow hok (by decide) hg5
      have hst5 := hst.grown hszr hg5 (fun g hg => .inl (HKT g hg))
      have HO5 : Hid (∀ j (h : j < ps.length), k < j → IOwn w5 W.heap.size (ps[j]).2 (ps[j]).1.parts) := fun j h hkj => own_other (HO.out j h (by omega)) (fun g hg => hg5.block g (own_lt (HO.out j h (by omega)) g hg) (fun e => HAK.out j h hkj g hg e.symm))
      have hrow6 := World.ownsRow.alloc hrow5 (.cells #[.int .i64 (-1)] 3)
      have hst6 := hst5.alloc hst5.size (.cells #[.int .i64 (-1)] 3)
      have HO6 : Hid (∀ j (h : j < ps.length), k < j → IOwn (w5.alloc (.cells #[.int .i64 (-1)] 3)) W.heap.size (ps[j]).2 (ps[j]).1.parts) := fun j h hkj => World.ownsRow.alloc (HO5.out j h hkj) _
      obtain ⟨cur, hblk, hcs⟩ : ∃ cur, Blk (w5.alloc (.cells #[.int .i64 (-1)] 3)) g1 36 cur ∧ ps.length * 3 ≤ cur.size := by
        rcases hrow6.2 with ⟨e, _⟩ | ⟨g', cap', cur, e, _, hg', hn', _, hs', _⟩
        · cases e
        · cases e
          exact ⟨cur, hg', by rw [hs']; omega⟩
      have y0 : (w5.alloc (.cells #[.int .i64 (-1)] 3)).cell? ⟨g1, k * 3, none⟩ = some cur[k * 3] := by rw [hblk.cell]; exact Array.getElem?_eq_getElem (by omega)
      have y1 : (w5.alloc (.cells #[.int .i64 (-1)] 3)).cell? ⟨g1, k * 3 + 1, none⟩ = some cur[k * 3 + 1] := by rw [hblk.cell]; exact Array.getElem?_eq_getElem (by omega)
      have y2 : (w5.alloc (.cells #[.int .i64 (-1)] 3)).cell? ⟨g1, k * 3 + 2, none⟩ = some cur[k * 3 + 2] := by rw [hblk.cell]; exact Array.getElem?_eq_getElem (by omega)
      have z0 := hblk.frozen (k * 3)
      have z1 := hblk.frozen (k * 3 + 1)
      have z2 := hblk.frozen (k * 3 + 2)
      have HXS : Hid (∀ (v0 v1 v2 : Value) j (h : j < ps.length), k + 1 ≤ j → (((xs.set (k * 3) v0).set (k * 3 + 1) v1).set (k * 3 + 2) v2)[j * 3 + 2]? = some (ps[j]).2) := fun v0 v1 v2 j h hkj => by
        rw [List.getElem?_set_ne (by omega), List.getElem?_set_ne (by omega), List.getElem?_set_ne (by omega)]
        exact HX.out j h (by omega)
      have HNB : Hid (∀ j (h : j < ps.length), k < j → ∀ g, (ps[j]).2.ownBlock = some g → g ≠ g1) := fun j h hkj g hg e => by
        subst e
        exact own_ne_blk (HO6.out j h hkj) hblk (by decide) hg.symm
      clear hcells hu hrow5 hst5 HX HO hok HAK HKT HO5
      go_wp2_with fail
      exact ⟨⟨k + 1, _, by omega, by go_num, row_set (row_set (row_set hrow6 (k * 3) _) (k * 3 + 1) _) (k * 3 + 2) _, HXS.out _ _ _, fun j h hkj => own_other (HO6.out j h (by omega)) (fun g hg => (Below.heap_setCell _ ⟨g1, k * 3 + 2, none⟩ _ g (HNB.out j h (by omega) g hg)).trans ((Below.heap_setCell _ ⟨g1, k * 3 + 1, none⟩ _ g (HNB.out j h (by omega) g hg)).trans (Below.heap_setCell _ ⟨g1, k * 3, none⟩ _ g (HNB.out j h (by omega) g hg)))), ((hst6.set g1 _ _ hgR).set g1 _ _ hgR).set g1 _ _ hgR⟩, by simp only [intOf]; omega⟩
    · have hrow0 := hrow
      have hst0 := hst
      clear HX HO
      go_wp2_with fail
      clear hlt hk
      go_loopw [5, 9] (fun x i wr => ∃ (j n : Nat) (oa : Option Addr) (oc : Nat) (xs : List Value), j ≤ 9 ∧ i = .int .i64 j ∧ x = .slice oa n oc ∧ n ≤ 4096 + j ∧ wr.ownsRow W.heap.size 36 3 (.slice oa n oc) n xs ∧ Stays W.heap.size w1.heap.size w3.heap.size w3 wr ∧ Hid (∀ g, (Value.slice oa n oc).ownBlock = some g → (W.heap.size ≤ g ∧ g < w1.heap.size) ∨ w3.heap.size ≤ g)) (fun _ i _ => 9 - (intOf i).toNat)
      case atStart => exact ⟨0, ps.length, a1, c1, xs, by omega, rfl, rfl, by omega, hrow0, hst0, fun g hg => .inl (HRT.out g hg)⟩
      case round =>
        obtain ⟨j, n, oa, oc, ys, hj, rfl, rfl, hn, hrow, hst, HG⟩ := hrel
        have hszr : w3.heap.size ≤ wr.heap.size := hst.size
        by_cases hlt : j < 9
        · have hn' : n ≤ 1099511627776 := by omega
          have hbW : W.heap.size ≤ wr.heap.size := by omega
          go_wp2_with (first | (at_builtin; refine wpList_append_markX rfl _ _ rfl W.heap.size _ n ys rfl hrow (-2) 0 none 0 0 rfl hn' hbW ?_; intro a5 c5 w5 hrow5 hgr5 hat5))
          have hst5 := (hst.alloc hszr (.cells #[.int .i64 (-2), .int .i64 0, .slice none 0 0] 36)).grown (by simp; omega) hgr5 (fun g hg => HG.out g hg)
          have HG5 : Hid (∀ g, (Value.slice a5 (n + 1) c5).ownBlock = some g → (W.heap.size ≤ g ∧ g < w1.heap.size) ∨ w3.heap.size ≤ g) := fun g hg => by
            rcases hat5 with e | e
            · exact HG.out g (e.symm.trans hg)
            · rw [e] at hg
              simp at hg
              omega
          clear hat5
          go_roundw
          case rel => exact ⟨j + 1, n + 1, a5, c5, _, by omega, by go_num, rfl, by omega, hrow5, hst5, HG5⟩
          case measure => simp only [intOf]; omega
        · obtain rfl : j = 9 := by omega
          have hbwr : Below w.heap.size w wr := ⟨hst.os.trans hb03.os, hst.tape.trans hb03.tape, hst.output.trans hb03.output, Nat.le_trans hb03.size hst.size, fun k hk => (hst.block k (Nat.lt_of_lt_of_le hk hb03.size) (.inl (by omega))).trans (hb03.block k hk)⟩
          have hbox5 : Blk wr w.heap.size 29 #[.slice da dn dc] := (hst.block w.heap.size hbox3.lt (.inl hlt0)).trans hbox3
          have f5 : wr.drew.cell? ⟨w.heap.size, 0, none⟩ = some (.slice da dn dc) := hbox5.cell 0
          have hB5 : w.heap.size < wr.heap.size := hbox5.lt
          have hmo2r : MOwn wr w1.heap.size (.slice a2 k2 c2) ps2 := ⟨own_other hmo23.1 (fun g hg => hst.block g (own_lt hmo23.1 g hg) (.inr (own_ge hmo23.1 hg).1)), fun x hx => own_other (hmo23.2 x hx) (fun g hg => hst.block g (own_lt (hmo23.2 x hx) g hg) (.inr (own_ge (hmo23.2 x hx) hg).1))⟩
          have hmi2 := hmo2r.min
          rw [hps2] at hmi2
          have IT : Hid (∀ x, Below wr.heap.size wr x → MIn wr.heap.size x (.slice a2 k2 c2) l) := fun x hx => hmi2.below hx (Nat.le_refl _)
          have IX : Hid (∀ x, Below wr.heap.size wr x → MIn n₀ x (.slice da dn dc) l) := fun x hx => hin.below (hbwr.trans (hx.mono hbwr.size)) hn₀
          have HDM : Hid (∀ x, Below wr.heap.size wr x → Calls Tryz.prog 19 #[.pointer (some ⟨bd, 0, none⟩)] x fun e w' => ∃ a k cap ps, e = .returned (.slice a k cap) ∧ MOwn w' x.heap.size (.slice a k cap) ps ∧ ps.map Prod.fst = marksR L ∧ Below x.heap.size x w') := fun x hx => marks_any bd L E x (hd.below (hbwr.trans (hx.mono hbwr.size)))
          clear hmo2r hmi2 hbox5 hrow hst HG hmo13 hmo23 hrow0 hst0
          go_upto_region 13 with fail
          refine wp_region_held_drew (S := fun x => x.cell? ⟨w.heap.size, 0, none⟩ = some (.slice da dn dc) ∧ Below wr.heap.size wr x) (by kernel_rfl) ⟨f5, (Below.refl _ _).drew⟩ (fun hH0 => ?_)
          refine wpAnyH_takeD (i := 0) (some 43) (v := ?v0) rfl rfl (by kernel_rfl) (by kernel_rfl) (by kernel_rfl) (fun _ _ _ h => h) (Or.inl ⟨by kernel_rfl, ?hy0⟩) (by assumption) ?rest0
          case hy0 => (intro w hSw; (try dsimp only at hSw); go_simp; first | done | with_reducible rfl)
          try simp only [Act.put, List.setIfInBounds_toArray, List.set_cons_zero, List.set_cons_succ]
          refine wpAnyH_takeD (i := 1) (some 44) (v := ?v1) rfl rfl (by kernel_rfl) (by kernel_rfl) (by kernel_rfl) (fun _ _ _ h => h) (Or.inl ⟨by kernel_rfl, ?hy1⟩) (by assumption) ?rest1
          case hy1 => (intro w hSw; (try dsimp only at hSw); go_simp; first | done | with_reducible rfl)
          try simp only [Act.put, List.setIfInBounds_toArray, List.set_cons_zero, List.set_cons_succ]
          refine wpAnyH_takeD (i := 2) (some 45) (v := ?v2) rfl rfl (by kernel_rfl) (by kernel_rfl) (by kernel_rfl) (fun _ _ _ h => h) (Or.inl ⟨by kernel_rfl, ?hy2⟩) (by assumption) ?rest2
          case hy2 => (intro w hSw; (try dsimp only at hSw); go_simp; first | done | with_reducible rfl)
          try simp only [Act.put, List.setIfInBounds_toArray, List.set_cons_zero, List.set_cons_succ]
          refine wpAnyH_takeD (i := 3) (some 46) (v := ?v3) rfl rfl (by kernel_rfl) (by kernel_rfl) (by kernel_rfl) (fun _ _ _ h => h) (Or.inl ⟨by kernel_rfl, ?hy3⟩) (by assumption) ?rest3
          case hy3 => (intro w hSw; (try dsimp only at hSw); go_simp; first | done | with_reducible rfl)
          try simp only [Act.put, List.setIfInBounds_toArray, List.set_cons_zero, List.set_cons_succ]
          refine wpAnyH_takeD (i := 4) (some 47) (v := ?v4) rfl rfl (by kernel_rfl) (by kernel_rfl) (by kernel_rfl) (fun _ _ _ h => h) (Or.inl ⟨by kernel_rfl, ?hy4⟩) (by assumption) ?rest4
          case hy4 => (intro w hSw; (try dsimp only at hSw); go_simp; first | done | with_reducible rfl)
          try simp only [Act.put, List.setIfInBounds_toArray, List.set_cons_zero, List.set_cons_succ]
          refine wpAnyH_ready (rs := [5]) (by kernel_rfl) (by simp) ?_
          refine AllReadyH.cons rfl (fun K hK => ?_) AllReadyH.nil
          go_simp
          go_wp2_with (go_at_call 20; refine (sameMarks_any _ _ l _ _ _ (IT.out _ hH0.2) (IX.out _ hH0.2) hll hpl).mono ?_; rintro e w6 ⟨rfl, hb6⟩)
          refine hK.out _ _ ⟨((hb6).cell (p := ⟨w.heap.size, 0, none⟩) (Nat.lt_of_lt_of_le hB5 hH0.2.size)).trans hH0.1, hH0.2.trans (hb6.mono hH0.2.size)⟩ (fun hH5 => ?_)
          clear hK K
          refine wpAnyH_takeD (i := 6) (some 49) (v := ?v6) rfl rfl (by kernel_rfl) (by kernel_rfl) (by kernel_rfl) (fun _ _ _ h => h) (Or.inl ⟨by kernel_rfl, ?hy6⟩) (by assumption) ?rest6
          case hy6 => (intro w hSw; (try dsimp only at hSw); go_simp; first | done | with_reducible rfl)
          try simp only [Act.put, List.setIfInBounds_toArray, List.set_cons_zero, List.set_cons_succ]
          refine wpAnyH_takeD (i := 7) (some 50) (v := ?v7) rfl rfl (by kernel_rfl) (by kernel_rfl) (by kernel_rfl) (fun _ _ _ h => h) (Or.inl ⟨by kernel_rfl, ?hy7⟩) (by assumption) ?rest7
          case hy7 => (intro w hSw; (try dsimp only at hSw); go_simp; first | done | with_reducible rfl)
          try simp only [Act.put, List.setIfInBounds_toArray, List.set_cons_zero, List.set_cons_succ]
          refine wpAnyH_takeD (i := 8) (some 51) (v := ?v8) rfl rfl (by kernel_rfl) (by kernel_rfl) (by kernel_rfl) (fun _ _ _ h => h) (Or.inl ⟨by kernel_rfl, ?hy8⟩) (by assumption) ?rest8
          case hy8 => (intro w hSw; (try dsimp only at hSw); go_simp; first | done | with_reducible rfl)
          try simp only [Act.put, List.setIfInBounds_toArray, List.set_cons_zero, List.set_cons_succ]
          refine wpAnyH_takeD (i := 10) (some 53) (v := ?v10) rfl rfl (by kernel_rfl) (by kernel_rfl) (by kernel_rfl) (fun _ _ _ h => h) (Or.inl ⟨by kernel_rfl, ?hy10⟩) (by assumption) ?rest10
          case hy10 => (intro w hSw; (try dsimp only at hSw); go_simp; first | done | with_reducible rfl)
          try simp only [Act.put, List.setIfInBounds_toArray, List.set_cons_zero, List.set_cons_succ]
          refine wpAnyH_takeD (i := 11) (some 54) (v := ?v11) rfl rfl (by kernel_rfl) (by kernel_rfl) (by kernel_rfl) (fun _ _ _ h => h) (Or.inl ⟨by kernel_rfl, ?hy11⟩) (by assumption) ?rest11
          case hy11 => (intro w hSw; (try dsimp only at hSw); go_simp; first | done | with_reducible rfl)
          try simp only [Act.put, List.setIfInBounds_toArray, List.set_cons_zero, List.set_cons_succ]
          refine wpAnyH_ready (rs := [9]) (by kernel_rfl) (by simp) ?_
          refine AllReadyH.cons rfl (fun K hK => ?_) AllReadyH.nil
          go_simp
          go_wp2_with (go_at_call 19; refine (HDM.out _ hH5.2).mono ?_; rintro e w7 ⟨a7, k7, c7, ps7, rfl, hmo7, hps7, hb7⟩; have hmi7 := hmo7.min; rw [hps7, HLR.out] at hmi7)
          refine hK.out _ _ ⟨((hb7).cell (p := ⟨w.heap.size, 0, none⟩) (Nat.lt_of_lt_of_le hB5 hH5.2.size)).trans hH5.1, hH5.2.trans (hb7.mono hH5.2.size)⟩ (fun hH9 => ?_)
          clear hK K
          refine wpAnyH_ready (rs := [12]) (by kernel_rfl) (by simp) ?_
          refine AllReadyH.cons rfl (fun K hK => ?_) AllReadyH.nil
          go_simp
          go_wp2_with (go_at_call 20; refine (sameMarks_any _ _ l _ _ _ hmi7 (IX.out _ hH9.2) hll hpl).mono ?_; rintro e w8 ⟨rfl, hb8⟩)
          refine hK.out _ _ ⟨((hb8).cell (p := ⟨w.heap.size, 0, none⟩) (Nat.lt_of_lt_of_le hB5 hH9.2.size)).trans hH9.1, hH9.2.trans (hb8.mono hH9.2.size)⟩ (fun hH12 => ?_)
          clear hK K
          refine wpAnyH_takeD (i := 13) (some 56) (v := ?v13) rfl rfl (by kernel_rfl) (by kernel_rfl) (by kernel_rfl) (fun _ _ _ h => h) (Or.inl ⟨by kernel_rfl, ?hy13⟩) (by assumption) ?rest13
          case hy13 => (intro w hSw; (try dsimp only at hSw); go_simp; first | done | with_reducible rfl)
          try simp only [Act.put, List.setIfInBounds_toArray, List.set_cons_zero, List.set_cons_succ]
          refine wpAnyH_takeD (i := 14) (some 4) (v := ?v14) rfl rfl (by kernel_rfl) (by kernel_rfl) (by kernel_rfl) (fun _ _ _ h => h) (Or.inl ⟨by kernel_rfl, ?hy14⟩) (by assumption) ?rest14
          case hy14 => (intro w hSw; (try dsimp only at hSw); go_simp; first | done | with_reducible rfl)
          try simp only [Act.put, List.setIfInBounds_toArray, List.set_cons_zero, List.set_cons_succ]
          refine wpAnyH_done (by kernel_rfl) ?_ _
          go_wp2_with fail
          go_ret
          exact ⟨rfl, hbwr.trans (hH12.2.mono hbwr.size)⟩


end Go.Proofs.YtpmckfmjegehgaaGreatDoor
