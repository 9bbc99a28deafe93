/- Contracts and lemmas (nothing is claimed here). -/
import Derived.Test.YtcbjnifoojjipaaGreatDoorJ22
import Derived.Lib.ItoaLen
import Derived.Test.YtcbjnifoojjipaaGreatDoorJ24
import Derived.Test.YtcbjnifoojjipaaGreatDoorJ11
import Derived.Test.YtcbjnifoojjipaaGreatDoorJ6
import Derived.Test.YtcbjnifoojjipaaGreatDoorJ7
import Derived.Test.YtcbjnifoojjipaaGreatDoorJ26
import Derived.Deep.RegionHeld
namespace Go.Proofs.YtcbjnifoojjipaaGreatDoor
open Go.RowKit Go.Vf
theorem maySay_good {o : Go.Vf.Own} {n : Nat} (h : maySayO (bndQ o) o n = true) : 1 ≤ o.kind ∧ o.kind ≤ 7 ∧ 0 ≤ o.nulls + 2 - o.nulls ∧ (o.bnd = true → o.kind = 2 ∧ bndQ o = true) ∧ (o.kind = 7 ∨ n = 0) := by
  unfold maySayO at h
  simp only [Bool.and_eq_true, decide_eq_true_eq] at h
  obtain ⟨⟨⟨⟨⟨⟨h1, h2⟩, h3⟩, h4⟩, h5⟩, h6⟩, h7⟩ := h
  refine ⟨h1, h2, by omega, ?_, by simpa using h7⟩
  intro hb
  by_cases hk : o.kind = 2
  · rw [if_pos hk, if_pos hb] at h4; exact ⟨hk, h4⟩
  · rw [if_neg hk, hb] at h4; simp at h4
theorem bndQ_chk {o : Go.Vf.Own} (h : bndQ o = true) : chk o.ln o.lm.data.toList = 0 ∧ chk o.hn o.hm.data.toList = 0 ∧ cmpN o.ln o.lm.data.toList o.hn o.hm.data.toList ≤ 0 := by
  unfold bndQ at h
  simp only [Bool.and_eq_true, decide_eq_true_eq] at h
  exact ⟨h.1.1, h.1.2, h.2⟩
theorem seeF_may {Q : Go.Vf.Own → Bool} {n c : Nat} {ah : List Fld} {f : Fld} (h : seeF Q n c ah f = 0) : c ≤ 64 ∧ n ≤ 16 ∧ isNameS f.own.name = true ∧ maySayO (Q f.own) f.own f.fields.length = true ∧ ¬(f.own.kind = 7 ∧ f.fields = []) := by
  unfold seeF at h
  split at h; · cases h
  split at h; · cases h
  split at h; · cases h
  split at h; · cases h
  split at h; · cases h
  split at h; · cases h
  rename_i h1 h2 h3 _ h5 h6
  exact ⟨by omega, by omega, by simpa using h3, by simpa using h5, h6⟩
theorem tour_bad {Q : Go.Vf.Own → Bool} : ∀ (k : Nat) (l : List Fld), SizeOf.sizeOf l ≤ k → ∀ (P : List Int) (ah : List Fld) (n : Nat) (c : Int) (p : List Int) (m : Nat), tourL Q P ah n l = .bad c p m → c ≠ 0 := by
  intro k
  induction k with
  | zero => intro l hk; cases l <;> simp at hk
  | succ k ih =>
    intro l hk P ah n c p m h
    cases l with
    | nil => rw [tourL_nil] at h; cases h
    | cons f r =>
      obtain ⟨o, g⟩ := f
      have s1 : SizeOf.sizeOf g ≤ k := by simp at hk; omega
      have s2 : SizeOf.sizeOf r ≤ k := by simp at hk; omega
      by_cases he : seeF Q (P.length + 1) (n + 1) ah (.mk o g) = 0
      · cases hb : tourL Q (P ++ [(ah.length : Int)]) [] (n + 1) g with
        | bad c' p' q => rw [tourL_in Q P ah n (.mk o g) r he hb] at h; cases h; exact ih g s1 _ _ _ _ _ _ hb
        | ok q => rw [tourL_on Q P ah n (.mk o g) r he hb] at h; exact ih r s2 _ _ _ _ _ _ h
      · rw [tourL_bad Q P ah n (.mk o g) r he] at h; cases h; exact he
theorem chkS_tour {Q : Go.Vf.Own → Bool} {limit : Int} {l : List Fld} (h : (chkS Q limit l).1 = 0) : ∃ m, tourL Q [] [] 0 l = .ok m := by
  unfold chkS at h
  split at h; · cases h
  split at h; · cases h
  cases ht : tourL Q [] [] 0 l with
  | ok m => exact ⟨m, rfl⟩
  | bad c p n => rw [ht] at h; exact absurd h (tour_bad _ l (Nat.le_refl _) _ _ _ _ _ _ ht)
inductive GodF : Fld → Prop where
  | mk {f : Fld} : isNameS f.own.name = true → maySayO (bndQ f.own) f.own f.fields.length = true → (∀ x ∈ f.fields, GodF x) → GodF f
theorem GodF.ok : ∀ {f : Fld}, GodF f → OkP f := by
  intro f
  induction f using Fld.ind with
  | h o l ih =>
    intro h
    cases h with
    | mk h1 h2 h3 => exact .mk (maySay_good h2).1 (maySay_good h2).2.1 fun x hx => ih x hx (h3 x hx)
theorem nat_len {b : Bool} {m : List UInt8} (h : chk b m = 0) : (natS b m).length ≤ 766 := by
  have h1 := decD_bound (chk_zero h).1
  rw [natS, if_pos h, printL]
  split
  · simp
  · split
    · simp; omega
    · simp; omega
theorem word_len (k : Nat) : (wordK k).length ≤ 5 := by
  unfold wordK
  split; · simp
  split; · simp
  split; · simp
  split; · simp
  split; · simp
  split; · simp
  simp
theorem sp_len (b : Bool) (l : List UInt8) : (spIf b l).length ≤ l.length + 1 := by
  cases b
  · simp [spIf]
  · simp [spIf]
theorem name_len {s : ByteArray} (h : isNameS s = true) : s.data.toList.length ≤ 16 := by
  unfold isNameS at h
  cases hs : s.data.toList with
  | nil => simp
  | cons c r => rw [hs] at h; simp only [isNameL, Bool.and_eq_true, decide_eq_true_eq] at h; exact h.1.1
theorem maySay_num {o : Go.Vf.Own} {n : Nat} (h : maySayO (bndQ o) o n = true) : 0 ≤ o.most ∧ o.most ≤ 65536 ∧ 0 ≤ o.str ∧ o.str ≤ 4 := by
  unfold maySayO at h
  simp only [Bool.and_eq_true, decide_eq_true_eq] at h
  obtain ⟨⟨⟨⟨⟨⟨h1, h2⟩, h3⟩, h4⟩, h5⟩, h6⟩, h7⟩ := h
  have a : 0 ≤ o.most ∧ o.most ≤ 65536 := by
    split at h5
    · simp only [Bool.and_eq_true, decide_eq_true_eq] at h5; exact h5
    · have := eq_of_beq h5; omega
  have b : 0 ≤ o.str ∧ o.str ≤ 4 := by
    split at h6
    · simp only [Bool.and_eq_true, decide_eq_true_eq] at h6; omega
    · simp only [Bool.and_eq_true, beq_iff_eq] at h6; omega
  exact ⟨a.1, a.2, b.1, b.2⟩
theorem told_len {o : Go.Vf.Own} {n : Nat} (hn : isNameS o.name = true) (h : maySayO (bndQ o) o n = true) : (toldF o).length ≤ 1800 := by
  obtain ⟨a1, a2, b1, b2⟩ := maySay_num h
  have i1 := Lib.itoa_length_le o.most (by omega) (by omega)
  have i2 := Lib.itoa_length_le o.str (by omega) (by omega)
  have hk : (toldK o).length ≤ 1650 := by
    unfold toldK
    split
    · rename_i hk
      split
      · rename_i hb
        have hq := ((maySay_good h).2.2.2.1 hb).2
        have q1 := nat_len (bndQ_chk hq).1
        have q2 := nat_len (bndQ_chk hq).2.1
        simp only [List.length_append, List.length_cons, List.length_nil]; omega
      · simp
    split
    · simp only [List.length_append, List.length_cons, List.length_nil]; omega
    split
    · have s1 := sp_len o.shf [115, 104, 105, 102, 116, 101, 100]
      have s2 := sp_len o.bck [98, 97, 99, 107]
      simp only [List.length_append, List.length_cons, List.length_nil] at s1 s2 ⊢; omega
    · simp
  have h1 := name_len hn
  have h2 := word_len o.kind.toNat
  have h3 := sp_len o.down [100, 111, 119, 110]
  have h4 := sp_len (o.nulls == 1) [110, 117, 108, 108, 45, 102, 105, 114, 115, 116]
  have h5 := sp_len (o.nulls == 2) [110, 117, 108, 108, 45, 108, 97, 115, 116]
  unfold toldF
  simp only [List.length_append, List.length_cons, List.length_nil] at h3 h4 h5 ⊢
  omega
theorem tour_god : ∀ (k : Nat) (l : List Fld), SizeOf.sizeOf l ≤ k → ∀ (P : List Int) (ah : List Fld) (n m : Nat), tourL bndQ P ah n l = .ok m → ∀ ahead : List UInt8, ahead.length ≤ 2 * P.length → (fieldsL l ahead).length + 2000 * n ≤ 2000 * m ∧ ∀ x ∈ l, GodF x := by
  intro k
  induction k with
  | zero => intro l hk; cases l <;> simp at hk
  | succ k ih =>
    intro l hk P ah n m h ahead hah
    cases l with
    | nil => rw [tourL_nil] at h; cases h; exact ⟨by simp [fieldsL], fun x hx => by cases hx⟩
    | cons f r =>
      obtain ⟨o, g⟩ := f
      have s1 : SizeOf.sizeOf g ≤ k := by simp at hk; omega
      have s2 : SizeOf.sizeOf r ≤ k := by simp at hk; omega
      by_cases he : seeF bndQ (P.length + 1) (n + 1) ah (.mk o g) = 0
      · cases hb : tourL bndQ (P ++ [(ah.length : Int)]) [] (n + 1) g with
        | bad c p q => rw [tourL_in bndQ P ah n (.mk o g) r he hb] at h; cases h
        | ok q =>
          rw [tourL_on bndQ P ah n (.mk o g) r he hb] at h
          obtain ⟨e1, e2, e3, e4, _⟩ := seeF_may he
          obtain ⟨a1, a2⟩ := ih g s1 _ _ _ _ hb (ahead ++ [32, 32]) (by simp; omega)
          obtain ⟨b1, b2⟩ := ih r s2 _ _ _ _ h ahead hah
          have ht := told_len e3 e4
          refine ⟨?_, fun x hx => ?_⟩
          · rw [fieldsL, fieldL_eq]
            have hx : (if (Fld.mk o g).own.kind = 7 then fieldsL (Fld.mk o g).fields (ahead ++ [32, 32]) ++ (ahead ++ [101, 110, 100] ++ [10]) else []).length ≤ (fieldsL g (ahead ++ [32, 32])).length + ahead.length + 4 := by
              split
              · simp only [List.length_append, List.length_cons, List.length_nil, Fld.fields]; omega
              · simp
            simp only [List.length_append, List.length_cons, List.length_nil] at hx ht ⊢
            omega
          · rcases List.mem_cons.1 hx with rfl | hx
            · exact .mk e3 e4 a2
            · exact b2 x hx
      · rw [tourL_bad bndQ P ah n (.mk o g) r he] at h; cases h
theorem chkS_god {limit : Int} {l : List Fld} (h : (chkS bndQ limit l).1 = 0) : (∀ x ∈ l, GodF x) ∧ 1 ≤ limit ∧ limit ≤ 65536 ∧ (prnS limit l).length ≤ 400000 := by
  obtain ⟨m, hm⟩ := chkS_tour h
  have hlim : 1 ≤ limit ∧ limit ≤ 65536 := by
    unfold chkS at h
    split at h; · cases h
    omega
  have h64 := tourL_le bndQ _ l (Nat.le_refl _) _ _ _ _ (by omega) hm
  obtain ⟨a1, a2⟩ := tour_god _ l (Nat.le_refl _) [] [] 0 m hm [] (by simp)
  have i1 := Lib.itoa_length_le limit (by omega) (by omega)
  refine ⟨a2, hlim.1, hlim.2, ?_⟩
  unfold prnS
  simp only [List.length_append, List.length_cons, List.length_nil]
  omega
theorem chkS_good {limit : Int} {l : List Fld} (h : (chkS bndQ limit l).1 = 0) : (∀ x ∈ l, OkP x) ∧ (prnS limit l).length ≤ 400000 := by
  obtain ⟨a, _, _, b⟩ := chkS_god h
  exact ⟨fun x hx => (a x hx).ok, b⟩
theorem rev_take (l : List UInt8) (j k : Nat) (h : j + k + 1 = l.length) : l.reverse.take (k + 1) = l.reverse.take k ++ [l[j]'(by omega)] := by
  rw [List.take_succ_eq_append_getElem (by rw [List.length_reverse]; omega), List.getElem_reverse]
  congr 3
  omega
set_option maxHeartbeats 8000000 in
set_option maxRecDepth 20000 in
theorem rprint_true (m : ByteArray) (hm : m.size ≤ 255) (M : Nat) (HV : Hid (hvl m.data.toList = M)) (hpos : M ≠ 0) (hhead : m.data.toList.head? ≠ some 0) (hdb : (decD M).length ≤ 765) (h0 : 0 < m.size) (HC : Hid (chk true m.data.toList = 0)) (w : World) :
  Calls Tryz.prog 91 #[numV true m] w fun e w' => e = .returned (.tuple #[.string (bs ([45] ++ (decD M).reverse)), .int .i64 0]) ∧ Below w.heap.size w w' := by
 have hl : m.data.toList.length = m.size := (Lib.size_eq m).symm
 have hm0 : ((m.size : Int) == 0) = false := by simp only [beq_eq_false_iff_ne, ne_eq]; omega
 go_enter Tryz.func91, Tryz.ntmps91
 go_wp2_with fail
 refine (rcheck_any true m (by omega) _).mono ?_
 rintro e w1 ⟨rfl, hb1⟩
 obtain ⟨hc0, hc1, hc2⟩ := box_num hb1 (h := w.heap.size) (v0 := .bool true) (v1 := .string m) ⟨by simp, by simp, by simp⟩
 rw [HC.out]
 clear HC
 obtain ⟨cap0, wc, hcv, hcap, hrow0, hbel0, hsz0⟩ := run_bytes_ex (P := Tryz.prog) w1 9 130 5 m Tryz.underlying9 Tryz.underlying130 Tryz.underlying5
 go_wp2
 clear hcv
 go_loopw [5, 6] (fun x v wr => ∃ (off n cap : Nat) (pre l acc : List UInt8), x = .slice (some ⟨w1.heap.size, off, none⟩) n cap ∧ l.length = n ∧ n ≤ cap ∧ off + n ≤ 255 ∧ (0 < n → pre.length = off ∧ BRow wr w1.heap.size (pre ++ l)) ∧ Hid (l.head? ≠ some 0) ∧ BOwn 5 wr (w1.heap.size + 1) v acc ∧ Hid (acc ++ decD (hvl l) = decD M) ∧ Below w1.heap.size w1 wr ∧ w1.heap.size + 1 ≤ wr.heap.size) (fun _ v _ => (decD M).length - sliceN v)
 case atStart => exact ⟨0, m.size, cap0, [], m.data.toList, [], rfl, hl, hcap, by omega, fun _ => ⟨rfl, hrow0⟩, hhead, BOwn.nil _ _ _, by show _ = _; rw [HV.out]; rfl, hbel0, by omega⟩
 case round =>
  obtain ⟨off, n, cap, pre, l, acc, rfl, hln, hncap, hoff, hrow, Hhd, hown, HT, hbel, hsz⟩ := hrel
  have c0 := (hbel.cell (p := ⟨w.heap.size, 0, none⟩) hc2).trans hc0
  have hacl : acc.length ≤ (decD M).length := by rw [← HT.out, List.length_append]; omega
  by_cases hn : ¬ 0 < n
  ·
   obtain rfl : l = [] := List.eq_nil_of_length_eq_zero (by omega)
   have ht : acc = decD M := by have := HT.out; rwa [show hvl [] = 0 from rfl, decD_zero, List.append_nil] at this
   clear HT hrow Hhd
   subst ht
   rcases hown.form with ⟨_, h0⟩ | ⟨gb, capb, rfl, hgb1, hcb1, hcb2, hrb⟩
   ·
    exact absurd (decD_nil.1 h0) hpos
   have hgb : gb < wr.heap.size := (World.ownsRow.lt hown gb rfl).2
   obtain ⟨V, rfl⟩ : ∃ V, V = wr := ⟨_, rfl⟩
   go_wp2_with (at_builtin; refine wpList_append_byte rfl (.tmp 68) (.tmp 69) 130 rfl 5 Tryz.underlying130 info5 V.heap.size _ _ rfl (BOwn.nil 5 V V.heap.size) 45 _ rfl 1 rfl (by simp) (Nat.le_refl _) V.heap.size V (Below.refl _ _) (Nat.le_refl _) ?_; intro vA wA hoA hbA hsA)
   go_loopw [10, 11] (fun v i wr' => ∃ k : Nat, k ≤ (decD M).length ∧ i = .int .i64 (((decD M).length : Int) - 1 - (k : Int)) ∧ BOwn 5 wr' V.heap.size v ([45] ++ (decD M).reverse.take k) ∧ Below V.heap.size V wr' ∧ V.heap.size ≤ wr'.heap.size) (fun _ i _ => (intOf i + 1).toNat)
   case atStart => exact ⟨0, Nat.zero_le _, by go_num, by simpa using hoA, hbA, hsA⟩
   case round =>
    obtain ⟨k, hk, rfl, hown2, hbel2, hsz2⟩ := hrel
    by_cases hlt : k < (decD M).length
    ·
     obtain ⟨j, hj⟩ : ∃ j, j + k + 1 = (decD M).length := ⟨(decD M).length - 1 - k, by omega⟩
     have ej : (((decD M).length : Int) - 1 - (k : Int)) = (j : Int) := by omega
     obtain ⟨y, hy⟩ : ∃ y, (decD M)[j]'(by omega) = y := ⟨_, rfl⟩
     have hcell := (brow_below hrb hbel2 hgb).cell j (by omega)
     rw [hy] at hcell
     have HRV : Hid ([45] ++ (decD M).reverse.take (k + 1) = ([45] ++ (decD M).reverse.take k) ++ [y]) := by
      show _ = _
      rw [rev_take (decD M) j k hj, hy, List.append_assoc]
     have hlen2 : ([45] ++ (decD M).reverse.take k).length ≤ 1099511627776 := by
      rw [List.length_append, List.length_take, List.length_reverse]; simp; omega
     have hjl : j < (decD M).length := by omega
     rw [ej]
     clear ej
     go_wp2_with (at_builtin; refine wpList_append_byte rfl (.tmp 78) (.tmp 83) 130 rfl 5 Tryz.underlying130 info5 V.heap.size _ _ rfl hown2 y _ rfl 1 rfl hlen2 hsz2 V.heap.size V hbel2 (Nat.le_refl _) ?_; intro v' w3 hown3 hbel3 hsz3)
     go_roundw
     case rel => exact ⟨k + 1, by omega, by go_num, by rw [HRV.out]; exact hown3, hbel3, hsz3⟩
     case measure => simp only [intOf]; omega
    ·
     obtain rfl : k = (decD M).length := by omega
     rw [List.take_of_length_le (by rw [List.length_reverse]; exact Nat.le_refl _)] at hown2
     have ei : (((decD M).length : Int) - 1 - ((decD M).length : Int)) = -1 := by omega
     rw [ei]
     have hcv := run_string_own (P := Tryz.prog) wr 130 9 5 Tryz.underlying130 Tryz.underlying5 Tryz.underlying9 _ _ _ hown2
     go_wp2
     go_ret2
     exact ⟨rfl, below_next (below_box hb1) (hbel.trans (hbel2.mono (by omega)))⟩
  ·
   obtain ⟨hpo, hrow⟩ := hrow (by omega)
   have hlpos : hvl l ≠ 0 := hvl_pos Hhd.out (fun h => by rw [h] at hln; simp at hln; omega)
   obtain ⟨hv1, hv2⟩ := divL_val (show 0 < 10 by decide) l 0 (by decide)
   have hqn := divL_length 10 l 0
   obtain ⟨⟨q, C⟩, hqC⟩ : ∃ z, divL 10 0 l = z := ⟨_, rfl⟩
   rw [hqC] at hv1 hv2 hqn
   simp only at hv1 hv2 hqn
   rw [Nat.zero_mul, Nat.zero_add] at hv1
   have HT1 : Hid ((acc ++ [UInt8.ofNat (48 + C)]) ++ decD (hvl q) = decD M) := by
    show _ = _
    rw [← HT.out, decD_pos hlpos, show hvl l % 10 = C by omega, show hvl l / 10 = hvl q by omega]
    simp
   have hacl1 : acc.length < (decD M).length := by
    have := congrArg List.length HT1.out
    rw [List.length_append, List.length_append, List.length_singleton] at this
    omega
   have hsN : sliceN u6 = acc.length := by
    rcases hown.form with ⟨rfl, h0⟩ | ⟨gb, capb, rfl, _⟩
    ·
     rw [h0]; rfl
    ·
     rfl
   clear HT hv1
   obtain ⟨V, rfl⟩ : ∃ V, V = wr := ⟨_, rfl⟩
   go_wp2
   go_loopw [7, 8] (fun x i wr' => ∃ k c : Nat, k ≤ n ∧ i = .int .i64 k ∧ x = .int .i64 c ∧ c < 10 ∧ Hid (divL 10 c (l.drop k) = (q.drop k, C)) ∧ BRow wr' w1.heap.size (pre ++ (q.take k ++ l.drop k)) ∧ OnlyAt w1.heap.size V wr') (fun _ i _ => n - (intOf i).toNat)
   case atStart => exact ⟨0, 0, Nat.zero_le _, rfl, rfl, by omega, by simpa [Hid] using hqC, by simpa using hrow, OnlyAt.refl _ _⟩
   case round =>
    obtain ⟨k, c, hk, rfl, rfl, hc, HQ, hrow, honly⟩ := hrel
    by_cases hlt : k < n
    ·
     obtain ⟨x, hx, hkl⟩ : ∃ x, l[k]'(by omega) = x ∧ l.drop k = x :: l.drop (k + 1) := ⟨_, rfl, List.drop_eq_getElem_cons (by omega)⟩
     have hx255 := x.toNat_lt
     have hq := HQ.out
     rw [hkl, divL, show c * 256 + x.toNat = 256 * c + x.toNat by omega, Prod.mk.injEq, List.drop_eq_getElem_cons (show k < q.length by omega), List.cons.injEq] at hq
     obtain ⟨⟨hq1, hq2⟩, hq3⟩ := hq
     have HQ2 : Hid (divL 10 ((256 * c + x.toNat) % 10) (l.drop (k + 1)) = (q.drop (k + 1), C)) := Prod.ext hq2 hq3
     have hmix := mix_length (a := q) (l := l) hqn k (by omega)
     have hg := mix_get hqn k (by omega) (by omega)
     rw [hx] at hg
     have hcell := hrow.cell (off + k) (by rw [List.length_append]; omega)
     rw [List.getElem_append_right (by omega)] at hcell
     simp only [hpo, Nat.add_sub_cancel_left] at hcell
     rw [hg] at hcell
     have hfr := hrow.free (off + k) (by rw [List.length_append]; omega)
     have hst := hrow.set (off + k) (q[k]'(by omega))
     rw [List.set_append_right _ _ (by omega), hpo, Nat.add_sub_cancel_left, mix_set hqn k (by omega), ← hq1, UInt8.toNat_ofNat_of_lt' (show (256 * c + x.toNat) / 10 < 256 by omega)] at hst
     have hon := honly.setCell (off + k) (.int .u8 (((256 * c + x.toNat) / 10 : Nat) : Int))
     clear hrow hmix hg hq1 hq2 hq3 hkl HQ hqC
     go_wp2
     go_roundw
     case rel => exact ⟨k + 1, (256 * c + x.toNat) % 10, by omega, by go_num, by go_num, by omega, HQ2, hst, hon⟩
     case measure => simp [intOf]; omega
    ·
     have hq := HQ.out
     rw [List.drop_of_length_le (by omega), divL] at hq
     have hcC : c = C := (Prod.mk.injEq .. ▸ hq).2
     rw [← hcC] at HT1 hv2
     rw [List.take_of_length_le (by omega), List.drop_of_length_le (by omega), List.append_nil] at hrow
     have hown1 := honly.own hown (Nat.lt_succ_self _)
     have hbel1 := hbel.trans honly.below
     have hsz1 : w1.heap.size + 1 ≤ wr.heap.size := by have := honly.size; omega
     have HX : Hid ((48 + (c : Int)) = ((UInt8.ofNat (48 + c)).toNat : Int)) := by show _ = _; rw [ofNat_int (show 48 + c < 256 by omega)]; omega
     have hlen : acc.length ≤ 1099511627776 := by omega
     have hbr := Below.refl (w1.heap.size + 1) wr
     obtain ⟨U, rfl⟩ : ∃ U, U = wr := ⟨_, rfl⟩
     clear HQ hq hqC hcC honly hown hbel hsz
     go_wp2_with (at_builtin; refine wpList_append_byte rfl (.tmp 49) (.tmp 53) 130 rfl 5 Tryz.underlying130 info5 (w1.heap.size + 1) _ _ rfl hown1 (UInt8.ofNat (48 + c)) _ HX.out 1 rfl hlen hsz1 (w1.heap.size + 1) U hbr (Nat.le_refl _) ?_; intro v3 w3 hown3 hbel3 hsz3)
     have hrow3 := brow_below hrow hbel3 (Nat.lt_succ_self _)
     have hbel4 := hbel1.trans (hbel3.mono (Nat.le_succ _))
     have hsN3 : sliceN v3 = acc.length + 1 := by
      have e1 : (acc ++ [UInt8.ofNat (48 + c)]).length = acc.length + 1 := by rw [List.length_append, List.length_singleton]
      rw [← e1]
      rcases hown3.form with ⟨rfl, h0⟩ | ⟨gb, capb, rfl, _⟩
      ·
       rw [h0]; rfl
      ·
       rfl
     clear hbel3 hbr
     go_loopw [5] (fun x wr'' => ∃ (off n cap : Nat) (pre l : List UInt8), x = .slice (some ⟨w1.heap.size, off, none⟩) n cap ∧ l.length = n ∧ n ≤ cap ∧ off + n ≤ 255 ∧ (0 < n → pre.length = off ∧ BRow w3 w1.heap.size (pre ++ l)) ∧ Hid (stripL l = stripL q) ∧ w3 = wr'') (fun x _ => sliceN x)
     case atStart => exact ⟨off, n, cap, pre, q, rfl, by omega, hncap, hoff, fun _ => ⟨hpo, hrow3⟩, rfl, rfl⟩
     case round =>
      obtain ⟨off2, n2, cap2, pre2, l2, rfl, hl2, hnc2, hoff2, hrw2, HS2, rfl⟩ := hrel
      by_cases hn2 : ¬ 0 < n2
      ·
       obtain rfl : l2 = [] := List.eq_nil_of_length_eq_zero (by omega)
       have HT3 : Hid ((acc ++ [UInt8.ofNat (48 + c)]) ++ decD (hvl []) = decD M) := by
        show _ = _
        rw [← HT1.out, ← stripL_val q, ← HS2.out]
        rfl
       clear HS2 hrw2
       go_wp2
       go_roundw
       case rel => exact ⟨off2, n2, cap2, [], [], _, rfl, hl2, by omega, by omega, fun h => absurd h hn2, by simp [Hid], hown3, HT3, hbel4, hsz3⟩
       case measure => rw [hsN3, hsN]; omega
      ·
       obtain ⟨hp2, hrow4⟩ := hrw2 (by omega)
       obtain ⟨y, t, rfl⟩ : ∃ x t, l2 = x :: t := by
        cases l2 with
        | nil => exfalso; simp at hl2; omega
        | cons x t => exact ⟨x, t, rfl⟩
       have hcc := hrow4.cell off2 (by rw [List.length_append]; simp only [List.length_cons]; omega)
       rw [List.getElem_append_right (by omega)] at hcc
       simp only [hp2, Nat.sub_self, List.getElem_cons_zero] at hcc
       by_cases hy : y.toNat = 0
       ·
        have hy0 : y = 0 := UInt8.toNat_inj.1 hy
        have htl := run_tail w3 w1.heap.size off2 n2 cap2 (by omega)
        have HS3 : Hid (stripL t = stripL q) := by
         show _ = _
         rw [← HS2.out, hy0, stripL_zero]
        have hrow5 : BRow w3 w1.heap.size ((pre2 ++ [y]) ++ t) := by rw [List.append_assoc]; exact hrow4
        have hl3 : t.length = n2 - 1 := by simp only [List.length_cons] at hl2; omega
        clear HS2 hrow4 hy0
        by_cases hc1 : cap2 = 1
        ·
         subst hc1
         obtain rfl : n2 = 1 := by omega
         clear htl
         go_wp2
         go_roundw
         case rel => exact ⟨off2, 0, 0, [], t, rfl, hl3, by omega, by omega, fun h => absurd h (by decide), HS3, trivial⟩
         case measure => simp only [sliceN]; omega
        ·
         rw [if_neg hc1] at htl
         go_wp2
         go_roundw
         case rel => exact ⟨off2 + 1, n2 - 1, cap2 - 1, pre2 ++ [y], t, rfl, hl3, by omega, by omega, fun h => ⟨by rw [List.length_append, List.length_singleton, hp2], hrow5⟩, HS3, trivial⟩
         case measure => simp only [sliceN]; omega
       ·
        have hy0 : y ≠ 0 := fun h => hy (by rw [h]; rfl)
        have hs2 : stripL (y :: t) = y :: t := stripL_self (by simp [hy0])
        have HT3 : Hid ((acc ++ [UInt8.ofNat (48 + c)]) ++ decD (hvl (y :: t)) = decD M) := by
         show _ = _
         rw [← HT1.out, ← stripL_val q, ← HS2.out, hs2]
        clear HS2 hs2
        go_wp2
        go_roundw
        case rel => exact ⟨off2, n2, cap2, pre2, y :: t, _, rfl, hl2, hnc2, hoff2, fun _ => ⟨hp2, hrow4⟩, by simp [Hid, hy0], hown3, HT3, hbel4, hsz3⟩
        case measure => rw [hsN3, hsN]; omega
set_option maxHeartbeats 8000000 in
set_option maxRecDepth 20000 in
theorem rprint_false (m : ByteArray) (hm : m.size ≤ 255) (M : Nat) (HV : Hid (hvl m.data.toList = M)) (hpos : M ≠ 0) (hhead : m.data.toList.head? ≠ some 0) (hdb : (decD M).length ≤ 765) (h0 : 0 < m.size) (HC : Hid (chk false m.data.toList = 0)) (w : World) :
  Calls Tryz.prog 91 #[numV false m] w fun e w' => e = .returned (.tuple #[.string (bs ((decD M).reverse)), .int .i64 0]) ∧ Below w.heap.size w w' := by
 have hl : m.data.toList.length = m.size := (Lib.size_eq m).symm
 have hm0 : ((m.size : Int) == 0) = false := by simp only [beq_eq_false_iff_ne, ne_eq]; omega
 go_enter Tryz.func91, Tryz.ntmps91
 go_wp2_with fail
 refine (rcheck_any false m (by omega) _).mono ?_
 rintro e w1 ⟨rfl, hb1⟩
 obtain ⟨hc0, hc1, hc2⟩ := box_num hb1 (h := w.heap.size) (v0 := .bool false) (v1 := .string m) ⟨by simp, by simp, by simp⟩
 rw [HC.out]
 clear HC
 obtain ⟨cap0, wc, hcv, hcap, hrow0, hbel0, hsz0⟩ := run_bytes_ex (P := Tryz.prog) w1 9 130 5 m Tryz.underlying9 Tryz.underlying130 Tryz.underlying5
 go_wp2
 clear hcv
 go_loopw [5, 6] (fun x v wr => ∃ (off n cap : Nat) (pre l acc : List UInt8), x = .slice (some ⟨w1.heap.size, off, none⟩) n cap ∧ l.length = n ∧ n ≤ cap ∧ off + n ≤ 255 ∧ (0 < n → pre.length = off ∧ BRow wr w1.heap.size (pre ++ l)) ∧ Hid (l.head? ≠ some 0) ∧ BOwn 5 wr (w1.heap.size + 1) v acc ∧ Hid (acc ++ decD (hvl l) = decD M) ∧ Below w1.heap.size w1 wr ∧ w1.heap.size + 1 ≤ wr.heap.size) (fun _ v _ => (decD M).length - sliceN v)
 case atStart => exact ⟨0, m.size, cap0, [], m.data.toList, [], rfl, hl, hcap, by omega, fun _ => ⟨rfl, hrow0⟩, hhead, BOwn.nil _ _ _, by show _ = _; rw [HV.out]; rfl, hbel0, by omega⟩
 case round =>
  obtain ⟨off, n, cap, pre, l, acc, rfl, hln, hncap, hoff, hrow, Hhd, hown, HT, hbel, hsz⟩ := hrel
  have c0 := (hbel.cell (p := ⟨w.heap.size, 0, none⟩) hc2).trans hc0
  have hacl : acc.length ≤ (decD M).length := by rw [← HT.out, List.length_append]; omega
  by_cases hn : ¬ 0 < n
  ·
   obtain rfl : l = [] := List.eq_nil_of_length_eq_zero (by omega)
   have ht : acc = decD M := by have := HT.out; rwa [show hvl [] = 0 from rfl, decD_zero, List.append_nil] at this
   clear HT hrow Hhd
   subst ht
   rcases hown.form with ⟨_, h0⟩ | ⟨gb, capb, rfl, hgb1, hcb1, hcb2, hrb⟩
   ·
    exact absurd (decD_nil.1 h0) hpos
   have hgb : gb < wr.heap.size := (World.ownsRow.lt hown gb rfl).2
   obtain ⟨V, rfl⟩ : ∃ V, V = wr := ⟨_, rfl⟩
   go_wp2
   go_loopw [10, 11] (fun v i wr' => ∃ k : Nat, k ≤ (decD M).length ∧ i = .int .i64 (((decD M).length : Int) - 1 - (k : Int)) ∧ BOwn 5 wr' V.heap.size v ((decD M).reverse.take k) ∧ Below V.heap.size V wr' ∧ V.heap.size ≤ wr'.heap.size) (fun _ i _ => (intOf i + 1).toNat)
   case atStart => exact ⟨0, Nat.zero_le _, by go_num, BOwn.nil _ _ _, Below.refl _ _, Nat.le_refl _⟩
   case round =>
    obtain ⟨k, hk, rfl, hown2, hbel2, hsz2⟩ := hrel
    by_cases hlt : k < (decD M).length
    ·
     obtain ⟨j, hj⟩ : ∃ j, j + k + 1 = (decD M).length := ⟨(decD M).length - 1 - k, by omega⟩
     have ej : (((decD M).length : Int) - 1 - (k : Int)) = (j : Int) := by omega
     obtain ⟨y, hy⟩ : ∃ y, (decD M)[j]'(by omega) = y := ⟨_, rfl⟩
     have hcell := (brow_below hrb hbel2 hgb).cell j (by omega)
     rw [hy] at hcell
     have HRV : Hid ((decD M).reverse.take (k + 1) = ((decD M).reverse.take k) ++ [y]) := by
      show _ = _
      rw [rev_take (decD M) j k hj, hy]
     have hlen2 : ((decD M).reverse.take k).length ≤ 1099511627776 := by
      rw [List.length_take, List.length_reverse]; omega
     have hjl : j < (decD M).length := by omega
     rw [ej]
     clear ej
     go_wp2_with (at_builtin; refine wpList_append_byte rfl (.tmp 78) (.tmp 83) 130 rfl 5 Tryz.underlying130 info5 V.heap.size _ _ rfl hown2 y _ rfl 1 rfl hlen2 hsz2 V.heap.size V hbel2 (Nat.le_refl _) ?_; intro v' w3 hown3 hbel3 hsz3)
     go_roundw
     case rel => exact ⟨k + 1, by omega, by go_num, by rw [HRV.out]; exact hown3, hbel3, hsz3⟩
     case measure => simp only [intOf]; omega
    ·
     obtain rfl : k = (decD M).length := by omega
     rw [List.take_of_length_le (by rw [List.length_reverse]; exact Nat.le_refl _)] at hown2
     have ei : (((decD M).length : Int) - 1 - ((decD M).length : Int)) = -1 := by omega
     rw [ei]
     have hcv := run_string_own (P := Tryz.prog) wr 130 9 5 Tryz.underlying130 Tryz.underlying5 Tryz.underlying9 _ _ _ hown2
     go_wp2
     go_ret2
     exact ⟨rfl, below_next (below_box hb1) (hbel.trans (hbel2.mono (by omega)))⟩
  ·
   obtain ⟨hpo, hrow⟩ := hrow (by omega)
   have hlpos : hvl l ≠ 0 := hvl_pos Hhd.out (fun h => by rw [h] at hln; simp at hln; omega)
   obtain ⟨hv1, hv2⟩ := divL_val (show 0 < 10 by decide) l 0 (by decide)
   have hqn := divL_length 10 l 0
   obtain ⟨⟨q, C⟩, hqC⟩ : ∃ z, divL 10 0 l = z := ⟨_, rfl⟩
   rw [hqC] at hv1 hv2 hqn
   simp only at hv1 hv2 hqn
   rw [Nat.zero_mul, Nat.zero_add] at hv1
   have HT1 : Hid ((acc ++ [UInt8.ofNat (48 + C)]) ++ decD (hvl q) = decD M) := by
    show _ = _
    rw [← HT.out, decD_pos hlpos, show hvl l % 10 = C by omega, show hvl l / 10 = hvl q by omega]
    simp
   have hacl1 : acc.length < (decD M).length := by
    have := congrArg List.length HT1.out
    rw [List.length_append, List.length_append, List.length_singleton] at this
    omega
   have hsN : sliceN u6 = acc.length := by
    rcases hown.form with ⟨rfl, h0⟩ | ⟨gb, capb, rfl, _⟩
    ·
     rw [h0]; rfl
    ·
     rfl
   clear HT hv1
   obtain ⟨V, rfl⟩ : ∃ V, V = wr := ⟨_, rfl⟩
   go_wp2
   go_loopw [7, 8] (fun x i wr' => ∃ k c : Nat, k ≤ n ∧ i = .int .i64 k ∧ x = .int .i64 c ∧ c < 10 ∧ Hid (divL 10 c (l.drop k) = (q.drop k, C)) ∧ BRow wr' w1.heap.size (pre ++ (q.take k ++ l.drop k)) ∧ OnlyAt w1.heap.size V wr') (fun _ i _ => n - (intOf i).toNat)
   case atStart => exact ⟨0, 0, Nat.zero_le _, rfl, rfl, by omega, by simpa [Hid] using hqC, by simpa using hrow, OnlyAt.refl _ _⟩
   case round =>
    obtain ⟨k, c, hk, rfl, rfl, hc, HQ, hrow, honly⟩ := hrel
    by_cases hlt : k < n
    ·
     obtain ⟨x, hx, hkl⟩ : ∃ x, l[k]'(by omega) = x ∧ l.drop k = x :: l.drop (k + 1) := ⟨_, rfl, List.drop_eq_getElem_cons (by omega)⟩
     have hx255 := x.toNat_lt
     have hq := HQ.out
     rw [hkl, divL, show c * 256 + x.toNat = 256 * c + x.toNat by omega, Prod.mk.injEq, List.drop_eq_getElem_cons (show k < q.length by omega), List.cons.injEq] at hq
     obtain ⟨⟨hq1, hq2⟩, hq3⟩ := hq
     have HQ2 : Hid (divL 10 ((256 * c + x.toNat) % 10) (l.drop (k + 1)) = (q.drop (k + 1), C)) := Prod.ext hq2 hq3
     have hmix := mix_length (a := q) (l := l) hqn k (by omega)
     have hg := mix_get hqn k (by omega) (by omega)
     rw [hx] at hg
     have hcell := hrow.cell (off + k) (by rw [List.length_append]; omega)
     rw [List.getElem_append_right (by omega)] at hcell
     simp only [hpo, Nat.add_sub_cancel_left] at hcell
     rw [hg] at hcell
     have hfr := hrow.free (off + k) (by rw [List.length_append]; omega)
     have hst := hrow.set (off + k) (q[k]'(by omega))
     rw [List.set_append_right _ _ (by omega), hpo, Nat.add_sub_cancel_left, mix_set hqn k (by omega), ← hq1, UInt8.toNat_ofNat_of_lt' (show (256 * c + x.toNat) / 10 < 256 by omega)] at hst
     have hon := honly.setCell (off + k) (.int .u8 (((256 * c + x.toNat) / 10 : Nat) : Int))
     clear hrow hmix hg hq1 hq2 hq3 hkl HQ hqC
     go_wp2
     go_roundw
     case rel => exact ⟨k + 1, (256 * c + x.toNat) % 10, by omega, by go_num, by go_num, by omega, HQ2, hst, hon⟩
     case measure => simp [intOf]; omega
    ·
     have hq := HQ.out
     rw [List.drop_of_length_le (by omega), divL] at hq
     have hcC : c = C := (Prod.mk.injEq .. ▸ hq).2
     rw [← hcC] at HT1 hv2
     rw [List.take_of_length_le (by omega), List.drop_of_length_le (by omega), List.append_nil] at hrow
     have hown1 := honly.own hown (Nat.lt_succ_self _)
     have hbel1 := hbel.trans honly.below
     have hsz1 : w1.heap.size + 1 ≤ wr.heap.size := by have := honly.size; omega
     have HX : Hid ((48 + (c : Int)) = ((UInt8.ofNat (48 + c)).toNat : Int)) := by show _ = _; rw [ofNat_int (show 48 + c < 256 by omega)]; omega
     have hlen : acc.length ≤ 1099511627776 := by omega
     have hbr := Below.refl (w1.heap.size + 1) wr
     obtain ⟨U, rfl⟩ : ∃ U, U = wr := ⟨_, rfl⟩
     clear HQ hq hqC hcC honly hown hbel hsz
     go_wp2_with (at_builtin; refine wpList_append_byte rfl (.tmp 49) (.tmp 53) 130 rfl 5 Tryz.underlying130 info5 (w1.heap.size + 1) _ _ rfl hown1 (UInt8.ofNat (48 + c)) _ HX.out 1 rfl hlen hsz1 (w1.heap.size + 1) U hbr (Nat.le_refl _) ?_; intro v3 w3 hown3 hbel3 hsz3)
     have hrow3 := brow_below hrow hbel3 (Nat.lt_succ_self _)
     have hbel4 := hbel1.trans (hbel3.mono (Nat.le_succ _))
     have hsN3 : sliceN v3 = acc.length + 1 := by
      have e1 : (acc ++ [UInt8.ofNat (48 + c)]).length = acc.length + 1 := by rw [List.length_append, List.length_singleton]
      rw [← e1]
      rcases hown3.form with ⟨rfl, h0⟩ | ⟨gb, capb, rfl, _⟩
      ·
       rw [h0]; rfl
      ·
       rfl
     clear hbel3 hbr
     go_loopw [5] (fun x wr'' => ∃ (off n cap : Nat) (pre l : List UInt8), x = .slice (some ⟨w1.heap.size, off, none⟩) n cap ∧ l.length = n ∧ n ≤ cap ∧ off + n ≤ 255 ∧ (0 < n → pre.length = off ∧ BRow w3 w1.heap.size (pre ++ l)) ∧ Hid (stripL l = stripL q) ∧ w3 = wr'') (fun x _ => sliceN x)
     case atStart => exact ⟨off, n, cap, pre, q, rfl, by omega, hncap, hoff, fun _ => ⟨hpo, hrow3⟩, rfl, rfl⟩
     case round =>
      obtain ⟨off2, n2, cap2, pre2, l2, rfl, hl2, hnc2, hoff2, hrw2, HS2, rfl⟩ := hrel
      by_cases hn2 : ¬ 0 < n2
      ·
       obtain rfl : l2 = [] := List.eq_nil_of_length_eq_zero (by omega)
       have HT3 : Hid ((acc ++ [UInt8.ofNat (48 + c)]) ++ decD (hvl []) = decD M) := by
        show _ = _
        rw [← HT1.out, ← stripL_val q, ← HS2.out]
        rfl
       clear HS2 hrw2
       go_wp2
       go_roundw
       case rel => exact ⟨off2, n2, cap2, [], [], _, rfl, hl2, by omega, by omega, fun h => absurd h hn2, by simp [Hid], hown3, HT3, hbel4, hsz3⟩
       case measure => rw [hsN3, hsN]; omega
      ·
       obtain ⟨hp2, hrow4⟩ := hrw2 (by omega)
       obtain ⟨y, t, rfl⟩ : ∃ x t, l2 = x :: t := by
        cases l2 with
        | nil => exfalso; simp at hl2; omega
        | cons x t => exact ⟨x, t, rfl⟩
       have hcc := hrow4.cell off2 (by rw [List.length_append]; simp only [List.length_cons]; omega)
       rw [List.getElem_append_right (by omega)] at hcc
       simp only [hp2, Nat.sub_self, List.getElem_cons_zero] at hcc
       by_cases hy : y.toNat = 0
       ·
        have hy0 : y = 0 := UInt8.toNat_inj.1 hy
        have htl := run_tail w3 w1.heap.size off2 n2 cap2 (by omega)
        have HS3 : Hid (stripL t = stripL q) := by
         show _ = _
         rw [← HS2.out, hy0, stripL_zero]
        have hrow5 : BRow w3 w1.heap.size ((pre2 ++ [y]) ++ t) := by rw [List.append_assoc]; exact hrow4
        have hl3 : t.length = n2 - 1 := by simp only [List.length_cons] at hl2; omega
        clear HS2 hrow4 hy0
        by_cases hc1 : cap2 = 1
        ·
         subst hc1
         obtain rfl : n2 = 1 := by omega
         clear htl
         go_wp2
         go_roundw
         case rel => exact ⟨off2, 0, 0, [], t, rfl, hl3, by omega, by omega, fun h => absurd h (by decide), HS3, trivial⟩
         case measure => simp only [sliceN]; omega
        ·
         rw [if_neg hc1] at htl
         go_wp2
         go_roundw
         case rel => exact ⟨off2 + 1, n2 - 1, cap2 - 1, pre2 ++ [y], t, rfl, hl3, by omega, by omega, fun h => ⟨by rw [List.length_append, List.length_singleton, hp2], hrow5⟩, HS3, trivial⟩
         case measure => simp only [sliceN]; omega
       ·
        have hy0 : y ≠ 0 := fun h => hy (by rw [h]; rfl)
        have hs2 : stripL (y :: t) = y :: t := stripL_self (by simp [hy0])
        have HT3 : Hid ((acc ++ [UInt8.ofNat (48 + c)]) ++ decD (hvl (y :: t)) = decD M) := by
         show _ = _
         rw [← HT1.out, ← stripL_val q, ← HS2.out, hs2]
        clear HS2 hs2
        go_wp2
        go_roundw
        case rel => exact ⟨off2, n2, cap2, pre2, y :: t, _, rfl, hl2, hnc2, hoff2, fun _ => ⟨hp2, hrow4⟩, by simp [Hid, hy0], hown3, HT3, hbel4, hsz3⟩
        case measure => rw [hsN3, hsN]; omega
set_option maxHeartbeats 1000000 in
theorem rprint_any (b : Bool) (m : ByteArray) (hm : m.size ≤ 17179869184) (w : World) :
  Calls Tryz.prog 91 #[numV b m] w fun e w' => e = printE b m.data.toList ∧ Below w.heap.size w w' := by
 have hl : m.data.toList.length = m.size := (Lib.size_eq m).symm
 by_cases hc : chk b m.data.toList = 0
 ·
  obtain ⟨h255, hhd, hnb⟩ := chk_zero hc
  by_cases h0 : m.size = 0
  ·
   have hn : m.data.toList = [] := List.eq_nil_of_length_eq_zero (by omega)
   have hR : printE b m.data.toList = .returned (.tuple #[.string (bs [48]), .int .i64 0]) := by rw [printE, hc, if_pos rfl, hn]; rfl
   rw [hR]
   have HC : Hid (chk b m.data.toList = 0) := hc
   clear hR hnb hhd h255 hn hc hl
   go_enter Tryz.func91, Tryz.ntmps91
   go_wp2_with fail
   refine (rcheck_any b m hm _).mono ?_
   rintro e w1 ⟨rfl, hb1⟩
   obtain ⟨hc0, hc1, hc2⟩ := box_num hb1 (h := w.heap.size) (v0 := .bool b) (v1 := .string m) ⟨by simp, by simp, by simp⟩
   rw [HC.out]
   go_wp2
   go_ret2
   exact ⟨rfl, below_box hb1⟩
  ·
   have hne : m.data.toList ≠ [] := fun h => h0 (by rw [← hl, h]; rfl)
   have he2 : m.data.toList.isEmpty = false := by simpa using hne
   have hpos := hvl_pos hhd hne
   have hdb := decD_bound h255
   cases b
   ·
    have hR : printE false m.data.toList = .returned (.tuple #[.string (bs (decD (hvl m.data.toList)).reverse), .int .i64 0]) := by rw [printE, hc, if_pos rfl, printL, he2]; rfl
    rw [hR]
    exact rprint_false m (by omega) _ rfl hpos hhd hdb (by omega) hc w
   ·
    have hR : printE true m.data.toList = .returned (.tuple #[.string (bs ([45] ++ (decD (hvl m.data.toList)).reverse)), .int .i64 0]) := by rw [printE, hc, if_pos rfl, printL, he2]; rfl
    rw [hR]
    exact rprint_true m (by omega) _ rfl hpos hhd hdb (by omega) hc w
 ·
  have hR : printE b m.data.toList = .returned (.tuple #[.string (bs []), .int .i64 (chk b m.data.toList)]) := by simp [printE, hc]
  rw [hR]
  clear hR hl
  generalize hcc : chk b m.data.toList = c at hc ⊢
  go_enter Tryz.func91, Tryz.ntmps91
  go_wp2_with fail
  refine (rcheck_any b m hm _).mono ?_
  rintro e w1 ⟨rfl, hb1⟩
  rw [hcc]
  go_wp2
  go_ret2
  exact ⟨rfl, below_box hb1⟩
theorem dec_ten {n : Nat} (h : ¬ n < 10) : Lib.decDigits n = Lib.decDigits (n / 10) ++ Lib.decDigits (n % 10) := by
  rw [Lib.decDigits, dif_neg h, Lib.decDigits_one (i := n % 10) (by omega)]
set_option maxHeartbeats 4000000 in
theorem decimal_nat : ∀ (n : Nat), n ≤ 1000000000 → ∀ w : World, Calls Tryz.prog 43 #[.int .i64 (n : Int)] w fun e w' => e = .returned (.string (bs (Lib.decDigits n))) ∧ w' = w := by
  intro n
  induction n using Nat.strongRecOn with
  | ind n ih =>
    intro hn w
    by_cases h : n < 10
    · have hd := Lib.decDigits_one h
      rw [hd]
      clear hd ih
      obtain rfl | rfl | rfl | rfl | rfl | rfl | rfl | rfl | rfl | rfl : n = 0 ∨ n = 1 ∨ n = 2 ∨ n = 3 ∨ n = 4 ∨ n = 5 ∨ n = 6 ∨ n = 7 ∨ n = 8 ∨ n = 9 := by omega
      all_goals
        go_enter Tryz.func43, Tryz.ntmps43
        go_wp2_with fail
        go_ret
        exact ⟨rfl, rfl⟩
    · have q1 : Calls Tryz.prog 43 #[.int .i64 ((n : Int) / 10)] w fun e w' => e = .returned (.string (bs (Lib.decDigits (n / 10)))) ∧ w' = w := by
        have := ih (n / 10) (by omega) (by omega) w
        rwa [Int.natCast_ediv] at this
      have q2 : Calls Tryz.prog 43 #[.int .i64 ((n : Int) % 10)] w fun e w' => e = .returned (.string (bs (Lib.decDigits (n % 10)))) ∧ w' = w := by
        have := ih (n % 10) (by omega) (by omega) w
        rwa [Int.natCast_emod] at this
      rw [dec_ten h, ← bs_add]
      have z1 : (bs (Lib.decDigits (n / 10))).size ≤ 100 := by
        rw [bs_size, ← Lib.itoa_nonneg]; have := Lib.itoa_length_le ((n / 10 : Nat) : Int) (by omega) (by omega); omega
      have z2 : (bs (Lib.decDigits (n % 10))).size ≤ 100 := by
        rw [bs_size, ← Lib.itoa_nonneg]; have := Lib.itoa_length_le ((n % 10 : Nat) : Int) (by omega) (by omega); omega
      generalize bs (Lib.decDigits (n / 10)) = A at *
      generalize bs (Lib.decDigits (n % 10)) = B at *
      have t1 : decide ((n : Int) < 10) = false := decide_eq_false (by omega)
      clear ih
      go_enter Tryz.func43, Tryz.ntmps43
      go_wp2_with fail
      refine q1.mono ?_
      rintro _ _ ⟨rfl, rfl⟩
      go_wp2_with fail
      refine q2.mono ?_
      rintro _ _ ⟨rfl, rfl⟩
      go_wp2_with fail
      go_ret
      exact ⟨rfl, rfl⟩
theorem decimal_any (n : Int) (h0 : 0 ≤ n) (h1 : n ≤ 1000000000) (w : World) : Calls Tryz.prog 43 #[.int .i64 n] w fun e w' => e = .returned (.string (bs (Lib.itoa n))) ∧ w' = w := by
  obtain ⟨k, rfl⟩ : ∃ k : Nat, n = (k : Int) := ⟨n.toNat, by omega⟩
  rw [Lib.itoa_nonneg]
  exact decimal_nat k (by omega) w
set_option maxHeartbeats 4000000 in
set_option maxRecDepth 20000 in
theorem rkinds_any (w : World) : Calls Tryz.prog 90 #[] w fun e w' => ∃ g, e = .returned (.slice (some ⟨g, 0, none⟩) 8 8) ∧ g = w.heap.size ∧ Below w.heap.size w w' ∧ ∀ k : Nat, 1 ≤ k → k ≤ 7 → w'.cell? ⟨g, k, none⟩ = some (.string (bs (wordK k))) := by
  have hb := (Below.refl w.heap.size w).alloc (Nat.le_refl _) (.cells #[.string ⟨#[]⟩, .string ⟨#[98, 111, 111, 108]⟩, .string ⟨#[105, 110, 116]⟩, .string ⟨#[98, 121, 116, 101, 115]⟩, .string ⟨#[105, 100]⟩, .string ⟨#[110, 97, 109, 101]⟩, .string ⟨#[116, 101, 120, 116]⟩, .string ⟨#[116, 117, 112, 108, 101]⟩] 9)
  have hB := Blk.new w 9 #[.string ⟨#[]⟩, .string ⟨#[98, 111, 111, 108]⟩, .string ⟨#[105, 110, 116]⟩, .string ⟨#[98, 121, 116, 101, 115]⟩, .string ⟨#[105, 100]⟩, .string ⟨#[110, 97, 109, 101]⟩, .string ⟨#[116, 101, 120, 116]⟩, .string ⟨#[116, 117, 112, 108, 101]⟩]
  go_enter Tryz.func90, Tryz.ntmps90
  go_wp2_with fail
  go_ret
  refine ⟨_, rfl, rfl, hb, fun k h1 h7 => ?_⟩
  obtain rfl | rfl | rfl | rfl | rfl | rfl | rfl : k = 1 ∨ k = 2 ∨ k = 3 ∨ k = 4 ∨ k = 5 ∨ k = 6 ∨ k = 7 := by omega
  · exact hB.cell 1
  · exact hB.cell 2
  · exact hB.cell 3
  · exact hB.cell 4
  · exact hB.cell 5
  · exact hB.cell 6
  · exact hB.cell 7
def lineD (o : Go.Vf.Own) : List UInt8 :=
 (([102, 105, 101, 108, 100, 32] ++ o.name.data.toList) ++ [32]) ++ wordK o.kind.toNat ++ spIf o.down [100, 111, 119, 110] ++ spIf (o.nulls == 1) [110, 117, 108, 108, 45, 102, 105, 114, 115, 116] ++ spIf (o.nulls == 2) [110, 117, 108, 108, 45, 108, 97, 115, 116] ++
 (if o.bnd then [32, 102, 114, 111, 109, 32] ++ natS o.ln o.lm.data.toList ++ [32, 116, 111, 32] ++ natS o.hn o.hm.data.toList else []) ++
 (if o.kind = 3 ∨ o.kind = 5 then [32, 109, 111, 115, 116, 32] ++ Lib.itoa o.most else []) ++
 (if o.kind = 6 then [32, 115, 116, 114, 101, 110, 103, 116, 104, 32] ++ Lib.itoa o.str else []) ++ spIf o.shf [115, 104, 105, 102, 116, 101, 100] ++ spIf o.bck [98, 97, 99, 107]
set_option maxHeartbeats 8000000 in
set_option maxRecDepth 20000 in
theorem line_any (o : Go.Vf.Own) (k : Nat) (hk : o.kind = (k : Int)) (h1 : 1 ≤ k) (h7 : k ≤ 7) (a : Option Addr) (n c : Nat) (hnm : o.name.size ≤ 10000000) (hl : o.lm.size ≤ 17179869184) (hh : o.hm.size ≤ 17179869184) (hnl : (natS o.ln o.lm.data.toList).length ≤ 1000000) (hnh : (natS o.hn o.hm.data.toList).length ≤ 1000000) (hm0 : 0 ≤ o.most) (hm1 : o.most ≤ 65536) (hs0 : 0 ≤ o.str) (hs1 : o.str ≤ 4) (w : World) :
  Calls Tryz.prog 68 #[.agg #[.string o.name, .int .u8 o.kind, .bool o.down, .int .u8 o.nulls, .bool o.bnd, .bool o.ln, .string o.lm, .bool o.hn, .string o.hm, .int .i64 o.most, .int .i64 o.str, .bool o.shf, .bool o.bck, .slice a n c]] w fun e w' => e = .returned (.string (bs (lineD o))) ∧ Below w.heap.size w w' := by
 have hN0 := Blk.new w 48 #[.string o.name, .int .u8 o.kind, .bool o.down, .int .u8 o.nulls, .bool o.bnd, .bool o.ln, .string o.lm, .bool o.hn, .string o.hm, .int .i64 o.most, .int .i64 o.str, .bool o.shf, .bool o.bck, .slice a n c]
 have hb0 := (Below.refl w.heap.size w).alloc (Nat.le_refl _) (.cells #[.string o.name, .int .u8 o.kind, .bool o.down, .int .u8 o.nulls, .bool o.bnd, .bool o.ln, .string o.lm, .bool o.hn, .string o.hm, .int .i64 o.most, .int .i64 o.str, .bool o.shf, .bool o.bck, .slice a n c] 48)
 have HWK : Hid (∀ (W : World) (g : Nat), (∀ k : Nat, 1 ≤ k → k ≤ 7 → W.cell? ⟨g, k, none⟩ = some (.string (bs (wordK k)))) → W.cell? ⟨g, k, none⟩ = some (.string (bs (wordK k)))) := fun W g h => h k h1 h7
 have hwl : (wordK k).length ≤ 5 := word_len k
 obtain ⟨R, hR⟩ : ∃ R, lineD o = R := ⟨_, rfl⟩
 rw [hR]
 unfold lineD at hR
 rw [show o.kind.toNat = k by omega] at hR
 generalize wordK k = WK at *
 have hk5 : (k : Int) < 8 := by omega
 have hk0 : (0 : Int) ≤ (k : Int) := by omega
 obtain ⟨NM, hNM⟩ : ∃ NM, o.name.data.toList = NM := ⟨_, rfl⟩
 have hnb : o.name = bs NM := by rw [← hNM]; apply ByteArray.ext; simp [bs]
 have hnl2 : NM.length ≤ 10000000 := by rw [← hNM, ← Lib.size_eq]; exact hnm
 rw [hNM] at hR
 have z1 : ((⟨#[102, 105, 101, 108, 100, 32]⟩ : ByteArray) ++ o.name).size ≤ 20000000 := by rw [show (⟨#[102, 105, 101, 108, 100, 32]⟩ : ByteArray) = bs [102, 105, 101, 108, 100, 32] from rfl, hnb, bs_add, bs_size]; simp; omega
 have z2 : ((⟨#[102, 105, 101, 108, 100, 32]⟩ : ByteArray) ++ o.name ++ (⟨#[32]⟩ : ByteArray)).size ≤ 20000000 := by rw [show (⟨#[102, 105, 101, 108, 100, 32]⟩ : ByteArray) = bs [102, 105, 101, 108, 100, 32] from rfl, show (⟨#[32]⟩ : ByteArray) = bs [32] from rfl, hnb, bs_add, bs_add, bs_size]; simp; omega
 have z3 : (bs WK).size ≤ 5 := by rw [bs_size]; exact hwl
 have hkd := rkinds_any
 have HK : Hid (o.kind = (k : Int)) := hk
 have HNB : Hid (o.name = bs NM) := hnb
 have HR : Hid _ := hR
 clear hR hk hnb hNM
 go_enter Tryz.func68, Tryz.ntmps68
 go_upto_region 1 with fail
 generalize w.alloc (.cells #[.string o.name, .int .u8 o.kind, .bool o.down, .int .u8 o.nulls, .bool o.bnd, .bool o.ln, .string o.lm, .bool o.hn, .string o.hm, .int .i64 o.most, .int .i64 o.str, .bool o.shf, .bool o.bck, .slice a n c] 48) = w1 at *
 have hlt : w.heap.size < w1.heap.size := hN0.lt
 obtain ⟨c0, c1, c2, c3, c4, c5, c6, c7, c8, c9, c10, c11, c12, c13⟩ := hN0.c14
 rw [HK.out] at c1
 go_cut [3] from 8 (fun v wx => v = .string ((⟨#[102, 105, 101, 108, 100, 32]⟩ : ByteArray) ++ o.name ++ (⟨#[32]⟩ : ByteArray) ++ bs WK) ∧ Below w1.heap.size w1 wx)
 case first =>
  have hc0 : ∀ x, Below w1.heap.size w1 x → x.cell? ⟨w.heap.size, 0, none⟩ = some (.string o.name) := fun x h => (h.cell (p := ⟨w.heap.size, 0, none⟩) hlt).trans c0
  have hc1 : ∀ x, Below w1.heap.size w1 x → x.cell? ⟨w.heap.size, 1, none⟩ = some (.int .u8 (k : Int)) := fun x h => (h.cell (p := ⟨w.heap.size, 1, none⟩) hlt).trans c1
  have HKeep : Hid (∀ x y, Below w1.heap.size w1 x → Below x.heap.size x y → Below w1.heap.size w1 y) := fun x y h1 h2 => h1.trans (h2.mono h1.size)
  clear c0 c1 c2 c3 c4 c5 c6 c7 c8 c9 c10 c11 c12 c13
  refine wp_region_held_drew (S := fun x => Below w1.heap.size w1 x) (by kernel_rfl) ((Below.refl _ _).drew) (fun hHeld => ?_)
  refine wpAnyH_takeD (i := 0) (some 8) (v := .pointer (some ⟨w.heap.size, 0, none⟩)) rfl rfl (by kernel_rfl) (by kernel_rfl) (by kernel_rfl) (fun _ _ _ h => h) (Or.inl ⟨by kernel_rfl, ?hy0⟩) (by assumption) ?rest0
  case hy0 => (intro x hSx; (try dsimp only at hSx); go_simp; first | done | with_reducible rfl | omega | (simp [ByteArray.size_append] at *; omega))
  try simp only [Act.put, sA, sB, sC]
  refine wpAnyH_takeD (i := 1) (some 9) (v := .string o.name) rfl rfl (by kernel_rfl) (by kernel_rfl) (by kernel_rfl) (fun _ _ _ h => h) (Or.inl ⟨by kernel_rfl, ?hy1⟩) (by assumption) ?rest1
  case hy1 => (intro x hSx; have hq := hc0 _ hSx; (try dsimp only at hSx); go_simp; first | done | with_reducible rfl | omega | (simp [ByteArray.size_append] at *; omega))
  try simp only [Act.put, sA, sB, sC]
  refine wpAnyH_takeD (i := 2) (some 10) (v := .string ((⟨#[102, 105, 101, 108, 100, 32]⟩ : ByteArray) ++ o.name)) rfl rfl (by kernel_rfl) (by kernel_rfl) (by kernel_rfl) (fun _ _ _ h => h) (Or.inl ⟨by kernel_rfl, ?hy2⟩) (by assumption) ?rest2
  case hy2 => (intro x hSx; (try dsimp only at hSx); go_simp; first | done | with_reducible rfl | omega | (simp [ByteArray.size_append] at *; omega))
  try simp only [Act.put, sA, sB, sC]
  refine wpAnyH_takeD (i := 3) (some 11) (v := .string ((⟨#[102, 105, 101, 108, 100, 32]⟩ : ByteArray) ++ o.name ++ (⟨#[32]⟩ : ByteArray))) rfl rfl (by kernel_rfl) (by kernel_rfl) (by kernel_rfl) (fun _ _ _ h => h) (Or.inl ⟨by kernel_rfl, ?hy3⟩) (by assumption) ?rest3
  case hy3 => (intro x hSx; (try dsimp only at hSx); go_simp; first | done | with_reducible rfl | omega | (simp [ByteArray.size_append] at *; omega))
  try simp only [Act.put, sA, sB, sC]
  refine wpAnyH_takeD (i := 5) (some 13) (v := .pointer (some ⟨w.heap.size, 1, none⟩)) rfl rfl (by kernel_rfl) (by kernel_rfl) (by kernel_rfl) (fun _ _ _ h => h) (Or.inl ⟨by kernel_rfl, ?hy5⟩) (by assumption) ?rest5
  case hy5 => (intro x hSx; (try dsimp only at hSx); go_simp; first | done | with_reducible rfl | omega | (simp [ByteArray.size_append] at *; omega))
  try simp only [Act.put, sA, sB, sC]
  refine wpAnyH_takeD (i := 6) (some 14) (v := .int .u8 (k : Int)) rfl rfl (by kernel_rfl) (by kernel_rfl) (by kernel_rfl) (fun _ _ _ h => h) (Or.inl ⟨by kernel_rfl, ?hy6⟩) (by assumption) ?rest6
  case hy6 => (intro x hSx; have hq := hc1 _ hSx; (try dsimp only at hSx); go_simp; first | done | with_reducible rfl | omega | (simp [ByteArray.size_append] at *; omega))
  try simp only [Act.put, sA, sB, sC]
  refine wpAnyH_ready (rs := [4]) (by kernel_rfl) (by simp) ?_
  refine AllReadyH.cons rfl (fun K hK => ?_) AllReadyH.nil
  go_simp
  go_wp2_with (go_at_call 90; refine (hkd _).mono ?_; rintro e y ⟨g, rfl, hg, hby, hKd⟩; clear hg)
  refine hK.out _ _ (HKeep.out _ _ hHeld hby) (fun hH1 => ?_)
  clear hK K
  try simp only [Act.put, sA, sB, sC]
  have hq := HWK.out _ _ hKd
  clear hKd
  refine wpAnyH_takeD (i := 7) (some 15) (v := .pointer (some ⟨g, k, none⟩)) rfl rfl (by kernel_rfl) (by kernel_rfl) (by kernel_rfl) (fun _ _ _ h => h) (Or.inl ⟨by kernel_rfl, ?hy7⟩) (by assumption) ?rest7
  case hy7 => (intro x hSx; (try dsimp only at hSx); go_simp; first | done | with_reducible rfl | omega | (simp [ByteArray.size_append] at *; omega))
  try simp only [Act.put, sA, sB, sC]
  refine wpAnyH_ready (rs := [8]) (by kernel_rfl) (by simp) ?_
  refine AllReadyH.cons rfl (fun K hK => ?_) AllReadyH.nil
  go_simp
  refine hK.out _ _ hH1 (fun hH2 => ?_)
  clear hK K
  try simp only [Act.put, sA, sB, sC]
  refine wpAnyH_ready (rs := [9]) (by kernel_rfl) (by simp) ?_
  refine AllReadyH.cons rfl (fun K hK => ?_) AllReadyH.nil
  go_simp
  rw [if_neg (by omega)]
  refine hK.out _ _ hH2 (fun hH2b => ?_)
  clear hK K
  try simp only [Act.put, sA, sB, sC]
  refine wpAnyH_ready (rs := [10]) (by kernel_rfl) (by simp) ?_
  refine AllReadyH.cons rfl (fun K hK => ?_) AllReadyH.nil
  go_simp
  refine hK.out _ _ hH2 (fun hH3 => ?_)
  clear hK K
  try simp only [Act.put, sA, sB, sC]
  refine wpAnyH_done (by kernel_rfl) ?_ _
  go_wp2_with fail
  go_meet
  case rel => exact ⟨rfl, hH3⟩
 case rest =>
  obtain ⟨rfl, hb2⟩ := hcut
  have hz2 := hb2.size
  have hNc := hN0.old hb2
  have hb02 := hb0.trans (hb2.mono hb0.size)
  clear c0 c1 c2 c3 c4 c5 c6 c7 c8 c9 c10 c11 c12 c13 hkd HWK hb2
  have hL0 : Value.string ((⟨#[102, 105, 101, 108, 100, 32]⟩ : ByteArray) ++ o.name ++ (⟨#[32]⟩ : ByteArray) ++ bs WK) = .string (bs (([102, 105, 101, 108, 100, 32] ++ NM) ++ [32] ++ WK)) := by
   rw [show (⟨#[102, 105, 101, 108, 100, 32]⟩ : ByteArray) = bs [102, 105, 101, 108, 100, 32] from rfl, show (⟨#[32]⟩ : ByteArray) = bs [32] from rfl, HNB.out, bs_add, bs_add, bs_add]
  obtain ⟨d0, d1, d2, d3, d4, d5, d6, d7, d8, d9, d10, d11, d12, d13⟩ := hNc.c14
  rw [HK.out] at d1 HR
  clear z1 z2 z3
  have y0 : (([102, 105, 101, 108, 100, 32] ++ NM) ++ [32] ++ WK).length ≤ 10000100 := by simp; omega
  rw [hL0]
  clear hL0
  obtain ⟨L0, hE0⟩ : ∃ L0, ([102, 105, 101, 108, 100, 32] ++ NM) ++ [32] ++ WK = L0 := ⟨_, rfl⟩
  rw [hE0] at HR y0 ⊢
  clear hE0
  obtain ⟨DN, hDN⟩ : ∃ b, o.down = b := ⟨_, rfl⟩
  obtain ⟨NU, hNU⟩ : ∃ b, o.nulls = b := ⟨_, rfl⟩
  obtain ⟨SH, hSH⟩ : ∃ b, o.shf = b := ⟨_, rfl⟩
  obtain ⟨BK, hBK⟩ : ∃ b, o.bck = b := ⟨_, rfl⟩
  obtain ⟨BD, hBD⟩ : ∃ b, o.bnd = b := ⟨_, rfl⟩
  rw [hDN] at d2 HR
  rw [hNU] at d3 HR
  rw [hSH] at d11 HR
  rw [hBK] at d12 HR
  rw [hBD] at d4 HR
  clear hDN hNU hSH hBK hBD
  obtain ⟨N1, hN1⟩ : ∃ b, (NU == 1) = b := ⟨_, rfl⟩
  obtain ⟨N2, hN2⟩ : ∃ b, (NU == 2) = b := ⟨_, rfl⟩
  rw [hN1, hN2] at HR
  have hN1d : decide (NU = 1) = N1 := by rw [← hN1]; rfl
  have hN2d : decide (NU = 2) = N2 := by rw [← hN2]; rfl
  obtain ⟨P1, hP1⟩ : ∃ P, spIf DN [100, 111, 119, 110] = P := ⟨_, rfl⟩
  rw [hP1] at HR
  have p1 : P1.length ≤ 100 := by rw [← hP1]; have := sp_len DN [100, 111, 119, 110]; simp at this; omega
  have HP1 : Hid (spIf DN [100, 111, 119, 110] = P1) := hP1
  clear hP1
  have s1 : (bs L0).size ≤ 200000000 := by rw [bs_size]; omega
  go_upto_if 19 with fail
  go_cut [3] from 18 (fun v wx => v = .string (bs (L0 ++ P1)) ∧ wx = wc)
  case first =>
   clear HR
   cases DN
   ·
    go_wp2_with fail
    go_meet
    case rel => exact ⟨by rw [← HP1.out, spIf, if_neg (by simp), List.append_nil], rfl⟩
   ·
    go_wp2_with fail
    go_meet
    case rel => exact ⟨by rw [← bs_add, ← HP1.out]; rfl, rfl⟩
  case rest =>
  obtain ⟨rfl, rfl⟩ := hcut
  have y1 : (L0 ++ P1).length ≤ 13000100 := by simp only [List.length_append]; omega
  obtain ⟨L1, hE1⟩ : ∃ L, L0 ++ P1 = L := ⟨_, rfl⟩
  rw [hE1] at HR y1 ⊢
  clear hE1 HP1 s1 y0 p1
  obtain ⟨P2, hP2⟩ : ∃ P, spIf N1 [110, 117, 108, 108, 45, 102, 105, 114, 115, 116] = P := ⟨_, rfl⟩
  rw [hP2] at HR
  have p2 : P2.length ≤ 100 := by rw [← hP2]; have := sp_len N1 [110, 117, 108, 108, 45, 102, 105, 114, 115, 116]; simp at this; omega
  have HP2 : Hid (spIf N1 [110, 117, 108, 108, 45, 102, 105, 114, 115, 116] = P2) := hP2
  clear hP2
  have s2 : (bs L1).size ≤ 200000000 := by rw [bs_size]; omega
  go_upto_if 24 with fail
  go_cut [3] from 22 (fun v wx => v = .string (bs (L1 ++ P2)) ∧ wx = wc)
  case first =>
   clear HR
   cases N1
   ·
    go_wp2_with fail
    go_meet
    case rel => exact ⟨by rw [← HP2.out, spIf, if_neg (by simp), List.append_nil], rfl⟩
   ·
    go_wp2_with fail
    go_meet
    case rel => exact ⟨by rw [← bs_add, ← HP2.out]; rfl, rfl⟩
  case rest =>
  obtain ⟨rfl, rfl⟩ := hcut
  have y2 : (L1 ++ P2).length ≤ 16000100 := by simp only [List.length_append]; omega
  obtain ⟨L2, hE2⟩ : ∃ L, L1 ++ P2 = L := ⟨_, rfl⟩
  rw [hE2] at HR y2 ⊢
  clear hE2 HP2 s2 y1 p2
  obtain ⟨P3, hP3⟩ : ∃ P, spIf N2 [110, 117, 108, 108, 45, 108, 97, 115, 116] = P := ⟨_, rfl⟩
  rw [hP3] at HR
  have p3 : P3.length ≤ 100 := by rw [← hP3]; have := sp_len N2 [110, 117, 108, 108, 45, 108, 97, 115, 116]; simp at this; omega
  have HP3 : Hid (spIf N2 [110, 117, 108, 108, 45, 108, 97, 115, 116] = P3) := hP3
  clear hP3
  have s3 : (bs L2).size ≤ 200000000 := by rw [bs_size]; omega
  go_upto_if 29 with fail
  go_cut [3] from 27 (fun v wx => v = .string (bs (L2 ++ P3)) ∧ wx = wc)
  case first =>
   clear HR
   cases N2
   ·
    go_wp2_with fail
    go_meet
    case rel => exact ⟨by rw [← HP3.out, spIf, if_neg (by simp), List.append_nil], rfl⟩
   ·
    go_wp2_with fail
    go_meet
    case rel => exact ⟨by rw [← bs_add, ← HP3.out]; rfl, rfl⟩
  case rest =>
  obtain ⟨rfl, rfl⟩ := hcut
  have y3 : (L2 ++ P3).length ≤ 19000100 := by simp only [List.length_append]; omega
  obtain ⟨L3, hE3⟩ : ∃ L, L2 ++ P3 = L := ⟨_, rfl⟩
  rw [hE3] at HR y3 ⊢
  clear hE3 HP3 s3 y2 p3
  clear hN1 hN2 hN1d hN2d d2 d3
  generalize wc = wd at *
  have hltd : w.heap.size < wd.heap.size := by omega
  obtain ⟨NL, hNL⟩ : ∃ l, natS o.ln o.lm.data.toList = l := ⟨_, rfl⟩
  obtain ⟨NH, hNH⟩ : ∃ l, natS o.hn o.hm.data.toList = l := ⟨_, rfl⟩
  rw [hNL] at hnl
  rw [hNH] at hnh
  rw [hNL, hNH] at HR
  obtain ⟨E1, q1⟩ : ∃ E1, ∀ W, Calls Tryz.prog 91 #[.agg #[.bool o.ln, .string o.lm]] W fun e w' => e = .returned (.tuple #[.string (bs NL), .int .i64 E1]) ∧ Below W.heap.size W w' := ⟨_, fun W => by rw [← hNL]; exact rprint_any o.ln o.lm hl W⟩
  obtain ⟨E2, q2⟩ : ∃ E2, ∀ W, Calls Tryz.prog 91 #[.agg #[.bool o.hn, .string o.hm]] W fun e w' => e = .returned (.tuple #[.string (bs NH), .int .i64 E2]) ∧ Below W.heap.size W w' := ⟨_, fun W => by rw [← hNH]; exact rprint_any o.hn o.hm hh W⟩
  clear hNL hNH
  obtain ⟨P4, hP4⟩ : ∃ P, (if BD = true then [32, 102, 114, 111, 109, 32] ++ NL ++ [32, 116, 111, 32] ++ NH else []) = P := ⟨_, rfl⟩
  rw [hP4] at HR
  have p4 : P4.length ≤ 2000100 := by rw [← hP4]; split <;> simp <;> omega
  have HP4 : Hid ((if BD = true then [32, 102, 114, 111, 109, 32] ++ NL ++ [32, 116, 111, 32] ++ NH else []) = P4) := hP4
  clear hP4
  have s4 : (bs L3).size ≤ 200000000 := by rw [bs_size]; omega
  have sL : (bs NL).size ≤ 1000000 := by rw [bs_size]; omega
  have sH : (bs NH).size ≤ 1000000 := by rw [bs_size]; omega
  have sA : (bs L3 ++ (⟨#[32, 102, 114, 111, 109, 32]⟩ : ByteArray)).size ≤ 300000000 := by rw [show (⟨#[32, 102, 114, 111, 109, 32]⟩ : ByteArray) = bs [32, 102, 114, 111, 109, 32] from rfl, bs_add, bs_size]; simp; omega
  have sB : (bs L3 ++ (⟨#[32, 102, 114, 111, 109, 32]⟩ : ByteArray) ++ bs NL).size ≤ 300000000 := by rw [show (⟨#[32, 102, 114, 111, 109, 32]⟩ : ByteArray) = bs [32, 102, 114, 111, 109, 32] from rfl, bs_add, bs_add, bs_size]; simp; omega
  have sC : (bs L3 ++ (⟨#[32, 102, 114, 111, 109, 32]⟩ : ByteArray) ++ bs NL ++ (⟨#[32, 116, 111, 32]⟩ : ByteArray)).size ≤ 300000000 := by rw [show (⟨#[32, 102, 114, 111, 109, 32]⟩ : ByteArray) = bs [32, 102, 114, 111, 109, 32] from rfl, show (⟨#[32, 116, 111, 32]⟩ : ByteArray) = bs [32, 116, 111, 32] from rfl, bs_add, bs_add, bs_add, bs_size]; simp; omega
  go_upto_if 33 with fail
  go_cut [3, 4, 5, 6, 7] from 32 (fun v _ _ _ _ wx => v = .string (bs (L3 ++ P4)) ∧ Below wd.heap.size wd wx)
  case first =>
   clear HR
   cases BD
   ·
    go_wp2_with fail
    go_meet
    case rel => exact ⟨by rw [← HP4.out, if_neg (by simp), List.append_nil], Below.refl _ _⟩
   ·
    clear d1 d4 d9 d10 d11 d12 d13 d0 hNc hN0
    go_wp2_with fail
    refine (q1 _).mono ?_
    rintro _ we ⟨rfl, hbe⟩
    have e7 : we.cell? ⟨w.heap.size, 7, none⟩ = some (.bool o.hn) := (hbe.cell (p := ⟨w.heap.size, 7, none⟩) hltd).trans d7
    have e8 : we.cell? ⟨w.heap.size, 8, none⟩ = some (.string o.hm) := (hbe.cell (p := ⟨w.heap.size, 8, none⟩) hltd).trans d8
    clear d5 d6 d7 d8 q1
    go_wp2_with fail
    refine (q2 _).mono ?_
    rintro _ wf ⟨rfl, hbf⟩
    go_wp2_with fail
    go_meet
    case rel => exact ⟨by rw [← HP4.out, if_pos (by simp), ← List.append_assoc, ← List.append_assoc, ← List.append_assoc, ← bs_add, ← bs_add, ← bs_add, ← bs_add]; rfl, hbe.trans (hbf.mono hbe.size)⟩
  case rest =>
  obtain ⟨rfl, hb4⟩ := hcut
  have y4 : (L3 ++ P4).length ≤ 22000100 := by simp only [List.length_append]; omega
  obtain ⟨L4, hE4⟩ : ∃ L, L3 ++ P4 = L := ⟨_, rfl⟩
  rw [hE4] at HR y4 ⊢
  have e1 : wc.cell? ⟨w.heap.size, 1, none⟩ = some (.int .u8 (k : Int)) := (hb4.cell (p := ⟨w.heap.size, 1, none⟩) hltd).trans d1
  have e9 : wc.cell? ⟨w.heap.size, 9, none⟩ = some (.int .i64 o.most) := (hb4.cell (p := ⟨w.heap.size, 9, none⟩) hltd).trans d9
  have e10 : wc.cell? ⟨w.heap.size, 10, none⟩ = some (.int .i64 o.str) := (hb4.cell (p := ⟨w.heap.size, 10, none⟩) hltd).trans d10
  have e11 : wc.cell? ⟨w.heap.size, 11, none⟩ = some (.bool SH) := (hb4.cell (p := ⟨w.heap.size, 11, none⟩) hltd).trans d11
  have e12 : wc.cell? ⟨w.heap.size, 12, none⟩ = some (.bool BK) := (hb4.cell (p := ⟨w.heap.size, 12, none⟩) hltd).trans d12
  have hb04 := hb02.trans (hb4.mono hb02.size)
  have hz4 := hb4.size
  clear hE4 HP4 s4 sL sH sA sB sC y3 p4 q1 q2 d0 d1 d4 d5 d6 d7 d8 d9 d10 d11 d12 d13 hNc hb02 hb4
  have q3 := decimal_any o.most hm0 (by omega)
  have q4 := decimal_any o.str hs0 (by omega)
  have l3 := Lib.itoa_length_le o.most (by omega) (by omega)
  have l4 := Lib.itoa_length_le o.str (by omega) (by omega)
  generalize Lib.itoa o.most = IM at *
  generalize Lib.itoa o.str = IS at *
  obtain ⟨K3, hK3⟩ : ∃ b, ((k : Int) == 3) = b := ⟨_, rfl⟩
  obtain ⟨K5, hK5⟩ : ∃ b, ((k : Int) == 5) = b := ⟨_, rfl⟩
  obtain ⟨K6, hK6⟩ : ∃ b, ((k : Int) == 6) = b := ⟨_, rfl⟩
  have hK3d : decide ((k : Int) = 3) = K3 := by rw [← hK3]; rfl
  have hK5d : decide ((k : Int) = 5) = K5 := by rw [← hK5]; rfl
  have hK6d : decide ((k : Int) = 6) = K6 := by rw [← hK6]; rfl
  obtain ⟨P5, hP5⟩ : ∃ P, (if (k : Int) = 3 ∨ (k : Int) = 5 then [32, 109, 111, 115, 116, 32] ++ IM else []) = P := ⟨_, rfl⟩
  obtain ⟨P6, hP6⟩ : ∃ P, (if (k : Int) = 6 then [32, 115, 116, 114, 101, 110, 103, 116, 104, 32] ++ IS else []) = P := ⟨_, rfl⟩
  rw [hP5, hP6] at HR
  have p5 : P5.length ≤ 1000 := by rw [← hP5]; split <;> simp <;> omega
  have p6 : P6.length ≤ 1000 := by rw [← hP6]; split <;> simp <;> omega
  have HP5 : Hid ((if K3 = true ∨ K5 = true then [32, 109, 111, 115, 116, 32] ++ IM else []) = P5) := by
   show _ = _
   rw [← hP5, ← hK3d, ← hK5d]; simp only [decide_eq_true_eq]
  have HP6 : Hid ((if K6 = true then [32, 115, 116, 114, 101, 110, 103, 116, 104, 32] ++ IS else []) = P6) := by
   show _ = _
   rw [← hP6, ← hK6d]; simp only [decide_eq_true_eq]
  clear hP5 hP6
  have sM : (bs IM).size ≤ 1000 := by rw [bs_size]; omega
  have sS : (bs IS).size ≤ 1000 := by rw [bs_size]; omega
  have s5 : (bs L4).size ≤ 200000000 := by rw [bs_size]; omega
  have s5b : (bs L4 ++ (⟨#[32, 109, 111, 115, 116, 32]⟩ : ByteArray)).size ≤ 300000000 := by rw [show (⟨#[32, 109, 111, 115, 116, 32]⟩ : ByteArray) = bs [32, 109, 111, 115, 116, 32] from rfl, bs_add, bs_size]; simp; omega
  go_upto_region 12 with fail
  go_cut [60] from 53 (fun v wx => v = .bool (K3 || K5) ∧ wx = wc)
  case first =>
   clear HR
   cases K3
   ·
    cases K5
    ·
     go_wp2_with fail
     go_meet
     case rel => exact ⟨rfl, rfl⟩
    ·
     go_wp2_with fail
     go_meet
     case rel => exact ⟨rfl, rfl⟩
   ·
    go_wp2_with fail
    go_meet
    case rel => exact ⟨rfl, rfl⟩
  case rest =>
  obtain ⟨rfl, rfl⟩ := hcut
  clear hK3 hK5 hK3d hK5d
  obtain ⟨K35, hK35⟩ : ∃ b, (K3 || K5) = b := ⟨_, rfl⟩
  rw [hK35]
  have HQ5 : Hid ((if K35 = true then [32, 109, 111, 115, 116, 32] ++ IM else []) = P5) := by
   show _ = _
   rw [← HP5.out, ← hK35]; simp only [Bool.or_eq_true]
  clear hK35 HP5
  go_upto_if 60 with fail
  go_cut [3] from 60 (fun v wx => v = .string (bs (L4 ++ P5)) ∧ wx = wc)
  case first =>
   clear HR HP6
   cases K35
   ·
    go_wp2_with fail
    go_meet
    case rel => exact ⟨by rw [← HQ5.out, if_neg (by simp), List.append_nil], rfl⟩
   ·
    go_wp2_with (go_at_call 43; refine (q3 _).mono ?_; rintro _ _ ⟨rfl, rfl⟩)
    go_meet
    case rel => exact ⟨by rw [← HQ5.out, if_pos (by simp), ← List.append_assoc, ← bs_add, ← bs_add]; rfl, rfl⟩
  case rest =>
  obtain ⟨rfl, rfl⟩ := hcut
  have y5 : (L4 ++ P5).length ≤ 25000100 := by simp only [List.length_append]; omega
  obtain ⟨L5, hE5⟩ : ∃ L, L4 ++ P5 = L := ⟨_, rfl⟩
  rw [hE5] at HR y5 ⊢
  clear hE5 HQ5 s5 s5b y4 p5 q3 sM
  have s6 : (bs L5).size ≤ 200000000 := by rw [bs_size]; omega
  have s6b : (bs L5 ++ (⟨#[32, 115, 116, 114, 101, 110, 103, 116, 104, 32]⟩ : ByteArray)).size ≤ 300000000 := by rw [show (⟨#[32, 115, 116, 114, 101, 110, 103, 116, 104, 32]⟩ : ByteArray) = bs [32, 115, 116, 114, 101, 110, 103, 116, 104, 32] from rfl, bs_add, bs_size]; simp; omega
  go_upto_if 69 with fail
  go_cut [3] from 67 (fun v wx => v = .string (bs (L5 ++ P6)) ∧ wx = wc)
  case first =>
   clear HR
   cases K6
   ·
    go_wp2_with fail
    go_meet
    case rel => exact ⟨by rw [← HP6.out, if_neg (by simp), List.append_nil], rfl⟩
   ·
    go_wp2_with (go_at_call 43; refine (q4 _).mono ?_; rintro _ _ ⟨rfl, rfl⟩)
    go_meet
    case rel => exact ⟨by rw [← HP6.out, if_pos (by simp), ← List.append_assoc, ← bs_add, ← bs_add]; rfl, rfl⟩
  case rest =>
  obtain ⟨rfl, rfl⟩ := hcut
  have y6 : (L5 ++ P6).length ≤ 28000100 := by simp only [List.length_append]; omega
  obtain ⟨L6, hE6⟩ : ∃ L, L5 ++ P6 = L := ⟨_, rfl⟩
  rw [hE6] at HR y6 ⊢
  clear hE6 HP6 s6 s6b y5 p6 q4 sS hK6 hK6d
  obtain ⟨P7, hP7⟩ : ∃ P, spIf SH [115, 104, 105, 102, 116, 101, 100] = P := ⟨_, rfl⟩
  rw [hP7] at HR
  have p7 : P7.length ≤ 100 := by rw [← hP7]; have := sp_len SH [115, 104, 105, 102, 116, 101, 100]; simp at this; omega
  have HP7 : Hid (spIf SH [115, 104, 105, 102, 116, 101, 100] = P7) := hP7
  clear hP7
  have s7 : (bs L6).size ≤ 200000000 := by rw [bs_size]; omega
  go_upto_if 79 with fail
  go_cut [3] from 77 (fun v wx => v = .string (bs (L6 ++ P7)) ∧ wx = wc)
  case first =>
   clear HR
   cases SH
   ·
    go_wp2_with fail
    go_meet
    case rel => exact ⟨by rw [← HP7.out, spIf, if_neg (by simp), List.append_nil], rfl⟩
   ·
    go_wp2_with fail
    go_meet
    case rel => exact ⟨by rw [← bs_add, ← HP7.out]; rfl, rfl⟩
  case rest =>
  obtain ⟨rfl, rfl⟩ := hcut
  have y7 : (L6 ++ P7).length ≤ 31000100 := by simp only [List.length_append]; omega
  obtain ⟨L7, hE7⟩ : ∃ L, L6 ++ P7 = L := ⟨_, rfl⟩
  rw [hE7] at HR y7 ⊢
  clear hE7 HP7 s7 y6 p7
  obtain ⟨P8, hP8⟩ : ∃ P, spIf BK [98, 97, 99, 107] = P := ⟨_, rfl⟩
  rw [hP8] at HR
  have p8 : P8.length ≤ 100 := by rw [← hP8]; have := sp_len BK [98, 97, 99, 107]; simp at this; omega
  have HP8 : Hid (spIf BK [98, 97, 99, 107] = P8) := hP8
  clear hP8
  have s8 : (bs L7).size ≤ 200000000 := by rw [bs_size]; omega
  go_upto_if 84 with fail
  go_cut [3] from 82 (fun v wx => v = .string (bs (L7 ++ P8)) ∧ wx = wc)
  case first =>
   clear HR
   cases BK
   ·
    go_wp2_with fail
    go_meet
    case rel => exact ⟨by rw [← HP8.out, spIf, if_neg (by simp), List.append_nil], rfl⟩
   ·
    go_wp2_with fail
    go_meet
    case rel => exact ⟨by rw [← bs_add, ← HP8.out]; rfl, rfl⟩
  case rest =>
  obtain ⟨rfl, rfl⟩ := hcut
  have y8 : (L7 ++ P8).length ≤ 34000100 := by simp only [List.length_append]; omega
  obtain ⟨L8, hE8⟩ : ∃ L, L7 ++ P8 = L := ⟨_, rfl⟩
  rw [hE8] at HR y8 ⊢
  clear hE8 HP8 s8 y7 p8
  go_wp2_with fail
  go_ret
  exact ⟨by rw [HR.out]; rfl, hb04⟩
theorem lineD_told {o : Go.Vf.Own} {n : Nat} (h : maySayO (bndQ o) o n = true) : lineD o = [102, 105, 101, 108, 100] ++ toldF o := by
  unfold maySayO at h
  simp only [Bool.and_eq_true, decide_eq_true_eq] at h
  obtain ⟨⟨⟨⟨⟨⟨h1, h2⟩, h3⟩, h4⟩, h5⟩, h6⟩, h7⟩ := h
  unfold lineD toldF toldK
  by_cases k2 : o.kind = 2
  · rw [if_neg (by omega : ¬ o.kind = 6)] at h6
    simp only [Bool.and_eq_true, Bool.not_eq_true', beq_iff_eq] at h6
    have e1 : o.shf = false := h6.1.2
    have e2 : o.bck = false := h6.2
    simp only [k2, e1, e2]
    cases o.bnd <;> simp [spIf]
  rw [if_neg k2] at h4
  simp only [Bool.and_eq_true, Bool.not_eq_true', beq_iff_eq] at h4
  have hb : o.bnd = false := h4.1.1.1.1
  by_cases k3 : o.kind = 3 ∨ o.kind = 5
  · rw [if_neg (by omega : ¬ o.kind = 6)] at h6
    simp only [Bool.and_eq_true, Bool.not_eq_true', beq_iff_eq] at h6
    have e1 : o.shf = false := h6.1.2
    have e2 : o.bck = false := h6.2
    rcases k3 with k3 | k3
    · simp [spIf, k3, e1, e2, hb]
    · simp [spIf, k3, e1, e2, hb]
  by_cases k6 : o.kind = 6
  · simp [spIf, k6, hb]
  · rw [if_neg k6] at h6
    simp only [Bool.and_eq_true, Bool.not_eq_true', beq_iff_eq] at h6
    have e1 : o.shf = false := h6.1.2
    have e2 : o.bck = false := h6.2
    simp [spIf, k2, k3, k6, e1, e2, hb]
def LnOk (l : List Fld) : Prop := ∀ (ahead : List UInt8) (aa : Option Addr) (ca lo n₀ : Nat) (w : World), n₀ ≤ w.heap.size → FIn w lo n₀ l aa → (fieldsL l ahead).length ≤ 500000 → ahead.length ≤ 500000 →
  Calls Tryz.prog 44 #[.slice aa l.length ca, .string (bs ahead)] w fun e w' => e = .returned (.string (bs (fieldsL l ahead))) ∧ Below w.heap.size w w'
set_option maxHeartbeats 16000000 in
set_option maxRecDepth 20000 in
theorem ln_step (l : List Fld) (hl : l.length ≤ 17179869184) (hg : ∀ x ∈ l, GodF x) (hfit : ∀ x ∈ l, FitsF 17179869184 x) (ih : ∀ x ∈ l, LnOk x.fields) : LnOk l := by
  intro ahead aa ca lo n₀ w hn₀ hin hlen hah
  obtain ⟨ln, hln⟩ : ∃ ln, l.length = ln := ⟨_, rfl⟩
  have HLN : Hid (l.length = ln) := hln
  rw [hln] at hl ⊢
  clear hln
  have HIN : Hid (∀ w1, Below w.heap.size w w1 → FIn w1 lo n₀ l aa) := fun w1 h => hin.keep h hn₀
  obtain ⟨R, hR⟩ : ∃ R, fieldsL l ahead = R := ⟨_, rfl⟩
  rw [hR] at hlen ⊢
  have HR : Hid ([] ++ fieldsL (l.drop 0) ahead = R) := by rw [List.drop_zero]; exact hR
  have hbz : (bs ahead).size ≤ 500000 := by rw [bs_size]; exact hah
  clear hin hR
  go_enter Tryz.func44, Tryz.ntmps44
  go_wp2_with fail
  go_loopw [5, 6] (fun sv iv wr => ∃ (j : Nat) (ac : List UInt8), j ≤ ln ∧ iv = .int .i64 (j : Int) ∧ sv = .string (bs ac) ∧ Hid (ac ++ fieldsL (l.drop j) ahead = R) ∧ Below w.heap.size w wr) (fun _ iv _ => ln - (intOf iv).toNat)
  case atStart => exact ⟨0, [], Nat.zero_le _, rfl, rfl, HR, Below.refl _ _⟩
  case round =>
    clear HR
    obtain ⟨j, ac, hj, rfl, rfl, HR, hb⟩ := hrel
    by_cases hlt : j < ln
    · have tl : decide ((j : Int) < (ln : Int)) = true := decide_eq_true (by omega)
      have tl2 : decide (j < ln) = true := decide_eq_true hlt
      have hji : (j : Int) < (ln : Int) := by omega
      have hjl : j < l.length := by rw [HLN.out]; exact hlt
      obtain ⟨bb, off, aj, cj, ha, _, hbb, hrow, hinj⟩ := (HIN.out wr hb).at hjl
      subst ha
      obtain ⟨x, hx⟩ : ∃ x, l[j] = x := ⟨_, rfl⟩
      have hgx := hg l[j] (List.getElem_mem hjl)
      have hfx := hfit l[j] (List.getElem_mem hjl)
      have hap := ih l[j] (List.getElem_mem hjl)
      have hRj := HR.out
      rw [fieldsL_drop l ahead hjl, hx, fieldL_eq] at hRj
      rw [hx] at hrow hinj hgx hfx hap
      have HAP : Hid (LnOk x.fields) := hap
      have HI : Hid (FIn wr lo n₀ x.fields aj) := hinj
      obtain ⟨g1, g2⟩ : isNameS x.own.name = true ∧ maySayO (bndQ x.own) x.own x.fields.length = true := by cases hgx; exact ⟨by assumption, by assumption⟩
      obtain ⟨q1, q7, _⟩ := maySay_good g2
      obtain ⟨m0, m1, s0, s1⟩ := maySay_num g2
      have hxo := hfx.own
      have hnam := name_len g1
      have htl := lineD_told g2
      have nat_le : ∀ (b : Bool) (m : List UInt8), (natS b m).length ≤ 766 := fun b m => by
        by_cases hc : chk b m = 0
        · exact nat_len hc
        · rw [natS, if_neg hc]; simp
      have htf : ∀ W, Calls Tryz.prog 68 #[.agg #[.string x.own.name, .int .u8 x.own.kind, .bool x.own.down, .int .u8 x.own.nulls, .bool x.own.bnd, .bool x.own.ln, .string x.own.lm, .bool x.own.hn, .string x.own.hm, .int .i64 x.own.most, .int .i64 x.own.str, .bool x.own.shf, .bool x.own.bck, .slice aj x.fields.length cj]] W fun e w' => e = .returned (.string (bs (lineD x.own))) ∧ Below W.heap.size W w' := fun W => line_any x.own x.own.kind.toNat (by omega) (by omega) (by omega) aj x.fields.length cj (by rw [Lib.size_eq]; omega) hxo.lm hxo.hm (Nat.le_trans (nat_le _ _) (by omega)) (Nat.le_trans (nat_le _ _) (by omega)) m0 m1 s0 s1 W
      have hRj2 : ac ++ ((ahead ++ lineD x.own ++ [10]) ++ (if x.own.kind = 7 then fieldsL x.fields (ahead ++ [32, 32]) ++ (ahead ++ [101, 110, 100] ++ [10]) else []) ++ fieldsL (l.drop (j + 1)) ahead) = R := by
        rw [htl, ← hRj]; simp only [List.append_assoc]
      have hlj : ac.length + (ahead.length + (lineD x.own).length + 1) ≤ 500000 := by
        have h := congrArg List.length hRj2
        simp only [List.length_append, List.length_cons, List.length_nil] at h
        omega
      obtain ⟨LN, hLN⟩ : ∃ LN, lineD x.own = LN := ⟨_, rfl⟩
      rw [hLN] at hRj2 hlj
      simp only [hLN] at htf
      have HRJ : Hid (ac ++ ((ahead ++ LN ++ [10]) ++ (if x.own.kind = 7 then fieldsL x.fields (ahead ++ [32, 32]) ++ (ahead ++ [101, 110, 100] ++ [10]) else []) ++ fieldsL (l.drop (j + 1)) ahead) = R) := hRj2
      obtain ⟨r0, r1, r2, r3, r4, r5, r6, r7, r8, r9, r10, r11, r12, r13⟩ := hrow
      clear hx hRj hRj2 hgx hfx hap hinj hxo HR htl hLN g1 g2 nat_le hnam m0 m1 s0 s1
      have z1 : (bs ac).size ≤ 600000 := by rw [bs_size]; omega
      have z2 : (bs ac ++ bs ahead).size ≤ 1200000 := by rw [bs_add, bs_size]; simp; omega
      have z3 : (bs LN).size ≤ 600000 := by rw [bs_size]; omega
      have z4 : (bs ac ++ bs ahead ++ bs LN).size ≤ 1800000 := by rw [bs_add, bs_add, bs_size]; simp; omega
      have hbw : bb < wr.heap.size := by have := hb.size; omega
      go_upto_region 6 with (first | (go_at_call 68; refine (htf _).mono ?_; rintro _ w2 ⟨rfl, hb2⟩))
      have hz2 := hb2.size
      have hzw := hb.size
      have hb02 := hb.trans (hb2.mono hzw)
      have u1 := (hb2.cell (p := ⟨bb, off + j * 14 + 1, none⟩) hbw).trans r1
      have u13 := (hb2.cell (p := ⟨bb, off + j * 14 + 13, none⟩) hbw).trans r13
      clear r0 r1 r2 r3 r4 r5 r6 r7 r8 r9 r10 r11 r12 r13 htf
      have hEq : Value.string (bs ac ++ bs ahead ++ bs LN ++ (⟨#[10]⟩ : ByteArray)) = .string (bs (ac ++ ahead ++ LN ++ [10])) := by
        rw [show (⟨#[10]⟩ : ByteArray) = bs [10] from rfl, bs_add, bs_add, bs_add]
      rw [hEq]
      clear hEq z1 z2 z3 z4
      have hl2 : (ac ++ ahead ++ LN ++ [10]).length ≤ 600000 := by simp only [List.length_append, List.length_cons, List.length_nil]; omega
      have HA2' : Hid ((ac ++ ahead ++ LN ++ [10]) ++ ((if x.own.kind = 7 then fieldsL x.fields (ahead ++ [32, 32]) ++ (ahead ++ [101, 110, 100] ++ [10]) else []) ++ fieldsL (l.drop (j + 1)) ahead) = R) := by
        show _ = _
        rw [← HRJ.out]; simp only [List.append_assoc]
      clear HRJ
      obtain ⟨acc2, hacc2⟩ : ∃ acc2, ac ++ ahead ++ LN ++ [10] = acc2 := ⟨_, rfl⟩
      rw [hacc2] at HA2' hl2 ⊢
      clear hacc2
      have z5 : (bs acc2).size ≤ 600000 := by rw [bs_size]; exact hl2
      by_cases h7 : x.own.kind = 7
      · have t7 : (x.own.kind == 7) = true := by simpa using h7
        have t8 : decide (x.own.kind = 7) = true := decide_eq_true h7
        have hRR : acc2 ++ fieldsL x.fields (ahead ++ [32, 32]) ++ ahead ++ [101, 110, 100, 10] ++ fieldsL (l.drop (j + 1)) ahead = R := by
          rw [← HA2'.out, if_pos h7]; simp only [List.append_assoc, List.cons_append, List.nil_append]
        have hl3 := congrArg List.length hRR
        simp only [List.length_append, List.length_cons, List.length_nil] at hl3
        have hca := HAP.out (ahead ++ [32, 32]) aj cj lo n₀ w2 (by omega) (HI.out.keep hb2 (by omega)) (by omega) (by simp only [List.length_append, List.length_cons, List.length_nil]; omega)
        rw [← bs_add] at hca
        obtain ⟨F, hF⟩ : ∃ F, fieldsL x.fields (ahead ++ [32, 32]) = F := ⟨_, rfl⟩
        rw [hF] at hca hRR hl3
        have HRR : Hid (acc2 ++ F ++ ahead ++ [101, 110, 100, 10] ++ fieldsL (l.drop (j + 1)) ahead = R) := hRR
        have z6 : (bs F).size ≤ 600000 := by rw [bs_size]; omega
        have z7 : (bs acc2 ++ bs F).size ≤ 1200000 := by rw [bs_add, bs_size]; simp; omega
        have z8 : (bs acc2 ++ bs F ++ bs ahead).size ≤ 1800000 := by rw [bs_add, bs_add, bs_size]; simp; omega
        rw [h7] at u1
        clear h7 t7 t8 hF hRR HA2'
        go_wp2_with (first | (go_at_call 44; refine hca.mono ?_; rintro _ w4 ⟨rfl, hb4⟩))
        go_roundw
        case rel => exact ⟨j + 1, acc2 ++ F ++ ahead ++ [101, 110, 100, 10], by omega, by simp, by rw [← bs_add, ← bs_add, ← bs_add]; rfl, HRR, hb02.trans (hb4.mono (by omega))⟩
        case measure => simp only [intOf]; omega
      · have t7 : (x.own.kind == 7) = false := by simpa using h7
        have t8 : decide (x.own.kind = 7) = false := decide_eq_false h7
        have HRR : Hid (acc2 ++ fieldsL (l.drop (j + 1)) ahead = R) := by
          show _ = _
          rw [← HA2'.out, if_neg h7, List.nil_append]
        clear h7 HA2'
        go_wp2_with fail
        go_roundw
        case rel => exact ⟨j + 1, acc2, by omega, by simp, rfl, HRR, hb02⟩
        case measure => simp only [intOf]; omega
    · have tl : decide ((j : Int) < (ln : Int)) = false := decide_eq_false (by omega)
      have tl2 : decide (j < ln) = false := decide_eq_false hlt
      have hjn : j = l.length := by rw [HLN.out]; omega
      have hRR : ac = R := by rw [← HR.out, hjn, List.drop_length, fieldsL, List.append_nil]
      clear hjn
      go_wp2_with fail
      go_ret
      exact ⟨by rw [← hRR]; rfl, hb⟩
theorem ln_any : ∀ f : Fld, GodF f → FitsF 17179869184 f → LnOk f.fields := by
  intro f
  induction f using Fld.ind with
  | h o l ih =>
    intro ho hf
    have hs : ∀ x ∈ l, GodF x := by cases ho with | mk _ _ h => exact h
    exact ln_step l hf.len hs (fun x hx => hf.mem hx) (fun x hx => ih x hx (hs x hx) (hf.mem hx))
theorem ln_list {l : List Fld} (hl : l.length ≤ 17179869184) (hg : ∀ x ∈ l, GodF x) (hfit : ∀ x ∈ l, FitsF 17179869184 x) : LnOk l := ln_step l hl hg hfit fun x hx => ln_any x (hg x hx) (hfit x hx)
def prnA (limit : Int) (l : List Fld) : List UInt8 × Int × List Int :=
  if (chkS bndQ limit l).1 = 0 then (if 65536 < (prnS limit l).length then ([], 2, []) else (prnS limit l, 0, [])) else ([], (chkS bndQ limit l).1, (chkS bndQ limit l).2)
def RPrnPost (r : List UInt8 × Int × List Int) (w : World) (e : Ending) (w' : World) : Prop :=
  Below w.heap.size w w' ∧ ∃ a c, e = .returned (.tuple #[.string (bs r.1), .agg #[.int .i64 r.2.1, .int .i64 0, .slice a r.2.2.length c]]) ∧ IOwn w' w.heap.size (.slice a r.2.2.length c) r.2.2
theorem chkS_nopath {Q : Go.Vf.Own → Bool} {limit : Int} {l : List Fld} (h : (chkS Q limit l).1 = 0) : (chkS Q limit l).2 = [] := by
  obtain ⟨m, hm⟩ := chkS_tour h
  unfold chkS
  split
  · rfl
  split
  · rfl
  rw [hm]
theorem rprn_results {tmps : Array Value} {w : World} {h : Nat} {v a b c : Value} (hb : Blk w h 31 #[a, b, c]) (t2 : tmps[2]?.getD undef = v) (t3 : tmps[3]?.getD undef = .pointer (some ⟨h, 0, none⟩)) :
    (results Tryz.f24 tmps).run Tryz.prog w = .ok (.tuple #[v, .agg #[a, b, c]]) w := by
  have c0 := hb.cell 0
  have c1 := hb.cell 1
  have c2 := hb.cell 2
  simp at c0 c1 c2
  simp [results, Tryz.results24, go_sem, t2, t3, c0, c1, c2]
set_option maxHeartbeats 8000000 in
set_option maxRecDepth 20000 in
theorem rprint_s (limit : Int) (l : List Fld) (hl : l.length ≤ 17179869184) (hfit : ∀ x ∈ l, FitsF 17179869184 x) (aa : Option Addr) (ca lo n₀ : Nat) (w : World) (hn₀ : n₀ ≤ w.heap.size) (hin : FIn w lo n₀ l aa) :
    Calls Tryz.prog 24 #[.agg #[.int .i64 limit, .slice aa l.length ca]] w (RPrnPost (prnA limit l) w) := by
  have hb1 := (Below.refl w.heap.size w).alloc (Nat.le_refl _) (.cells #[.int .i64 limit, .slice aa l.length ca] 25)
  have hS1 := Blk.new w 25 #[.int .i64 limit, .slice aa l.length ca]
  have hs1 := alloc_size w (.cells #[.int .i64 limit, .slice aa l.length ca] 25)
  have hb2 := hb1.alloc hb1.size (.cells #[.int .i64 0, .int .i64 0, .slice none 0 0] 31)
  have hN2 := Blk.new (w.alloc (.cells #[.int .i64 limit, .slice aa l.length ca] 25)) 31 #[.int .i64 0, .int .i64 0, .slice none 0 0]
  rw [hs1] at hN2
  have hS2 := hS1.old ((Below.refl _ (w.alloc (.cells #[.int .i64 limit, .slice aa l.length ca] 25))).alloc (Nat.le_refl _) (.cells #[.int .i64 0, .int .i64 0, .slice none 0 0] 31))
  have HIN : Hid (∀ W, Below w.heap.size w W → FIn W lo n₀ l aa) := fun W h => hin.keep h hn₀
  have HGD : Hid ((chkS bndQ limit l).1 = 0 → (∀ x ∈ l, GodF x) ∧ 1 ≤ limit ∧ limit ≤ 65536 ∧ (prnS limit l).length ≤ 400000) := chkS_god
  have HNP : Hid ((chkS bndQ limit l).1 = 0 → (chkS bndQ limit l).2 = []) := chkS_nopath
  have HLN : Hid ((chkS bndQ limit l).1 = 0 → LnOk l) := fun h => ln_list hl (chkS_god h).1 hfit
  have hck := fun W hW hI => rscheck_any limit l aa ca lo n₀ W hfit hl hW hI
  clear hS1 hin hb1
  obtain ⟨G, hG⟩ : ∃ G, prnA limit l = G := ⟨_, rfl⟩
  rw [hG]
  unfold prnA at hG
  have HG : Hid ((if (chkS bndQ limit l).1 = 0 then (if 65536 < (prnS limit l).length then ([], 2, []) else (prnS limit l, 0, [])) else ([], (chkS bndQ limit l).1, (chkS bndQ limit l).2)) = G) := hG
  clear hG
  obtain ⟨T, hT⟩ : ∃ T, prnS limit l = T := ⟨_, rfl⟩
  have HTT : Hid ([108, 105, 109, 105, 116] ++ (32 :: Lib.itoa limit) ++ [10] ++ fieldsL l [] = T) := hT
  rw [hT] at HGD HG
  clear hT
  go_enter Tryz.func24, Tryz.ntmps24
  go_upto_region 1 with fail
  try simp only [hs1]
  generalize (w.alloc (.cells #[.int .i64 limit, .slice aa l.length ca] 25)).alloc (.cells #[.int .i64 0, .int .i64 0, .slice none 0 0] 31) = w2 at hb2 hN2 hS2 ⊢
  clear hs1
  obtain ⟨B, hB⟩ : ∃ B, w.heap.size + 1 = B := ⟨_, rfl⟩
  have hBw : w.heap.size ≤ B := by omega
  have hB2 : B < w2.heap.size := by have := hN2.lt; omega
  rw [hB] at hN2
  try rw [hB]
  clear hB
  have c0 : w2.cell? ⟨w.heap.size, 0, none⟩ = some (.int .i64 limit) := hS2.cell 0
  have c1 : w2.cell? ⟨w.heap.size, 1, none⟩ = some (.slice aa l.length ca) := hS2.cell 1
  have hck2 := hck w2 (by have := hb2.size; omega) (HIN.out w2 hb2)
  clear hck
  obtain ⟨q, P, hqP⟩ : ∃ q P, chkS bndQ limit l = (q, P) := ⟨_, _, rfl⟩
  rw [hqP] at hck2 HGD HNP HLN HG
  clear hqP
  go_wp2_with fail
  refine hck2.mono ?_
  rintro _ w3 ⟨hb3, pa, pc, rfl, hown⟩
  clear hck2 c0 c1
  have hb03 := hb2.trans (hb3.mono hb2.size)
  have hN3 := hN2.old hb3
  have hS3 := hS2.old hb3
  have hz3 := hb3.size
  have hC5 := Blk.new w3 31 #[.int .i64 q, .int .i64 0, .slice pa P.length pc]
  have hb35 := (Below.refl w3.heap.size w3).alloc (Nat.le_refl _) (.cells #[.int .i64 q, .int .i64 0, .slice pa P.length pc] 31)
  clear hN2 hS2
  go_upto_region 2 with fail
  generalize w3.alloc (.cells #[.int .i64 q, .int .i64 0, .slice pa P.length pc] 31) = w5 at hC5 hb35 ⊢
  have hb05 := hb03.trans (hb35.mono hb03.size)
  have hN5 := hN3.old hb35
  have hS5 := hS3.old hb35
  have hown5 : IOwn w5 w2.heap.size (.slice pa P.length pc) P := own_after hown hb35
  have hz5 := hb35.size
  clear hN3 hS3 hown
  obtain ⟨C, hCe⟩ : ∃ C, w3.heap.size = C := ⟨_, rfl⟩
  rw [hCe] at hC5 ⊢
  clear hCe hb35
  obtain ⟨x0, x1, x2, _, _, _⟩ := rcells hC5
  have HPO : Hid (∀ (W : World) (r : List UInt8 × Int × List Int) (a : Option Addr) (c : Nat), Below w.heap.size w W → IOwn W w2.heap.size (.slice a r.2.2.length c) r.2.2 → RPrnPost r w (.returned (.tuple #[.string (bs r.1), .agg #[.int .i64 r.2.1, .int .i64 0, .slice a r.2.2.length c]])) (((W.setCell ⟨B, 0, none⟩ (.int .i64 r.2.1)).setCell ⟨B, 1, none⟩ (.int .i64 0)).setCell ⟨B, 2, none⟩ (.slice a r.2.2.length c))) := by
    intro W r a c h1 h2
    refine ⟨((h1.setCell (p := ⟨B, 0, none⟩) hBw _).setCell (p := ⟨B, 1, none⟩) hBw _).setCell (p := ⟨B, 2, none⟩) hBw _, a, c, rfl, ?_⟩
    exact (set3_own h2 hB2 _ _ _).mono hb2.size
  by_cases hq : q = 0
  · have HQ : Hid (q = 0) := hq
    have t1 : (q == 0) = true := by simpa using hq
    have t1b : (q != 0) = false := by simp [hq]
    have t1c : decide (q = 0) = true := decide_eq_true hq
    have hP : P = [] := HNP.out hq
    obtain ⟨_, hl1, hl2, hT4⟩ := HGD.out hq
    have HLk := HLN.out hq
    have hdec := decimal_any limit (by omega) (by omega)
    have hin5 := HIN.out w5 hb05
    have HLC : Hid (∀ W, Below w5.heap.size w5 W → Calls Tryz.prog 44 #[.slice aa l.length ca, .string ⟨#[]⟩] W fun e w' => e = .returned (.string (bs (fieldsL l []))) ∧ Below W.heap.size W w') := fun W hW => by
      have h9 := congrArg List.length HTT.out
      simp only [List.length_append, List.length_cons, List.length_nil] at h9
      exact HLk [] aa ca lo n₀ W (by have := hW.size; have := hb05.size; omega) (HIN.out W (hb05.trans (hW.mono hb05.size))) (by omega) (by simp)
    have hlen := congrArg List.length HTT.out
    simp only [List.length_append, List.length_cons, List.length_nil] at hlen
    have HTv : Hid (Value.string ((⟨#[108, 105, 109, 105, 116, 32]⟩ : ByteArray) ++ bs (Lib.itoa limit) ++ (⟨#[10]⟩ : ByteArray) ++ bs (fieldsL l [])) = .string (bs T)) := by
      show _ = _
      rw [← HTT.out, ← bs_add, ← bs_add, ← bs_add]; rfl
    generalize Lib.itoa limit = I at *
    generalize fieldsL l [] = F at *
    have s0 : w5.cell? ⟨w.heap.size, 0, none⟩ = some (.int .i64 limit) := hS5.cell 0
    have s1 : w5.cell? ⟨w.heap.size, 1, none⟩ = some (.slice aa l.length ca) := hS5.cell 1
    have hlt5 : w.heap.size < w5.heap.size := hS5.lt
    have hzI : (bs I).size ≤ 400000 := by rw [bs_size]; omega
    have hzF : (bs F).size ≤ 400000 := by rw [bs_size]; omega
    have hzT : (bs T).size = T.length := bs_size T
    rw [if_pos hq] at HG
    clear hq HNP HGD HLN HLk hin5 HTT
    subst hP
    go_upto_region 4 with fail
    go_cut [5] from 11 (fun v wx => v = .string (bs T) ∧ Below w5.heap.size w5 wx)
    case first =>
      have hc0 : ∀ x, Below w5.heap.size w5 x → x.cell? ⟨w.heap.size, 0, none⟩ = some (.int .i64 limit) := fun x h => (h.cell (p := ⟨w.heap.size, 0, none⟩) hlt5).trans s0
      have hc1 : ∀ x, Below w5.heap.size w5 x → x.cell? ⟨w.heap.size, 1, none⟩ = some (.slice aa l.length ca) := fun x h => (h.cell (p := ⟨w.heap.size, 1, none⟩) hlt5).trans s1
      have HKeep : Hid (∀ x y, Below w5.heap.size w5 x → Below x.heap.size x y → Below w5.heap.size w5 y) := fun x y h1 h2 => h1.trans (h2.mono h1.size)
      clear s0 s1 x0 x1 x2 hS5 hN5 hC5 hown5 HPO
      refine wp_region_held_drew (S := fun x => Below w5.heap.size w5 x) (by kernel_rfl) ((Below.refl _ _).drew) (fun hHeld => ?_)
      refine wpAnyH_takeD (i := 0) (some 12) (v := .pointer (some ⟨w.heap.size, 0, none⟩)) rfl rfl (by kernel_rfl) (by kernel_rfl) (by kernel_rfl) (fun _ _ _ h => h) (Or.inl ⟨by kernel_rfl, ?hy0⟩) (by assumption) ?rest0
      case hy0 => (intro x hSx; (try dsimp only at hSx); go_simp; first | done | with_reducible rfl | omega)
      try simp only [Act.put, sA, sB, sC]
      refine wpAnyH_takeD (i := 1) (some 13) (v := .int .i64 limit) rfl rfl (by kernel_rfl) (by kernel_rfl) (by kernel_rfl) (fun _ _ _ h => h) (Or.inl ⟨by kernel_rfl, ?hy1⟩) (by assumption) ?rest1
      case hy1 => (intro x hSx; have hq := hc0 _ hSx; (try dsimp only at hSx); go_simp; first | done | with_reducible rfl | omega)
      try simp only [Act.put, sA, sB, sC]
      refine wpAnyH_takeD (i := 5) (some 17) (v := .pointer (some ⟨w.heap.size, 1, none⟩)) rfl rfl (by kernel_rfl) (by kernel_rfl) (by kernel_rfl) (fun _ _ _ h => h) (Or.inl ⟨by kernel_rfl, ?hy5⟩) (by assumption) ?rest5
      case hy5 => (intro x hSx; (try dsimp only at hSx); go_simp; first | done | with_reducible rfl | omega)
      try simp only [Act.put, sA, sB, sC]
      refine wpAnyH_takeD (i := 6) (some 18) (v := .slice aa l.length ca) rfl rfl (by kernel_rfl) (by kernel_rfl) (by kernel_rfl) (fun _ _ _ h => h) (Or.inl ⟨by kernel_rfl, ?hy6⟩) (by assumption) ?rest6
      case hy6 => (intro x hSx; have hq := hc1 _ hSx; (try dsimp only at hSx); go_simp; first | done | with_reducible rfl | omega)
      try simp only [Act.put, sA, sB, sC]
      refine wpAnyH_ready (rs := [2]) (by kernel_rfl) (by simp) ?_
      refine AllReadyH.cons rfl (fun K hK => ?_) AllReadyH.nil
      go_simp
      go_wp2_with (go_at_call 43; refine (hdec _).mono ?_; rintro _ y ⟨rfl, rfl⟩)
      refine hK.out _ _ hHeld (fun hH1 => ?_)
      clear hK K
      try simp only [Act.put, sA, sB, sC]
      refine wpAnyH_takeD (i := 3) (some 15) (v := .string ((⟨#[108, 105, 109, 105, 116, 32]⟩ : ByteArray) ++ bs I)) rfl rfl (by kernel_rfl) (by kernel_rfl) (by kernel_rfl) (fun _ _ _ h => h) (Or.inl ⟨by kernel_rfl, ?hy3⟩) (by assumption) ?rest3
      case hy3 => (intro x hSx; (try dsimp only at hSx); go_simp; first | done | with_reducible rfl | omega)
      try simp only [Act.put, sA, sB, sC]
      refine wpAnyH_takeD (i := 4) (some 16) (v := .string ((⟨#[108, 105, 109, 105, 116, 32]⟩ : ByteArray) ++ bs I ++ (⟨#[10]⟩ : ByteArray))) rfl rfl (by kernel_rfl) (by kernel_rfl) (by kernel_rfl) (fun _ _ _ h => h) (Or.inl ⟨by kernel_rfl, ?hy4⟩) (by assumption) ?rest4
      case hy4 => (intro x hSx; (try dsimp only at hSx); go_simp; first | done | with_reducible rfl | omega)
      try simp only [Act.put, sA, sB, sC]
      refine wpAnyH_ready (rs := [7]) (by kernel_rfl) (by simp) ?_
      refine AllReadyH.cons rfl (fun K hK => ?_) AllReadyH.nil
      go_simp
      go_wp2_with (go_at_call 44; refine (HLC.out _ hH1).mono ?_; rintro _ y ⟨rfl, hby⟩)
      refine hK.out _ _ (HKeep.out _ _ hH1 hby) (fun hH2 => ?_)
      clear hK K
      try simp only [Act.put, sA, sB, sC]
      refine wpAnyH_ready (rs := [8]) (by kernel_rfl) (by simp) ?_
      refine AllReadyH.cons rfl (fun K hK => ?_) AllReadyH.nil
      go_simp
      rw [if_neg (by omega)]
      refine hK.out _ _ hH2 (fun hH3 => ?_)
      clear hK K
      try simp only [Act.put, sA, sB, sC]
      refine wpAnyH_ready (rs := [9]) (by kernel_rfl) (by simp) ?_
      refine AllReadyH.cons rfl (fun K hK => ?_) AllReadyH.nil
      go_simp
      refine hK.out _ _ hH3 (fun hH4 => ?_)
      clear hK K
      try simp only [Act.put, sA, sB, sC]
      refine wpAnyH_done (by kernel_rfl) ?_ _
      go_wp2_with fail
      go_meet
      case rel => exact ⟨HTv.out, hH4⟩
    case rest =>
    obtain ⟨rfl, hb6⟩ := hcut
    have hb06 := hb05.trans (hb6.mono hb05.size)
    have hN6 := hN5.old hb6
    have hC6 := hC5.old hb6
    have ho6 : IOwn wc w2.heap.size (.slice pa 0 pc) [] := own_after hown5 hb6
    clear s0 s1 x0 x1 x2 hS5 hN5 hC5 hown5 hb6 hdec HLC HTv
    by_cases hlong : 65536 < T.length
    · have t2 : decide ((65536 : Int) < ((bs T).size : Int)) = true := decide_eq_true (by rw [hzT]; omega)
      have t3 : decide (65536 < (bs T).size) = true := decide_eq_true (by rw [hzT]; exact hlong)
      rw [if_pos hlong] at HG
      have hB9 := hN6.set3 (.int .i64 2) (.int .i64 0) (.slice none 0 0)
      have hPost := HPO.out wc ([], 2, []) none 0 hb06 (IOwn.nil _ _)
      obtain ⟨v0, v1, v2, g0, g1, g2⟩ := rcells hN6
      clear hzT hlong HPO
      go_wp2_with fail
      exact bodyPost_ret (rprn_results hB9 rfl rfl) rfl (by rw [← HG.out]; exact hPost)
    · have t2 : decide ((65536 : Int) < ((bs T).size : Int)) = false := decide_eq_false (by rw [hzT]; omega)
      have t3 : decide (65536 < (bs T).size) = false := decide_eq_false (by rw [hzT]; exact hlong)
      rw [if_neg hlong] at HG
      rw [HQ.out] at hC6
      have hB9 := hN6.set3 (.int .i64 0) (.int .i64 0) (.slice pa 0 pc)
      have hPost := HPO.out wc (T, 0, []) pa pc hb06 ho6
      obtain ⟨v0, v1, v2, g0, g1, g2⟩ := rcells hN6
      obtain ⟨x0, x1, x2, _, _, _⟩ := rcells hC6
      clear hzT hlong HPO hN6 hC6
      go_upto_region 7 with fail
      go_region
      all_goals (go_wp2_with fail; exact bodyPost_ret (rprn_results (h := B) (a := .int .i64 0) (b := .int .i64 0) (c := .slice pa 0 pc) hB9 rfl rfl) rfl (by rw [← HG.out]; exact ⟨hPost.1.drew, hPost.2⟩))
  · have t1 : (q == 0) = false := by simpa using hq
    have t1b : (q != 0) = true := by simp [hq]
    have t1c : decide (q = 0) = false := decide_eq_false hq
    have hB9 := hN5.set3 (.int .i64 q) (.int .i64 0) (.slice pa P.length pc)
    have hPost := HPO.out w5 ([], q, P) pa pc hb05 hown5
    obtain ⟨v0, v1, v2, g0, g1, g2⟩ := rcells hN5
    rw [if_neg hq] at HG
    clear hq HGD HNP HLN HPO hN5 hC5
    go_upto_region 3 with fail
    go_region
    all_goals (go_wp2_with fail; exact bodyPost_ret (rprn_results (h := B) (a := .int .i64 q) (b := .int .i64 0) (c := .slice pa P.length pc) hB9 rfl rfl) rfl (by rw [← HG.out]; exact ⟨hPost.1.drew, hPost.2⟩))
end Go.Proofs.YtcbjnifoojjipaaGreatDoor
