/- What dovetaillaw06.written does of two elements or none; TableImplied's walk (nothing is claimed here). -/
import Derived.Test.YtfeppbiodbhpcaaDoorRefI
namespace Go.Proofs.YtfeppbiodbhpcaaDoor
open Go.RowKit Go.Vf Go.Maps

theorem row_set4 {w : World} {base g n c : Nat} {e : TypeId} {size : Nat} {xs : List Value} (h : w.ownsRow base e size (.slice (some ⟨g, 0, none⟩) n c) n xs) (k : Nat) (a0 a1 a2 a3 : Value) : ∃ ys, ((((w.setCell ⟨g, k, none⟩ a0).setCell ⟨g, k + 1, none⟩ a1).setCell ⟨g, k + 2, none⟩ a2).setCell ⟨g, k + 3, none⟩ a3).ownsRow base e size (.slice (some ⟨g, 0, none⟩) n c) n ys :=
  ⟨_, row_set (row_set (row_set (row_set h k a0) (k + 1) a1) (k + 2) a2) (k + 3) a3⟩
/-- A row of elements that the call owns, whatever they are. -/
def XOwn (w : World) (base : Nat) (v : Value) (n : Nat) : Prop := ∃ xs, w.ownsRow base 49 4 v n xs
theorem below_set4k {B b : Nat} {w W : World} (h : Below B w W) (hB : B ≤ b) (k : Nat) (a0 a1 a2 a3 : Value) : Below B w ((((W.setCell ⟨b, k, none⟩ a0).setCell ⟨b, k + 1, none⟩ a1).setCell ⟨b, k + 2, none⟩ a2).setCell ⟨b, k + 3, none⟩ a3) :=
  (((h.setCell (p := ⟨b, k, none⟩) hB _).setCell (p := ⟨b, k + 1, none⟩) hB _).setCell (p := ⟨b, k + 2, none⟩) hB _).setCell (p := ⟨b, k + 3, none⟩) hB _
/-- 'l = append(l, e)' of an element, whatever the list holds. -/
theorem wpList_append_x {w : World} {ops : Array Oper} {rest : List Oper} {o : Oper} {a : Act} {Q : Exit → Act → World → Prop} (hgd : o.guard = none) (s x : Operand)
    (ho : o.op = .call { callee := .builtin .append, args := #[s, x], argTypes := #[35, 35] })
    (base : Nat) (v : Value) (n : Nat) (hs : a.eval s = v) (hown : XOwn w base v n) (va : Bool) (pr se te : Int) (hx : a.eval x = .slice (some ⟨w.heap.size, 0, none⟩) 1 1)
    (hlen : n ≤ 1099511627776) (hbase : base ≤ w.heap.size)
    (h : ∀ a' c' w', XOwn w' base (.slice a' (n + 1) c') (n + 1) → (w.alloc (.cells #[.bool va, .int .i64 pr, .int .i64 se, .int .i64 te] 49)).grownBy w' v.ownBlock → ((Value.slice a' (n + 1) c').ownBlock = v.ownBlock ∨ (Value.slice a' (n + 1) c').ownBlock = some (w.heap.size + 1)) → wpList Tryd.prog ops Q rest (a.put o.dst (.slice a' (n + 1) c')) w') :
    wpList Tryd.prog ops Q (o :: rest) a (w.alloc (.cells #[.bool va, .int .i64 pr, .int .i64 se, .int .i64 te] 49)) := by
  obtain ⟨xs, hown⟩ := hown
  obtain ⟨i, hi, hz, hsz, hby⟩ := info_parts info49
  have hb := Blk.new w 49 #[.bool va, .int .i64 pr, .int .i64 se, .int .i64 te]
  refine wpList_append_own_at (P := Tryd.prog) _ hgd s x 35 ho base 49 i _ 4 32 Tryd.underlying35 hi hz hsz hby rfl (by decide) v n xs hs (World.ownsRow.alloc hown _) ⟨w.heap.size, 0, none⟩ 1 1 [.bool va, .int .i64 pr, .int .i64 se, .int .i64 te] hx (by rfl) ?_ ?_ ?_ ?_ ?_ ?_
  · intro j u hu
    match j, hu with
    | 0, hu => simp at hu; subst hu; exact hb.cell 0
    | 1, hu => simp at hu; subst hu; exact hb.cell 1
    | 2, hu => simp at hu; subst hu; exact hb.cell 2
    | 3, hu => simp at hu; subst hu; exact hb.cell 3
  · intro u hu; simp at hu; rcases hu with rfl | rfl | rfl | rfl <;> rfl
  · unfold maxLen; omega
  · omega
  · simp; omega
  · intro v' w' h1 h2 _ hat
    obtain ⟨a', c', rfl⟩ := row_val h1
    refine h a' c' w' ⟨_, h1⟩ h2 (hat.imp id (fun e => by rw [e]; simp))

theorem grown_set {w wr : World} {row : Option Nat} {g : Nat} (h : w.grownBy wr row) (hg : some g = row) (k : Nat) (u : Value) : w.grownBy (wr.setCell ⟨g, k, none⟩ u) row :=
  ⟨h.os, h.tape, h.output, by simpa [World.setCell] using h.size, fun j hj hne => (Below.heap_setCell wr ⟨g, k, none⟩ u j (by show j ≠ g; rintro rfl; exact hne hg)).trans (h.block j hj hne)⟩
theorem grown_on {w wr w3 : World} {row r2 : Option Nat} (h : w.grownBy wr row) (h2 : wr.grownBy w3 r2) (hr : r2 = row ∨ ∀ g, r2 = some g → w.heap.size ≤ g) : w.grownBy w3 row :=
  ⟨h2.os.trans h.os, h2.tape.trans h.tape, h2.output.trans h.output, Nat.le_trans h.size h2.size, fun j hj hne => (h2.block j (Nat.lt_of_lt_of_le hj h.size) (fun e => by
    rcases hr with hr | hr
    · exact hne (e.trans hr)
    · have := hr j e.symm; omega)).trans (h.block j hj hne)⟩
theorem grown_refl (w : World) (row : Option Nat) : w.grownBy w row := ⟨rfl, rfl, rfl, Nat.le_refl _, fun _ _ _ => rfl⟩
theorem grown_alloc {w wr : World} {row : Option Nat} (h : w.grownBy wr row) (o : Obj) : w.grownBy (wr.alloc o) row := grown_on h (grown_of_below ((Below.refl _ wr).alloc (Nat.le_refl _) o)) (.inr (fun g e => by cases e))

set_option maxHeartbeats 2000000 in
set_option maxRecDepth 20000 in
theorem written_any (base : Nat) (v : Value) (n : Nat) (w : World) (hn : n ≤ 1048576) (hbase : base ≤ w.heap.size) (hown : XOwn w base v n) :
    Calls Tryd.prog 22 #[v] w fun e w' => e = .returned (.tuple #[]) ∧ w.grownBy w' v.ownBlock := by
  obtain ⟨a, cap, rfl⟩ : ∃ a cap, v = .slice a n cap := by obtain ⟨xs, h⟩ := hown; exact row_val h
  generalize hrow : (Value.slice a n cap).ownBlock = row
  have HROW : Hid ((Value.slice a n cap).ownBlock = row) := hrow
  clear hrow
  go_enter Tryd.func22, Tryd.ntmps22
  go_wp2_with fail
  go_loopw [2] (fun i wr => ∃ k : Nat, k ≤ n ∧ i = .int .i64 k ∧ XOwn wr base (.slice a n cap) n ∧ w.grownBy wr row) (fun i _ => n - (intOf i).toNat)
  case atStart => exact ⟨0, by omega, rfl, hown, grown_refl _ _⟩
  case round =>
    clear hown
    obtain ⟨k, hk, rfl, hown, hgr⟩ := hrel
    by_cases hlt : k < n
    · obtain ⟨xs, hx⟩ := hown
      obtain ⟨g, hg, hcell, hfz⟩ : ∃ g, a = some ⟨g, 0, none⟩ ∧ (∀ j, j < n * 4 → ∃ u, wr.cell? ⟨g, j, none⟩ = some u) ∧ ∀ j, wr.frozen? ⟨g, j, none⟩ = false := by
        rcases hx.2 with ⟨e, h0⟩ | ⟨g, c', cur, e, hb, hh, hc1, hc2, hc3, hc4⟩
        · omega
        · cases e
          refine ⟨g, rfl, fun j hj => ⟨cur[j]'(by omega), ?_⟩, fun j => by simp [World.frozen?, hh]⟩
          simp only [World.cell?, hh]
          simp
      subst hg
      obtain ⟨u0, c0⟩ := hcell (k * 4) (by omega)
      obtain ⟨u1, c1⟩ := hcell (k * 4 + 1) (by omega)
      obtain ⟨u2, c2⟩ := hcell (k * 4 + 2) (by omega)
      obtain ⟨u3, c3⟩ := hcell (k * 4 + 3) (by omega)
      have f0 := hfz (k * 4)
      have f1 := hfz (k * 4 + 1)
      have f2 := hfz (k * 4 + 2)
      have f3 := hfz (k * 4 + 3)
      obtain ⟨ys, hy⟩ := row_set4 hx (k * 4) (.bool false) (.int .i64 (-5)) (.int .i64 0) (.int .i64 0)
      have hgrow : some g = row := HROW.out
      have hg' := grown_set (grown_set (grown_set (grown_set hgr hgrow (k * 4) (.bool false)) hgrow (k * 4 + 1) (.int .i64 (-5))) hgrow (k * 4 + 2) (.int .i64 0)) hgrow (k * 4 + 3) (.int .i64 0)
      clear hcell hfz hx hgr hgrow
      go_wp2_with fail
      go_roundw
      case rel => exact ⟨k + 1, by omega, by simp, ⟨ys, hy⟩, hg'⟩
      case measure => simp only [intOf]; omega
    · go_wp2_with fail
      go_loopw [0, 3] (fun v i wr => ∃ (k m : Nat), k ≤ 9 ∧ i = .int .i64 k ∧ m = n + k ∧ XOwn wr base v m ∧ w.grownBy wr row ∧ Hid (v.ownBlock = row ∨ ∀ g, v.ownBlock = some g → w.heap.size ≤ g)) (fun _ i _ => 9 - (intOf i).toNat)
      case atStart => exact ⟨0, n, by omega, rfl, rfl, hown, hgr, .inl HROW.out⟩
      case round =>
        clear hown hgr
        obtain ⟨k2, m, hk2, rfl, hmm, hown, hgr, HOB⟩ := hrel
        have hml : m ≤ 1099511627776 := by omega
        have HM : Hid (m = n + k2) := hmm
        clear hmm
        obtain ⟨a2, cap2, hv⟩ : ∃ a2 cap2, u0 = Value.slice a2 m cap2 := by obtain ⟨xs, h⟩ := hown; exact row_val h
        subst hv
        have hsz : base ≤ wr.heap.size := Nat.le_trans hbase hgr.size
        have hsw := hgr.size
        by_cases hlt2 : k2 < 9
        · go_wp2_with (first | (at_builtin; refine wpList_append_x rfl _ _ rfl base _ m rfl hown false (-6) 0 0 rfl hml hsz ?_; intro a' c' w3 hown3 hgr3 hat3))
          have hg3 : w.grownBy w3 row := grown_on (grown_alloc hgr _) hgr3 HOB.out
          have HOB3 : Hid ((Value.slice a' (m + 1) c').ownBlock = row ∨ ∀ g, (Value.slice a' (m + 1) c').ownBlock = some g → w.heap.size ≤ g) := by
            rcases hat3 with e | e
            · rcases HOB.out with h | h
              · exact .inl (e.trans h)
              · exact .inr (fun g hg => h g (e.symm.trans hg))
            · exact .inr (fun g hg => by rw [e] at hg; cases hg; omega)
          clear hat3
          go_wp2
          go_roundw
          case rel => exact ⟨k2 + 1, m + 1, by omega, by simp, by have := HM.out; omega, hown3, hg3, HOB3⟩
          case measure => simp only [intOf]; omega
        · go_wp2
          go_end0
          exact ⟨rfl, hgr⟩

/-! ### what is implied is one to one -/
theorem baseR_three (n : Int) : baseR n = 64320 ∨ baseR n = 64384 ∨ baseR n = 64448 := by
  unfold baseR
  split
  · exact .inl rfl
  · split
    · exact .inr (.inl rfl)
    · exact .inr (.inr rfl)
theorem imp_inj {p q : Int} (hp : 0 ≤ p ∧ p ≤ 1114111) (hq : 0 ≤ q ∧ q ≤ 1114111) (h1 : baseR p + p / 32768 = baseR q + q / 32768) (h2 : 32768 + p % 32768 = 32768 + q % 32768) : p = q := by
  rcases baseR_three p with h | h | h <;> rcases baseR_three q with k | k | k <;> rw [h, k] at h1 <;> omega
theorem xown {w : World} {base : Nat} {v : Value} {l : List El} (h : EOwn w base v l) : XOwn w base v l.length := ⟨_, h⟩
theorem els_grown {w w' : World} {row : Option Nat} {n₀ : Nat} {v : Value} {l : List El} (h : Els n₀ w v l) (hn : n₀ ≤ w.heap.size) (hg : w.grownBy w' row) (hr : ∀ b off n c, v = .slice (some ⟨b, off, none⟩) n c → some b ≠ row) : Els n₀ w' v l := by
  rcases h with h | ⟨b, off, cap, e, hlt, hc⟩
  · exact .inl h
  · have hbl : w'.heap[b]? = w.heap[b]? := hg.block b (by omega) (hr b off _ _ e)
    refine .inr ⟨b, off, cap, e, hlt, fun j hj => ?_⟩
    have q : ∀ k, w'.cell? ⟨b, k, none⟩ = w.cell? ⟨b, k, none⟩ := fun k => by simp only [World.cell?, hbl]
    obtain ⟨h0, h1, h2, h3⟩ := hc j hj
    exact ⟨(q _).trans h0, (q _).trans h1, (q _).trans h2, (q _).trans h3⟩
theorem grown_cell0 {w w' : World} {row : Option Nat} (hg : w.grownBy w' row) {B : Nat} (hr : ∀ g, row = some g → B ≤ g) (hB : B ≤ w.heap.size) : Below B w w' :=
  ⟨hg.os, hg.tape, hg.output, hg.size, fun k hk => hg.block k (by omega) (fun e => by have := hr k e.symm; omega)⟩

end Go.Proofs.YtfeppbiodbhpcaaDoor
