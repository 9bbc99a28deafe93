/- What the statement FitTurns does (a contract; nothing is claimed here). -/
import Derived.Test.YtkjoomdglealmaaGreatDoorJ28
import Derived.Test.YtkjoomdglealmaaGreatDoorJ30
import Derived.Test.YtkjoomdglealmaaGreatDoorVOf
import Derived.Test.YtkjoomdglealmaaGreatDoorAsk
import Derived.Test.YtkjoomdglealmaaGreatDoorRmay
namespace Go.Proofs.YtkjoomdglealmaaGreatDoor
open Go.RowKit Go.Vf

/-- The field of one list. -/
theorem one_field (o : Go.Vf.Own) (l : List Fld) (a : Option Addr) (c lo n₀ : Nat) (w : World) (hc : l.length ≤ c) (hn₀ : n₀ ≤ w.heap.size) (hin : FIn w lo n₀ l a) :
    FIn (w.alloc (.cells #[.string o.name, .int .u8 o.kind, .bool o.down, .int .u8 o.nulls, .bool o.bnd, .bool o.ln, .string o.lm, .bool o.hn, .string o.hm, .int .i64 o.most, .int .i64 o.str, .bool o.shf, .bool o.bck, .slice a l.length c] 57)) 0 (w.alloc (.cells #[.string o.name, .int .u8 o.kind, .bool o.down, .int .u8 o.nulls, .bool o.bnd, .bool o.ln, .string o.lm, .bool o.hn, .string o.hm, .int .i64 o.most, .int .i64 o.str, .bool o.shf, .bool o.bck, .slice a l.length c] 57)).heap.size [.mk o l] (some ⟨w.heap.size, 0, none⟩) := by
  have hb := (Below.refl w.heap.size w).alloc (Nat.le_refl _) (.cells #[.string o.name, .int .u8 o.kind, .bool o.down, .int .u8 o.nulls, .bool o.bnd, .bool o.ln, .string o.lm, .bool o.hn, .string o.hm, .int .i64 o.most, .int .i64 o.str, .bool o.shf, .bool o.bck, .slice a l.length c] 57)
  have hs := alloc_size w (.cells #[.string o.name, .int .u8 o.kind, .bool o.down, .int .u8 o.nulls, .bool o.bnd, .bool o.ln, .string o.lm, .bool o.hn, .string o.hm, .int .i64 o.most, .int .i64 o.str, .bool o.shf, .bool o.bck, .slice a l.length c] 57)
  have hN := Blk.new w 57 #[.string o.name, .int .u8 o.kind, .bool o.down, .int .u8 o.nulls, .bool o.bnd, .bool o.ln, .string o.lm, .bool o.hn, .string o.hm, .int .i64 o.most, .int .i64 o.str, .bool o.shf, .bool o.bck, .slice a l.length c]
  refine .cons (fun _ => a) (fun _ => c) (Nat.zero_le _) (by rw [hs]; omega) (fun j hj => ?_) (fun j hj => ?_) (fun j hj => ?_)
  · rcases j with _ | j
    · exact Blk.rowF (o := o) (a := a) (n := l.length) (c := c) hN
    · simp at hj
  · rcases j with _ | j
    · exact hc
    · simp at hj
  · rcases j with _ | j
    · exact (hin.keep hb hn₀).mono (by have := hb.size; omega) (Nat.zero_le _)
    · simp at hj
theorem err_none {w w' : World} {e : Ending} (h : ErrPost none w e w') : e = .returned .nilIface ∧ Below w.heap.size w w' := ⟨h.2, h.1⟩
/-- An error's value: nothing, or a Fault. -/
theorem err_val {r : Bad} {w w' : World} {e : Ending} (h : ErrPost r w e w') : ∃ v, e = .returned v ∧ Below w.heap.size w w' ∧ ((r = none ∧ v = .nilIface) ∨ (r ≠ none ∧ ∃ F, v = .iface 98 (.pointer (some ⟨F, 0, none⟩)))) := by
  cases r with
  | none => exact ⟨_, h.2, h.1, .inl ⟨rfl, rfl⟩⟩
  | some q =>
    obtain ⟨cc, aa, P, y⟩ := q
    obtain ⟨h1, v, why, h2, ⟨F, x, y, h3, _⟩, _⟩ := h
    exact ⟨v, h2, h1, .inr ⟨by simp, F, h3⟩⟩

theorem VIn.someI {w : World} {lo n : Nat} {v : Value} {p : Prt} (h : VIn w lo n v p) (hk : p.kind ≠ 0) : ∃ t x, v = .iface t x := by
  cases h with
  | null => exact absurd rfl hk
  | truth y => exact ⟨_, _, rfl⟩
  | num b m => exact ⟨_, _, rfl⟩
  | raw k r h => exact ⟨_, _, rfl⟩
  | tup V a b c d e => exact ⟨_, _, rfl⟩
theorem VIn.nil0 {w : World} {lo n : Nat} {v : Value} {p : Prt} (h : VIn w lo n v p) (hk : p.kind = 0) : v = .nilIface := by
  cases h with
  | null => rfl
  | truth y => cases hk
  | num b m => cases hk
  | raw k r h => rw [Prt.kind] at hk; subst hk; cases h
  | tup V a b c d e => cases hk
theorem VIn.cells1 {w : World} {lo n : Nat} {v : Value} {p : Prt} (h : VIn w lo n v p) : v.cells = #[v] := by cases h <;> rfl
theorem VIn.tup7 {w : World} {lo n : Nat} {v : Value} {p : Prt} (h : VIn w lo n v p) (hk : p.kind = 7) : ∃ (t : List Prt) (g c : Nat) (a : Option Addr) (V : Nat → Value), v = .iface 112 (.pointer (some ⟨g, 0, none⟩)) ∧ p = .mk 7 false false ⟨#[]⟩ ⟨#[]⟩ t ∧ lo ≤ g ∧ g < n ∧ Blk w g 116 #[.slice a t.length c, .int .i64 ((depL t + 1 : Nat) : Int)] ∧
    (∀ j, j < t.length → ∃ h off, a = some ⟨h, off, none⟩ ∧ lo ≤ h ∧ h < n ∧ w.cell? ⟨h, off + j, none⟩ = some (V j)) ∧ (∀ j (hj : j < t.length), VIn w lo n (V j) t[j]) := by
  cases h with
  | null => cases hk
  | truth y => cases hk
  | num b m => cases hk
  | raw k r h => rw [Prt.kind] at hk; subst hk; cases h
  | tup V a b c d e => exact ⟨_, _, _, _, V, rfl, rfl, a, b, c, d, e⟩
theorem lst_kind (o : Go.Vf.Own) (l : List Fld) : (lst (.mk o l)).kind = o.kind := by rw [lst]; rfl
/-- The field turned. -/
def turnO (o : Go.Vf.Own) (k : Int) : Go.Vf.Own := { o with name := ⟨#[111, 116, 104, 101, 114]⟩, down := !o.down, nulls := k }
theorem turn_say {o : Go.Vf.Own} {k : Int} {n : Nat} (h : maySayO (bndQ o) o n = true) (_hk0 : 0 ≤ k) (hk2 : k ≤ 2) : maySayO (bndQ (turnO o k)) (turnO o k) n = true := by
  unfold maySayO at h ⊢
  have e : bndQ (turnO o k) = bndQ o := rfl
  rw [e]
  simp only [show (turnO o k).kind = o.kind from rfl, show (turnO o k).nulls = k from rfl, show (turnO o k).bnd = o.bnd from rfl, show (turnO o k).ln = o.ln from rfl, show (turnO o k).lm = o.lm from rfl, show (turnO o k).hn = o.hn from rfl, show (turnO o k).hm = o.hm from rfl, show (turnO o k).most = o.most from rfl, show (turnO o k).str = o.str from rfl, show (turnO o k).shf = o.shf from rfl, show (turnO o k).bck = o.bck from rfl, Bool.and_eq_true, decide_eq_true_eq] at h ⊢
  obtain ⟨⟨⟨⟨⟨⟨h1, h2⟩, h3⟩, h4⟩, h5⟩, h6⟩, h7⟩ := h
  exact ⟨⟨⟨⟨⟨⟨h1, h2⟩, hk2⟩, h4⟩, h5⟩, h6⟩, h7⟩
theorem turn_unf {U : ByteArray → Int} {o : Go.Vf.Own} {k : Int} {l : List Fld} {p : Prt} (hp : p.kind ≠ 0) : unf U (.mk (turnO o k) l) p = unf U (.mk o l) p := by
  obtain ⟨kk, y, b, m, r, t⟩ := p
  have hp' : kk ≠ 0 := hp
  rw [unf, unf, if_neg hp', if_neg hp']
  rfl
theorem turn_null {U : ByteArray → Int} {o : Go.Vf.Own} {k : Int} {l : List Fld} {p : Prt} (hp : p.kind = 0) : (unf U (.mk (turnO o k) l) p = none ↔ k ≠ 0) := by
  obtain ⟨kk, y, b, m, r, t⟩ := p
  have hp' : kk = 0 := hp
  rw [unf, if_pos hp']
  show (if k = 0 then some (121, 0, [], 0) else none) = none ↔ k ≠ 0
  by_cases h : k = 0
  · rw [if_pos h]; simp [h]
  · rw [if_neg h]; simp [h]
theorem turn_fits {o : Go.Vf.Own} {l : List Fld} {k : Int} (h : FitsF 17179869184 (.mk o l)) (h0 : 0 ≤ k) (h2 : k ≤ 2) : FitsF 17179869184 (.mk (turnO o k) l) := by
  have ho := h.own
  refine .mk ⟨ho.k0, ho.k1, h0, by show k < 256; omega, by show (5 : Nat) ≤ _; decide, ho.lm, ho.hm, ho.m0, ho.m1, ho.s0, ho.s1⟩ h.len (fun x hx => h.mem hx)
theorem turn_chk {o : Go.Vf.Own} {l : List Fld} {k : Int} (h : (chkS bndQ 65536 [.mk o l]).1 = 0) (h0 : 0 ≤ k) (h2 : k ≤ 2) : (chkS bndQ 65536 [.mk (turnO o k) l]).1 = 0 := by
  have hs := chkS_seen h (.mk o l) (by simp)
  have hsay : maySayO (bndQ o) o l.length = true := by cases hs with | mk a b c d e => exact c
  exact chkS_turn h (by show isNameS ⟨#[111, 116, 104, 101, 114]⟩ = true; decide) (turn_say hsay h0 h2) rfl
theorem one_may {p : Prt} (h : may p = true) : may (tupP [p]) = true := by
  rw [may_eq]
  simp [own1, own2, tupP, Prt.kind, Prt.yes, Prt.neg, Prt.mag, Prt.raw, Prt.items, isRawK, h]
  rfl
theorem below_drewN' (w : World) (n : Nat) : Below w.heap.size w (w.drewN n) := ⟨rfl, rfl, rfl, Nat.le_refl _, fun _ _ => rfl⟩
theorem argE_0 (r : Bad) : argE 0 r = r := rfl
/-- value.Of of one value. -/
theorem of_one (v : Value) (p : Prt) (lo n₀ : Nat) (w : World) (hn₀ : n₀ ≤ w.heap.size) (hv : VIn w lo n₀ v p) (hm : may p = true) (hd : dep p ≤ 16) :
    Calls Tryz.prog 27 #[.slice (some ⟨w.heap.size, 0, none⟩) 1 1] (w.alloc (.cells #[v] 37)) fun e w' => Below w.heap.size w w' ∧ ∃ tv hc pt, e = .returned (.tuple #[tv, .int .i64 hc]) ∧ VIn w' 0 w'.heap.size tv pt ∧ may pt = true ∧ dep pt ≤ 100 ∧ ((hc = 0 ∧ pt = tupP [p]) ∨ hc ≠ 0) := by
  have hb := (Below.refl w.heap.size w).alloc (Nat.le_refl _) (.cells #[v] 37)
  have hs := alloc_size w (.cells #[v] 37)
  have ho : VOwn (w.alloc (.cells #[v] 37)) w.heap.size (.slice (some ⟨w.heap.size, 0, none⟩) 1 1) [v] := ⟨by simp, .inr ⟨w.heap.size, 1, #[v], rfl, Nat.le_refl _, heap_alloc_new w _, by simp, by simp [maxLen], by simp, by simp⟩⟩
  have hdl : depL [p] = dep p := by rw [depL, depL]; omega
  have hv' := hv.old hb hn₀
  refine (of_any _ [v] [p] (by simp) rfl (by omega) (fun b => b < w.heap.size) w.heap.size (w.alloc (.cells #[v] 37)) (fun b h => by rw [hs]; omega) ho (fun j hj => ?_)).mono ?_
  · rcases j with _ | j
    · exact VAt.of hv' fun b _ h => by omega
    · simp at hj
  rintro e w' ⟨h1, ⟨h2, _⟩ | ⟨_, h2, rfl⟩ | ⟨_, h2, g, rfl, h3⟩⟩
  · simp at h2
  · exact ⟨hb.trans (h1.mono hb.size), _, _, _, rfl, .null, by decide, by decide, .inr (by decide)⟩
  · have hsz := h1.size
    refine ⟨hb.trans (h1.mono hb.size), _, _, tupP [p], rfl, h3.to (fun b hb' => ⟨Nat.zero_le _, ?_⟩), one_may hm, ?_, .inl ⟨rfl, rfl⟩⟩
    · rcases hb' with h | h
      · omega
      · exact h.2
    · rw [tupP, dep, if_pos rfl]; omega
/-- A tuple of one item. -/
theorem one_unf {U : ByteArray → Int} {f : Fld} {p : Prt} : (unf U (.mk tupO [f]) (tupP [p]) = none ↔ unf U f p = none) := by
  rw [tupP, unf, if_neg (by decide), if_neg (fun h => h rfl), if_neg (by decide), if_neg (by decide), if_pos rfl, if_neg (by simp)]
  cases h : unf U f p with
  | none => rw [unfL_on h, unfL_nil]
  | some r => rw [unfL_hit h]; obtain ⟨c, a, P, y⟩ := r; simp [ahead]
/-- What a tuple's field says of its items. -/
theorem tup_unf {U : ByteArray → Int} {o : Go.Vf.Own} {l : List Fld} {t : List Prt} (h : unf U (.mk o l) (.mk 7 false false ⟨#[]⟩ ⟨#[]⟩ t) = none) : t.length = l.length ∧ ∀ j (h1 : j < l.length) (h2 : j < t.length), unf U l[j] t[j] = none := by
  rw [unf, if_neg (by decide)] at h
  split at h; · cases h
  rw [if_neg (by decide), if_neg (by decide), if_pos rfl] at h
  split at h; · cases h
  rename_i h1 h2
  have e : t.length = l.length := Classical.byContradiction h2
  exact ⟨e, (unfL_none e.symm).1 h⟩

set_option maxHeartbeats 16000000 in
set_option maxRecDepth 40000 in
theorem turns_any (o : Go.Vf.Own) (l : List Fld) (p : Prt) (n : Int) (hn1 : -9223372036854775808 ≤ n) (hn2 : n < 9223372036854775808) (a pa : Option Addr) (c pc lo n₀ : Nat) (w : World) (hf : FitsF 281474976710656 (.mk o l)) (hp : Fits p) (hc : l.length ≤ c) (hn₀ : n₀ ≤ w.heap.size) (hin : FIn w lo n₀ l a) (hpin : PIn w lo n₀ p pa) (hT : Tabs w) (hE : ErrT w) :
    Calls Tryz.prog 5 #[fV o a l.length c, pV p pa pc, .int .i64 n] w fun e w' => e = .returned (.bool true) ∧ Below w.heap.size w w' := by
  have h3z := hT.size
  have hb1 := (Below.refl w.heap.size w).alloc (Nat.le_refl _) (.cells #[.string o.name, .int .u8 o.kind, .bool o.down, .int .u8 o.nulls, .bool o.bnd, .bool o.ln, .string o.lm, .bool o.hn, .string o.hm, .int .i64 o.most, .int .i64 o.str, .bool o.shf, .bool o.bck, .slice a l.length c] 57)
  have hs1 := alloc_size w (.cells #[.string o.name, .int .u8 o.kind, .bool o.down, .int .u8 o.nulls, .bool o.bnd, .bool o.ln, .string o.lm, .bool o.hn, .string o.hm, .int .i64 o.most, .int .i64 o.str, .bool o.shf, .bool o.bck, .slice a l.length c] 57)
  have hA1 := Blk.new w 57 #[.string o.name, .int .u8 o.kind, .bool o.down, .int .u8 o.nulls, .bool o.bnd, .bool o.ln, .string o.lm, .bool o.hn, .string o.hm, .int .i64 o.most, .int .i64 o.str, .bool o.shf, .bool o.bck, .slice a l.length c]
  have hb12 := (Below.refl _ (w.alloc (.cells #[.string o.name, .int .u8 o.kind, .bool o.down, .int .u8 o.nulls, .bool o.bnd, .bool o.ln, .string o.lm, .bool o.hn, .string o.hm, .int .i64 o.most, .int .i64 o.str, .bool o.shf, .bool o.bck, .slice a l.length c] 57))).alloc (Nat.le_refl _) (.cells #[.int .u8 p.kind, .bool p.yes, .bool p.neg, .string p.mag, .string p.raw, .slice pa p.items.length pc] 30)
  have hb2 := hb1.trans (hb12.mono hb1.size)
  have hP2 := Blk.new (w.alloc (.cells #[.string o.name, .int .u8 o.kind, .bool o.down, .int .u8 o.nulls, .bool o.bnd, .bool o.ln, .string o.lm, .bool o.hn, .string o.hm, .int .i64 o.most, .int .i64 o.str, .bool o.shf, .bool o.bck, .slice a l.length c] 57)) 30 #[.int .u8 p.kind, .bool p.yes, .bool p.neg, .string p.mag, .string p.raw, .slice pa p.items.length pc]
  have hA2 := hA1.old hb12
  rw [hs1] at hP2
  unfold fV pV
  go_enter Tryz.func5, Tryz.ntmps5
  go_upto_region 1 with fail
  generalize ((w.alloc (.cells #[.string o.name, .int .u8 o.kind, .bool o.down, .int .u8 o.nulls, .bool o.bnd, .bool o.ln, .string o.lm, .bool o.hn, .string o.hm, .int .i64 o.most, .int .i64 o.str, .bool o.shf, .bool o.bck, .slice a l.length c] 57)).alloc (.cells #[.int .u8 p.kind, .bool p.yes, .bool p.neg, .string p.mag, .string p.raw, .slice pa p.items.length pc] 30)) = w2 at *
  have hz2 := hb2.size
  have hz0 : 0 < w.heap.size := by omega
  clear hb1 hs1 hA1 hb12
  have hup := awake_any w2 (hT.own hb2) (hE.old hz0 hb2)
  go_wp2_with fail
  refine hup.mono ?_
  rintro _ w3 ⟨rfl, hb3⟩
  have hb03 := hb2.trans (hb3.mono hb2.size)
  have hA3 := hA2.old hb3
  have hP3 := hP2.old hb3
  have hz3 := hb03.size
  clear hup hA2 hP2 hb3 hb2 hz2
  have hwt := weight_any p hp pa pc 0 lo n₀ w3 (by omega) (hpin.keep hb03 hn₀) (by decide)
  unfold pV at hwt
  obtain ⟨q0, q1, q2, q3, q4, q5⟩ := hP3.c6
  obtain ⟨H, hH⟩ : ∃ H, hvy p 0 0 = H := ⟨_, rfl⟩
  rw [hH] at hwt
  go_wp2_with fail
  refine hwt.mono ?_
  rintro _ w4 ⟨rfl, hb4⟩
  have hb04 := hb03.trans (hb4.mono hb03.size)
  have hA4 := hA3.old hb4
  have hP4 := hP3.old hb4
  have hz4 := hb04.size
  clear hwt hA3 hP3 hb4 hb03 hz3 q0 q1 q2 q3 q4 q5
  by_cases hbig : 67108864 < H
  · have t1 : decide ((67108864 : Int) < (H : Int)) = true := decide_eq_true (by omega)
    have t2 : decide (67108864 < H) = true := decide_eq_true hbig
    clear hin hpin
    go_wp2_with fail
    go_ret
    exact ⟨rfl, hb04⟩
  have t1 : decide ((67108864 : Int) < (H : Int)) = false := decide_eq_false (by omega)
  have t2 : decide (67108864 < H) = false := decide_eq_false hbig
  have hb5 := (Below.refl w4.heap.size w4).alloc (Nat.le_refl _) (.cells #[.string o.name, .int .u8 o.kind, .bool o.down, .int .u8 o.nulls, .bool o.bnd, .bool o.ln, .string o.lm, .bool o.hn, .string o.hm, .int .i64 o.most, .int .i64 o.str, .bool o.shf, .bool o.bck, .slice a l.length c] 57)
  have hfd := fields_any [.mk o l] (some ⟨w4.heap.size, 0, none⟩) 1 0 (w4.alloc (.cells #[.string o.name, .int .u8 o.kind, .bool o.down, .int .u8 o.nulls, .bool o.bnd, .bool o.ln, .string o.lm, .bool o.hn, .string o.hm, .int .i64 o.most, .int .i64 o.str, .bool o.shf, .bool o.bck, .slice a l.length c] 57)).heap.size 0 (w4.alloc (.cells #[.string o.name, .int .u8 o.kind, .bool o.down, .int .u8 o.nulls, .bool o.bnd, .bool o.ln, .string o.lm, .bool o.hn, .string o.hm, .int .i64 o.most, .int .i64 o.str, .bool o.shf, .bool o.bck, .slice a l.length c] 57)) (by decide) (by simp) (fun x hx => by rw [List.mem_singleton.1 hx]; exact hf) (Nat.le_refl _) (one_field o l a c lo n₀ w4 hc (by omega) (hin.keep hb04 hn₀))
  have hb05 := hb04.trans (hb5.mono hb04.size)
  have hA5 := hA4.old hb5
  have hP5 := hP4.old hb5
  obtain ⟨c0, c1, c2, c3, c4, c5, c6, c7, c8, c9, c10, c11, c12, c13⟩ := hA4.c14
  obtain ⟨D, hD⟩ : ∃ D, wd [.mk o l] 0 0 = D := ⟨_, rfl⟩
  rw [hD] at hfd
  simp only [List.length_cons, List.length_nil, Nat.zero_add] at hfd
  have HMK := "A"
  go_wp2_with fail
  refine hfd.mono ?_
  rintro _ w6 ⟨rfl, hb6⟩
  have hb06 := hb05.trans (hb6.mono hb05.size)
  have hA6 := hA5.old hb6
  have hP6 := hP5.old hb6
  have hz6 := hb06.size
  clear hfd hA4 hP4 hA5 hP5 hb6 hb5 hb05 hb04 hz4 c0 c1 c2 c3 c4 c5 c6 c7 c8 c9 c10 c11 c12 c13 HMK t1 t2
  by_cases hbig2 : 67108864 < D
  · have t1 : decide ((67108864 : Int) < (D : Int)) = true := decide_eq_true (by omega)
    have t2 : decide (67108864 < D) = true := decide_eq_true hbig2
    clear hin hpin
    go_wp2_with fail
    go_ret
    exact ⟨rfl, hb06⟩
  have t1 : decide ((67108864 : Int) < (D : Int)) = false := decide_eq_false (by omega)
  have t2 : decide (67108864 < D) = false := decide_eq_false hbig2
  have hfs := wd_fits (l := [.mk o l]) (n := 0) (fun x hx => by rw [List.mem_singleton.1 hx]; exact hf) (by rw [hD]; have e : wdB = 67108864 := rfl; omega)
  have hf1 : FitsF 17179869184 (.mk o l) := hfs.2 _ (by simp)
  have hrm := rmake_any p hp pa pc lo n₀ w6 (by omega) (hpin.keep hb06 hn₀)
  unfold pV at hrm
  obtain ⟨q0, q1, q2, q3, q4, q5⟩ := hP6.c6
  obtain ⟨M, hM⟩ : ∃ M : Int, (if deeper 16 p = true then 91 else if may p = true then 0 else 90) = M := ⟨_, rfl⟩
  have hrm' : Calls Tryz.prog 12 #[.agg #[.int .u8 p.kind, .bool p.yes, .bool p.neg, .string p.mag, .string p.raw, .slice pa p.items.length pc]] w6 fun e w' => e = .returned (.int .i64 M) ∧ Below w6.heap.size w6 w' := by
    rw [← hM]; exact hrm
  clear hrm hfs
  have HMK := "B"
  go_wp2_with fail
  refine hrm'.mono ?_
  rintro _ w7 ⟨rfl, hb7⟩
  have hb07 := hb06.trans (hb7.mono hb06.size)
  have hA7 := hA6.old hb7
  have hP7 := hP6.old hb7
  have hz7 := hb07.size
  clear hrm' hA6 hP6 hb7 hb06 hz6 q0 q1 q2 q3 q4 q5 t1 t2
  have hrf := refusedField_any (.mk o l) hf1 a c lo n₀ w7 hc (by omega) (hin.keep hb07 hn₀)
  unfold fV at hrf
  simp only [Fld.own, Fld.fields] at hrf
  obtain ⟨c0, c1, c2, c3, c4, c5, c6, c7, c8, c9, c10, c11, c12, c13⟩ := hA7.c14
  obtain ⟨K, hK⟩ : ∃ K, (chkS bndQ 65536 [.mk o l]).1 = K := ⟨_, rfl⟩
  rw [hK] at hrf
  have HMK2 := "C"
  go_wp2_with fail
  refine hrf.mono ?_
  rintro _ w8 ⟨rfl, hb8⟩
  have hb08 := hb07.trans (hb8.mono hb07.size)
  have hA8 := hA7.old hb8
  have hP8 := hP7.old hb8
  have hz8 := hb08.size
  clear hrf hA7 hP7 hb8 hb07 hz7 c0 c1 c2 c3 c4 c5 c6 c7 c8 c9 c10 c11 c12 c13 HMK HMK2
  by_cases hMz : M = 0
  case neg =>
    have t1 : (M != 0) = true := bne_iff_ne.2 hMz
    have t2 : (M == 0) = false := by simpa using hMz
    have t3 : decide (M = 0) = false := decide_eq_false hMz
    clear hin hpin
    go_wp2_with fail
    go_ret
    exact ⟨rfl, hb08⟩
  by_cases hKz : K = 0
  case neg =>
    have t1 : (K != 0) = true := bne_iff_ne.2 hKz
    have t2 : (K == 0) = false := by simpa using hKz
    have t3 : decide (K = 0) = false := decide_eq_false hKz
    subst hMz
    clear hin hpin
    go_wp2_with fail
    go_ret
    exact ⟨rfl, hb08⟩
  have hdeep : deeper 16 p = false := by
    cases h : deeper 16 p with
    | false => rfl
    | true => rw [h, if_pos rfl, hMz] at hM; cases hM
  have hmay : may p = true := by
    cases h : may p with
    | true => rfl
    | false => rw [hdeep, h, if_neg (by decide), if_neg (by decide), hMz] at hM; cases hM
  have hdep : dep p ≤ 16 := by
    rw [deeper_dep] at hdeep
    have := of_decide_eq_false hdeep
    omega
  rw [hKz] at hK
  clear hM
  subst hMz hKz
  have hls := Least_good (.mk o l) hf1 a c lo n₀ hc w8 (by omega) (hin.keep hb08 hn₀) hK
  unfold fV at hls
  simp only [Fld.own, Fld.fields] at hls
  obtain ⟨c0, c1, c2, c3, c4, c5, c6, c7, c8, c9, c10, c11, c12, c13⟩ := hA8.c14
  have HMK := "D"
  go_wp2_with fail
  refine hls.mono ?_
  rintro _ w9 ⟨hb9, lv, rfl, hlv⟩
  have hb09 := hb08.trans (hb9.mono hb08.size)
  have hA9 := hA8.old hb9
  have hP9 := hP8.old hb9
  have hz9 := hb09.size
  clear hls hA8 hP8 hb9 hb08 c0 c1 c2 c3 c4 c5 c6 c7 c8 c9 c10 c11 c12 c13
  have hseen := chkS_seen hK (.mk o l) (by simp)
  have hfew := (chkS_few hK).2 (.mk o l) (by simp)
  obtain ⟨lm1, lm2, lm3⟩ := Fits_lst (.mk o l) 1 hseen hfew hf1
  have hk1 : 1 ≤ o.kind := by cases hseen with | mk a b c d e => exact (maySay_good c).1
  have hff := fitField_any (.mk o l) hf1 a c lo n₀ hc lv (lst (.mk o l)) lm1 (by omega) w8.heap.size w9.heap.size w9 (by omega) (Nat.le_refl _) (hin.keep hb09 hn₀) hlv (hT.own hb09) (hE.old hz0 hb09)
  rw [hK, lm3, show argE 0 none = none from rfl] at hff
  obtain ⟨lt, lx, rfl⟩ := hlv.someI (by rw [lst_kind]; omega)
  unfold fV at hff
  simp only [Fld.own, Fld.fields] at hff
  clear hseen hfew lm1 lm2 lm3 hlv hz8
  obtain ⟨c0, c1, c2, c3, c4, c5, c6, c7, c8, c9, c10, c11, c12, c13⟩ := hA9.c14
  have HMK2 := "E"
  go_wp2_with fail
  refine hff.mono ?_
  intro e w10 hEP
  obtain ⟨rfl, hb10⟩ := err_none hEP
  have hb010 := hb09.trans (hb10.mono hb09.size)
  have hA10 := hA9.old hb10
  have hP10 := hP9.old hb10
  have hz10 := hb010.size
  clear hff hA9 hP9 hEP hb10 hb09 hz9 c0 c1 c2 c3 c4 c5 c6 c7 c8 c9 c10 c11 c12 c13
  have hmk : Calls Tryz.prog 13 #[.agg #[.int .u8 p.kind, .bool p.yes, .bool p.neg, .string p.mag, .string p.raw, .slice pa p.items.length pc]] w10 fun e w' => Below w10.heap.size w10 w' ∧ ∃ v, e = .returned (.tuple #[v, .int .i64 0]) ∧ VIn w' w10.heap.size w'.heap.size v p := by
    refine (make_any p hp pa pc lo n₀ w10 (by omega) (hpin.keep hb010 hn₀)).mono ?_
    rintro e w' ⟨hb, ⟨h4, _⟩ | ⟨_, h4, _⟩ | ⟨_, _, h5⟩⟩
    · rw [hdeep] at h4; cases h4
    · rw [hmay] at h4; cases h4
    · exact ⟨hb, h5⟩
  obtain ⟨q0, q1, q2, q3, q4, q5⟩ := hP10.c6
  have HMK3 := "F"
  go_wp2_with fail
  refine hmk.mono ?_
  rintro _ w11 ⟨hb11, v, rfl, hv⟩
  have hb011 := hb010.trans (hb11.mono hb010.size)
  have hA11 := hA10.old hb11
  have hlt11 : w.heap.size < w11.heap.size := hA11.lt
  have hz11 := hb011.size
  have hvz := hb11.size
  clear hmk hA10 hP10 hb11 hb010 hz10 q0 q1 q2 q3 q4 q5 hpin hp HMK HMK2 HMK3 hdeep
  obtain ⟨c0, c1, c2, c3, c4, c5, c6, c7, c8, c9, c10, c11, c12, c13⟩ := hA11.c14
  have hbx := (Below.refl w11.heap.size w11).alloc (Nat.le_refl _) (.cells #[.string o.name, .int .u8 o.kind, .bool o.down, .int .u8 o.nulls, .bool o.bnd, .bool o.ln, .string o.lm, .bool o.hn, .string o.hm, .int .i64 o.most, .int .i64 o.str, .bool o.shf, .bool o.bck, .slice a l.length c] 57)
  have hX := Blk.new w11 57 #[.string o.name, .int .u8 o.kind, .bool o.down, .int .u8 o.nulls, .bool o.bnd, .bool o.ln, .string o.lm, .bool o.hn, .string o.hm, .int .i64 o.most, .int .i64 o.str, .bool o.shf, .bool o.bck, .slice a l.length c]
  have hAx := hA11.old hbx
  have hX1 := Blk.new w11 57 #[.string ⟨#[111, 116, 104, 101, 114]⟩, .int .u8 o.kind, .bool (!o.down), .int .u8 o.nulls, .bool o.bnd, .bool o.ln, .string o.lm, .bool o.hn, .string o.hm, .int .i64 o.most, .int .i64 o.str, .bool o.shf, .bool o.bck, .slice a l.length c]
  have hb12 := (Below.refl w11.heap.size w11).alloc (Nat.le_refl _) (.cells #[.string ⟨#[111, 116, 104, 101, 114]⟩, .int .u8 o.kind, .bool (!o.down), .int .u8 o.nulls, .bool o.bnd, .bool o.ln, .string o.lm, .bool o.hn, .string o.hm, .int .i64 o.most, .int .i64 o.str, .bool o.shf, .bool o.bck, .slice a l.length c] 57)
  have hA12 := hA11.old hb12
  have d2 : (w11.alloc (.cells #[.string o.name, .int .u8 o.kind, .bool o.down, .int .u8 o.nulls, .bool o.bnd, .bool o.ln, .string o.lm, .bool o.hn, .string o.hm, .int .i64 o.most, .int .i64 o.str, .bool o.shf, .bool o.bck, .slice a l.length c] 57)).cell? ⟨w.heap.size, 2, none⟩ = some (.bool o.down) := hAx.cell 2
  clear hX hAx hbx
  go_upto_region 16 with fail
  generalize w11.alloc (.cells #[.string ⟨#[111, 116, 104, 101, 114]⟩, .int .u8 o.kind, .bool (!o.down), .int .u8 o.nulls, .bool o.bnd, .bool o.ln, .string o.lm, .bool o.hn, .string o.hm, .int .i64 o.most, .int .i64 o.str, .bool o.shf, .bool o.bck, .slice a l.length c] 57) = w12 at *
  have hb012 := hb011.trans (hb12.mono hb011.size)
  clear c0 c1 c2 c3 c4 c5 c6 c7 c8 c9 c10 c11 c12 c13 hA11 d2
  go_upto_if 84 with fail
  go_cut [2] from 83 to 87 (fun u wx => (∃ k : Int, u = .int .i64 k ∧ 0 ≤ k ∧ k < 9223372036854775808) ∧ wx = w12)
  case first =>
    clear hin hv hf hf1 hT hE hX1 hA12
    by_cases hneg : n < 0
    · have t1 : decide (n < 0) = true := decide_eq_true hneg
      have e1 : wrap64 (n + 1) = n + 1 := by unfold wrap64; omega
      have e2 : wrap64 (-(n + 1)) = -(n + 1) := by unfold wrap64; omega
      go_wp2_with fail
      go_meet
      case rel => exact ⟨⟨-(n + 1), by first | rfl | simp [*], by omega, by omega⟩, rfl⟩
    · have t1 : decide (n < 0) = false := decide_eq_false hneg
      go_wp2_with fail
      go_meet
      case rel => exact ⟨⟨n, rfl, by omega, hn2⟩, rfl⟩
  case rest =>
    obtain ⟨⟨k, rfl, hk0, hk9⟩, rfl⟩ := hcut
    obtain ⟨r, hr⟩ : ∃ r, Int.tmod k 3 = r := ⟨_, rfl⟩
    have hr0 : 0 ≤ r := by rw [← hr]; exact Int.tmod_nonneg _ hk0
    have hr2 : r ≤ 2 := by rw [← hr, Int.tmod_eq_emod_of_nonneg hk0]; omega
    have e1 : wrap64 r = r := by unfold wrap64; omega
    have e2 : r % 256 = r := by omega
    have hz12 := hb12.size
    obtain ⟨x0, x1, x2, x3, x4, x5, x6, x7, x8, x9, x10, x11, x12, x13⟩ := hX1.c14
    have g3 := hX1.frozen 3
    have hX13 : Blk (wc.setCell ⟨w11.heap.size, 3, none⟩ (.int .u8 r)) w11.heap.size 57 #[.string ⟨#[111, 116, 104, 101, 114]⟩, .int .u8 o.kind, .bool (!o.down), .int .u8 r, .bool o.bnd, .bool o.ln, .string o.lm, .bool o.hn, .string o.hm, .int .i64 o.most, .int .i64 o.str, .bool o.shf, .bool o.bck, .slice a l.length c] := by
      have := hX1.set 3 (.int .u8 r)
      simpa using this
    have hA13 := hA12.other (p := ⟨w11.heap.size, 3, none⟩) (by show w.heap.size ≠ w11.heap.size; omega) (.int .u8 r)
    have hb13 := hb12.setCell (p := ⟨w11.heap.size, 3, none⟩) (Nat.le_refl _) (.int .u8 r)
    go_upto_region 19 with fail
    generalize wc.setCell ⟨w11.heap.size, 3, none⟩ (.int .u8 r) = w13 at *
    have hb013 := hb011.trans (hb13.mono hb011.size)
    have hz13 := hb013.size
    have hx13 := hb13.size
    clear x0 x1 x2 x3 x4 x5 x6 x7 x8 x9 x10 x11 x12 x13 g3 hX1 hA12 hb12 hz12 hr e1 e2 hb012
    clear hb011 hk9
    obtain ⟨R1, hR1⟩ : ∃ R, unf utfAt (.mk o l) p = R := ⟨_, rfl⟩
    have HR1 : Hid (unf utfAt (.mk o l) p = R1) := hR1
    have hF1 := fitField_any (.mk o l) hf1 a c lo n₀ hc v p hmay (by omega) w10.heap.size w11.heap.size w13 (by omega) hx13 (hin.keep hb013 hn₀) (hv.old hb13 (Nat.le_refl _)) (hT.own hb013) (hE.old hz0 hb013)
    rw [hK, hR1, argE_0] at hF1
    unfold fV at hF1
    simp only [Fld.own, Fld.fields] at hF1
    obtain ⟨c0, c1, c2, c3, c4, c5, c6, c7, c8, c9, c10, c11, c12, c13⟩ := hA13.c14
    clear hR1
    have HMK := "G"
    go_wp2_with fail
    refine hF1.mono ?_
    intro e w14 hEP
    obtain ⟨v1, rfl, hb14, h1⟩ := err_val hEP
    have hb114 := hb13.trans (hb14.mono hb13.size)
    have hb014 := hb013.trans (hb14.mono hb013.size)
    have hA14 := hA13.old hb14
    have hX14 := hX13.old hb14
    have hz14 := hb014.size
    have hx14 := hb114.size
    clear c0 c1 c2 c3 c4 c5 c6 c7 c8 c9 c10 c11 c12 c13 hF1 hEP hb14 hA13 hX13 hb13 hb013 hz13 hx13 HMK
    obtain ⟨R2, hR2⟩ : ∃ R, unf utfAt (.mk (turnO o r) l) p = R := ⟨_, rfl⟩
    have HR2 : Hid (unf utfAt (.mk (turnO o r) l) p = R2) := hR2
    have hF2 := fitField_any (.mk (turnO o r) l) (turn_fits hf1 hr0 hr2) a c lo n₀ hc v p hmay (by omega) w10.heap.size w11.heap.size w14 (by omega) hx14 (hin.keep hb014 hn₀) (hv.old hb114 (Nat.le_refl _)) (hT.own hb014) (hE.old hz0 hb014)
    rw [turn_chk hK hr0 hr2, hR2, argE_0] at hF2
    unfold fV at hF2
    simp only [Fld.own, Fld.fields, turnO] at hF2
    obtain ⟨x0, x1, x2, x3, x4, x5, x6, x7, x8, x9, x10, x11, x12, x13⟩ := hX14.c14
    clear hR2
    have HMK := "H"
    go_wp2_with fail
    refine hF2.mono ?_
    intro e w15 hEP
    obtain ⟨v2, rfl, hb15, h2⟩ := err_val hEP
    have hb115 := hb114.trans (hb15.mono hb114.size)
    have hb015 := hb014.trans (hb15.mono hb014.size)
    have hA15 := hA14.old hb15
    have hX15 := hX14.old hb15
    clear x0 x1 x2 x3 x4 x5 x6 x7 x8 x9 x10 x11 x12 x13 hF2 hEP hb15 hA14 hX14 hb114 hb014 hz14 hx14 HMK
    have y3 : w15.cell? ⟨w11.heap.size, 3, none⟩ = some (.int .u8 r) := hX15.cell 3
    go_upto_region 21 with fail
    go_cut [118] from 98 to 118 (fun u wx => u = .bool false ∧ Below w15.heap.size w15 wx)
    case first =>
      clear hin hf hf1 hT hE hA15 hX15
      by_cases hpk : p.kind = 0
      · obtain rfl := hv.nil0 hpk
        have hnn := turn_null (U := utfAt) (o := o) (k := r) (l := l) hpk
        rw [HR2.out] at hnn
        clear hv
        by_cases hrz : r = 0
        · obtain ⟨F2, rfl⟩ : ∃ F, v2 = .iface 98 (.pointer (some ⟨F, 0, none⟩)) := by
            rcases h2 with ⟨h, _⟩ | ⟨_, h⟩
            · exact absurd hrz (hnn.1 h)
            · exact h
          have t1 : (r != 0) = false := by simpa using hrz
          have t2 : (r == 0) = true := by simpa using hrz
          have t3 : decide (r = 0) = true := decide_eq_true hrz
          clear hnn h1 h2 hrz
          go_quiet (fail)
          go_wp2_with fail
          go_meet
          case rel => exact ⟨by first | rfl | simp [*], by first | exact below_drewN' _ _ | exact (Below.refl _ _).drew⟩
        · obtain rfl : v2 = .nilIface := by
            rcases h2 with ⟨_, h⟩ | ⟨h, _⟩
            · exact h
            · exact absurd (hnn.2 hrz) h
          have t1 : (r != 0) = true := by simpa using hrz
          have t2 : (r == 0) = false := by simpa using hrz
          have t3 : decide (r = 0) = false := decide_eq_false hrz
          clear hnn h1 h2 hrz
          go_quiet (fail)
          go_wp2_with fail
          go_meet
          case rel => exact ⟨by first | rfl | simp [*], by first | exact below_drewN' _ _ | exact (Below.refl _ _).drew⟩
      · obtain ⟨vt, vx, rfl⟩ := hv.someI hpk
        have heq : R2 = R1 := by rw [← HR2.out, ← HR1.out]; exact turn_unf hpk
        clear hv
        rcases h1 with ⟨h1, rfl⟩ | ⟨h1, F1, rfl⟩
        · obtain rfl : v2 = .nilIface := by
            rcases h2 with ⟨_, h⟩ | ⟨h, _⟩
            · exact h
            · exact absurd (heq.trans h1) h
          clear h2 heq
          go_quiet (fail)
          go_wp2_with fail
          go_meet
          case rel => exact ⟨by first | rfl | simp [*], by first | exact below_drewN' _ _ | exact (Below.refl _ _).drew⟩
        · obtain ⟨F2, rfl⟩ : ∃ F, v2 = .iface 98 (.pointer (some ⟨F, 0, none⟩)) := by
            rcases h2 with ⟨h, _⟩ | ⟨_, h⟩
            · exact absurd (heq.symm.trans h) h1
            · exact h
          clear h2 heq
          go_quiet (fail)
          go_wp2_with fail
          go_meet
          case rel => exact ⟨by first | rfl | simp [*], by first | exact below_drewN' _ _ | exact (Below.refl _ _).drew⟩
    case rest =>
      obtain ⟨rfl, hb16⟩ := hcut
      have hb116 := hb115.trans (hb16.mono hb115.size)
      have hb016 := hb015.trans (hb16.mono hb015.size)
      have hA16 := hA15.old hb16
      have hz16 := hb016.size
      have hx16 := hb116.size
      clear hA15 hX15 hb16 hb115 hb015 y3 h2 HR2
      obtain ⟨w16, h16⟩ : ∃ w16, w16 = wc := ⟨_, rfl⟩
      subst h16
      have hof := of_one v p w10.heap.size w11.heap.size w16 hx16 (hv.old hb116 (Nat.le_refl _)) hmay hdep
      go_upto_region 23 with fail
      go_cut [18, 19] from 119 to 124 (fun tv hcv wx => ∃ (hco : Int) (pt : Prt), hcv = .int .i64 hco ∧ Hid (Below w16.heap.size w16 wx ∧ VIn wx 0 wx.heap.size tv pt ∧ may pt = true ∧ dep pt ≤ 100 ∧ ((hco = 0 ∧ pt = tupP [p]) ∨ hco ≠ 0)))
      case first =>
        clear hin hf hf1 hT hE hA16
        rcases hv.form with rfl | ⟨vt, vx, rfl⟩
        · clear hv
          go_wp2_with fail
          refine hof.mono ?_
          rintro _ w17 ⟨hb17, tv, hco, pt, rfl, htv, hpm, hpd, hpt⟩
          have HX : Hid (Below w16.heap.size w16 w17 ∧ VIn w17 0 w17.heap.size tv pt ∧ may pt = true ∧ dep pt ≤ 100 ∧ ((hco = 0 ∧ pt = tupP [p]) ∨ hco ≠ 0)) := ⟨hb17, htv, hpm, hpd, hpt⟩
          clear htv hpm hpd hpt hb17 hof
          go_wp2_with fail
          go_meet
          case rel => exact ⟨hco, pt, rfl, HX⟩
        · clear hv
          go_wp2_with fail
          refine hof.mono ?_
          rintro _ w17 ⟨hb17, tv, hco, pt, rfl, htv, hpm, hpd, hpt⟩
          have HX : Hid (Below w16.heap.size w16 w17 ∧ VIn w17 0 w17.heap.size tv pt ∧ may pt = true ∧ dep pt ≤ 100 ∧ ((hco = 0 ∧ pt = tupP [p]) ∨ hco ≠ 0)) := ⟨hb17, htv, hpm, hpd, hpt⟩
          clear htv hpm hpd hpt hb17 hof
          go_wp2_with fail
          go_meet
          case rel => exact ⟨hco, pt, rfl, HX⟩
      obtain ⟨hco, pt, rfl, HX⟩ := hcut
      obtain ⟨w17, h17⟩ : ∃ w17, w17 = wc := ⟨_, rfl⟩
      subst h17
      obtain ⟨tv, htv0⟩ : ∃ tv, tv = u18 := ⟨_, rfl⟩
      subst htv0
      obtain ⟨hb17, htv, hpm, hpd, hpt⟩ := HX.out
      clear HX
      have hb117 := hb116.trans (hb17.mono hb116.size)
      have hb017 := hb016.trans (hb17.mono hb016.size)
      have hA17 := hA16.old hb17
      have hz17 := hb017.size
      clear hof hA16 hb17 hb116 hb016 hz16 hx16
      have hb18 := (Below.refl w17.heap.size w17).alloc (Nat.le_refl _) (.cells #[.string o.name, .int .u8 o.kind, .bool o.down, .int .u8 o.nulls, .bool o.bnd, .bool o.ln, .string o.lm, .bool o.hn, .string o.hm, .int .i64 o.most, .int .i64 o.str, .bool o.shf, .bool o.bck, .slice a l.length c] 57)
      have hb018 := hb017.trans (hb18.mono hb017.size)
      have hA18 := hA17.old hb18
      obtain ⟨R3, hR3⟩ : ∃ R, unf utfAt (.mk tupO [.mk o l]) pt = R := ⟨_, rfl⟩
      have hck := fitCheck_any 1 [.mk o l] (fun x hx => by rw [List.mem_singleton.1 hx]; exact hf1) (by simp) (some ⟨w17.heap.size, 0, none⟩) 1 0 (w17.alloc (.cells #[.string o.name, .int .u8 o.kind, .bool o.down, .int .u8 o.nulls, .bool o.bnd, .bool o.ln, .string o.lm, .bool o.hn, .string o.hm, .int .i64 o.most, .int .i64 o.str, .bool o.shf, .bool o.bck, .slice a l.length c] 57)).heap.size (by simp) tv pt hpm hpd 0 w17.heap.size (w17.alloc (.cells #[.string o.name, .int .u8 o.kind, .bool o.down, .int .u8 o.nulls, .bool o.bnd, .bool o.ln, .string o.lm, .bool o.hn, .string o.hm, .int .i64 o.most, .int .i64 o.str, .bool o.shf, .bool o.bck, .slice a l.length c] 57)) (Nat.le_refl _) hb18.size (one_field o l a c lo n₀ w17 hc (by omega) (hin.keep hb017 hn₀)) (htv.old hb18 (Nat.le_refl _)) (hT.own hb018) (hE.old hz0 hb018)
      rw [chkS_limit hK (by decide) (by decide), hR3, argE_0] at hck
      simp only [List.length_cons, List.length_nil, Nat.zero_add] at hck
      have hR31 : hco = 0 → (R3 = none ↔ R1 = none) := fun h0 => by
        rcases hpt with ⟨_, rfl⟩ | h
        · rw [← hR3, ← HR1.out]; exact one_unf
        · exact absurd h0 h
      have HR31 : Hid (hco = 0 → (R3 = none ↔ R1 = none)) := hR31
      obtain ⟨c0, c1, c2, c3, c4, c5, c6, c7, c8, c9, c10, c11, c12, c13⟩ := hA17.c14
      clear hpt htv hpm hpd hR31
      have HMK := "J"
      go_wp2_with fail
      refine hck.mono ?_
      intro e w19 hEP
      obtain ⟨v3, rfl, hb19, h3⟩ := err_val hEP
      have hb119 := (hb117.trans (hb18.mono hb117.size)).trans (hb19.mono (Nat.le_trans hb117.size hb18.size))
      have hb019 := hb018.trans (hb19.mono hb018.size)
      have hA19 := hA18.old hb19
      clear c0 c1 c2 c3 c4 c5 c6 c7 c8 c9 c10 c11 c12 c13 hck hEP hb19 hA17 hA18 hb18 hb018 hb117 hb017 hz17 HMK hR3
      go_upto_region 25 with fail
      go_cut [138] from 130 to 138 (fun u wx => u = .bool false ∧ Below w19.heap.size w19 wx)
      case first =>
        clear hin hf hf1 hT hE hA19 hv
        by_cases hcz : hco = 0
        · subst hcz
          have hiff := HR31.out rfl
          rcases h1 with ⟨h1, rfl⟩ | ⟨h1, F1, rfl⟩
          · obtain rfl : v3 = .nilIface := by
              rcases h3 with ⟨_, h⟩ | ⟨h, _⟩
              · exact h
              · exact absurd (hiff.2 h1) h
            clear h3 hiff HR31
            go_quiet (fail)
            go_wp2_with fail
            go_meet
            case rel => exact ⟨by first | rfl | simp [*], below_drewN' _ _⟩
          · obtain ⟨F3, rfl⟩ : ∃ F, v3 = .iface 98 (.pointer (some ⟨F, 0, none⟩)) := by
              rcases h3 with ⟨h, _⟩ | ⟨_, h⟩
              · exact absurd (hiff.1 h) h1
              · exact h
            clear h3 hiff HR31
            go_quiet (fail)
            go_wp2_with fail
            go_meet
            case rel => exact ⟨by first | rfl | simp [*], below_drewN' _ _⟩
        · have t1 : (hco == 0) = false := by simpa using hcz
          have t2 : decide (hco = 0) = false := decide_eq_false hcz
          clear h3 HR31 h1
          go_quiet (fail)
          go_wp2_with fail
          go_meet
          case rel => exact ⟨by first | rfl | simp [*], below_drewN' _ _⟩
      case rest =>
        obtain ⟨rfl, hb20⟩ := hcut
        obtain ⟨w20, h20⟩ : ∃ w20, w20 = wc := ⟨_, rfl⟩
        subst h20
        have hb120 := hb119.trans (hb20.mono hb119.size)
        have hb020 := hb019.trans (hb20.mono hb019.size)
        have hA20 := hA19.old hb20
        have hz20 := hb020.size
        have hx20 := hb120.size
        have hv20 := hv.old hb120 (Nat.le_refl _)
        clear hA19 hb20 hb119 hb019 h3 HR31 hv
        by_cases h7 : p.kind = 7
        case neg =>
          have has := asList_not v p _ _ w20 hv20 h7
          clear hv20 hin hf hf1 hT hE hA20
          rcases h1 with ⟨h1, rfl⟩ | ⟨h1, F1, rfl⟩
          · go_wp2_with fail
            refine has.mono ?_
            rintro _ w21 ⟨rfl, hw21⟩
            rw [hw21]
            clear has hw21
            go_wp2_with fail
            go_ret
            exact ⟨rfl, hb020⟩
          · go_wp2_with fail
            refine has.mono ?_
            rintro _ w21 ⟨rfl, hw21⟩
            rw [hw21]
            clear has hw21
            go_wp2_with fail
            go_ret
            exact ⟨rfl, hb020⟩
        obtain ⟨t, g, tc, ta, V, rfl, hp7, hg1, hg2, hB, hcl, hV⟩ := hv20.tup7 h7
        have has := asList_tup ⟨g, 0, none⟩ w20
        clear hv20
        rcases h1 with ⟨h1, rfl⟩ | ⟨h1, F1, rfl⟩
        case inr =>
          clear hin hf hf1 hT hE hA20 hB hcl hV
          go_wp2_with fail
          refine has.mono ?_
          rintro _ w21 ⟨rfl, hw21⟩
          rw [hw21]
          clear has hw21
          go_wp2_with fail
          go_ret
          exact ⟨rfl, hb020⟩
        case inl =>
          have hun0 : unf utfAt (.mk o l) p = none := HR1.out.trans h1
          rw [hp7] at hun0
          obtain ⟨hlen, hitems⟩ := tup_unf hun0
          have HI : Hid (∀ j (h1 : j < l.length) (h2 : j < t.length), unf utfAt l[j] t[j] = none) := hitems
          have HLT : Hid (t.length = l.length) := hlen
          rw [hp7] at hmay hdep
          obtain ⟨htl, hmt⟩ := may_tup hmay
          have hdt : depL t + 1 ≤ 16 := by rw [dep, if_pos rfl] at hdep; exact hdep
          rw [hlen] at hB htl
          clear hun0 hlen hitems hmay hdep hp7
          go_wp2_with fail
          refine has.mono ?_
          rintro _ w21 ⟨rfl, hw21⟩
          rw [hw21]
          clear has hw21
          have hmL := mLenU ⟨g, 0, none⟩
          have hmA := mAtU ⟨g, 0, none⟩
          go_wp2_with fail
          go_loopw [23] (fun i wr => ∃ (j : Nat), j ≤ l.length ∧ i = .int .i64 j ∧ Below w20.heap.size w20 wr) (fun i _ => l.length - (intOf i).toNat)
          case atStart => exact ⟨0, Nat.zero_le _, rfl, Below.refl _ _⟩
          case round =>
            obtain ⟨j, hj, rfl, hbel⟩ := hrel
            have hb0r := hb020.trans (hbel.mono hb020.size)
            have hzr := hb0r.size
            have hlq := lenTup g ta l.length tc _ wr (hB.old hbel)
            have hAr := hA20.old hbel
            by_cases hlt : j < l.length
            · have hlt2 : j < t.length := by rw [HLT.out]; exact hlt
              have t1 : decide ((j : Int) < (l.length : Int)) = true := decide_eq_true (by omega)
              have t2 : decide (j < l.length) = true := decide_eq_true hlt
              obtain ⟨bb, off, aj, cj, ha, _, hbn, hrow, hinj, hcj⟩ := (hin.keep hb0r hn₀).atC hlt
              subst ha
              obtain ⟨hh, hoff, hta, _, hhn, hcv⟩ := hcl j hlt2
              have hvj := hV j hlt2
              have hu0 := HI.out j hlt hlt2
              have hfj := hf1.mem (show l[j] ∈ (Fld.mk o l).fields from List.getElem_mem hlt)
              have hKj := chkS_item hK (show l[j] ∈ (Fld.mk o l).fields from List.getElem_mem hlt)
              have hmj := hmt _ (List.getElem_mem hlt2)
              have hdj := depL_mem (List.getElem_mem hlt2)
              generalize l[j] = x at *
              generalize t[j] = z at *
              generalize V j = vj at *
              have HRow : Hid (∀ y, Below wr.heap.size wr y → RowF y bb (off + j * 14) x.own aj x.fields.length cj) := fun y hy => hrow.below hy (by omega)
              have hat : ∀ y, Below wr.heap.size wr y → Calls Tryz.prog 335 #[.pointer (some ⟨g, 0, none⟩), .int .i64 (j : Int)] y fun e w' => e = .returned vj ∧ w' = y := fun y hy => by
                have hby := hbel.trans (hy.mono hbel.size)
                subst hta
                exact atTup g hh hoff l.length tc j vj _ hlt (by omega) y (hB.old hby) ((hby.cell (p := ⟨hh, hoff + j, none⟩) (by show hh < _; omega)).trans hcv)
              have hun : ∀ y, Below wr.heap.size wr y → Calls Tryz.prog 20 #[.agg #[.string x.own.name, .int .u8 x.own.kind, .bool x.own.down, .int .u8 x.own.nulls, .bool x.own.bnd, .bool x.own.ln, .string x.own.lm, .bool x.own.hn, .string x.own.hm, .int .i64 x.own.most, .int .i64 x.own.str, .bool x.own.shf, .bool x.own.bck, .slice aj x.fields.length cj], vj] y (ErrPost none y) := fun y hy => by
                have hby := hbel.trans (hy.mono hbel.size)
                have h0y := hb0r.trans (hy.mono hb0r.size)
                have q := fitField_any x hfj aj cj lo n₀ hcj vj z hmj (by omega) w10.heap.size w11.heap.size y (by have := h0y.size; omega) (by have := hby.size; omega) (hinj.keep hy (by omega)) (hvj.old hby (by omega)) (hT.own h0y) (hE.old hz0 h0y)
                rw [hKj, hu0, argE_0] at q
                exact q
              have hjc' : (j : Int) < (l.length : Int) := by omega
              clear hin hf hf1 hT hE hcl hV hrow hinj hvj hcv hfj hKj hmj hmt hu0 hA20
              go_wp2_with fail
              refine hlq.mono ?_
              rintro _ w22 ⟨rfl, hw22⟩
              rw [hw22]
              clear hlq hw22
              go_wp2_with fail
              refine wp_region_held_drew (S := fun zz => Below wr.heap.size wr zz) (by kernel_rfl) ((Below.refl _ _).drew) (fun hHeld => ?_)
              refine wpAnyH_takeD (i := 0) (some 156) (v := .pointer (some ⟨w.heap.size, 13, none⟩)) rfl rfl (by kernel_rfl) (by kernel_rfl) (by kernel_rfl) (fun _ _ _ h => h) (Or.inl ⟨by kernel_rfl, ?hy0⟩) (by assumption) ?rest0
              case hy0 => (intro zz hSx; (try dsimp only at hSx); go_simp; first | done | with_reducible rfl)
              try simp only [Act.put, List.setIfInBounds_toArray, List.set_cons_zero, List.set_cons_succ]
              refine wpAnyH_takeD (i := 1) (some 157) (v := .slice (some ⟨bb, off, none⟩) l.length c) rfl rfl (by kernel_rfl) (by kernel_rfl) (by kernel_rfl) (fun _ _ _ h => h) (Or.inl ⟨by kernel_rfl, ?hy1⟩) (by assumption) ?rest1
              case hy1 => (intro zz hSx; have z13 := (hAr.old hSx).cell 13; (try dsimp only at hSx); go_simp; first | done | with_reducible rfl)
              try simp only [Act.put, List.setIfInBounds_toArray, List.set_cons_zero, List.set_cons_succ]
              refine wpAnyH_takeD (i := 2) (some 158) (v := .int .i64 (j : Int)) rfl rfl (by kernel_rfl) (by kernel_rfl) (by kernel_rfl) (fun _ _ _ h => h) (Or.inl ⟨by kernel_rfl, ?hy2⟩) (by assumption) ?rest2
              case hy2 => (intro zz hSx; (try dsimp only at hSx); go_simp; first | done | with_reducible rfl)
              try simp only [Act.put, List.setIfInBounds_toArray, List.set_cons_zero, List.set_cons_succ]
              refine wpAnyH_takeD (i := 3) (some 159) (v := .pointer (some ⟨bb, off + j * 14, none⟩)) rfl rfl (by kernel_rfl) (by kernel_rfl) (by kernel_rfl) (fun _ _ _ h => h) (Or.inl ⟨by kernel_rfl, ?hy3⟩) (by assumption) ?rest3
              case hy3 => (intro zz hSx; (try dsimp only at hSx); go_simp; first | done | with_reducible rfl)
              try simp only [Act.put, List.setIfInBounds_toArray, List.set_cons_zero, List.set_cons_succ]
              refine wpAnyH_takeD (i := 4) (some 160) (v := .agg #[.string x.own.name, .int .u8 x.own.kind, .bool x.own.down, .int .u8 x.own.nulls, .bool x.own.bnd, .bool x.own.ln, .string x.own.lm, .bool x.own.hn, .string x.own.hm, .int .i64 x.own.most, .int .i64 x.own.str, .bool x.own.shf, .bool x.own.bck, .slice aj x.fields.length cj]) rfl rfl (by kernel_rfl) (by kernel_rfl) (by kernel_rfl) (fun _ _ _ h => h) (Or.inl ⟨by kernel_rfl, ?hy4⟩) (by assumption) ?rest4
              case hy4 => (intro zz hSx; obtain ⟨p0, p1, p2, p3, p4, p5, p6, p7, p8, p9, p10, p11, p12, p13⟩ := HRow.out _ hSx; (try dsimp only at hSx); go_simp; first | done | with_reducible rfl)
              try simp only [Act.put, List.setIfInBounds_toArray, List.set_cons_zero, List.set_cons_succ]
              refine wpAnyH_takeD (i := 5) (some 161) (v := .iface 112 (.pointer (some ⟨g, 0, none⟩))) rfl rfl (by kernel_rfl) (by kernel_rfl) (by kernel_rfl) (fun _ _ _ h => h) (Or.inl ⟨by kernel_rfl, ?hy5⟩) (by assumption) ?rest5
              case hy5 => (intro zz hSx; (try dsimp only at hSx); go_simp; first | done | with_reducible rfl)
              try simp only [Act.put, List.setIfInBounds_toArray, List.set_cons_zero, List.set_cons_succ]
              refine wpAnyH_takeD (i := 6) (some 162) (v := .int .i64 (j : Int)) rfl rfl (by kernel_rfl) (by kernel_rfl) (by kernel_rfl) (fun _ _ _ h => h) (Or.inl ⟨by kernel_rfl, ?hy6⟩) (by assumption) ?rest6
              case hy6 => (intro zz hSx; (try dsimp only at hSx); go_simp; first | done | with_reducible rfl)
              try simp only [Act.put, List.setIfInBounds_toArray, List.set_cons_zero, List.set_cons_succ]
              refine wpAnyH_ready (rs := [7]) (by kernel_rfl) (by simp) ?_
              refine AllReadyH.cons rfl (fun K hK => ?_) AllReadyH.nil
              go_simp
              go_wp2_with (go_at_call 335; refine (hat _ hHeld).mono ?_; rintro e _ ⟨rfl, rfl⟩)
              refine hK.out _ _ (hHeld) (fun hHeld7 => ?_)
              clear hK K
              try simp only [Act.put, List.setIfInBounds_toArray, List.set_cons_zero, List.set_cons_succ]
              refine wpAnyH_ready (rs := [8]) (by kernel_rfl) (by simp) ?_
              refine AllReadyH.cons rfl (fun K hK => ?_) AllReadyH.nil
              go_simp
              go_wp2_with (go_at_call 20; refine (hun _ hHeld7).mono ?_; intro e y8 hEP; obtain ⟨rfl, hb8⟩ := err_none hEP)
              have hb28 := hHeld7.trans (hb8.mono hHeld7.size)
              refine hK.out _ _ (hb28) (fun hHeld8 => ?_)
              clear hK K
              try simp only [Act.put, List.setIfInBounds_toArray, List.set_cons_zero, List.set_cons_succ]
              refine wpAnyH_takeD (i := 9) (some 24) (v := .nilIface) rfl rfl (by kernel_rfl) (by kernel_rfl) (by kernel_rfl) (fun _ _ _ h => h) (Or.inl ⟨by kernel_rfl, ?hy9⟩) (by assumption) ?rest9
              case hy9 => (intro zz hSx; (try dsimp only at hSx); go_simp; first | done | with_reducible rfl)
              try simp only [Act.put, List.setIfInBounds_toArray, List.set_cons_zero, List.set_cons_succ]
              refine wpAnyH_done (by kernel_rfl) ?_ _
              have hb2e : Below w20.heap.size w20 y8 := hbel.trans (hb28.mono hbel.size)
              clear hun hat HRow
              go_wp2_with fail
              go_roundw
              case rel => exact ⟨j + 1, by omega, by simp, hb2e⟩
              case measure => simp only [intOf]; omega
            · have hjl : j = l.length := by omega
              have t1 : decide ((j : Int) < (l.length : Int)) = false := decide_eq_false (by omega)
              have t2 : decide (j < l.length) = false := decide_eq_false hlt
              have HLQ : Hid (∀ n, Calls Tryz.prog 337 #[.pointer (some ⟨g, 0, none⟩)] (wr.drewN n) fun e w' => e = .returned (.int .i64 (l.length : Int)) ∧ w' = wr.drewN n) := fun n => lenTup g ta l.length tc _ (wr.drewN n) ((hB.old hbel).old (below_drewN' _ _))
              have z13 : wr.cell? ⟨w.heap.size, 13, none⟩ = some (.slice a l.length c) := hAr.cell 13
              have HBF : Hid (∀ n, Below w.heap.size w (wr.drewN n)) := fun n => hb0r.trans ((below_drewN' wr n).mono hb0r.size)
              clear hin hf hf1 hT hE hcl hV hA20 hmt
              go_wp2_with fail
              refine hlq.mono ?_
              rintro _ w22 ⟨rfl, hw22⟩
              rw [hw22]
              clear hlq hw22
              go_wp2_with fail
              go_quiet (first | (go_at_call 337; exact Calls.quiet_of_same (HLQ.out _)))
              go_wp2_with fail
              go_ret
              exact ⟨by first | rfl | simp, HBF.out _⟩
end Go.Proofs.YtkjoomdglealmaaGreatDoor
