/- Contracts and lemmas (nothing is claimed here). -/
import Derived.Test.YtcbjnifoojjipaaGreatDoorJ15
import Derived.Test.YtcbjnifoojjipaaGreatDoorJ24
import Derived.Test.YtcbjnifoojjipaaGreatDoorJ2
import Derived.OwnWalk
import Derived.Deep.AppendSrc
namespace Go.Proofs.YtcbjnifoojjipaaGreatDoor
open Go.RowKit Go.Vf
theorem cellsF_front {o : Go.Vf.Own} {a a' : Option Addr} {n n' c c' : Nat} {e : Nat} (he : e < 13) : (cellsF o a n c).toList[e]? = (cellsF o a' n' c').toList[e]? := by
  have : e = 0 ∨ e = 1 ∨ e = 2 ∨ e = 3 ∨ e = 4 ∨ e = 5 ∨ e = 6 ∨ e = 7 ∨ e = 8 ∨ e = 9 ∨ e = 10 ∨ e = 11 ∨ e = 12 := by omega
  rcases this with rfl | rfl | rfl | rfl | rfl | rfl | rfl | rfl | rfl | rfl | rfl | rfl | rfl <;> rfl
theorem SofF.step {w : World} {b j cap g : Nat} {cs : Array Value} {l : List Fld} {G : Nat → Nat} {a : Option Addr} {n c : Nat} (hS : SofF w b j cs l cap G) (hj : j < l.length) (hc : j < cap) (hx : ∀ i, i < 14 → cs[j * 14 + i]? = (cellsF l[j].own a n c).toList[i]?) (hg : LIf w (b + 1) w.heap.size l[j].fields g) :
    ∃ cs', SofF (w.setCell ⟨b, j * 14 + 13, none⟩ (.slice (some ⟨g, 0, none⟩) l[j].fields.length (l[j].fields.length + 2))) b (j + 1) cs' l cap (fun i => if i = j then g else G i) := by
  have hB := hS.blk.set (j * 14 + 13) (.slice (some ⟨g, 0, none⟩) l[j].fields.length (l[j].fields.length + 2))
  have hsz := hS.size
  have hz : (w.setCell ⟨b, j * 14 + 13, none⟩ (.slice (some ⟨g, 0, none⟩) l[j].fields.length (l[j].fields.length + 2))).heap.size = w.heap.size := by simp [World.setCell]
  refine ⟨_, hB, by simpa using hsz, fun i hi hij => ?_, fun i hi hij => ?_⟩
  · by_cases e : i = j
    · subst e
      simp only [if_pos]
      refine row_of hB fun e he => ?_
      rw [Array.getElem?_setIfInBounds]
      by_cases h13 : e = 13
      · subst h13
        rw [if_pos rfl, if_pos (by omega)]
        rfl
      · rw [if_neg (by omega), hx e he]
        exact cellsF_front (by omega)
    · simp only [if_neg e]
      refine row_same (hS.row i hi (by omega)) fun e he => ?_
      rw [hB.cell, hS.blk.cell, Array.getElem?_setIfInBounds, if_neg (by omega)]
  · rw [hz]
    by_cases e : i = j
    · subst e
      simp only [if_pos]
      exact hg.keep fun x hx _ => Below.heap_setCell w ⟨b, i * 14 + 13, none⟩ _ x (by show x ≠ b; omega)
    · simp only [if_neg e]
      exact (hS.win i hi (by omega)).keep fun x hx _ => Below.heap_setCell w ⟨b, j * 14 + 13, none⟩ _ x (by show x ≠ b; omega)
def LentOkF (l : List Fld) : Prop := ∀ (a : Option Addr) (c n₀ : Nat) (w : World), n₀ ≤ w.heap.size → FIn w 0 n₀ l a → Calls Tryz.prog 11 #[.slice a l.length c] w fun e w' => ∃ b, e = .returned (.slice (some ⟨b, 0, none⟩) l.length (l.length + 2)) ∧ LIf w' w.heap.size w'.heap.size l b ∧ Below w.heap.size w w'
theorem res14_run {tmps : Array Value} {w : World} {v : Value} (t2 : tmps[2]?.getD undef = v) : (results Tryz.f11 tmps).run Tryz.prog w = .ok v w := by
  simp [results, Tryz.results11, go_sem, t2]
set_option maxHeartbeats 16000000 in
set_option maxRecDepth 20000 in
theorem lentF_step (l : List Fld) (hl : l.length ≤ 67108864) (ih : ∀ x ∈ l, LentOkF x.fields) : LentOkF l := by
  intro a c n₀ w hn₀ hin
  obtain ⟨ln, hln⟩ : ∃ ln, l.length = ln := ⟨_, rfl⟩
  have HLN : Hid (l.length = ln) := hln
  rw [hln] at hl ⊢
  clear hln
  have HIN : Hid (∀ w1, Below w.heap.size w w1 → FIn w1 0 n₀ l a) := fun w1 h => hin.keep h hn₀
  have hmk : (Instr.makeSlice 23 (.int .i64 (ln : Int)) (.int .i64 ((ln : Int) + 2))).run Tryz.prog w = .ok (.slice (some ⟨w.heap.size, 0, none⟩) ln (ln + 2)) (w.alloc (.cells (madeCells #[.string ⟨#[]⟩, .int .u8 0, .bool false, .int .u8 0, .bool false, .bool false, .string ⟨#[]⟩, .bool false, .string ⟨#[]⟩, .int .i64 0, .int .i64 0, .bool false, .bool false, .slice none 0 0] ((ln + 2) * 14)) 48)) := run_make57 ln (ln + 2) (by omega) (by omega) w
  have hB0 := Blk.new w 48 (madeCells #[.string ⟨#[]⟩, .int .u8 0, .bool false, .int .u8 0, .bool false, .bool false, .string ⟨#[]⟩, .bool false, .string ⟨#[]⟩, .int .i64 0, .int .i64 0, .bool false, .bool false, .slice none 0 0] ((ln + 2) * 14))
  have hb0 := (Below.refl w.heap.size w).alloc (Nat.le_refl _) (.cells (madeCells #[.string ⟨#[]⟩, .int .u8 0, .bool false, .int .u8 0, .bool false, .bool false, .string ⟨#[]⟩, .bool false, .string ⟨#[]⟩, .int .i64 0, .int .i64 0, .bool false, .bool false, .slice none 0 0] ((ln + 2) * 14)) 48)
  have hs0 := alloc_size w (.cells (madeCells #[.string ⟨#[]⟩, .int .u8 0, .bool false, .int .u8 0, .bool false, .bool false, .string ⟨#[]⟩, .bool false, .string ⟨#[]⟩, .int .i64 0, .int .i64 0, .bool false, .bool false, .slice none 0 0] ((ln + 2) * 14)) 48)
  clear hin
  go_enter Tryz.func11, Tryz.ntmps11
  go_wp2_with fail
  have hS0 : SofF (w.alloc (.cells (madeCells #[.string ⟨#[]⟩, .int .u8 0, .bool false, .int .u8 0, .bool false, .bool false, .string ⟨#[]⟩, .bool false, .string ⟨#[]⟩, .int .i64 0, .int .i64 0, .bool false, .bool false, .slice none 0 0] ((ln + 2) * 14)) 48)) w.heap.size 0 (madeCells #[.string ⟨#[]⟩, .int .u8 0, .bool false, .int .u8 0, .bool false, .bool false, .string ⟨#[]⟩, .bool false, .string ⟨#[]⟩, .int .i64 0, .int .i64 0, .bool false, .bool false, .slice none 0 0] ((ln + 2) * 14)) l (ln + 2) (fun _ => 0) := ⟨hB0, made_size _ _, fun i _ h => by omega, fun i _ h => by omega⟩
  clear hB0 hs0
  go_loopw [4] (fun iv wr => ∃ (j : Nat) (cs : Array Value) (G : Nat → Nat), j ≤ ln ∧ iv = .int .i64 (j : Int) ∧ SofF wr w.heap.size j cs l (ln + 2) G ∧ Below w.heap.size w wr) (fun iv _ => ln - (intOf iv).toNat)
  case atStart => exact ⟨0, _, _, Nat.zero_le _, rfl, hS0, hb0⟩
  case round =>
    clear hS0 hb0 hmk
    obtain ⟨j, cs, G, hj, rfl, hS, hb⟩ := hrel
    have hsz := hb.size
    have hlt3 := hS.blk.lt
    by_cases hlt : j < ln
    · have tl : decide ((j : Int) < (ln : Int)) = true := decide_eq_true (by omega)
      have tl2 : decide (j < ln) = true := decide_eq_true hlt
      have hji : (j : Int) < (ln : Int) := by omega
      have hjl : j < l.length := by rw [HLN.out]; exact hlt
      obtain ⟨bb, off, aj, cj, ha, _, hbb, hrow, hinj⟩ := (HIN.out wr hb).at hjl
      subst ha
      obtain ⟨x, hx⟩ : ∃ x, l[j] = x := ⟨_, rfl⟩
      have HX : Hid (l[j] = x) := hx
      rw [hx] at hrow hinj
      have HI : Hid (FIn wr 0 n₀ x.fields aj) := hinj
      have HR : Hid (RowF wr bb (off + j * 14) x.own aj x.fields.length cj) := hrow
      obtain ⟨r0, r1, r2, r3, r4, r5, r6, r7, r8, r9, r10, r11, r12, r13⟩ := hrow
      have hcs := hS.size
      have hB := hS.blk
      obtain ⟨v0, u0⟩ : ∃ v, wr.cell? ⟨w.heap.size, j * 14, none⟩ = some v := ⟨_, (hB.cell _).trans (Array.getElem?_eq_getElem (by omega))⟩
      have f0 : wr.frozen? ⟨w.heap.size, j * 14, none⟩ = false := hB.frozen (j * 14)
      obtain ⟨v1, u1⟩ : ∃ v, wr.cell? ⟨w.heap.size, j * 14 + 1, none⟩ = some v := ⟨_, (hB.cell _).trans (Array.getElem?_eq_getElem (by omega))⟩
      have f1 : wr.frozen? ⟨w.heap.size, j * 14 + 1, none⟩ = false := hB.frozen (j * 14 + 1)
      obtain ⟨v2, u2⟩ : ∃ v, wr.cell? ⟨w.heap.size, j * 14 + 2, none⟩ = some v := ⟨_, (hB.cell _).trans (Array.getElem?_eq_getElem (by omega))⟩
      have f2 : wr.frozen? ⟨w.heap.size, j * 14 + 2, none⟩ = false := hB.frozen (j * 14 + 2)
      obtain ⟨v3, u3⟩ : ∃ v, wr.cell? ⟨w.heap.size, j * 14 + 3, none⟩ = some v := ⟨_, (hB.cell _).trans (Array.getElem?_eq_getElem (by omega))⟩
      have f3 : wr.frozen? ⟨w.heap.size, j * 14 + 3, none⟩ = false := hB.frozen (j * 14 + 3)
      obtain ⟨v4, u4⟩ : ∃ v, wr.cell? ⟨w.heap.size, j * 14 + 4, none⟩ = some v := ⟨_, (hB.cell _).trans (Array.getElem?_eq_getElem (by omega))⟩
      have f4 : wr.frozen? ⟨w.heap.size, j * 14 + 4, none⟩ = false := hB.frozen (j * 14 + 4)
      obtain ⟨v5, u5⟩ : ∃ v, wr.cell? ⟨w.heap.size, j * 14 + 5, none⟩ = some v := ⟨_, (hB.cell _).trans (Array.getElem?_eq_getElem (by omega))⟩
      have f5 : wr.frozen? ⟨w.heap.size, j * 14 + 5, none⟩ = false := hB.frozen (j * 14 + 5)
      obtain ⟨v6, u6⟩ : ∃ v, wr.cell? ⟨w.heap.size, j * 14 + 6, none⟩ = some v := ⟨_, (hB.cell _).trans (Array.getElem?_eq_getElem (by omega))⟩
      have f6 : wr.frozen? ⟨w.heap.size, j * 14 + 6, none⟩ = false := hB.frozen (j * 14 + 6)
      obtain ⟨v7, u7⟩ : ∃ v, wr.cell? ⟨w.heap.size, j * 14 + 7, none⟩ = some v := ⟨_, (hB.cell _).trans (Array.getElem?_eq_getElem (by omega))⟩
      have f7 : wr.frozen? ⟨w.heap.size, j * 14 + 7, none⟩ = false := hB.frozen (j * 14 + 7)
      obtain ⟨v8, u8⟩ : ∃ v, wr.cell? ⟨w.heap.size, j * 14 + 8, none⟩ = some v := ⟨_, (hB.cell _).trans (Array.getElem?_eq_getElem (by omega))⟩
      have f8 : wr.frozen? ⟨w.heap.size, j * 14 + 8, none⟩ = false := hB.frozen (j * 14 + 8)
      obtain ⟨v9, u9⟩ : ∃ v, wr.cell? ⟨w.heap.size, j * 14 + 9, none⟩ = some v := ⟨_, (hB.cell _).trans (Array.getElem?_eq_getElem (by omega))⟩
      have f9 : wr.frozen? ⟨w.heap.size, j * 14 + 9, none⟩ = false := hB.frozen (j * 14 + 9)
      obtain ⟨v10, u10⟩ : ∃ v, wr.cell? ⟨w.heap.size, j * 14 + 10, none⟩ = some v := ⟨_, (hB.cell _).trans (Array.getElem?_eq_getElem (by omega))⟩
      have f10 : wr.frozen? ⟨w.heap.size, j * 14 + 10, none⟩ = false := hB.frozen (j * 14 + 10)
      obtain ⟨v11, u11⟩ : ∃ v, wr.cell? ⟨w.heap.size, j * 14 + 11, none⟩ = some v := ⟨_, (hB.cell _).trans (Array.getElem?_eq_getElem (by omega))⟩
      have f11 : wr.frozen? ⟨w.heap.size, j * 14 + 11, none⟩ = false := hB.frozen (j * 14 + 11)
      obtain ⟨v12, u12⟩ : ∃ v, wr.cell? ⟨w.heap.size, j * 14 + 12, none⟩ = some v := ⟨_, (hB.cell _).trans (Array.getElem?_eq_getElem (by omega))⟩
      have f12 : wr.frozen? ⟨w.heap.size, j * 14 + 12, none⟩ = false := hB.frozen (j * 14 + 12)
      obtain ⟨v13, u13⟩ : ∃ v, wr.cell? ⟨w.heap.size, j * 14 + 13, none⟩ = some v := ⟨_, (hB.cell _).trans (Array.getElem?_eq_getElem (by omega))⟩
      have f13 : wr.frozen? ⟨w.heap.size, j * 14 + 13, none⟩ = false := hB.frozen (j * 14 + 13)
      have HS : Hid (SofF wr w.heap.size j cs l (ln + 2) G) := hS
      have HA : Hid (LentOkF x.fields) := by have := ih l[j] (List.getElem_mem hjl); rw [hx] at this; exact this
      have hlt2 : j < ln + 2 := by omega
      clear hx hS ih hcs hB hinj
      go_upto_region 6 with fail
      obtain ⟨cs1, hS1, hx1, _⟩ := HS.out.put (Nat.le_refl _) hlt2 [.string x.own.name, .int .u8 x.own.kind, .bool x.own.down, .int .u8 x.own.nulls, .bool x.own.bnd, .bool x.own.ln, .string x.own.lm, .bool x.own.hn, .string x.own.hm, .int .i64 x.own.most, .int .i64 x.own.str, .bool x.own.shf, .bool x.own.bck, .slice aj x.fields.length cj] rfl
      have hq1 : Below w.heap.size wr (setL wr w.heap.size (j * 14) [.string x.own.name, .int .u8 x.own.kind, .bool x.own.down, .int .u8 x.own.nulls, .bool x.own.bnd, .bool x.own.ln, .string x.own.lm, .bool x.own.hn, .string x.own.hm, .int .i64 x.own.most, .int .i64 x.own.str, .bool x.own.shf, .bool x.own.bck, .slice aj x.fields.length cj]) := setL_below (Nat.le_refl _) _ _ _ (Below.refl _ _)
      have hI1 := HI.out.keep hq1 hn₀
      have r13' := (HR.out.below hq1 (by omega)).c13
      have hbw1 := hb.trans hq1
      clear u0 f0 u1 f1 u2 f2 u3 f3 u4 f4 u5 f5 u6 f6 u7 f7 u8 f8 u9 f9 u10 f10 u11 f11 u12 f12 u13 f13 r0 r1 r2 r3 r4 r5 r6 r7 r8 r9 r10 r11 r12 r13 HS HR HI
      change Code.wp _ _ _ _ (setL wr w.heap.size (j * 14) [.string x.own.name, .int .u8 x.own.kind, .bool x.own.down, .int .u8 x.own.nulls, .bool x.own.bnd, .bool x.own.ln, .string x.own.lm, .bool x.own.hn, .string x.own.hm, .int .i64 x.own.most, .int .i64 x.own.str, .bool x.own.shf, .bool x.own.bck, .slice aj x.fields.length cj])
      generalize setL wr w.heap.size (j * 14) [.string x.own.name, .int .u8 x.own.kind, .bool x.own.down, .int .u8 x.own.nulls, .bool x.own.bnd, .bool x.own.ln, .string x.own.lm, .bool x.own.hn, .string x.own.hm, .int .i64 x.own.most, .int .i64 x.own.str, .bool x.own.shf, .bool x.own.bck, .slice aj x.fields.length cj] = W1 at *
      have hs1 := hS1.blk.lt
      have hcall := HA.out aj cj n₀ W1 (by omega) hI1
      have HF : Hid (∀ w4, Below W1.heap.size W1 w4 → (∃ y, w4.cell? ⟨w.heap.size, j * 14 + 13, none⟩ = some y) ∧ w4.frozen? ⟨w.heap.size, j * 14 + 13, none⟩ = false) := by
        intro w4 hb4
        have hB4 := hS1.blk.old hb4
        have := hS1.size
        exact ⟨⟨_, (hB4.cell _).trans (Array.getElem?_eq_getElem (by omega))⟩, hB4.frozen _⟩
      have HS1 : Hid (SofF W1 w.heap.size j cs1 l (ln + 2) G) := hS1
      have HX1 : Hid (∀ i, i < 14 → cs1[j * 14 + i]? = (cellsF x.own aj x.fields.length cj).toList[i]?) := hx1
      clear hS1 hx1 hI1 HA
      go_wp2_with (go_at_call 11; refine hcall.mono ?_; rintro _ w4 ⟨g, rfl, hlif, hb4⟩; obtain ⟨⟨y13, p13⟩, f13⟩ := HF.out w4 hb4)
      have hx := HX.out
      obtain ⟨cs2, hst⟩ := (HS1.out.old hb4).step (g := g) hjl hlt2 (by rw [hx]; exact HX1.out) (by rw [hx]; exact hlif.mono (Nat.le_refl _) (by omega))
      rw [hx] at hst
      exact ⟨⟨j + 1, cs2, _, hlt, by simp, hst, (hbw1.trans (hb4.mono (by omega))).setCell (p := ⟨w.heap.size, j * 14 + 13, none⟩) (Nat.le_refl _) _⟩, by simp only [intOf]; omega⟩
    · have tl : decide ((j : Int) < (ln : Int)) = false := decide_eq_false (by omega)
      have tl2 : decide (j < ln) = false := decide_eq_false hlt
      have hjn : j = ln := by omega
      subst hjn
      have HS : Hid (SofF wr w.heap.size j cs l (j + 2) G) := hS
      clear hS ih HIN hlt
      go_wp2_with fail
      go_loopw [6] (fun iv wr => ∃ (i : Nat) (cs : Array Value), j ≤ i ∧ i ≤ j + 2 ∧ iv = .int .i64 (i : Int) ∧ Hid (SofF wr w.heap.size j cs l (j + 2) G) ∧ Hid (∀ t, j ≤ t → t < i → wr.cell? ⟨w.heap.size, t * 14, none⟩ = some (.string markB) ∧ wr.cell? ⟨w.heap.size, t * 14 + 1, none⟩ = some (.int .u8 99)) ∧ Below w.heap.size w wr) (fun iv _ => j + 2 - (intOf iv).toNat)
      case atStart => exact ⟨j, cs, Nat.le_refl _, by omega, rfl, HS, fun t h1 h2 => by omega, hb⟩
      case round =>
        clear HS hb hsz hlt3
        obtain ⟨i, cs2, hi1, hi2, rfl, HS, HMK, hb⟩ := hrel
        by_cases hlt : i < j + 2
        · have tl3 : decide ((i : Int) < (j : Int) + 2) = true := decide_eq_true (by omega)
          have tl4 : decide ((i : Int) < ((j + 2 : Nat) : Int)) = true := decide_eq_true (by omega)
          have tl5 : decide (i < j + 2) = true := decide_eq_true hlt
          have hji : (i : Int) < (j : Int) + 2 := by omega
          have hcs := HS.out.size
          have hB := HS.out.blk
          obtain ⟨v0, u0⟩ : ∃ v, wr.cell? ⟨w.heap.size, i * 14, none⟩ = some v := ⟨_, (hB.cell _).trans (Array.getElem?_eq_getElem (by omega))⟩
          have f0 : wr.frozen? ⟨w.heap.size, i * 14, none⟩ = false := hB.frozen (i * 14)
          obtain ⟨v1, u1⟩ : ∃ v, wr.cell? ⟨w.heap.size, i * 14 + 1, none⟩ = some v := ⟨_, (hB.cell _).trans (Array.getElem?_eq_getElem (by omega))⟩
          have f1 : wr.frozen? ⟨w.heap.size, i * 14 + 1, none⟩ = false := hB.frozen (i * 14 + 1)
          obtain ⟨v2, u2⟩ : ∃ v, wr.cell? ⟨w.heap.size, i * 14 + 2, none⟩ = some v := ⟨_, (hB.cell _).trans (Array.getElem?_eq_getElem (by omega))⟩
          have f2 : wr.frozen? ⟨w.heap.size, i * 14 + 2, none⟩ = false := hB.frozen (i * 14 + 2)
          obtain ⟨v3, u3⟩ : ∃ v, wr.cell? ⟨w.heap.size, i * 14 + 3, none⟩ = some v := ⟨_, (hB.cell _).trans (Array.getElem?_eq_getElem (by omega))⟩
          have f3 : wr.frozen? ⟨w.heap.size, i * 14 + 3, none⟩ = false := hB.frozen (i * 14 + 3)
          obtain ⟨v4, u4⟩ : ∃ v, wr.cell? ⟨w.heap.size, i * 14 + 4, none⟩ = some v := ⟨_, (hB.cell _).trans (Array.getElem?_eq_getElem (by omega))⟩
          have f4 : wr.frozen? ⟨w.heap.size, i * 14 + 4, none⟩ = false := hB.frozen (i * 14 + 4)
          obtain ⟨v5, u5⟩ : ∃ v, wr.cell? ⟨w.heap.size, i * 14 + 5, none⟩ = some v := ⟨_, (hB.cell _).trans (Array.getElem?_eq_getElem (by omega))⟩
          have f5 : wr.frozen? ⟨w.heap.size, i * 14 + 5, none⟩ = false := hB.frozen (i * 14 + 5)
          obtain ⟨v6, u6⟩ : ∃ v, wr.cell? ⟨w.heap.size, i * 14 + 6, none⟩ = some v := ⟨_, (hB.cell _).trans (Array.getElem?_eq_getElem (by omega))⟩
          have f6 : wr.frozen? ⟨w.heap.size, i * 14 + 6, none⟩ = false := hB.frozen (i * 14 + 6)
          obtain ⟨v7, u7⟩ : ∃ v, wr.cell? ⟨w.heap.size, i * 14 + 7, none⟩ = some v := ⟨_, (hB.cell _).trans (Array.getElem?_eq_getElem (by omega))⟩
          have f7 : wr.frozen? ⟨w.heap.size, i * 14 + 7, none⟩ = false := hB.frozen (i * 14 + 7)
          obtain ⟨v8, u8⟩ : ∃ v, wr.cell? ⟨w.heap.size, i * 14 + 8, none⟩ = some v := ⟨_, (hB.cell _).trans (Array.getElem?_eq_getElem (by omega))⟩
          have f8 : wr.frozen? ⟨w.heap.size, i * 14 + 8, none⟩ = false := hB.frozen (i * 14 + 8)
          obtain ⟨v9, u9⟩ : ∃ v, wr.cell? ⟨w.heap.size, i * 14 + 9, none⟩ = some v := ⟨_, (hB.cell _).trans (Array.getElem?_eq_getElem (by omega))⟩
          have f9 : wr.frozen? ⟨w.heap.size, i * 14 + 9, none⟩ = false := hB.frozen (i * 14 + 9)
          obtain ⟨v10, u10⟩ : ∃ v, wr.cell? ⟨w.heap.size, i * 14 + 10, none⟩ = some v := ⟨_, (hB.cell _).trans (Array.getElem?_eq_getElem (by omega))⟩
          have f10 : wr.frozen? ⟨w.heap.size, i * 14 + 10, none⟩ = false := hB.frozen (i * 14 + 10)
          obtain ⟨v11, u11⟩ : ∃ v, wr.cell? ⟨w.heap.size, i * 14 + 11, none⟩ = some v := ⟨_, (hB.cell _).trans (Array.getElem?_eq_getElem (by omega))⟩
          have f11 : wr.frozen? ⟨w.heap.size, i * 14 + 11, none⟩ = false := hB.frozen (i * 14 + 11)
          obtain ⟨v12, u12⟩ : ∃ v, wr.cell? ⟨w.heap.size, i * 14 + 12, none⟩ = some v := ⟨_, (hB.cell _).trans (Array.getElem?_eq_getElem (by omega))⟩
          have f12 : wr.frozen? ⟨w.heap.size, i * 14 + 12, none⟩ = false := hB.frozen (i * 14 + 12)
          obtain ⟨v13, u13⟩ : ∃ v, wr.cell? ⟨w.heap.size, i * 14 + 13, none⟩ = some v := ⟨_, (hB.cell _).trans (Array.getElem?_eq_getElem (by omega))⟩
          have f13 : wr.frozen? ⟨w.heap.size, i * 14 + 13, none⟩ = false := hB.frozen (i * 14 + 13)
          clear hB hcs
          go_wp2_with fail
          obtain ⟨cs3, h1, h2, h3⟩ := HS.out.put hi1 hlt [.string markB, .int .u8 99, .bool false, .int .u8 0, .bool false, .bool false, .string ⟨#[]⟩, .bool false, .string ⟨#[]⟩, .int .i64 0, .int .i64 0, .bool false, .bool false, .slice none 0 0] rfl
          refine ⟨⟨i + 1, cs3, by omega, by omega, by simp, h1, ?_, setL_below (Nat.le_refl _) [.string markB, .int .u8 99, .bool false, .int .u8 0, .bool false, .bool false, .string ⟨#[]⟩, .bool false, .string ⟨#[]⟩, .int .i64 0, .int .i64 0, .bool false, .bool false, .slice none 0 0] wr (i * 14) hb⟩, by simp only [intOf]; omega⟩
          intro t q1 q2
          by_cases e : t = i
          · subst e
            exact ⟨(h1.blk.cell _).trans (h2 0 (by omega)), (h1.blk.cell _).trans (h2 1 (by omega))⟩
          · have hm := HMK.out t q1 (by omega)
            exact ⟨(h1.blk.cell _).trans ((h3 _ (by omega)).trans ((HS.out.blk.cell _).symm.trans hm.1)), (h1.blk.cell _).trans ((h3 _ (by omega)).trans ((HS.out.blk.cell _).symm.trans hm.2))⟩
        · have tl3 : decide ((i : Int) < (j : Int) + 2) = false := decide_eq_false (by omega)
          have tl4 : decide ((i : Int) < ((j + 2 : Nat) : Int)) = false := decide_eq_false (by omega)
          have tl5 : decide (i < j + 2) = false := decide_eq_false hlt
          have hin2 : i = j + 2 := by omega
          have HI2 : Hid (i = j + 2) := hin2
          clear hin2
          go_wp2_with fail
          have hl2 := HLN.out
          have hi2 := HI2.out
          refine bodyPost_ret (v := .slice (some ⟨w.heap.size, 0, none⟩) j (j + 2)) (res14_run rfl) rfl ?_
          exact ⟨w.heap.size, rfl, .row G (Nat.le_refl _) HS.out.blk.lt ⟨_, HS.out.blk, by rw [HS.out.size]; omega⟩ (fun t q1 q2 => HMK.out t (by omega) (by omega)) (fun t ht => HS.out.row t ht (by omega)) (fun t ht => (HS.out.win t ht (by omega)).mono (Nat.le_refl _) (by omega)), hb⟩
theorem lentF_any : ∀ (f : Fld), FitsF 67108864 f → LentOkF f.fields := by
  intro f
  induction f using Fld.ind with
  | h o l ih => exact fun h => lentF_step l h.len fun x hx => ih x hx (h.mem hx)
theorem lentF_list {l : List Fld} (hl : l.length ≤ 67108864) (h : ∀ x ∈ l, FitsF 67108864 x) : LentOkF l := lentF_step l hl fun x hx => lentF_any x (h x hx)
def KeptOkF (l : List Fld) : Prop := ∀ (g : Nat) (a2 : Option Addr) (c2 lo n n2 : Nat) (w : World), n ≤ w.heap.size → n2 ≤ w.heap.size → LIf w lo n l g → FIn w 0 n2 l a2 → Calls Tryz.prog 16 #[.slice (some ⟨g, 0, none⟩) l.length (l.length + 2), .slice a2 l.length c2] w fun e w' => e = .returned (.bool true) ∧ Below w.heap.size w w'
theorem LIf.old {w w' : World} {lo n k : Nat} {l : List Fld} {b : Nat} (h : LIf w lo n l b) (hb : Below k w w') (hn : n ≤ k) : LIf w' lo n l b := h.keep fun x _ q => hb.block x (by omega)
theorem LIf.item {w : World} {lo n g : Nat} {l : List Fld} (h : LIf w lo n l g) {j : Nat} (hj : j < l.length) : g < n ∧ ∃ gj, RowF w g (j * 14) l[j].own (some ⟨gj, 0, none⟩) l[j].fields.length (l[j].fields.length + 2) ∧ LIf w lo n l[j].fields gj := by
  cases h with
  | row G h1 h2 _ h3 h4 h5 => exact ⟨h2, G j, h4 j hj, h5 j hj⟩
theorem LIf.mark {w : World} {lo n g : Nat} {l : List Fld} (h : LIf w lo n l g) {j : Nat} (h1 : l.length ≤ j) (h2 : j < l.length + 2) : w.cell? ⟨g, j * 14, none⟩ = some (.string ⟨#[109, 97, 114, 107]⟩) ∧ w.cell? ⟨g, j * 14 + 1, none⟩ = some (.int .u8 99) := by
  cases h with
  | row G _ _ _ h3 _ _ => exact h3 j h1 h2
set_option maxHeartbeats 16000000 in
set_option maxRecDepth 20000 in
theorem keptF_step (l : List Fld) (hl : l.length ≤ 67108864) (ih : ∀ x ∈ l, KeptOkF x.fields) : KeptOkF l := by
  intro g a2 c2 lo n n2 w hn hn2 hlin hin
  obtain ⟨ln, hln⟩ : ∃ ln, l.length = ln := ⟨_, rfl⟩
  have HLN : Hid (l.length = ln) := hln
  rw [hln] at hl ⊢
  clear hln
  have HIN : Hid (∀ w1, Below w.heap.size w w1 → FIn w1 0 n2 l a2) := fun w1 h => hin.keep h hn2
  have HLI : Hid (∀ w1, Below w.heap.size w w1 → LIf w1 lo n l g) := fun w1 h => hlin.old h hn
  have t0 : ((ln : Int) != (ln : Int)) = false := by simp
  have hb0 := Below.refl w.heap.size w
  clear hlin hin
  go_enter Tryz.func16, Tryz.ntmps16
  go_wp2_with fail
  go_loopw [5] (fun iv wr => ∃ (j : Nat), j ≤ ln ∧ iv = .int .i64 (j : Int) ∧ Below w.heap.size w wr) (fun iv _ => ln - (intOf iv).toNat)
  case atStart => exact ⟨0, Nat.zero_le _, rfl, hb0⟩
  case round =>
    clear hb0
    obtain ⟨j, hj, rfl, hb⟩ := hrel
    have hsz := hb.size
    by_cases hlt : j < ln
    · have tl : decide ((j : Int) < (ln : Int)) = true := decide_eq_true (by omega)
      have tl2 : decide (j < ln) = true := decide_eq_true hlt
      have hji : (j : Int) < (ln : Int) := by omega
      have hjl : j < l.length := by rw [HLN.out]; exact hlt
      obtain ⟨hgn, gj, hrow, hlj⟩ := (HLI.out wr hb).item hjl
      obtain ⟨bb, off, aj, cj, ha, _, hbb, hrow2, hinj⟩ := (HIN.out wr hb).at hjl
      subst ha
      obtain ⟨x, hx⟩ : ∃ x, l[j] = x := ⟨_, rfl⟩
      have HA : Hid (KeptOkF x.fields) := by have := ih l[j] (List.getElem_mem hjl); rw [hx] at this; exact this
      rw [hx] at hrow hrow2 hlj hinj
      have HI : Hid (FIn wr 0 n2 x.fields aj) := hinj
      have HL : Hid (LIf wr lo n x.fields gj) := hlj
      have HR1 : Hid (RowF wr g (j * 14) x.own (some ⟨gj, 0, none⟩) x.fields.length (x.fields.length + 2)) := hrow
      have HR2 : Hid (RowF wr bb (off + j * 14) x.own aj x.fields.length cj) := hrow2
      obtain ⟨r0, r1, r2, r3, r4, r5, r6, r7, r8, r9, r10, r11, r12, r13⟩ := hrow
      clear hx ih hinj hlj hrow2
      have hA1 := Blk.new wr 48 #[.string x.own.name, .int .u8 x.own.kind, .bool x.own.down, .int .u8 x.own.nulls, .bool x.own.bnd, .bool x.own.ln, .string x.own.lm, .bool x.own.hn, .string x.own.hm, .int .i64 x.own.most, .int .i64 x.own.str, .bool x.own.shf, .bool x.own.bck, .slice (some ⟨gj, 0, none⟩) x.fields.length (x.fields.length + 2)]
      have hq1 := (Below.refl wr.heap.size wr).alloc (Nat.le_refl _) (.cells #[.string x.own.name, .int .u8 x.own.kind, .bool x.own.down, .int .u8 x.own.nulls, .bool x.own.bnd, .bool x.own.ln, .string x.own.lm, .bool x.own.hn, .string x.own.hm, .int .i64 x.own.most, .int .i64 x.own.str, .bool x.own.shf, .bool x.own.bck, .slice (some ⟨gj, 0, none⟩) x.fields.length (x.fields.length + 2)] 48)
      have hs1 := alloc_size wr (.cells #[.string x.own.name, .int .u8 x.own.kind, .bool x.own.down, .int .u8 x.own.nulls, .bool x.own.bnd, .bool x.own.ln, .string x.own.lm, .bool x.own.hn, .string x.own.hm, .int .i64 x.own.most, .int .i64 x.own.str, .bool x.own.shf, .bool x.own.bck, .slice (some ⟨gj, 0, none⟩) x.fields.length (x.fields.length + 2)] 48)
      go_upto_region 7 with fail
      generalize wr.alloc (.cells #[.string x.own.name, .int .u8 x.own.kind, .bool x.own.down, .int .u8 x.own.nulls, .bool x.own.bnd, .bool x.own.ln, .string x.own.lm, .bool x.own.hn, .string x.own.hm, .int .i64 x.own.most, .int .i64 x.own.str, .bool x.own.shf, .bool x.own.bck, .slice (some ⟨gj, 0, none⟩) x.fields.length (x.fields.length + 2)] 48) = w1 at *
      clear r0 r1 r2 r3 r4 r5 r6 r7 r8 r9 r10 r11 r12 r13
      obtain ⟨s0, s1, s2, s3, s4, s5, s6, s7, s8, s9, s10, s11, s12, s13⟩ := HR2.out.below hq1 (by omega)
      have hB2 := Blk.new w1 48 #[.string x.own.name, .int .u8 x.own.kind, .bool x.own.down, .int .u8 x.own.nulls, .bool x.own.bnd, .bool x.own.ln, .string x.own.lm, .bool x.own.hn, .string x.own.hm, .int .i64 x.own.most, .int .i64 x.own.str, .bool x.own.shf, .bool x.own.bck, .slice aj x.fields.length cj]
      have hq2 := (Below.refl w1.heap.size w1).alloc (Nat.le_refl _) (.cells #[.string x.own.name, .int .u8 x.own.kind, .bool x.own.down, .int .u8 x.own.nulls, .bool x.own.bnd, .bool x.own.ln, .string x.own.lm, .bool x.own.hn, .string x.own.hm, .int .i64 x.own.most, .int .i64 x.own.str, .bool x.own.shf, .bool x.own.bck, .slice aj x.fields.length cj] 48)
      have hs2 := alloc_size w1 (.cells #[.string x.own.name, .int .u8 x.own.kind, .bool x.own.down, .int .u8 x.own.nulls, .bool x.own.bnd, .bool x.own.ln, .string x.own.lm, .bool x.own.hn, .string x.own.hm, .int .i64 x.own.most, .int .i64 x.own.str, .bool x.own.shf, .bool x.own.bck, .slice aj x.fields.length cj] 48)
      have hA2 := hA1.old hq2
      rw [hs1] at hB2 hs2
      have hq12 := hq1.trans (hq2.mono (by omega))
      go_upto_region 8 with fail
      generalize w1.alloc (.cells #[.string x.own.name, .int .u8 x.own.kind, .bool x.own.down, .int .u8 x.own.nulls, .bool x.own.bnd, .bool x.own.ln, .string x.own.lm, .bool x.own.hn, .string x.own.hm, .int .i64 x.own.most, .int .i64 x.own.str, .bool x.own.shf, .bool x.own.bck, .slice aj x.fields.length cj] 48) = w2 at *
      clear s0 s1 s2 s3 s4 s5 s6 s7 s8 s9 s10 s11 s12 s13 hA1 hq1 hq2 hs1
      have ca : w2.cell? ⟨wr.heap.size, 13, none⟩ = some (.slice (some ⟨gj, 0, none⟩) x.fields.length (x.fields.length + 2)) := hA2.cell 13
      have fa : w2.frozen? ⟨wr.heap.size, 13, none⟩ = false := hA2.frozen 13
      have hA3 := hA2.set 13 (.slice none 0 0)
      have hB3 := hB2.other (p := ⟨wr.heap.size, 13, none⟩) (by show wr.heap.size + 1 ≠ wr.heap.size; omega) (.slice none 0 0)
      have hq3 := hq12.setCell (p := ⟨wr.heap.size, 13, none⟩) (Nat.le_refl _) (.slice none 0 0)
      have hs3 : (w2.setCell ⟨wr.heap.size, 13, none⟩ (.slice none 0 0)).heap.size = wr.heap.size + 1 + 1 := by simp [World.setCell, hs2]
      go_upto_region 9 with fail
      generalize w2.setCell ⟨wr.heap.size, 13, none⟩ (.slice none 0 0) = w3 at *
      clear ca fa hA2 hB2 hs2 hq12
      have cb : w3.cell? ⟨wr.heap.size + 1, 13, none⟩ = some (.slice aj x.fields.length cj) := hB3.cell 13
      have fb : w3.frozen? ⟨wr.heap.size + 1, 13, none⟩ = false := hB3.frozen 13
      have hB4 := hB3.set 13 (.slice none 0 0)
      have hA4 := hA3.other (p := ⟨wr.heap.size + 1, 13, none⟩) (by show wr.heap.size ≠ wr.heap.size + 1; omega) (.slice none 0 0)
      have hq4 := hq3.setCell (p := ⟨wr.heap.size + 1, 13, none⟩) (by show wr.heap.size ≤ wr.heap.size + 1; omega) (.slice none 0 0)
      have hs4 : (w3.setCell ⟨wr.heap.size + 1, 13, none⟩ (.slice none 0 0)).heap.size = wr.heap.size + 1 + 1 := by simp [World.setCell, hs3]
      go_upto_region 10 with fail
      generalize w3.setCell ⟨wr.heap.size + 1, 13, none⟩ (.slice none 0 0) = w4 at *
      clear cb fb hA3 hB3 hs3 hq3
      have HA5 : Hid (Blk w4 wr.heap.size 48 #[.string x.own.name, .int .u8 x.own.kind, .bool x.own.down, .int .u8 x.own.nulls, .bool x.own.bnd, .bool x.own.ln, .string x.own.lm, .bool x.own.hn, .string x.own.hm, .int .i64 x.own.most, .int .i64 x.own.str, .bool x.own.shf, .bool x.own.bck, .slice none 0 0]) := by
        have := hA4
        show Blk _ _ _ _
        simpa using this
      have HB5 : Hid (Blk w4 (wr.heap.size + 1) 48 #[.string x.own.name, .int .u8 x.own.kind, .bool x.own.down, .int .u8 x.own.nulls, .bool x.own.bnd, .bool x.own.ln, .string x.own.lm, .bool x.own.hn, .string x.own.hm, .int .i64 x.own.most, .int .i64 x.own.str, .bool x.own.shf, .bool x.own.bck, .slice none 0 0]) := by
        have := hB4
        show Blk _ _ _ _
        simpa using this
      have HC1 : Hid (∀ zz, Calls Tryz.prog 20 #[.agg #[.string x.own.name, .int .u8 x.own.kind, .bool x.own.down, .int .u8 x.own.nulls, .bool x.own.bnd, .bool x.own.ln, .string x.own.lm, .bool x.own.hn, .string x.own.hm, .int .i64 x.own.most, .int .i64 x.own.str, .bool x.own.shf, .bool x.own.bck, .slice none 0 0], .agg #[.string x.own.name, .int .u8 x.own.kind, .bool x.own.down, .int .u8 x.own.nulls, .bool x.own.bnd, .bool x.own.ln, .string x.own.lm, .bool x.own.hn, .string x.own.hm, .int .i64 x.own.most, .int .i64 x.own.str, .bool x.own.shf, .bool x.own.bck, .slice none 0 0]] zz fun e w' => e = .returned (.bool true) ∧ Below zz.heap.size zz w') := fun zz => sameField_nil x.own zz
      have HC2 : Hid (∀ zz, Below w4.heap.size w4 zz → Calls Tryz.prog 16 #[.slice (some ⟨gj, 0, none⟩) x.fields.length (x.fields.length + 2), .slice aj x.fields.length cj] zz fun e w' => e = .returned (.bool true) ∧ Below zz.heap.size zz w') := fun zz h => by
        have hz := h.size
        have hq := hq4.trans (h.mono (by omega))
        exact HA.out gj aj cj lo n n2 zz (by omega) (by omega) (HL.out.old hq (by omega)) (HI.out.keep hq (by omega))
      have HG : Hid (∀ zz, Below w4.heap.size w4 zz → zz.cell? ⟨g, j * 14 + 13, none⟩ = some (.slice (some ⟨gj, 0, none⟩) x.fields.length (x.fields.length + 2)) ∧ zz.cell? ⟨bb, off + j * 14 + 13, none⟩ = some (.slice aj x.fields.length cj)) := fun zz h => by
        have hq := hq4.trans (h.mono (by omega))
        exact ⟨(HR1.out.below hq (by omega)).c13, (HR2.out.below hq (by omega)).c13⟩
      have HKP : Hid (∀ p q, Below w4.heap.size w4 p → Below p.heap.size p q → Below w4.heap.size w4 q) := fun p q h1 h2 => h1.trans (h2.mono h1.size)
      clear hA4 hB4 HA HL HI HR1 HR2 HIN HLI
      refine wp_region_held_drew (S := fun zz => Below w4.heap.size w4 zz) (by kernel_rfl) ((Below.refl _ _).drew) (fun hHeld => ?_)
      refine wpAnyH_takeD (i := 0) (some 31) (v := .agg #[.string x.own.name, .int .u8 x.own.kind, .bool x.own.down, .int .u8 x.own.nulls, .bool x.own.bnd, .bool x.own.ln, .string x.own.lm, .bool x.own.hn, .string x.own.hm, .int .i64 x.own.most, .int .i64 x.own.str, .bool x.own.shf, .bool x.own.bck, .slice none 0 0]) rfl rfl (by kernel_rfl) (by kernel_rfl) (by kernel_rfl) (fun _ _ _ h => h) (Or.inl ⟨by kernel_rfl, ?hy0⟩) (by assumption) ?rest0
      case hy0 => (intro zz hSx; obtain ⟨q0, q1, q2, q3, q4, q5, q6, q7, q8, q9, q10, q11, q12, q13⟩ := Blk.c14 (HA5.out.old hSx); (try dsimp only at hSx); go_simp; first | done | with_reducible rfl)
      try simp only [Act.put, List.setIfInBounds_toArray, List.set_cons_zero, List.set_cons_succ]
      refine wpAnyH_takeD (i := 1) (some 32) (v := .agg #[.string x.own.name, .int .u8 x.own.kind, .bool x.own.down, .int .u8 x.own.nulls, .bool x.own.bnd, .bool x.own.ln, .string x.own.lm, .bool x.own.hn, .string x.own.hm, .int .i64 x.own.most, .int .i64 x.own.str, .bool x.own.shf, .bool x.own.bck, .slice none 0 0]) rfl rfl (by kernel_rfl) (by kernel_rfl) (by kernel_rfl) (fun _ _ _ h => h) (Or.inl ⟨by kernel_rfl, ?hy1⟩) (by assumption) ?rest1
      case hy1 => (intro zz hSx; obtain ⟨q0, q1, q2, q3, q4, q5, q6, q7, q8, q9, q10, q11, q12, q13⟩ := Blk.c14 (HB5.out.old hSx); (try dsimp only at hSx); go_simp; first | done | with_reducible rfl)
      try simp only [Act.put, List.setIfInBounds_toArray, List.set_cons_zero, List.set_cons_succ]
      refine wpAnyH_ready (rs := [2]) (by kernel_rfl) (by simp) ?_
      refine AllReadyH.cons rfl (fun K hK => ?_) AllReadyH.nil
      go_simp
      go_wp2_with (go_at_call 20; refine (HC1.out _).mono ?_; rintro _ y2 ⟨rfl, hby2⟩)
      refine hK.out _ _ (HKP.out _ _ hHeld hby2) (fun hHeld2 => ?_)
      clear hK K
      try simp only [Act.put, List.setIfInBounds_toArray, List.set_cons_zero, List.set_cons_succ]
      refine wpAnyH_takeD (i := 3) (some 34) (v := .bool false) rfl rfl (by kernel_rfl) (by kernel_rfl) (by kernel_rfl) (fun _ _ _ h => h) (Or.inl ⟨by kernel_rfl, ?hy3⟩) (by assumption) ?rest3
      case hy3 => (intro zz hSx; (try dsimp only at hSx); go_simp; first | done | with_reducible rfl)
      try simp only [Act.put, List.setIfInBounds_toArray, List.set_cons_zero, List.set_cons_succ]
      refine wpAnyH_takeD (i := 4) (some 35) (v := .bool false) rfl rfl (by kernel_rfl) (by kernel_rfl) (by kernel_rfl) (fun _ _ _ h => h) (Or.inl ⟨by kernel_rfl, ?hy4⟩) (by assumption) ?rest4
      case hy4 => (intro zz hSx; (try dsimp only at hSx); go_simp; first | done | with_reducible rfl)
      try simp only [Act.put, List.setIfInBounds_toArray, List.set_cons_zero, List.set_cons_succ]
      refine wpAnyH_takeD (i := 5) (some 36) (v := .slice (some ⟨g, 0, none⟩) ln (ln + 2)) rfl rfl (by kernel_rfl) (by kernel_rfl) (by kernel_rfl) (fun _ _ _ h => h) (Or.inl ⟨by kernel_rfl, ?hy5⟩) (by assumption) ?rest5
      case hy5 => (intro zz hSx; (try dsimp only at hSx); go_simp; first | done | with_reducible rfl)
      try simp only [Act.put, List.setIfInBounds_toArray, List.set_cons_zero, List.set_cons_succ]
      refine wpAnyH_takeD (i := 6) (some 37) (v := .int .i64 (j : Int)) rfl rfl (by kernel_rfl) (by kernel_rfl) (by kernel_rfl) (fun _ _ _ h => h) (Or.inl ⟨by kernel_rfl, ?hy6⟩) (by assumption) ?rest6
      case hy6 => (intro zz hSx; (try dsimp only at hSx); go_simp; first | done | with_reducible rfl)
      try simp only [Act.put, List.setIfInBounds_toArray, List.set_cons_zero, List.set_cons_succ]
      refine wpAnyH_takeD (i := 7) (some 38) (v := .pointer (some ⟨g, j * 14, none⟩)) rfl rfl (by kernel_rfl) (by kernel_rfl) (by kernel_rfl) (fun _ _ _ h => h) (Or.inl ⟨by kernel_rfl, ?hy7⟩) (by assumption) ?rest7
      case hy7 => (intro zz hSx; (try dsimp only at hSx); go_simp; first | done | with_reducible rfl)
      try simp only [Act.put, List.setIfInBounds_toArray, List.set_cons_zero, List.set_cons_succ]
      refine wpAnyH_takeD (i := 8) (some 39) (v := .pointer (some ⟨g, j * 14 + 13, none⟩)) rfl rfl (by kernel_rfl) (by kernel_rfl) (by kernel_rfl) (fun _ _ _ h => h) (Or.inl ⟨by kernel_rfl, ?hy8⟩) (by assumption) ?rest8
      case hy8 => (intro zz hSx; (try dsimp only at hSx); go_simp; first | done | with_reducible rfl)
      try simp only [Act.put, List.setIfInBounds_toArray, List.set_cons_zero, List.set_cons_succ]
      refine wpAnyH_takeD (i := 9) (some 40) (v := .slice (some ⟨gj, 0, none⟩) x.fields.length (x.fields.length + 2)) rfl rfl (by kernel_rfl) (by kernel_rfl) (by kernel_rfl) (fun _ _ _ h => h) (Or.inl ⟨by kernel_rfl, ?hy9⟩) (by assumption) ?rest9
      case hy9 => (intro zz hSx; obtain ⟨q0, q1⟩ := HG.out zz hSx; (try dsimp only at hSx); go_simp; first | done | with_reducible rfl)
      try simp only [Act.put, List.setIfInBounds_toArray, List.set_cons_zero, List.set_cons_succ]
      refine wpAnyH_takeD (i := 10) (some 41) (v := .slice (some ⟨bb, off, none⟩) ln c2) rfl rfl (by kernel_rfl) (by kernel_rfl) (by kernel_rfl) (fun _ _ _ h => h) (Or.inl ⟨by kernel_rfl, ?hy10⟩) (by assumption) ?rest10
      case hy10 => (intro zz hSx; (try dsimp only at hSx); go_simp; first | done | with_reducible rfl)
      try simp only [Act.put, List.setIfInBounds_toArray, List.set_cons_zero, List.set_cons_succ]
      refine wpAnyH_takeD (i := 11) (some 42) (v := .int .i64 (j : Int)) rfl rfl (by kernel_rfl) (by kernel_rfl) (by kernel_rfl) (fun _ _ _ h => h) (Or.inl ⟨by kernel_rfl, ?hy11⟩) (by assumption) ?rest11
      case hy11 => (intro zz hSx; (try dsimp only at hSx); go_simp; first | done | with_reducible rfl)
      try simp only [Act.put, List.setIfInBounds_toArray, List.set_cons_zero, List.set_cons_succ]
      refine wpAnyH_takeD (i := 12) (some 43) (v := .pointer (some ⟨bb, off + j * 14, none⟩)) rfl rfl (by kernel_rfl) (by kernel_rfl) (by kernel_rfl) (fun _ _ _ h => h) (Or.inl ⟨by kernel_rfl, ?hy12⟩) (by assumption) ?rest12
      case hy12 => (intro zz hSx; (try dsimp only at hSx); go_simp; first | done | with_reducible rfl)
      try simp only [Act.put, List.setIfInBounds_toArray, List.set_cons_zero, List.set_cons_succ]
      refine wpAnyH_takeD (i := 13) (some 44) (v := .pointer (some ⟨bb, off + j * 14 + 13, none⟩)) rfl rfl (by kernel_rfl) (by kernel_rfl) (by kernel_rfl) (fun _ _ _ h => h) (Or.inl ⟨by kernel_rfl, ?hy13⟩) (by assumption) ?rest13
      case hy13 => (intro zz hSx; (try dsimp only at hSx); go_simp; first | done | with_reducible rfl)
      try simp only [Act.put, List.setIfInBounds_toArray, List.set_cons_zero, List.set_cons_succ]
      refine wpAnyH_takeD (i := 14) (some 45) (v := .slice aj x.fields.length cj) rfl rfl (by kernel_rfl) (by kernel_rfl) (by kernel_rfl) (fun _ _ _ h => h) (Or.inl ⟨by kernel_rfl, ?hy14⟩) (by assumption) ?rest14
      case hy14 => (intro zz hSx; obtain ⟨q0, q1⟩ := HG.out zz hSx; (try dsimp only at hSx); go_simp; first | done | with_reducible rfl)
      try simp only [Act.put, List.setIfInBounds_toArray, List.set_cons_zero, List.set_cons_succ]
      refine wpAnyH_ready (rs := [15]) (by kernel_rfl) (by simp) ?_
      refine AllReadyH.cons rfl (fun K hK => ?_) AllReadyH.nil
      go_simp
      go_wp2_with (go_at_call 16; refine (HC2.out _ hHeld2).mono ?_; rintro _ y15 ⟨rfl, hby15⟩)
      refine hK.out _ _ (HKP.out _ _ hHeld2 hby15) (fun hHeld15 => ?_)
      clear hK K
      try simp only [Act.put, List.setIfInBounds_toArray, List.set_cons_zero, List.set_cons_succ]
      refine wpAnyH_takeD (i := 16) (some 47) (v := .bool false) rfl rfl (by kernel_rfl) (by kernel_rfl) (by kernel_rfl) (fun _ _ _ h => h) (Or.inl ⟨by kernel_rfl, ?hy16⟩) (by assumption) ?rest16
      case hy16 => (intro zz hSx; (try dsimp only at hSx); go_simp; first | done | with_reducible rfl)
      try simp only [Act.put, List.setIfInBounds_toArray, List.set_cons_zero, List.set_cons_succ]
      refine wpAnyH_takeD (i := 17) (some 48) (v := .bool false) rfl rfl (by kernel_rfl) (by kernel_rfl) (by kernel_rfl) (fun _ _ _ h => h) (Or.inl ⟨by kernel_rfl, ?hy17⟩) (by assumption) ?rest17
      case hy17 => (intro zz hSx; (try dsimp only at hSx); go_simp; first | done | with_reducible rfl)
      try simp only [Act.put, List.setIfInBounds_toArray, List.set_cons_zero, List.set_cons_succ]
      refine wpAnyH_done (by kernel_rfl) ?_ _
      have hfin := hb.trans ((hq4.trans (hHeld15.mono (by omega))).mono hsz)
      clear HA5 HB5 HC1 HC2 HG HKP hHeld hHeld2 hHeld15
      go_wp2_with fail
      exact ⟨⟨j + 1, hlt, by simp, hfin⟩, by simp only [intOf]; omega⟩
    · have tl : decide ((j : Int) < (ln : Int)) = false := decide_eq_false (by omega)
      have tl2 : decide (j < ln) = false := decide_eq_false hlt
      clear ih HIN hlt
      go_wp2_with fail
      go_loopw [9] (fun iv wr => ∃ (i : Nat), ln ≤ i ∧ i ≤ ln + 2 ∧ iv = .int .i64 (i : Int) ∧ Below w.heap.size w wr) (fun iv _ => ln + 2 - (intOf iv).toNat)
      case atStart => exact ⟨ln, Nat.le_refl _, by omega, rfl, hb⟩
      case round =>
        clear hb hsz
        obtain ⟨i, hi1, hi2, rfl, hb⟩ := hrel
        by_cases hlt : i < ln + 2
        · have tl3 : decide ((i : Int) < (ln : Int) + 2) = true := decide_eq_true (by omega)
          have tl4 : decide ((i : Int) < ((ln + 2 : Nat) : Int)) = true := decide_eq_true (by omega)
          have tl5 : decide (i < ln + 2) = true := decide_eq_true hlt
          have hji : (i : Int) < (ln : Int) + 2 := by omega
          obtain ⟨m0, m1⟩ := (HLI.out wr hb).mark (j := i) (by rw [HLN.out]; exact hi1) (by rw [HLN.out]; exact hlt)
          go_wp2_with fail
          exact ⟨⟨i + 1, by omega, by omega, by simp, hb⟩, by simp only [intOf]; omega⟩
        · have tl3 : decide ((i : Int) < (ln : Int) + 2) = false := decide_eq_false (by omega)
          have tl4 : decide ((i : Int) < ((ln + 2 : Nat) : Int)) = false := decide_eq_false (by omega)
          have tl5 : decide (i < ln + 2) = false := decide_eq_false hlt
          go_wp2_with fail
          go_ret
          exact ⟨rfl, hb⟩
theorem keptF_any : ∀ (f : Fld), FitsF 67108864 f → KeptOkF f.fields := by
  intro f
  induction f using Fld.ind with
  | h o l ih => exact fun h => keptF_step l h.len fun x hx => ih x hx (h.mem hx)
theorem keptF_list {l : List Fld} (hl : l.length ≤ 67108864) (h : ∀ x ∈ l, FitsF 67108864 x) : KeptOkF l := keptF_step l hl fun x hx => keptF_any x (h x hx)
structure Wst (lo n₀ : Nat) (w w' : World) : Prop where
  below : Below lo w w'
  above : ∀ b, n₀ ≤ b → b < w.heap.size → w'.heap[b]? = w.heap[b]?
  row : ∀ b cs, lo ≤ b → b < n₀ → Blk w b 48 cs → ∃ cs', Blk w' b 48 cs' ∧ cs'.size = cs.size ∧ ∀ i, (i + 3) * 14 ≤ cs.size → cs'[i * 14 + 13]? = cs[i * 14 + 13]? ∨ cs'[i * 14 + 13]? = some (.slice none 0 0)
theorem Wst.refl (lo n₀ : Nat) (w : World) : Wst lo n₀ w w := ⟨Below.refl _ _, fun _ _ _ => rfl, fun _ cs _ _ h => ⟨cs, h, rfl, fun _ _ => .inl rfl⟩⟩
theorem Wst.trans {lo n₀ : Nat} {a b c : World} (h : Wst lo n₀ a b) (k : Wst lo n₀ b c) : Wst lo n₀ a c := by
  refine ⟨h.below.trans k.below, fun x h1 h2 => (k.above x h1 (Nat.lt_of_lt_of_le h2 h.below.size)).trans (h.above x h1 h2), fun x cs h1 h2 hx => ?_⟩
  obtain ⟨cs', a1, a2, a3⟩ := h.row x cs h1 h2 hx
  obtain ⟨cs'', b1, b2, b3⟩ := k.row x cs' h1 h2 a1
  refine ⟨cs'', b1, b2.trans a2, fun i hi => ?_⟩
  rcases b3 i (by rw [a2]; exact hi) with e | e
  · rw [e]; exact a3 i hi
  · exact .inr e
theorem Wst.of {lo n₀ : Nat} {w w' : World} (hb : Below w.heap.size w w') (hlo : lo ≤ w.heap.size) : Wst lo n₀ w w' :=
  ⟨hb.mono hlo, fun b _ h => hb.block b h, fun _ cs _ _ h => ⟨cs, h.old hb, rfl, fun _ _ => .inl rfl⟩⟩
theorem Wst.one {lo n₀ b : Nat} {w w' : World} {cs cs' : Array Value} (h1 : lo ≤ b) (h2 : b < n₀) (hO : w.grownBy w' (some b)) (hlo : lo ≤ w.heap.size) (hB : Blk w b 48 cs) (hB' : Blk w' b 48 cs') (hz : cs'.size = cs.size) (hc : ∀ i, (i + 3) * 14 ≤ cs.size → cs'[i * 14 + 13]? = cs[i * 14 + 13]? ∨ cs'[i * 14 + 13]? = some (.slice none 0 0)) : Wst lo n₀ w w' := by
  refine ⟨(Below.refl lo w).grown hO hlo (fun j e => by cases e; exact h1), fun x q1 q2 => hO.block x q2 (by simp; omega), fun x ds q1 q2 hx => ?_⟩
  by_cases hxb : x = b
  · subst hxb
    have e := hB.symm.trans hx
    cases e
    exact ⟨cs', hB', hz, hc⟩
  · exact ⟨ds, (hO.block x hx.lt (by simp; omega)).trans hx, rfl, fun _ _ => .inl rfl⟩
inductive Wf (w : World) (lo n₀ : Nat) : List Fld → Nat → Prop where
  | row {l : List Fld} {b : Nat} (G : Nat → Nat) (cs : Array Value) : lo ≤ b → b < n₀ → Blk w b 48 cs → cs.size = (l.length + 2) * 14 →
      (∀ j (hj : j < l.length), cs[j * 14 + 13]? = some (.slice (some ⟨G j, 0, none⟩) l[j].fields.length (l[j].fields.length + 2)) ∨ cs[j * 14 + 13]? = some (.slice none 0 0)) → (∀ j (hj : j < l.length), Wf w lo n₀ l[j].fields (G j)) → Wf w lo n₀ l b
theorem Wf.step {w w' : World} {lo n₀ : Nat} {l : List Fld} {b : Nat} (h : Wf w lo n₀ l b) (hs : Wst lo n₀ w w') : Wf w' lo n₀ l b := by
  induction h with
  | @row l b G cs h1 h2 hB hz hc _ ih =>
    obtain ⟨cs', a1, a2, a3⟩ := hs.row b cs h1 h2 hB
    refine .row G cs' h1 h2 a1 (a2.trans hz) (fun j hj => ?_) ih
    rcases a3 j (by rw [hz]; omega) with e | e
    · rw [e]; exact hc j hj
    · exact .inr e
theorem LIf.wf {w : World} {lo n₀ : Nat} {l : List Fld} {b : Nat} (h : LIf w lo n₀ l b) : Wf w lo n₀ l b := by
  induction h with
  | @row l b G h1 h2 hB _ h4 _ ih =>
    obtain ⟨cs, e1, e2⟩ := hB
    exact .row G cs h1 h2 e1 e2 (fun j hj => .inl ((e1.cell _).symm.trans (h4 j hj).c13)) ih
def WrOk (l : List Fld) : Prop := ∀ (b lo n₀ : Nat) (w : World), Wf w lo n₀ l b → n₀ ≤ w.heap.size → lo ≤ w.heap.size → l.length ≤ 67108864 → (∀ x ∈ l, FitsF 67108864 x) →
  Calls Tryz.prog 17 #[.slice (some ⟨b, 0, none⟩) l.length (l.length + 2)] w fun e w' => e = .returned (.tuple #[]) ∧ Wst lo n₀ w w'
def news78 : List Value := [.string ⟨#[]⟩, .int .u8 78, .bool false, .int .u8 0, .bool false, .bool false, .string ⟨#[]⟩, .bool false, .string ⟨#[]⟩, .int .i64 0, .int .i64 0, .bool false, .bool false, .slice none 0 0]
theorem news78_at (W : World) : ∀ (j : Nat) u, news78[j]? = some u → (W.alloc (.cells news78.toArray 48)).cell? ((⟨W.heap.size, 0, none⟩ : Addr).add j) = some u := fun j u hu => by
  have hN := Blk.new W 48 news78.toArray
  rw [show (⟨W.heap.size, 0, none⟩ : Addr).add j = ⟨W.heap.size, j, none⟩ by simp [Addr.add]; omega, hN.cell j]
  simpa using hu
theorem news78_one : ∀ u ∈ news78, u.oneCell' = true := by
  intro u hu
  simp only [news78, List.mem_cons, List.not_mem_nil, or_false] at hu
  rcases hu with h | h | h | h | h | h | h | h | h | h | h | h | h | h <;> (subst h; rfl)
set_option maxHeartbeats 2000000 in
theorem write_nil (w : World) : Calls Tryz.prog 17 #[.slice none 0 0] w fun e w' => e = .returned (.tuple #[]) ∧ Below w.heap.size w w' := by
  obtain ⟨i, hi, hz, hsz, hby⟩ := info_parts info57
  have hb1 := (Below.refl w.heap.size w).alloc (Nat.le_refl _) (.cells news78.toArray 48)
  have hat := news78_at w
  go_enter Tryz.func17, Tryz.ntmps17
  go_wp2
  refine wp_loop_rounds 1 ?_
  rw [rounds_succ]
  unfold news78 at hb1 hat
  go_upto_region 6 with (first | (at_builtin; refine wpList_append_own_at _ rfl _ _ 23 rfl w.heap.size 48 i _ 14 120 Tryz.underlying23 hi hz hsz hby rfl (by decide) (.slice none 0 0) 0 [] rfl (World.ownsRow_nil _ _ _ _) ⟨w.heap.size, 0, none⟩ 1 1 _ rfl rfl hat news78_one (by unfold maxLen; omega) (by omega) (by simp) ?_; intro v' w' h1 h2 h3 h4))
  rcases h1.2 with ⟨_, hbad⟩ | ⟨g, cap, cur, rfl, hg, hh, hc1, hc2, hc3, hc4⟩
  · omega
  have k0 : ∃ v, w'.cell? ⟨g, 0, none⟩ = some v := by
    have hq : w'.cell? ⟨g, 0, none⟩ = cur[0]? := by simp [World.cell?, hh]
    exact ⟨_, hq.trans (Array.getElem?_eq_getElem (by rw [hc3]; omega))⟩
  obtain ⟨v0, k0⟩ := k0
  have kf : w'.frozen? ⟨g, 0, none⟩ = false := by simp [World.frozen?, hh]
  have hbw : Below w.heap.size w w' := hb1.grown h2 hb1.size (fun j e => by cases e)
  simp only [Nat.zero_add]
  clear h1 h2 h3 h4 hat hb1 hh hc4
  go_wp2_with fail
  exact ⟨rfl, _, by simp [results, Tryz.results17], rfl, hbw.setCell (p := ⟨g, 0, none⟩) hg _⟩
set_option maxHeartbeats 4000000 in
set_option maxRecDepth 20000 in
theorem write_step (l : List Fld) (ih : ∀ x ∈ l, WrOk x.fields) : WrOk l := by
  intro b lo n₀ w hwf hn₀ hlo hll hfit
  obtain ⟨n, hn⟩ : ∃ n, l.length = n := ⟨_, rfl⟩
  have HN : Hid (l.length = n) := hn
  rw [hn]
  have hnl : n ≤ 67108864 := by omega
  have HWF : Hid (Wf w lo n₀ l b) := hwf
  have HFIT : Hid (∀ x ∈ l, FitsF 67108864 x) := hfit
  have HIH : Hid (∀ x ∈ l, WrOk x.fields) := ih
  clear hn hll hwf hfit ih
  go_enter Tryz.func17, Tryz.ntmps17
  go_upto_region 1 with fail
  go_loopw [2] (fun i wr => ∃ j : Nat, j ≤ n ∧ i = .int .i64 j ∧ Hid (Wst lo n₀ w wr)) (fun i _ => n - (intOf i).toNat)
  case atStart => exact ⟨0, by omega, rfl, Wst.refl _ _ _⟩
  case round =>
    obtain ⟨j, hj, rfl, HST⟩ := hrel
    have hsz := HST.out.below.size
    have hwf2 := HWF.out.step HST.out
    have hln := HN.out
    by_cases hlt : j < n
    · have hjl : j < l.length := by omega
      have hx := HFIT.out _ (List.getElem_mem hjl)
      have hihx := HIH.out _ (List.getElem_mem hjl)
      have hrec : ∃ v, wr.cell? ⟨b, j * 14 + 13, none⟩ = some v ∧ (∃ a' n' c', v = .slice a' n' c') ∧ Calls Tryz.prog 17 #[v] wr (fun e w' => e = .returned (.tuple #[]) ∧ Wst lo n₀ wr w') := by
        cases hwf2 with
        | row G cs h1 h2 hB hz hc hin =>
          rcases hc j hjl with e | e
          · exact ⟨_, (hB.cell _).trans e, ⟨_, _, _, rfl⟩, hihx (G j) lo n₀ wr (hin j hjl) (by omega) (by omega) hx.len (fun z hz => hx.mem hz)⟩
          · exact ⟨_, (hB.cell _).trans e, ⟨_, _, _, rfl⟩, (write_nil wr).mono fun e w' h => ⟨h.1, Wst.of h.2 (by omega)⟩⟩
      obtain ⟨v, hv, ⟨a', n', c', rfl⟩, hcall⟩ := hrec
      have hbl : b < wr.heap.size := World.block_lt_of_cell? wr _ hv
      clear hwf2 hx hihx hln
      go_wp2_with fail
      refine hcall.mono ?_
      clear hcall hv
      rintro _ w3 ⟨rfl, hst3⟩
      have HST3 : Hid (Wst lo n₀ w w3) := HST.out.trans hst3
      have hwf3 := HWF.out.step HST3.out
      have hblk : ∃ cs, lo ≤ b ∧ b < n₀ ∧ Blk w3 b 48 cs ∧ cs.size = (n + 2) * 14 := by
        have hln := HN.out
        cases hwf3 with
        | row G cs h1 h2 hB hz hc hin => exact ⟨cs, h1, h2, hB, by rw [hz, hln]⟩
      obtain ⟨cs3, hb1, hb2, hB3, hz3⟩ := hblk
      have HB3 : Hid (Blk w3 b 48 cs3) := hB3
      obtain ⟨v0, u0⟩ : ∃ v, w3.cell? ⟨b, j * 14, none⟩ = some v := ⟨_, (hB3.cell _).trans (Array.getElem?_eq_getElem (by rw [hz3]; omega))⟩
      have f0 : w3.frozen? ⟨b, j * 14, none⟩ = false := hB3.frozen _
      obtain ⟨v1, u1⟩ : ∃ v, w3.cell? ⟨b, j * 14 + 1, none⟩ = some v := ⟨_, (hB3.cell _).trans (Array.getElem?_eq_getElem (by rw [hz3]; omega))⟩
      have f1 : w3.frozen? ⟨b, j * 14 + 1, none⟩ = false := hB3.frozen _
      obtain ⟨v2, u2⟩ : ∃ v, w3.cell? ⟨b, j * 14 + 2, none⟩ = some v := ⟨_, (hB3.cell _).trans (Array.getElem?_eq_getElem (by rw [hz3]; omega))⟩
      have f2 : w3.frozen? ⟨b, j * 14 + 2, none⟩ = false := hB3.frozen _
      obtain ⟨v3, u3⟩ : ∃ v, w3.cell? ⟨b, j * 14 + 3, none⟩ = some v := ⟨_, (hB3.cell _).trans (Array.getElem?_eq_getElem (by rw [hz3]; omega))⟩
      have f3 : w3.frozen? ⟨b, j * 14 + 3, none⟩ = false := hB3.frozen _
      obtain ⟨v4, u4⟩ : ∃ v, w3.cell? ⟨b, j * 14 + 4, none⟩ = some v := ⟨_, (hB3.cell _).trans (Array.getElem?_eq_getElem (by rw [hz3]; omega))⟩
      have f4 : w3.frozen? ⟨b, j * 14 + 4, none⟩ = false := hB3.frozen _
      obtain ⟨v5, u5⟩ : ∃ v, w3.cell? ⟨b, j * 14 + 5, none⟩ = some v := ⟨_, (hB3.cell _).trans (Array.getElem?_eq_getElem (by rw [hz3]; omega))⟩
      have f5 : w3.frozen? ⟨b, j * 14 + 5, none⟩ = false := hB3.frozen _
      obtain ⟨v6, u6⟩ : ∃ v, w3.cell? ⟨b, j * 14 + 6, none⟩ = some v := ⟨_, (hB3.cell _).trans (Array.getElem?_eq_getElem (by rw [hz3]; omega))⟩
      have f6 : w3.frozen? ⟨b, j * 14 + 6, none⟩ = false := hB3.frozen _
      obtain ⟨v7, u7⟩ : ∃ v, w3.cell? ⟨b, j * 14 + 7, none⟩ = some v := ⟨_, (hB3.cell _).trans (Array.getElem?_eq_getElem (by rw [hz3]; omega))⟩
      have f7 : w3.frozen? ⟨b, j * 14 + 7, none⟩ = false := hB3.frozen _
      obtain ⟨v8, u8⟩ : ∃ v, w3.cell? ⟨b, j * 14 + 8, none⟩ = some v := ⟨_, (hB3.cell _).trans (Array.getElem?_eq_getElem (by rw [hz3]; omega))⟩
      have f8 : w3.frozen? ⟨b, j * 14 + 8, none⟩ = false := hB3.frozen _
      obtain ⟨v9, u9⟩ : ∃ v, w3.cell? ⟨b, j * 14 + 9, none⟩ = some v := ⟨_, (hB3.cell _).trans (Array.getElem?_eq_getElem (by rw [hz3]; omega))⟩
      have f9 : w3.frozen? ⟨b, j * 14 + 9, none⟩ = false := hB3.frozen _
      obtain ⟨v10, u10⟩ : ∃ v, w3.cell? ⟨b, j * 14 + 10, none⟩ = some v := ⟨_, (hB3.cell _).trans (Array.getElem?_eq_getElem (by rw [hz3]; omega))⟩
      have f10 : w3.frozen? ⟨b, j * 14 + 10, none⟩ = false := hB3.frozen _
      obtain ⟨v11, u11⟩ : ∃ v, w3.cell? ⟨b, j * 14 + 11, none⟩ = some v := ⟨_, (hB3.cell _).trans (Array.getElem?_eq_getElem (by rw [hz3]; omega))⟩
      have f11 : w3.frozen? ⟨b, j * 14 + 11, none⟩ = false := hB3.frozen _
      obtain ⟨v12, u12⟩ : ∃ v, w3.cell? ⟨b, j * 14 + 12, none⟩ = some v := ⟨_, (hB3.cell _).trans (Array.getElem?_eq_getElem (by rw [hz3]; omega))⟩
      have f12 : w3.frozen? ⟨b, j * 14 + 12, none⟩ = false := hB3.frozen _
      obtain ⟨v13, u13⟩ : ∃ v, w3.cell? ⟨b, j * 14 + 13, none⟩ = some v := ⟨_, (hB3.cell _).trans (Array.getElem?_eq_getElem (by rw [hz3]; omega))⟩
      have f13 : w3.frozen? ⟨b, j * 14 + 13, none⟩ = false := hB3.frozen _
      have hbl3 : b < w3.heap.size := hB3.lt
      clear hwf3 hst3 HST hB3
      go_wp2_with fail
      have hset := setL_blk [.string ⟨#[119, 114, 105, 116, 116, 101, 110]⟩, .int .u8 77, .bool false, .int .u8 0, .bool false, .bool false, .string ⟨#[]⟩, .bool false, .string ⟨#[]⟩, .int .i64 0, .int .i64 0, .bool false, .bool false, .slice none 0 0] w3 (j * 14) cs3 HB3.out (by rw [hz3]; simp; omega)
      obtain ⟨cs4, q1, q2, q3, q4⟩ := hset
      have hgr : w3.grownBy (setL w3 b (j * 14) [.string ⟨#[119, 114, 105, 116, 116, 101, 110]⟩, .int .u8 77, .bool false, .int .u8 0, .bool false, .bool false, .string ⟨#[]⟩, .bool false, .string ⟨#[]⟩, .int .i64 0, .int .i64 0, .bool false, .bool false, .slice none 0 0]) (some b) := ⟨(setL_below (B := 0) (Nat.zero_le _) _ w3 _ (Below.refl 0 w3)).os, (setL_below (B := 0) (Nat.zero_le _) _ w3 _ (Below.refl 0 w3)).tape, (setL_below (B := 0) (Nat.zero_le _) _ w3 _ (Below.refl 0 w3)).output, by rw [setL_size]; exact Nat.le_refl _, fun k _ hk => setL_other (by simpa using hk) _ _ _⟩
      have hw4 : Wst lo n₀ w3 (setL w3 b (j * 14) [.string ⟨#[119, 114, 105, 116, 116, 101, 110]⟩, .int .u8 77, .bool false, .int .u8 0, .bool false, .bool false, .string ⟨#[]⟩, .bool false, .string ⟨#[]⟩, .int .i64 0, .int .i64 0, .bool false, .bool false, .slice none 0 0]) := by
        refine Wst.one hb1 hb2 hgr (Nat.le_trans hlo HST3.out.below.size) HB3.out q1 q2 (fun i _ => ?_)
        by_cases hij : i = j
        · subst hij
          exact .inr (q3 13 (by simp))
        · exact .inl (q4 _ (by simp; omega))
      refine ⟨⟨j + 1, by omega, by simp, HST3.out.trans hw4⟩, by simp only [intOf]; omega⟩
    · have hjn : j = n := by omega
      have hblk : ∃ cs, lo ≤ b ∧ b < n₀ ∧ Blk wr b 48 cs ∧ cs.size = (n + 2) * 14 := by
        cases hwf2 with
        | row G cs h1 h2 hB hz hc hin => exact ⟨cs, h1, h2, hB, by rw [hz, hln]⟩
      obtain ⟨cs3, hb1, hb2, hB3, hz3⟩ := hblk
      obtain ⟨i, hi, hz, hsz', hby⟩ := info_parts info57
      have hb4 := (Below.refl wr.heap.size wr).alloc (Nat.le_refl _) (.cells news78.toArray 48)
      have hat := news78_at wr
      have hB4 := hB3.old hb4
      have hown : (wr.alloc (.cells news78.toArray 48)).ownsRow lo 48 14 (.slice (some ⟨b, 0, none⟩) n (n + 2)) n (cs3.toList.take (n * 14)) := by
        refine ⟨by rw [List.length_take, Array.length_toList, hz3]; omega, .inr ⟨b, n + 2, cs3, rfl, hb1, hB4, by omega, by unfold maxLen; omega, hz3, rfl⟩⟩
      have HB3 : Hid (Blk wr b 48 cs3) := hB3
      have HB4 : Hid (Below wr.heap.size wr (wr.alloc (.cells news78.toArray 48))) := hb4
      clear hwf2 hB3 hB4 hjn hb4
      unfold news78 at hat hown HB4
      go_upto_region 6 with (first | (at_builtin; refine wpList_append_fits _ rfl _ _ 23 rfl lo 48 i 14 Tryz.underlying23 hi hsz' b n (n + 2) (cs3.toList.take (n * 14)) rfl hown ⟨wr.heap.size, 0, none⟩ 1 1 _ rfl rfl hat news78_one (by omega) ?_; intro w7 h1 h2))
      obtain ⟨cur, hh, hcz, htk⟩ : ∃ cur : Array Value, Blk w7 b 48 cur ∧ cur.size = (n + 2) * 14 ∧ cur.toList.take ((n + 1) * 14) = cs3.toList.take (n * 14) ++ news78 := by
        rcases h1.2 with ⟨hv, _⟩ | ⟨g, cap, cur, hv, _, hh, _, _, hc3, hc4⟩
        · cases hv
        · cases hv
          exact ⟨cur, hh, hc3, hc4⟩
      have hw7 : Wst lo n₀ wr w7 := by
        refine (Wst.of HB4.out (by omega)).trans ?_
        have hB4 : Blk (wr.alloc (.cells news78.toArray 48)) b 48 cs3 := HB3.out.old HB4.out
        refine Wst.one hb1 hb2 h2 (Nat.le_trans (by omega) HB4.out.size) hB4 hh (hcz.trans hz3.symm) (fun k hk => .inl ?_)
        have hk2 : k < n := by rw [hz3] at hk; omega
        have e1 := congrArg (fun L : List Value => L[k * 14 + 13]?) htk
        rw [List.getElem?_take_of_lt (by omega), List.getElem?_append_left (by rw [List.length_take, Array.length_toList, hz3]; omega), List.getElem?_take_of_lt (by omega)] at e1
        simpa using e1
      have HW7 : Hid (Wst lo n₀ w w7) := HST.out.trans hw7
      obtain ⟨v0, k0⟩ : ∃ v, w7.cell? ⟨b, n * 14, none⟩ = some v := ⟨_, (hh.cell _).trans (Array.getElem?_eq_getElem (by rw [hcz]; omega))⟩
      have kf : w7.frozen? ⟨b, n * 14, none⟩ = false := hh.frozen _
      have HH : Hid (Blk w7 b 48 cur) := hh
      have e1 : ((n + 1 : Nat) : Int) - 1 = (n : Int) := by omega
      have hn1 : (n : Int) < ((n + 1 : Nat) : Int) := by omega
      clear h1 h2 hat hown htk hw7 HB4 hh
      go_wp2_with fail
      refine ⟨rfl, _, by simp [results, Tryz.results17], rfl, HW7.out.trans ?_⟩
      have hS := HH.out.set (n * 14) (.string ⟨#[98, 101, 104, 105, 110, 100]⟩)
      refine Wst.one hb1 hb2 ⟨rfl, rfl, rfl, by simp [World.setCell], fun k _ hk => Below.heap_setCell w7 ⟨b, n * 14, none⟩ _ k (by simpa using hk)⟩ (Nat.le_trans hlo HW7.out.below.size) HH.out hS (by simp) (fun k _ => .inl ?_)
      rw [Array.getElem?_setIfInBounds, if_neg (by omega)]
theorem write_fld : ∀ f : Fld, WrOk f.fields := fun f => by
  induction f using Fld.ind with
  | h o l ih => exact write_step l ih
theorem write_any (l : List Fld) : WrOk l := write_step l fun x _ => write_fld x
structure Wsu (lo n₀ : Nat) (w w' : World) : Prop where
  below : Below lo w w'
  above : ∀ b, n₀ ≤ b → b < w.heap.size → w'.heap[b]? = w.heap[b]?
  row : ∀ b cs, lo ≤ b → b < n₀ → Blk w b 48 cs → ∃ cs', Blk w' b 48 cs' ∧ cs'.size = cs.size ∧ ∀ i, cs'[i * 14 + 13]? = cs[i * 14 + 13]? ∨ cs'[i * 14 + 13]? = some (.slice none 0 0)
theorem Wsu.refl (lo n₀ : Nat) (w : World) : Wsu lo n₀ w w := ⟨Below.refl _ _, fun _ _ _ => rfl, fun _ cs _ _ h => ⟨cs, h, rfl, fun _ => .inl rfl⟩⟩
theorem Wsu.trans {lo n₀ : Nat} {a b c : World} (h : Wsu lo n₀ a b) (k : Wsu lo n₀ b c) : Wsu lo n₀ a c := by
  refine ⟨h.below.trans k.below, fun x h1 h2 => (k.above x h1 (Nat.lt_of_lt_of_le h2 h.below.size)).trans (h.above x h1 h2), fun x cs h1 h2 hx => ?_⟩
  obtain ⟨cs', a1, a2, a3⟩ := h.row x cs h1 h2 hx
  obtain ⟨cs'', b1, b2, b3⟩ := k.row x cs' h1 h2 a1
  refine ⟨cs'', b1, b2.trans a2, fun i => ?_⟩
  rcases b3 i with e | e
  · rw [e]; exact a3 i
  · exact .inr e
theorem Wsu.of {lo n₀ : Nat} {w w' : World} (hb : Below w.heap.size w w') (hlo : lo ≤ w.heap.size) : Wsu lo n₀ w w' :=
  ⟨hb.mono hlo, fun b _ h => hb.block b h, fun _ cs _ _ h => ⟨cs, h.old hb, rfl, fun _ => .inl rfl⟩⟩
theorem Wsu.one {lo n₀ b : Nat} {w w' : World} {cs cs' : Array Value} (h1 : lo ≤ b) (h2 : b < n₀) (hO : w.grownBy w' (some b)) (hlo : lo ≤ w.heap.size) (hB : Blk w b 48 cs) (hB' : Blk w' b 48 cs') (hz : cs'.size = cs.size) (hc : ∀ i, cs'[i * 14 + 13]? = cs[i * 14 + 13]? ∨ cs'[i * 14 + 13]? = some (.slice none 0 0)) : Wsu lo n₀ w w' := by
  refine ⟨(Below.refl lo w).grown hO hlo (fun j e => by cases e; exact h1), fun x q1 q2 => hO.block x q2 (by simp; omega), fun x ds q1 q2 hx => ?_⟩
  by_cases hxb : x = b
  · subst hxb
    have e := hB.symm.trans hx
    cases e
    exact ⟨cs', hB', hz, hc⟩
  · exact ⟨ds, (hO.block x hx.lt (by simp; omega)).trans hx, rfl, fun _ => .inl rfl⟩
inductive Wfu (w : World) (lo n₀ : Nat) : List Fld → Option Addr → Nat → Prop where
  | nil : Wfu w lo n₀ [] none 0
  | row {l : List Fld} {b c : Nat} (A : Nat → Option Addr) (C : Nat → Nat) (cs : Array Value) : lo ≤ b → b < n₀ → Blk w b 48 cs → cs.size = c * 14 → l.length ≤ c →
      (∀ j (hj : j < l.length), cs[j * 14 + 13]? = some (.slice (A j) l[j].fields.length (C j)) ∨ cs[j * 14 + 13]? = some (.slice none 0 0)) → (∀ j (hj : j < l.length), Wfu w lo n₀ l[j].fields (A j) (C j)) → Wfu w lo n₀ l (some ⟨b, 0, none⟩) c
theorem Wfu.step {w w' : World} {lo n₀ : Nat} {l : List Fld} {a : Option Addr} {c : Nat} (h : Wfu w lo n₀ l a c) (hs : Wsu lo n₀ w w') : Wfu w' lo n₀ l a c := by
  induction h with
  | nil => exact .nil
  | @row l b c A C cs h1 h2 hB hz hlc hc _ ih =>
    obtain ⟨cs', a1, a2, a3⟩ := hs.row b cs h1 h2 hB
    refine .row A C cs' h1 h2 a1 (a2.trans hz) hlc (fun j hj => ?_) ih
    rcases a3 j with e | e
    · rw [e]; exact hc j hj
    · exact .inr e
theorem FT.wfu {w : World} {lo : Nat} {x : Option Nat} {l : List Fld} {a : Option Addr} {c : Nat} (h : FT w lo x l a c) : Wfu w lo w.heap.size l a c := by
  induction h with
  | nil => exact .nil
  | cons A C cs h1 h2 h3 hz hl hr hc _ ih => exact .row A C cs h1 h3.lt h3 hz hl (fun j hj => .inl ((h3.cell _).symm.trans (by have := (hr j hj).c13; rw [Nat.zero_add] at this; exact this))) ih
def WuOk (l : List Fld) : Prop := ∀ (a : Option Addr) (c lo n₀ : Nat) (w : World), Wfu w lo n₀ l a c → n₀ ≤ w.heap.size → lo ≤ w.heap.size → l.length ≤ 17179869184 → (∀ x ∈ l, FitsF 17179869184 x) →
  Calls Tryz.prog 17 #[.slice a l.length c] w fun e w' => e = .returned (.tuple #[]) ∧ Wsu lo n₀ w w'
theorem setCells_setL (b : Nat) : ∀ (vs : List Value) (o : Nat) (w : World), w.setCells b o vs = setL w b o vs
  | [], _, _ => rfl
  | v :: r, o, w => setCells_setL b r (o + 1) (w.setCell ⟨b, o, none⟩ v)
theorem wpList_append_room_f {w : World} {ops : Array Oper} {rest : List Oper} {o : Oper} {a : Act} {Q : Exit → Act → World → Prop} (hgd : o.guard = none) (s x : Operand)
    (ho : o.op = .call { callee := .builtin .append, args := #[s, x], argTypes := #[23, 23] }) (b n c : Nat) (cs : Array Value) (hs : a.eval s = .slice (some ⟨b, 0, none⟩) n c) (hroom : n + 1 ≤ c) (hB : Blk w b 48 cs) (hz : cs.size = c * 14) (ad xc : Nat) (hx : a.eval x = .slice (some ⟨ad, 0, none⟩) 1 xc)
    (hnews : ∀ (j : Nat) u, news78[j]? = some u → w.cell? ((⟨ad, 0, none⟩ : Addr).add j) = some u)
    (h : ∀ w' cs', Blk w' b 48 cs' → cs'.size = cs.size → (∀ i, cs'[i * 14 + 13]? = cs[i * 14 + 13]? ∨ cs'[i * 14 + 13]? = some (.slice none 0 0)) → w.grownBy w' (some b) → wpList Tryz.prog ops Q rest (a.put o.dst (.slice (some ⟨b, 0, none⟩) (n + 1) c)) w') : wpList Tryz.prog ops Q (o :: rest) a w := by
  obtain ⟨i, hi, hzz, hsz, hby⟩ := info_parts info57
  have hle : n * 14 + 14 ≤ cs.size := by rw [hz]; omega
  have hr := run_append_room_src (P := Tryz.prog) (w := w) 23 23 o.type 48 i Tryz.underlying23 hi b 0 n c (.slice (some ⟨ad, 0, none⟩) 1 xc) 1 news78 (by rw [hsz]; exact Src.ofSlice w Tryz.underlying23 ⟨ad, 0, none⟩ 1 xc news78 rfl hnews news78_one) hroom
    (fun j hj => by
      rw [hsz, hB.cell]
      have hj14 : j < 14 := hj
      rw [Array.getElem?_eq_getElem (by omega)]; rfl) (fun j _ => hB.frozen _)
  rw [hsz, Nat.zero_add, setCells_setL] at hr
  refine wpList_plain hgd fun K hK => ?_
  unfold Oper.wp execOp
  simp only [ho, resolve, invoke, builtin, Sem.run_bind, Sem.run_pure, Result.andThen_ok, List.map_toArray, List.map_cons, List.map_nil, hs, hx, hr]
  obtain ⟨cs', q1, q2, q3, q4⟩ := setL_blk news78 w (n * 14) cs hB hle
  refine hK _ _ (h _ cs' q1 q2 (fun k => ?_) ⟨(setL_below (B := 0) (Nat.zero_le _) _ w _ (Below.refl 0 w)).os, (setL_below (B := 0) (Nat.zero_le _) _ w _ (Below.refl 0 w)).tape, (setL_below (B := 0) (Nat.zero_le _) _ w _ (Below.refl 0 w)).output, by rw [setL_size]; exact Nat.le_refl _, fun k _ hk => setL_other (by simpa using hk) _ _ _⟩)
  by_cases hkn : k = n
  · subst hkn
    exact .inr (q3 13 (by decide))
  · exact .inl (q4 _ (by show _ ∨ n * 14 + 14 ≤ _; omega))
set_option maxHeartbeats 4000000 in
set_option maxRecDepth 20000 in
theorem writeu_step (l : List Fld) (ih : ∀ x ∈ l, WuOk x.fields) : WuOk l := by
  intro a c lo n₀ w hwf hn₀ hlo hll hfit
  rcases a with _ | ad
  · have hnil : l = [] ∧ c = 0 := by cases hwf; exact ⟨rfl, rfl⟩
    obtain ⟨rfl, rfl⟩ := hnil
    exact (write_nil w).mono fun e w' h => ⟨h.1, Wsu.of h.2 hlo⟩
  obtain ⟨b, rfl⟩ : ∃ b, ad = ⟨b, 0, none⟩ := by cases hwf; exact ⟨_, rfl⟩
  have hlc : l.length ≤ c := by cases hwf; assumption
  obtain ⟨n, hn⟩ : ∃ n, l.length = n := ⟨_, rfl⟩
  have HN : Hid (l.length = n) := hn
  rw [hn]
  have hnl : n ≤ 17179869184 := by omega
  have hnc : n ≤ c := by omega
  have HWF : Hid (Wfu w lo n₀ l (some ⟨b, 0, none⟩) c) := hwf
  have HFIT : Hid (∀ x ∈ l, FitsF 17179869184 x) := hfit
  have HIH : Hid (∀ x ∈ l, WuOk x.fields) := ih
  clear hn hll hwf hfit ih hlc
  go_enter Tryz.func17, Tryz.ntmps17
  go_upto_region 1 with fail
  go_loopw [2] (fun i wr => ∃ j : Nat, j ≤ n ∧ i = .int .i64 j ∧ Hid (Wsu lo n₀ w wr)) (fun i _ => n - (intOf i).toNat)
  case atStart => exact ⟨0, by omega, rfl, Wsu.refl _ _ _⟩
  case round =>
    obtain ⟨j, hj, rfl, HST⟩ := hrel
    have hsz := HST.out.below.size
    have hwf2 := HWF.out.step HST.out
    have hln := HN.out
    by_cases hlt : j < n
    · have hjl : j < l.length := by omega
      have hx := HFIT.out _ (List.getElem_mem hjl)
      have hihx := HIH.out _ (List.getElem_mem hjl)
      have hrec : ∃ v, wr.cell? ⟨b, j * 14 + 13, none⟩ = some v ∧ (∃ a' n' c', v = .slice a' n' c') ∧ Calls Tryz.prog 17 #[v] wr (fun e w' => e = .returned (.tuple #[]) ∧ Wsu lo n₀ wr w') := by
        cases hwf2 with
        | row A C cs h1 h2 hB hz hlc hc hin =>
          rcases hc j hjl with e | e
          · exact ⟨_, (hB.cell _).trans e, ⟨_, _, _, rfl⟩, hihx (A j) (C j) lo n₀ wr (hin j hjl) (by omega) (by omega) hx.len (fun z hz => hx.mem hz)⟩
          · exact ⟨_, (hB.cell _).trans e, ⟨_, _, _, rfl⟩, (write_nil wr).mono fun e w' h => ⟨h.1, Wsu.of h.2 (by omega)⟩⟩
      obtain ⟨v, hv, ⟨a', n', c', rfl⟩, hcall⟩ := hrec
      have hbl : b < wr.heap.size := World.block_lt_of_cell? wr _ hv
      clear hwf2 hx hihx hln
      go_wp2_with fail
      refine hcall.mono ?_
      clear hcall hv
      rintro _ w3 ⟨rfl, hst3⟩
      have HST3 : Hid (Wsu lo n₀ w w3) := HST.out.trans hst3
      have hwf3 := HWF.out.step HST3.out
      have hblk : ∃ cs, lo ≤ b ∧ b < n₀ ∧ Blk w3 b 48 cs ∧ cs.size = c * 14 := by
        have hln := HN.out
        cases hwf3 with
        | row A C cs h1 h2 hB hz hlc hc hin => exact ⟨cs, h1, h2, hB, hz⟩
      obtain ⟨cs3, hb1, hb2, hB3, hz3⟩ := hblk
      have HB3 : Hid (Blk w3 b 48 cs3) := hB3
      obtain ⟨v0, u0⟩ : ∃ v, w3.cell? ⟨b, j * 14, none⟩ = some v := ⟨_, (hB3.cell _).trans (Array.getElem?_eq_getElem (by rw [hz3]; omega))⟩
      have f0 : w3.frozen? ⟨b, j * 14, none⟩ = false := hB3.frozen _
      obtain ⟨v1, u1⟩ : ∃ v, w3.cell? ⟨b, j * 14 + 1, none⟩ = some v := ⟨_, (hB3.cell _).trans (Array.getElem?_eq_getElem (by rw [hz3]; omega))⟩
      have f1 : w3.frozen? ⟨b, j * 14 + 1, none⟩ = false := hB3.frozen _
      obtain ⟨v2, u2⟩ : ∃ v, w3.cell? ⟨b, j * 14 + 2, none⟩ = some v := ⟨_, (hB3.cell _).trans (Array.getElem?_eq_getElem (by rw [hz3]; omega))⟩
      have f2 : w3.frozen? ⟨b, j * 14 + 2, none⟩ = false := hB3.frozen _
      obtain ⟨v3, u3⟩ : ∃ v, w3.cell? ⟨b, j * 14 + 3, none⟩ = some v := ⟨_, (hB3.cell _).trans (Array.getElem?_eq_getElem (by rw [hz3]; omega))⟩
      have f3 : w3.frozen? ⟨b, j * 14 + 3, none⟩ = false := hB3.frozen _
      obtain ⟨v4, u4⟩ : ∃ v, w3.cell? ⟨b, j * 14 + 4, none⟩ = some v := ⟨_, (hB3.cell _).trans (Array.getElem?_eq_getElem (by rw [hz3]; omega))⟩
      have f4 : w3.frozen? ⟨b, j * 14 + 4, none⟩ = false := hB3.frozen _
      obtain ⟨v5, u5⟩ : ∃ v, w3.cell? ⟨b, j * 14 + 5, none⟩ = some v := ⟨_, (hB3.cell _).trans (Array.getElem?_eq_getElem (by rw [hz3]; omega))⟩
      have f5 : w3.frozen? ⟨b, j * 14 + 5, none⟩ = false := hB3.frozen _
      obtain ⟨v6, u6⟩ : ∃ v, w3.cell? ⟨b, j * 14 + 6, none⟩ = some v := ⟨_, (hB3.cell _).trans (Array.getElem?_eq_getElem (by rw [hz3]; omega))⟩
      have f6 : w3.frozen? ⟨b, j * 14 + 6, none⟩ = false := hB3.frozen _
      obtain ⟨v7, u7⟩ : ∃ v, w3.cell? ⟨b, j * 14 + 7, none⟩ = some v := ⟨_, (hB3.cell _).trans (Array.getElem?_eq_getElem (by rw [hz3]; omega))⟩
      have f7 : w3.frozen? ⟨b, j * 14 + 7, none⟩ = false := hB3.frozen _
      obtain ⟨v8, u8⟩ : ∃ v, w3.cell? ⟨b, j * 14 + 8, none⟩ = some v := ⟨_, (hB3.cell _).trans (Array.getElem?_eq_getElem (by rw [hz3]; omega))⟩
      have f8 : w3.frozen? ⟨b, j * 14 + 8, none⟩ = false := hB3.frozen _
      obtain ⟨v9, u9⟩ : ∃ v, w3.cell? ⟨b, j * 14 + 9, none⟩ = some v := ⟨_, (hB3.cell _).trans (Array.getElem?_eq_getElem (by rw [hz3]; omega))⟩
      have f9 : w3.frozen? ⟨b, j * 14 + 9, none⟩ = false := hB3.frozen _
      obtain ⟨v10, u10⟩ : ∃ v, w3.cell? ⟨b, j * 14 + 10, none⟩ = some v := ⟨_, (hB3.cell _).trans (Array.getElem?_eq_getElem (by rw [hz3]; omega))⟩
      have f10 : w3.frozen? ⟨b, j * 14 + 10, none⟩ = false := hB3.frozen _
      obtain ⟨v11, u11⟩ : ∃ v, w3.cell? ⟨b, j * 14 + 11, none⟩ = some v := ⟨_, (hB3.cell _).trans (Array.getElem?_eq_getElem (by rw [hz3]; omega))⟩
      have f11 : w3.frozen? ⟨b, j * 14 + 11, none⟩ = false := hB3.frozen _
      obtain ⟨v12, u12⟩ : ∃ v, w3.cell? ⟨b, j * 14 + 12, none⟩ = some v := ⟨_, (hB3.cell _).trans (Array.getElem?_eq_getElem (by rw [hz3]; omega))⟩
      have f12 : w3.frozen? ⟨b, j * 14 + 12, none⟩ = false := hB3.frozen _
      obtain ⟨v13, u13⟩ : ∃ v, w3.cell? ⟨b, j * 14 + 13, none⟩ = some v := ⟨_, (hB3.cell _).trans (Array.getElem?_eq_getElem (by rw [hz3]; omega))⟩
      have f13 : w3.frozen? ⟨b, j * 14 + 13, none⟩ = false := hB3.frozen _
      have hbl3 : b < w3.heap.size := hB3.lt
      clear hwf3 hst3 HST hB3
      go_wp2_with fail
      have hset := setL_blk [.string ⟨#[119, 114, 105, 116, 116, 101, 110]⟩, .int .u8 77, .bool false, .int .u8 0, .bool false, .bool false, .string ⟨#[]⟩, .bool false, .string ⟨#[]⟩, .int .i64 0, .int .i64 0, .bool false, .bool false, .slice none 0 0] w3 (j * 14) cs3 HB3.out (by rw [hz3]; simp; omega)
      obtain ⟨cs4, q1, q2, q3, q4⟩ := hset
      have hgr : w3.grownBy (setL w3 b (j * 14) [.string ⟨#[119, 114, 105, 116, 116, 101, 110]⟩, .int .u8 77, .bool false, .int .u8 0, .bool false, .bool false, .string ⟨#[]⟩, .bool false, .string ⟨#[]⟩, .int .i64 0, .int .i64 0, .bool false, .bool false, .slice none 0 0]) (some b) := ⟨(setL_below (B := 0) (Nat.zero_le _) _ w3 _ (Below.refl 0 w3)).os, (setL_below (B := 0) (Nat.zero_le _) _ w3 _ (Below.refl 0 w3)).tape, (setL_below (B := 0) (Nat.zero_le _) _ w3 _ (Below.refl 0 w3)).output, by rw [setL_size]; exact Nat.le_refl _, fun k _ hk => setL_other (by simpa using hk) _ _ _⟩
      have hw4 : Wsu lo n₀ w3 (setL w3 b (j * 14) [.string ⟨#[119, 114, 105, 116, 116, 101, 110]⟩, .int .u8 77, .bool false, .int .u8 0, .bool false, .bool false, .string ⟨#[]⟩, .bool false, .string ⟨#[]⟩, .int .i64 0, .int .i64 0, .bool false, .bool false, .slice none 0 0]) := by
        refine Wsu.one hb1 hb2 hgr (Nat.le_trans hlo HST3.out.below.size) HB3.out q1 q2 (fun i => ?_)
        by_cases hij : i = j
        · subst hij
          exact .inr (q3 13 (by simp))
        · exact .inl (q4 _ (by simp; omega))
      refine ⟨⟨j + 1, by omega, by simp, HST3.out.trans hw4⟩, by simp only [intOf]; omega⟩
    · have hjn : j = n := by omega
      have hblk : ∃ cs, lo ≤ b ∧ b < n₀ ∧ Blk wr b 48 cs ∧ cs.size = c * 14 := by
        cases hwf2 with
        | row A C cs h1 h2 hB hz hlc hc hin => exact ⟨cs, h1, h2, hB, hz⟩
      obtain ⟨cs3, hb1, hb2, hB3, hz3⟩ := hblk
      obtain ⟨i, hi, hz, hsz', hby⟩ := info_parts info57
      have hb4 := (Below.refl wr.heap.size wr).alloc (Nat.le_refl _) (.cells news78.toArray 48)
      have hat := news78_at wr
      have hB4 := hB3.old hb4
      have hz4 := hb4.size
      have HB3 : Hid (Blk wr b 48 cs3) := hB3
      have HB4 : Hid (Below wr.heap.size wr (wr.alloc (.cells news78.toArray 48))) := hb4
      have HBB : Hid (Blk (wr.alloc (.cells news78.toArray 48)) b 48 cs3) := hB4
      have HAT : Hid (∀ (j : Nat) u, news78[j]? = some u → (wr.alloc (.cells news78.toArray 48)).cell? ((⟨wr.heap.size, 0, none⟩ : Addr).add j) = some u) := hat
      clear hwf2 hB3 hB4 hjn hb4 hat
      obtain ⟨W4, hW4⟩ : ∃ W4, wr.alloc (.cells news78.toArray 48) = W4 := ⟨_, rfl⟩
      rw [hW4] at HB4 HBB HAT hz4
      by_cases hroom : n < c
      · unfold news78 at hW4
        go_upto_region 6 with (first | (at_builtin; (try rw [hW4]); refine wpList_append_room_f rfl _ _ rfl b n c cs3 rfl (by omega) HBB.out hz3 wr.heap.size 1 rfl HAT.out ?_; intro w7 cur hh hcz hcc h2))
        have hw7 : Wsu lo n₀ wr w7 := (Wsu.of HB4.out (by omega)).trans (Wsu.one hb1 hb2 h2 (Nat.le_trans (by omega) HB4.out.size) HBB.out hh hcz hcc)
        have HW7 : Hid (Wsu lo n₀ w w7) := HST.out.trans hw7
        have hcz' : cur.size = c * 14 := hcz.trans hz3
        obtain ⟨v0, k0⟩ : ∃ v, w7.cell? ⟨b, n * 14, none⟩ = some v := ⟨_, (hh.cell _).trans (Array.getElem?_eq_getElem (by rw [hcz']; omega))⟩
        have kf : w7.frozen? ⟨b, n * 14, none⟩ = false := hh.frozen _
        have HH : Hid (Blk w7 b 48 cur) := hh
        have e1 : ((n + 1 : Nat) : Int) - 1 = (n : Int) := by omega
        have hn1 : (n : Int) < ((n + 1 : Nat) : Int) := by omega
        clear h2 hw7 HB4 hh hcc HAT HBB hW4 hcz hcz'
        go_wp2_with fail
        refine ⟨rfl, _, by simp [results, Tryz.results17], rfl, HW7.out.trans ?_⟩
        have hS := HH.out.set (n * 14) (.string ⟨#[98, 101, 104, 105, 110, 100]⟩)
        refine Wsu.one hb1 hb2 ⟨rfl, rfl, rfl, by simp [World.setCell], fun k _ hk => Below.heap_setCell w7 ⟨b, n * 14, none⟩ _ k (by simpa using hk)⟩ (Nat.le_trans hlo HW7.out.below.size) HH.out hS (by simp) (fun k => .inl ?_)
        rw [Array.getElem?_setIfInBounds, if_neg (by omega)]
      · have hnc2 : c < n + 1 := by omega
        have hol : (cs3.toList.take (n * 14)).length = n * 14 := by rw [List.length_take, Array.length_toList, hz3]; omega
        have HOL : Hid (∀ ba, some (⟨b, 0, none⟩ : Addr) = some ba → ∀ j u, (cs3.toList.take (n * 14))[j]? = some u → W4.cell? (ba.add j) = some u) := fun ba e j u hu => by
          cases e
          have hj : j < n * 14 := by have := (List.getElem?_eq_some_iff.1 hu).1; omega
          rw [List.getElem?_take_of_lt hj] at hu
          rw [show (⟨b, 0, none⟩ : Addr).add j = ⟨b, j, none⟩ by by_cases hj : j = 0 <;> simp [Addr.add, hj], HBB.out.cell]
          simpa using hu
        unfold news78 at hW4
        go_upto_region 6 with (first | (at_builtin; (try rw [hW4]); refine wpList_append_grows _ rfl _ _ 23 rfl 48 i _ 14 120 Tryz.underlying23 hi hz hsz' hby rfl (by decide) (some ⟨b, 0, none⟩) n c (cs3.toList.take (n * 14)) rfl (fun h => by cases h) hol HOL.out ⟨wr.heap.size, 0, none⟩ 1 1 news78 rfl rfl HAT.out news78_one hnc2 (by unfold maxLen; omega) (by omega) ?_; intro v7 w7 h1 h2))
        rcases h1.2 with ⟨_, hbad⟩ | ⟨g, cap, cur, rfl, hg, hh, hc1, hc2, hc3, hc4⟩
        · omega
        have k0 : ∃ v, w7.cell? ⟨g, n * 14, none⟩ = some v := by
          have hq : w7.cell? ⟨g, n * 14, none⟩ = cur[n * 14]? := by simp [World.cell?, hh]
          exact ⟨_, hq.trans (Array.getElem?_eq_getElem (by rw [hc3]; omega))⟩
        obtain ⟨v0, k0⟩ := k0
        have kf : w7.frozen? ⟨g, n * 14, none⟩ = false := by simp [World.frozen?, hh]
        have hb7 : Below W4.heap.size W4 w7 := ⟨h2.os, h2.tape, h2.output, h2.size, fun k hk => h2.block k hk (by simp)⟩
        have hb47 : Below wr.heap.size wr w7 := HB4.out.trans (hb7.mono HB4.out.size)
        have HGG : Hid (Below wr.heap.size wr (w7.setCell ⟨g, n * 14, none⟩ (.string ⟨#[98, 101, 104, 105, 110, 100]⟩))) := hb47.setCell (p := ⟨g, n * 14, none⟩) (show wr.heap.size ≤ g by omega) _
        have e1 : ((n + 1 : Nat) : Int) - 1 = (n : Int) := by omega
        have hn1 : (n : Int) < ((n + 1 : Nat) : Int) := by omega
        clear h1 h2 hh hc4 HB4 HBB HAT HOL hol hW4 hb7 hb47
        go_wp2_with fail
        exact ⟨rfl, _, by simp [results, Tryz.results17], rfl, HST.out.trans (Wsu.of HGG.out (by omega))⟩
theorem writeu_fld : ∀ f : Fld, WuOk f.fields := fun f => by
  induction f using Fld.ind with
  | h o l ih => exact writeu_step l ih
theorem writeu_any (l : List Fld) : WuOk l := writeu_step l fun x _ => writeu_fld x
end Go.Proofs.YtcbjnifoojjipaaGreatDoor
