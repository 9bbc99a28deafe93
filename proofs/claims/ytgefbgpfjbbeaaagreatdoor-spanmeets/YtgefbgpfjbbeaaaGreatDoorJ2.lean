/- Contracts and lemmas (nothing is claimed here). -/
import Derived.Test.YtgefbgpfjbbeaaaGreatDoorJ1
import Derived.Test.YtgefbgpfjbbeaaaGreatDoorMayb
namespace Go.Proofs.YtgefbgpfjbbeaaaGreatDoor
open Go.RowKit Go.Vf

theorem any_drop (f : Prt → Bool) (l : List Prt) (k : Nat) (h : k < l.length) : (l.drop k).any f = (f l[k] || (l.drop (k + 1)).any f) := by
  rw [List.drop_eq_getElem_cons h, List.any_cons]
theorem World.alloc_le (w : World) (o : Obj) : w.heap.size ≤ (w.alloc o).heap.size := by rw [alloc_size]; omega

set_option maxHeartbeats 1000000 in
set_option maxRecDepth 20000 in
theorem deeper_any : ∀ (d : Nat), d ≤ 1000 → ∀ (p : Prt), Fits p → ∀ (a : Option Addr) (c lo n₀ : Nat) (w : World), n₀ ≤ w.heap.size → PIn w lo n₀ p a →
    Calls Tryz.prog 20 #[pV p a c, .int .i64 d] w fun e w' => e = .returned (.bool (deeper d p)) ∧ Below w.heap.size w w' := by
  intro d
  induction d with
  | zero =>
    intro _ p hf a c lo n₀ w hn₀ hin
    cases p with | mk k y b m r l =>
    rw [deeper0]
    unfold pV
    simp only [Prt.kind, Prt.yes, Prt.neg, Prt.mag, Prt.raw, Prt.items]
    have hb1 := (Below.refl w.heap.size w).alloc (Nat.le_refl _) (.cells #[.int .u8 k, .bool y, .bool b, .string m, .string r, .slice a l.length c] 44)
    by_cases h7 : k = 7
    · subst h7
      clear hin hf
      go_enter Tryz.func20, Tryz.ntmps20
      go_wp2_with fail
      go_ret
      exact ⟨rfl, hb1⟩
    · have t0 : (k != 7) = true := by simpa using h7
      have t1 : (k == 7) = false := by simpa using h7
      rw [t1]
      clear hin hf
      go_enter Tryz.func20, Tryz.ntmps20
      go_wp2_with fail
      go_ret
      exact ⟨rfl, hb1⟩
  | succ d ih =>
    intro hd p hf a c lo n₀ w hn₀ hin
    cases p with | mk k y b m r l =>
    have hl := hf.len
    simp only [Prt.items] at hl
    rw [deeperS]
    unfold pV
    simp only [Prt.kind, Prt.yes, Prt.neg, Prt.mag, Prt.raw, Prt.items]
    have hb0 := Blk.new w 44 #[.int .u8 k, .bool y, .bool b, .string m, .string r, .slice a l.length c]
    have hb1 := (Below.refl w.heap.size w).alloc (Nat.le_refl _) (.cells #[.int .u8 k, .bool y, .bool b, .string m, .string r, .slice a l.length c] 44)
    by_cases h7 : k = 7
    · subst h7
      rw [show (((7 : Int) == 7) && l.any (deeper d)) = l.any (deeper d) by simp]
      generalize hR : l.any (deeper d) = R
      have HR : Hid (R = (l.drop 0).any (deeper d)) := hR.symm
      clear hR
      have hD1 : ((d + 1 : Nat) : Int) - 1 = (d : Int) := by omega
      have hD2 : (1 : Int) ≤ ((d + 1 : Nat) : Int) ∧ ((d + 1 : Nat) : Int) ≤ 1001 := by omega
      generalize ((d + 1 : Nat) : Int) = D at hD1 hD2 ⊢
      obtain ⟨hD3, hD4⟩ := hD2
      have t2 : (D == 0) = false := beq_eq_false_iff_ne.2 (by omega)
      have hin1 := hin.keep hb1 hn₀
      have hb2 : (w.alloc (.cells #[.int .u8 7, .bool y, .bool b, .string m, .string r, .slice a l.length c] 44)).heap.size = w.heap.size + 1 := alloc_size _ _
      obtain ⟨c0, c1, c2, c3, c4, c5⟩ := hb0.c6
      go_enter Tryz.func20, Tryz.ntmps20
      go_wp2_with fail
      generalize w.alloc (.cells #[.int .u8 7, .bool y, .bool b, .string m, .string r, .slice a l.length c] 44) = w1 at hb0 hb1 hin1 hb2 c0 c1 c2 c3 c4 c5 ⊢
      clear c0 c1 c2 c3 c4 c5
      go_loopw [15] (fun i wr => ∃ (j : Nat), j ≤ l.length ∧ i = .int .i64 j ∧ Hid (R = (l.drop j).any (deeper d)) ∧ Below w1.heap.size w1 wr) (fun i _ => l.length - (intOf i).toNat)
      case atStart => exact ⟨0, by omega, rfl, HR, Below.refl _ _⟩
      case round =>
        clear HR
        obtain ⟨j, hj, rfl, HS, hbel⟩ := hrel
        obtain ⟨c0, c1, c2, c3, c4, c5⟩ := (hb0.below hbel hb0.lt).c6
        have hbb : Below w.heap.size w wr := hb1.trans (hbel.mono (by omega))
        have hsz := hbb.size
        by_cases hlt : j < l.length
        · have HD : Hid (R = (deeper d l[j] || (l.drop (j + 1)).any (deeper d))) := by
            show _ = _
            rw [HS.out, any_drop _ _ _ hlt]
          obtain ⟨bb, off, aj, cj, ha, _, _, hrow, hinj⟩ := (hin1.keep hbel (by omega)).at hlt
          simp only [Prt.items] at ha hrow hinj
          subst ha
          obtain ⟨r0, r1, r2, r3, r4, r5⟩ := hrow
          have hfj := hf.mem (p := .mk 7 y b m r l) (List.getElem_mem hlt)
          clear HS hin hf hin1
          generalize l[j] = x at *
          have hbx := hbel.alloc hbel.size (.cells #[.int .u8 x.kind, .bool x.yes, .bool x.neg, .string x.mag, .string x.raw, .slice aj x.items.length cj] 44)
          have hby := (Below.refl wr.heap.size wr).alloc (Nat.le_refl _) (.cells #[.int .u8 x.kind, .bool x.yes, .bool x.neg, .string x.mag, .string x.raw, .slice aj x.items.length cj] 44)
          have hbz := hby.size
          have hcall := ih (by omega) x hfj aj cj lo n₀ _ (Nat.le_trans (by omega) hbz) (hinj.keep hby (by omega))
          clear hby hbz
          unfold pV at hcall
          clear ih hinj
          go_wp2_with fail
          refine hcall.mono ?_
          rintro _ w2 ⟨rfl, hb3⟩
          have hb4 : Below w1.heap.size w1 w2 := hbx.trans (hb3.mono hbx.size)
          cases hq : deeper d x with
          | true =>
            have hRn : R = true := by rw [HD.out, hq]; rfl
            clear HD hq
            go_wp2_with fail
            go_ret
            exact ⟨by rw [hRn]; rfl, hb1.trans (hb4.mono (by omega))⟩
          | false =>
            have HD2 : Hid (R = (l.drop (j + 1)).any (deeper d)) := by
              show _ = _
              rw [HD.out, hq]; rfl
            clear HD hq
            go_wp2_with fail
            go_roundw
            case rel => exact ⟨j + 1, by omega, by simp, HD2, hb4⟩
            case measure => simp only [intOf]; omega
        · have hRn : R = false := by rw [HS.out, List.drop_of_length_le (by omega)]; rfl
          clear HS ih hin hf hin1
          go_wp2_with fail
          go_ret
          exact ⟨by rw [hRn]; rfl, hbb⟩
    · have t0 : (k != 7) = true := by simpa using h7
      have t1 : (k == 7) = false := by simpa using h7
      rw [t1, Bool.false_and]
      clear hin hf ih
      go_enter Tryz.func20, Tryz.ntmps20
      go_wp2_with fail
      go_ret
      exact ⟨rfl, hb1⟩

end Go.Proofs.YtgefbgpfjbbeaaaGreatDoor

namespace Go.Proofs.YtgefbgpfjbbeaaaGreatDoor
open Go.RowKit Go.Vf
theorem own1_mk (k : Int) (y n : Bool) (m r : ByteArray) (l : List Prt) : own1 (.mk k y n m r l) = ((k == 1 || !y) && (k == 2 || (!n && m.size == 0)) && (isRawK k || r.size == 0) && (k == 7 || l.length == 0)) := rfl
theorem may_mk (k : Int) (y n : Bool) (m r : ByteArray) (l : List Prt) : may (.mk k y n m r l) = (((k == 1 || !y) && (k == 2 || (!n && m.size == 0)) && (isRawK k || r.size == 0) && (k == 7 || l.length == 0)) && ((k == 0 || k == 1 || (k == 2 && numOk n m) || ((k == 3 || k == 5 || k == 6) && decide (r.size ≤ 65536)) || (k == 4 && r.size == 16) || (k == 7 && decide (l.length ≤ 1024))) && (k != 7 || l.all may))) := by
  rw [may_own3, own1_mk, own3_mk]

theorem ta74_nil  (w : World) : (Instr.typeAssert (.nilIface) 36 108 true).run Tryz.prog w = .ok (.tuple #[.pointer none, .bool false]) w := by kernel_rfl
theorem ta74_81 (y : Bool) (w : World) : (Instr.typeAssert (.iface 104 (.agg #[.bool y])) 36 108 true).run Tryz.prog w = .ok (.tuple #[.pointer none, .bool false]) w := by kernel_rfl
theorem ta74_83 (b : Bool) (m : ByteArray) (w : World) : (Instr.typeAssert (.iface 106 (.agg #[.bool b, .string m])) 36 108 true).run Tryz.prog w = .ok (.tuple #[.pointer none, .bool false]) w := by kernel_rfl
theorem ta74_85 (k : Int) (r : ByteArray) (w : World) : (Instr.typeAssert (.iface 111 (.agg #[.int .u8 k, .string r])) 36 108 true).run Tryz.prog w = .ok (.tuple #[.pointer none, .bool false]) w := by kernel_rfl
theorem ta74_74 (a : Addr) (w : World) : (Instr.typeAssert (.iface 108 (.pointer (some a))) 36 108 true).run Tryz.prog w = .ok (.tuple #[.pointer (some a), .bool true]) w := by kernel_rfl
theorem ta81_nil  (w : World) : (Instr.typeAssert (.nilIface) 36 104 true).run Tryz.prog w = .ok (.tuple #[.agg #[.bool false], .bool false]) w := by kernel_rfl
theorem ta81_81 (y : Bool) (w : World) : (Instr.typeAssert (.iface 104 (.agg #[.bool y])) 36 104 true).run Tryz.prog w = .ok (.tuple #[.agg #[.bool y], .bool true]) w := by kernel_rfl
theorem ta81_83 (b : Bool) (m : ByteArray) (w : World) : (Instr.typeAssert (.iface 106 (.agg #[.bool b, .string m])) 36 104 true).run Tryz.prog w = .ok (.tuple #[.agg #[.bool false], .bool false]) w := by kernel_rfl
theorem ta81_85 (k : Int) (r : ByteArray) (w : World) : (Instr.typeAssert (.iface 111 (.agg #[.int .u8 k, .string r])) 36 104 true).run Tryz.prog w = .ok (.tuple #[.agg #[.bool false], .bool false]) w := by kernel_rfl
theorem ta81_74 (a : Addr) (w : World) : (Instr.typeAssert (.iface 108 (.pointer (some a))) 36 104 true).run Tryz.prog w = .ok (.tuple #[.agg #[.bool false], .bool false]) w := by kernel_rfl
theorem ta83_nil  (w : World) : (Instr.typeAssert (.nilIface) 36 106 true).run Tryz.prog w = .ok (.tuple #[.agg #[.bool false, .string ⟨#[]⟩], .bool false]) w := by kernel_rfl
theorem ta83_81 (y : Bool) (w : World) : (Instr.typeAssert (.iface 104 (.agg #[.bool y])) 36 106 true).run Tryz.prog w = .ok (.tuple #[.agg #[.bool false, .string ⟨#[]⟩], .bool false]) w := by kernel_rfl
theorem ta83_83 (b : Bool) (m : ByteArray) (w : World) : (Instr.typeAssert (.iface 106 (.agg #[.bool b, .string m])) 36 106 true).run Tryz.prog w = .ok (.tuple #[.agg #[.bool b, .string m], .bool true]) w := by kernel_rfl
theorem ta83_85 (k : Int) (r : ByteArray) (w : World) : (Instr.typeAssert (.iface 111 (.agg #[.int .u8 k, .string r])) 36 106 true).run Tryz.prog w = .ok (.tuple #[.agg #[.bool false, .string ⟨#[]⟩], .bool false]) w := by kernel_rfl
theorem ta83_74 (a : Addr) (w : World) : (Instr.typeAssert (.iface 108 (.pointer (some a))) 36 106 true).run Tryz.prog w = .ok (.tuple #[.agg #[.bool false, .string ⟨#[]⟩], .bool false]) w := by kernel_rfl
theorem ta85_nil  (w : World) : (Instr.typeAssert (.nilIface) 36 111 true).run Tryz.prog w = .ok (.tuple #[.agg #[.int .u8 0, .string ⟨#[]⟩], .bool false]) w := by kernel_rfl
theorem ta85_81 (y : Bool) (w : World) : (Instr.typeAssert (.iface 104 (.agg #[.bool y])) 36 111 true).run Tryz.prog w = .ok (.tuple #[.agg #[.int .u8 0, .string ⟨#[]⟩], .bool false]) w := by kernel_rfl
theorem ta85_83 (b : Bool) (m : ByteArray) (w : World) : (Instr.typeAssert (.iface 106 (.agg #[.bool b, .string m])) 36 111 true).run Tryz.prog w = .ok (.tuple #[.agg #[.int .u8 0, .string ⟨#[]⟩], .bool false]) w := by kernel_rfl
theorem ta85_85 (k : Int) (r : ByteArray) (w : World) : (Instr.typeAssert (.iface 111 (.agg #[.int .u8 k, .string r])) 36 111 true).run Tryz.prog w = .ok (.tuple #[.agg #[.int .u8 k, .string r], .bool true]) w := by kernel_rfl
theorem ta85_74 (a : Addr) (w : World) : (Instr.typeAssert (.iface 108 (.pointer (some a))) 36 111 true).run Tryz.prog w = .ok (.tuple #[.agg #[.int .u8 0, .string ⟨#[]⟩], .bool false]) w := by kernel_rfl
theorem ta44_nil  (w : World) : (Instr.typeAssert (.nilIface) 36 117 true).run Tryz.prog w = .ok (.tuple #[.nilIface, .bool false]) w := by kernel_rfl
theorem ta44_81 (y : Bool) (w : World) : (Instr.typeAssert (.iface 104 (.agg #[.bool y])) 36 117 true).run Tryz.prog w = .ok (.tuple #[.nilIface, .bool false]) w := run_typeAssert_lacksB Tryz.underlying117 (by kernel_rfl) (by kernel_rfl) _ _ w
theorem ta44_83 (b : Bool) (m : ByteArray) (w : World) : (Instr.typeAssert (.iface 106 (.agg #[.bool b, .string m])) 36 117 true).run Tryz.prog w = .ok (.tuple #[.nilIface, .bool false]) w := run_typeAssert_lacksB Tryz.underlying117 (by kernel_rfl) (by kernel_rfl) _ _ w
theorem ta44_85 (k : Int) (r : ByteArray) (w : World) : (Instr.typeAssert (.iface 111 (.agg #[.int .u8 k, .string r])) 36 117 true).run Tryz.prog w = .ok (.tuple #[.nilIface, .bool false]) w := run_typeAssert_lacksB Tryz.underlying117 (by kernel_rfl) (by kernel_rfl) _ _ w
theorem ta44_74 (a : Addr) (w : World) : (Instr.typeAssert (.iface 108 (.pointer (some a))) 36 117 true).run Tryz.prog w = .ok (.tuple #[.iface 108 (.pointer (some a)), .bool true]) w := run_typeAssert_hasB Tryz.underlying117 (by kernel_rfl) _ _ w
theorem ta58_nil  (w : World) : (Instr.typeAssert (.nilIface) 36 235 true).run Tryz.prog w = .ok (.tuple #[.nilIface, .bool false]) w := by kernel_rfl
theorem ta58_81 (y : Bool) (w : World) : (Instr.typeAssert (.iface 104 (.agg #[.bool y])) 36 235 true).run Tryz.prog w = .ok (.tuple #[.nilIface, .bool false]) w := run_typeAssert_lacksB Tryz.underlying235 (by kernel_rfl) (by kernel_rfl) _ _ w
theorem ta58_83 (b : Bool) (m : ByteArray) (w : World) : (Instr.typeAssert (.iface 106 (.agg #[.bool b, .string m])) 36 235 true).run Tryz.prog w = .ok (.tuple #[.nilIface, .bool false]) w := run_typeAssert_lacksB Tryz.underlying235 (by kernel_rfl) (by kernel_rfl) _ _ w
theorem ta58_85 (k : Int) (r : ByteArray) (w : World) : (Instr.typeAssert (.iface 111 (.agg #[.int .u8 k, .string r])) 36 235 true).run Tryz.prog w = .ok (.tuple #[.iface 111 (.agg #[.int .u8 k, .string r]), .bool true]) w := run_typeAssert_hasB Tryz.underlying235 (by kernel_rfl) _ _ w
theorem ta58_74 (a : Addr) (w : World) : (Instr.typeAssert (.iface 108 (.pointer (some a))) 36 235 true).run Tryz.prog w = .ok (.tuple #[.nilIface, .bool false]) w := run_typeAssert_lacksB Tryz.underlying235 (by kernel_rfl) (by kernel_rfl) _ _ w
theorem ta67_nil  (w : World) : (Instr.typeAssert (.nilIface) 36 244 true).run Tryz.prog w = .ok (.tuple #[.nilIface, .bool false]) w := by kernel_rfl
theorem ta67_81 (y : Bool) (w : World) : (Instr.typeAssert (.iface 104 (.agg #[.bool y])) 36 244 true).run Tryz.prog w = .ok (.tuple #[.nilIface, .bool false]) w := run_typeAssert_lacksB Tryz.underlying244 (by kernel_rfl) (by kernel_rfl) _ _ w
theorem ta67_83 (b : Bool) (m : ByteArray) (w : World) : (Instr.typeAssert (.iface 106 (.agg #[.bool b, .string m])) 36 244 true).run Tryz.prog w = .ok (.tuple #[.iface 106 (.agg #[.bool b, .string m]), .bool true]) w := run_typeAssert_hasB Tryz.underlying244 (by kernel_rfl) _ _ w
theorem ta67_85 (k : Int) (r : ByteArray) (w : World) : (Instr.typeAssert (.iface 111 (.agg #[.int .u8 k, .string r])) 36 244 true).run Tryz.prog w = .ok (.tuple #[.nilIface, .bool false]) w := run_typeAssert_lacksB Tryz.underlying244 (by kernel_rfl) (by kernel_rfl) _ _ w
theorem ta67_74 (a : Addr) (w : World) : (Instr.typeAssert (.iface 108 (.pointer (some a))) 36 244 true).run Tryz.prog w = .ok (.tuple #[.nilIface, .bool false]) w := run_typeAssert_lacksB Tryz.underlying244 (by kernel_rfl) (by kernel_rfl) _ _ w
end Go.Proofs.YtgefbgpfjbbeaaaGreatDoor

namespace Go.Proofs.YtgefbgpfjbbeaaaGreatDoor
open Go.RowKit Go.Vf

/-- The value v, in blocks from lo on, below n₀, is what p says. -/
inductive VIn (w : World) (lo n₀ : Nat) : Value → Prt → Prop where
  | null : VIn w lo n₀ .nilIface (.mk 0 false false ⟨#[]⟩ ⟨#[]⟩ [])
  | truth (y : Bool) : VIn w lo n₀ (.iface 104 (.agg #[.bool y])) (.mk 1 y false ⟨#[]⟩ ⟨#[]⟩ [])
  | num (b : Bool) (m : ByteArray) : VIn w lo n₀ (.iface 106 (.agg #[.bool b, .string m])) (.mk 2 false b m ⟨#[]⟩ [])
  | raw (k : Int) (r : ByteArray) : isRawK k = true → VIn w lo n₀ (.iface 111 (.agg #[.int .u8 k, .string r])) (.mk k false false ⟨#[]⟩ r [])
  | tup {l : List Prt} {g c : Nat} {a : Option Addr} (V : Nat → Value) : lo ≤ g → g < n₀ → Blk w g 147 #[.slice a l.length c, .int .i64 ((depL l + 1 : Nat) : Int)] →
      (∀ j, j < l.length → ∃ h off, a = some ⟨h, off, none⟩ ∧ lo ≤ h ∧ h < n₀ ∧ w.cell? ⟨h, off + j, none⟩ = some (V j)) → (∀ j (hj : j < l.length), VIn w lo n₀ (V j) l[j]) →
      VIn w lo n₀ (.iface 108 (.pointer (some ⟨g, 0, none⟩))) (.mk 7 false false ⟨#[]⟩ ⟨#[]⟩ l)

theorem cell_block {w w' : World} {h : Nat} (e : w'.heap[h]? = w.heap[h]?) (k : Nat) : w'.cell? ⟨h, k, none⟩ = w.cell? ⟨h, k, none⟩ := by
  unfold World.cell?
  simp only [e]
theorem VIn.keep {w w' : World} {lo n₀ : Nat} {v : Value} {p : Prt} (h : VIn w lo n₀ v p) (hb : ∀ b, lo ≤ b → b < n₀ → w'.heap[b]? = w.heap[b]?) : VIn w' lo n₀ v p := by
  induction h with
  | null => exact .null
  | truth y => exact .truth y
  | num b m => exact .num b m
  | raw k r hk => exact .raw k r hk
  | tup V h1 h2 h3 h4 _ ih =>
    refine .tup V h1 h2 ((hb _ h1 h2).trans h3) (fun j hj => ?_) ih
    obtain ⟨h, off, e, q1, q2, q3⟩ := h4 j hj
    exact ⟨h, off, e, q1, q2, (cell_block (hb h q1 q2) _).trans q3⟩
theorem VIn.old {w w' : World} {lo n₀ n : Nat} {v : Value} {p : Prt} (h : VIn w lo n₀ v p) (hb : Below n w w') (hn : n₀ ≤ n) : VIn w' lo n₀ v p := h.keep fun b _ h2 => hb.block b (by omega)
theorem VIn.mono {w : World} {lo lo' n₀ n : Nat} {v : Value} {p : Prt} (h : VIn w lo n₀ v p) (hn : n₀ ≤ n) (hlo : lo' ≤ lo) : VIn w lo' n v p := by
  induction h with
  | null => exact .null
  | truth y => exact .truth y
  | num b m => exact .num b m
  | raw k r hk => exact .raw k r hk
  | tup V h1 h2 h3 h4 _ ih =>
    refine .tup V (by omega) (by omega) h3 (fun j hj => ?_) ih
    obtain ⟨h, off, e, q1, q2, q3⟩ := h4 j hj
    exact ⟨h, off, e, by omega, by omega, q3⟩

theorem VIn.form {w : World} {lo n₀ : Nat} {v : Value} {p : Prt} (h : VIn w lo n₀ v p) : v = .nilIface ∨ ∃ t x, v = .iface t x := by
  cases h
  · exact .inl rfl
  all_goals exact .inr ⟨_, _, rfl⟩

theorem depth_any (v : Value) (p : Prt) (lo n₀ : Nat) (w : World) (h : VIn w lo n₀ v p) : Calls Tryz.prog 57 #[v] w fun e w' => e = .returned (.int .i64 (dep p : Nat)) ∧ w' = w := by
  have z0 := ta74_nil
  have z1 := ta74_81
  have z2 := ta74_83
  have z3 := ta74_85
  have z4 := ta74_74
  cases h with
  | null =>
    go_enter Tryz.func57, Tryz.ntmps57
    go_wp2_with fail
    go_ret
    exact ⟨rfl, rfl⟩
  | truth y =>
    go_enter Tryz.func57, Tryz.ntmps57
    go_wp2_with fail
    go_ret
    exact ⟨rfl, rfl⟩
  | num b m =>
    go_enter Tryz.func57, Tryz.ntmps57
    go_wp2_with fail
    go_ret
    exact ⟨rfl, rfl⟩
  | raw k r hk =>
    have hd : dep (.mk k false false ⟨#[]⟩ r []) = 0 := by
      rw [dep, if_neg]
      intro h7; subst h7; simp [isRawK] at hk
    rw [hd]
    clear hk hd
    go_enter Tryz.func57, Tryz.ntmps57
    go_wp2_with fail
    go_ret
    exact ⟨rfl, rfl⟩
  | @tup l g c a V h1 h2 h3 h4 h5 =>
    have c1 := h3.cell 1
    have hd : dep (.mk 7 false false ⟨#[]⟩ ⟨#[]⟩ l) = depL l + 1 := by rw [dep, if_pos rfl]
    rw [hd]
    clear h3 h4 h5 hd
    generalize depL l + 1 = D at c1 ⊢
    have c1' : w.cell? ⟨g, 1, none⟩ = some (.int .i64 (D : Int)) := c1
    clear c1
    go_enter Tryz.func57, Tryz.ntmps57
    go_wp2_with fail
    go_ret
    exact ⟨rfl, rfl⟩

set_option maxHeartbeats 1000000 in
set_option maxRecDepth 20000 in
theorem tupleOf_any (l : List Prt) (hl : l.length ≤ 281474976710656) (hd : depL l ≤ 1000) (a : Option Addr) (c lo n₀ : Nat) (V : Nat → Value) (w : World)
    (hc : ∀ j, j < l.length → ∃ h off, a = some ⟨h, off, none⟩ ∧ lo ≤ h ∧ h < n₀ ∧ w.cell? ⟨h, off + j, none⟩ = some (V j)) (hv : ∀ j (hj : j < l.length), VIn w lo n₀ (V j) l[j]) :
    Calls Tryz.prog 38 #[.slice a l.length c] w fun e w' => e = .returned (.pointer (some ⟨w.heap.size, 0, none⟩)) ∧ w' = w.alloc (.cells #[.slice a l.length c, .int .i64 ((depL l + 1 : Nat) : Int)] 147) := by
  obtain ⟨ln, hln⟩ : ∃ ln, l.length = ln := ⟨_, rfl⟩
  have HLN : Hid (l.length = ln) := hln
  rw [hln] at hl ⊢
  clear hln
  obtain ⟨D, hD⟩ : ∃ D, depL l = D := ⟨_, rfl⟩
  have HD : Hid (depL l = D) := hD
  rw [hD] at hd ⊢
  clear hD
  go_enter Tryz.func38, Tryz.ntmps38
  go_wp2_with fail
  go_loopw [3, 8] (fun x i wr => ∃ (j s : Nat), j ≤ ln ∧ i = .int .i64 j ∧ x = .int .i64 s ∧ Hid (s = depL (l.take j)) ∧ s ≤ 1000 ∧ wr = w) (fun _ i _ => ln - (intOf i).toNat)
  case atStart => exact ⟨0, 0, by omega, rfl, rfl, by show _ = _; simp [depL], by omega, rfl⟩
  case round =>
    obtain ⟨j, s, hj, rfl, rfl, HS, hs, rfl⟩ := hrel
    by_cases hlt : j < ln
    · have hlt2 : j < l.length := by rw [HLN.out]; exact hlt
      obtain ⟨h, off, rfl, _, _, c0⟩ := hc j hlt2
      have hcall := depth_any (V j) l[j] lo n₀ wr (hv j hlt2)
      have hT : Hid (depL (l.take (j + 1)) = max s (dep l[j])) := by
        show _ = _
        rw [depL_take l j hlt2, HS.out]
      have hdl : dep l[j] ≤ 1000 := by
        have := depL_mem (List.getElem_mem hlt2)
        have := HD.out
        omega
      clear HS hc hv
      generalize V j = vj at c0 hcall
      generalize dep l[j] = dj at hcall hT hdl
      by_cases hsd : s < dj
      · have HM : Hid (dj = depL (l.take (j + 1))) := by show _ = _; rw [hT.out]; omega
        clear hT
        go_wp2_with fail
        refine hcall.mono ?_
        rintro _ _ ⟨rfl, rfl⟩
        go_wp2_with fail
        go_roundw
        case rel => exact ⟨j + 1, dj, by omega, by simp, rfl, HM, hdl, trivial⟩
        case measure => simp only [intOf]; omega
      · have HM : Hid (s = depL (l.take (j + 1))) := by show _ = _; rw [hT.out]; omega
        clear hT
        go_wp2_with fail
        refine hcall.mono ?_
        rintro _ _ ⟨rfl, rfl⟩
        go_wp2_with fail
        go_roundw
        case rel => exact ⟨j + 1, s, by omega, by simp, rfl, HM, hs, trivial⟩
        case measure => simp only [intOf]; omega
    · have hsD : s = D := by
        rw [HS.out, ← HD.out, List.take_of_length_le (by rw [HLN.out]; omega)]
      have hsD' : (s : Int) + 1 = ((D + 1 : Nat) : Int) := by omega
      clear HS hc hv
      go_wp2_with fail
      go_ret
      subst hsD
      exact ⟨rfl, by simp⟩
end Go.Proofs.YtgefbgpfjbbeaaaGreatDoor
