/- Contracts and lemmas (nothing is claimed here). -/
import Derived.Test.YtghjmfpjaabilaaGreatDoorSLay
import Derived.Test.YtghjmfpjaabilaaGreatDoorJ26
import Derived.Test.YtghjmfpjaabilaaGreatDoorSAwk
import Derived.Test.YtghjmfpjaabilaaGreatDoorSPrA
import Derived.Test.YtghjmfpjaabilaaGreatDoorJ28
import Derived.Deep.RegionHeld
import Derived.Test.YtghjmfpjaabilaaGreatDoorSLin
import Derived.BigRegion
import Derived.Test.YtghjmfpjaabilaaGreatDoorJ30
import Derived.Test.YtghjmfpjaabilaaGreatDoorJ29
import Derived.Test.YtghjmfpjaabilaaGreatDoorJ27
import Derived.Test.YtghjmfpjaabilaaGreatDoorRows
import Derived.Lay
import Derived.ProofKit
import Derived.OpenShut
import Derived.Stop.Joined
import Derived.Test.YtghjmfpjaabilaaGreatDoorCards
import Derived.Test.YtghjmfpjaabilaaGreatDoorTie
import Derived.WalkKit
import Derived.ShutString
import Derived.ChangeOld
import Derived.Below
import Derived.SevenTiedAt
namespace Go.Proofs.YtghjmfpjaabilaaGreatDoor
open Go.RowKit Go.Vf

def laidC : List (String × DataW Unit) := [("math/bits.deBruijn32tab", Rows.laid_math_bits_deBruijn32tab), ("math/bits.deBruijn64tab", Rows.laid_math_bits_deBruijn64tab), ("internal/strconv.uint64pow10", Rows.laid_internal_strconv_uint64pow10), ("errors.errorType", Rows.laid_errors_errorType)]
theorem et_at : Tryz.prog.globalNamed "errors.errorType" = some 0 := by kernel_rfl
theorem et_rtype : (Tryz.prog.cutTypes.find? (·.1 == "internal/reflectlite.rtype")).map (·.2) = some 137 := by kernel_rfl
theorem et_one : ((List.range 227).filter fun t => Tryz.prog.rowNamed t [101, 114, 114, 111, 114]) = [29] := by kernel_rfl
theorem et_size : Tryz.prog.types.size = 227 := by kernel_rfl
theorem laid_partsC {W : World} (h : laidMetH Tryz.prog laidC W) : laidMet Tryz.prog laidN W ∧ handlesMet Tryz.prog [("errors.errorType", Rows.laid_errors_errorType)] W := h
theorem err_of_laid {W : World} (h : handlesMet Tryz.prog [("errors.errorType", Rows.laid_errors_errorType)] W) : ErrT W := by
  obtain ⟨name, u, ty, e1, e2, e3, e4, e5⟩ := h _ (List.mem_singleton.2 rfl)
  have en : name = [101, 114, 114, 111, 114] := (Option.some.inj e1).symm
  subst en
  obtain rfl := Option.some.inj (et_rtype.symm.trans e2)
  have hm : ty ∈ (List.range 227).filter fun t => Tryz.prog.rowNamed t [101, 114, 114, 111, 114] := List.mem_filter.2 ⟨List.mem_range.2 (by rw [← et_size]; exact e3), e4⟩
  rw [et_one] at hm
  obtain rfl := List.mem_singleton.1 hm
  have hh : typeHandle Tryz.prog 29 = .pointer (some ⟨5, 29, none⟩) := by kernel_rfl
  rw [hh] at e5
  have := World.var?_cell et_at e5 0
  unfold ErrT
  simpa using this
/-- A world that meets the condition: the variables' cells are laid. -/
noncomputable def laidWorldC (os : Os) : World :=
  let w0 := World.laidAll Tryz.prog os laidN
  { w0 with heap := w0.heap.modify 0 fun
      | .cells _ t frozen => .cells #[.iface 137 (.agg #[hnd 29])] t frozen
      | o => o }
theorem laid_metC (os : Os) (args : Array Value) : laidMetH Tryz.prog laidC ((laidWorldC os).forCall (fun _ _ => 0) ⟨#[], args, []⟩).memory :=
  laidMetH_of_parts (laidMet_of_run' 200 (by kernel_rfl) (by kernel_rfl)) (by kernel_rfl)
theorem laid_shapedC (os : Os) (args : Array Value) : ((laidWorldC os).forCall (fun _ _ => 0) ⟨#[], args, []⟩).Shaped Tryz.prog := World.shaped_of_ZipB (by kernel_rfl) (by kernel_rfl)
end Go.Proofs.YtghjmfpjaabilaaGreatDoor

namespace Go.Proofs.YtghjmfpjaabilaaGreatDoor
open Go.RowKit Go.Vf

/-- What a text says is a right schema with a text of its own. -/
theorem parsed_right {s : List UInt8} {limit : Int} {l : List Fld} (h : parseS s = .ok (limit, l)) : (chkS bndQ limit l).1 = 0 ∧ (prnS limit l).length ≤ 65536 ∧ (∀ x ∈ l, FitsF 17179869184 x) ∧ l.length ≤ 17179869184 := by
  unfold parseS at h
  split at h
  · cases h
  · rename_i hl
    cases hq : schemaP (1 + ((linesL s).length : Int)) (lnF 1 (linesL s)) [] with
    | error m => rw [hq] at h; cases h
    | ok q =>
      have hr := read_ok s (by omega) q hq
      rw [hq] at h
      simp only [afterS] at h
      split at h
      · rename_i hc
        split at h
        · cases h
        · rename_i hp
          cases h
          exact ⟨hc, by omega, hr.fit, hr.len⟩
      · cases h
/-- Print of a right schema, and Parse of that. -/
theorem prnA_right {limit : Int} {l : List Fld} (h1 : (chkS bndQ limit l).1 = 0) (h2 : (prnS limit l).length ≤ 65536) : prnA limit l = (prnS limit l, 0, []) := by
  unfold prnA
  rw [if_pos h1, if_neg (by omega)]
theorem prnA_nil {limit : Int} {l : List Fld} (h : (prnA limit l).2.1 = 0) : (chkS bndQ limit l).1 = 0 ∧ (prnS limit l).length ≤ 65536 := by
  unfold prnA at h
  split at h
  · rename_i h1
    split at h
    · cases h
    · exact ⟨h1, by omega⟩
  · rename_i h1
    exact absurd h h1
/-- An error is not nil. -/
theorem fault_iface {w : World} {b : Nat} {v : Value} {c a : Int} {p : List Int} {y : Value} (h : FaultAt w b v c a p y) : ∃ k, v = .iface 53 (.pointer (some ⟨k, 0, none⟩)) := by
  obtain ⟨k, _, _, hv, _⟩ := h
  exact ⟨k, hv⟩
theorem print_yes (limit : Int) (l : List Fld) (hl : l.length ≤ 17179869184) (hfit : ∀ x ∈ l, FitsF 17179869184 x) (a : Option Addr) (c lo n₀ : Nat) (hc : l.length ≤ c) (w : World) (hn₀ : n₀ ≤ w.heap.size) (hin : FIn w lo n₀ l a) (hE : Env w) (h1 : (chkS bndQ limit l).1 = 0) (h2 : (prnS limit l).length ≤ 65536) :
    Calls Tryz.prog 6 #[.agg #[.int .i64 limit, .slice a l.length c]] w fun e w' => e = .returned (.tuple #[.string (bs (prnS limit l)), .nilIface]) ∧ Below w.heap.size w w' := by
  refine (print_a limit l hl hfit a c lo n₀ hc w hn₀ hin hE).mono ?_
  rw [prnA_right h1 h2]
  rintro e w' ⟨ev, rfl, hb, ⟨_, hh⟩ | ⟨hne, _⟩⟩
  · cases hh
    exact ⟨rfl, hb⟩
  · exact absurd rfl hne
theorem print_no (limit : Int) (l : List Fld) (hl : l.length ≤ 17179869184) (hfit : ∀ x ∈ l, FitsF 17179869184 x) (a : Option Addr) (c lo n₀ : Nat) (hc : l.length ≤ c) (w : World) (hn₀ : n₀ ≤ w.heap.size) (hin : FIn w lo n₀ l a) (hE : Env w) (h : (prnA limit l).2.1 ≠ 0) :
    Calls Tryz.prog 6 #[.agg #[.int .i64 limit, .slice a l.length c]] w fun e w' => ∃ T k, e = .returned (.tuple #[.string T, .iface 53 (.pointer (some ⟨k, 0, none⟩))]) ∧ Below w.heap.size w w' := by
  refine (print_a limit l hl hfit a c lo n₀ hc w hn₀ hin hE).mono ?_
  rintro e w' ⟨ev, rfl, hb, ⟨h0, _⟩ | ⟨_, v, hv, hF⟩⟩
  · exact absurd h0 h
  · cases hv
    obtain ⟨k, rfl⟩ := fault_iface hF
    exact ⟨_, k, rfl, hb⟩
theorem parse_yes (s : List UInt8) (w : World) (hE : Env w) {limit : Int} {l : List Fld} (h : parseS s = .ok (limit, l)) :
    Calls Tryz.prog 8 #[.string (bs s)] w fun e w' => Below w.heap.size w w' ∧ ∃ fa fc, e = .returned (.tuple #[.agg #[.int .i64 limit, .slice fa l.length fc], .nilIface]) ∧ l.length ≤ fc ∧ FIn w' w.heap.size w'.heap.size l fa := by
  have hp := parse_all s w hE
  rw [h] at hp
  exact hp
theorem parse_no (s : List UInt8) (w : World) (hE : Env w) {q : Int × Int × List Int} (h : parseS s = .error q) :
    Calls Tryz.prog 8 #[.string (bs s)] w fun e w' => Below w.heap.size w w' ∧ ∃ k, e = .returned (.tuple #[.agg #[.int .i64 0, .slice none 0 0], .iface 53 (.pointer (some ⟨k, 0, none⟩))]) := by
  have hp := parse_all s w hE
  rw [h] at hp
  refine hp.mono ?_
  rintro e w' ⟨hb, v, rfl, hF⟩
  obtain ⟨k, rfl⟩ := fault_iface hF
  exact ⟨hb, k, rfl⟩
theorem check_yes (limit : Int) (l : List Fld) (aa : Option Addr) (ca lo n₀ : Nat) (w : World) (hca : l.length ≤ ca) (hfit : ∀ x ∈ l, FitsF 17179869184 x) (hll : l.length ≤ 17179869184) (hn₀ : n₀ ≤ w.heap.size) (hin : FIn w lo n₀ l aa) (h1 : (chkS bndQ limit l).1 = 0) :
    Calls Tryz.prog 12 #[.agg #[.int .i64 limit, .slice aa l.length ca]] w fun e w' => e = .returned .nilIface ∧ Below w.heap.size w w' := by
  refine (scheck_any limit l aa ca lo n₀ w hca hfit hll hn₀ hin).mono ?_
  rintro e w' ⟨hb, ⟨_, rfl⟩ | ⟨hne, _⟩⟩
  · exact ⟨rfl, hb⟩
  · exact absurd h1 hne

end Go.Proofs.YtghjmfpjaabilaaGreatDoor

namespace Go.Proofs.YtghjmfpjaabilaaGreatDoor
open Go.RowKit Go.Vf

set_option maxHeartbeats 8000000 in
set_option maxRecDepth 20000 in
theorem schemaRoom_any (limit : Int) (l : List Fld) (aa : Option Addr) (ca n₀ : Nat) (rs : List (Int × List UInt8)) (ra : Option Addr) (rc : Nat) (hrl : rs.length ≤ 281474976710656) (hz : ∀ r ∈ rs, -9223372036854775808 ≤ r.1 ∧ r.1 ≤ 9223372036854775807 ∧ r.2.length ≤ 281474976710656) (w : World) (hE : Env w) (hT : ErrT w) (hR : RoomsAt w ra rs) (hl : l.length ≤ 281474976710656) (hf : ∀ x ∈ l, FitsF 281474976710656 x) (hn₀ : n₀ ≤ w.heap.size) (hin : FIn w 0 n₀ l aa) (hca : l.length ≤ ca) :
    Calls Tryz.prog 3 #[.agg #[.int .i64 limit, .slice aa l.length ca], .slice ra rs.length rc] w fun e w' => e = .returned (.bool true) ∧ Below w.heap.size w w' := by
  have hb1 := (Below.refl w.heap.size w).alloc (Nat.le_refl _) (.cells #[.int .i64 limit, .slice aa l.length ca] 24)
  have hS1 := Blk.new w 24 #[.int .i64 limit, .slice aa l.length ca]
  have hE1 := hE.old hb1
  have hin1 := hin.keep hb1 hn₀
  have hz0 : 0 < w.heap.size := by have := hE.sz; omega
  have HT0 : Hid (ErrT w) := hT
  have HR0 : Hid (RoomsAt w ra rs) := hR
  have HZ : Hid (∀ r ∈ rs, -9223372036854775808 ≤ r.1 ∧ r.1 ≤ 9223372036854775807 ∧ r.2.length ≤ 281474976710656) := hz
  clear hE hin hT hR hz
  go_enter Tryz.func3, Tryz.ntmps3
  go_upto_region 1 with fail
  have hs1 := hb1.size
  generalize w.alloc (.cells #[.int .i64 limit, .slice aa l.length ca] 24) = w1 at *
  have ha := awake_any w1 hE1
  go_wp2_with fail
  refine ha.mono ?_
  clear ha
  rintro _ w2 ⟨rfl, hb2⟩
  have hb02 := hb1.trans (hb2.mono hs1)
  have hS2 := hS1.old hb2
  have hin2 := hin1.keep hb2 (by omega)
  have hs2 := hb2.size
  have hv := vast_any l aa ca 0 n₀ w2 hl hf (by omega) hin2
  have s1 : w2.cell? ⟨w.heap.size, 1, none⟩ = some (.slice aa l.length ca) := hS2.cell 1
  have HE2 : Hid (Env w2) := hE1.old hb2
  clear hE1 hin1 hS1
  go_wp2_with fail
  refine hv.mono ?_
  clear hv s1
  rintro _ w3 ⟨rfl, q, rfl⟩
  have hb3 : Below w2.heap.size w2 (w2.drewN q) := ⟨rfl, rfl, rfl, Nat.le_refl _, fun _ _ => rfl⟩
  have hb03 := hb02.trans (hb3.mono hb02.size)
  have hS3 := hS2.old hb3
  have hin3 := hin2.keep hb3 (by omega)
  have hs3 := hb3.size
  generalize w2.drewN q = w3 at *
  by_cases hvast : 67108864 < wg 0 l
  · have t1 : decide (67108864 < wg 0 l) = true := decide_eq_true hvast
    clear hin2 hin3 hf
    go_wp2_with fail
    go_ret
    exact ⟨rfl, hb03⟩
  · have t1 : decide (67108864 < wg 0 l) = false := decide_eq_false hvast
    obtain ⟨hll, hf26, hf34⟩ := wg_fits hf hvast
    have hE3 : Env w3 := HE2.out.old hb3
    have s0 : w3.cell? ⟨w.heap.size, 0, none⟩ = some (.int .i64 limit) := hS3.cell 0
    have s1 : w3.cell? ⟨w.heap.size, 1, none⟩ = some (.slice aa l.length ca) := hS3.cell 1
    have HIN3 : Hid (FIn w3 0 n₀ l aa) := hin3
    have HS3 : Hid (Blk w3 w.heap.size 24 #[.int .i64 limit, .slice aa l.length ca]) := hS3
    have HE3 : Hid (Env w3) := hE3
    clear hin2 hS2 hf hvast HE2 hf26
    clear hS3
    by_cases hgood : (prnA limit l).2.1 = 0
    · obtain ⟨r1, r2⟩ := prnA_nil hgood
      have pr := print_yes limit l (by omega) hf34 aa ca 0 n₀ hca w3 (by omega) hin3 hE3 r1 r2
      have HPB : Hid (∀ rs, (roomL (prnS limit l) rs).length ≤ 65536 → parseS (roomL (prnS limit l) rs) = .ok (limit, l)) := room_back r1 hf34 r2
      obtain ⟨U, hU⟩ : ∃ U, prnS limit l = U := ⟨_, rfl⟩
      have HPU : Hid (∀ rs, (roomL U rs).length ≤ 65536 → parseS (roomL U rs) = .ok (limit, l)) := by have := HPB.out; rw [hU] at this; exact this
      rw [hU] at pr r2
      have HF34 : Hid (∀ x ∈ l, FitsF 17179869184 x) := hf34
      have HU : Hid (U.length ≤ 65536) := r2
      clear HPB hU r1 r2 hgood hin3 hE3 hf34
      go_wp2_with fail
      refine pr.mono ?_
      clear pr s0 s1
      rintro _ w4 ⟨rfl, hb34⟩
      have hs4 := hb34.size
      have hb04 := hb03.trans (hb34.mono hb03.size)
      have rm := roomy_any U HU.out rs hrl HZ.out ra rc w4 (HR0.out.old hb04)
      obtain ⟨V, hV⟩ : ∃ V, roomL U rs = V := ⟨_, rfl⟩
      have HPV : Hid (V.length ≤ 65536 → parseS V = .ok (limit, l)) := by have := HPU.out rs; rw [hV] at this; exact this
      rw [hV] at rm
      generalize rs.length = rln at *
      clear hV HPU
      go_wp2_with fail
      refine rm.mono ?_
      clear rm
      rintro _ w5 ⟨rfl, hb45⟩
      have hb35 := hb34.trans (hb45.mono hb34.size)
      have hE5 := HE3.out.old hb35
      have hs5 := hb45.size
      have hvz := bs_size V
      by_cases hlong : 65536 < V.length
      · have hpe : parseS V = .error (2, 0, []) := by unfold parseS; rw [if_pos hlong]
        have t1 : decide ((65536 : Int) < ((bs V).size : Int)) = true := decide_eq_true (by rw [hvz]; omega)
        have t2 : decide (65536 < (bs V).size) = true := decide_eq_true (by rw [hvz]; exact hlong)
        have pn := parse_all V w5 hE5
        rw [hpe] at pn
        clear hpe HPV hlong hvz
        go_wp2_with fail
        refine pn.mono ?_
        clear pn
        rintro _ w6 ⟨hb56, v, rfl, hF⟩
        have hs6 := hb56.size
        have HF : Hid (SCheckPost (2, []) w5 (.returned v) w6) := ⟨hb56, .inr ⟨by decide, v, rfl, hF⟩⟩
        obtain ⟨kf, hkf⟩ := fault_iface hF
        subst hkf
        clear hF
        go_upto_region 9 with fail
        have h7 := (Below.refl w6.heap.size w6).alloc (Nat.le_refl _) (.cells #[.int .i64 0, .slice none 0 0] 24)
        have hs7 := h7.size
        have hb37 : Below w3.heap.size w3 (w6.alloc (.cells #[.int .i64 0, .slice none 0 0] 24)) := hb35.trans ((hb56.mono hb35.size).trans (h7.mono (by have := hb35.size; omega)))
        have HK : Hid (∀ b, w5.heap.size ≤ b → b < w6.heap.size → (w6.alloc (.cells #[.int .i64 0, .slice none 0 0] 24)).heap[b]? = w6.heap[b]?) := fun b _ hb => h7.block b hb
        generalize w6.alloc (.cells #[.int .i64 0, .slice none 0 0] 24) = w7 at *
        have hb07 := hb03.trans (hb37.mono hb03.size)
        have hIs := is_check (2, []) w5 w6 w7 _ HF.out (by simp) HK.out (.slice none 0 0) (.inl ⟨none, 0, rfl, rfl⟩) (HT0.out.old hz0 hb07)
        dsimp only at hIs
        clear h7
        go_wp2_with fail
        refine hIs.mono ?_
        clear hIs
        rintro _ w8 ⟨rfl, hb78⟩
        have hfin : Below w.heap.size w w8 := hb07.trans (hb78.mono hb07.size)
        clear hb78
        go_wp2_with fail
        go_ret
        exact ⟨rfl, hfin⟩
      · have t1 : decide ((65536 : Int) < ((bs V).size : Int)) = false := decide_eq_false (by rw [hvz]; omega)
        have t2 : decide (65536 < (bs V).size) = false := decide_eq_false (by rw [hvz]; exact hlong)
        have pn := parse_yes V w5 hE5 (HPV.out (by omega))
        clear HPV hlong hvz
        go_wp2_with fail
        refine pn.mono ?_
        clear pn
        rintro _ w6 ⟨hb56, ga, gc, rfl, hgc, hg6⟩
        have hs6 := hb56.size
        go_upto_region 9 with fail
        have h7 := (Below.refl w6.heap.size w6).alloc (Nat.le_refl _) (.cells #[.int .i64 limit, .slice ga l.length gc] 24)
        have Y7 := Blk.new w6 24 #[.int .i64 limit, .slice ga l.length gc]
        have hg7 := hg6.keep h7 (Nat.le_refl _)
        have hs7 := h7.size
        have hb37 : Below w3.heap.size w3 (w6.alloc (.cells #[.int .i64 limit, .slice ga l.length gc] 24)) := hb35.trans ((hb56.mono hb35.size).trans (h7.mono (by have := hb35.size; omega)))
        generalize w6.alloc (.cells #[.int .i64 limit, .slice ga l.length gc] 24) = w7 at *
        obtain ⟨Y, hY⟩ : ∃ Y, w6.heap.size = Y := ⟨_, rfl⟩
        rw [hY] at Y7 ⊢
        have hb07 := hb03.trans (hb37.mono hb03.size)
        have S7 := HS3.out.old hb37
        have x1 : w7.cell? ⟨w.heap.size, 1, none⟩ = some (.slice aa l.length ca) := S7.cell 1
        have y1 : w7.cell? ⟨Y, 1, none⟩ = some (.slice ga l.length gc) := Y7.cell 1
        have sf := sameFields_any l ga aa gc ca w5.heap.size w6.heap.size 0 n₀ w7 hg7 (HIN3.out.keep hb37 (by omega)) hs7 (by have := hb37.size; omega) (by omega) HF34.out
        have HS7 : Hid (Blk w7 w.heap.size 24 #[.int .i64 limit, .slice aa l.length ca]) := S7
        have HY7 : Hid (Blk w7 Y 24 #[.int .i64 limit, .slice ga l.length gc]) := Y7
        clear S7 Y7 hg6 hg7 h7 hb56 HIN3
        go_wp2_with fail
        refine sf.mono ?_
        clear sf x1 y1
        rintro _ w8 ⟨rfl, hb78⟩
        have S8 := HS7.out.old hb78
        have Y8 := HY7.out.old hb78
        have x0 : w8.cell? ⟨w.heap.size, 0, none⟩ = some (.int .i64 limit) := S8.cell 0
        have y0 : w8.cell? ⟨Y, 0, none⟩ = some (.int .i64 limit) := Y8.cell 0
        have hfin : Below w.heap.size w w8 := hb07.trans (hb78.mono hb07.size)
        clear S8 Y8 hb78
        go_wp2_with fail
        go_ret
        exact ⟨rfl, hfin⟩
    · have pr := print_no limit l (by omega) hf34 aa ca 0 n₀ hca w3 (by omega) hin3 hE3 hgood
      clear hgood hin3 hE3 hf34
      go_wp2_with fail
      refine pr.mono ?_
      clear pr s0 s1
      rintro _ w4 ⟨T, k0, rfl, hb34⟩
      have hfin : Below w.heap.size w w4 := hb03.trans (hb34.mono hb03.size)
      clear hb34
      go_wp2_with fail
      go_ret
      exact ⟨rfl, hfin⟩
end Go.Proofs.YtghjmfpjaabilaaGreatDoor

namespace Go.Proofs.YtghjmfpjaabilaaGreatDoor
open Go.ChangeShapes Go.WideShapes Go.ChangeAt Go.RowKit Go.Deep Go.Vf

theorem so58 : Tryz.prog.cellsOf 58 = 2 := by kernel_rfl
theorem by58 : Tryz.prog.bytesOf 58 = 24 := by kernel_rfl
theorem room_trod {H : Type} {enc : TypeId × Value → H} {W : World} {n : Nat} {c d : Value} {x : DataW H × List MemPlace} (h : DataW.trod enc Tryz.prog W 0 (fun _ => true) true n 58 [c, d] = some x) (hw : ∀ q ∈ x.1.weights Tryz.prog 58, q ≤ reachBytes) : ∃ (z : Int) (s : List UInt8), c = .int .i64 z ∧ d = .string (bs s) ∧ s.length ≤ 281474976710656 ∧ -9223372036854775808 ≤ z ∧ z ≤ 9223372036854775807 := by
  obtain ⟨ys, n2, _, hye, _, hyl, hy⟩ := DataW.trod_struct Tryz.underlying58 h
  obtain ⟨y0, y1, rfl⟩ := list_two hyl
  have k0 : DataW.trod enc Tryz.prog W 0 (fun _ => true) true n2 3 (([c, d].drop 0).take (Tryz.prog.cellsOf 3)) = some y0 := hy 0 _ rfl
  have k1 : DataW.trod enc Tryz.prog W 0 (fun _ => true) true n2 9 (([c, d].drop 1).take (Tryz.prog.cellsOf 9)) = some y1 := hy 1 _ rfl
  rw [fo3] at k0
  rw [fo9] at k1
  obtain ⟨z2, e2, _, w2⟩ := DataW.trod_int Tryz.underlying3 (show DataW.trod enc Tryz.prog W 0 (fun _ => true) true n2 3 [c] = some y0 from k0)
  obtain ⟨s3, e3, d3, _⟩ := DataW.trod_string Tryz.underlying9 (show DataW.trod enc Tryz.prog W 0 (fun _ => true) true n2 9 [d] = some y1 from k1)
  simp only [List.cons.injEq, and_true] at e2 e3
  have hb := bounds_i64 w2
  refine ⟨z2, s3.data.toList, e2, ?_, ?_, hb.1, hb.2⟩
  · rw [e3]; congr 1
  · have := hw s3.data.toList.length (by
      rw [show x.1 = .agg ([y0, y1].map (·.1)) from congrArg Prod.fst hye]
      simp only [DataW.weights, Tryz.underlying58]
      refine DataW.weights_mem_each (j := 1) (t := 9) rfl rfl _ ?_
      rw [d3]; simp [DataW.weights])
    rw [reach_eq] at this
    omega
set_option maxHeartbeats 2000000 in
set_option maxRecDepth 20000 in
theorem rooms_open {H : Type} {enc : TypeId × Value → H} {base : Nat} {W : World} (v : Value) (d : DataW H) (pl : List MemPlace) (hok : Value.okWide Tryz.prog W .any base 25 v)
    (h : DataW.Trod enc Tryz.prog W 0 (fun _ => true) true 25 v d pl) (hw : ∀ n ∈ d.weights Tryz.prog 25, n ≤ reachBytes) : ∃ (rs : List (Int × List UInt8)) (a : Option Addr) (c : Nat), v = .slice a rs.length c ∧ RoomsAt W a rs ∧ rs.length ≤ 281474976710656 ∧ (∀ r ∈ rs, -9223372036854775808 ≤ r.1 ∧ r.1 ≤ 9223372036854775807 ∧ r.2.length ≤ 281474976710656) := by
  obtain ⟨fuel, hf⟩ := h
  have hv1 : ∃ u, v.cells.toList = [u] ∧ u = v := by
    rcases okWide_slice Tryz.underlying25 hok with ⟨a, n, c, rfl⟩
    exact ⟨_, rfl, rfl⟩
  obtain ⟨u, hu, rfl⟩ := hv1
  have g1 : DataW.trod enc Tryz.prog W 0 (fun _ => true) true fuel 25 [u] = some (d, pl) := by rw [← hu]; exact hf
  rcases DataW.trod_slice Tryz.underlying25 g1 with ⟨hcs, _⟩ | ⟨a, len, cap, elems, rest, n, hfn, hcs, hd, _, hl, hm, hlen, hel, hsp, hns⟩
  · simp only [List.cons.injEq, and_true] at hcs
    subst hcs
    exact ⟨[], none, 0, rfl, (fun k hk => by simp at hk), by simp, (fun r hr => by cases hr)⟩
  · simp only [List.cons.injEq, and_true] at hcs
    subst hcs
    have hd1 : d = .slice (elems.map (·.1)) (rest.map (·.1)) := congrArg Prod.fst hd
    have hwl : len ≤ 281474976710656 := by
      have := hw (((elems.map (·.1)).length + (rest.map (·.1)).length) * Tryz.prog.bytesOf 58) (by
        rw [hd1]; simp [DataW.weights, Tryz.underlying25])
      rw [by58, reach_eq] at this
      simp at this
      omega
    have hwd : ∀ i (hi : i < elems.length), ∀ q ∈ (elems[i].1).weights Tryz.prog 58, q ≤ reachBytes := fun i hi q hq => hw q (by
      rw [hd1]
      simp only [DataW.weights, Tryz.underlying25, List.mem_cons, List.mem_append]
      exact .inr (.inl (weightsAll_mem (List.mem_map.2 ⟨elems[i], List.getElem_mem hi, rfl⟩) q hq)))
    have hx : ∀ i, i < len → ∃ cs', W.cells? 0 (a.add (i * 2)) 2 = some cs' ∧ ∃ hi : i < elems.length, DataW.trod enc Tryz.prog W 0 (fun _ => true) true n 58 cs' = some elems[i] := by
      intro i hi
      have hie : i < elems.length := by omega
      have h1 := hel i hi
      rw [so58, List.getElem?_eq_getElem hie] at h1
      obtain ⟨cs', q1, q2⟩ := Option.bind_eq_some_iff.1 h1
      exact ⟨cs', q1, hie, q2⟩
    rcases Nat.eq_zero_or_pos len with h0 | h0
    · subst h0
      exact ⟨[], some a, cap, rfl, (fun k hk => by simp at hk), by simp, (fun r hr => by cases hr)⟩
    obtain ⟨b, off, spot⟩ := a
    have hspot : spot = none := by
      obtain ⟨cs', h1, _⟩ := hx 0 (by omega)
      obtain ⟨_, hlen', hcell⟩ := World.cells?_some h1
      have hc := hcell 0 (by omega)
      obtain ⟨c0, c1, rfl⟩ := list_two hlen'
      have := World.cell?_spot hc
      simpa [Addr.add] using this
    subst hspot
    have each : ∀ i, i < len → ∃ y : Int × List UInt8, (W.cell? ⟨b, off + i * 2, none⟩ = some (.int .i64 y.1) ∧ W.cell? ⟨b, off + i * 2 + 1, none⟩ = some (.string (bs y.2))) ∧ y.2.length ≤ 281474976710656 ∧ -9223372036854775808 ≤ y.1 ∧ y.1 ≤ 9223372036854775807 := by
      intro i hi
      obtain ⟨cs', h1, hie, h2⟩ := hx i (by omega)
      rw [Go.WideShapes.add_plain] at h1
      obtain ⟨_, hlen', hcell⟩ := World.cells?_some h1
      obtain ⟨c0, c1, rfl⟩ := list_two hlen'
      obtain ⟨z, s, rfl, rfl, q1, q2, q3⟩ := room_trod h2 (hwd i hie)
      have k0 := hcell 0 (by omega)
      have k1 := hcell 1 (by omega)
      rw [Go.WideShapes.add_plain] at k0 k1
      exact ⟨(z, s), ⟨k0, k1⟩, q1, q2, q3⟩
    obtain ⟨L, hLl, hLz⟩ := choose_list len each
    refine ⟨L, some ⟨b, off, none⟩, cap, by rw [hLl], ?_, by rw [hLl]; exact hwl, ?_⟩
    · intro k hk
      have h1 := (hLz k hk).1
      exact ⟨b, off, rfl, World.block_lt_of_cell? W _ h1.1, h1.1, h1.2⟩
    · intro r hr
      obtain ⟨i, hi, rfl⟩ := List.mem_iff_getElem.1 hr
      have h1 := (hLz i hi).2
      exact ⟨h1.2.1, h1.2.2, h1.1⟩
end Go.Proofs.YtghjmfpjaabilaaGreatDoor

namespace Go.Proofs.YtghjmfpjaabilaaGreatDoor
open Go.ChangeShapes Go.WideShapes Go.ChangeAt Go.RowKit
theorem schemaRoom_facts : joinedFacts Tryz.pinned.checked.prog 3 Tryz.f3 Rows.schemaRoomSpec Rows.schemaRoomRow = true := by kernel_rfl
end Go.Proofs.YtghjmfpjaabilaaGreatDoor

namespace Go.Proofs.YtghjmfpjaabilaaGreatDoor
open Go.ChangeShapes Go.WideShapes Go.ChangeAt Go.RowKit
open Go.ChangeMaps (open_string shut_string)

set_option maxRecDepth 20000 in
theorem schemaRoom_open {H : Type} {enc : TypeId × Value → H} {base : Nat} {W : World} (v0 : Value) (d0 : DataW H) (p0 : List MemPlace) (hok0 : Value.okWide Tryz.prog W .any base 24 v0)
    (h0 : DataW.Trod enc Tryz.prog W 0 (fun _ => true) true 24 v0 d0 p0) (hw0 : ∀ n ∈ d0.weights Tryz.prog 24, n ≤ reachBytes) (v1 : Value) (d1 : DataW H) (p1 : List MemPlace) (hok1 : Value.okWide Tryz.prog W .any base 25 v1)
    (h1 : DataW.Trod enc Tryz.prog W 0 (fun _ => true) true 25 v1 d1 p1) (hw1 : ∀ n ∈ d1.weights Tryz.prog 25, n ≤ reachBytes) (hE : Env W) (hT : ErrT W) :
    Calls Tryz.prog 3 #[v0, v1] W fun e w' => e = .returned (.bool true) ∧ Below W.heap.size W w' := by
  obtain ⟨z, l, a, c, rfl, hc, hin, hf, hll⟩ := schema_open v0 d0 p0 hok0 h0 hw0
  obtain ⟨rs, ra, rc, rfl, hR, hrl, hz⟩ := rooms_open v1 d1 p1 hok1 h1 hw1
  exact schemaRoom_any z l a c W.heap.size rs ra rc hrl hz W hE hT hR hll hf (Nat.le_refl _) hin hc

theorem schemaRoom_own : ownKnob Tryz.prog.godebug = none := by kernel_rfl
theorem schemaRoom_laidOut : laidOutB Tryz.prog = true := by kernel_rfl

set_option maxRecDepth 100000 in
theorem schemaRoom_lifted (os : Os) (started : os.Started) (H : Type) (enc : TypeId × Value → H) :
    ReturnsInHanded {} Tryz.checked os 3 .any (fun w args => (Rows.schemaRoomSpec.pre enc Tryz.prog Tryz.f3 [] false w args ∧ laidMetH Tryz.prog laidC w) ∧ sizedMet enc Tryz.prog Tryz.f3 (OpenSpec.ofChange Rows.schemaRoomSpec) false w args) (Rows.schemaRoomSpec.post enc Tryz.prog Tryz.f3 false true false false) := by
  refine returnsInHanded_both (C := Tryz.checked) (X := fun w _ => laidMetH Tryz.prog laidC w) (fun _ _ _ hh h => h.of_heap hh) schemaRoom_own started (by kernel_rfl) Tryz.func3
    (ChangeSpec.witness_shaped (enc := enc) (C := Tryz.checked) (os := os) (X := fun w _ => laidMetH Tryz.prog laidC w) false (laidWorldC os) #[.agg #[.int .i64 0, .slice none 0 0], .slice none 0 0] 8 rfl (laid_shapedC os _) (by kernel_rfl) (by kernel_rfl) (by kernel_rfl) (laid_metC os _)) ?_
  intro W base args ds gs before hval0 hW hwt hL hS
  have hval : ∀ (j : Nat) t v, Tryz.f3.params[j]? = some t → args[j]? = some v → Value.okWide Tryz.prog W .any base t v := hval0
  have hW' := hW
  obtain ⟨p, q, hA0, hV, rfl, hfz, hnd⟩ := hW
  have hA : DataW.TrodAll enc Tryz.prog W 0 (fun _ => true) true Tryz.f3.params.toList args.toList ds p := hA0
  rw [Tryz.params3] at hA hval
  obtain ⟨v0, vs0, d0, ds0, p0, q0, hargs, rfl, rfl, h0, r0⟩ := trodAll_cons hA
  obtain ⟨v1, vs1, d1, ds1, p1, q1, rfl, rfl, rfl, h1, r1⟩ := trodAll_cons r0
  obtain ⟨rfl, rfl, rfl⟩ := trodAll_nil r1
  obtain rfl : args = #[v0, v1] := by cases args; simp_all
  obtain ⟨rfl, rfl⟩ := trodVars_none hV
  have k0 := h0
  have k1 := h1
  have lt0 : ∀ x ∈ p0, x.block < W.heap.size := by obtain ⟨m, hm⟩ := k0; exact DataW.trod_lt m _ _ _ hm
  have lt1 : ∀ x ∈ p1, x.block < W.heap.size := by obtain ⟨m, hm⟩ := k1; exact DataW.trod_lt m _ _ _ hm
  have y0 : ∀ n ∈ d0.weights Tryz.prog 24, n ≤ reachBytes := fun n hn => of_decide_eq_true (List.all_eq_true.1 hwt _ (DataW.weights_mem_each (j := 0) (t := 24) (by kernel_rfl) rfl n hn))
  have y1 : ∀ n ∈ d1.weights Tryz.prog 25, n ≤ reachBytes := fun n hn => of_decide_eq_true (List.all_eq_true.1 hwt _ (DataW.weights_mem_each (j := 1) (t := 25) (by kernel_rfl) rfl n hn))
  clear hA0 hval0 hwt
  refine (schemaRoom_open v0 d0 p0 (hval 0 24 v0 rfl rfl) h0 y0 v1 d1 p1 (hval 1 25 v1 rfl rfl) h1 y1 (env_of_laid (laid_partsC hL).1 hS) (err_of_laid (laid_partsC hL).2)).mono fun e W' ⟨he, bel⟩ => ?_
  subst he
  exact ⟨_, rfl, _, _, _, [], _, [], hW', trodAll_mk1 (shut_bool Tryz.underlying4 _), (trodAll_cons_mk (Below.trod schemaRoom_laidOut (by kernel_rfl) (of_decide_eq_true (by kernel_rfl)) k0 bel lt0) (trodAll_cons_mk (Below.trod schemaRoom_laidOut (by kernel_rfl) (of_decide_eq_true (by kernel_rfl)) k1 bel lt1) trodAll_mk0)), rfl, bel.frame _, fun h => by cases h⟩

theorem schemaRoom_holds : Rows.SchemaRoomSaid :=
  OpenClaim.holds_of_wide 3 Tryz.f3 rfl rfl rfl rfl rfl rfl rfl ⟨rfl, rfl, rfl, rfl, rfl⟩ rfl rfl rfl rfl rfl (by kernel_rfl) Tryz.func3 schemaRoom_facts
    (of_decide_eq_true (by kernel_rfl)) (by unfold Func.isWrapper; first | (rw [if_pos (by decide +kernel)]; kernel_rfl) | (rw [if_neg (by decide +kernel)]; exact ⟨rfl, rfl⟩))
    (fun os started H enc _ => schemaRoom_lifted os started H enc)

theorem schemaRoom_card : Rows.SchemaRoomCardSaid :=
  Claim7.holds_tied_plain_at .later [] [.data, .data, .data, .handle] true (true, "ebf35fcb184541f3032777eddba607075bf13690c64930eee2e2f38f1d1b7e18") true
    schemaRoom_holds (fun _ h => by cases h) (by kernel_rfl) (fun _ h => by cases h) schemaRoom_row_tie rfl ⟨rfl, rfl⟩ (by kernel_rfl) rfl
    (fun f fn hf hfn => by
      obtain rfl : f = 3 := Option.some.inj ((show Tryz.prog.funcNamed Rows.schemaRoomRow.func = some 3 by kernel_rfl).symm.trans hf) |>.symm
      obtain rfl : fn = Tryz.f3 := (Option.some.inj (Tryz.func3.symm.trans hfn)).symm
      exact ⟨by kernel_rfl, fun j t ht => by
        rw [Tryz.params3] at ht
        have hm : t ∈ [24, 25] := by simpa using Array.mem_of_getElem? ht
        have hall : ([24, 25].all fun u => !Tryz.prog.wantsStandIn u) = true := by kernel_rfl
        exact (show Tryz.prog.wantsStandIn t = false by simpa using List.all_eq_true.1 hall t hm)⟩)
    (by kernel_rfl)

#print axioms schemaRoom_card
end Go.Proofs.YtghjmfpjaabilaaGreatDoor
