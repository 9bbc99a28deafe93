/- Contracts and lemmas (nothing is claimed here). -/
import Derived.Test.YtkjoomdglealmaaGreatDoorFLsB
import Derived.Test.YtkjoomdglealmaaGreatDoorJ16
import Derived.Shelf.Strings.Builder1
import Derived.Shelf.Strings.Builder2
import Derived.Shelf.Strings.BuilderF
import Derived.Shelf.Strings.Prefix
import Derived.Shelf.Bits.Mul64
import Derived.Shelf.Strings.Repeat
import Derived.Test.YtkjoomdglealmaaGreatDoorProg
import Derived.Test.YtkjoomdglealmaaGreatDoorJ21
import Derived.Test.YtkjoomdglealmaaGreatDoorJ4
import Derived.BigRegion
import Derived.Test.YtkjoomdglealmaaGreatDoorJ22
import Derived.Test.YtkjoomdglealmaaGreatDoorJ3
namespace Go.Proofs.YtkjoomdglealmaaGreatDoor
open Go.RowKit Go.Vf

inductive FewF : Fld → Prop where
  | mk {f : Fld} : f.fields.length ≤ 64 → (∀ x ∈ f.fields, FewF x) → FewF f
theorem tour_room {Q : Go.Vf.Own → Bool} : ∀ (k : Nat) (l : List Fld), SizeOf.sizeOf l ≤ k → ∀ (P : List Int) (ah : List Fld) (n m : Nat), n ≤ 64 → tourL Q P ah n l = .ok m → m ≤ 64 ∧ n + l.length ≤ m ∧ ∀ x ∈ l, FewF x := by
  intro k
  induction k with
  | zero => intro l hk; cases l <;> simp at hk
  | succ k ih =>
    intro l hk P ah n m hn h
    cases l with
    | nil => rw [tourL_nil] at h; cases h; exact ⟨hn, by simp, fun x hx => by cases hx⟩
    | cons f r =>
      obtain ⟨o, g⟩ := f
      have s1 : SizeOf.sizeOf g ≤ k := by simp at hk; omega
      have s2 : SizeOf.sizeOf r ≤ k := by simp at hk; omega
      by_cases he : seeF Q (P.length + 1) (n + 1) ah (.mk o g) = 0
      · cases hb : tourL Q (P ++ [(ah.length : Int)]) [] (n + 1) g with
        | bad c p q => rw [tourL_in Q P ah n (.mk o g) r he hb] at h; cases h
        | ok q =>
          rw [tourL_on Q P ah n (.mk o g) r he hb] at h
          obtain ⟨h1, _⟩ := seeF_may he
          obtain ⟨a1, a2, a3⟩ := ih g s1 _ _ _ _ h1 hb
          obtain ⟨b1, b2, b3⟩ := ih r s2 _ _ _ _ a1 h
          refine ⟨b1, by simp; omega, fun x hx => ?_⟩
          rcases List.mem_cons.1 hx with rfl | hx
          · exact .mk (by show g.length ≤ 64; omega) a3
          · exact b3 x hx
      · rw [tourL_bad Q P ah n (.mk o g) r he] at h; cases h
theorem chkS_few {Q : Go.Vf.Own → Bool} {limit : Int} {l : List Fld} (h : (chkS Q limit l).1 = 0) : l.length ≤ 64 ∧ ∀ x ∈ l, FewF x := by
  obtain ⟨m, hm⟩ := chkS_tour h
  obtain ⟨h1, h2, h3⟩ := tour_room _ l (Nat.le_refl _) [] [] 0 m (by omega) hm
  exact ⟨by omega, h3⟩

theorem least_any (hrep : ∀ w, Calls Tryz.prog 85 #[.string ⟨#[0]⟩, .int .i64 16] w fun e w' => e = .returned (.string zer16) ∧ Below w.heap.size w w') : ∀ (f : Fld), GoodF f → FewF f → LeastOk f := by
  intro f
  induction f using Fld.ind with
  | h o l ih =>
    intro hg hf
    obtain ⟨s1, hgs⟩ : o.lm.size ≤ 17179869184 ∧ ∀ x ∈ l, GoodF x := by cases hg with | mk a b c d e f g => exact ⟨c, g⟩
    obtain ⟨hl, hfs⟩ : l.length ≤ 64 ∧ ∀ x ∈ l, FewF x := by cases hf with | mk a b => exact ⟨a, b⟩
    by_cases h2 : o.kind = 2
    · exact least_2 o l h2 s1
    by_cases h4 : o.kind = 4
    · exact least_4 o l h4 hrep
    by_cases h7 : o.kind = 7
    · exact least_7 o l h7 hl (fun x hx => ih x hx (hgs x hx) (hfs x hx))
    · exact least_o o l h2 h4 h7

theorem chk_numOk {b : Bool} {m : ByteArray} (h : chk b m.data.toList = 0) : numOk b m = true := by
  have hl : m.data.toList.length = m.size := by simp
  unfold chk at h
  split at h; · cases h
  split at h; · cases h
  rename_i h1 h2
  unfold numOk
  simp only [Bool.and_eq_true, decide_eq_true_eq, Bool.not_eq_true']
  exact ⟨by omega, by simpa using h2⟩
theorem size_nil {m : ByteArray} (h : (m.size == 0) = true) : m = ⟨#[]⟩ := by
  have h1 : m.size = 0 := by simpa using h
  have h2 : m.data = #[] := Array.eq_empty_of_size_eq_zero h1
  cases m; simp at h2; rw [h2]
theorem say_num {o : Go.Vf.Own} {n : Nat} (h : maySayO (bndQ o) o n = true) (hk : o.kind = 2) : numOk o.ln o.lm = true ∧ oobR o o.ln o.lm = false := by
  unfold maySayO at h
  simp only [Bool.and_eq_true, decide_eq_true_eq] at h
  obtain ⟨⟨⟨⟨⟨⟨_, _⟩, _⟩, h4⟩, _⟩, _⟩, _⟩ := h
  rw [if_pos hk] at h4
  by_cases hb : o.bnd = true
  · rw [if_pos hb] at h4
    obtain ⟨q1, q2, q3⟩ := bndQ_chk h4
    refine ⟨chk_numOk q1, ?_⟩
    have e0 : cmpN o.ln o.lm.data.toList o.ln o.lm.data.toList = 0 := cmpN_zero.2 ⟨rfl, rfl⟩
    unfold oobR
    rw [e0]
    simp only [hb, Bool.true_and, Bool.or_eq_false_iff, decide_eq_false_iff_not]
    exact ⟨by omega, by omega⟩
  · have hb' : o.bnd = false := by simpa using hb
    rw [if_neg hb] at h4
    simp only [Bool.and_eq_true, Bool.not_eq_true'] at h4
    obtain ⟨⟨⟨q1, q2⟩, _⟩, _⟩ := h4
    refine ⟨?_, by unfold oobR; rw [hb']; rfl⟩
    rw [q1, size_nil q2]; rfl
theorem say_most {o : Go.Vf.Own} {n : Nat} (h : maySayO (bndQ o) o n = true) (hk : o.kind = 3 ∨ o.kind = 5) : 0 ≤ o.most := by
  unfold maySayO at h
  simp only [Bool.and_eq_true, decide_eq_true_eq] at h
  obtain ⟨⟨⟨⟨⟨⟨_, _⟩, _⟩, _⟩, h5⟩, _⟩, _⟩ := h
  rw [if_pos hk] at h5
  simp only [Bool.and_eq_true, decide_eq_true_eq] at h5
  exact h5.1

theorem Fits_lst : ∀ (f : Fld) (n : Nat), SeenF bndQ n f → FewF f → FitsF 17179869184 f → may (lst f) = true ∧ dep (lst f) + n ≤ 17 ∧ unf utfAt f (lst f) = none := by
  intro f
  induction f using Fld.ind with
  | h o l ih =>
    intro n hs hf hz
    obtain ⟨h16, hsay, h7, hss⟩ : n ≤ 16 ∧ maySayO (bndQ o) o l.length = true ∧ ¬(o.kind = 7 ∧ l = []) ∧ ∀ x ∈ l, SeenF bndQ (n + 1) x := by cases hs with | mk a b c d e => exact ⟨a, c, d, e⟩
    obtain ⟨hl, hfs⟩ : l.length ≤ 64 ∧ ∀ x ∈ l, FewF x := by cases hf with | mk a b => exact ⟨a, b⟩
    have hzs : ∀ x ∈ l, FitsF 17179869184 x := fun x hx => hz.mem hx
    obtain ⟨k1, k7, _, _, _⟩ := maySay_good hsay
    by_cases h2 : o.kind = 2
    · obtain ⟨q1, q2⟩ := say_num hsay h2
      rw [lst_2 h2]
      refine ⟨?_, ?_, ?_⟩
      · rw [may_eq]; simp [own1, own2, Prt.kind, Prt.yes, Prt.neg, Prt.mag, Prt.raw, Prt.items, q1, isRawK]; rfl
      · rw [dep, if_neg (by decide)]; omega
      · rw [unf, if_neg (by decide), if_neg (fun h => h h2.symm), if_pos rfl, q2]; rfl
    by_cases h4 : o.kind = 4
    · rw [lst_4 h4]
      refine ⟨by decide, by rw [dep, if_neg (by decide)]; omega, ?_⟩
      rw [unf, if_neg (by decide), if_neg (fun h => h h4.symm), if_neg (by decide), if_pos (by decide)]
      have : bytR o zer16.size (utfAt zer16) = 0 := by unfold bytR; rw [h4]; rfl
      rw [this]; rfl
    by_cases h7' : o.kind = 7
    · rw [lst_7 h7']
      have hne : l ≠ [] := fun e => h7 ⟨h7', e⟩
      have hall : ∀ x ∈ l, may (lst x) = true ∧ dep (lst x) + (n + 1) ≤ 17 ∧ unf utfAt x (lst x) = none := fun x hx => ih x hx (n + 1) (hss x hx) (hfs x hx) (hzs x hx)
      refine ⟨?_, ?_, ?_⟩
      · rw [may_eq]
        have h1 : (lstL l).all may = true := by
          rw [lstL_map, List.all_map, List.all_eq_true]
          exact fun x hx => (hall x hx).1
        have h3 : (lstL l).length ≤ 1024 := by rw [lstL_len]; omega
        simp [own1, own2, tupP, Prt.kind, Prt.yes, Prt.neg, Prt.mag, Prt.raw, Prt.items, isRawK, h3]
        exact ⟨rfl, fun x hx => List.all_eq_true.1 h1 x hx⟩
      · rw [tupP, dep, if_pos rfl]
        have : ∀ (q : List Fld), (∀ x ∈ q, x ∈ l) → depL (lstL q) + (n + 1) ≤ 17 := by
          intro q
          induction q with
          | nil =>
            intro _
            obtain ⟨x, hx⟩ := List.exists_mem_of_ne_nil l hne
            have := (hall x hx).2.1
            rw [lstL, depL]; omega
          | cons a r ihr =>
            intro hq
            have h1 := (hall a (hq a (by simp))).2.1
            have h2 := ihr (fun x hx => hq x (by simp [hx]))
            rw [lstL, depL]; omega
        have := this l (fun x hx => hx)
        omega
      · rw [tupP, unf, if_neg (by decide), if_neg (fun h => h h7'.symm), if_neg (by decide), if_neg (by decide), if_pos rfl, if_neg (by rw [lstL_len]; simp)]
        refine (unfL_none (by rw [lstL_len])).2 (fun j h1 h2 => ?_)
        have e : (lstL l)[j] = lst l[j] := by
          have : ∀ (m : List Prt) (e : m = l.map lst) (h : j < m.length), m[j] = lst l[j] := fun m e h => by subst e; simp
          exact this _ (lstL_map l) h2
        rw [e]
        exact (hall _ (List.getElem_mem h1)).2.2
    · rw [lst_o h2 h4 h7']
      have hk : o.kind = 1 ∨ o.kind = 3 ∨ o.kind = 5 ∨ o.kind = 6 := by omega
      refine ⟨?_, by rw [dep, if_neg h7']; omega, ?_⟩
      · rcases hk with h | h | h | h <;> (rw [h]; decide)
      · rw [unf, if_neg (by omega), if_neg (fun h => h rfl), if_neg h2]
        rcases hk with h | h
        · rw [if_neg (by rw [h]; decide), if_neg h7']
        · rw [if_pos (by rcases h with h | h | h <;> (rw [h]; decide)), utfAt_nil]
          have : bytR o (⟨#[]⟩ : ByteArray).size (-1) = 0 := by
            unfold bytR
            rw [if_neg, if_neg]
            · simp
            · simp only [Bool.and_eq_true, Bool.or_eq_true, beq_iff_eq, decide_eq_true_eq]
              rintro ⟨hq, hm⟩
              have := say_most hsay hq
              have hz : ((⟨#[]⟩ : ByteArray).size : Int) = 0 := rfl
              omega
          rw [this]; rfl
end Go.Proofs.YtkjoomdglealmaaGreatDoor

namespace Go.Proofs
open Go.Shelf
def Tryz.lays105_ren : Go.Shelf.Ren := ⟨fun | 105 => 85 | 212 => 119 | 99 => 120 | 165 => 121 | 166 => 122 | 170 => 123 | 169 => 124 | 263 => 153 | 264 => 154 | 206 => 155 | 240 => 156 | 241 => 157 | 276 => 187 | 277 => 188 | n => n, fun | 9 => 9 | 3 => 3 | 4 => 4 | 20 => 20 | 0 => 0 | 46 => 227 | 109 => 228 | 5 => 5 | 72 => 234 | 76 => 85 | 51 => 276 | 146 => 277 | 53 => 279 | 148 => 280 | 70 => 231 | 37 => 232 | 75 => 42 | 127 => 275 | 164 => 152 | 80 => 143 | n => n, fun | n => n⟩
theorem Tryz.lays105 : Go.Proofs.Lays.n105 Tryz.prog Tryz.lays105_ren := {
  mixed := by kernel_rfl
  f99 := Tryz.func120.trans (congrArg some (by kernel_rfl))
  f105 := Tryz.func85.trans (congrArg some (by kernel_rfl))
  f165 := Tryz.func121.trans (congrArg some (by kernel_rfl))
  f166 := Tryz.func122.trans (congrArg some (by kernel_rfl))
  f169 := Tryz.func124.trans (congrArg some (by kernel_rfl))
  f170 := Tryz.func123.trans (congrArg some (by kernel_rfl))
  f206 := Tryz.func155.trans (congrArg some (by kernel_rfl))
  f212 := Tryz.func119.trans (congrArg some (by kernel_rfl))
  f240 := Tryz.func156.trans (congrArg some (by kernel_rfl))
  f241 := Tryz.func157.trans (congrArg some (by kernel_rfl))
  f263 := Tryz.func153.trans (congrArg some (by kernel_rfl))
  f264 := Tryz.func154.trans (congrArg some (by kernel_rfl))
  f276 := Tryz.func187.trans (congrArg some (by kernel_rfl))
  f277 := Tryz.func188.trans (congrArg some (by kernel_rfl))
  t0 := Tryz.underlying0
  a0 := Tryz.isAgg0
  z0 := Tryz.sizeOf0
  v0 := Tryz.zeroValue0
  t3 := Tryz.underlying3
  a3 := Tryz.isAgg3
  z3 := Tryz.sizeOf3
  v3 := Tryz.zeroValue3
  t4 := Tryz.underlying4
  a4 := Tryz.isAgg4
  z4 := Tryz.sizeOf4
  v4 := Tryz.zeroValue4
  t5 := Tryz.underlying5
  a5 := Tryz.isAgg5
  z5 := Tryz.sizeOf5
  v5 := Tryz.zeroValue5
  t9 := Tryz.underlying9
  a9 := Tryz.isAgg9
  z9 := Tryz.sizeOf9
  v9 := Tryz.zeroValue9
  t20 := Tryz.underlying20
  a20 := Tryz.isAgg20
  z20 := Tryz.sizeOf20
  v20 := Tryz.zeroValue20
  t37 := Tryz.underlying232
  a37 := Tryz.isAgg232
  z37 := Tryz.sizeOf232
  v37 := Tryz.zeroValue232
  t46 := Tryz.underlying227
  a46 := Tryz.isAgg227
  z46 := Tryz.sizeOf227
  v46 := Tryz.zeroValue227
  t51 := Tryz.underlying276
  a51 := Tryz.isAgg276
  z51 := Tryz.sizeOf276
  v51 := Tryz.zeroValue276
  t53 := Tryz.underlying279
  a53 := Tryz.isAgg279
  z53 := Tryz.sizeOf279
  v53 := Tryz.zeroValue279
  t70 := Tryz.underlying231
  a70 := Tryz.isAgg231
  z70 := Tryz.sizeOf231
  v70 := Tryz.zeroValue231
  t72 := Tryz.underlying234
  a72 := Tryz.isAgg234
  z72 := Tryz.sizeOf234
  v72 := Tryz.zeroValue234
  t75 := Tryz.underlying42
  a75 := Tryz.isAgg42
  z75 := Tryz.sizeOf42
  v75 := Tryz.zeroValue42
  t76 := Tryz.underlying85
  a76 := Tryz.isAgg85
  z76 := Tryz.sizeOf85
  v76 := Tryz.zeroValue85
  t109 := Tryz.underlying228
  a109 := Tryz.isAgg228
  z109 := Tryz.sizeOf228
  v109 := Tryz.zeroValue228
  t127 := Tryz.underlying275
  a127 := Tryz.isAgg275
  z127 := Tryz.sizeOf275
  v127 := Tryz.zeroValue275
  t146 := Tryz.underlying277
  a146 := Tryz.isAgg277
  z146 := Tryz.sizeOf277
  v146 := Tryz.zeroValue277
  t148 := Tryz.underlying280
  a148 := Tryz.isAgg280
  z148 := Tryz.sizeOf280
  v148 := Tryz.zeroValue280
  t164 := Tryz.underlying152
  a164 := Tryz.isAgg152
  z164 := Tryz.sizeOf152
  v164 := Tryz.zeroValue152 }
theorem Tryz.Builder_Extra_105 : Builder.Extra Tryz.prog Tryz.lays105_ren := {
  sizeBuilder := by kernel_rfl
  liesBuilder := by kernel_rfl
  t5 := Tryz.underlying5
  a5 := Tryz.isAgg5
  z5 := Tryz.sizeOf5
  v5 := Tryz.zeroValue5
  infoByte := by kernel_rfl
  cellsByte := by kernel_rfl
  sizeByte := by kernel_rfl
  neB5 := by decide }
open Go.RowKit Go.Lib in
theorem Tryz.strings_Repeat_main (s : ByteArray) (c : Nat) (w : World) (hc2 : 2 ≤ c) (hc : c ≤ 9223372036854775807) (hlen : s.size * c ≤ 140737488355328) (h0 : 0 < s.size) :
    Calls Tryz.prog 85 #[.string s, .int .i64 c] w fun e w' => e = .returned (.string ⟨(Lib.repeatL s.data.toList c).toArray⟩) ∧ Below w.heap.size w w' := Any.strings_Repeat_main Tryz.lays105 Tryz.Builder_Extra_105 s c w hc2 hc hlen h0
end Go.Proofs

namespace Go.Proofs.YtkjoomdglealmaaGreatDoor
open Go.RowKit Go.Vf

theorem repeat16 (w : World) : Calls Tryz.prog 85 #[.string ⟨#[0]⟩, .int .i64 16] w fun e w' => e = .returned (.string zer16) ∧ Below w.heap.size w w' := by
  have h := Tryz.strings_Repeat_main ⟨#[0]⟩ 16 w (by decide) (by decide) (by decide) (by decide)
  have e : (⟨(Go.Lib.repeatL (⟨#[0]⟩ : ByteArray).data.toList 16).toArray⟩ : ByteArray) = zer16 := by rfl
  rw [e] at h
  exact h
theorem fits_lst : ∀ (f : Fld), FitsF 17179869184 f → Fits (lst f) := by
  intro f
  induction f using Fld.ind with
  | h o l ih =>
    intro hf
    have h1 := hf.own.lm
    have h2 := hf.own.k0
    have h3 := hf.len
    rw [lst]
    refine .mk h2 ?_ ?_ ?_ ?_
    · show (if o.kind = 4 then zer16 else ⟨#[]⟩).size ≤ _
      split
      · exact (by decide : zer16.size ≤ 281474976710656)
      · exact (by decide : (⟨#[]⟩ : ByteArray).size ≤ 281474976710656)
    · show (if o.kind = 2 then o.lm else ⟨#[]⟩).size ≤ _
      split
      · have : o.lm.size ≤ 17179869184 := h1; omega
      · exact (by decide : (⟨#[]⟩ : ByteArray).size ≤ 281474976710656)
    · show (if o.kind = 7 then lstL l else []).length ≤ _
      split
      · rw [lstL_len]; have : l.length ≤ 17179869184 := h3; omega
      · simp
    · show ∀ x ∈ (if o.kind = 7 then lstL l else []), Fits x
      split
      · intro x hx
        rw [lstL_map] at hx
        obtain ⟨y, hy, rfl⟩ := List.mem_map.1 hx
        exact ih y hy (hf.mem hy)
      · intro x hx; cases hx

set_option maxHeartbeats 2000000 in
set_option maxRecDepth 20000 in
theorem Least_good (f : Fld) (hf : FitsF 17179869184 f) (a : Option Addr) (c lo n₀ : Nat) (hc : f.fields.length ≤ c) (w : World) (hn₀ : n₀ ≤ w.heap.size) (hin : FIn w lo n₀ f.fields a) (hq : (chkS bndQ 65536 [f]).1 = 0) :
    Calls Tryz.prog 24 #[fV f.own a f.fields.length c] w fun e w' => Below w.heap.size w w' ∧ ∃ v, e = .returned (.tuple #[v, .int .i64 0]) ∧ VIn w' w.heap.size w'.heap.size v (lst f) := by
  have hseen := chkS_seen hq f (by simp)
  have hfew := (chkS_few hq).2 f (by simp)
  have hgood := hseen.good hf
  obtain ⟨hm, hd, _⟩ := Fits_lst f 1 hseen hfew hf
  have hdeep : deeper 16 (lst f) = false := by rw [deeper_dep]; exact decide_eq_false (by omega)
  have hle := least_any repeat16 f hgood hfew
  have hb1 := (Below.refl w.heap.size w).alloc (Nat.le_refl _) (.cells (cellsF f.own a f.fields.length c) 57)
  have hN1 := Blk.new w 57 (cellsF f.own a f.fields.length c)
  have hal := alone_any f a c lo n₀ (w.alloc (.cells (cellsF f.own a f.fields.length c) 57)) hc (by have := hb1.size; omega) (hin.keep hb1 hn₀)
  have hsc : ∀ g W, FIn W 0 W.heap.size [f] (some ⟨g, 0, none⟩) → Calls Tryz.prog 45 #[.agg #[.int .i64 65536, .slice (some ⟨g, 0, none⟩) 1 1]] W (SCheckPost (chkS bndQ 65536 [f]) W) := fun g W hW => scheck_any 65536 [f] (some ⟨g, 0, none⟩) 1 0 W.heap.size W (by simp) (fun x hx => by rw [List.mem_singleton.1 hx]; exact hf) (by simp) (Nat.le_refl _) hW
  obtain ⟨c0, c1, c2, c3, c4, c5, c6, c7, c8, c9, c10, c11, c12, c13⟩ := cells14 hN1
  generalize chkS bndQ 65536 [f] = q at hsc hq
  have hfl := fits_lst f hf
  have hle' : ∀ W, Below w.heap.size w W → Calls Tryz.prog 54 #[fV f.own a f.fields.length c] W fun e w' => ∃ ap cp, e = .returned (pV (lst f) ap cp) ∧ PIn w' W.heap.size w'.heap.size (lst f) ap ∧ Below W.heap.size W w' := fun W hW => hle a c lo n₀ W (by have := hW.size; omega) (hin.keep hW hn₀)
  have hmk : ∀ ap cp lo' n' W, n' ≤ W.heap.size → PIn W lo' n' (lst f) ap → Calls Tryz.prog 13 #[pV (lst f) ap cp] W fun e w' => Below W.heap.size W w' ∧ ∃ v, e = .returned (.tuple #[v, .int .i64 0]) ∧ VIn w' W.heap.size w'.heap.size v (lst f) := fun ap cp lo' n' W h1 h2 => by
    refine (make_any (lst f) hfl ap cp lo' n' W h1 h2).mono ?_
    rintro e w' ⟨h3, ⟨h4, _⟩ | ⟨_, h4, _⟩ | ⟨_, _, h5⟩⟩
    · rw [hdeep] at h4; cases h4
    · rw [hm] at h4; cases h4
    · exact ⟨h3, h5⟩
  generalize lst f = p at *
  unfold fV at hal hle' ⊢
  unfold pV at hle' hmk
  simp only [cellsF] at hb1 hN1 hal c0 c1 c2 c3 c4 c5 c6 c7 c8 c9 c10 c11 c12 c13
  clear hin hf hseen hfew hgood hm hd hdeep hle hfl
  go_enter Tryz.func24, Tryz.ntmps24
  go_wp2_with fail
  refine hal.mono ?_
  rintro _ w2 ⟨g, rfl, hin2, hb2⟩
  have hb02 := hb1.trans (hb2.mono hb1.size)
  have hsc2 := hsc g w2 hin2
  clear hsc hal c0 c1 c2 c3 c4 c5 c6 c7 c8 c9 c10 c11 c12 c13 hin2
  go_wp2_with fail
  refine hsc2.mono ?_
  rintro e w3 ⟨hb3, ⟨h0, rfl⟩ | ⟨hne, _⟩⟩
  · have hb03 := hb02.trans (hb3.mono hb02.size)
    have hN3 := (hN1.old hb2).old hb3
    obtain ⟨c0, c1, c2, c3, c4, c5, c6, c7, c8, c9, c10, c11, c12, c13⟩ := hN3.c14
    have hu := hle' w3 hb03
    clear hle' hsc2
    go_wp2_with fail
    refine hu.mono ?_
    rintro _ w4 ⟨ap, cp, rfl, hp4, hb4⟩
    have hb04 := hb03.trans (hb4.mono hb03.size)
    have hmm := hmk ap cp _ _ w4 (Nat.le_refl _) hp4
    clear hmk hu hp4 c0 c1 c2 c3 c4 c5 c6 c7 c8 c9 c10 c11 c12 c13
    go_wp2_with fail
    refine hmm.mono ?_
    rintro _ w5 ⟨hb5, v, rfl, hv⟩
    have hb05 := hb04.trans (hb5.mono hb04.size)
    have HV : Hid (VIn w5 w.heap.size w5.heap.size v p) := hv.mono (Nat.le_refl _) hb04.size
    clear hmm hv
    go_wp2_with fail
    go_ret2
    exact ⟨hb05, v, rfl, HV.out⟩
  · exact absurd hq hne
end Go.Proofs.YtkjoomdglealmaaGreatDoor

namespace Go.Proofs.YtkjoomdglealmaaGreatDoor
open Go.RowKit Go.Vf

def wdB : Nat := 67108864
def wdL (d : Nat) (n : Nat) : List Fld → Nat
  | [] => n
  | .mk o fl :: r => if n ≤ wdB then wdL d (if 300 < d + 1 then wdB + 1 else wdL (d + 1) (n + 64 + o.name.size + o.lm.size + o.hm.size) fl) r else n
termination_by l => SizeOf.sizeOf l
def wd (l : List Fld) (n d : Nat) : Nat := if 300 < d then wdB + 1 else wdL d n l
theorem wdL_nil (d n : Nat) : wdL d n [] = n := by rw [wdL]
theorem wdL_above {d n : Nat} {l : List Fld} (h : ¬ n ≤ wdB) : wdL d n l = n := by
  cases l with
  | nil => rw [wdL]
  | cons f r => obtain ⟨o, fl⟩ := f; rw [wdL, if_neg h]
theorem wdL_cons {d n : Nat} {f : Fld} {r : List Fld} (h : n ≤ wdB) : wdL d n (f :: r) = wdL d (wd f.fields (n + 64 + f.own.name.size + f.own.lm.size + f.own.hm.size) (d + 1)) r := by
  obtain ⟨o, fl⟩ := f; rw [wdL, if_pos h]; rfl
theorem wdL_le : ∀ (N : Nat) (l : List Fld), SizeOf.sizeOf l ≤ N → (∀ x ∈ l, FitsF 281474976710656 x) → ∀ (d n : Nat), n ≤ 844424997240896 → wdL d n l ≤ 844424997240896 := by
  intro N
  induction N with
  | zero => intro l h; cases l <;> simp at h
  | succ N ih =>
    intro l hl hf d n hn
    cases l with
    | nil => rw [wdL_nil]; exact hn
    | cons f r =>
      by_cases h : n ≤ wdB
      · have hff := hf f (by simp)
        have hs1 : SizeOf.sizeOf f.fields ≤ N := by obtain ⟨o, fl⟩ := f; simp [Fld.fields] at hl ⊢; omega
        have hs2 : SizeOf.sizeOf r ≤ N := by simp at hl; omega
        have hW : wdB = 67108864 := rfl
        have h1 := hff.own.nm
        have h2 := hff.own.lm
        have h3 := hff.own.hm
        rw [wdL_cons h]
        refine ih r hs2 (fun x hx => hf x (by simp [hx])) d _ ?_
        unfold wd
        split
        · omega
        · exact ih f.fields hs1 (fun x hx => hff.mem hx) _ _ (by omega)
      · rw [wdL_above h]; exact hn
def WideOk (l : List Fld) : Prop := ∀ (a : Option Addr) (c lo n₀ n d : Nat) (w : World), n ≤ 844424997240896 → d ≤ 400 → l.length ≤ 281474976710656 → (∀ x ∈ l, FitsF 281474976710656 x) → n₀ ≤ w.heap.size → FIn w lo n₀ l a →
    Calls Tryz.prog 39 #[.slice a l.length c, .int .i64 (n : Int), .int .i64 (d : Int)] w fun e w' => e = .returned (.int .i64 (wd l n d : Nat)) ∧ Below w.heap.size w w'
set_option maxHeartbeats 4000000 in
set_option maxRecDepth 20000 in
theorem wide_step (l : List Fld) (ih : ∀ x ∈ l, WideOk x.fields) : WideOk l := by
  intro a c lo n₀ n d w hn hd hl hf hn₀ hin
  by_cases h3 : 300 < d
  · have hR : wd l n d = 67108865 := by rw [wd, if_pos h3]; rfl
    rw [hR]
    have t1 : decide ((300 : Int) < (d : Int)) = true := by simp; omega
    clear ih hin hf hR
    go_enter Tryz.func39, Tryz.ntmps39
    go_wp2_with fail
    go_ret
    exact ⟨rfl, Below.refl _ _⟩
  have t1 : decide ((300 : Int) < (d : Int)) = false := by simp; omega
  obtain ⟨R, hR⟩ : ∃ R, wd l n d = R := ⟨_, rfl⟩
  rw [hR]
  have HR : Hid (R = wdL d n (l.drop 0)) := by show _ = _; rw [← hR, wd, if_neg h3]; rfl
  have HW : Hid (wdB = 67108864) := rfl
  clear hR
  go_enter Tryz.func39, Tryz.ntmps39
  go_wp2_with fail
  go_loopw [1, 7] (fun nv iv wr => ∃ (j s : Nat), j ≤ l.length ∧ iv = .int .i64 (j : Int) ∧ nv = .int .i64 (s : Int) ∧ s ≤ 844424997240896 ∧ Hid (R = wdL d s (l.drop j)) ∧ Below w.heap.size w wr) (fun _ iv _ => l.length - (intOf iv).toNat)
  case atStart => exact ⟨0, n, by omega, rfl, rfl, hn, HR, Below.refl _ _⟩
  case round =>
    clear HR
    obtain ⟨j, s, hj, rfl, rfl, hs, HS, hbel⟩ := hrel
    have hsz := hbel.size
    by_cases hlt : j < l.length
    · by_cases hms : s ≤ wdB
      · have hms' : s ≤ 67108864 := hms
        have t2 : decide ((s : Int) ≤ 67108864) = true := by simp; omega
        have t3 : decide (s ≤ 67108864) = true := by simp; omega
        obtain ⟨bb, off, aj, cj, ha, _, _, hrow, hinj⟩ := (hin.keep hbel (by omega)).at hlt
        subst ha
        have hff := hf _ (List.getElem_mem hlt)
        have hih := ih _ (List.getElem_mem hlt)
        have HD : Hid (R = wdL d (wd l[j].fields (s + 64 + l[j].own.name.size + l[j].own.lm.size + l[j].own.hm.size) (d + 1)) (l.drop (j + 1))) := by
          show _ = _
          rw [HS.out, List.drop_eq_getElem_cons hlt, wdL_cons hms]
        generalize l[j] = x at *
        obtain ⟨r0, r1, r2, r3, r4, r5, r6, r7, r8, r9, r10, r11, r12, r13⟩ := hrow
        have k1 := hff.own.nm
        have k2 := hff.own.lm
        have k3 := hff.own.hm
        have hle : wd x.fields (s + 64 + x.own.name.size + x.own.lm.size + x.own.hm.size) (d + 1) ≤ 844424997240896 := by
          unfold wd
          split
          · have := HW.out; omega
          · exact wdL_le _ x.fields (Nat.le_refl _) (fun z hz => hff.mem hz) _ _ (by omega)
        have hc := hih aj cj lo n₀ (s + 64 + x.own.name.size + x.own.lm.size + x.own.hm.size) (d + 1) wr.drew (by omega) (by omega) hff.len (fun z hz => hff.mem hz) (by show n₀ ≤ wr.heap.size; omega) (hinj.keep' fun _ _ _ => rfl)
        generalize wd x.fields (s + 64 + x.own.name.size + x.own.lm.size + x.own.hm.size) (d + 1) = q at HD hle hc
        clear HS ih hf hin hih
        have e1 : IntKind.i64.wrap ((s : Int) + 64) = (s : Int) + 64 := by rw [IntKind.wrap_i64] <;> omega
        have e2 : IntKind.i64.wrap ((s : Int) + 64 + (x.own.name.size : Int)) = (s : Int) + 64 + (x.own.name.size : Int) := by rw [IntKind.wrap_i64] <;> omega
        have e3 : IntKind.i64.wrap ((s : Int) + 64 + (x.own.name.size : Int) + (x.own.lm.size : Int)) = (s : Int) + 64 + (x.own.name.size : Int) + (x.own.lm.size : Int) := by rw [IntKind.wrap_i64] <;> omega
        have e4 : IntKind.i64.wrap ((s : Int) + 64 + (x.own.name.size : Int) + (x.own.lm.size : Int) + (x.own.hm.size : Int)) = (s : Int) + 64 + (x.own.name.size : Int) + (x.own.lm.size : Int) + (x.own.hm.size : Int) := by rw [IntKind.wrap_i64] <;> omega
        rw [show ((s + 64 + x.own.name.size + x.own.lm.size + x.own.hm.size : Nat) : Int) = (s : Int) + 64 + (x.own.name.size : Int) + (x.own.lm.size : Int) + (x.own.hm.size : Int) by omega, show ((d + 1 : Nat) : Int) = (d : Int) + 1 from rfl] at hc
        have hltI : (j : Int) < (l.length : Int) := by omega
        go_upto_region 6 with fail
        go_region
        go_wp2_with fail
        refine hc.mono ?_
        rintro _ w2 ⟨rfl, hb2⟩
        have hb3 : Below w.heap.size w w2 := hbel.drew.trans (hb2.mono hsz)
        clear hc e1 e2 e3 e4
        go_wp2_with fail
        go_roundw
        case rel => exact ⟨j + 1, q, by omega, by simp, rfl, hle, HD, hb3⟩
        case measure => simp only [intOf]; omega
      · have t2 : decide ((s : Int) ≤ 67108864) = false := by have := HW.out; simp; omega
        have t3 : decide (s ≤ 67108864) = false := by have := HW.out; simp; omega
        have hRn : R = s := by rw [HS.out, wdL_above hms]
        subst hRn
        clear HS ih hf hin
        go_wp2_with fail
        go_ret
        exact ⟨rfl, hbel⟩
    · have hRn : R = s := by rw [HS.out, List.drop_of_length_le (by omega), wdL_nil]
      subst hRn
      clear HS ih hf hin
      go_wp2_with fail
      go_ret
      exact ⟨rfl, hbel⟩
theorem fld_wide : ∀ f : Fld, WideOk f.fields := fun f => by
  induction f using Fld.ind with
  | h o l ih => exact wide_step l ih
theorem wide_any (l : List Fld) : WideOk l := wide_step l fun x _ => fld_wide x
theorem fields_any (l : List Fld) (a : Option Addr) (c lo n₀ n : Nat) (w : World) (hn : n ≤ 844424997240896) (hl : l.length ≤ 281474976710656) (hf : ∀ x ∈ l, FitsF 281474976710656 x) (hn₀ : n₀ ≤ w.heap.size) (hin : FIn w lo n₀ l a) :
    Calls Tryz.prog 11 #[.slice a l.length c, .int .i64 (n : Int)] w fun e w' => e = .returned (.int .i64 (wd l n 0 : Nat)) ∧ Below w.heap.size w w' := by
  have hc := wide_any l a c lo n₀ n 0 w hn (by omega) hl hf hn₀ hin
  generalize wd l n 0 = q at hc ⊢
  clear hin hf
  go_enter Tryz.func11, Tryz.ntmps11
  go_wp2_with fail
  refine hc.mono ?_
  rintro _ w2 ⟨rfl, hb⟩
  go_wp2_with fail
  go_ret
  exact ⟨rfl, hb⟩
theorem wdL_fits : ∀ (N : Nat) (l : List Fld), SizeOf.sizeOf l ≤ N → (∀ x ∈ l, FitsF 281474976710656 x) → ∀ (d n : Nat), wdL d n l ≤ wdB → n + 64 * l.length ≤ wdL d n l ∧ ∀ x ∈ l, FitsF 17179869184 x := by
  intro N
  induction N with
  | zero => intro l h; cases l <;> simp at h
  | succ N ih =>
    intro l hl hf d n hle
    have hW : wdB = 67108864 := rfl
    cases l with
    | nil => rw [wdL_nil]; exact ⟨by simp, fun x hx => by simp at hx⟩
    | cons f r =>
      by_cases h : n ≤ wdB
      · have hff := hf f (by simp)
        have hs1 : SizeOf.sizeOf f.fields ≤ N := by obtain ⟨o, fl⟩ := f; simp [Fld.fields] at hl ⊢; omega
        have hs2 : SizeOf.sizeOf r ≤ N := by simp at hl; omega
        rw [wdL_cons h] at hle ⊢
        obtain ⟨g1, g2⟩ := ih r hs2 (fun x hx => hf x (by simp [hx])) d _ hle
        have hq : wd f.fields (n + 64 + f.own.name.size + f.own.lm.size + f.own.hm.size) (d + 1) ≤ wdB := by omega
        have h3 : ¬ 300 < d + 1 := fun h3 => by rw [wd, if_pos h3] at hq; omega
        rw [wd, if_neg h3] at hq g1 ⊢
        obtain ⟨g3, g4⟩ := ih f.fields hs1 (fun x hx => hff.mem hx) _ _ hq
        refine ⟨by rw [List.length_cons]; omega, fun x hx => ?_⟩
        rcases List.mem_cons.1 hx with rfl | hx
        · have o := hff.own
          exact .mk ⟨o.k0, o.k1, o.n0, o.n1, by omega, by omega, by omega, o.m0, o.m1, o.s0, o.s1⟩ (by omega) g4
        · exact g2 x hx
      · rw [wdL_above h] at hle; exact absurd hle h
theorem wd_fits {l : List Fld} {n : Nat} (hf : ∀ x ∈ l, FitsF 281474976710656 x) (h : wd l n 0 ≤ wdB) : l.length ≤ 17179869184 ∧ ∀ x ∈ l, FitsF 17179869184 x := by
  have hW : wdB = 67108864 := rfl
  rw [wd, if_neg (by omega)] at h
  obtain ⟨h1, h2⟩ := wdL_fits _ l (Nat.le_refl _) hf 0 n h
  exact ⟨by omega, h2⟩

end Go.Proofs.YtkjoomdglealmaaGreatDoor

namespace Go.Proofs.YtkjoomdglealmaaGreatDoor
open Go.RowKit Go.Vf
end Go.Proofs.YtkjoomdglealmaaGreatDoor

namespace Go.Proofs.YtkjoomdglealmaaGreatDoor
open Go.RowKit Go.Vf

theorem one_field (o : Go.Vf.Own) (l : List Fld) (a : Option Addr) (c lo n₀ : Nat) (w : World) (hc : l.length ≤ c) (hn₀ : n₀ ≤ w.heap.size) (hin : FIn w lo n₀ l a) :
    FIn (w.alloc (.cells #[.string o.name, .int .u8 o.kind, .bool o.down, .int .u8 o.nulls, .bool o.bnd, .bool o.ln, .string o.lm, .bool o.hn, .string o.hm, .int .i64 o.most, .int .i64 o.str, .bool o.shf, .bool o.bck, .slice a l.length c] 57)) 0 (w.alloc (.cells #[.string o.name, .int .u8 o.kind, .bool o.down, .int .u8 o.nulls, .bool o.bnd, .bool o.ln, .string o.lm, .bool o.hn, .string o.hm, .int .i64 o.most, .int .i64 o.str, .bool o.shf, .bool o.bck, .slice a l.length c] 57)).heap.size [.mk o l] (some ⟨w.heap.size, 0, none⟩) := by
  have hb := (Below.refl w.heap.size w).alloc (Nat.le_refl _) (.cells #[.string o.name, .int .u8 o.kind, .bool o.down, .int .u8 o.nulls, .bool o.bnd, .bool o.ln, .string o.lm, .bool o.hn, .string o.hm, .int .i64 o.most, .int .i64 o.str, .bool o.shf, .bool o.bck, .slice a l.length c] 57)
  have hs := alloc_size w (.cells #[.string o.name, .int .u8 o.kind, .bool o.down, .int .u8 o.nulls, .bool o.bnd, .bool o.ln, .string o.lm, .bool o.hn, .string o.hm, .int .i64 o.most, .int .i64 o.str, .bool o.shf, .bool o.bck, .slice a l.length c] 57)
  have hN := Blk.new w 57 #[.string o.name, .int .u8 o.kind, .bool o.down, .int .u8 o.nulls, .bool o.bnd, .bool o.ln, .string o.lm, .bool o.hn, .string o.hm, .int .i64 o.most, .int .i64 o.str, .bool o.shf, .bool o.bck, .slice a l.length c]
  refine .cons (fun _ => a) (fun _ => c) (Nat.zero_le _) (by rw [hs]; omega) (fun j hj => ?_) (fun j hj => ?_) (fun j hj => ?_)
  · rcases j with _ | j
    · exact Blk.rowF (o := o) (a := a) (n := l.length) (c := c) hN
    · simp at hj
  · rcases j with _ | j
    · exact hc
    · simp at hj
  · rcases j with _ | j
    · exact (hin.keep hb hn₀).mono (by have := hb.size; omega) (Nat.zero_le _)
    · simp at hj
theorem VIn.someI {w : World} {lo n : Nat} {v : Value} {p : Prt} (h : VIn w lo n v p) (hk : p.kind ≠ 0) : ∃ t x, v = .iface t x := by
  cases h with
  | null => exact absurd rfl hk
  | truth y => exact ⟨_, _, rfl⟩
  | num b m => exact ⟨_, _, rfl⟩
  | raw k r h => exact ⟨_, _, rfl⟩
  | tup V a b c d e => exact ⟨_, _, rfl⟩
theorem lst_kind (o : Go.Vf.Own) (l : List Fld) : (lst (.mk o l)).kind = o.kind := by rw [lst]; rfl
end Go.Proofs.YtkjoomdglealmaaGreatDoor
