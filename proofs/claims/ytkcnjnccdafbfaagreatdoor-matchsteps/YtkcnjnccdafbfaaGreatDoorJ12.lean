/- Contracts and lemmas (nothing is claimed here). -/
import Derived.Test.YtkcnjnccdafbfaaGreatDoorJ11
import Derived.Test.YtkcnjnccdafbfaaGreatDoorRows
import Derived.ProofKit
import Derived.LaidMore
import Derived.Lay
import Derived.Lib.LaidTab
import Derived.Shelf.Vars
import Derived.Handed
import Derived.OpenShut
import Derived.Stop.Joined
import Derived.Test.YtkcnjnccdafbfaaGreatDoorJ1
import Derived.Lib.Case
import Derived.WalkKit
namespace Go.Proofs.YtkcnjnccdafbfaaGreatDoor
open Go.RowKit Go.Vf Go.Maps
theorem load_cls {t : List UInt8} {L : List Mk} {E : Int → List Int} (h : loadR t = .ok (L, E)) (p : Int) : 0 ≤ classAt L p ∧ classAt L p ≤ 254 := by
  obtain ⟨hlen, hl, _⟩ := load_says h
  exact class_in (load_total hlen hl).1 p
theorem flat_in {t : List UInt8} {L : List Mk} {E : Int → List Int} (h : loadR t = .ok (L, E)) {ps : List Int} (hps : ∀ q ∈ ps, InI q) : ∀ q ∈ flatR E ps, InI q := fun q hq => by
  obtain ⟨p, hp, hq⟩ := List.mem_flatMap.1 hq
  exact parts_in h (hps p hp) hq
theorem flat_len {w : World} {bd : Nat} {L : List Mk} {E : Int → List Int} (h : DataAt w bd L E) (ps : List Int) : (flatR E ps).length ≤ 57 * ps.length ∧ ps.length ≤ (flatR E ps).length := by
  induction ps with
  | nil => simp [flatR]
  | cons x r ih =>
    have := h.plen x
    rw [show flatR E (x :: r) = partsR' E x ++ flatR E r from rfl, List.length_append, List.length_cons]
    omega
structure Numb (w : World) (a : Option Addr) (k c : Nat) (zs : List Int) : Prop where
  ints : Ints w.heap.size w (.slice a k c) zs
  len : k = zs.length
  int : ∀ q ∈ zs, InI q
  few : zs.length ≤ 1000000000
theorem Numb.below {w w' : World} {a : Option Addr} {k c : Nat} {zs : List Int} (h : Numb w a k c zs) (hb : Below w.heap.size w w') : Numb w' a k c zs := ⟨(h.ints.below hb (Nat.le_refl _)).mono hb.size, h.len, h.int, h.few⟩
theorem IOwn.numb {w : World} {base : Nat} {a : Option Addr} {k c : Nat} {zs : List Int} (h : IOwn w base (.slice a k c) zs) (hI : ∀ q ∈ zs, InI q) (hf : zs.length ≤ 1000000000) : Numb w a k c zs := ⟨h.ints, by
  obtain ⟨av, cv, hv⟩ := h.val
  simpa using (Value.slice.inj hv).2.1, hI, hf⟩
theorem form_load {t : List UInt8} {L : List Mk} {E : Int → List Int} (h : loadR t = .ok (L, E)) {bd : Nat} {a : Option Addr} {k c : Nat} {ps : List Int} {w : World} (hd : DataAt w bd L E) (hn : Numb w a k c ps) :
    Calls Tryz.prog 19 #[.pointer (some ⟨bd, 0, none⟩), .slice a k c] w fun e w' => FormPost L E w ps e w' := by
  have := flat_len hd ps
  have h1 := hn.few
  have h2 := hn.len
  exact form_any bd L E a k c ps w hn.int (flat_in h hn.int) (fun p => (load_cls h p).1) hd hn.ints hn.len (by omega) (by omega)
def Glob (w : World) : Prop := ∃ m, w.cell? ⟨0, 0, none⟩ = some (.int .i64 m)
theorem Glob.below {w w' : World} (h : Glob w) (hb : Below w.heap.size w w') : Glob w' := by
  obtain ⟨m, hm⟩ := h
  exact ⟨m, (hb.cell (p := ⟨0, 0, none⟩) (World.block_lt_of_cell? w _ hm)).trans hm⟩
theorem load_glob (s : ByteArray) (w : World) (hg : Glob w) (hbig : s.size ≤ 281474976710656) : Calls Tryz.prog 22 #[.string s] w fun e w' => LoadPost (loadR s.data.toList) w e w' := by
  obtain ⟨m, hm⟩ := hg
  exact load_any s m w hm hbig
theorem numb_new (w : World) (zs : List Int) (cs : Array Value) (h : cs = (zs.map (Value.int .i64)).toArray) (k c : Nat) (hk : k = zs.length) (hI : ∀ q ∈ zs, InI q) (hf : zs.length ≤ 1000000000) : Numb (w.alloc (.cells cs 3)) (some ⟨w.heap.size, 0, none⟩) k c zs := by
  subst h hk
  refine ⟨.inr ⟨_, 0, c, rfl, by simp, fun j hj => ?_⟩, rfl, hI, hf⟩
  rw [Nat.zero_add]
  have := (Blk.new w 3 (zs.map (Value.int .i64)).toArray).cell j
  rw [this]
  simp [hj]
end Go.Proofs.YtkcnjnccdafbfaaGreatDoor
namespace Go.Proofs.YtkcnjnccdafbfaaGreatDoor
open Go.RowKit Go.Vf
def laid2 : List (String × DataW Unit) := [("unicode/utf8.acceptRanges", Rows.laid_unicode_utf8_acceptRanges), ("unicode/utf8.first", Rows.laid_unicode_utf8_first)]
theorem glob_of_laid {W : World} (_h : laidMetH Tryz.prog laid2 W) (hs : W.ShapedOpen Tryz.prog) : Glob W :=
  cell_of_shapedOpen_int (P := Tryz.prog) (g := 0) (t := 3) (zero := #[.int .i64 0]) hs (of_decide_eq_true (by kernel_rfl)) (by kernel_rfl) rfl (by kernel_rfl) (by kernel_rfl) Tryz.underlying3
section
variable {H : Type} {enc : TypeId × Value → H}
theorem returnsInHanded_both {C : Checked} {os : Os} {f : FuncId} {fn : Func} {s : ChangeSpec} {X : World → Array Value → Prop}
    (hX : ∀ (w w' : World) (args : Array Value), w.heap = w'.heap → X w args → X w' args)
    (own : ownKnob C.prog.godebug = none) (started : os.Started) (noInit : C.prog.inits.idxOf? f = none) (hfn : C.prog.funcs[f]? = some fn)
    (witness : ∃ (w : World) (tape : Tape) (i : Input), w.os = os ∧ (w.forCall tape i).Shaped C.prog ∧ i.vars = [] ∧ Input.okWide C.prog (w.forCall tape i) .any w.heap.size f i ∧
      ((s.pre enc C.prog fn [] false (w.forCall tape i).memory i.args ∧ X (w.forCall tape i).memory i.args) ∧ sizedMet enc C.prog fn (OpenSpec.ofChange s) false (w.forCall tape i).memory i.args) ∧ ({} : Assume).holds C.prog (lone (Frame.enter C.prog f i.args .normal) [] (w.forCall tape i)))
    (contract : ∀ (W : World) (base : Nat) (args : Array Value) (ds gs : List (DataW H)) (before : List MemPlace),
      (∀ (j : Nat) t v, fn.params[j]? = some t → args[j]? = some v → Value.okWide C.prog W .any base t v) →
      DataW.Whole enc C.prog fn.params.toList s.vars false W args.toList ds gs before →
      (DataW.weightsEach C.prog (fn.params.toList ++ s.plain.varTypes C.prog) (ds ++ gs)).all (· ≤ reachBytes) = true → X W args → W.ShapedOpen C.prog →
      Calls C.prog f args W fun e W' => ∃ v, e = .returned v ∧ s.post enc C.prog fn false true false false W args v W') :
    ReturnsInHanded {} C os f .any (fun w args => (s.pre enc C.prog fn [] false w args ∧ X w args) ∧ sizedMet enc C.prog fn (OpenSpec.ofChange s) false w args) (s.post enc C.prog fn false true false false) := by
  refine returnsInHanded_of_calls own started noInit witness fun w tape i _ hsh _ hok hpre _ => ?_
  obtain ⟨_, _, _, fn', hfn', _, _, _, _, hval⟩ := hok
  obtain rfl : fn' = fn := Option.some.inj (hfn'.symm.trans hfn)
  obtain ⟨⟨⟨ds, gs, before, hw, _⟩, hx⟩, hz⟩ := hpre
  refine (contract (w.forCall tape i) w.heap.size i.args ds gs before hval (DataW.Whole.of_heap (w' := w.forCall tape i) (by rfl) hw) (hz.weights hw) (hX _ _ _ (by rfl) hx) hsh).mono fun e W' ⟨v, he, hp⟩ => ?_
  subst he
  exact ChangeSpec.post_blind hp
end
theorem laid_met (os : Os) (args : Array Value) : laidMetH Tryz.prog laid2 ((World.laidAll Tryz.prog os laid2).forCall (fun _ _ => 0) ⟨#[], args, []⟩).memory := by
  rw [MakeChecks.laidMetH_plain _ _ _ (by kernel_rfl)]
  exact laidMet_laidAll _ (by kernel_rfl) (by kernel_rfl)
theorem laid_shaped (os : Os) (args : Array Value) : ((World.laidAll Tryz.prog os laid2).forCall (fun _ _ => 0) ⟨#[], args, []⟩).Shaped Tryz.prog := World.shaped_of_ZipB (by kernel_rfl) (by kernel_rfl)
end Go.Proofs.YtkcnjnccdafbfaaGreatDoor
namespace Go.Proofs.YtkcnjnccdafbfaaGreatDoor
open Go.RowKit Go.Vf Go.Maps
theorem cut_last (cls : Int → Int) (c : Int) : ∀ l : List Int, ∃ P Q, l = P ++ Q ∧ (∀ q ∈ Q, c < cls q) ∧ ∀ p, P.getLast? = some p → cls p ≤ c := by
  intro l
  induction l with
  | nil => exact ⟨[], [], rfl, by simp, by simp⟩
  | cons x t ih =>
    obtain ⟨P, Q, rfl, hQ, hP⟩ := ih
    by_cases hp : P = []
    · subst hp
      by_cases hx : c < cls x
      · exact ⟨[], x :: Q, rfl, fun q hq => (List.mem_cons.1 hq).elim (fun e => e ▸ hx) (hQ q), by simp⟩
      · exact ⟨[x], Q, rfl, hQ, fun p hp => by simp at hp; subst hp; omega⟩
    · exact ⟨x :: P, Q, rfl, hQ, fun p hp' => hP p (by cases P with | nil => exact absurd rfl hp | cons a r => simpa using hp')⟩
theorem form_exists {cls : Int → Int} (hc0 : ∀ x, 0 ≤ cls x) : ∀ l : List Int, ∃ X, FormOf cls l X ∧ X.length = l.length ∧ ∀ x ∈ X, x ∈ l := by
  have key : ∀ (n : Nat) (l : List Int), l.length = n → ∃ X, FormOf cls l X ∧ X.length = l.length ∧ ∀ x ∈ X, x ∈ l := by
    intro n
    induction n with
    | zero => intro l h; rw [List.eq_nil_of_length_eq_zero h]; exact ⟨[], ⟨trivial, Alike0.refl _⟩, rfl, by simp⟩
    | succ n ih =>
      intro l h
      have hne : l ≠ [] := fun e => by rw [e] at h; cases h
      obtain ⟨t, x, rfl⟩ : ∃ t x, l = t ++ [x] := ⟨l.dropLast, l.getLast hne, (List.dropLast_concat_getLast hne).symm⟩
      obtain ⟨X, hX, hl, hm⟩ := ih t (by simpa using h)
      by_cases hx : cls x = 0
      · refine ⟨X ++ [x], ⟨CO.append hX.co trivial (fun a b _ hb h0 => ?_), hX.al.append (Alike0.refl _)⟩, by simp [hl], fun y hy => ?_⟩
        · simp at hb; subst hb; exact absurd hx h0
        · rcases List.mem_append.1 hy with h | h
          · exact List.mem_append_left _ (hm y h)
          · exact List.mem_append_right _ h
      · obtain ⟨P, Q, rfl, hQ, hP⟩ := cut_last cls (cls x) X
        have hco : CO cls (P ++ ([x] ++ Q)) := by
          refine CO.append hX.co.left (CO.append (u := [x]) trivial hX.co.right (fun a b ha hb _ => ?_)) (fun a b ha hb _ => ?_)
          · simp at ha; subst ha
            have : b ∈ Q := List.mem_of_mem_head? hb
            exact Int.le_of_lt (hQ b this)
          · simp at hb; subst hb; exact hP a ha
        have hal : Alike0 cls (P ++ Q ++ [x]) (P ++ ([x] ++ Q)) := by
          rw [List.append_assoc]
          refine (Alike0.refl P).append (fun k => ?_)
          have hq0 : ∀ q ∈ Q, cls q ≠ 0 ∧ cls q ≠ cls x := fun q hq => by have := hQ q hq; have := hc0 x; omega
          rw [List.filter_append, List.filter_append]
          by_cases hk : cls x = k
          · have e : Q.filter (fun z => cls z == 0 || cls z == k) = [] := by
              rw [List.filter_eq_nil_iff]
              intro q hq
              have := hq0 q hq
              simp
              omega
            rw [e]; simp
          · have e : [x].filter (fun z => cls z == 0 || cls z == k) = [] := by
              rw [List.filter_eq_nil_iff]
              intro q hq
              simp at hq; subst hq
              simp
              exact ⟨hx, hk⟩
            rw [e]; simp
        refine ⟨P ++ ([x] ++ Q), ⟨hco, (hX.al.append (Alike0.refl [x])).trans hal⟩, by simp at hl ⊢; omega, fun y hy => ?_⟩
        simp only [List.mem_append, List.mem_singleton] at hy hm ⊢
        rcases hy with h | h | h
        · exact .inl (hm y (.inl h))
        · exact .inr h
        · exact .inl (hm y (.inr h))
  exact fun l => key l.length l rfl
end Go.Proofs.YtkcnjnccdafbfaaGreatDoor
namespace Go.Vf
def isPtB (n : Int) : Bool := decide (0 ≤ n) && decide (n ≤ 1114111) && (decide (n < 55296) || decide (57343 < n))
structure El where
  va : Bool
  pr : Int
  se : Int
  te : Int
deriving DecidableEq
abbrev Ent := List Int × List El
def wtB (n : Int) : Bool := decide (0 ≤ n) && decide (n ≤ 65535)
def rightB (e : El) : Bool :=
  wtB e.pr && wtB e.se && wtB e.te && decide (e.pr ≤ 64319) && !(decide (e.pr ≠ 0) && decide (e.se = 0)) && !(decide (e.se ≠ 0) && decide (e.te = 0)) && (decide (e.pr ≠ 0) || !e.va)
def hexN (s : List UInt8) : Option Nat := numB hexV 16 s 0
def ptR (s : List UInt8) : Option Int :=
  if s.length = 4 ∨ (4 < s.length ∧ s.length ≤ 6 ∧ s.head? ≠ some 48) then (hexN s).map (fun n => (n : Int)) else none
def ptsR : List (List UInt8) → Option (List Int)
  | [] => some []
  | s :: r => match ptR s with
    | none => none
    | some p => match ptsR r with
      | none => none
      | some l => some (p :: l)
def rowB (l : List Int) : Bool := decide (1 ≤ l.length) && decide (l.length ≤ 8) && l.all isPtB
def rowR (s : List UInt8) : Option (List Int) := match ptsR (cutL 32 s) with
  | none => none
  | some l => if rowB l then some l else none
def fieldR (s : List UInt8) : Option Int := match hexN s with
  | none => none
  | some n => if s.length = 4 then some (n : Int) else none
def fieldsR (va : Bool) : List (List UInt8) → Option El
  | [a, b, c] => match fieldR a with
    | none => none
    | some x => match fieldR b with
      | none => none
      | some y => match fieldR c with
        | none => none
        | some z => some ⟨va, x, y, z⟩
  | _ => none
def elR (s : List UInt8) : Option El :=
  if s[0]? = some 91 ∧ (s[1]? = some 46 ∨ s[1]? = some 42) ∧ s[16]? = some 93 then fieldsR (s[1]? == some 42) (cutL 46 ((s.drop 2).take 14)) else none
def elsL : Nat → List UInt8 → Option (List El)
  | 0, _ => some []
  | n + 1, s => match elR (s.take 17) with
    | none => none
    | some e => match elsL n (s.drop 17) with
      | none => none
      | some l => some (e :: l)
def elsR (s : List UInt8) : Option (List El) := if s = [] ∨ 272 < s.length ∨ s.length % 17 ≠ 0 then none else elsL (s.length / 17) s
def cut1 (c : UInt8) : List UInt8 → List UInt8 × List UInt8
  | [] => ([], [])
  | b :: r => if b = c then ([], r) else (b :: (cut1 c r).1, (cut1 c r).2)
def entR (s : List UInt8) : Option Ent := match rowR (cut1 59 s).1 with
  | none => none
  | some p => match elsR (cut1 59 s).2 with
    | none => none
    | some l => some (p, l)
def hasT (E : List Ent) (p : List Int) : Bool := E.any (fun e => e.1 == p)
def tabL : List (List UInt8) → Int → List Ent → Except (Int × Int) (List Ent)
  | [], _, acc => .ok acc
  | s :: r, n, acc =>
    if silentL s then tabL r (n + 1) acc else
    match entR s with
    | none => .error (60, n + 1)
    | some x =>
      if x.2.all rightB then
        if hasT acc x.1 then .error (61, n + 1)
        else if 4096 ≤ acc.length then .error (2, n + 1)
        else tabL r (n + 1) (acc ++ [x])
      else .error (62, n + 1)
def loadT (s : List UInt8) : Except (Int × Int) (List Ent) := if 65536 < s.length then .error (2, 0) else tabL (cutL 10 s) 0 []
def findT (E : List Ent) (p : List Int) : Option (List El) := (E.find? (fun e => e.1 == p)).map Prod.snd
def longT : List Ent → Int → Nat
  | [], _ => 0
  | e :: r, x => if e.1.head? = some x then max e.1.length (longT r x) else longT r x
structure EntOk (x : Ent) : Prop where
  row : rowB x.1 = true
  n0 : 1 ≤ x.2.length
  n1 : x.2.length ≤ 16
  ok : x.2.all rightB = true
theorem rowR_ok {s : List UInt8} {p : List Int} (h : rowR s = some p) : rowB p = true := by
  unfold rowR at h
  split at h
  · cases h
  · split at h
    · cases h; assumption
    · cases h
theorem elsL_len : ∀ (n : Nat) (s : List UInt8) (l : List El), elsL n s = some l → l.length = n := by
  intro n
  induction n with
  | zero => intro s l h; simp [elsL] at h; subst h; rfl
  | succ n ih =>
    intro s l h
    unfold elsL at h
    split at h
    · cases h
    · split at h
      · cases h
      · rename_i q e
        cases h
        simp [ih _ _ e]
theorem elsR_len {s : List UInt8} {l : List El} (h : elsR s = some l) : 1 ≤ l.length ∧ l.length ≤ 16 ∧ l.length * 17 = s.length := by
  unfold elsR at h
  split at h
  · cases h
  · rename_i hc
    have hl := elsL_len _ _ _ h
    have h0 : s.length ≠ 0 := fun e => hc (.inl (List.eq_nil_of_length_eq_zero e))
    omega
theorem entR_ok {s : List UInt8} {x : Ent} (h : entR s = some x) : rowB x.1 = true ∧ 1 ≤ x.2.length ∧ x.2.length ≤ 16 := by
  unfold entR at h
  split at h
  · cases h
  · rename_i p e1
    split at h
    · cases h
    · rename_i l e2
      cases h
      exact ⟨rowR_ok e1, (elsR_len e2).1, (elsR_len e2).2.1⟩
theorem hasT_false {E : List Ent} {p : List Int} (h : hasT E p = false) : p ∉ E.map Prod.fst := by
  intro hp
  obtain ⟨e, he, rfl⟩ := List.mem_map.1 hp
  unfold hasT at h
  rw [List.any_eq_false] at h
  exact h e he (by simp)
theorem hasT_find (E : List Ent) (p : List Int) : hasT E p = (findT E p).isSome := by
  unfold hasT findT
  rw [Option.isSome_map, Bool.eq_iff_iff, List.any_eq_true, List.find?_isSome]
theorem tabL_ok : ∀ (ls : List (List UInt8)) (n : Int) (acc E : List Ent), tabL ls n acc = .ok E → (∀ x ∈ acc, EntOk x) → (acc.map Prod.fst).Nodup → acc.length ≤ 4096 → (∀ x ∈ E, EntOk x) ∧ (E.map Prod.fst).Nodup ∧ E.length ≤ 4096 := by
  intro ls
  induction ls with
  | nil => intro n acc E h h1 h2 h3; simp [tabL] at h; subst h; exact ⟨h1, h2, h3⟩
  | cons s r ih =>
    intro n acc E h h1 h2 h3
    unfold tabL at h
    split at h
    · exact ih _ _ _ h h1 h2 h3
    · split at h
      · cases h
      · rename_i x hx
        split at h
        · split at h
          · cases h
          · split at h
            · cases h
            · rename_i hr ht h4
              have hk := entR_ok hx
              refine ih _ _ _ h ?_ ?_ (by simp; omega)
              · intro y hy
                rcases List.mem_append.1 hy with hy | hy
                · exact h1 y hy
                · rw [List.mem_singleton] at hy; subst hy; exact ⟨hk.1, hk.2.1, hk.2.2, hr⟩
              · rw [List.map_append, List.nodup_append]
                refine ⟨h2, by simp, ?_⟩
                intro a ha b hb e
                simp at hb
                subst hb e
                exact hasT_false (by simpa using ht) ha
        · cases h
theorem loadT_ok {s : List UInt8} {E : List Ent} (h : loadT s = .ok E) : (∀ x ∈ E, EntOk x) ∧ (E.map Prod.fst).Nodup ∧ E.length ≤ 4096 := by
  unfold loadT at h
  split at h
  · cases h
  · exact tabL_ok _ _ _ _ h (by simp) (by simp) (by simp)
end Go.Vf
namespace Go.Vf
def lowDig (d : Nat) : UInt8 := if d < 10 then UInt8.ofNat (48 + d) else UInt8.ofNat (87 + d)
def hexLow (u : Nat) : List UInt8 := if u < 16 then [lowDig u] else hexLow (u / 16) ++ [lowDig (u % 16)]
termination_by u
decreasing_by omega
theorem hexLow_big {v : Nat} (h : 16 ≤ v) : hexLow v = hexLow (v / 16) ++ [lowDig (v % 16)] := by
  rw [hexLow, if_neg (by omega)]
theorem hexLow_small {v : Nat} (h : ¬ 16 ≤ v) : hexLow v = [lowDig v] := by
  rw [hexLow, if_pos (by omega)]
def upHex (u : Nat) : List UInt8 := Lib.toUpperA (hexLow u)
def pointS (u : Nat) : List UInt8 := List.replicate (4 - (upHex u).length) 48 ++ upHex u
theorem hexLow_len : ∀ (u k : Nat), u < 16 ^ k → 0 < k → (hexLow u).length ≤ k := by
  intro u
  induction u using Nat.strongRecOn with
  | ind u ih =>
    intro k hk h0
    by_cases h : 16 ≤ u
    · rw [hexLow_big h]
      obtain ⟨k', rfl⟩ : ∃ k', k = k' + 1 := ⟨k - 1, by omega⟩
      rw [Nat.pow_succ] at hk
      have hk' : 0 < k' := by
        by_cases e : k' = 0
        · subst e; omega
        · omega
      have := ih (u / 16) (by omega) k' (by omega) hk'
      simp; omega
    · rw [hexLow_small h]; simp; omega
theorem hexLow_ascii : ∀ (u : Nat), ∀ b ∈ hexLow u, b.toNat < 128 := by
  intro u
  induction u using Nat.strongRecOn with
  | ind u ih =>
    have hl : ∀ d, d < 16 → (lowDig d).toNat < 128 := by decide
    by_cases h : 16 ≤ u
    · intro b hb
      rw [hexLow_big h] at hb
      rcases List.mem_append.1 hb with hb | hb
      · exact ih (u / 16) (by omega) b hb
      · simp at hb; subst hb; exact hl _ (Nat.mod_lt _ (by omega))
    · intro b hb
      rw [hexLow_small h] at hb
      simp at hb; subst hb; exact hl _ (by omega)
theorem toUpperA_len (l : List UInt8) : (Lib.toUpperA l).length = l.length := by simp [Lib.toUpperA]
def joinS : List Nat → List UInt8
  | [] => []
  | [u] => pointS u
  | u :: r => pointS u ++ 32 :: joinS r
def upDig (d : Nat) : UInt8 := Lib.upperB (lowDig d)
theorem upDig_hex : ∀ d, d < 16 → hexV (upDig d) = some d := by decide
theorem upDig_zero : ∀ d, d < 16 → upDig d = 48 → d = 0 := by decide
theorem upDig_not : ∀ d, d < 16 → upDig d ≠ 10 ∧ upDig d ≠ 32 ∧ upDig d ≠ 59 ∧ upDig d ≠ 35 := by decide
theorem hexV_all : ((List.range 256).all fun n => match hexV (UInt8.ofNat n) with
    | some d => decide (d < 16) && (UInt8.ofNat n == upDig d)
    | none => true) = true := by kernel_rfl
theorem hexV_upDig {c : UInt8} {d : Nat} (h : hexV c = some d) : d < 16 ∧ c = upDig d := by
  have := List.all_eq_true.1 hexV_all c.toNat (List.mem_range.2 c.toNat_lt)
  rw [show UInt8.ofNat c.toNat = c by simp, h] at this
  simpa using this
def padHex : Nat → Nat → List UInt8
  | 0, _ => []
  | k + 1, n => padHex k (n / 16) ++ [upDig (n % 16)]
theorem padHex_len : ∀ (k n : Nat), (padHex k n).length = k := by
  intro k
  induction k with
  | zero => intro n; rfl
  | succ k ih => intro n; simp [padHex, ih]
theorem padHex_mem : ∀ (k n : Nat), ∀ b ∈ padHex k n, ∃ d, d < 16 ∧ b = upDig d := by
  intro k
  induction k with
  | zero => intro n b hb; simp [padHex] at hb
  | succ k ih =>
    intro n b hb
    rw [padHex] at hb
    rcases List.mem_append.1 hb with hb | hb
    · exact ih _ b hb
    · simp at hb; exact ⟨_, Nat.mod_lt _ (by omega), hb⟩
theorem numB_snoc (v : UInt8 → Option Nat) (b : Nat) (c : UInt8) : ∀ (s : List UInt8) (m : Nat), numB v b (s ++ [c]) m = match numB v b s m with
    | none => none
    | some n => match v c with
      | none => none
      | some d => some (n * b + d) := by
  intro s
  induction s with
  | nil =>
    intro m
    simp only [List.nil_append, numB]
    cases v c <;> rfl
  | cons a r ih =>
    intro m
    simp only [List.cons_append, numB]
    cases v a with
    | none => rfl
    | some d => exact ih _
theorem numB_pad : ∀ (k n m : Nat), numB hexV 16 (padHex k n) m = some (m * 16 ^ k + n % 16 ^ k) := by
  intro k
  induction k with
  | zero => intro n m; simp [padHex, numB, Nat.mod_one]
  | succ k ih =>
    intro n m
    rw [padHex, numB_snoc, ih, upDig_hex _ (Nat.mod_lt _ (by omega))]
    show some _ = some _
    congr 1
    have e := @Nat.mod_mul 16 (16 ^ k) n
    rw [Nat.pow_succ, Nat.mul_comm (16 ^ k) 16, e, Nat.add_mul]
    rw [show m * (16 * 16 ^ k) = m * 16 ^ k * 16 by rw [Nat.mul_comm 16, Nat.mul_assoc]]
    omega
theorem pad_numB : ∀ (s : List UInt8) (m n : Nat), numB hexV 16 s m = some n → ∃ r, r < 16 ^ s.length ∧ n = m * 16 ^ s.length + r ∧ s = padHex s.length r := by
  intro s
  induction hk : s.length generalizing s with
  | zero =>
    intro m n h
    have : s = [] := List.length_eq_zero_iff.1 hk
    subst this
    simp [numB] at h
    exact ⟨0, by simp, by simp [h], rfl⟩
  | succ k ih =>
    intro m n h
    have hne : s ≠ [] := by intro e; subst e; simp at hk
    obtain ⟨t, c, rfl⟩ : ∃ t c, s = t ++ [c] := ⟨s.dropLast, s.getLast hne, (List.dropLast_concat_getLast hne).symm⟩
    have hkt : t.length = k := by simpa using hk
    rw [numB_snoc] at h
    cases h1 : numB hexV 16 t m with
    | none => rw [h1] at h; cases h
    | some n' =>
      rw [h1] at h
      cases h2 : hexV c with
      | none => rw [h2] at h; cases h
      | some d =>
        rw [h2] at h
        obtain ⟨hd, hc⟩ := hexV_upDig h2
        obtain ⟨r, hr, hn, ht⟩ := ih t hkt m n' h1
        have hh : n' * 16 + d = n := by simpa using h
        refine ⟨r * 16 + d, ?_, ?_, ?_⟩
        · rw [Nat.pow_succ]; omega
        · rw [← hh, hn, Nat.pow_succ, Nat.add_mul, Nat.mul_assoc]; omega
        · rw [padHex, show (r * 16 + d) / 16 = r by omega, show (r * 16 + d) % 16 = d by omega, ← ht, hc]
theorem upHex_rec (u : Nat) : upHex u = if 16 ≤ u then upHex (u / 16) ++ [upDig (u % 16)] else [upDig u] := by
  unfold upHex
  split
  · rename_i h
    rw [hexLow_big h]
    simp [Lib.toUpperA, upDig]
  · rename_i h
    rw [hexLow_small h]
    simp [Lib.toUpperA, upDig]
theorem upHex_len (u k : Nat) (h : u < 16 ^ k) (h0 : 0 < k) : (upHex u).length ≤ k := by
  unfold upHex
  rw [toUpperA_len]
  exact hexLow_len u k h h0
theorem upHex_lt : ∀ (u k : Nat), (upHex u).length ≤ k → u < 16 ^ k := by
  intro u
  induction u using Nat.strongRecOn with
  | ind u ih =>
    intro k hk
    rw [upHex_rec] at hk
    split at hk
    · rename_i h
      obtain ⟨k', rfl⟩ : ∃ k', k = k' + 1 := ⟨k - 1, by simp at hk; omega⟩
      have := ih (u / 16) (by omega) k' (by simp at hk; omega)
      rw [Nat.pow_succ]; omega
    · simp at hk
      obtain ⟨k', rfl⟩ : ∃ k', k = k' + 1 := ⟨k - 1, by omega⟩
      have := Nat.pow_pos (n := k') (show 0 < 16 by omega)
      rw [Nat.pow_succ]; omega
theorem upHex_pad : ∀ u : Nat, upHex u = padHex (upHex u).length u := by
  intro u
  induction u using Nat.strongRecOn with
  | ind u ih =>
    rw [upHex_rec]
    split
    · rename_i h
      rw [List.length_append]
      show _ = padHex ((upHex (u / 16)).length + 1) u
      rw [padHex, ← ih (u / 16) (by omega)]
    · rename_i h
      show _ = padHex 1 u
      rw [padHex, padHex, Nat.mod_eq_of_lt (by omega)]
      rfl
theorem upHex_pos (u : Nat) : 0 < (upHex u).length := by
  rw [upHex_rec]; split <;> simp
theorem padHex_zero : ∀ (k j u : Nat), u < 16 ^ k → padHex (j + k) u = List.replicate j 48 ++ padHex k u := by
  intro k
  induction k with
  | zero =>
    intro j u h
    have h0 : u = 0 := by simpa using h
    subst h0
    induction j with
    | zero => rfl
    | succ j ih =>
      show padHex (j + 0) 0 ++ [upDig 0] = _
      rw [ih, List.replicate_succ']
      show List.replicate j 48 ++ [] ++ [upDig 0] = List.replicate j 48 ++ [48] ++ []
      simp
      decide
  | succ k ih =>
    intro j u h
    rw [Nat.pow_succ] at h
    show padHex (j + k) (u / 16) ++ [_] = _
    rw [ih j (u / 16) (by omega), padHex, List.append_assoc]
theorem padHex_head : ∀ (k u : Nat), (padHex (k + 1) u).head? = some (upDig (u / 16 ^ k % 16)) := by
  intro k
  induction k with
  | zero => intro u; simp [padHex]
  | succ k ih =>
    intro u
    rw [padHex, List.head?_append, ih, Nat.div_div_eq_div_mul, Nat.pow_succ, Nat.mul_comm 16]
    rfl
theorem pointS_pad (u : Nat) : pointS u = padHex ((4 - (upHex u).length) + (upHex u).length) u := by
  unfold pointS
  rw [padHex_zero _ _ _ (upHex_lt u _ (Nat.le_refl _)), ← upHex_pad]
theorem pointS_mem {u : Nat} {b : UInt8} (h : b ∈ pointS u) : b ≠ 10 ∧ b ≠ 32 ∧ b ≠ 59 ∧ b ≠ 35 := by
  rw [pointS_pad] at h
  obtain ⟨d, hd, rfl⟩ := padHex_mem _ _ b h
  exact upDig_not d hd
theorem joinS_flat : ∀ (r : List Nat) (a : Nat), joinS (a :: r) = pointS a ++ r.flatMap fun x => 32 :: pointS x := by
  intro r
  induction r with
  | nil => intro a; simp [joinS]
  | cons b t ih => intro a; rw [joinS, ih b] <;> simp
theorem joinS_mem : ∀ (us : List Nat), ∀ b ∈ joinS us, b ≠ 10 ∧ b ≠ 59 := by
  intro us
  induction us with
  | nil => intro b hb; simp [joinS] at hb
  | cons a r ih =>
    intro b hb
    cases r with
    | nil => rw [joinS] at hb; exact ⟨(pointS_mem hb).1, (pointS_mem hb).2.2.1⟩
    | cons c t =>
      rw [joinS] at hb
      · rcases List.mem_append.1 hb with hb | hb
        · exact ⟨(pointS_mem hb).1, (pointS_mem hb).2.2.1⟩
        · rcases List.mem_cons.1 hb with rfl | hb
          · decide
          · exact ih b hb
      · simp
theorem cut_join (c : UInt8) : ∀ (s : List UInt8), s = (match cutL c s with
    | [] => []
    | a :: r => a ++ r.flatMap fun x => c :: x) := by
  intro s
  induction s with
  | nil => simp [cutL]
  | cons b r ih =>
    cases hc : cutL c r with
    | nil => exact absurd hc (cutL_ne c r)
    | cons a t =>
      rw [hc] at ih
      simp only at ih
      by_cases hb : b = c
      · have e : cutL c (b :: r) = [] :: a :: t := by rw [cutL, if_pos hb, hc]
        rw [e]
        simp only [List.nil_append, List.flatMap_cons, List.cons_append]
        rw [← ih, hb]
      · have e : cutL c (b :: r) = (b :: a) :: t := by rw [cutL, if_neg hb, hc]
        rw [e]
        simp only [List.cons_append]
        rw [← ih]
end Go.Vf
