/- Contracts and lemmas (nothing is claimed here). -/
import Derived.Test.YtnjfkijekohdkaaDoorKRmq
import Derived.Test.YtnjfkijekohdkaaDoorKRdp
import Derived.Test.YtnjfkijekohdkaaDoorCop
import Derived.Test.YtnjfkijekohdkaaDoorKTua
import Derived.Deep.CutRange
namespace Go.Proofs.YtnjfkijekohdkaaDoor
open Go.RowKit Go.Vf

theorem wpAnyH_takeD {P : Program} {md : Region.Mode} {ops : Array Oper} {Q : Exit → Act → World → Prop} {S : World → Prop} {i : Nat} {oi : Oper} {v : Value} {fuel : Nat} {listed : Array Bool} {a : Act} {w : World} (d : Option Nat) (hi : ops[i]? = some oi) (hd : oi.dst = d)
    (hs : Region.noSelect ops = true) (hf : Region.free md ops listed i = true) (hr : (Region.ready md ops listed).contains i = true)
    (hQ : ∀ c a w, Q (.panic c) (a.put oi.dst v) w → Q (.panic c) a w) (hy : YieldsIf P ops S oi v a) (hS : S w)
    (h : wpAnyH P md ops Q S fuel (listed.setIfInBounds i true) (a.put d v) w) : wpAnyH P md ops Q S (fuel + 1) listed a w := by
  subst hd
  exact wpAnyH_take hi hs hf hr hQ hy hS h
/-- What Map answers: the first k0 sources are right, and the next one is wrong, if there is one. -/
def MpPost (n k0 : Nat) (qs : List Prt) (why : Int) (w : World) (e : Ending) (w' : World) : Prop := Below w.heap.size w w' ∧
  ((k0 = n ∧ ∃ a c, e = .returned (.tuple #[.agg #[.int .u8 7, .bool false, .bool false, .string ⟨#[]⟩, .string ⟨#[]⟩, .slice a k0 c], .agg #[.int .i64 0, .int .i64 0, .slice none 0 0], .int .i64 0]) ∧ PIn w' w.heap.size w'.heap.size (tupP qs) a) ∨
   (k0 < n ∧ e = .returned (.tuple #[.agg #[.int .u8 0, .bool false, .bool false, .string ⟨#[]⟩, .string ⟨#[]⟩, .slice none 0 0], .agg #[.int .i64 180, .int .i64 (k0 : Int), .slice none 0 0], .int .i64 why])))
/-- What stands while Map goes through the sources. -/
structure RmI (w wr : World) (its : List Prt) (ap : Option Addr) (il cp : Nat) (acc : List Prt) (a6 : Option Addr) (j c6 : Nat) : Prop where
  itm : PItm (w.heap.size + 1 + 1 + 1 + 1) wr (.slice a6 j c6) acc
  arg : Blk wr w.heap.size 29 #[.int .u8 7, .bool false, .bool false, .string ⟨#[]⟩, .string ⟨#[]⟩, .slice ap il cp]
  one : Blk wr (w.heap.size + 1) 29 #[.int .u8 0, .bool false, .bool false, .string ⟨#[]⟩, .string ⟨#[]⟩, .slice none 0 0]
  two : Blk wr (w.heap.size + 1 + 1) 40 #[.int .i64 0, .int .i64 0, .slice none 0 0]
  out : Blk wr (w.heap.size + 1 + 1 + 1) 29 #[.int .u8 7, .bool false, .bool false, .string ⟨#[]⟩, .string ⟨#[]⟩, .slice a6 j c6]
  bel : Below w.heap.size w wr
theorem RmI.le {w wr : World} {its : List Prt} {ap : Option Addr} {il cp : Nat} {acc : List Prt} {a6 : Option Addr} {j c6 : Nat} (h : RmI w wr its ap il cp acc a6 j c6) : w.heap.size + 1 + 1 + 1 + 1 ≤ wr.heap.size := h.out.lt
theorem RmI.old {w wr wx : World} {its : List Prt} {ap : Option Addr} {il cp : Nat} {acc : List Prt} {a6 : Option Addr} {j c6 : Nat} (h : RmI w wr its ap il cp acc a6 j c6) (hb : Below wr.heap.size wr wx) : RmI w wx its ap il cp acc a6 j c6 :=
  ⟨h.itm.old hb, h.arg.old hb, h.one.old hb, h.two.old hb, h.out.old hb, h.bel.trans (hb.mono h.bel.size)⟩
/-- An item has been appended, and the list's place written. -/
theorem RmI.more {w wr w6 : World} {its : List Prt} {ap : Option Addr} {il cp : Nat} {acc acc' : List Prt} {a6 a7 : Option Addr} {j c6 c7 : Nat} (h : RmI w wr its ap il cp acc a6 j c6) (hit : PItm (w.heap.size + 1 + 1 + 1 + 1) w6 (.slice a7 (j + 1) c7) acc') (hb : Below (w.heap.size + 1 + 1 + 1 + 1) wr w6) :
    RmI w (w6.setCell ⟨w.heap.size + 1 + 1 + 1, 5, none⟩ (.slice a7 (j + 1) c7)) its ap il cp acc' a7 (j + 1) c7 := by
  have o6 := h.out.below hb (Nat.lt_succ_self _)
  refine ⟨hit.keep (fun b q1 q2 => Below.heap_setCell _ _ _ b (by show b ≠ w.heap.size + 1 + 1 + 1; omega)) (by rw [set_sizeC]; exact Nat.le_refl _), Blk.other (h.arg.below hb (by omega)) (p := ⟨w.heap.size + 1 + 1 + 1, 5, none⟩) (by show w.heap.size ≠ w.heap.size + 1 + 1 + 1; omega) _, Blk.other (h.one.below hb (by omega)) (p := ⟨w.heap.size + 1 + 1 + 1, 5, none⟩) (by show w.heap.size + 1 ≠ w.heap.size + 1 + 1 + 1; omega) _, Blk.other (h.two.below hb (by omega)) (p := ⟨w.heap.size + 1 + 1 + 1, 5, none⟩) (by show w.heap.size + 1 + 1 ≠ w.heap.size + 1 + 1 + 1; omega) _, ?_, ?_⟩
  · have := o6.set 5 (.slice a7 (j + 1) c7)
    simpa using this
  · exact (h.bel.trans (hb.mono (by omega))).setCell (p := ⟨w.heap.size + 1 + 1 + 1, 5, none⟩) (by show w.heap.size ≤ w.heap.size + 1 + 1 + 1; omega) _
set_option maxHeartbeats 8000000 in
set_option maxRecDepth 20000 in
theorem rmap_any (l : List (Int × Prt)) (its qs : List Prt) (hl : l.length ≤ 1024) (k0 : Nat) (hk0 : k0 ≤ l.length) (hlq : qs.length = k0) (hsr : ∀ j (hj : j < k0), srcR its (l[j]'(by omega)) = some (qs[j]'(by omega))) (hend : ∀ h : k0 < l.length, srcR its l[k0] = none) (hfit : ∀ s ∈ l, Fits s.2) (hmay : ∀ x ∈ its, may x = true) (hil : its.length ≤ 1024) (a ap : Option Addr) (c cp lo n₀ : Nat) (w : World) (hn₀ : n₀ ≤ w.heap.size) (hin : SrIn w lo n₀ a l) (hp : PIn w lo n₀ (tupP its) ap) :
    Calls Tryd.prog 11 #[.slice a l.length c, .agg #[.int .u8 7, .bool false, .bool false, .string ⟨#[]⟩, .string ⟨#[]⟩, .slice ap its.length cp]] w (MpPost l.length k0 qs (whyAt l k0) w) := by
  obtain ⟨n, hn⟩ : ∃ n, l.length = n := ⟨_, rfl⟩
  have HN : Hid (l.length = n) := hn
  have HLQ : Hid (qs.length = k0) := hlq
  have HSR : Hid (∀ j (hj : j < l.length) (hq : j < qs.length), srcR its l[j] = some qs[j]) := fun j hj hq => hsr j (by omega)
  have HEND : Hid (∀ h : k0 < l.length, srcR its l[k0] = none) := hend
  obtain ⟨WY, hWY⟩ : ∃ WY, whyAt l k0 = WY := ⟨_, rfl⟩
  have HWY : Hid (whyAt l k0 = WY) := hWY
  rw [hWY]
  have HIN : Hid (∀ x, Below w.heap.size w x → SrIn x lo n₀ a l) := fun x hx => hin.keep hx hn₀
  have HPI : Hid (∀ x, Below w.heap.size w x → PIn x lo n₀ (tupP its) ap) := fun x hx => hp.keep hx hn₀
  have HFIT : Hid (∀ s ∈ l, Fits s.2) := hfit
  have HMAY : Hid (∀ x ∈ its, may x = true) := hmay
  obtain ⟨il, hi⟩ : ∃ il, its.length = il := ⟨_, rfl⟩
  have HIL : Hid (its.length = il) := hi
  rw [hn] at hl hk0 ⊢
  rw [hi] at hil ⊢
  have HM3 := Map3.mk' w (tupP its) ap il cp
  clear hn hlq hsr hin hp hfit hend hWY hmay hi
  unfold tupP at HM3
  simp only [Prt.kind, Prt.yes, Prt.neg, Prt.mag, Prt.raw] at HM3
  go_enter Tryd.func11, Tryd.ntmps11
  go_upto_region 1 with fail
  generalize ((w.alloc (.cells #[.int .u8 7, .bool false, .bool false, .string ⟨#[]⟩, .string ⟨#[]⟩, .slice ap il cp] 29)).alloc (.cells #[.int .u8 0, .bool false, .bool false, .string ⟨#[]⟩, .string ⟨#[]⟩, .slice none 0 0] 29)).alloc (.cells #[.int .i64 0, .int .i64 0, .slice none 0 0] 40) = W at *
  have harg : Blk W w.heap.size 29 #[.int .u8 7, .bool false, .bool false, .string ⟨#[]⟩, .string ⟨#[]⟩, .slice ap il cp] := HM3.arg
  obtain ⟨a0, a1, a2, a3, a4, a5⟩ := harg.c6
  have bo := (Below.refl W.heap.size W).alloc (Nat.le_refl _) (.cells #[.int .u8 7, .bool false, .bool false, .string ⟨#[]⟩, .string ⟨#[]⟩, .slice none 0 0] 29)
  have BO := Blk.new W 29 #[.int .u8 7, .bool false, .bool false, .string ⟨#[]⟩, .string ⟨#[]⟩, .slice none 0 0]
  have hWs : W.heap.size = w.heap.size + 1 + 1 + 1 := HM3.size
  rw [hWs] at BO
  have HI0 : Hid (RmI w (W.alloc (.cells #[.int .u8 7, .bool false, .bool false, .string ⟨#[]⟩, .string ⟨#[]⟩, .slice none 0 0] 29)) its ap il cp [] none 0 0) := ⟨PItm.nil _ _, harg.old bo, HM3.one.old bo, HM3.two.old bo, BO, HM3.bel.trans (bo.mono HM3.bel.size)⟩
  have t1 : decide ((1024 : Int) < (n : Int)) = false := decide_eq_false (by omega)
  have t2 : decide (1024 < n) = false := decide_eq_false (by omega)
  clear bo BO HM3 harg
  go_upto_region 6 with fail
  generalize W.alloc (.cells #[.int .u8 7, .bool false, .bool false, .string ⟨#[]⟩, .string ⟨#[]⟩, .slice none 0 0] 29) = W2 at *
  generalize hG : W.heap.size = G at *
  subst hWs
  clear hG a0 a1 a2 a3 a4 a5 t1 t2
  go_wp2
  go_loopw [8] (fun iv wr => ∃ (j : Nat) (a6 : Option Addr) (c6 : Nat), j ≤ k0 ∧ iv = .int .i64 (j : Int) ∧ Hid (RmI w wr its ap il cp (qs.take j) a6 j c6)) (fun iv _ => n - (intOf iv).toNat)
  case atStart => exact ⟨0, none, 0, Nat.zero_le _, rfl, by simpa [Hid] using HI0.out⟩
  case round =>
    clear HI0
    obtain ⟨j, a6, c6, hj, rfl, HI⟩ := hrel
    by_cases hjn : j < n
    · have hjl : j < l.length := by rw [HN.out]; exact hjn
      obtain ⟨b, off, aj, cj, ha, hbn, f0, s0, s1, s2, s3, s4, s5, hpj⟩ := HIN.out wr HI.out.bel j hjl
      obtain ⟨s, hs⟩ : ∃ s, s = l[j] := ⟨_, rfl⟩
      have HQF : Hid (Fits s.2) := by rw [hs]; exact HFIT.out _ (List.getElem_mem hjl)
      have HSJ : Hid (∀ hq : j < qs.length, srcR its s = some qs[j]) := fun hq => by rw [hs]; exact HSR.out j hjl hq
      have HSE : Hid (j = k0 → srcR its s = none ∧ whyR s = WY) := fun e => by
        subst e
        refine ⟨by rw [hs]; exact HEND.out hjl, ?_⟩
        rw [← HWY.out, whyAt, List.getElem?_eq_getElem hjl, hs]
        rfl
      rw [← hs] at f0 s0 s1 s2 s3 s4 s5 hpj
      clear hs
      obtain ⟨f, q⟩ := s
      dsimp only at f0 s0 s1 s2 s3 s4 s5 hpj HQF
      subst ha
      have hji : (j : Int) < (n : Int) := by omega
      have tl : decide ((j : Int) < (n : Int)) = true := decide_eq_true hji
      have HF : Hid (∀ x, Below wr.heap.size wr x → x.cell? ⟨b, off + j * 7, none⟩ = some (.int .i64 f) ∧ x.cell? ⟨w.heap.size, 5, none⟩ = some (.slice ap il cp)) := fun x hx =>
        ⟨(hx.cell (p := ⟨b, _, none⟩) (by have := HI.out.bel.size; show b < wr.heap.size; omega)).trans f0, (HI.out.arg.old hx).cell 5⟩
      have hdr : Below wr.heap.size wr wr.drew := (Below.refl _ _).drew
      have HIv : Hid (RmI w wr.drew its ap il cp (qs.take j) a6 j c6) := HI.out.old hdr
      have HPj : Hid (PIn wr.drew lo n₀ q aj) := hpj.keep hdr (by have := HI.out.bel.size; omega)
      have HCv : Hid (wr.drew.cell? ⟨b, off + j * 7, none⟩ = some (.int .i64 f) ∧ wr.drew.cell? ⟨b, off + j * 7 + 1, none⟩ = some (.int .u8 q.kind) ∧ wr.drew.cell? ⟨b, off + j * 7 + 2, none⟩ = some (.bool q.yes) ∧ wr.drew.cell? ⟨b, off + j * 7 + 3, none⟩ = some (.bool q.neg) ∧ wr.drew.cell? ⟨b, off + j * 7 + 4, none⟩ = some (.string q.mag) ∧ wr.drew.cell? ⟨b, off + j * 7 + 5, none⟩ = some (.string q.raw) ∧ wr.drew.cell? ⟨b, off + j * 7 + 6, none⟩ = some (.slice aj q.items.length cj)) := ⟨f0, s0, s1, s2, s3, s4, s5⟩
      have HBN : Hid (b < w.heap.size) := by show _ < _; omega
      clear f0 s0 s1 s2 s3 s4 s5 hpj hdr hbn
      by_cases hfl : (il : Int) ≤ f
      · have t9 : decide ((il : Int) ≤ f) = true := decide_eq_true hfl
        have hk : j = k0 := by
          rcases Nat.lt_or_ge j k0 with h | h
          · have h1 := HSJ.out (by rw [HLQ.out]; exact h)
            unfold srcR at h1
            rw [if_neg (show ¬ f < 0 by omega)] at h1
            have h2 := (List.getElem?_eq_some_iff.1 h1).1
            have h3 := HIL.out
            have h4 : (f, q).1.toNat = f.toNat := rfl
            omega
          · omega
        have HWJ : Hid (WY = 0) := by
          show _ = _
          rw [← (HSE.out hk).2]
          unfold whyR
          exact if_neg (show ¬ f < 0 by omega)
        have HKJ : Hid (j = k0) := hk
        clear hk
        go_upto_region 9 with fail
        refine wp_region_held_drew (S := fun x => Below wr.heap.size wr x) (by kernel_rfl) ((Below.refl _ _).drew) (fun hHelda => ?_)
        refine wpAnyH_takeD (i := 0) (some 30) (v := ?va0) rfl rfl (by kernel_rfl) (by kernel_rfl) (by kernel_rfl) (fun _ _ _ h => h) (Or.inl ⟨by kernel_rfl, ?hya0⟩) (by assumption) ?resta0
        case hya0 => (intro x hSx; (try dsimp only at hSx); go_simp; first | done | with_reducible rfl)
        try simp only [Act.put, List.setIfInBounds_toArray, List.set_cons_zero, List.set_cons_succ]
        refine wpAnyH_takeD (i := 1) (some 31) (v := ?va1) rfl rfl (by kernel_rfl) (by kernel_rfl) (by kernel_rfl) (fun _ _ _ h => h) (Or.inl ⟨by kernel_rfl, ?hya1⟩) (by assumption) ?resta1
        case hya1 => (intro x hSx; (try dsimp only at hSx); go_simp; first | done | with_reducible rfl)
        try simp only [Act.put, List.setIfInBounds_toArray, List.set_cons_zero, List.set_cons_succ]
        refine wpAnyH_takeD (i := 2) (some 32) (v := ?va2) rfl rfl (by kernel_rfl) (by kernel_rfl) (by kernel_rfl) (fun _ _ _ h => h) (Or.inl ⟨by kernel_rfl, ?hya2⟩) (by assumption) ?resta2
        case hya2 => (intro x hSx; (try dsimp only at hSx); go_simp; first | done | with_reducible rfl)
        try simp only [Act.put, List.setIfInBounds_toArray, List.set_cons_zero, List.set_cons_succ]
        refine wpAnyH_takeD (i := 3) (some 33) (v := ?va3) rfl rfl (by kernel_rfl) (by kernel_rfl) (by kernel_rfl) (fun _ _ _ h => h) (Or.inl ⟨by kernel_rfl, ?hya3⟩) (by assumption) ?resta3
        case hya3 => (intro x hSx; (try dsimp only at hSx); go_simp; first | done | with_reducible rfl)
        try simp only [Act.put, List.setIfInBounds_toArray, List.set_cons_zero, List.set_cons_succ]
        refine wpAnyH_takeD (i := 4) (some 34) (v := ?va4) rfl rfl (by kernel_rfl) (by kernel_rfl) (by kernel_rfl) (fun _ _ _ h => h) (Or.inl ⟨by kernel_rfl, ?hya4⟩) (by assumption) ?resta4
        case hya4 => (intro x hSx; (try dsimp only at hSx); obtain ⟨z0, z1⟩ := HF.out x hSx; go_simp; first | done | with_reducible rfl)
        try simp only [Act.put, List.setIfInBounds_toArray, List.set_cons_zero, List.set_cons_succ]
        refine wpAnyH_takeD (i := 5) (some 35) (v := ?va5) rfl rfl (by kernel_rfl) (by kernel_rfl) (by kernel_rfl) (fun _ _ _ h => h) (Or.inl ⟨by kernel_rfl, ?hya5⟩) (by assumption) ?resta5
        case hya5 => (intro x hSx; (try dsimp only at hSx); go_simp; first | done | with_reducible rfl)
        try simp only [Act.put, List.setIfInBounds_toArray, List.set_cons_zero, List.set_cons_succ]
        refine wpAnyH_takeD (i := 6) (some 36) (v := ?va6) rfl rfl (by kernel_rfl) (by kernel_rfl) (by kernel_rfl) (fun _ _ _ h => h) (Or.inl ⟨by kernel_rfl, ?hya6⟩) (by assumption) ?resta6
        case hya6 => (intro x hSx; (try dsimp only at hSx); obtain ⟨z0, z1⟩ := HF.out x hSx; go_simp; first | done | with_reducible rfl)
        try simp only [Act.put, List.setIfInBounds_toArray, List.set_cons_zero, List.set_cons_succ]
        refine wpAnyH_takeD (i := 7) (some 37) (v := ?va7) rfl rfl (by kernel_rfl) (by kernel_rfl) (by kernel_rfl) (fun _ _ _ h => h) (Or.inl ⟨by kernel_rfl, ?hya7⟩) (by assumption) ?resta7
        case hya7 => (intro x hSx; (try dsimp only at hSx); go_simp; first | done | with_reducible rfl)
        try simp only [Act.put, List.setIfInBounds_toArray, List.set_cons_zero, List.set_cons_succ]
        refine wpAnyH_takeD (i := 8) (some 38) (v := .bool true) rfl rfl (by kernel_rfl) (by kernel_rfl) (by kernel_rfl) (fun _ _ _ h => h) (Or.inl ⟨by kernel_rfl, ?hya8⟩) (by assumption) ?resta8
        case hya8 => (intro x hSx; (try dsimp only at hSx); go_simp; first | done | with_reducible rfl)
        try simp only [Act.put, List.setIfInBounds_toArray, List.set_cons_zero, List.set_cons_succ]
        refine wpAnyH_done (by kernel_rfl) ?_ _
        clear hHelda HF
        generalize wr.drew = V at *
        obtain ⟨d0, d1, d2, d3, d4, d5⟩ := HIv.out.one.c6
        have e0 : V.cell? ⟨w.heap.size + 1 + 1, 0, none⟩ = some (.int .i64 0) := HIv.out.two.cell 0
        have e1 : V.cell? ⟨w.heap.size + 1 + 1, 1, none⟩ = some (.int .i64 0) := HIv.out.two.cell 1
        have e2 : V.cell? ⟨w.heap.size + 1 + 1, 2, none⟩ = some (.slice none 0 0) := HIv.out.two.cell 2
        have x0 := HIv.out.one.frozen 0
        have x1 := HIv.out.one.frozen 1
        have x2 := HIv.out.one.frozen 2
        have x3 := HIv.out.one.frozen 3
        have x4 := HIv.out.one.frozen 4
        have x5 := HIv.out.one.frozen 5
        have y0 := HIv.out.two.frozen 0
        have y1 := HIv.out.two.frozen 1
        have y2 := HIv.out.two.frozen 2
        have HPUT := map3_put (A := w.heap.size + 1) (B := w.heap.size + 1 + 1) (by omega) HIv.out.one HIv.out.two (.int .u8 0) (.bool false) (.bool false) (.string ⟨#[]⟩) (.string ⟨#[]⟩) (.slice none 0 0) (.int .i64 180) (.int .i64 (j : Int)) (.slice none 0 0)
        have HRST := map3_rest (W := V) (A := w.heap.size + 1) (B := w.heap.size + 1 + 1) (.int .u8 0) (.bool false) (.bool false) (.string ⟨#[]⟩) (.string ⟨#[]⟩) (.slice none 0 0) (.int .i64 180) (.int .i64 (j : Int)) (.slice none 0 0)
        dsimp only at HPUT HRST
        have HPU : Hid _ := HPUT
        have HRS : Hid _ := HRST
        clear HPUT HRST
        go_wp2
        generalize (((((((((V.setCell ⟨w.heap.size + 1, 0, none⟩ (.int .u8 0)).setCell ⟨w.heap.size + 1, 1, none⟩ (.bool false)).setCell ⟨w.heap.size + 1, 2, none⟩ (.bool false)).setCell ⟨w.heap.size + 1, 3, none⟩ (.string ⟨#[]⟩)).setCell ⟨w.heap.size + 1, 4, none⟩ (.string ⟨#[]⟩)).setCell ⟨w.heap.size + 1, 5, none⟩ (.slice none 0 0)).setCell ⟨w.heap.size + 1 + 1, 0, none⟩ (.int .i64 180)).setCell ⟨w.heap.size + 1 + 1, 1, none⟩ (.int .i64 (j : Int))).setCell ⟨w.heap.size + 1 + 1, 2, none⟩ (.slice none 0 0)) = Z at *
        obtain ⟨PA, PB, PC⟩ := HPU.out
        obtain ⟨PS, PD⟩ := HRS.out
        refine bodyPost_ret (resMap_run PA PB rfl rfl) rfl ?_
        exact ⟨PC _ w (by omega) (by omega) HIv.out.bel, .inr ⟨by have := HKJ.out; omega, by rw [HWJ.out, ← HKJ.out]; rfl⟩⟩
      · have t9 : decide ((il : Int) ≤ f) = false := decide_eq_false hfl
        go_upto_region 9 with fail
        refine wp_region_held_drew (S := fun x => Below wr.heap.size wr x) (by kernel_rfl) ((Below.refl _ _).drew) (fun hHeldb => ?_)
        refine wpAnyH_takeD (i := 0) (some 30) (v := ?vb0) rfl rfl (by kernel_rfl) (by kernel_rfl) (by kernel_rfl) (fun _ _ _ h => h) (Or.inl ⟨by kernel_rfl, ?hyb0⟩) (by assumption) ?restb0
        case hyb0 => (intro x hSx; (try dsimp only at hSx); go_simp; first | done | with_reducible rfl)
        try simp only [Act.put, List.setIfInBounds_toArray, List.set_cons_zero, List.set_cons_succ]
        refine wpAnyH_takeD (i := 1) (some 31) (v := ?vb1) rfl rfl (by kernel_rfl) (by kernel_rfl) (by kernel_rfl) (fun _ _ _ h => h) (Or.inl ⟨by kernel_rfl, ?hyb1⟩) (by assumption) ?restb1
        case hyb1 => (intro x hSx; (try dsimp only at hSx); go_simp; first | done | with_reducible rfl)
        try simp only [Act.put, List.setIfInBounds_toArray, List.set_cons_zero, List.set_cons_succ]
        refine wpAnyH_takeD (i := 2) (some 32) (v := ?vb2) rfl rfl (by kernel_rfl) (by kernel_rfl) (by kernel_rfl) (fun _ _ _ h => h) (Or.inl ⟨by kernel_rfl, ?hyb2⟩) (by assumption) ?restb2
        case hyb2 => (intro x hSx; (try dsimp only at hSx); go_simp; first | done | with_reducible rfl)
        try simp only [Act.put, List.setIfInBounds_toArray, List.set_cons_zero, List.set_cons_succ]
        refine wpAnyH_takeD (i := 3) (some 33) (v := ?vb3) rfl rfl (by kernel_rfl) (by kernel_rfl) (by kernel_rfl) (fun _ _ _ h => h) (Or.inl ⟨by kernel_rfl, ?hyb3⟩) (by assumption) ?restb3
        case hyb3 => (intro x hSx; (try dsimp only at hSx); go_simp; first | done | with_reducible rfl)
        try simp only [Act.put, List.setIfInBounds_toArray, List.set_cons_zero, List.set_cons_succ]
        refine wpAnyH_takeD (i := 4) (some 34) (v := ?vb4) rfl rfl (by kernel_rfl) (by kernel_rfl) (by kernel_rfl) (fun _ _ _ h => h) (Or.inl ⟨by kernel_rfl, ?hyb4⟩) (by assumption) ?restb4
        case hyb4 => (intro x hSx; (try dsimp only at hSx); obtain ⟨z0, z1⟩ := HF.out x hSx; go_simp; first | done | with_reducible rfl)
        try simp only [Act.put, List.setIfInBounds_toArray, List.set_cons_zero, List.set_cons_succ]
        refine wpAnyH_takeD (i := 5) (some 35) (v := ?vb5) rfl rfl (by kernel_rfl) (by kernel_rfl) (by kernel_rfl) (fun _ _ _ h => h) (Or.inl ⟨by kernel_rfl, ?hyb5⟩) (by assumption) ?restb5
        case hyb5 => (intro x hSx; (try dsimp only at hSx); go_simp; first | done | with_reducible rfl)
        try simp only [Act.put, List.setIfInBounds_toArray, List.set_cons_zero, List.set_cons_succ]
        refine wpAnyH_takeD (i := 6) (some 36) (v := ?vb6) rfl rfl (by kernel_rfl) (by kernel_rfl) (by kernel_rfl) (fun _ _ _ h => h) (Or.inl ⟨by kernel_rfl, ?hyb6⟩) (by assumption) ?restb6
        case hyb6 => (intro x hSx; (try dsimp only at hSx); obtain ⟨z0, z1⟩ := HF.out x hSx; go_simp; first | done | with_reducible rfl)
        try simp only [Act.put, List.setIfInBounds_toArray, List.set_cons_zero, List.set_cons_succ]
        refine wpAnyH_takeD (i := 7) (some 37) (v := ?vb7) rfl rfl (by kernel_rfl) (by kernel_rfl) (by kernel_rfl) (fun _ _ _ h => h) (Or.inl ⟨by kernel_rfl, ?hyb7⟩) (by assumption) ?restb7
        case hyb7 => (intro x hSx; (try dsimp only at hSx); go_simp; first | done | with_reducible rfl)
        try simp only [Act.put, List.setIfInBounds_toArray, List.set_cons_zero, List.set_cons_succ]
        refine wpAnyH_takeD (i := 8) (some 38) (v := .bool false) rfl rfl (by kernel_rfl) (by kernel_rfl) (by kernel_rfl) (fun _ _ _ h => h) (Or.inl ⟨by kernel_rfl, ?hyb8⟩) (by assumption) ?restb8
        case hyb8 => (intro x hSx; (try dsimp only at hSx); go_simp; first | done | with_reducible rfl)
        try simp only [Act.put, List.setIfInBounds_toArray, List.set_cons_zero, List.set_cons_succ]
        refine wpAnyH_done (by kernel_rfl) ?_ _
        clear hHeldb HF
        generalize wr.drew = V at *
        by_cases hf0 : f < 0
        · have t11 : decide ((0 : Int) ≤ f) = false := decide_eq_false (by omega)
          obtain ⟨G, HGG⟩ : ∃ G : Int, Hid (G = if deeper 16 q then 91 else if may q then 0 else 90) := ⟨_, rfl⟩
          have HMk := rmake_any q HQF.out aj cj lo n₀ V (Nat.le_trans hn₀ HIv.out.bel.size) HPj.out
          rw [← HGG.out] at HMk
          unfold pV at HMk
          have HOW : Hid (∀ Z : Int, Z ≠ 0 → ownW q = Z → j = k0 ∧ WY = Z) := fun Z hz ho => by
            have hnone : srcR its (f, q) = none := by
              unfold srcR
              rw [if_pos (show (f, q).1 < 0 from hf0), if_neg (show ¬ ownW (f, q).2 = 0 by show ¬ ownW q = 0; rw [ho]; exact hz)]
            have hk : j = k0 := by
              rcases Nat.lt_or_ge j k0 with h | h
              · have h1 := HSJ.out (by rw [HLQ.out]; exact h)
                rw [hnone] at h1
                cases h1
              · omega
            refine ⟨hk, ?_⟩
            rw [← (HSE.out hk).2]
            unfold whyR
            rw [if_pos (show (f, q).1 < 0 from hf0)]
            exact ho
          obtain ⟨k0c, k1c, k2c, k3c, k4c, k5c, k6c⟩ := HCv.out
          have HCx : Hid (∀ x, Below V.heap.size V x → x.cell? ⟨b, off + j * 7 + 1, none⟩ = some (.int .u8 q.kind) ∧ x.cell? ⟨b, off + j * 7 + 2, none⟩ = some (.bool q.yes) ∧ x.cell? ⟨b, off + j * 7 + 3, none⟩ = some (.bool q.neg) ∧ x.cell? ⟨b, off + j * 7 + 4, none⟩ = some (.string q.mag) ∧ x.cell? ⟨b, off + j * 7 + 5, none⟩ = some (.string q.raw) ∧ x.cell? ⟨b, off + j * 7 + 6, none⟩ = some (.slice aj q.items.length cj)) := fun x hx =>
            have hlt : b < V.heap.size := Nat.lt_of_lt_of_le HBN.out HIv.out.bel.size
            have h2 := HCv.out
            have e : ∀ k, x.cell? ⟨b, k, none⟩ = V.cell? ⟨b, k, none⟩ := fun k => hx.cell (p := ⟨b, k, none⟩) hlt
            ⟨(e _).trans h2.2.1, (e _).trans h2.2.2.1, (e _).trans h2.2.2.2.1, (e _).trans h2.2.2.2.2.1, (e _).trans h2.2.2.2.2.2.1, (e _).trans h2.2.2.2.2.2.2⟩
          go_wp2_with fail
          refine HMk.mono ?_
          clear HMk k0c k1c k2c k3c k4c k5c k6c
          rintro e W3 ⟨rfl, hb3⟩
          have HI3 : Hid (RmI w W3 its ap il cp (qs.take j) a6 j c6) := HIv.out.old hb3
          have HB3 : Hid (Below V.heap.size V W3) := hb3
          clear hb3
          by_cases hg : G = 0
          · have hdm : deeper 16 q = false ∧ may q = true := by
              have := HGG.out
              rw [hg] at this
              cases h1 : deeper 16 q with
              | true => rw [h1] at this; simp at this
              | false =>
                cases h2 : may q with
                | true => exact ⟨rfl, rfl⟩
                | false => rw [h1, h2] at this; simp at this
            have hd16 : dep q ≤ 16 := by
              have := deeper_dep 16 q
              rw [hdm.1] at this
              have := of_decide_eq_false this.symm
              omega
            have HDm : Hid (deeper 16 q = false ∧ may q = true) := hdm
            have HDp := rdepth_any q HQF.out (by omega) aj cj lo n₀ W3 (Nat.le_trans hn₀ (Nat.le_trans HIv.out.bel.size HB3.out.size)) (HPj.out.keep HB3.out (Nat.le_trans hn₀ HIv.out.bel.size))
            obtain ⟨D, HDD⟩ : ∃ D, Hid (D = dep q) := ⟨_, rfl⟩
            rw [← HDD.out] at HDp hd16
            obtain ⟨k1c, k2c, k3c, k4c, k5c, k6c⟩ := HCx.out W3 HB3.out
            subst hg
            clear hdm
            go_wp2_with fail
            refine HDp.mono ?_
            clear HDp k1c k2c k3c k4c k5c k6c
            rintro e W4 ⟨rfl, hb4⟩
            have HI4 : Hid (RmI w W4 its ap il cp (qs.take j) a6 j c6) := HI3.out.old hb4
            have HB4 : Hid (Below V.heap.size V W4) := HB3.out.trans (hb4.mono HB3.out.size)
            clear hb4 HI3 HB3
            by_cases hD : D = 16
            · have t17 : decide ((16 : Int) ≤ (D : Int)) = true := decide_eq_true (by omega)
              have HOz := HOW.out 91 (by decide) (by unfold ownW; rw [HDm.out.1, HDm.out.2, ← HDD.out, hD]; rfl)
              have HWJ : Hid (WY = 91) := HOz.2
              have HKJ : Hid (j = k0) := HOz.1
              clear HOz hD
              obtain ⟨d0, d1, d2, d3, d4, d5⟩ := HI4.out.one.c6
              have e0 : W4.cell? ⟨w.heap.size + 1 + 1, 0, none⟩ = some (.int .i64 0) := HI4.out.two.cell 0
              have e1 : W4.cell? ⟨w.heap.size + 1 + 1, 1, none⟩ = some (.int .i64 0) := HI4.out.two.cell 1
              have e2 : W4.cell? ⟨w.heap.size + 1 + 1, 2, none⟩ = some (.slice none 0 0) := HI4.out.two.cell 2
              have x0 := HI4.out.one.frozen 0
              have x1 := HI4.out.one.frozen 1
              have x2 := HI4.out.one.frozen 2
              have x3 := HI4.out.one.frozen 3
              have x4 := HI4.out.one.frozen 4
              have x5 := HI4.out.one.frozen 5
              have y0 := HI4.out.two.frozen 0
              have y1 := HI4.out.two.frozen 1
              have y2 := HI4.out.two.frozen 2
              have HPUT := map3_put (A := w.heap.size + 1) (B := w.heap.size + 1 + 1) (by omega) HI4.out.one HI4.out.two (.int .u8 0) (.bool false) (.bool false) (.string ⟨#[]⟩) (.string ⟨#[]⟩) (.slice none 0 0) (.int .i64 180) (.int .i64 (j : Int)) (.slice none 0 0)
              have HRST := map3_rest (W := W4) (A := w.heap.size + 1) (B := w.heap.size + 1 + 1) (.int .u8 0) (.bool false) (.bool false) (.string ⟨#[]⟩) (.string ⟨#[]⟩) (.slice none 0 0) (.int .i64 180) (.int .i64 (j : Int)) (.slice none 0 0)
              dsimp only at HPUT HRST
              have HPU : Hid _ := HPUT
              have HRS : Hid _ := HRST
              clear HPUT HRST
              go_wp2
              generalize (((((((((W4.setCell ⟨w.heap.size + 1, 0, none⟩ (.int .u8 0)).setCell ⟨w.heap.size + 1, 1, none⟩ (.bool false)).setCell ⟨w.heap.size + 1, 2, none⟩ (.bool false)).setCell ⟨w.heap.size + 1, 3, none⟩ (.string ⟨#[]⟩)).setCell ⟨w.heap.size + 1, 4, none⟩ (.string ⟨#[]⟩)).setCell ⟨w.heap.size + 1, 5, none⟩ (.slice none 0 0)).setCell ⟨w.heap.size + 1 + 1, 0, none⟩ (.int .i64 180)).setCell ⟨w.heap.size + 1 + 1, 1, none⟩ (.int .i64 (j : Int))).setCell ⟨w.heap.size + 1 + 1, 2, none⟩ (.slice none 0 0)) = Z at *
              obtain ⟨PA, PB, PC⟩ := HPU.out
              obtain ⟨PS, PD⟩ := HRS.out
              refine bodyPost_ret (resMap_run PA PB rfl rfl) rfl ?_
              exact ⟨PC _ w (by omega) (by omega) HI4.out.bel, .inr ⟨by have := HKJ.out; omega, by rw [HWJ.out, ← HKJ.out]; rfl⟩⟩
            · have t17 : decide ((16 : Int) ≤ (D : Int)) = false := decide_eq_false (by omega)
              have hown : ownW q = 0 := by
                unfold ownW
                rw [HDm.out.1, HDm.out.2, ← HDD.out]
                simp [hD]
              have hsome : srcR its (f, q) = some q := by
                unfold srcR
                rw [if_pos (show (f, q).1 < 0 from hf0), if_pos (show ownW (f, q).2 = 0 from hown)]
              have hjk : j < k0 := by
                rcases Nat.lt_or_ge j k0 with h | h
                · exact h
                · have := (HSE.out (by omega)).1
                  rw [hsome] at this
                  cases this
              have hjq : j < qs.length := by rw [HLQ.out]; exact hjk
              have HTK : Hid (qs.take (j + 1) = qs.take j ++ [q]) := by
                have := HSJ.out hjq
                rw [hsome] at this
                injection this with this
                rw [List.take_succ_eq_append_getElem hjq, ← this]
                rfl
              have HCc := copied_any q HDm.out.2 aj cj lo n₀ W4 (Nat.le_trans hn₀ (Nat.le_trans HIv.out.bel.size HB4.out.size)) (HPj.out.keep HB4.out (Nat.le_trans hn₀ HIv.out.bel.size))
              unfold pV at HCc
              obtain ⟨k1c, k2c, k3c, k4c, k5c, k6c⟩ := HCx.out W4 HB4.out
              clear hown hsome hjq hD
              go_wp2_with fail
              refine HCc.mono ?_
              clear HCc k1c k2c k3c k4c k5c k6c
              rintro e W5 ⟨ay, cy, rfl, hp5, hb5⟩
              have hbz : Below W5.heap.size W5 (W5.alloc (.cells #[.int .u8 q.kind, .bool q.yes, .bool q.neg, .string q.mag, .string q.raw, .slice ay q.items.length cy] 29)) := (Below.refl _ _).alloc (Nat.le_refl _) _
              have HBX : Hid (Blk (W5.alloc (.cells #[.int .u8 q.kind, .bool q.yes, .bool q.neg, .string q.mag, .string q.raw, .slice ay q.items.length cy] 29)) W5.heap.size 29 #[.int .u8 q.kind, .bool q.yes, .bool q.neg, .string q.mag, .string q.raw, .slice ay q.items.length cy]) := Blk.new W5 29 _
              have HPX : Hid (PIn (W5.alloc (.cells #[.int .u8 q.kind, .bool q.yes, .bool q.neg, .string q.mag, .string q.raw, .slice ay q.items.length cy] 29)) W4.heap.size (W5.alloc (.cells #[.int .u8 q.kind, .bool q.yes, .bool q.neg, .string q.mag, .string q.raw, .slice ay q.items.length cy] 29)).heap.size q ay) := (hp5.keep hbz (Nat.le_refl _)).mono hbz.size (Nat.le_refl _)
              have HEX : Hid (Below W4.heap.size W4 (W5.alloc (.cells #[.int .u8 q.kind, .bool q.yes, .bool q.neg, .string q.mag, .string q.raw, .slice ay q.items.length cy] 29))) := hb5.trans (hbz.mono hb5.size)
              obtain ⟨x0, x1, x2, x3, x4, x5⟩ := HBX.out.c6
              clear hbz hp5 hb5
              go_upto_region 22 with fail
              generalize W5.alloc (.cells #[.int .u8 q.kind, .bool q.yes, .bool q.neg, .string q.mag, .string q.raw, .slice ay q.items.length cy] 29) = wc at *
              generalize W5.heap.size = X at *
              have HIc : Hid (RmI w wc its ap il cp (qs.take j) a6 j c6) := HI4.out.old HEX.out
              have HRL : Hid (∀ k, (Value.slice a6 j c6).ownBlock = some k → k < W4.heap.size) := HI4.out.itm.row_lt
              have HLE : Hid (w.heap.size + 1 + 1 + 1 + 1 ≤ W4.heap.size) := HI4.out.le
              have HZ5 : Hid (W4.heap.size ≤ wc.heap.size) := HEX.out.size
              have HTL : Hid ((qs.take j).length = j) := by show _ = _; rw [List.length_take, HLQ.out]; omega
              have HAL : Hid ((qs.take j).length < 1024) := by have := HTL.out; show _ < _; omega
              have HL6 : Hid ((qs.take j ++ [q]).length = j + 1) := by show _ = _; rw [List.length_append, HTL.out]; rfl
              have q5 : wc.cell? ⟨w.heap.size + 1 + 1 + 1, 5, none⟩ = some (.slice a6 j c6) := HIc.out.out.cell 5
              clear HIv HPj HCv HBX HEX HI4 HB4 HCx HOW HGG HDD HDm
              go_upto_region 8 with (at_builtin; refine PItm.more HIc.out.itm HLE.out HZ5.out HRL.out HAL.out HPX.out (.tmp 93) (.tmp 95) rfl rfl rfl rfl ?_; intro v' w6 hit6 hb6; obtain ⟨a7, c7, hv6⟩ := hit6.form; rw [HL6.out] at hv6; subst hv6; have z5 : w6.cell? ⟨w.heap.size + 1 + 1 + 1, 5, none⟩ = some (.slice a6 j c6) := Blk.cell (Blk.below HIc.out.out hb6 (Nat.lt_succ_self _)) 5; have qf : w6.frozen? ⟨w.heap.size + 1 + 1 + 1, 5, none⟩ = false := Blk.frozen (Blk.below HIc.out.out hb6 (Nat.lt_succ_self _)) 5)
              have HIn : Hid (RmI w (w6.setCell ⟨w.heap.size + 1 + 1 + 1, 5, none⟩ (.slice a7 (j + 1) c7)) its ap il cp (qs.take (j + 1)) a7 (j + 1) c7) := by rw [HTK.out]; exact HIc.out.more hit6 hb6
              clear hit6 hb6 z5 qf HIc
              go_wp2
              go_roundw
              case rel => exact ⟨j + 1, a7, c7, by omega, by go_num, HIn⟩
              case measure => simp [intOf]; omega
          · have hg1 : (G == 0) = false := by rw [beq_eq_false_iff_ne]; exact hg
            have hg2 : (G != 0) = true := by simp [bne, hg1]
            have HOz := HOW.out G hg (by
              unfold ownW
              rw [HGG.out]
              cases h1 : deeper 16 q with
              | true => rfl
              | false =>
                cases h2 : may q with
                | true => rw [HGG.out, h1, h2] at hg; exact absurd rfl hg
                | false => rfl)
            have HWJ : Hid (WY = G) := HOz.2
            have HKJ : Hid (j = k0) := HOz.1
            clear HOz hg
            obtain ⟨d0, d1, d2, d3, d4, d5⟩ := HI3.out.one.c6
            have e0 : W3.cell? ⟨w.heap.size + 1 + 1, 0, none⟩ = some (.int .i64 0) := HI3.out.two.cell 0
            have e1 : W3.cell? ⟨w.heap.size + 1 + 1, 1, none⟩ = some (.int .i64 0) := HI3.out.two.cell 1
            have e2 : W3.cell? ⟨w.heap.size + 1 + 1, 2, none⟩ = some (.slice none 0 0) := HI3.out.two.cell 2
            have x0 := HI3.out.one.frozen 0
            have x1 := HI3.out.one.frozen 1
            have x2 := HI3.out.one.frozen 2
            have x3 := HI3.out.one.frozen 3
            have x4 := HI3.out.one.frozen 4
            have x5 := HI3.out.one.frozen 5
            have y0 := HI3.out.two.frozen 0
            have y1 := HI3.out.two.frozen 1
            have y2 := HI3.out.two.frozen 2
            have HPUT := map3_put (A := w.heap.size + 1) (B := w.heap.size + 1 + 1) (by omega) HI3.out.one HI3.out.two (.int .u8 0) (.bool false) (.bool false) (.string ⟨#[]⟩) (.string ⟨#[]⟩) (.slice none 0 0) (.int .i64 180) (.int .i64 (j : Int)) (.slice none 0 0)
            have HRST := map3_rest (W := W3) (A := w.heap.size + 1) (B := w.heap.size + 1 + 1) (.int .u8 0) (.bool false) (.bool false) (.string ⟨#[]⟩) (.string ⟨#[]⟩) (.slice none 0 0) (.int .i64 180) (.int .i64 (j : Int)) (.slice none 0 0)
            dsimp only at HPUT HRST
            have HPU : Hid _ := HPUT
            have HRS : Hid _ := HRST
            clear HPUT HRST
            go_wp2
            generalize (((((((((W3.setCell ⟨w.heap.size + 1, 0, none⟩ (.int .u8 0)).setCell ⟨w.heap.size + 1, 1, none⟩ (.bool false)).setCell ⟨w.heap.size + 1, 2, none⟩ (.bool false)).setCell ⟨w.heap.size + 1, 3, none⟩ (.string ⟨#[]⟩)).setCell ⟨w.heap.size + 1, 4, none⟩ (.string ⟨#[]⟩)).setCell ⟨w.heap.size + 1, 5, none⟩ (.slice none 0 0)).setCell ⟨w.heap.size + 1 + 1, 0, none⟩ (.int .i64 180)).setCell ⟨w.heap.size + 1 + 1, 1, none⟩ (.int .i64 (j : Int))).setCell ⟨w.heap.size + 1 + 1, 2, none⟩ (.slice none 0 0)) = Z at *
            obtain ⟨PA, PB, PC⟩ := HPU.out
            obtain ⟨PS, PD⟩ := HRS.out
            refine bodyPost_ret (resMap_run PA PB rfl rfl) rfl ?_
            exact ⟨PC _ w (by omega) (by omega) HI3.out.bel, .inr ⟨by have := HKJ.out; omega, by rw [HWJ.out, ← HKJ.out]; rfl⟩⟩
        · have t11 : decide ((0 : Int) ≤ f) = true := decide_eq_true (by omega)
          obtain ⟨ft, hft⟩ : ∃ ft : Nat, f = (ft : Int) := ⟨f.toNat, by omega⟩
          subst hft
          have hfi : ft < il := by omega
          have hfl2 : ft < its.length := by rw [HIL.out]; exact hfi
          have hsome : srcR its ((ft : Int), q) = some its[ft] := by
            unfold srcR
            rw [if_neg (show ¬ ((ft : Int), q).1 < 0 by show ¬ (ft : Int) < 0; omega)]
            show its[(ft : Int).toNat]? = _
            rw [Int.toNat_natCast, List.getElem?_eq_getElem hfl2]
          have hjk : j < k0 := by
            rcases Nat.lt_or_ge j k0 with h | h
            · exact h
            · have := (HSE.out (by omega)).1
              rw [hsome] at this
              cases this
          have hjq : j < qs.length := by rw [HLQ.out]; exact hjk
          have HQJ : Hid (qs[j] = its[ft]) := by
            have := HSJ.out hjq
            rw [hsome] at this
            injection this with this
            exact this.symm
          have HTK : Hid (qs.take (j + 1) = qs.take j ++ [its[ft]]) := by rw [List.take_succ_eq_append_getElem hjq, HQJ.out]; rfl
          obtain ⟨b2, off2, ax, cx, ha2, _, hb2n, hrow, hin2⟩ := (HPI.out V HIv.out.bel).at (p := tupP its) (j := ft) hfl2
          have hin2' : PIn V lo n₀ its[ft] ax := hin2
          have hrow' : Row6 V b2 (off2 + ft * 6) its[ft] ax cx := hrow
          have hcm := copied_any its[ft] (HMAY.out _ (List.getElem_mem hfl2))
          obtain ⟨y, hy⟩ : ∃ y, y = its[ft] := ⟨_, rfl⟩
          rw [← hy] at hcm hin2' hrow' HTK
          have HCM : Hid (CopOk y) := hcm
          have HPY : Hid (PIn V lo n₀ y ax) := hin2'
          have HRY : Hid (Row6 V b2 (off2 + ft * 6) y ax cx) := hrow'
          have HB2N : Hid (b2 < w.heap.size) := by show _ < _; omega
          subst ha2
          clear hin2 hrow hcm hin2' hrow' hy hsome hjq HQJ hfl2
          obtain ⟨k0c, _⟩ := HCv.out
          have hfi2 : (ft : Int) < (il : Int) := by omega
          go_upto_region 12 with fail
          clear k0c
          go_cut [9] from 48 to 57 (fun vv wx => ∃ (X : Nat) (ay : Option Addr) (cy : Nat), vv = .pointer (some ⟨X, 0, none⟩) ∧ Hid (Blk wx X 29 #[.int .u8 y.kind, .bool y.yes, .bool y.neg, .string y.mag, .string y.raw, .slice ay y.items.length cy]) ∧ Hid (PIn wx V.heap.size wx.heap.size y ay) ∧ Hid (Below V.heap.size V wx))
          case first =>
            have HF : Hid (∀ x, Below V.heap.size V x → x.cell? ⟨b, off + j * 7, none⟩ = some (.int .i64 (ft : Int)) ∧ x.cell? ⟨w.heap.size, 5, none⟩ = some (.slice (some ⟨b2, off2, none⟩) il cp) ∧ x.cell? ⟨b2, off2 + ft * 6, none⟩ = some (.int .u8 y.kind) ∧ x.cell? ⟨b2, off2 + ft * 6 + 1, none⟩ = some (.bool y.yes) ∧ x.cell? ⟨b2, off2 + ft * 6 + 2, none⟩ = some (.bool y.neg) ∧ x.cell? ⟨b2, off2 + ft * 6 + 3, none⟩ = some (.string y.mag) ∧ x.cell? ⟨b2, off2 + ft * 6 + 4, none⟩ = some (.string y.raw) ∧ x.cell? ⟨b2, off2 + ft * 6 + 5, none⟩ = some (.slice ax y.items.length cx)) := fun x hx =>
              have hsz := HIv.out.bel.size
              have h2 := HRY.out.below hx (Nat.lt_of_lt_of_le HB2N.out hsz)
              ⟨(hx.cell (p := ⟨b, _, none⟩) (Nat.lt_of_lt_of_le HBN.out hsz)).trans HCv.out.1, (HIv.out.arg.old hx).cell 5, h2.c0, h2.c1, h2.c2, h2.c3, h2.c4, h2.c5⟩
            have HC9 : Hid (∀ x, Below V.heap.size V x → Calls Tryd.prog 28 #[.agg #[.int .u8 y.kind, .bool y.yes, .bool y.neg, .string y.mag, .string y.raw, .slice ax y.items.length cx]] x fun e w' => ∃ a' c', e = .returned (.agg #[.int .u8 y.kind, .bool y.yes, .bool y.neg, .string y.mag, .string y.raw, .slice a' y.items.length c']) ∧ PIn w' x.heap.size w'.heap.size y a' ∧ Below x.heap.size x w') := fun x hx =>
              (HCM.out ax cx lo n₀ x (Nat.le_trans hn₀ (Nat.le_trans HIv.out.bel.size hx.size)) (HPY.out.keep hx (Nat.le_trans hn₀ HIv.out.bel.size))).mono fun e w' ⟨a', c', h1, h2, h3⟩ => ⟨a', c', h1, h2, h3⟩
            clear HIv HPj HCv HPY HRY HCM HTK
            refine wp_region_held_drew (S := fun x => Below V.heap.size V x) (by kernel_rfl) ((Below.refl _ _).drew) (fun hHeldd => ?_)
            refine wpAnyH_takeD (i := 0) (some 48) (v := ?vd0c1) rfl rfl (by kernel_rfl) (by kernel_rfl) (by kernel_rfl) (fun _ _ _ h => h) (Or.inl ⟨by kernel_rfl, ?hyd0c1⟩) (by assumption) ?restd0c1
            case hyd0c1 => (intro x hSx; (try dsimp only at hSx); go_simp; first | done | with_reducible rfl)
            try simp only [Act.put, List.setIfInBounds_toArray, List.set_cons_zero, List.set_cons_succ]
            refine wpAnyH_takeD (i := 1) (some 49) (v := ?vd1c2) rfl rfl (by kernel_rfl) (by kernel_rfl) (by kernel_rfl) (fun _ _ _ h => h) (Or.inl ⟨by kernel_rfl, ?hyd1c2⟩) (by assumption) ?restd1c2
            case hyd1c2 => (intro x hSx; (try dsimp only at hSx); obtain ⟨z0, z1, z2, z3, z4, z5, z6, z7⟩ := HF.out x hSx; go_simp; first | done | with_reducible rfl)
            try simp only [Act.put, List.setIfInBounds_toArray, List.set_cons_zero, List.set_cons_succ]
            refine wpAnyH_takeD (i := 2) (some 50) (v := ?vd2c3) rfl rfl (by kernel_rfl) (by kernel_rfl) (by kernel_rfl) (fun _ _ _ h => h) (Or.inl ⟨by kernel_rfl, ?hyd2c3⟩) (by assumption) ?restd2c3
            case hyd2c3 => (intro x hSx; (try dsimp only at hSx); go_simp; first | done | with_reducible rfl)
            try simp only [Act.put, List.setIfInBounds_toArray, List.set_cons_zero, List.set_cons_succ]
            refine wpAnyH_takeD (i := 3) (some 51) (v := ?vd3c4) rfl rfl (by kernel_rfl) (by kernel_rfl) (by kernel_rfl) (fun _ _ _ h => h) (Or.inl ⟨by kernel_rfl, ?hyd3c4⟩) (by assumption) ?restd3c4
            case hyd3c4 => (intro x hSx; (try dsimp only at hSx); go_simp; first | done | with_reducible rfl)
            try simp only [Act.put, List.setIfInBounds_toArray, List.set_cons_zero, List.set_cons_succ]
            refine wpAnyH_takeD (i := 4) (some 52) (v := ?vd4c5) rfl rfl (by kernel_rfl) (by kernel_rfl) (by kernel_rfl) (fun _ _ _ h => h) (Or.inl ⟨by kernel_rfl, ?hyd4c5⟩) (by assumption) ?restd4c5
            case hyd4c5 => (intro x hSx; (try dsimp only at hSx); go_simp; first | done | with_reducible rfl)
            try simp only [Act.put, List.setIfInBounds_toArray, List.set_cons_zero, List.set_cons_succ]
            refine wpAnyH_takeD (i := 5) (some 53) (v := ?vd5c6) rfl rfl (by kernel_rfl) (by kernel_rfl) (by kernel_rfl) (fun _ _ _ h => h) (Or.inl ⟨by kernel_rfl, ?hyd5c6⟩) (by assumption) ?restd5c6
            case hyd5c6 => (intro x hSx; (try dsimp only at hSx); go_simp; first | done | with_reducible rfl)
            try simp only [Act.put, List.setIfInBounds_toArray, List.set_cons_zero, List.set_cons_succ]
            refine wpAnyH_takeD (i := 6) (some 54) (v := ?vd6c7) rfl rfl (by kernel_rfl) (by kernel_rfl) (by kernel_rfl) (fun _ _ _ h => h) (Or.inl ⟨by kernel_rfl, ?hyd6c7⟩) (by assumption) ?restd6c7
            case hyd6c7 => (intro x hSx; (try dsimp only at hSx); obtain ⟨z0, z1, z2, z3, z4, z5, z6, z7⟩ := HF.out x hSx; go_simp; first | done | with_reducible rfl)
            try simp only [Act.put, List.setIfInBounds_toArray, List.set_cons_zero, List.set_cons_succ]
            refine wpAnyH_takeD (i := 7) (some 55) (v := ?vd7c8) rfl rfl (by kernel_rfl) (by kernel_rfl) (by kernel_rfl) (fun _ _ _ h => h) (Or.inl ⟨by kernel_rfl, ?hyd7c8⟩) (by assumption) ?restd7c8
            case hyd7c8 => (intro x hSx; (try dsimp only at hSx); go_simp; first | done | with_reducible rfl)
            try simp only [Act.put, List.setIfInBounds_toArray, List.set_cons_zero, List.set_cons_succ]
            refine wpAnyH_takeD (i := 8) (some 56) (v := ?vd8c9) rfl rfl (by kernel_rfl) (by kernel_rfl) (by kernel_rfl) (fun _ _ _ h => h) (Or.inl ⟨by kernel_rfl, ?hyd8c9⟩) (by assumption) ?restd8c9
            case hyd8c9 => (intro x hSx; (try dsimp only at hSx); obtain ⟨z0, z1, z2, z3, z4, z5, z6, z7⟩ := HF.out x hSx; go_simp; first | done | with_reducible rfl)
            try simp only [Act.put, List.setIfInBounds_toArray, List.set_cons_zero, List.set_cons_succ]
            refine wpAnyH_ready (rs := [9, 10]) (by kernel_rfl) (by simp) ?_
            refine AllReadyH.cons rfl (fun K hK => ?_) (AllReadyH.cons rfl (fun K hK => ?_) AllReadyH.nil)
            · skip
              go_simp
              go_wp2_with (go_at_call 28; refine (HC9.out _ hHeldd).mono ?_; rintro e y9A ⟨a9, c9, rfl, hp9, hq9⟩)
              have HP9 : Hid (PIn y9A V.heap.size y9A.heap.size y a9) := hp9
              have HB9 : Hid (Below V.heap.size V y9A) := hHeldd.trans (hq9.mono hHeldd.size)
              clear hp9 hq9
              refine hK.out _ _ HB9.out (fun hHeld9A => ?_)
              clear hK K
              try simp only [Act.put, List.setIfInBounds_toArray, List.set_cons_zero, List.set_cons_succ]
              refine wpAnyH_ready (rs := [10]) (by kernel_rfl) (by simp) ?_
              refine AllReadyH.cons rfl (fun K hK => ?_) AllReadyH.nil
              go_simp
              refine hK.out _ _ (hHeld9A.alloc hHeld9A.size _) (fun hHeld10A => ?_)
              clear hK K
              try simp only [Act.put, List.setIfInBounds_toArray, List.set_cons_zero, List.set_cons_succ]
              refine wpAnyH_ready (rs := [11]) (by kernel_rfl) (by simp) ?_
              refine AllReadyH.cons rfl (fun K hK => ?_) AllReadyH.nil
              go_simp
              have hbz : Below y9A.heap.size y9A (y9A.alloc (.cells #[.int .u8 y.kind, .bool y.yes, .bool y.neg, .string y.mag, .string y.raw, .slice a9 y.items.length c9] 29)) := (Below.refl _ _).alloc (Nat.le_refl _) _
              have HBZ : Hid (Blk (y9A.alloc (.cells #[.int .u8 y.kind, .bool y.yes, .bool y.neg, .string y.mag, .string y.raw, .slice a9 y.items.length c9] 29)) y9A.heap.size 29 #[.int .u8 y.kind, .bool y.yes, .bool y.neg, .string y.mag, .string y.raw, .slice a9 y.items.length c9]) := Blk.new y9A 29 _
              have HPZ : Hid (PIn (y9A.alloc (.cells #[.int .u8 y.kind, .bool y.yes, .bool y.neg, .string y.mag, .string y.raw, .slice a9 y.items.length c9] 29)) V.heap.size (y9A.alloc (.cells #[.int .u8 y.kind, .bool y.yes, .bool y.neg, .string y.mag, .string y.raw, .slice a9 y.items.length c9] 29)).heap.size y a9) := (HP9.out.keep hbz (Nat.le_refl _)).mono hbz.size (Nat.le_refl _)
              have HEZ : Hid (Below V.heap.size V (y9A.alloc (.cells #[.int .u8 y.kind, .bool y.yes, .bool y.neg, .string y.mag, .string y.raw, .slice a9 y.items.length c9] 29))) := HB9.out.trans (hbz.mono HB9.out.size)
              clear hbz
              refine hK.out _ _ HEZ.out (fun hHeld11A => ?_)
              clear hK K
              try simp only [Act.put, List.setIfInBounds_toArray, List.set_cons_zero, List.set_cons_succ]
              refine wpAnyH_done (by kernel_rfl) ?_ _
              go_wp2_with fail
              go_meet
              exact ⟨_, a9, c9, rfl, HBZ, HPZ, HEZ⟩
            · skip
              go_simp
              have HX10 : Hid (Blk (V.drew.alloc (.cells #[.int .u8 0, .bool false, .bool false, .string ⟨#[]⟩, .string ⟨#[]⟩, .slice none 0 0] 29)) V.heap.size 29 #[.int .u8 0, .bool false, .bool false, .string ⟨#[]⟩, .string ⟨#[]⟩, .slice none 0 0]) := Blk.new V.drew 29 _
              refine hK.out _ _ (hHeldd.alloc hHeldd.size _) (fun hHeld10B => ?_)
              clear hK K
              try simp only [Act.put, List.setIfInBounds_toArray, List.set_cons_zero, List.set_cons_succ]
              refine wpAnyH_ready (rs := [9]) (by kernel_rfl) (by simp) ?_
              refine AllReadyH.cons rfl (fun K hK => ?_) AllReadyH.nil
              go_simp
              go_wp2_with (go_at_call 28; refine (HC9.out _ hHeld10B).mono ?_; rintro e y9B ⟨a9, c9, rfl, hp9, hq9⟩)
              have HX9 : Hid (Blk y9B V.heap.size 29 #[.int .u8 0, .bool false, .bool false, .string ⟨#[]⟩, .string ⟨#[]⟩, .slice none 0 0]) := HX10.out.old hq9
              have HP9 : Hid (PIn y9B (V.heap.size + 1) y9B.heap.size y a9) := hp9.mono (Nat.le_refl _) (by show V.heap.size + 1 ≤ (V.heap.push _).size; simp)
              have HB9 : Hid (Below V.heap.size V y9B) := hHeld10B.trans (hq9.mono hHeld10B.size)
              clear hp9 hq9
              refine hK.out _ _ HB9.out (fun hHeld9B => ?_)
              clear hK K
              try simp only [Act.put, List.setIfInBounds_toArray, List.set_cons_zero, List.set_cons_succ]
              refine wpAnyH_ready (rs := [11]) (by kernel_rfl) (by simp) ?_
              refine AllReadyH.cons rfl (fun K hK => ?_) AllReadyH.nil
              obtain ⟨u0, u1, u2, u3, u4, u5⟩ := HX9.out.c6
              have uf0 := HX9.out.frozen 0
              have uf1 := HX9.out.frozen 1
              have uf2 := HX9.out.frozen 2
              have uf3 := HX9.out.frozen 3
              have uf4 := HX9.out.frozen 4
              have uf5 := HX9.out.frozen 5
              go_simp
              have HBZ : Hid (Blk ((((((y9B.setCell ⟨V.heap.size, 0, none⟩ (.int .u8 y.kind)).setCell ⟨V.heap.size, 1, none⟩ (.bool y.yes)).setCell ⟨V.heap.size, 2, none⟩ (.bool y.neg)).setCell ⟨V.heap.size, 3, none⟩ (.string y.mag)).setCell ⟨V.heap.size, 4, none⟩ (.string y.raw)).setCell ⟨V.heap.size, 5, none⟩ (.slice a9 y.items.length c9)) V.heap.size 29 #[.int .u8 y.kind, .bool y.yes, .bool y.neg, .string y.mag, .string y.raw, .slice a9 y.items.length c9]) := HX9.out.set6 _ _ _ _ _ _
              have HPZ : Hid (PIn ((((((y9B.setCell ⟨V.heap.size, 0, none⟩ (.int .u8 y.kind)).setCell ⟨V.heap.size, 1, none⟩ (.bool y.yes)).setCell ⟨V.heap.size, 2, none⟩ (.bool y.neg)).setCell ⟨V.heap.size, 3, none⟩ (.string y.mag)).setCell ⟨V.heap.size, 4, none⟩ (.string y.raw)).setCell ⟨V.heap.size, 5, none⟩ (.slice a9 y.items.length c9)) V.heap.size (((((((y9B.setCell ⟨V.heap.size, 0, none⟩ (.int .u8 y.kind)).setCell ⟨V.heap.size, 1, none⟩ (.bool y.yes)).setCell ⟨V.heap.size, 2, none⟩ (.bool y.neg)).setCell ⟨V.heap.size, 3, none⟩ (.string y.mag)).setCell ⟨V.heap.size, 4, none⟩ (.string y.raw)).setCell ⟨V.heap.size, 5, none⟩ (.slice a9 y.items.length c9))).heap.size y a9) := by
                have hsz : (((((((y9B.setCell ⟨V.heap.size, 0, none⟩ (.int .u8 y.kind)).setCell ⟨V.heap.size, 1, none⟩ (.bool y.yes)).setCell ⟨V.heap.size, 2, none⟩ (.bool y.neg)).setCell ⟨V.heap.size, 3, none⟩ (.string y.mag)).setCell ⟨V.heap.size, 4, none⟩ (.string y.raw)).setCell ⟨V.heap.size, 5, none⟩ (.slice a9 y.items.length c9))).heap.size = y9B.heap.size := by simp only [set_sizeC]
                rw [hsz]
                refine (HP9.out.keep' (fun b q1 _ => ?_)).mono (Nat.le_refl _) (by omega)
                have hb : b ≠ V.heap.size := by omega
                rw [Below.heap_setCell _ _ _ b hb, Below.heap_setCell _ _ _ b hb, Below.heap_setCell _ _ _ b hb, Below.heap_setCell _ _ _ b hb, Below.heap_setCell _ _ _ b hb, Below.heap_setCell _ _ _ b hb]
              have HEZ : Hid (Below V.heap.size V ((((((y9B.setCell ⟨V.heap.size, 0, none⟩ (.int .u8 y.kind)).setCell ⟨V.heap.size, 1, none⟩ (.bool y.yes)).setCell ⟨V.heap.size, 2, none⟩ (.bool y.neg)).setCell ⟨V.heap.size, 3, none⟩ (.string y.mag)).setCell ⟨V.heap.size, 4, none⟩ (.string y.raw)).setCell ⟨V.heap.size, 5, none⟩ (.slice a9 y.items.length c9))) := (((((HB9.out.setCell (p := ⟨V.heap.size, 0, none⟩) (Nat.le_refl _) _).setCell (p := ⟨V.heap.size, 1, none⟩) (Nat.le_refl _) _).setCell (p := ⟨V.heap.size, 2, none⟩) (Nat.le_refl _) _).setCell (p := ⟨V.heap.size, 3, none⟩) (Nat.le_refl _) _).setCell (p := ⟨V.heap.size, 4, none⟩) (Nat.le_refl _) _).setCell (p := ⟨V.heap.size, 5, none⟩) (Nat.le_refl _) _
              refine hK.out _ _ HEZ.out (fun hHeld11B => ?_)
              clear hK K
              try simp only [Act.put, List.setIfInBounds_toArray, List.set_cons_zero, List.set_cons_succ]
              refine wpAnyH_done (by kernel_rfl) ?_ _
              go_wp2_with fail
              go_meet
              exact ⟨_, a9, c9, rfl, HBZ, HPZ, HEZ⟩
          case rest =>
            obtain ⟨X, ay, cy, rfl, HBX, HPX, HEX⟩ := hcut
            have HIc : Hid (RmI w wc its (some ⟨b2, off2, none⟩) il cp (qs.take j) a6 j c6) := HIv.out.old HEX.out
            have HRL : Hid (∀ k, (Value.slice a6 j c6).ownBlock = some k → k < V.heap.size) := HIv.out.itm.row_lt
            have HLE : Hid (w.heap.size + 1 + 1 + 1 + 1 ≤ V.heap.size) := HIv.out.le
            have HZ5 : Hid (V.heap.size ≤ wc.heap.size) := HEX.out.size
            have HTL : Hid ((qs.take j).length = j) := by show _ = _; rw [List.length_take, HLQ.out]; omega
            have HAL : Hid ((qs.take j).length < 1024) := by have := HTL.out; show _ < _; omega
            have HL6 : Hid ((qs.take j ++ [y]).length = j + 1) := by show _ = _; rw [List.length_append, HTL.out]; rfl
            obtain ⟨x0, x1, x2, x3, x4, x5⟩ := HBX.out.c6
            have q5 : wc.cell? ⟨w.heap.size + 1 + 1 + 1, 5, none⟩ = some (.slice a6 j c6) := HIc.out.out.cell 5
            clear HIv HPj HCv HPY HRY HCM HBX HEX
            go_upto_region 8 with (at_builtin; refine PItm.more HIc.out.itm HLE.out HZ5.out HRL.out HAL.out HPX.out (.tmp 59) (.tmp 61) rfl rfl rfl rfl ?_; intro v' w6 hit6 hb6; obtain ⟨a7, c7, hv6⟩ := hit6.form; rw [HL6.out] at hv6; subst hv6; have z5 : w6.cell? ⟨w.heap.size + 1 + 1 + 1, 5, none⟩ = some (.slice a6 j c6) := Blk.cell (Blk.below HIc.out.out hb6 (Nat.lt_succ_self _)) 5; have qf : w6.frozen? ⟨w.heap.size + 1 + 1 + 1, 5, none⟩ = false := Blk.frozen (Blk.below HIc.out.out hb6 (Nat.lt_succ_self _)) 5)
            have HIn : Hid (RmI w (w6.setCell ⟨w.heap.size + 1 + 1 + 1, 5, none⟩ (.slice a7 (j + 1) c7)) its (some ⟨b2, off2, none⟩) il cp (qs.take (j + 1)) a7 (j + 1) c7) := by rw [HTK.out]; exact HIc.out.more hit6 hb6
            clear hit6 hb6 z5 qf HIc
            go_wp2
            go_roundw
            case rel => exact ⟨j + 1, a7, c7, by omega, by go_num, HIn⟩
            case measure => simp [intOf]; omega
    · obtain rfl : j = k0 := by omega
      obtain rfl : j = n := by omega
      have tl : decide ((j : Int) < (j : Int)) = false := decide_eq_false (by omega)
      obtain ⟨o0, o1, o2, o3, o4, o5⟩ := HI.out.out.c6
      obtain ⟨d0, d1, d2, d3, d4, d5⟩ := HI.out.one.c6
      have e0 : wr.cell? ⟨w.heap.size + 1 + 1, 0, none⟩ = some (.int .i64 0) := HI.out.two.cell 0
      have e1 : wr.cell? ⟨w.heap.size + 1 + 1, 1, none⟩ = some (.int .i64 0) := HI.out.two.cell 1
      have e2 : wr.cell? ⟨w.heap.size + 1 + 1, 2, none⟩ = some (.slice none 0 0) := HI.out.two.cell 2
      have x0 := HI.out.one.frozen 0
      have x1 := HI.out.one.frozen 1
      have x2 := HI.out.one.frozen 2
      have x3 := HI.out.one.frozen 3
      have x4 := HI.out.one.frozen 4
      have x5 := HI.out.one.frozen 5
      have y0 := HI.out.two.frozen 0
      have y1 := HI.out.two.frozen 1
      have y2 := HI.out.two.frozen 2
      have HPUT := map3_put (A := w.heap.size + 1) (B := w.heap.size + 1 + 1) (by omega) HI.out.one HI.out.two (.int .u8 7) (.bool false) (.bool false) (.string ⟨#[]⟩) (.string ⟨#[]⟩) (.slice a6 j c6) (.int .i64 0) (.int .i64 0) (.slice none 0 0)
      have HRST := map3_rest (W := wr) (A := w.heap.size + 1) (B := w.heap.size + 1 + 1) (.int .u8 7) (.bool false) (.bool false) (.string ⟨#[]⟩) (.string ⟨#[]⟩) (.slice a6 j c6) (.int .i64 0) (.int .i64 0) (.slice none 0 0)
      dsimp only at HPUT HRST
      have HPU : Hid _ := HPUT
      have HRS : Hid _ := HRST
      clear HPUT HRST
      go_wp2
      generalize (((((((((wr.setCell ⟨w.heap.size + 1, 0, none⟩ (.int .u8 7)).setCell ⟨w.heap.size + 1, 1, none⟩ (.bool false)).setCell ⟨w.heap.size + 1, 2, none⟩ (.bool false)).setCell ⟨w.heap.size + 1, 3, none⟩ (.string ⟨#[]⟩)).setCell ⟨w.heap.size + 1, 4, none⟩ (.string ⟨#[]⟩)).setCell ⟨w.heap.size + 1, 5, none⟩ (.slice a6 j c6)).setCell ⟨w.heap.size + 1 + 1, 0, none⟩ (.int .i64 0)).setCell ⟨w.heap.size + 1 + 1, 1, none⟩ (.int .i64 0)).setCell ⟨w.heap.size + 1 + 1, 2, none⟩ (.slice none 0 0)) = Z at *
      obtain ⟨PA, PB, PC⟩ := HPU.out
      obtain ⟨PS, PD⟩ := HRS.out
      refine bodyPost_ret (resMap_run PA PB rfl rfl) rfl ?_
      have itz : PItm (w.heap.size + 1 + 1 + 1 + 1) Z (.slice a6 j c6) (qs.take j) := HI.out.itm.keep (fun b q1 _ => PD b (by omega) (by omega)) (by rw [PS]; exact Nat.le_refl _)
      rw [List.take_of_length_le (by rw [HLQ.out]; exact Nat.le_refl _)] at itz
      exact ⟨PC _ w (by omega) (by omega) HI.out.bel, .inl ⟨rfl, a6, c6, rfl, itz.pin.mono (Nat.le_refl _) (by omega)⟩⟩
end Go.Proofs.YtnjfkijekohdkaaDoor

namespace Go.Proofs.YtnjfkijekohdkaaDoor
open Go.RowKit Go.Vf

set_option maxHeartbeats 8000000 in
set_option maxRecDepth 20000 in
theorem rmap_kind (p : Prt) (sa : Option Addr) (n sc : Nat) (a : Option Addr) (ln c : Nat) (w : World) (hk7 : p.kind ≠ 7) :
    Calls Tryd.prog 11 #[.slice sa n sc, .agg #[.int .u8 p.kind, .bool p.yes, .bool p.neg, .string p.mag, .string p.raw, .slice a ln c]] w fun e w' => Below w.heap.size w w' ∧ e = .returned (.tuple #[.agg #[.int .u8 0, .bool false, .bool false, .string ⟨#[]⟩, .string ⟨#[]⟩, .slice none 0 0], .agg #[.int .i64 4, .int .i64 0, .slice none 0 0], .int .i64 0]) := by
  have HI : Hid (Map3 w (((w.alloc (.cells #[.int .u8 p.kind, .bool p.yes, .bool p.neg, .string p.mag, .string p.raw, .slice a ln c] 29)).alloc (.cells #[.int .u8 0, .bool false, .bool false, .string ⟨#[]⟩, .string ⟨#[]⟩, .slice none 0 0] 29)).alloc (.cells #[.int .i64 0, .int .i64 0, .slice none 0 0] 40)) p a ln c) := Map3.mk' w p a ln c
  go_enter Tryd.func11, Tryd.ntmps11
  go_upto_region 1 with fail
  generalize ((w.alloc (.cells #[.int .u8 p.kind, .bool p.yes, .bool p.neg, .string p.mag, .string p.raw, .slice a ln c] 29)).alloc (.cells #[.int .u8 0, .bool false, .bool false, .string ⟨#[]⟩, .string ⟨#[]⟩, .slice none 0 0] 29)).alloc (.cells #[.int .i64 0, .int .i64 0, .slice none 0 0] 40) = W at *
  have k0 := HI.out.arg.cell 0
  have k0' : W.cell? ⟨w.heap.size, 0, none⟩ = some (.int .u8 p.kind) := k0
  clear k0
  obtain ⟨k, hk⟩ : ∃ k, k = p.kind := ⟨_, rfl⟩
  have kn : (k != 7) = true := by simp [bne, hk, hk7]
  rw [← hk] at k0'
  clear hk hk7
  obtain ⟨d0, d1, d2, d3, d4, d5⟩ := HI.out.one.c6
  have e0 : W.cell? ⟨w.heap.size + 1 + 1, 0, none⟩ = some (.int .i64 0) := HI.out.two.cell 0
  have e1 : W.cell? ⟨w.heap.size + 1 + 1, 1, none⟩ = some (.int .i64 0) := HI.out.two.cell 1
  have e2 : W.cell? ⟨w.heap.size + 1 + 1, 2, none⟩ = some (.slice none 0 0) := HI.out.two.cell 2
  have x0 := HI.out.one.frozen 0
  have x1 := HI.out.one.frozen 1
  have x2 := HI.out.one.frozen 2
  have x3 := HI.out.one.frozen 3
  have x4 := HI.out.one.frozen 4
  have x5 := HI.out.one.frozen 5
  have y0 := HI.out.two.frozen 0
  have y1 := HI.out.two.frozen 1
  have y2 := HI.out.two.frozen 2
  have HPUT := map3_put (A := w.heap.size + 1) (B := w.heap.size + 1 + 1) (by omega) HI.out.one HI.out.two (.int .u8 0) (.bool false) (.bool false) (.string ⟨#[]⟩) (.string ⟨#[]⟩) (.slice none 0 0) (.int .i64 4) (.int .i64 0) (.slice none 0 0)
  have HRST := map3_rest (W := W) (A := w.heap.size + 1) (B := w.heap.size + 1 + 1) (.int .u8 0) (.bool false) (.bool false) (.string ⟨#[]⟩) (.string ⟨#[]⟩) (.slice none 0 0) (.int .i64 4) (.int .i64 0) (.slice none 0 0)
  dsimp only at HPUT HRST
  have HPU : Hid _ := HPUT
  have HRS : Hid _ := HRST
  clear HPUT HRST
  go_wp2
  generalize (((((((((W.setCell ⟨w.heap.size + 1, 0, none⟩ (.int .u8 0)).setCell ⟨w.heap.size + 1, 1, none⟩ (.bool false)).setCell ⟨w.heap.size + 1, 2, none⟩ (.bool false)).setCell ⟨w.heap.size + 1, 3, none⟩ (.string ⟨#[]⟩)).setCell ⟨w.heap.size + 1, 4, none⟩ (.string ⟨#[]⟩)).setCell ⟨w.heap.size + 1, 5, none⟩ (.slice none 0 0)).setCell ⟨w.heap.size + 1 + 1, 0, none⟩ (.int .i64 4)).setCell ⟨w.heap.size + 1 + 1, 1, none⟩ (.int .i64 0)).setCell ⟨w.heap.size + 1 + 1, 2, none⟩ (.slice none 0 0)) = Z at *
  obtain ⟨PA, PB, PC⟩ := HPU.out
  obtain ⟨PS, PD⟩ := HRS.out
  refine bodyPost_ret (resMap_run PA PB rfl rfl) rfl ?_
  exact ⟨PC _ w (by omega) (by omega) HI.out.bel, rfl⟩
set_option maxHeartbeats 8000000 in
set_option maxRecDepth 20000 in
theorem rmap_many (p : Prt) (sa : Option Addr) (n sc : Nat) (a : Option Addr) (ln c : Nat) (w : World) (hk7 : p.kind = 7) (hn : 1024 < n) :
    Calls Tryd.prog 11 #[.slice sa n sc, .agg #[.int .u8 p.kind, .bool p.yes, .bool p.neg, .string p.mag, .string p.raw, .slice a ln c]] w fun e w' => Below w.heap.size w w' ∧ e = .returned (.tuple #[.agg #[.int .u8 0, .bool false, .bool false, .string ⟨#[]⟩, .string ⟨#[]⟩, .slice none 0 0], .agg #[.int .i64 180, .int .i64 1024, .slice none 0 0], .int .i64 0]) := by
  have HK7 : Hid (p.kind = 7) := hk7
  clear hk7
  have HI : Hid (Map3 w (((w.alloc (.cells #[.int .u8 p.kind, .bool p.yes, .bool p.neg, .string p.mag, .string p.raw, .slice a ln c] 29)).alloc (.cells #[.int .u8 0, .bool false, .bool false, .string ⟨#[]⟩, .string ⟨#[]⟩, .slice none 0 0] 29)).alloc (.cells #[.int .i64 0, .int .i64 0, .slice none 0 0] 40)) p a ln c) := Map3.mk' w p a ln c
  go_enter Tryd.func11, Tryd.ntmps11
  go_upto_region 1 with fail
  generalize ((w.alloc (.cells #[.int .u8 p.kind, .bool p.yes, .bool p.neg, .string p.mag, .string p.raw, .slice a ln c] 29)).alloc (.cells #[.int .u8 0, .bool false, .bool false, .string ⟨#[]⟩, .string ⟨#[]⟩, .slice none 0 0] 29)).alloc (.cells #[.int .i64 0, .int .i64 0, .slice none 0 0] 40) = W at *
  have k0 := HI.out.arg.cell 0
  have k0' : W.cell? ⟨w.heap.size, 0, none⟩ = some (.int .u8 p.kind) := k0
  clear k0
  obtain ⟨k, hk⟩ : ∃ k, k = p.kind := ⟨_, rfl⟩
  rw [HK7.out] at k0'
  have t1 : decide ((1024 : Int) < (n : Int)) = true := decide_eq_true (by omega)
  have t2 : decide (1024 < n) = true := decide_eq_true hn
  clear hk k
  obtain ⟨d0, d1, d2, d3, d4, d5⟩ := HI.out.one.c6
  have e0 : W.cell? ⟨w.heap.size + 1 + 1, 0, none⟩ = some (.int .i64 0) := HI.out.two.cell 0
  have e1 : W.cell? ⟨w.heap.size + 1 + 1, 1, none⟩ = some (.int .i64 0) := HI.out.two.cell 1
  have e2 : W.cell? ⟨w.heap.size + 1 + 1, 2, none⟩ = some (.slice none 0 0) := HI.out.two.cell 2
  have x0 := HI.out.one.frozen 0
  have x1 := HI.out.one.frozen 1
  have x2 := HI.out.one.frozen 2
  have x3 := HI.out.one.frozen 3
  have x4 := HI.out.one.frozen 4
  have x5 := HI.out.one.frozen 5
  have y0 := HI.out.two.frozen 0
  have y1 := HI.out.two.frozen 1
  have y2 := HI.out.two.frozen 2
  have HPUT := map3_put (A := w.heap.size + 1) (B := w.heap.size + 1 + 1) (by omega) HI.out.one HI.out.two (.int .u8 0) (.bool false) (.bool false) (.string ⟨#[]⟩) (.string ⟨#[]⟩) (.slice none 0 0) (.int .i64 180) (.int .i64 1024) (.slice none 0 0)
  have HRST := map3_rest (W := W) (A := w.heap.size + 1) (B := w.heap.size + 1 + 1) (.int .u8 0) (.bool false) (.bool false) (.string ⟨#[]⟩) (.string ⟨#[]⟩) (.slice none 0 0) (.int .i64 180) (.int .i64 1024) (.slice none 0 0)
  dsimp only at HPUT HRST
  have HPU : Hid _ := HPUT
  have HRS : Hid _ := HRST
  clear HPUT HRST
  go_wp2
  generalize (((((((((W.setCell ⟨w.heap.size + 1, 0, none⟩ (.int .u8 0)).setCell ⟨w.heap.size + 1, 1, none⟩ (.bool false)).setCell ⟨w.heap.size + 1, 2, none⟩ (.bool false)).setCell ⟨w.heap.size + 1, 3, none⟩ (.string ⟨#[]⟩)).setCell ⟨w.heap.size + 1, 4, none⟩ (.string ⟨#[]⟩)).setCell ⟨w.heap.size + 1, 5, none⟩ (.slice none 0 0)).setCell ⟨w.heap.size + 1 + 1, 0, none⟩ (.int .i64 180)).setCell ⟨w.heap.size + 1 + 1, 1, none⟩ (.int .i64 1024)).setCell ⟨w.heap.size + 1 + 1, 2, none⟩ (.slice none 0 0)) = Z at *
  obtain ⟨PA, PB, PC⟩ := HPU.out
  obtain ⟨PS, PD⟩ := HRS.out
  refine bodyPost_ret (resMap_run PA PB rfl rfl) rfl ?_
  exact ⟨PC _ w (by omega) (by omega) HI.out.bel, rfl⟩
end Go.Proofs.YtnjfkijekohdkaaDoor
