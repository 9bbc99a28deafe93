/- What the reader's readMark does (a contract; nothing is claimed here). -/
import Derived.Test.YtkcnjnccdafbfaaGreatDoorJ3
import Derived.Deep.RegionHeldLaw
import Derived.Deep.AppendLies
import Derived.Deep.CutRange
namespace Go.Proofs.YtkcnjnccdafbfaaGreatDoor
open Go.RowKit Go.Vf Go.Maps
theorem info85 : (Tryz.prog.info? 151).map (fun i => (i.zero, i.size, i.bytes)) = some (some (.agg #[.int .i64 0, .int .i64 0]), 2, 16) := by kernel_rfl
abbrev markV (c : Int) (p e : Value) : Value := .agg #[.int .i64 c, p, e]
abbrev zeroM : Value := markV 0 (.slice none 0 0) (.slice none 0 0)
theorem zero77 (w : World) : (zeroValue 114).run Tryz.prog w = .ok zeroM w := by kernel_rfl
def placesC (L : List Mk) : List Value := L.flatMap fun m => [.int .i64 m.point, .int .i64 m.line]
structure RD (w : World) (base b bm : Nat) (line : Int) (vp : Value) (pv : Int → Value) (L : List Mk) : Prop where
 blk : w.heap[b]? = some (.cells #[.int .i64 line, .map (some bm), vp] 122 (0, 0))
 bge : base ≤ b
 mge : base ≤ bm
 mp : MapAt w bm L.length (fun p => (markAt L p).map fun m => markV m.cls (pv p) (.slice none 0 0))
 parts : ∀ m ∈ L, IOwn w base (pv m.point) m.parts
 places : w.ownsRow base 151 2 vp L.length (placesC L)
theorem RD.c0 {w : World} {base b bm : Nat} {line : Int} {vp : Value} {pv : Int → Value} {L : List Mk} (h : RD w base b bm line vp pv L) : w.cell? ⟨b, 0, none⟩ = some (.int .i64 line) := by simp [World.cell?, h.blk]
theorem RD.c1 {w : World} {base b bm : Nat} {line : Int} {vp : Value} {pv : Int → Value} {L : List Mk} (h : RD w base b bm line vp pv L) : w.cell? ⟨b, 1, none⟩ = some (.map (some bm)) := by simp [World.cell?, h.blk]
theorem RD.c2 {w : World} {base b bm : Nat} {line : Int} {vp : Value} {pv : Int → Value} {L : List Mk} (h : RD w base b bm line vp pv L) : w.cell? ⟨b, 2, none⟩ = some vp := by simp [World.cell?, h.blk]
theorem RD.fz {w : World} {base b bm : Nat} {line : Int} {vp : Value} {pv : Int → Value} {L : List Mk} (h : RD w base b bm line vp pv L) (j : Nat) : w.frozen? ⟨b, j, none⟩ = false := by simp [World.frozen?, h.blk]
theorem RD.below {w w' : World} {base b bm : Nat} {line : Int} {vp : Value} {pv : Int → Value} {L : List Mk} (h : RD w base b bm line vp pv L) (hb : Below w.heap.size w w') : RD w' base b bm line vp pv L :=
 ⟨(hb.block b (Array.getElem?_eq_some_iff.1 h.blk).1).trans h.blk, h.bge, h.mge, h.mp.below hb h.mp.lt, fun m hm => own_after (h.parts m hm) hb, own_after h.places hb⟩
def MarkPost (base b bm : Nat) (line : Int) (L : List Mk) (s : List UInt8) (w : World) (e : Ending) (w' : World) : Prop :=
 Below base w w' ∧
 match markR s with
 | none => e = lostE 40 line
 | some (p, k, l) =>
  if L.any (fun m => m.point == p) then e = lostE 41 line
  else if 4096 ≤ L.length then e = lostE 2 line
  else e = .returned (.tuple #[]) ∧ (∃ vp pv, RD w' base b bm line vp pv (L ++ [⟨line, p, k, l⟩])) ∧ ∀ j cs, Blk w j 9 cs → Blk w' j 9 cs
theorem pointR_in {s : List UInt8} {p : Int} (h : pointR s = some p) : InI p ∧ mayB p = true := by
 unfold pointR at h
 split at h
 ·
  split at h
  ·
   cases h
  ·
   split at h
   ·
    rename_i hm
    simp only [Option.some.injEq] at h; subst h
    refine ⟨?_, hm⟩
    simp [mayB] at hm
    unfold InI; omega
   ·
    cases h
 ·
  cases h
theorem below_call {W x y : World} {A : Prop} (h : A ∧ Below W.heap.size W x) (h2 : Below x.heap.size x y) : Below W.heap.size x y := h2.mono h.2.size
theorem below_new {W x : World} {A : Prop} {o : Obj} (h : A ∧ Below W.heap.size W x) : Below W.heap.size x (x.alloc o) := (Below.refl _ _).alloc h.2.size _
theorem below_swap {B : Nat} {x : World} {o o' : Obj} (h : B ≤ x.heap.size) : Below B (x.alloc o) (x.alloc o') :=
 ⟨rfl, rfl, rfl, by simp, fun k hk => (Below.heap_alloc x o' k (by omega)).trans (Below.heap_alloc x o k (by omega)).symm⟩
theorem below_swapD {B : Nat} {x : World} {o o' : Obj} (h : B ≤ x.heap.size) : Below B (x.alloc o).drew (x.alloc o').drew := below_swap (x := x.drew) h
theorem below_set3 {B b : Nat} {x : World} {v0 v1 v2 : Value} (h : B ≤ b) : Below B x (((x.setCell ⟨b, 0, none⟩ v0).setCell ⟨b, 1, none⟩ v1).setCell ⟨b, 2, none⟩ v2) :=
 (((Below.refl B x).setCell (p := ⟨b, 0, none⟩) h _).setCell (p := ⟨b, 1, none⟩) h _).setCell (p := ⟨b, 2, none⟩) h _
theorem blk_after {W w3 : World} {t : TypeId} {cs : Array Value} (h : Below (W.alloc (.cells cs t)).drew.heap.size (W.alloc (.cells cs t)).drew w3) : Blk w3 W.heap.size t cs :=
 (h.block W.heap.size (by simp)).trans (Blk.new W t cs)
theorem three_of {w : World} {b : Nat} {t : TypeId} {c0 c1 c2 : Value} (h : Blk w b t #[c0, c1, c2]) : (w.cell? ⟨b, 0, none⟩ = some c0 ∧ w.cell? ⟨b, 1, none⟩ = some c1 ∧ w.cell? ⟨b, 2, none⟩ = some c2) ∧ w.frozen? ⟨b, 0, none⟩ = false ∧ w.frozen? ⟨b, 1, none⟩ = false ∧ w.frozen? ⟨b, 2, none⟩ = false :=
 ⟨⟨h.cell 0, h.cell 1, h.cell 2⟩, h.frozen 0, h.frozen 1, h.frozen 2⟩
theorem own_setCell {w : World} {base : Nat} {e : TypeId} {size : Nat} {v : Value} {k : Nat} {xs : List Value} (h : w.ownsRow base e size v k xs) {p : Addr} (hp : p.block < base) (x : Value) : (w.setCell p x).ownsRow base e size v k xs := by
 refine ⟨h.1, ?_⟩
 rcases h.2 with hn | ⟨g, cap, cur, rfl, hb, hg, rest⟩
 ·
  exact .inl hn
 ·
  exact .inr ⟨g, cap, cur, rfl, hb, (Below.heap_setCell w p x g (by omega)).trans hg, rest⟩
theorem row_val {w : World} {base : Nat} {e : TypeId} {size : Nat} {v : Value} {k : Nat} {xs : List Value} (h : w.ownsRow base e size v k xs) : ∃ a cap, v = .slice a k cap := by
 rcases h.2 with ⟨rfl, rfl⟩ | ⟨g, cap, cur, rfl, _⟩
 ·
  exact ⟨_, _, rfl⟩
 ·
  exact ⟨_, _, rfl⟩
theorem markAt_any {L : List Mk} {p : Int} (h : L.any (fun m => m.point == p) = true) : ∃ m ∈ L, m.point = p ∧ markAt L p = some m := by
 unfold markAt
 cases hf : L.find? (fun m => m.point == p) with
 | none =>
  obtain ⟨m, hm, hp⟩ := List.any_eq_true.1 h
  have := List.find?_eq_none.1 hf m hm
  exact absurd hp this
 | some m => exact ⟨m, List.mem_of_find?_eq_some hf, by simpa using List.find?_some hf, rfl⟩
theorem markAt_none {L : List Mk} {p : Int} (h : L.any (fun m => m.point == p) = false) : markAt L p = none := by
 unfold markAt
 rw [List.find?_eq_none]
 intro m hm e
 rw [List.any_eq_false] at h
 exact h m hm e
theorem markAt_snoc (L : List Mk) (m : Mk) (h : markAt L m.point = none) (x : Int) : markAt (L ++ [m]) x = if x = m.point then some m else markAt L x := by
 unfold markAt at h ⊢
 rw [List.find?_append]
 by_cases e : x = m.point
 ·
  subst e
  rw [h, if_pos rfl]
  simp
 ·
  rw [if_neg e]
  have : (m.point == x) = false := by simp; exact fun e' => e e'.symm
  simp [this]
theorem map_ne_blk {w : World} {b bm n : Nat} {f : Int → Option Value} {t : TypeId} {cs : Array Value} {fr : Nat × Nat} (h : w.heap[b]? = some (.cells cs t fr)) (hm : MapAt w bm n f) : b ≠ bm := by
 rintro rfl
 obtain ⟨D, ⟨es, clock, hb, _⟩, _⟩ := hm
 rw [hb] at h
 cases h
theorem own_kept_map {w w' : World} {base : Nat} {e : TypeId} {size : Nat} {v : Value} {k : Nat} {xs : List Value} {bm n : Nat} {f : Int → Option Value} (h : w.ownsRow base e size v k xs) (hm : MapAt w bm n f) (hg : w.grownBy w' (some bm)) : w'.ownsRow base e size v k xs := by
 refine World.ownsRow.kept h hg ?_
 cases hv : v.ownBlock with
 | none => exact .inl rfl
 | some j =>
  obtain ⟨_, cs, fr, hj⟩ := own_ge h hv
  exact .inr (fun e => map_ne_blk hj hm (by simpa using e))
theorem own_ne_blk {w : World} {base : Nat} {e t : TypeId} {size k b : Nat} {v : Value} {xs : List Value} {cs : Array Value} (h : w.ownsRow base e size v k xs) (hb : Blk w b t cs) (hne : e ≠ t) : some b ≠ v.ownBlock := fun hv => by
 obtain ⟨_, c1, f1, g1⟩ := own_ge h hv.symm
 rw [show w.heap[b]? = _ from hb] at g1
 simp only [Option.some.injEq, Obj.cells.injEq] at g1
 exact hne g1.2.1.symm
theorem own_kept_row {w w' : World} {b1 b2 : Nat} {e1 e2 : TypeId} {s1 s2 k1 k2 : Nat} {v1 v2 : Value} {x1 x2 : List Value} (h1 : w.ownsRow b1 e1 s1 v1 k1 x1) (h2 : w.ownsRow b2 e2 s2 v2 k2 x2) (hne : e1 ≠ e2) (hg : w.grownBy w' v2.ownBlock) : w'.ownsRow b1 e1 s1 v1 k1 x1 := by
 refine World.ownsRow.kept h1 hg ?_
 cases hv : v1.ownBlock with
 | none => exact .inl rfl
 | some j =>
  refine .inr (fun e => ?_)
  obtain ⟨_, c1, f1, g1⟩ := own_ge h1 hv
  obtain ⟨_, c2, f2, g2⟩ := own_ge h2 e.symm
  rw [g1] at g2
  simp only [Option.some.injEq, Obj.cells.injEq] at g2
  exact hne g2.2.1
theorem placesC_snoc (L : List Mk) (m : Mk) : placesC (L ++ [m]) = placesC L ++ [.int .i64 m.point, .int .i64 m.line] := by simp [placesC]
theorem map_kept_row {w w' : World} {base : Nat} {e : TypeId} {size : Nat} {v : Value} {k : Nat} {xs : List Value} {bm n : Nat} {f : Int → Option Value} (h : w.ownsRow base e size v k xs) (hm : MapAt w bm n f) (hg : w.grownBy w' v.ownBlock) : MapAt w' bm n f :=
 hm.kept hg (fun hv => by
  obtain ⟨_, cs, fr, hj⟩ := own_ge h hv.symm
  exact map_ne_blk hj hm rfl)
theorem RD.grow {w w7 : World} {base b bm : Nat} {line : Int} {av : Option Addr} {cv : Nat} {pv : Int → Value} {L : List Mk} {p k : Int} {l : List Int} {pl : Value} {g cap : Nat} {f : Int → Option Value} {o : Obj}
  (hblk : Blk w b 122 #[.int .i64 line, .map (some bm), .slice av L.length cv]) (hbge : base ≤ b) (hmge : base ≤ bm) (hbase : base ≤ w.heap.size)
  (hmp : MapAt w bm (L.length + 1) f) (hf : f = updO (fun p => (markAt L p).map fun m => markV m.cls (pv p) (.slice none 0 0)) p (markV k pl (.slice none 0 0))) (hma : markAt L p = none)
  (hparts : ∀ m ∈ L, IOwn w base (pv m.point) m.parts) (hpl : IOwn w base pl l) (hplaces : w.ownsRow base 151 2 (.slice av L.length cv) L.length (placesC L))
  (h7 : w7.ownsRow base 151 2 (.slice (some ⟨g, 0, none⟩) (L.length + 1) cap) (L.length + 1) (placesC L ++ [.int .i64 p, .int .i64 line])) (hg7 : (w.alloc o).grownBy w7 (Value.slice av L.length cv).ownBlock) :
  Blk w7 b 122 #[.int .i64 line, .map (some bm), .slice av L.length cv] ∧
  (∃ vp pv', RD (w7.setCell ⟨b, 2, none⟩ (.slice (some ⟨g, 0, none⟩) (L.length + 1) cap)) base b bm line vp pv' (L ++ [⟨line, p, k, l⟩])) ∧ Below base w (w7.setCell ⟨b, 2, none⟩ (.slice (some ⟨g, 0, none⟩) (L.length + 1) cap)) ∧ ∀ j cs, Blk w j 9 cs → Blk (w7.setCell ⟨b, 2, none⟩ (.slice (some ⟨g, 0, none⟩) (L.length + 1) cap)) j 9 cs := by
 have hpa := World.ownsRow.alloc hplaces o
 have hba : Blk (w.alloc o) b 122 #[.int .i64 line, .map (some bm), .slice av L.length cv] := (Below.heap_alloc w o b hblk.lt).trans hblk
 have hne : some b ≠ (Value.slice av L.length cv).ownBlock := own_ne_blk hpa hba (by decide)
 have hb7 : Blk w7 b 122 #[.int .i64 line, .map (some bm), .slice av L.length cv] := (hg7.block b hba.lt hne).trans hba
 have hset := hb7.set 2 (.slice (some ⟨g, 0, none⟩) (L.length + 1) cap)
 have keep3 : ∀ {v : Value} {zs : List Int}, IOwn w base v zs → IOwn (w7.setCell ⟨b, 2, none⟩ (.slice (some ⟨g, 0, none⟩) (L.length + 1) cap)) base v zs := fun {v zs} h => by
  have h1 := own_kept_row (World.ownsRow.alloc h o) hpa (by decide) hg7
  exact ownsRow_setCell_other h1 (a := ⟨b, 2, none⟩) (fun e => own_ne_blk h1 hb7 (by decide) e.symm) _
 have hmp7 : MapAt w7 bm (L.length + 1) f := map_kept_row hpa (hmp.alloc o) hg7
 refine ⟨hb7, ⟨.slice (some ⟨g, 0, none⟩) (L.length + 1) cap, fun x => if x = p then pl else pv x, ?_⟩, ?_, ?_⟩
 ·
  refine ⟨by simpa [Blk] using hset, hbge, hmge, ?_, ?_, ?_⟩
  ·
   have h1 := hmp7.setCell (a := ⟨b, 2, none⟩) (fun e => map_ne_blk hb7 hmp7 e.symm) (.slice (some ⟨g, 0, none⟩) (L.length + 1) cap)
   have e : f = fun x => (markAt (L ++ [⟨line, p, k, l⟩]) x).map fun m => markV m.cls (if x = p then pl else pv x) (.slice none 0 0) := by
    funext x
    rw [hf, markAt_snoc L ⟨line, p, k, l⟩ hma]
    simp only [updO]
    by_cases hx : x = p
    ·
     simp [hx]
    ·
     simp [hx]
   rw [List.length_append]
   rw [e] at h1
   exact h1
  ·
   intro m hm
   rcases List.mem_append.1 hm with hm | hm
   ·
    have hmp' : m.point ≠ p := fun e => by
     have := List.find?_eq_none.1 hma m hm
     simp [e] at this
    simp only [hmp', if_false]
    exact keep3 (hparts m hm)
   ·
    simp at hm; subst hm
    simp only [if_true]
    exact keep3 hpl
  ·
   rw [placesC_snoc, List.length_append]
   exact ownsRow_setCell_other h7 (a := ⟨b, 2, none⟩) (fun e => own_ne_blk h7 hb7 (by decide) e.symm) _
 ·
  have h1 : Below base w w7 := ((Below.refl base w).alloc hbase o).grown hg7 (by simp; omega) (fun j hj => (own_ge hpa hj).1)
  exact h1.setCell (p := ⟨b, 2, none⟩) hbge _
 ·
  intro j cs hj
  have hja : Blk (w.alloc o) j 9 cs := (Below.heap_alloc w o j hj.lt).trans hj
  have hj7 : Blk w7 j 9 cs := (hg7.block j hja.lt (own_ne_blk hpa hja (by decide))).trans hja
  refine (Below.heap_setCell w7 ⟨b, 2, none⟩ _ j ?_).trans hj7
  rintro rfl
  have e1 := (show w7.heap[j]? = _ from hj7).symm.trans hb7
  simp only [Option.some.injEq, Obj.cells.injEq] at e1
  exact absurd e1.2.1 (by decide)
def MarkVar (W : World) (k : Int) (l : List Int) (v : Value) (wx : World) : Prop :=
 ∃ bM a3 n3 c3, v = .pointer (some ⟨bM, 0, none⟩) ∧ W.heap.size ≤ bM ∧ Blk wx bM 114 #[.int .i64 k, .slice a3 n3 c3, .slice none 0 0] ∧ IOwn wx W.heap.size (.slice a3 n3 c3) l ∧ Below W.heap.size W wx
theorem markVar_new {W w3 : World} {k : Int} {l : List Int} {a3 : Option Addr} {n3 c3 B : Nat} {A : Prop} (h : IOwn w3 B (.slice a3 n3 c3) l) (hB : W.heap.size ≤ B) (hs : W.heap.size ≤ w3.heap.size)
  (hS : A ∧ Below W.heap.size W (w3.alloc (.cells #[.int .i64 k, .slice a3 n3 c3, .slice none 0 0] 114))) : MarkVar W k l (.pointer (some ⟨w3.heap.size, 0, none⟩)) (w3.alloc (.cells #[.int .i64 k, .slice a3 n3 c3, .slice none 0 0] 114)) :=
 ⟨_, a3, n3, c3, rfl, hs, Blk.new _ _ _, (World.ownsRow.alloc (h.mono hB) _), hS.2⟩
theorem markVar_set {W w3 : World} {k : Int} {l : List Int} {a3 : Option Addr} {n3 c3 B : Nat} {A : Prop} {z0 z1 z2 : Value} (h : IOwn w3 B (.slice a3 n3 c3) l) (hB : W.heap.size < B) (hq : Blk w3 W.heap.size 114 #[z0, z1, z2])
  (hS : A ∧ Below W.heap.size W (((w3.setCell ⟨W.heap.size, 0, none⟩ (.int .i64 k)).setCell ⟨W.heap.size, 1, none⟩ (.slice a3 n3 c3)).setCell ⟨W.heap.size, 2, none⟩ (.slice none 0 0))) :
  MarkVar W k l (.pointer (some ⟨W.heap.size, 0, none⟩)) (((w3.setCell ⟨W.heap.size, 0, none⟩ (.int .i64 k)).setCell ⟨W.heap.size, 1, none⟩ (.slice a3 n3 c3)).setCell ⟨W.heap.size, 2, none⟩ (.slice none 0 0)) :=
 ⟨_, a3, n3, c3, rfl, Nat.le_refl _, hq.set3 _ _ _, IOwn.mono (own_setCell (own_setCell (own_setCell h (p := ⟨W.heap.size, 0, none⟩) hB _) (p := ⟨W.heap.size, 1, none⟩) hB _) (p := ⟨W.heap.size, 2, none⟩) hB _) (Nat.le_of_lt hB), hS.2⟩
set_option maxHeartbeats 4000000 in
set_option maxRecDepth 20000 in
theorem readMark_any (base b bm : Nat) (s : ByteArray) (line m : Int) (vp : Value) (pv : Int → Value) (L : List Mk) (w : World) (hs : s.size ≤ 65536) (h0 : 0 < base) (hm : w.cell? ⟨0, 0, none⟩ = some (.int .i64 m)) (hL : L.length ≤ 4096)
  (hbw : base ≤ w.heap.size) (hrd : RD w base b bm line vp pv L) :
  Calls Tryz.prog 90 #[.pointer (some ⟨b, 0, none⟩), .string s] w fun e w' => MarkPost base b bm line L s.data.toList w e w' := by
 have hsl : s.data.toList.length = s.size := (Lib.size_eq s).symm
 have hcs := cutL_sizes 59 s.data.toList
 obtain ⟨av, cv, rfl⟩ := row_val hrd.places
 have hblt := (Array.getElem?_eq_some_iff.1 hrd.blk).1
 generalize hC : cutL 59 s.data.toList = C at hcs
 have HM : Hid (markR s.data.toList = markC C) := by show _ = _; rw [markR, hC]
 by_cases h3 : C.length = 3
 ·
  match C, h3 with
  | [a, bb, c], _ =>
  have ha := hcs a (by simp)
  have hbb := hcs bb (by simp)
  have hc := hcs c (by simp)
  clear hcs
  go_enter Tryz.func90, Tryz.ntmps90
  go_wp2_with fail
  refine (split_any 59 s m _ hs hm).mono ?_
  rintro e w1 ⟨rfl, hst, hb1, hsz1⟩
  rw [hC] at hst ⊢
  have hlt1 : w.heap.size < w1.heap.size := by omega
  clear hsz1
  have hrd1 := hrd.below hb1
  have hm1 : w1.cell? ⟨0, 0, none⟩ = some (.int .i64 m) := (hb1.cell (p := ⟨0, 0, none⟩) (by show 0 < w.heap.size; omega)).trans hm
  have k0 := hst.cell (j := 0) (by simp)
  have k1 := hst.cell (j := 1) (by simp)
  have k2 := hst.cell (j := 2) (by simp)
  simp only [List.getElem_cons_zero, List.getElem_cons_succ, List.length_cons, List.length_nil] at k0 k1 k2 ⊢
  have c0 := hrd1.c0
  go_wp2_with fail
  refine (need_ok _ _ _ _ rfl).mono ?_
  rintro e w2 ⟨rfl, rfl⟩
  go_wp2_with fail
  have hsz' : ∀ l : List UInt8, l.length ≤ s.data.toList.length → (bsz l).size ≤ 65536 := fun l hl => by simp [ByteArray.size]; omega
  refine (readPoint_any b (bsz a) line _ (by have := hsz' a ha; omega) c0).mono ?_
  rintro e w2 ⟨rfl, rfl⟩
  rw [show (bsz a).data.toList = a by simp]
  have hb01 : Below base w w1 := hb1.mono hbw
  cases hp : pointR a with
  | none =>
   simp only [gotI]
   go_wp2
   refine ⟨rfl, hb01, ?_⟩
   rw [HM.out]; simp [markC, hp]
  | some p =>
   obtain ⟨hpI, hpm⟩ := pointR_in hp
   simp only [gotI]
   go_wp2_with fail
   have s0 : (w1.drew.cell? ⟨w.heap.size, 1, none⟩ = some (.string (bsz bb)) ∧ w1.drew.cell? ⟨w.heap.size, 2, none⟩ = some (.string (bsz c))) ∧ Below w1.heap.size w1 w1.drew := ⟨⟨k1, k2⟩, (Below.refl _ _).drew⟩
   have HK : Hid (∀ x y : World, ((x.cell? ⟨w.heap.size, 1, none⟩ = some (.string (bsz bb)) ∧ x.cell? ⟨w.heap.size, 2, none⟩ = some (.string (bsz c))) ∧ Below w1.heap.size w1 x) → Below w1.heap.size x y → ((y.cell? ⟨w.heap.size, 1, none⟩ = some (.string (bsz bb)) ∧ y.cell? ⟨w.heap.size, 2, none⟩ = some (.string (bsz c))) ∧ Below w1.heap.size w1 y)) := fun x y h1 h2 => by
    have hlt : w.heap.size < w1.heap.size := by omega
    exact ⟨⟨(h2.cell (p := ⟨w.heap.size, 1, none⟩) hlt).trans h1.1.1, (h2.cell (p := ⟨w.heap.size, 2, none⟩) hlt).trans h1.1.2⟩, h1.2.trans h2⟩
   have HL : Hid (∀ x : World, ((x.cell? ⟨w.heap.size, 1, none⟩ = some (.string (bsz bb)) ∧ x.cell? ⟨w.heap.size, 2, none⟩ = some (.string (bsz c))) ∧ Below w1.heap.size w1 x) → (x.cell? ⟨b, 0, none⟩ = some (.int .i64 line) ∧ x.cell? ⟨0, 0, none⟩ = some (.int .i64 m)) ∧ Below base w x) := fun x hx =>
    ⟨⟨(hx.2.cell (p := ⟨b, 0, none⟩) (by show b < _; omega)).trans c0, (hx.2.cell (p := ⟨0, 0, none⟩) (by show 0 < _; omega)).trans hm1⟩, hb01.trans (hx.2.mono (by omega))⟩
   have hszb := hsz' bb hbb
   have hszc := hsz' c hc
   have hRC : ∀ x : World, x.cell? ⟨b, 0, none⟩ = some (.int .i64 line) → Calls Tryz.prog 109 #[.pointer (some ⟨b, 0, none⟩), .string (bsz bb)] x fun e w' => e = gotI line (classR bb) ∧ x = w' := fun x hx => by
    have := readClass_any b (bsz bb) line x (by omega) hx
    rwa [show (bsz bb).data.toList = bb by simp] at this
   have hRP : ∀ x : World, x.cell? ⟨0, 0, none⟩ = some (.int .i64 m) → x.cell? ⟨b, 0, none⟩ = some (.int .i64 line) → Calls Tryz.prog 110 #[.pointer (some ⟨b, 0, none⟩), .string (bsz c)] x fun e w' => PartsPost line x (partsR c) e w' := fun x h1 h2 => by
    have := readParts_any b (bsz c) line m x hszc h1 h2
    rwa [show (bsz c).data.toList = c by simp] at this
   have HC : Hid (∀ x : World, x.cell? ⟨b, 0, none⟩ = some (.int .i64 line) → Calls Tryz.prog 109 #[.pointer (some ⟨b, 0, none⟩), .string (bsz bb)] x fun e w' => e = gotI line (classR bb) ∧ x = w') := hRC
   have HP : Hid (∀ x : World, x.cell? ⟨0, 0, none⟩ = some (.int .i64 m) → x.cell? ⟨b, 0, none⟩ = some (.int .i64 line) → Calls Tryz.prog 110 #[.pointer (some ⟨b, 0, none⟩), .string (bsz c)] x fun e w' => PartsPost line x (partsR c) e w') := hRP
   clear hRC hRP
   cases hk : classR bb with
   | none =>
    rw [hk] at HC
    have HE : Hid (markR s.data.toList = none) := by show _ = _; rw [HM.out]; simp [markC, hp, hk]
    clear HM
    go_region_held (fun x => (x.cell? ⟨w.heap.size, 1, none⟩ = some (.string (bsz bb)) ∧ x.cell? ⟨w.heap.size, 2, none⟩ = some (.string (bsz c))) ∧ Below w1.heap.size w1 x) (first | exact s0 | assumption | exact HK.out _ _ (by assumption) (below_call (by assumption) (by assumption)) | exact HK.out _ _ (by assumption) (below_new (by assumption)) | exact HK.out _ _ (by assumption) (below_swapD (Nat.le_refl _)) | exact HK.out _ _ (by assumption) (below_swap (by first | exact Nat.le_refl _ | exact hb3.size))) (first | (go_at_call 109; refine calls_lost (.int .i64 0) (HC.out _ (HL.out _ (by assumption)).1.1) (fun x hx => ?_) ?_; (· subst hx; exact ⟨rfl, (HL.out _ (by assumption)).2, by rw [HE.out]⟩); intro hX) | (go_at_call 110; refine calls_fake (.slice none 0 0) (by assumption) ?_))
    all_goals exact (Hid.out (p := False) (by assumption)).elim
   | some k =>
    rw [hk] at HC
    cases hq : partsR c with
    | none =>
     rw [hq] at HP
     have HE : Hid (markR s.data.toList = none) := by show _ = _; rw [HM.out]; simp [markC, hp, hk, hq]
     clear HM
     go_region_held (fun x => (x.cell? ⟨w.heap.size, 1, none⟩ = some (.string (bsz bb)) ∧ x.cell? ⟨w.heap.size, 2, none⟩ = some (.string (bsz c))) ∧ Below w1.heap.size w1 x) (first | exact s0 | assumption | exact HK.out _ _ (by assumption) (below_call (by assumption) (by assumption)) | exact HK.out _ _ (by assumption) (below_new (by assumption)) | exact HK.out _ _ (by assumption) (below_swapD (Nat.le_refl _)) | exact HK.out _ _ (by assumption) (below_swap (by first | exact Nat.le_refl _ | exact hb3.size))) (first | (go_at_call 109; refine (HC.out _ (HL.out _ (by assumption)).1.1).mono ?_; rintro e w2 ⟨rfl, rfl⟩; simp only [gotI]) | (go_at_call 110; refine calls_lost (.slice none 0 0) (HP.out _ (HL.out _ (by assumption)).1.2 (HL.out _ (by assumption)).1.1) (fun x hx => ?_) ?_; (· exact ⟨rfl, ((HL.out _ (by assumption)).2).trans (hx.mono (Nat.le_trans hbw ((HL.out _ (by assumption)).2).size)), by rw [HE.out]⟩); intro hX))
     all_goals exact (Hid.out (p := False) (by assumption)).elim
    | some l =>
     rw [hq] at HP
     have HE : Hid (markR s.data.toList = some (p, k, l)) := by show _ = _; rw [HM.out]; simp [markC, hp, hk, hq]
     clear HM
     go_cut [6] from 21 (fun v wx => MarkVar w1 k l v wx)
     case first =>
      go_region_held (fun x => (x.cell? ⟨w.heap.size, 1, none⟩ = some (.string (bsz bb)) ∧ x.cell? ⟨w.heap.size, 2, none⟩ = some (.string (bsz c))) ∧ Below w1.heap.size w1 x) (first | exact s0 | assumption | exact HK.out _ _ (by assumption) (below_call (by assumption) (by assumption)) | exact HK.out _ _ (by assumption) (below_new (by assumption)) | exact HK.out _ _ (by assumption) (below_swapD (Nat.le_refl _)) | exact HK.out _ _ (by assumption) (below_swap (by first | exact Nat.le_refl _ | exact hb3.size)) | exact HK.out _ _ (by assumption) (below_set3 (Nat.le_refl _))) (first | (go_at_call 109; refine (HC.out _ (HL.out _ (by assumption)).1.1).mono ?_; rintro e w2 ⟨rfl, rfl⟩; simp only [gotI]) | (go_at_call 110; refine (HP.out _ (HL.out _ (by assumption)).1.2 (HL.out _ (by assumption)).1.1).mono ?_; rintro e w3 ⟨a3, n3, c3, rfl, hown3, hb3⟩; try (have hq3 := blk_after hb3; obtain ⟨⟨q0, q1, q2⟩, qf0, qf1, qf2⟩ := three_of hq3)))
      all_goals go_wp2_with fail
      all_goals go_meet
      case rel => first | exact markVar_new hown3 (by simp) hb3.size (by assumption) | exact markVar_set hown3 (by simp) hq3 (by assumption)
      case rel => first | exact markVar_new hown3 (by simp) hb3.size (by assumption) | exact markVar_set hown3 (by simp) hq3 (by assumption)
      case rel => first | exact markVar_new hown3 (by simp) hb3.size (by assumption) | exact markVar_set hown3 (by simp) hq3 (by assumption)
     case rest =>
      obtain ⟨bM, a3, n3, c3, rfl, hbM, hblk, hown, hbc⟩ := hcut
      have hrdc := hrd1.below hbc
      have hbwc : Below base w wc := hb01.trans (hbc.mono (by omega))
      have d0 := hrdc.c0
      have d1 := hrdc.c1
      have d2 := hrdc.c2
      have hblc : b < wc.heap.size := by have := hbc.size; omega
      have hlk := hrdc.mp.look_ok Tryz.underlying115 (zero77 _) hpI
      clear hst k0 k1 k2 s0 HK HL HC HP hrd hrd1 c0 hm1 hC hp hpm hk hq
      cases hany : L.any (fun m => m.point == p) with
      | true =>
       obtain ⟨mm, hmm, rfl, hma⟩ := markAt_any hany
       obtain ⟨a4, c4, hv4⟩ := (hrdc.parts mm hmm).val
       rw [hma] at hlk
       simp only [Option.map_some, Option.getD_some, Option.isSome_some, hv4] at hlk
       go_wp2_with fail
       refine (need_no b _ _ line _ rfl ?_).mono ?_
       ·
        rw [World.cell?_alloc_lt _ _ _ hblc]; exact d0
       rintro e w2 ⟨rfl, rfl⟩
       go_wp2
       refine ⟨rfl, hbwc.alloc (by have := hbc.size; omega) _, ?_⟩
       rw [HE.out]; simp [hany]
      | false =>
       have hma := markAt_none hany
       rw [hma] at hlk
       simp only [Option.map_none, Option.getD_none, Option.isSome_none] at hlk
       go_wp2_with fail
       refine (need_ok _ _ _ _ rfl).mono ?_
       rintro e w2 ⟨rfl, rfl⟩
       go_wp2_with fail
       by_cases hfull : 4096 ≤ L.length
       ·
        refine (need_no b _ _ line _ (by simp; omega) ?_).mono ?_
        ·
         rw [World.cell?_alloc_lt _ _ _ hblc]; exact d0
        rintro e w2 ⟨rfl, rfl⟩
        go_wp2
        refine ⟨rfl, hbwc.alloc (by have := hbc.size; omega) _, ?_⟩
        rw [HE.out]; simp [hany, hfull]
       ·
        refine (need_ok _ _ _ _ (by simp; omega)).mono ?_
        rintro e w2 ⟨rfl, rfl⟩
        have hb5 := (Below.refl wc.heap.size wc).alloc (Nat.le_refl _) (.cells #[.int .i64 0, .slice none 0 0, .slice none 0 0] 114)
        go_wp2_with fail
        generalize wc.alloc (.cells #[.int .i64 0, .slice none 0 0, .slice none 0 0] 114) = W5 at hb5 ⊢
        have hrd5 := hrdc.below hb5
        have hown5 := own_after hown hb5
        have hblk5 := hblk.below hb5 hblk.lt
        obtain ⟨w6, hup, hmp6, hgr6, hsz6⟩ := hrd5.mp.drew.update Tryz.underlying115 (by unfold maxLen; omega) hpI (markV k (.slice a3 n3 c3) (.slice none 0 0))
        have e1 : W5.drew.cell? ⟨b, 1, none⟩ = some (.map (some bm)) := hrd5.c1
        obtain ⟨⟨m0, m1, m2⟩, _⟩ := three_of hblk5
        have bM0 : W5.drew.cell? ⟨bM, 0, none⟩ = some (.int .i64 k) := m0
        have bM1 : W5.drew.cell? ⟨bM, 1, none⟩ = some (.slice a3 n3 c3) := m1
        have bM2 : W5.drew.cell? ⟨bM, 2, none⟩ = some (.slice none 0 0) := m2
        clear hlk d0 d1 d2
        go_region
        have hb6 : Blk w6 b 122 #[.int .i64 line, .map (some bm), .slice av L.length cv] := (hgr6.block b (by show b < W5.heap.size; exact (Array.getElem?_eq_some_iff.1 hrd5.blk).1) (fun e => map_ne_blk hrd5.blk hrd5.mp (by simpa using e))).trans hrd5.blk
        have hpl6 := own_kept_map (w := W5.drew) hrd5.places hrd5.mp.drew hgr6
        have hparts6 : ∀ mm ∈ L, IOwn w6 base (pv mm.point) mm.parts := fun mm hmm => own_kept_map (w := W5.drew) (hrd5.parts mm hmm) hrd5.mp.drew hgr6
        have hown6 : IOwn w6 base (.slice a3 n3 c3) l := own_kept_map (w := W5.drew) (IOwn.mono hown5 (by omega)) hrd5.mp.drew hgr6
        have hsz6' : base ≤ w6.heap.size := by have h1 := hb5.size; have h2 := hbwc.size; rw [hsz6]; show base ≤ W5.heap.size; omega
        have hbel6 : Below base w w6 := (hbwc.trans (hb5.mono (by have := hbc.size; omega))).trans ((Below.refl base W5).drew.grown hgr6 (by show base ≤ W5.heap.size; rw [hsz6] at hsz6'; exact hsz6') (fun j hj => by cases hj; exact hrd5.mge))
        have g0 : w6.drew.cell? ⟨b, 0, none⟩ = some (.int .i64 line) := hb6.cell 0
        have g2 : w6.drew.cell? ⟨b, 2, none⟩ = some (.slice av L.length cv) := hb6.cell 2
        have g2' : (w6.alloc (.cells #[.int .i64 p, .int .i64 line] 151)).drew.cell? ⟨b, 2, none⟩ = some (.slice av L.length cv) := (World.cell?_alloc_lt _ _ _ hb6.lt).trans g2
        obtain ⟨i0, hi0, hz0, hz1, hz2⟩ := info_parts info85
        have HS6 : Hid (∀ j cs, Blk w j 9 cs → Blk w6 j 9 cs) := fun j cs hj => by
         have h5 : Blk W5 j 9 cs := ((hj.below hb1 hj.lt).below hbc (by have := hj.lt; omega)).below hb5 (by have := hj.lt; have := hbc.size; omega)
         exact (hgr6.block j h5.lt (fun e => map_ne_blk h5 hrd5.mp (by simpa using e))).trans h5
        have HG : Hid (∀ (w7 : World) (g cap : Nat), w7.ownsRow base 151 2 (.slice (some ⟨g, 0, none⟩) (L.length + 1) cap) (L.length + 1) (placesC L ++ [.int .i64 p, .int .i64 line]) → (w6.alloc (.cells #[.int .i64 p, .int .i64 line] 151)).drew.grownBy w7 (Value.slice av L.length cv).ownBlock →
          Blk w7 b 122 #[.int .i64 line, .map (some bm), .slice av L.length cv] ∧ (∃ vp pv', RD (w7.setCell ⟨b, 2, none⟩ (.slice (some ⟨g, 0, none⟩) (L.length + 1) cap)) base b bm line vp pv' (L ++ [⟨line, p, k, l⟩])) ∧ Below base w (w7.setCell ⟨b, 2, none⟩ (.slice (some ⟨g, 0, none⟩) (L.length + 1) cap)) ∧ ∀ j cs, Blk w j 9 cs → Blk (w7.setCell ⟨b, 2, none⟩ (.slice (some ⟨g, 0, none⟩) (L.length + 1) cap)) j 9 cs) := fun w7 g cap h1 h2 => by
         obtain ⟨x1, x2, x3, x4⟩ := RD.grow (o := .cells #[.int .i64 p, .int .i64 line] 151) hb6 hrd5.bge hrd5.mge hsz6' hmp6 rfl hma hparts6 hown6 hpl6 h1 ⟨h2.os, h2.tape, h2.output, h2.size, h2.block⟩
         exact ⟨x1, x2, hbel6.trans x3, fun j cs hj => x4 j cs (HS6.out j cs hj)⟩
        clear hb1 hup e1 m0 m1 m2 bM0 bM1 bM2 hb5 hrd5 hown5 hblk5 hmp6 hgr6 hsz6 hrdc hown hblk hbc
        go_wp2_with fail
        go_region_law (refine step_append_lies _ (by rfl) _ _ _ (by rfl) base 151 i0 _ 2 16 Tryz.underlying120 hi0 hz0 hz1 hz2 rfl (by omega) (.slice av L.length cv) L.length (placesC L) (by rfl) (World.ownsRow.alloc hpl6 _) ⟨w6.heap.size, 0, none⟩ 1 1 [.int .i64 p, .int .i64 line] (by rfl) (by rfl) (World.news_of_block (cs := #[.int .i64 p, .int .i64 line]) (t := 151) (fr := (0, 0)) (heap_alloc_new w6 _)) (by simp [Value.oneCell']) (by omega) (by unfold maxLen; omega) (by omega) (by simp; omega) (w6.heap.size + 1) (by simp) ?_; intro gg cap w7 hown7 hgrow7 hat7 hlt7; obtain ⟨y1, y2, y3, y4⟩ := HG.out _ _ _ hown7 hgrow7; have z2 : w7.cell? ⟨b, 2, none⟩ = some (.slice av L.length cv) := y1.cell 2; have zf := y1.frozen 2)
        all_goals
         go_end0
         refine ⟨y3, ?_⟩
         rw [HE.out]
         simp only [hany, hfull, Bool.false_eq_true, if_false]
         exact ⟨trivial, y2, y4⟩
 ·
  have hlen : ¬ ((C.length : Int) = 3) := by omega
  go_enter Tryz.func90, Tryz.ntmps90
  go_wp2_with fail
  refine (split_any 59 s m _ hs hm).mono ?_
  rintro e w1 ⟨rfl, hst, hb1, hsz1⟩
  rw [hC] at hst ⊢
  have c0 := (hrd.below hb1).c0
  go_wp2_with fail
  refine (need_no b _ _ line _ (by simpa using hlen) c0).mono ?_
  rintro e w2 ⟨rfl, rfl⟩
  go_wp2
  refine ⟨rfl, hb1.mono hbw, ?_⟩
  rw [HM.out]
  have : markC C = none := by
   unfold markC
   split
   ·
    simp at h3
   ·
    rfl
  rw [this]
end Go.Proofs.YtkcnjnccdafbfaaGreatDoor
