/- The walk's memory, and what settle does (contracts; nothing is claimed here). -/
import Derived.Test.YtadbkkakjekopaaDoorLines
import Derived.Test.YtadbkkakjekopaaDoorTarj
import Derived.Test.YtadbkkakjekopaaDoorEnds
import Derived.Deep.QuietTactic
import Derived.BigQuiet
namespace Go.Proofs.YtadbkkakjekopaaDoor
open Go.RowKit Go.Vf Go.Maps

/-- A map of ints whose absent keys read as 0. -/
def intsF (g : Int → Int) : Int → Option Value := fun x => if g x = 0 then none else some (.int .i64 (g x))
theorem intsF_get (g : Int → Int) (x : Int) : (intsF g x).getD (.int .i64 0) = .int .i64 (g x) := by
  unfold intsF
  split
  · rename_i h; simp [h]
  · rfl
theorem intsF_upd (g : Int → Int) (x v : Int) (hv : v ≠ 0) : updO (intsF g) x (.int .i64 v) = intsF (upd g x v) := by
  funext y
  unfold updO intsF upd
  by_cases h : y = x
  · simp [h, hv]
  · simp [h]
theorem zero3 (w : World) : (zeroValue 3).run Tryd.prog w = .ok (.int .i64 0) w := by kernel_rfl

/-- The marks, below a base. -/
structure MD (w : World) (base bm n : Nat) (pv : Int → Value) (L : List Mk) : Prop where
  mp : MapAt w bm n (fun p => (markAt L p).map fun m => markV m.cls (pv p) (.slice none 0 0))
  lt : bm < base
  parts : ∀ m ∈ L, Ints base w (pv m.point) m.parts ∧ m.parts.length ≤ 131072
  ins : ∀ m ∈ L, InI m.point ∧ ∀ q ∈ m.parts, InI q

theorem MD.below {w w' : World} {base bm n : Nat} {pv : Int → Value} {L : List Mk} (h : MD w base bm n pv L) (hb : Below base w w') : MD w' base bm n pv L :=
  ⟨h.mp.below hb h.lt, h.lt, fun m hm => ⟨(h.parts m hm).1.below hb (Nat.le_refl _), (h.parts m hm).2⟩, h.ins⟩

theorem Ints.val {n₀ : Nat} {W : World} {v : Value} {zs : List Int} (h : Ints n₀ W v zs) : ∃ a cap, v = .slice a zs.length cap := by
  rcases h with ⟨a, cap, rfl, rfl⟩ | ⟨b, off, cap, rfl, _, _⟩
  · exact ⟨_, _, rfl⟩
  · exact ⟨_, _, rfl⟩
theorem Ints.cell {n₀ : Nat} {W : World} {a : Option Addr} {n cap : Nat} {zs : List Int} (h : Ints n₀ W (.slice a n cap) zs) (hne : zs ≠ []) : ∃ b off, a = some ⟨b, off, none⟩ ∧ n = zs.length ∧ b < n₀ ∧ ∀ j, j < zs.length → W.cell? ⟨b, off + j, none⟩ = some (.int .i64 (zs[j]?.getD 0)) := by
  rcases h with ⟨a', cap', e, rfl⟩ | ⟨b, off, cap', e, hb, hc⟩
  · exact absurd rfl hne
  · simp only [Value.slice.injEq] at e
    exact ⟨b, off, e.1, e.2.1, hb, hc⟩

/-- What is known of a point's mark when it is looked up. -/
theorem MD.look {w : World} {base bm n : Nat} {pv : Int → Value} {L : List Mk} (h : MD w base bm n pv L) {p : Int} (hp : InI p) : ∃ c a k cap, (∀ x : World, x.heap = w.heap → (Instr.lookup 47 (.map (some bm)) (.int .i64 p) false).run Tryd.prog x = .ok (markV c (.slice a k cap) (.slice none 0 0)) x) ∧
    Ints base w (.slice a k cap) (partsAt L p) ∧ k = (partsAt L p).length ∧ k ≤ 131072 ∧ ∀ q ∈ partsAt L p, InI q := by
  have hl : ∀ x : World, x.heap = w.heap → _ := fun x hx => (h.mp.block (w' := x) (by rw [hx])).look Tryd.underlying47 (zero77 x) hp
  unfold partsAt
  cases hm : markAt L p with
  | none =>
    rw [hm] at hl
    exact ⟨0, none, 0, 0, hl, .inl ⟨none, 0, rfl, rfl⟩, rfl, by omega, by simp⟩
  | some m =>
    rw [hm] at hl
    have hmem : m ∈ L := List.mem_of_find?_eq_some hm
    have hpt : m.point = p := by simpa using List.find?_some hm
    obtain ⟨hi, hlen⟩ := h.parts m hmem
    rw [hpt] at hi
    obtain ⟨a, cap, hv⟩ := hi.val
    rw [hv] at hi
    simp only [Option.map_some, Option.getD_some, hv] at hl
    exact ⟨m.cls, a, m.parts.length, cap, hl, hi, rfl, hlen, (h.ins m hmem).2⟩

/-- The walk's memory. -/
structure WK (w : World) (base bw bm bt bl : Nat) (vo vr : Value) (S : TS) : Prop where
  blk : Blk w bw 78 #[.map (some bm), .map (some bt), .int .i64 S.count, vo, vr, .map (some bl)]
  gw : base ≤ bw
  gt : base ≤ bt
  gl : base ≤ bl
  ne : bt ≠ bl
  sz : base ≤ w.heap.size
  met : MapAt w bt (S.count.toNat + S.ord.length) (intsF S.met)
  loops : MapAt w bl S.ord.length (intsF S.loops)
  opn : IOwn w base vo S.opn
  ord : IOwn w base vr S.ord
  sep : vo.ownBlock = none ∨ vo.ownBlock ≠ vr.ownBlock
  cnt : 0 ≤ S.count ∧ S.count ≤ 1000000 ∧ (S.opn.length + S.ord.length : Int) ≤ S.count
  ins : (∀ x ∈ S.opn, InI x) ∧ ∀ x ∈ S.ord, InI x

theorem field0 (c : Int) (u v : Value) (w : World) : (Instr.field 73 (markV c u v) 0).run Tryd.prog w = .ok (.int .i64 c) w := by kernel_rfl
theorem field1 (c : Int) (u v : Value) (w : World) : (Instr.field 73 (markV c u v) 1).run Tryd.prog w = .ok u w := by kernel_rfl
theorem field2 (c : Int) (u v : Value) (w : World) : (Instr.field 73 (markV c u v) 2).run Tryd.prog w = .ok v w := by kernel_rfl
theorem below_drewN (w : World) (n B : Nat) : Below B w (w.drewN n) := ⟨rfl, rfl, rfl, Nat.le_refl _, fun _ _ => rfl⟩

theorem contains_any {n₀ : Nat} (a : Option Addr) (k cap : Nat) (zs : List Int) (x : Int) (w : World) (h : Ints n₀ w (.slice a k cap) zs) (hl : zs.length ≤ 131072) :
    Calls Tryd.prog 81 #[.slice a k cap, .int .i64 x] w fun e w' => e = .returned (.bool (zs.contains x)) ∧ w' = w := by
  rcases h with ⟨a', cap', e, rfl⟩ | ⟨b, off, cap', e, _, hc⟩
  · cases e
    exact Tryd.slices_Contains_int_empty _ _ _ _
  · cases e
    have := Tryd.slices_Contains_int b off zs.length cap zs x w (Nat.le_refl _) (by omega) (fun j hj => by rw [hc j hj]; simp [List.getD])
    rwa [List.take_length] at this

theorem WK.below {w w' : World} {base bw bm bt bl : Nat} {vo vr : Value} {S : TS} (h : WK w base bw bm bt bl vo vr S) (hb : Below w.heap.size w w') : WK w' base bw bm bt bl vo vr S :=
  ⟨h.blk.below hb h.blk.lt, h.gw, h.gt, h.gl, h.ne, Nat.le_trans h.sz hb.size, h.met.below hb h.met.lt, h.loops.below hb h.loops.lt, own_after h.opn hb, own_after h.ord hb, h.sep, h.cnt, h.ins⟩

end Go.Proofs.YtadbkkakjekopaaDoor
