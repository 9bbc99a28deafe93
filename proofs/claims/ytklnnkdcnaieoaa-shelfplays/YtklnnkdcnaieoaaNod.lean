/- What (*node).nodes hands back, as an iterator (contracts; nothing is claimed here). -/
import Derived.Test.YtklnnkdcnaieoaaTou
import Derived.Test.YtklnnkdcnaieoaaRnt
namespace Go.Proofs.Ytklnnkdcnaieoaa
open Go.RowKit Go.Vf
attribute [local go_sem] Oper.semAt_some

theorem yield_any {m m' : Nat} {P : Program} {l : Nat} {args : Array Value} {W : World} {R : Ending → World → Prop} (h : YieldAt Fence.wide m P l args W R) : YieldAt Fence.wide m' P l args W R := by
  obtain ⟨fn, tmps, assign, body, hy, hR⟩ := h
  exact ⟨fn, tmps, assign, body, hy, hR.1, fun c cs _ => hR.2 c cs (room_wide _)⟩
theorem grown_drew (W : World) : W.grownBy W.drew none := ⟨rfl, rfl, rfl, Nat.le_refl _, fun _ _ _ => rfl⟩
theorem own_drew {α : Type} {B : Nat} {J : List α → World → Prop} (h : OwnFrom B J) {pre : List α} {A : World} (hs : J pre A) : J pre A.drew := h pre A A.drew none hs (grown_drew A) (fun r e => by cases e)
/-- What the iterator over nodes reads. -/
structure NodAt (w : World) (Bn Bw Bb Bi : Nat) (f t : ByteArray) (o back : Bool) (T : Tr) : Prop where
  bn : Blk w Bn 54 #[.pointer T.ptr]
  bw : Blk w Bw 62 #[.func (.func 48) #[] #[.pointer (some ⟨Bi, 0, none⟩)]]
  bb : Blk w Bb 4 #[.bool back]
  bi : Blk w Bi 29 #[.string f, .string t, .bool o]
  tr : TAt w T
  srt : Srt T.toL
theorem NodAt.old {w w' : World} {Bn Bw Bb Bi : Nat} {f t : ByteArray} {o back : Bool} {T : Tr} (h : NodAt w Bn Bw Bb Bi f t o back T) (hb : Below w.heap.size w w') : NodAt w' Bn Bw Bb Bi f t o back T :=
  ⟨h.bn.old hb, h.bw.old hb, h.bb.old hb, h.bi.old hb, h.tr.old hb, h.srt⟩
set_option maxRecDepth 100000 in
set_option maxHeartbeats 4000000 in
theorem nodes1_tells (n : Nat) (Bn Bw Bb Bi : Nat) (f t : ByteArray) (o back : Bool) (T : Tr) (w : World) (h : NodAt w Bn Bw Bb Bi f t o back T) :
    TellsK n Try.prog 46 #[.pointer (some ⟨Bn, 0, none⟩), .pointer (some ⟨Bw, 0, none⟩), .pointer (some ⟨Bb, 0, none⟩)] encN (tellN f t o back T) w := by
  intro l J Jx W hW hJ hJx hY h0
  have hN := h.old hW
  have c1 := hN.bn.c1
  have c2 := hN.bw.c1
  have c3 := hN.bb.c1
  have h1 := tour_in f t o back Bi l (tellN f t o back T) J Jx (fun pre A hA => own_drew hJ hA) (fun m pre x W1 hj hp => yield_any (YieldAt.mono (hY pre x W1 hj hp) (fun e w' q => q.elim (fun z => .inl ⟨z.1, z.2.1, z.2.2.1⟩) (fun z => .inr ⟨z.1, z.2.1⟩)))) T (n - 1) [] W hN.tr hN.srt hN.bi h0 (by simp)
  clear hY hJ hJx hW h0 hN h
  refine callsIn_of_wp Try.func46 rfl trivial ?_ rfl
  simp only [Try.ntmps46, List.size_toArray, List.length_cons, List.length_nil, Nat.reduceAdd, Nat.reduceSub, Array.replicate_succ, Array.replicate_zero, List.push_toArray, List.append_toArray, List.nil_append, List.cons_append]
  gi_wp2
  refine ⟨trivial, fun h => (by cases h), h1.mono ?_⟩
  clear h1
  rintro e V (⟨rfl, hj, _⟩ | ⟨rfl, q, hq, hx⟩)
  · gi_wp2
    go_end0
    exact ⟨⟨_, rfl⟩, .inl (by simpa using hj)⟩
  · gi_wp2
    go_end0
    exact ⟨⟨_, rfl⟩, .inr ⟨q, hq, by simpa using hx⟩⟩
/-- What nodes hands back. -/
theorem nodes_any (p : Option Addr) (fv : Nat) (Bi : Nat) (back : Bool) (w : World) : Calls Try.prog 37 #[.pointer p, .func (.func fv) #[] #[.pointer (some ⟨Bi, 0, none⟩)], .bool back] w fun e w' =>
    e = .returned (.func (.func 46) #[] #[.pointer (some ⟨w.heap.size, 0, none⟩), .pointer (some ⟨w.heap.size + 1, 0, none⟩), .pointer (some ⟨w.heap.size + 1 + 1, 0, none⟩)]) ∧
    Blk w' w.heap.size 54 #[.pointer p] ∧ Blk w' (w.heap.size + 1) 62 #[.func (.func fv) #[] #[.pointer (some ⟨Bi, 0, none⟩)]] ∧ Blk w' (w.heap.size + 1 + 1) 4 #[.bool back] ∧ Below w.heap.size w w' := by
  have b1 := (Below.refl w.heap.size w).alloc (Nat.le_refl _) (.cells #[.pointer p] 54)
  have B1 := Blk.new w 54 #[.pointer p]
  have s1 := alloc_size w (.cells #[.pointer p] 54)
  go_enter Try.func37, Try.ntmps37
  go_wp2
  go_ret
  generalize w.alloc (.cells #[.pointer p] 54) = w1 at *
  have b2 := (Below.refl w1.heap.size w1).alloc (Nat.le_refl _) (.cells #[.func (.func fv) #[] #[.pointer (some ⟨Bi, 0, none⟩)]] 62)
  have B2 := Blk.new w1 62 #[.func (.func fv) #[] #[.pointer (some ⟨Bi, 0, none⟩)]]
  have s2 := alloc_size w1 (.cells #[.func (.func fv) #[] #[.pointer (some ⟨Bi, 0, none⟩)]] 62)
  generalize w1.alloc (.cells #[.func (.func fv) #[] #[.pointer (some ⟨Bi, 0, none⟩)]] 62) = w2 at *
  have b3 := (Below.refl w2.heap.size w2).alloc (Nat.le_refl _) (.cells #[.bool back] 4)
  have B3 := Blk.new w2 4 #[.bool back]
  generalize w2.alloc (.cells #[.bool back] 4) = w3 at *
  rw [s1] at B2 s2
  rw [s2] at B3
  refine ⟨rfl, (B1.old b2).old b3, B2.old b3, B3, (b1.trans (b2.mono (by omega))).trans (b3.mono (by omega))⟩
end Go.Proofs.Ytklnnkdcnaieoaa
