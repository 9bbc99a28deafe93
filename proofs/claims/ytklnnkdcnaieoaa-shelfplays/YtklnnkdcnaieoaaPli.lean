/- Two shelves and the document's, while a script is played (lemmas; nothing is claimed here). -/
import Derived.Test.YtklnnkdcnaieoaaWhl
import Derived.Test.YtklnnkdcnaieoaaAcp
import Derived.Test.YtklnnkdcnaieoaaVsu
namespace Go.Proofs.Ytklnnkdcnaieoaa
open Go.RowKit Go.Vf

structure PlI (w : World) (k : Nat) (B1 C1 B2 C2 : Nat) (v1 v2 : Value) (L1 L2 : List Pr) (wr : World) : Prop where
  s1 : ShAt wr B1 L1
  r1 : RfAt wr C1 w.heap.size v1 L1
  s2 : ShAt wr B2 L2
  r2 : RfAt wr C2 w.heap.size v2 L2
  b1 : w.heap.size ≤ B1
  c1 : w.heap.size ≤ C1
  b2 : w.heap.size ≤ B2
  c2 : w.heap.size ≤ C2
  bn : B1 ≠ B2
  cn : C1 ≠ C2
  ap : ∀ g, v1.ownBlock = some g → v2.ownBlock ≠ some g
  bel : Below w.heap.size w wr
  n1 : L1.length ≤ k
  n2 : L2.length ≤ k
  z1 : ∀ p ∈ L1, p.1.size ≤ 2147483647 + k
  z2 : ∀ p ∈ L2, p.1.size ≤ 2147483647 + k
theorem PlI.old {w wr wr' : World} {k B1 C1 B2 C2 : Nat} {v1 v2 : Value} {L1 L2 : List Pr} (h : PlI w k B1 C1 B2 C2 v1 v2 L1 L2 wr) (hb : Below wr.heap.size wr wr') : PlI w k B1 C1 B2 C2 v1 v2 L1 L2 wr' :=
  ⟨h.s1.old hb, h.r1.old hb, h.s2.old hb, h.r2.old hb, h.b1, h.c1, h.b2, h.c2, h.bn, h.cn, h.ap, h.bel.trans (hb.mono h.bel.size), h.n1, h.n2, h.z1, h.z2⟩
theorem PlI.swap {w wr : World} {k B1 C1 B2 C2 : Nat} {v1 v2 : Value} {L1 L2 : List Pr} (h : PlI w k B1 C1 B2 C2 v1 v2 L1 L2 wr) : PlI w k B2 C2 B1 C1 v2 v1 L2 L1 wr :=
  ⟨h.s2, h.r2, h.s1, h.r1, h.b2, h.c2, h.b1, h.c1, h.bn.symm, h.cn.symm, fun g e e2 => h.ap g e2 e, h.bel, h.n2, h.n1, h.z2, h.z1⟩
theorem PlI.clone {w wr wa wb : World} {k B1 C1 B2 C2 : Nat} {v1 v2 v' : Value} {L1 L2 : List Pr} (h : PlI w k B1 C1 B2 C2 v1 v2 L1 L2 wr) (ha : ShAt wa wr.heap.size L1) (hb : Below wr.heap.size wr wa)
    (hc : RfAt wb wa.heap.size w.heap.size v' L1) (ho : ∀ g, v'.ownBlock = some g → wa.heap.size ≤ g) (hd : Below wa.heap.size wa wb) : PlI w k B1 C1 wr.heap.size wa.heap.size v1 v' L1 L1 wb := by
  have h1 := (h.old hb).old hd
  have q1 := h.s1.lt
  have q2 := h.r1.box.lt
  have q3 := hb.size
  have q4 := h.bel.size
  refine ⟨h1.s1, h1.r1, ha.old hd, hc, h.b1, h.c1, q4, by omega, by omega, by omega, fun g e e2 => ?_, h1.bel, h.n1, h.n1, h.z1, h.z1⟩
  have := (h.r1.row.own e).2
  have := ho g e2
  omega
theorem PlI.act {w wr w' : World} {k B1 C1 B2 C2 : Nat} {v1 v2 v' : Value} {L1 L2 M : List Pr} (h : PlI w k B1 C1 B2 C2 v1 v2 L1 L2 wr) (st : St wr B1 B1 C1 w.heap.size v1 M M w' v') (hm : M.length ≤ L1.length + 1) (hz : ∀ p ∈ M, p.1.size ≤ 2147483647 + k + 1) : PlI w (k + 1) B1 C1 B2 C2 v' v2 M L2 w' := by
  obtain ⟨d1, hB1⟩ := h.s1.blk
  obtain ⟨d2, hB2⟩ := h.s2.blk
  have hE : OfT wr (EX B1 B1 C1 v1) TX := fun x e => by
    rcases e with e | e | e | e
    · subst e; exact ⟨56, _, hB1, .inl rfl⟩
    · subst e; exact ⟨56, _, hB1, .inl rfl⟩
    · subst e; exact ⟨58, _, h.r1.box, .inr (.inl rfl)⟩
    · obtain ⟨ds, hb⟩ := h.r1.row.blk e; exact ⟨45, ds, hb, .inr (.inr (.inr rfl))⟩
  have n1 := h.n1
  have n2 := h.n2
  refine ⟨st.sh, st.rf, st.kx.sh hE (fun t ht => ht.n66) (fun e => ?_) h.s2, st.kx.rf h.r2 (fun e => ?_) (fun g eg e => ?_), h.b1, h.c1, h.b2, h.c2, h.bn, h.cn, fun g e e2 => ?_, h.bel.trans (st.kx.below h.bel.size (fun x hx e => ?_)), by omega, by omega, hz, fun p hp => Nat.le_trans (h.z2 p hp) (by omega)⟩
  · rcases e with e | e | e | e
    · exact h.bn e.symm
    · exact h.bn e.symm
    · exact hB2.apart h.r1.box (by decide) e
    · obtain ⟨ds, hb⟩ := h.r1.row.blk e; exact hB2.apart hb (by decide) rfl
  · rcases e with e | e | e | e
    · exact h.r2.box.apart hB1 (by decide) e
    · exact h.r2.box.apart hB1 (by decide) e
    · exact h.cn e.symm
    · obtain ⟨ds, hb⟩ := h.r1.row.blk e; exact h.r2.box.apart hb (by decide) rfl
  · obtain ⟨ds, hb⟩ := h.r2.row.blk eg
    rcases e with e | e | e | e
    · exact hb.apart hB1 (by decide) e
    · exact hb.apart hB1 (by decide) e
    · exact hb.apart h.r1.box (by decide) e
    · exact h.ap g e eg
  · rcases st.own g e with q | q
    · exact h.ap g q e2
    · have := (h.r2.row.own e2).2
      omega
  · have q1 := h.b1
    have q2 := h.c1
    rcases e with e | e | e | e
    · omega
    · omega
    · omega
    · have := (h.r1.row.own e).1
      omega
end Go.Proofs.Ytklnnkdcnaieoaa
