/- Both shelves while a range goes on (lemmas; nothing is claimed here). -/
import Derived.Test.YtklnnkdcnaieoaaBxs
namespace Go.Proofs.Ytklnnkdcnaieoaa
open Go.RowKit Go.Vf

/-- What changes while a range goes on: both shelves' blocks, the row of the document's, the counter's box. -/
def EX (q B C : Nat) (v : Value) (k : Nat) : Prop := k = q ∨ k = B ∨ k = C ∨ v.ownBlock = some k
theorem EX.ofT {q B C base : Nat} {v : Value} {W : World} {L M : List Pr} {cs : Array Value} (h : Blk W q 3 cs) (hs : ShAt W B L) (hr : RfAt W C base v M) : OfT W (EX q B C v) TX := fun k e => by
  rcases e with e | e | e | e
  · subst e; exact ⟨3, cs, h, .inr (.inr (.inl rfl))⟩
  · subst e; obtain ⟨ds, hb⟩ := hs.blk; exact ⟨56, ds, hb, .inl rfl⟩
  · subst e; exact ⟨58, _, hr.box, .inr (.inl rfl)⟩
  · obtain ⟨ds, hb⟩ := hr.row.blk e; exact ⟨45, ds, hb, .inr (.inr (.inr rfl))⟩
/-- Both shelves, since W. -/
structure St (W : World) (q B C base : Nat) (v : Value) (Ls Lr : List Pr) (V : World) (vc : Value) : Prop where
  kx : KeepX (EX q B C v) W V
  sh : ShAt V B Ls
  rf : RfAt V C base vc Lr
  own : ∀ g, vc.ownBlock = some g → v.ownBlock = some g ∨ W.heap.size ≤ g
theorem St.s {W : World} {q B C base : Nat} {v vc : Value} {Ls Lr M : List Pr} {b : Bool} {V V' : World} {e : Ending} (h : St W q B C base v Ls Lr V vc) (k : ChgPost B b M V e V') : St W q B C base v M Lr V' vc := by
  obtain ⟨_, h1, h2, h3⟩ := k
  obtain ⟨ds, hb⟩ := h.sh.blk
  refine ⟨h.kx.trans (KeepX.chg h2 h3) (fun x _ e => .inr (.inl e)), h1, (KeepX.chg h2 h3).rf h.rf (fun e => h.rf.box.apart hb (by decide) e) (fun g e e2 => ?_), h.own⟩
  obtain ⟨cs, hg⟩ := h.rf.row.blk e
  exact hg.apart hb (by decide) e2
theorem St.r {W : World} {q B C base : Nat} {v vc vj : Value} {Ls Lr M : List Pr} {V V' : World} (h : St W q B C base v Ls Lr V vc) (k : RChd C base vc M V V' vj) : St W q B C base v Ls M V' vj := by
  obtain ⟨ds, hb⟩ := h.sh.blk
  have hE : OfT V (fun x => x = C ∨ vc.ownBlock = some x) TX := fun x e => by
    rcases e with e | e
    · subst e; exact ⟨58, _, h.rf.box, .inr (.inl rfl)⟩
    · obtain ⟨ds, hb⟩ := h.rf.row.blk e; exact ⟨45, ds, hb, .inr (.inr (.inr rfl))⟩
  refine ⟨h.kx.trans (KeepX.rchg k) (fun x hx e => ?_), (KeepX.rchg k).sh hE (fun t ht => ht.n66) (fun e => ?_) h.sh, k.at_, fun g e => ?_⟩
  · rcases e with e | e
    · exact .inr (.inr (.inl e))
    · rcases h.own x e with q | q
      · exact .inr (.inr (.inr q))
      · omega
  · rcases e with e | e
    · exact hb.apart h.rf.box (by decide) e
    · obtain ⟨cs, hg⟩ := h.rf.row.blk e
      exact hb.apart hg (by decide) rfl
  · rcases k.own g e with q | q
    · exact h.own g q
    · exact .inr (Nat.le_trans h.kx.size q)
theorem St.old {W : World} {q B C base : Nat} {v vc : Value} {Ls Lr : List Pr} {V V' : World} (h : St W q B C base v Ls Lr V vc) (hb : Below V.heap.size V V') : St W q B C base v Ls Lr V' vc := ⟨h.kx.old hb, h.sh.old hb, h.rf.old hb, h.own⟩
theorem St.keep {W : World} {q B C base : Nat} {v vc : Value} {Ls Lr : List Pr} {V V' : World} (h : St W q B C base v Ls Lr V vc) (hk : KeepX (EX q B C v) W V') (hc : KeepC V V') : St W q B C base v Ls Lr V' vc := ⟨hk, h.sh.keep hc, h.rf.keep hc, h.own⟩
/-- The counter is counted up. -/
theorem St.set {W : World} {q B C base : Nat} {v vc : Value} {Ls Lr : List Pr} {V : World} {cs : Array Value} (h : St W q B C base v Ls Lr V vc) (hq : Blk V q 3 cs) (u : Value) : St W q B C base v Ls Lr (V.setCell ⟨q, 0, none⟩ u) vc := by
  obtain ⟨ds, hb⟩ := h.sh.blk
  have hk : KeepX (fun k => k = q) V (V.setCell ⟨q, 0, none⟩ u) := (KeepX.refl _ _).set ⟨q, 0, none⟩ u (fun _ => rfl)
  refine ⟨h.kx.set _ _ (fun _ => .inl rfl), hk.sh (ofT_one hq) (fun t ht => ht.n66) (fun e => hb.apart hq (by decide) e) h.sh, hk.rf h.rf (fun e => h.rf.box.apart hq (by decide) e) (fun g e e2 => ?_), h.own⟩
  obtain ⟨cs2, hg⟩ := h.rf.row.blk e
  exact hg.apart hq (by decide) e2
theorem St.own_keep {W : World} {q B C base N : Nat} {v : Value} {β : Type} (f : β → List Pr) (p : β → Value → Prop) (hN : W.heap.size ≤ N) : OwnFrom (β := β) N (fun s V => ∃ vc, p s vc ∧ St W q B C base v (f s) (f s) V vc) := fun s A D row hs hg hr => by
  obtain ⟨vc, hp, h⟩ := hs
  exact ⟨vc, hp, h.keep (KeepX.own (β := Unit) hN () A D row h.kx hg hr) (keepC_of hg (fun r e => (hr r e).2))⟩
theorem St.comp {W V1 V : World} {q B C base : Nat} {v vc vj : Value} {L0 L1 Ls Lr : List Pr} (h : St W q B C base v L0 L1 V1 vc) (k : St V1 B B C base vc Ls Lr V vj) : St W q B C base v Ls Lr V vj := by
  refine ⟨h.kx.trans k.kx (fun x hx e => ?_), k.sh, k.rf, fun g e => ?_⟩
  · rcases e with e | e | e | e
    · exact .inr (.inl e)
    · exact .inr (.inl e)
    · exact .inr (.inr (.inl e))
    · rcases h.own x e with e | e
      · exact .inr (.inr (.inr e))
      · omega
  · rcases k.own g e with e | e
    · exact h.own g e
    · exact .inr (Nat.le_trans h.kx.size e)
theorem St.start {V : World} {B C base : Nat} {v : Value} {Ls Lr : List Pr} (hs : ShAt V B Ls) (hr : RfAt V C base v Lr) : St V B B C base v Ls Lr V v := ⟨KeepX.refl _ _, hs, hr, fun _ e => .inl e⟩
theorem ex_non {V : World} {B C base b : Nat} {v : Value} {L M : List Pr} {t : TypeId} {cs : Array Value} (hs : ShAt V B L) (hr : RfAt V C base v M) (hb : Blk V b t cs) (h1 : t ≠ 56) (h2 : t ≠ 58) (h3 : t ≠ 45 ∨ v.ownBlock ≠ some b) : ¬ EX B B C v b := fun e => by
  obtain ⟨ds, hB⟩ := hs.blk
  rcases e with e | e | e | e
  · exact hb.apart hB h1 e
  · exact hb.apart hB h1 e
  · exact hb.apart hr.box h2 e
  · rcases h3 with h3 | h3
    · obtain ⟨cs2, hg⟩ := hr.row.blk e
      exact hb.apart hg h3 rfl
    · exact h3 e
/-- A box that stays. -/
theorem St.blk {V V' : World} {B C base b : Nat} {v vc : Value} {L M Ls Lr : List Pr} {t : TypeId} {cs : Array Value} (k : St V B B C base v Ls Lr V' vc) (hs : ShAt V B L) (hr : RfAt V C base v M) (hb : Blk V b t cs) (h1 : t ≠ 56) (h2 : t ≠ 58) (h3 : t ≠ 45 ∨ v.ownBlock ≠ some b) : Blk V' b t cs := k.kx.blk hb (ex_non hs hr hb h1 h2 h3)
/-- A box besides is written. -/
theorem St.kx1 {W : World} {q B C base b : Nat} {v vc : Value} {Ls Lr : List Pr} {V U : World} {t : TypeId} {cs : Array Value} (h : St W q B C base v Ls Lr V vc) (k : KeepX (fun x => x = b) V U) (hb : Blk V b t cs) (h1 : t ≠ 56) (h2 : t ≠ 58) (h3 : t ≠ 45) (h4 : t ≠ 66) (hW : W.heap.size ≤ b) : St W q B C base v Ls Lr U vc := by
  obtain ⟨ds, hB⟩ := h.sh.blk
  have hE : OfT V (fun x => x = b) (fun u => u = t) := fun x e => by
    have e2 : x = b := e
    subst e2
    exact ⟨t, cs, hb, rfl⟩
  refine ⟨h.kx.trans k (fun x hx e => by have e2 : x = b := e; omega), k.sh hE (fun u e => by have e2 : u = t := e; rw [e2]; exact h4) (fun e => hb.apart hB h1 e.symm) h.sh, k.rf h.rf (fun e => hb.apart h.rf.box h2 e.symm) (fun g e e2 => ?_), h.own⟩
  obtain ⟨cs2, hg⟩ := h.rf.row.blk e
  exact hb.apart hg h3 e2.symm
theorem St.box {W : World} {q B C base b : Nat} {v vc : Value} {Ls Lr : List Pr} {V : World} {t : TypeId} {cs : Array Value} (h : St W q B C base v Ls Lr V vc) (hb : Blk V b t cs) (h1 : t ≠ 56) (h2 : t ≠ 58) (h3 : t ≠ 45) (h4 : t ≠ 66) (hW : W.heap.size ≤ b) (u : Value) : St W q B C base v Ls Lr (V.setCell ⟨b, 0, none⟩ u) vc :=
  h.kx1 ((KeepX.refl _ _).set ⟨b, 0, none⟩ u (fun _ => rfl)) hb h1 h2 h3 h4 hW
theorem St.put {W : World} {q B C base D : Nat} {v vc : Value} {Ls Lr : List Pr} {V : World} {o : Obj} (h : St W q B C base v Ls Lr V vc) (hD : V.heap[D]? = some o) (ho : o.isCells = false) (hW : W.heap.size ≤ D) (o' : Obj) : St W q B C base v Ls Lr (V.putObj D o') vc :=
  h.keep (KeepX.own (β := Unit) (Nat.le_refl _) () V _ (some D) h.kx (grownBy_putObj' V D o') (fun r e => by cases e; exact ⟨hW, o, hD, ho⟩)) (keepC_of (grownBy_putObj' V D o') (fun r e => by cases e; exact ⟨o, hD, ho⟩))
/-- From where it began. -/
theorem St.since {w W V : World} {q B C base : Nat} {v vc : Value} {Ls Lr : List Pr} (h : St W q B C base v Ls Lr V vc) (hb : Below w.heap.size w W) (hq : w.heap.size ≤ q) : St w B B C base v Ls Lr V vc :=
  ⟨(KeepX.of hb).trans h.kx (fun x hx e => by
    rcases e with e | e | e | e
    · omega
    · exact .inl e
    · exact .inr (.inr (.inl e))
    · exact .inr (.inr (.inr e))), h.sh, h.rf, fun g e => by
    rcases h.own g e with q | q
    · exact .inl q
    · exact .inr (Nat.le_trans hb.size q)⟩
/-- What a call on both leaves. -/
def ActPost (B C base : Nat) (L : List Pr) (v : Value) (S : Nat) (w : World) (e : Ending) (w' : World) : Prop := e = .returned (.bool true) ∧ ∃ M v', St w B B C base v M M w' v' ∧ M.length ≤ L.length + 1 ∧ ∀ p ∈ M, p.1.size ≤ S + 1
/-- What both have, behind the first round. -/
def curP (key val : ByteArray) (L : List Pr) : List Pr → List Pr
  | [] => L
  | p :: _ => ins (p.1 ++ ⟨#[0]⟩) ⟨#[109, 111, 114, 101]⟩ (ins key val (del p.1 L))
theorem curP_snoc {key val : ByteArray} {L pre : List Pr} {x : Pr} (h : pre ≠ []) : curP key val L (pre ++ [x]) = curP key val L pre := by
  cases pre with
  | nil => exact (h rfl).elim
  | cons a r => rfl
theorem tellP_mem {f t : ByteArray} {o back : Bool} {L : List Pr} {p : Pr} (h : p ∈ tellP f t o back L) : p ∈ L := by
  unfold tellP at h
  cases back with
  | false => have h' : p ∈ L.filter (fun x => inSp f t o x.1) := h; exact (List.mem_filter.1 h').1
  | true =>
    simp only [if_true, List.mem_reverse] at h
    exact (List.mem_filter.1 h).1
theorem Srt.cur {key val : ByteArray} {L pre : List Pr} (h : Srt L) : Srt (curP key val L pre) := by
  cases pre with
  | nil => exact h
  | cons p r => exact ((h.del _).ins _ _).ins _ _
theorem ins_mem {k v : ByteArray} {l : List Pr} {p : Pr} (h : p ∈ ins k v l) : p = (k, v) ∨ p ∈ l := by
  unfold ins at h
  rcases List.mem_append.1 h with h | h
  · exact .inr (List.mem_filter.1 h).1
  · rcases List.mem_cons.1 h with h | h
    · exact .inl h
    · exact .inr (List.mem_filter.1 h).1
theorem ba_append_size (a b : ByteArray) : (a ++ b).size = a.size + b.size := ByteArray.size_append
theorem cur_size {key val : ByteArray} {L pre : List Pr} {S : Nat} (h : ∀ p ∈ L, p.1.size ≤ S) (hk : key.size ≤ S) (hp : ∀ p ∈ pre, p ∈ L) : ∀ p ∈ curP key val L pre, p.1.size ≤ S + 1 := by
  intro p hm
  cases pre with
  | nil => exact Nat.le_trans (h p hm) (by omega)
  | cons a r =>
    rcases ins_mem hm with rfl | hm
    · have := h a (hp a (by simp))
      show (a.1 ++ ⟨#[0]⟩).size ≤ _
      rw [ba_append_size]
      have : (⟨#[0]⟩ : ByteArray).size = 1 := rfl
      omega
    · rcases ins_mem hm with rfl | hm
      · exact Nat.le_trans hk (by omega)
      · exact Nat.le_trans (h p (List.mem_filter.1 hm).1) (by omega)
theorem cur_length {key val : ByteArray} {L pre : List Pr} (hs : Srt L) (hp : ∀ p ∈ pre, p ∈ L) : (curP key val L pre).length ≤ L.length + 1 := by
  cases pre with
  | nil => exact Nat.le_succ _
  | cons a r =>
    have h1 : get a.1 L = some a.2 := (get_mem hs).2 (hp a (by simp))
    have h2 := del_length hs h1
    have h3 := ins_le (k := key) (v := val) (hs.del a.1)
    have h4 := ins_le (k := a.1 ++ ⟨#[0]⟩) (v := ⟨#[109, 111, 114, 101]⟩) ((hs.del a.1).ins key val)
    show (ins (a.1 ++ ⟨#[0]⟩) ⟨#[109, 111, 114, 101]⟩ (ins key val (del a.1 L))).length ≤ _
    omega
end Go.Proofs.Ytklnnkdcnaieoaa
