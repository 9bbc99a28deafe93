/- What fillEnds and needShort do (contracts; nothing is claimed here). -/
import Derived.Test.YtadbkkakjekopaaDoorFill
namespace Go.Proofs.YtadbkkakjekopaaDoor
open Go.RowKit Go.Vf Go.Maps

theorem fb_below {w x y : World} {bm : Nat} (h : w.grownBy x (some bm)) (hb : Below x.heap.size x y) : w.grownBy y (some bm) :=
  ⟨hb.os.trans h.os, hb.tape.trans h.tape, hb.output.trans h.output, Nat.le_trans h.size hb.size, fun k hk hne => (hb.block k (Nat.lt_of_lt_of_le hk h.size)).trans (h.block k hk hne)⟩
theorem fb_set {w x : World} {bm : Nat} (h : w.grownBy x (some bm)) {p : Addr} (hp : w.heap.size ≤ p.block) (v : Value) : w.grownBy (x.setCell p v) (some bm) :=
  ⟨h.os, h.tape, h.output, by simpa using h.size, fun k hk hne => (Below.heap_setCell x p v k (by omega)).trans (h.block k hk hne)⟩
theorem fb_map {w x y : World} {bm : Nat} (h : w.grownBy x (some bm)) (hg : x.grownBy y (some bm)) : w.grownBy y (some bm) :=
  ⟨hg.os.trans h.os, hg.tape.trans h.tape, hg.output.trans h.output, Nat.le_trans h.size hg.size, fun k hk hne => (hg.block k (Nat.lt_of_lt_of_le hk h.size) hne).trans (h.block k hk hne)⟩
theorem ints_fb {w x : World} {bm n : Nat} {f : Int → Option Value} {v : Value} {zs : List Int} (hm : MapAt w bm n f) (h : w.grownBy x (some bm)) (hi : Ints w.heap.size w v zs) : Ints x.heap.size x v zs := by
  rcases hi with hi | ⟨b, off, cap, e, hb, hc⟩
  · exact .inl hi
  · by_cases hz : zs = []
    · subst hz; exact .inl ⟨_, _, e, rfl⟩
    · refine .inr ⟨b, off, cap, e, Nat.lt_of_lt_of_le hb h.size, fun j hj => ?_⟩
      have hc0 := hc j hj
      refine (World.cell?_of_block (a := ⟨b, off + j, none⟩) (h.block b hb (fun e => ?_))).trans hc0
      have e' : b = bm := by simpa using e
      obtain ⟨D, ⟨es, clock, hbm, _⟩, _⟩ := hm
      rw [← e'] at hbm
      simp [World.cell?, hbm] at hc0

/-- A slice whose row lies from a block on. -/
def Above (B : Nat) (v : Value) : Prop := ∀ a n c, v = .slice (some a) n c → n = 0 ∨ B ≤ a.block
theorem Above.nil (B : Nat) : Above B (.slice none 0 0) := fun a n c e => by cases e
theorem IOwn.above {w : World} {base : Nat} {v : Value} {zs : List Int} (h : IOwn w base v zs) : Above base v := fun a n c e => by
  subst e
  exact .inr (own_ge h rfl).1
theorem Above.mono {B B' : Nat} {v : Value} (h : Above B v) (hB : B' ≤ B) : Above B' v := fun a n c e => (h a n c e).imp id (fun h => Nat.le_trans hB h)
theorem ints_low {w : World} {n₀ : Nat} {v : Value} {zs : List Int} {B : Nat} {p : Addr} {u : Value} (h : Ints n₀ w v zs) (ha : Above B v) (hp : p.block < B) : Ints n₀ (w.setCell p u) v zs := by
  rcases h with h | ⟨b, off, cap, e, hb, hc⟩
  · exact .inl h
  · rcases ha _ _ _ e with h0 | hB
    · have : zs = [] := List.eq_nil_of_length_eq_zero h0
      subst this
      exact .inl ⟨_, _, e, rfl⟩
    · exact .inr ⟨b, off, cap, e, hb, fun j hj => (World.cell?_setCell_far w p ⟨b, off + j, none⟩ u (by show p.block ≠ b; simp at hB; omega)).trans (hc j hj)⟩
theorem DD.setLow {w : World} {bm n : Nat} {pv ev : Int → Value} {L : List Mk} {E : Int → List Int} (h : DD w bm n pv ev L E) {B : Nat} (h1 : ∀ m ∈ L, Above B (pv m.point)) (h2 : ∀ x, Above B (ev x)) (hbm : B ≤ bm) {p : Addr} (hp : p.block < B) (u : Value) : DD (w.setCell p u) bm n pv ev L E :=
  ⟨h.mp.setCell (by omega) u, fun m hm => ⟨by simpa using ints_low (h.parts m hm).1 (h1 m hm) hp, (h.parts m hm).2⟩, fun m hm => ⟨by simpa using ints_low (h.ends m hm).1 (h2 m.point) hp, (h.ends m hm).2⟩, h.ins, h.noE⟩

/-- A store of a mark's parts to the end. -/
theorem DD.store {w w5 : World} {bm n : Nat} {pv ev : Int → Value} {L : List Mk} {E : Int → List Int} (h : DD w bm n pv ev L E) {p : Int} {m : Mk} (hm : markAt L p = some m) {v : Value} {R : List Int} (hv : Ints w.heap.size w v R) (hR : R.length ≤ 19)
    (hmp : MapAt w5 bm (n + 1) (updO (fun p => (markAt L p).map fun m => markV m.cls (pv p) (ev p)) p (markV m.cls (pv p) v))) (hg : w.grownBy w5 (some bm)) :
    DD w5 bm (n + 1) pv (fun x => if x = p then v else ev x) L (updL E p R) := by
  have hpt : m.point = p := by simpa using List.find?_some hm
  refine ⟨?_, fun m hm => ⟨ints_fb h.mp hg (h.parts m hm).1, (h.parts m hm).2⟩, ?_, h.ins, ?_⟩
  · have e : (updO (fun p => (markAt L p).map fun m => markV m.cls (pv p) (ev p)) p (markV m.cls (pv p) v)) = fun x => (markAt L x).map fun m => markV m.cls (pv x) (if x = p then v else ev x) := by
      funext x
      unfold updO
      by_cases hx : x = p
      · subst hx; simp [hm]
      · simp [hx]
    rw [e] at hmp
    exact hmp
  · intro m' hm'
    unfold updL
    by_cases hx : m'.point = p
    · rw [if_pos hx, if_pos hx]; exact ⟨ints_fb h.mp hg hv, hR⟩
    · rw [if_neg hx, if_neg hx]; exact ⟨ints_fb h.mp hg (h.ends m' hm').1, (h.ends m' hm').2⟩
  · intro x hx
    unfold updL
    by_cases e : x = p
    · subst e; rw [hm] at hx; cases hx
    · rw [if_neg e]; exact h.noE x hx

theorem DD.lookM {w : World} {bm n : Nat} {pv ev : Int → Value} {L : List Mk} {E : Int → List Int} (h : DD w bm n pv ev L E) {p : Int} (hp : InI p) {m : Mk} (hm : markAt L p = some m) : ∃ a cap a2 cap2, pv p = .slice a m.parts.length cap ∧ ev p = .slice a2 (E p).length cap2 ∧
    (∀ x : World, x.heap = w.heap → (Instr.lookup 47 (.map (some bm)) (.int .i64 p) true).run Tryd.prog x = .ok (.tuple #[markV m.cls (pv p) (ev p), .bool true]) x) ∧ Ints w.heap.size w (pv p) m.parts ∧ m.parts.length ≤ 131072 ∧ ∀ q ∈ m.parts, InI q := by
  have hl2 : ∀ x : World, x.heap = w.heap → _ := fun x hx => (h.mp.block (w' := x) (by rw [hx])).look_ok Tryd.underlying47 (zero77 x) hp
  rw [hm] at hl2
  have hmem : m ∈ L := List.mem_of_find?_eq_some hm
  have hpt : m.point = p := by simpa using List.find?_some hm
  obtain ⟨hi, hlen⟩ := h.parts m hmem
  obtain ⟨hi2, _⟩ := h.ends m hmem
  rw [hpt] at hi hi2
  obtain ⟨a, cap, hv⟩ := hi.val
  obtain ⟨a2, cap2, hv2⟩ := hi2.val
  exact ⟨a, cap, a2, cap2, hv, hv2, hl2, hi, hlen, (h.ins m hmem).2⟩

theorem fillF_cons (has : Int → Bool) (G : Int → List Int) (p : Int) (r : List Int) (E : Int → List Int) : fillF has G (p :: r) E = fillF has G r (if has p then updL E p (joinF E [] (G p)) else E) := rfl
theorem joinF_len (E : Int → List Int) (l : List Int) : (joinF E [] l).length ≤ 19 := by
  rw [joinF_eq E l [] (by simp)]; simp; omega

set_option maxHeartbeats 4000000 in
set_option maxRecDepth 20000 in
theorem fillEnds_any (bd bm n : Nat) (pv ev : Int → Value) (L : List Mk) (E : Int → List Int) (a : Option Addr) (ko cap : Nat) (ord : List Int) (w : World) (hord : ∀ q ∈ ord, InI q) (hbd : Blk w bd 54 #[.map (some bm)]) (hdd : DD w bm n pv ev L E) (hin : Ints w.heap.size w (.slice a ko cap) ord) (hko : ko = ord.length) (hkl : ko ≤ 1000000) (hn : n ≤ 1000000) (hab : ∀ x, Above w.heap.size (ev x)) :
    Calls Tryd.prog 24 #[.pointer (some ⟨bd, 0, none⟩), .slice a ko cap] w fun e w' => e = .returned (.tuple #[]) ∧ (∃ n' ev', DD w' bm n' pv ev' L (fillF (hasAt L) (partsAt L) ord E) ∧ n' ≤ 2000000 ∧ ∀ x, Above w.heap.size (ev' x)) ∧ w.grownBy w' (some bm) := by
  generalize hR : fillF (hasAt L) (partsAt L) ord E = R
  have HR : Hid (fillF (hasAt L) (partsAt L) ord E = R) := hR
  have HKO : Hid (ko = ord.length) := hko
  have hbne : bd ≠ bm := map_ne_blk hbd hdd.mp
  have hg0 : w.grownBy w (some bm) := ⟨rfl, rfl, rfl, Nat.le_refl _, fun _ _ _ => rfl⟩
  clear hR hko
  go_enter Tryd.func24, Tryd.ntmps24
  go_wp2_with fail
  go_loopw [10] (fun i wr => ∃ (k n1 : Nat) (E1 : Int → List Int) (ev1 : Int → Value), k ≤ ko ∧ i = .int .i64 k ∧ DD wr bm n1 pv ev1 L E1 ∧ n1 ≤ 1000000 + k ∧ Hid (fillF (hasAt L) (partsAt L) (ord.drop k) E1 = R) ∧ w.grownBy wr (some bm) ∧ Hid (∀ x, Above w.heap.size (ev1 x))) (fun i _ => ko - (intOf i).toNat)
  case atStart => exact ⟨0, n, E, ev, by omega, rfl, hdd, by omega, by simpa using HR, hg0, hab⟩
  case round =>
    obtain ⟨k, n1, E1, ev1, hk, rfl, hdd1, hn1, HK, hg, HAB⟩ := hrel
    by_cases hlt : k < ko
    · have hltp : k < ord.length := by rw [← HKO.out]; exact hlt
      have hd : ord.drop k = ord[k] :: ord.drop (k + 1) := List.drop_eq_getElem_cons hltp
      obtain ⟨bp, op, hao, hnk, hblt, hcell⟩ := (ints_fb hdd.mp hg hin).cell (fun e => by rw [e] at hltp; simp at hltp)
      have hcj := hcell k hltp
      rw [show ord[k]?.getD 0 = ord[k] by simp [List.getElem?_eq_getElem hltp]] at hcj
      have hqI := hord _ (List.getElem_mem hltp)
      have hKK := HK.out
      rw [hd, fillF_cons] at hKK
      generalize ord[k] = q at hcj hqI hKK
      subst hao
      have hbdr : Blk wr bd 54 #[.map (some bm)] := (hg.block bd hbd.lt (fun e => hbne (by simpa using e))).trans hbd
      have b0 : wr.cell? ⟨bd, 0, none⟩ = some (.map (some bm)) := hbdr.cell 0
      cases hmk : markAt L q with
      | none =>
        have hh : hasAt L q = false := by simp [hasAt, hmk]
        have HK2 : Hid (fillF (hasAt L) (partsAt L) (ord.drop (k + 1)) E1 = R) := by show _ = _; rw [← hKK, hh]; rfl
        have hlo := hdd1.mp.look_ok Tryd.underlying47 (zero77 wr) hqI
        rw [hmk] at hlo
        simp only [Option.map_none, Option.getD_none, Option.isSome_none] at hlo
        have hb1 := (Below.refl wr.heap.size wr).alloc (Nat.le_refl _) (.cells #[.int .i64 0, .slice none 0 0, .slice none 0 0] 73)
        have hdd2 := hdd1.below hb1
        have hg2 := fb_below hg hb1
        clear hcell hd HK hKK hltp hnk HR
        go_wp2_with fail
        go_roundw
        case rel => exact ⟨k + 1, n1, E1, ev1, by omega, by simp, hdd2, by omega, HK2, hg2, HAB⟩
        case measure => simp only [intOf]; omega
      | some m =>
        have hh : hasAt L q = true := by simp [hasAt, hmk]
        have hpa : partsAt L q = m.parts := by simp [partsAt, hmk]
        have HK2 : Hid (fillF (hasAt L) (partsAt L) (ord.drop (k + 1)) (updL E1 q (joinF E1 [] m.parts)) = R) := by show _ = _; rw [← hKK, hh, hpa]; rfl
        obtain ⟨a1, c1, a2, c2, hpv, hev, hlo, hpi, hpl, hpq⟩ := hdd1.lookM hqI hmk
        have hlo' := hlo wr rfl
        rw [hpv, hev] at hlo'
        rw [hpv] at hpi
        have hb1 := (Below.refl wr.heap.size wr).alloc (Nat.le_refl _) (.cells #[.int .i64 m.cls, .slice a1 m.parts.length c1, .slice a2 (E1 q).length c2] 73)
        have hdd2 := hdd1.below hb1
        have hg2 := fb_below hg hb1
        have hbd2 := hbdr.below hb1 hbdr.lt
        have hpi2 := (hpi.below hb1 (Nat.le_refl _)).mono hb1.size
        have hbm2 := Blk.new wr 73 #[.int .i64 m.cls, .slice a1 m.parts.length c1, .slice a2 (E1 q).length c2]
        clear hcell hd HK hKK hltp hnk HR hlo hpi
        go_wp2_with fail
        refine (join_any bd bm n1 pv ev1 L E1 a1 m.parts.length c1 m.parts _ hpq hbd2 hdd2 hpi2 rfl hpl).mono ?_
        rintro e w3 ⟨a3, k3, c3, rfl, hown3, hb3⟩
        have hq3 := hbm2.below hb3 hbm2.lt
        obtain ⟨⟨q0, q1, q2⟩, qf0, qf1, qf2⟩ := three_of hq3
        have hq4 := hq3.set 2 (.slice a3 k3 c3)
        have hown4 : IOwn (w3.setCell ⟨wr.heap.size, 2, none⟩ (.slice a3 k3 c3)) (wr.heap.size + 1) (.slice a3 k3 c3) (joinF E1 [] m.parts) := by
          refine own_setCell (IOwn.mono hown3 (by simp)) (p := ⟨wr.heap.size, 2, none⟩) (by show wr.heap.size < _; omega) _
        have hb4 : Below wr.heap.size wr (w3.setCell ⟨wr.heap.size, 2, none⟩ (.slice a3 k3 c3)) := (hb1.trans (hb3.mono (by simp))).setCell (p := ⟨wr.heap.size, 2, none⟩) (Nat.le_refl _) _
        have hdd4 := hdd1.below hb4
        have hbd4 := hbdr.below hb4 hbdr.lt
        have hg4 := fb_below hg hb4
        clear hbm2 hbd2 hdd2 hpi2 hb3 hown3 hq3 hlo' hb1 hg2
        go_wp2_with fail
        generalize hW4 : w3.setCell ⟨wr.heap.size, 2, none⟩ (.slice a3 k3 c3) = W4 at hq4 hown4 hb4 hdd4 hbd4 hg4 ⊢
        obtain ⟨w5, hup, hmp5, hgr5, hsz5⟩ := hdd4.mp.drew.update Tryd.underlying47 (by unfold maxLen; omega) hqI (markV m.cls (.slice a1 m.parts.length c1) (.slice a3 k3 c3))
        have e0 : W4.drew.cell? ⟨bd, 0, none⟩ = some (.map (some bm)) := hbd4.cell 0
        have e1 : W4.drew.cell? ⟨wr.heap.size, 0, none⟩ = some (.int .i64 m.cls) := hq4.cell 0
        have e2 : W4.drew.cell? ⟨wr.heap.size, 1, none⟩ = some (.slice a1 m.parts.length c1) := hq4.cell 1
        have e3 : W4.drew.cell? ⟨wr.heap.size, 2, none⟩ = some (.slice a3 k3 c3) := hq4.cell 2
        rw [← hpv] at hmp5
        have hdd5 := hdd4.store hmk (IOwn.ints hown4) (joinF_len _ _) hmp5 ⟨hgr5.os, hgr5.tape, hgr5.output, hgr5.size, hgr5.block⟩
        have hg5 : w.grownBy w5 (some bm) := fb_map hg4 ⟨hgr5.os, hgr5.tape, hgr5.output, hgr5.size, hgr5.block⟩
        have HAB5 : Hid (∀ x, Above w.heap.size (if x = q then .slice a3 k3 c3 else ev1 x)) := fun x => by
          by_cases hx : x = q
          · rw [if_pos hx]; exact hown4.above.mono (by have := hg.size; omega)
          · rw [if_neg hx]; exact HAB.out x
        clear hW4 hmp5 hgr5 hsz5 hdd4 hq4 hown4
        go_region
        go_wp2_with fail
        go_roundw
        case rel => exact ⟨k + 1, n1 + 1, _, _, by omega, by simp, hdd5, by omega, HK2, hg5, HAB5⟩
        case measure => simp only [intOf]; omega
    · have hRR : R = E1 := by rw [← HK.out, List.drop_of_length_le (by rw [← HKO.out]; omega)]; rfl
      clear HK
      go_wp2_with fail
      go_end0
      rw [hRR]
      exact ⟨rfl, ⟨_, _, hdd1, by omega, HAB.out⟩, hg⟩

def ShortPost (L : List Mk) (E : Int → List Int) (w : World) (e : Ending) (w' : World) : Prop :=
  Below w.heap.size w w' ∧ match L.find? (fun m => decide (18 < (E m.point).length)) with
    | some m => e = lostE 43 m.line
    | none => e = .returned (.tuple #[])

set_option maxHeartbeats 4000000 in
set_option maxRecDepth 20000 in
theorem needShort_any (bd bm n : Nat) (pv ev : Int → Value) (L : List Mk) (E : Int → List Int) (vp : Value) (w : World) (hL : L.length ≤ 4096) (hbd : Blk w bd 54 #[.map (some bm)]) (hdd : DD w bm n pv ev L E) (hpl : PL w vp L) :
    Calls Tryd.prog 25 #[.pointer (some ⟨bd, 0, none⟩), vp] w fun e w' => ShortPost L E w e w' := by
  obtain ⟨av, cv, rfl⟩ := hpl.val
  generalize hF : L.find? (fun m => decide (18 < (E m.point).length)) = F
  have HF : Hid (L.find? (fun m => decide (18 < (E m.point).length)) = F) := hF
  have HPO : Hid (∀ (e : Ending) (w' : World), (Below w.heap.size w w' ∧ match F with
    | some m => e = lostE 43 m.line
    | none => e = .returned (.tuple #[])) → ShortPost L E w e w') := fun e w' h => by unfold ShortPost; rw [hF]; exact h
  clear hF
  go_enter Tryd.func25, Tryd.ntmps25
  go_wp2_with fail
  go_loopw [8] (fun i wr => ∃ (k : Nat), k ≤ L.length ∧ i = .int .i64 k ∧ Hid ((L.drop k).find? (fun m => decide (18 < (E m.point).length)) = F) ∧ Below w.heap.size w wr) (fun i _ => L.length - (intOf i).toNat)
  case atStart => exact ⟨0, by omega, rfl, by simpa using HF, Below.refl _ _⟩
  case round =>
    clear HF
    obtain ⟨k, hk, rfl, HK, hbel⟩ := hrel
    have hplr := hpl.below hbel
    by_cases hlt : k < L.length
    · rcases hplr with ⟨_, h0⟩ | ⟨gp, cap, he, hgp, hc⟩
      · rw [h0] at hlt; simp at hlt
      simp only [Value.slice.injEq] at he
      obtain ⟨rfl, _, rfl⟩ := he
      obtain ⟨c0, c1⟩ := hc k hlt
      have hd : L.drop k = L[k] :: L.drop (k + 1) := List.drop_eq_getElem_cons hlt
      have hpI := (hdd.ins L[k] (List.getElem_mem hlt)).1
      have hKK := HK.out
      rw [hd, List.find?_cons] at hKK
      generalize L[k] = mk at c0 c1 hpI hKK
      have hb1 := (Below.refl wr.heap.size wr).alloc (Nat.le_refl _) (.cells #[.int .i64 mk.point, .int .i64 mk.line] 80)
      have hb2 : Below w.heap.size w (wr.alloc (.cells #[.int .i64 mk.point, .int .i64 mk.line] 80)) := hbel.trans (hb1.mono hbel.size)
      have hdd2 := hdd.below hb2
      have hbd2 := hbd.below hb2 hbd.lt
      have hbp := Blk.new wr 80 #[.int .i64 mk.point, .int .i64 mk.line]
      obtain ⟨a, k1, cap1, a2, k2, cap2, hl, _, _, hkA, _, _, _, hk2, hk19⟩ := hdd2.look hpI
      have HK2 : Hid (k2 = (E mk.point).length) := hk2
      clear hkA hk2 hc hd HK
      go_upto_region 3 with fail
      generalize hW : wr.alloc (.cells #[.int .i64 mk.point, .int .i64 mk.line] 80) = W at hb1 hb2 hdd2 hbd2 hbp hl ⊢
      have e0 : W.cell? ⟨bd, 0, none⟩ = some (.map (some bm)) := hbd2.cell 0
      have e1 : W.cell? ⟨wr.heap.size, 0, none⟩ = some (.int .i64 mk.point) := hbp.cell 0
      have e2 : W.cell? ⟨wr.heap.size, 1, none⟩ = some (.int .i64 mk.line) := hbp.cell 1
      have hl' : ∀ j, (Instr.lookup 47 (.map (some bm)) (.int .i64 mk.point) false).run Tryd.prog (W.drewN j) = .ok (markV (classAt L mk.point) (.slice a k1 cap1) (.slice a2 k2 cap2)) (W.drewN j) := fun j => hl _ rfl
      have hf2 := field2 (classAt L mk.point) (.slice a k1 cap1) (.slice a2 k2 cap2)
      clear hl hW
      go_quiet (fail)
      have hb3 : Below w.heap.size w (W.drewN nq) := hb2.trans (below_drewN W nq _)
      by_cases hlong : 18 < k2
      · have hFm : F = some mk := by rw [← hKK]; simp [← HK2.out, hlong]
        clear hKK
        go_wp2_with fail
        refine ⟨rfl, HPO.out _ _ ⟨hb3, ?_⟩⟩
        rw [hFm]
      · have HK3 : Hid ((L.drop (k + 1)).find? (fun m => decide (18 < (E m.point).length)) = F) := by show _ = _; rw [← hKK]; simp [← HK2.out, hlong]
        clear hKK
        go_wp2_with fail
        go_roundw
        case rel => exact ⟨k + 1, by omega, by simp, HK3, hb3⟩
        case measure => simp only [intOf]; omega
    · have hFm : F = none := by rw [← HK.out, List.drop_of_length_le (by omega)]; rfl
      clear HK
      go_wp2_with fail
      go_end0
      refine HPO.out _ _ ⟨hbel, ?_⟩
      rw [hFm]

end Go.Proofs.YtadbkkakjekopaaDoor
