/- Contracts and lemmas (nothing is claimed here). -/
import Derived.Test.YtkcnjnccdafbfaaGreatDoorTLd
import Derived.Test.YtkcnjnccdafbfaaGreatDoorJ28
import Derived.Test.YtkcnjnccdafbfaaGreatDoorJ30
namespace Go.Proofs.YtkcnjnccdafbfaaGreatDoor
open Go.RowKit Go.Vf Go.Maps
theorem findT_mem {E : List Ent} (hnd : (E.map Prod.fst).Nodup) {x : Ent} (h : x ∈ E) : findT E x.1 = some x.2 := by
  induction E with
  | nil => cases h
  | cons a r ih =>
    rw [List.map_cons, List.nodup_cons] at hnd
    unfold findT
    rw [List.find?_cons]
    rcases List.mem_cons.1 h with rfl | h
    · simp
    · have hne : a.1 ≠ x.1 := fun e => hnd.1 (by rw [e]; exact List.mem_map_of_mem h)
      have hb : (a.1 == x.1) = false := by simpa using hne
      rw [hb]
      exact ih hnd.2 h
theorem findT_none {E : List Ent} {p : List Int} (h : ∀ x ∈ E, x.1 ≠ p) : findT E p = none := by
  unfold findT
  rw [Option.map_eq_none_iff, List.find?_eq_none]
  intro x hx
  simpa using h x hx
theorem findT_perm {l E : List Ent} (hp : l.Perm E) (hnd : (E.map Prod.fst).Nodup) (p : List Int) : findT l p = findT E p := by
  by_cases h : ∃ x ∈ E, x.1 = p
  · obtain ⟨x, hx, rfl⟩ := h
    rw [findT_mem hnd hx, findT_mem ((hp.map Prod.fst).nodup_iff.2 hnd) (hp.mem_iff.2 hx)]
  · have h2 : ∀ x ∈ E, x.1 ≠ p := fun x hx e => h ⟨x, hx, e⟩
    rw [findT_none h2, findT_none fun x hx => h2 x (hp.mem_iff.1 hx)]
theorem riseE_nodup {l : List Ent} (h : RiseE l) : (l.map Prod.fst).Nodup := List.Pairwise.imp (fun {a b} hab e => by rw [e, aheadL_self] at hab; omega) h
def RFindPost (n₀ : Nat) (r : Option (List El)) (w : World) (e : Ending) (w' : World) : Prop :=
  Below w.heap.size w w' ∧ match r with
    | none => e = .returned (.tuple #[.slice none 0 0, .bool false])
    | some l => ∃ v, e = .returned (.tuple #[v, .bool true]) ∧ Els n₀ w' v l
theorem results33_run {tmps : Array Value} {w : World} {a b : Value} (t2 : tmps[4]?.getD undef = a) (t3 : tmps[5]?.getD undef = b) : (results Tryz.f78 tmps).run Tryz.prog w = .ok (.tuple #[a, b]) w := by
  simp [results, Tryz.results78, go_sem, t2, t3]
set_option maxHeartbeats 4000000 in
set_option maxRecDepth 20000 in
theorem refFindE_any (l : List Ent) (hrise : RiseE l) (hll : l.length ≤ 1048576) (hls : ∀ e ∈ l, e.1.length ≤ 1048576) (v pv : Value) (p : List Int) (hpl : p.length ≤ 1048576) (n₀ n₁ : Nat) (h01 : n₀ ≤ n₁) (w : World) (hn₁ : n₁ ≤ w.heap.size) (hin : NIn n₀ w v l) (hp : Ints n₁ w pv p) :
    Calls Tryz.prog 78 #[.agg #[v], pv] w fun e w' => RFindPost n₀ (findT l p) w e w' := by
  have hn₀ : n₀ ≤ w.heap.size := Nat.le_trans h01 hn₁
  obtain ⟨a, cap, rfl⟩ := hin.val
  have hb0 := (Below.refl w.heap.size w).alloc (Nat.le_refl _) (.cells #[.slice a l.length cap] 37)
  have hbn := Blk.new w 37 #[.slice a l.length cap]
  have HIN : Hid (NIn n₀ w (.slice a l.length cap) l) := hin
  obtain ⟨R, hR⟩ : ∃ R, R = findT l p := ⟨_, rfl⟩
  have HR : Hid (R = findT l p) := hR
  rw [← hR]
  have hsz : (w.alloc (.cells #[.slice a l.length cap] 37)).heap.size = w.heap.size + 1 := by simp
  have hc := refPlaceE_any l hrise hll hls (.slice a l.length cap) pv p hpl n₁ (w.alloc (.cells #[.slice a l.length cap] 37)) (by omega) ((hin.below hb0 hn₀).mono h01) (hp.below hb0 hn₁)
  have HRI : Hid (RiseE l) := hrise
  clear hR hsz hin hp hrise hls
  go_enter Tryz.func78, Tryz.ntmps78
  go_upto_region 1 with fail
  generalize w.alloc (.cells #[.slice a l.length cap] 37) = W at hb0 hbn hc ⊢
  have e0 : W.cell? ⟨w.heap.size, 0, none⟩ = some (.slice a l.length cap) := hbn.cell 0
  go_wp2_with fail
  refine hc.mono ?_
  clear hc e0
  rintro e w1 ⟨k, b, hpl, rfl, hb, hbw⟩
  have HBW : Hid (Below w.heap.size w w1) := hb0.trans (hbw.mono hb0.size)
  rcases hb with ⟨rfl, hk, he⟩ | ⟨rfl, hno⟩
  · have hr : R = some (l[k]).2 := by rw [HR.out, ← he]; exact findT_mem (riseE_nodup HRI.out) (List.getElem_mem hk)
    obtain ⟨ab, off, ea, hlt, hcx⟩ : ∃ ab off, a = some ⟨ab, off, none⟩ ∧ ab < n₀ ∧ ∃ ev, w.cell? ⟨ab, off + k * 2 + 1, none⟩ = some ev ∧ Els n₀ w ev (l[k]).2 := by
      rcases HIN.out with ⟨_, _, _, e⟩ | ⟨ab, off, c, e, hb, hc⟩
      · subst e; exact absurd hk (by simp)
      · obtain ⟨pv, ev, _, _, h3, h4⟩ := hc k hk
        exact ⟨ab, off, (Value.slice.inj e).1, hb, ev, h3, h4⟩
    obtain ⟨ev, h3, h4⟩ := hcx
    subst ea hr
    have q0 : w1.cell? ⟨w.heap.size, 0, none⟩ = some (.slice (some ⟨ab, off, none⟩) l.length cap) := (hbw.cell (p := ⟨w.heap.size, 0, none⟩) hbn.lt).trans (hbn.cell 0)
    have q1 : w1.cell? ⟨ab, off + k * 2 + 1, none⟩ = some ev := (HBW.out.cell (p := ⟨ab, _, none⟩) (show ab < w.heap.size by omega)).trans h3
    have HE : Hid (Els n₀ w1 ev (l[k]).2) := h4.below HBW.out hn₀
    obtain ⟨ln, hln⟩ : ∃ ln, l.length = ln := ⟨_, rfl⟩
    obtain ⟨va, vc, rfl⟩ := h4.val
    generalize (l[k]).2.length = m at q1 HE
    have hkn : k < ln := by omega
    rw [hln] at q0
    clear h3 h4 HR HIN HRI hpl hbn hb0 hbw he
    go_wp2
    refine bodyPost_ret (results33_run rfl rfl) rfl ?_
    exact ⟨HBW.out, _, rfl, HE.out⟩
  · have hr : R = none := by
      rw [HR.out]
      refine findT_none fun x hx => ?_
      obtain ⟨i, hi, rfl⟩ := List.mem_iff_getElem.1 hx
      exact hno i hi
    subst hr
    clear HR HIN HRI hpl hno
    go_wp2
    refine bodyPost_ret (results33_run rfl rfl) rfl ?_
    exact ⟨HBW.out, rfl⟩
structure Sl (n₀ : Nat) (W : World) (b off cap : Nat) (zs : List Int) : Prop where
  lt : b < n₀
  cap : zs.length ≤ cap
  cells : ∀ j, j < zs.length → W.cell? ⟨b, off + j, none⟩ = some (.int .i64 (zs[j]?.getD 0))
  ty : ∃ cs f, W.heap[b]? = some (.cells cs 3 f)
section
variable {n₀ : Nat} {W W' : World} {b off cap : Nat} {zs : List Int}
theorem Sl.ints (h : Sl n₀ W b off cap zs) : Ints n₀ W (.slice (some ⟨b, off, none⟩) zs.length cap) zs := .inr ⟨b, off, cap, rfl, h.lt, h.cells⟩
theorem Sl.below {n : Nat} (h : Sl n₀ W b off cap zs) (hb : Below n W W') (hn : n₀ ≤ n) : Sl n₀ W' b off cap zs :=
  ⟨h.lt, h.cap, fun j hj => (hb.cell (p := ⟨b, off + j, none⟩) (show b < n by have := h.lt; omega)).trans (h.cells j hj), by obtain ⟨cs, f, e⟩ := h.ty; exact ⟨cs, f, (hb.block b (by have := h.lt; omega)).trans e⟩⟩
theorem Sl.mono {n : Nat} (h : Sl n₀ W b off cap zs) (hn : n₀ ≤ n) : Sl n W b off cap zs := ⟨Nat.lt_of_lt_of_le h.lt hn, h.cap, h.cells, h.ty⟩
theorem Sl.take (h : Sl n₀ W b off cap zs) {m : Nat} (hm : m ≤ zs.length) : Sl n₀ W b off cap (zs.take m) :=
  ⟨h.lt, by have := h.cap; rw [List.length_take]; omega, fun j hj => by
    rw [List.length_take] at hj
    rw [h.cells j (by omega), List.getElem?_take_of_lt (by omega)], h.ty⟩
theorem Sl.drop (h : Sl n₀ W b off cap zs) {m o2 : Nat} (hm : m ≤ zs.length) (ho : m < zs.length → o2 = off + m) : Sl n₀ W b o2 (cap - m) (zs.drop m) :=
  ⟨h.lt, by have := h.cap; rw [List.length_drop]; omega, fun j hj => by
    rw [List.length_drop] at hj
    rw [ho (by omega), List.getElem?_drop, ← h.cells (m + j) (by omega)]
    congr 2
    omega, h.ty⟩
theorem IOwn.sl {base : Nat} {v : Value} (h : IOwn W base v zs) (hne : zs ≠ []) : ∃ b cap, v = .slice (some ⟨b, 0, none⟩) zs.length cap ∧ base ≤ b ∧ Sl W.heap.size W b 0 cap zs := by
  rcases h.form with ⟨_, e⟩ | ⟨g, cap, e, hb, hlt, hc, hcell, _⟩
  · exact absurd e hne
  · exact ⟨g, cap, e, hb, hlt, hc, fun j hj => by rw [Nat.zero_add]; exact hcell j hj, (own_ge h (j := g) (by rw [e]; rfl)).2⟩
end
set_option maxHeartbeats 4000000 in
set_option maxRecDepth 20000 in
theorem row_any (va vb : Value) (xs ys : List Int) (n₁ n₂ : Nat) (w : World) (ha : Ints n₁ w va xs) (hb : Ints n₂ w vb ys) (h2 : n₂ ≤ w.heap.size) (hl : xs.length + ys.length ≤ 1099511627776) :
    Calls Tryz.prog 76 #[va, vb] w fun e w' => ∃ v, e = .returned v ∧ IOwn w' w.heap.size v (xs ++ ys) ∧ Below w.heap.size w w' := by
  obtain ⟨aa, ca, rfl⟩ := ints_val ha
  obtain ⟨ab, cb, rfl⟩ := ints_val hb
  have HO0 : Hid (IOwn w w.heap.size (.slice none 0 0) []) := IOwn.nil _ _
  have HA : Hid (Ints n₁ w (.slice aa xs.length ca) xs) := ha
  have HB : Hid (Ints n₂ w (.slice ab ys.length cb) ys) := hb
  clear ha hb
  go_enter Tryz.func76, Tryz.ntmps76
  go_upto_region 3 with (first | (at_builtin; refine wpList_append_any rfl _ _ rfl w.heap.size _ [] rfl HO0.out xs _ _ rfl HA.out (by simp; omega) (Nat.le_refl _) ?_; intro a6 c6 w6 hown6 hb6 _ _))
  have hsz6 : w.heap.size ≤ w6.heap.size := hb6.size
  have HO6 : Hid (IOwn w6 w.heap.size (.slice a6 xs.length c6) xs) := by show IOwn _ _ _ _; simpa using hown6
  have HIB : Hid (Ints n₂ w6 (.slice ab ys.length cb) ys) := HB.out.below hb6 h2
  have HB6 : Hid (Below w.heap.size w w6) := hb6
  clear hown6 hb6
  go_wp2_with (first | (at_builtin; refine wpList_append_any rfl _ _ rfl w.heap.size _ xs rfl HO6.out ys _ _ rfl HIB.out (by omega) hsz6 ?_; intro a7 c7 w7 hown7 hb7 _ _))
  have HO7 : Hid (IOwn w7 w.heap.size (.slice a7 (xs.length + ys.length) c7) (xs ++ ys)) := hown7
  have HB7 : Hid (Below w.heap.size w w7) := HB6.out.trans hb7
  clear hown7 hb7
  go_ret
  exact ⟨_, rfl, HO7.out, HB7.out⟩
structure RT (n₀ : Nat) (W : World) (v : Value) (l : List Ent) : Prop where
  rise : RiseE l
  few : l.length ≤ 1048576
  short : ∀ e ∈ l, e.1.length ≤ 1048576
  ok : ∀ e ∈ l, e.2.length ≤ 16
  inn : NIn n₀ W v l
theorem RT.below {n₀ n : Nat} {W W' : World} {v : Value} {l : List Ent} (h : RT n₀ W v l) (hb : Below n W W') (hn : n₀ ≤ n) : RT n₀ W' v l := ⟨h.rise, h.few, h.short, h.ok, h.inn.below hb hn⟩
theorem RT.mono {n₀ n : Nat} {W : World} {v : Value} {l : List Ent} (h : RT n₀ W v l) (hn : n₀ ≤ n) : RT n W v l := ⟨h.rise, h.few, h.short, h.ok, h.inn.mono hn⟩
theorem rfind_any {l : List Ent} {n₀ n₁ : Nat} {v pv : Value} {p : List Int} {w : World} (h : RT n₀ w v l) (h01 : n₀ ≤ n₁) (hn₁ : n₁ ≤ w.heap.size) (hp : Ints n₁ w pv p) (hpl : p.length ≤ 1048576) :
    Calls Tryz.prog 78 #[.agg #[v], pv] w fun e w' => ∃ u, e = .returned (.tuple #[u, .bool (fndT l p)]) ∧ Els n₀ w' u ((findT l p).getD []) ∧ Below w.heap.size w w' := by
  refine (refFindE_any l h.rise h.few h.short v pv p hpl n₀ n₁ h01 w hn₁ h.inn hp).mono ?_
  rintro e w' ⟨hb, hr⟩
  unfold fndT
  revert hr
  cases findT l p with
  | none => rintro rfl; exact ⟨_, rfl, .inl ⟨none, 0, rfl, rfl⟩, hb⟩
  | some x => rintro ⟨u, rfl, hu⟩; exact ⟨u, rfl, hu, hb⟩
set_option maxHeartbeats 4000000 in
set_option maxRecDepth 20000 in
theorem first_any {l : List Ent} {n₀ : Nat} {v : Value} {b off cap : Nat} {zs : List Int} {w : World} (h : RT n₀ w v l) (hn₀ : n₀ ≤ w.heap.size) (hs : Sl n₀ w b off cap zs) (hz : zs.length ≤ 1000000) :
    Calls Tryz.prog 75 #[.agg #[v], .slice (some ⟨b, off, none⟩) zs.length cap] w fun e w' => e = .returned (.int .i64 (headN (fndT l) zs : Int)) ∧ Below w.heap.size w w' := by
  obtain ⟨va, vc, rfl⟩ := h.inn.val
  have hb0 := (Below.refl w.heap.size w).alloc (Nat.le_refl _) (.cells #[.slice va l.length vc] 37)
  have hbn := Blk.new w 37 #[.slice va l.length vc]
  obtain ⟨M, hM⟩ : ∃ M, M = min 8 zs.length := ⟨_, rfl⟩
  have hmin : min (8 : Int) (zs.length : Int) = (M : Int) := by omega
  have hMl : M ≤ 8 ∧ M ≤ zs.length ∧ zs.length ≤ cap := ⟨by omega, by omega, hs.cap⟩
  have HH : Hid (firstN (fndT l) zs M = headN (fndT l) zs) := by rw [hM]; exact rfl
  have HS : Hid (Sl n₀ w b off cap zs) := hs
  have HT : Hid (RT n₀ w (.slice va l.length vc) l) := h
  clear h hs hM
  obtain ⟨R, hR⟩ : ∃ R, R = headN (fndT l) zs := ⟨_, rfl⟩
  rw [← hR] at HH ⊢
  clear hR
  obtain ⟨zn, hzn⟩ : ∃ zn, zs.length = zn := ⟨_, rfl⟩
  have HZN : Hid (zs.length = zn) := hzn
  rw [hzn] at hmin hMl ⊢
  clear hz hzn
  go_enter Tryz.func75, Tryz.ntmps75
  go_upto_region 1 with fail
  generalize w.alloc (.cells #[.slice va l.length vc] 37) = W at hb0 hbn ⊢
  have c0 : W.cell? ⟨w.heap.size, 0, none⟩ = some (.slice va l.length vc) := hbn.cell 0
  go_wp2_with fail
  go_loopw [5] (fun nv wr => ∃ k : Nat, k ≤ M ∧ nv = .int .i64 k ∧ Hid (firstN (fndT l) zs k = R) ∧ Hid (Below W.heap.size W wr)) (fun nv _ => (intOf nv).toNat)
  case atStart => exact ⟨M, Nat.le_refl _, rfl, HH, Below.refl _ _⟩
  case round =>
    clear HH
    obtain ⟨k, hk1, rfl, HF, HBR⟩ := hrel
    have r0 : wr.cell? ⟨w.heap.size, 0, none⟩ = some (.slice va l.length vc) := (HBR.out.cell (p := ⟨w.heap.size, 0, none⟩) hbn.lt).trans c0
    have HBW : Hid (Below w.heap.size w wr) := hb0.trans (HBR.out.mono hb0.size)
    cases k with
    | zero =>
      obtain rfl : R = 0 := HF.out.symm
      clear HF
      go_wp2_with fail
      go_ret
      exact ⟨rfl, HBW.out⟩
    | succ k =>
      have htk : (zs.take (k + 1)).length = k + 1 := by rw [List.length_take, HZN.out]; omega
      have HFD : Hid (∀ n, Calls Tryz.prog 78 #[.agg #[.slice va l.length vc], .slice (some ⟨b, off, none⟩) (k + 1) cap] (wr.drewN n) fun e w' => ∃ u, e = .returned (.tuple #[u, .bool (fndT l (zs.take (k + 1)))]) ∧ Below (wr.drewN n).heap.size (wr.drewN n) w') := fun n => by
        have hbq := HBW.out.trans ((below_drewQ wr n).mono HBW.out.size)
        have hi := ((HS.out.take (m := k + 1) (by rw [HZN.out]; omega)).below hbq hn₀).ints
        rw [htk] at hi
        refine (rfind_any (HT.out.below hbq hn₀) (Nat.le_refl _) (Nat.le_trans hn₀ hbq.size) hi (by omega)).mono ?_
        rintro e w' ⟨u, q1, _, q2⟩
        exact ⟨u, q1, q2⟩
      have hfd1 := HFD.out 1
      have HFS : Hid (firstN (fndT l) zs (k + 1) = if fndT l (zs.take (k + 1)) = true then k + 1 else firstN (fndT l) zs k) := rfl
      generalize fndT l (zs.take (k + 1)) = fb at HFD hfd1 HFS
      have h1 : wr.drewN 1 = wr.drew := rfl
      rw [h1] at hfd1
      clear htk
      go_upto_region 4 with fail
      go_cut [7] from 15 to 24 (fun v wx => v = .bool fb ∧ Hid (Below wr.heap.size wr wx))
      case first =>
        go_region_with (first | (go_at_call 78; with_reducible refine hfd1.mono ?_; rintro e w2 ⟨u, rfl, hb2⟩))
        all_goals
          go_wp2_with fail
          go_meet
          exact ⟨rfl, (Below.refl _ wr).drew.trans hb2⟩
      case rest =>
        obtain ⟨rfl, HB⟩ := hcut
        have HBC : Hid (Below w.heap.size w wc) := HBW.out.trans (HB.out.mono HBW.out.size)
        have HBC2 : Hid (Below W.heap.size W wc) := HBR.out.trans (HB.out.mono HBR.out.size)
        clear HFD hfd1 HB HBR HBW r0
        cases fb with
        | true =>
          obtain rfl : R = k + 1 := by rw [← HF.out, HFS.out, if_pos rfl]
          clear HF HFS
          go_wp2_with fail
          go_ret
          exact ⟨by simp, HBC.out⟩
        | false =>
          have HF2 : Hid (firstN (fndT l) zs k = R) := by
            show _ = _
            rw [← HF.out, HFS.out]
            rfl
          clear HF HFS
          go_wp2_with fail
          go_roundw
          case rel => exact ⟨k, by omega, by simp, HF2, HBC2⟩
          case measure => simp only [intOf]; omega
end Go.Proofs.YtkcnjnccdafbfaaGreatDoor
