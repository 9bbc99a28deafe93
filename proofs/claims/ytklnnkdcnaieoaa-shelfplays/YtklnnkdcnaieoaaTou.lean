/- What (*node).tour does: it tells the nodes that a span leads to, rising or falling (contracts; nothing is claimed here). -/
import Derived.Test.YtklnnkdcnaieoaaRng
namespace Go.Proofs.Ytklnnkdcnaieoaa
open Go.RowKit Go.Vf
attribute [local go_sem] Oper.semAt_some

/-- The nodes of a tree, rising. -/
def Tr.nds : Tr → List (Nat × Pr)
  | .leaf => []
  | .node b k v l r => l.nds ++ (b, (k, v)) :: r.nds
theorem Tr.nds_toL : ∀ T : Tr, T.nds.map (·.2) = T.toL
  | .leaf => rfl
  | .node b k v l r => by simp [Tr.nds, Tr.toL, Tr.nds_toL l, Tr.nds_toL r]
/-- Those of a span, rising or falling. -/
def tellN (f t : ByteArray) (o back : Bool) (T : Tr) : List (Nat × Pr) := if back then (T.nds.filter (fun x => inSp f t o x.2.1)).reverse else T.nds.filter (fun x => inSp f t o x.2.1)
theorem nds_mem {T : Tr} {x : Nat × Pr} (h : x ∈ T.nds) : x.2 ∈ T.toL := by
  rw [← Tr.nds_toL]
  exact List.mem_map_of_mem h
theorem fil_low {f t : ByteArray} {o : Bool} {b : Nat} {k v : ByteArray} {l r : Tr} (hs : Srt (Tr.node b k v l r).toL) (h : way f t o k < 0) : (Tr.node b k v l r).nds.filter (fun x => inSp f t o x.2.1) = l.nds.filter (fun x => inSp f t o x.2.1) := by
  obtain ⟨_, _, _, h4⟩ := hs.parts
  have hk : inSp f t o k = false := by
    cases hq : inSp f t o k with
    | false => rfl
    | true => have := way_zero.2 hq; omega
  rw [Tr.nds, List.filter_append, List.filter_cons_of_neg (by simp [hk]), filter_nil (l := r.nds) (fun x hx => way_down h (h4 x.2 (nds_mem hx))), List.append_nil]
theorem fil_high {f t : ByteArray} {o : Bool} {b : Nat} {k v : ByteArray} {l r : Tr} (hs : Srt (Tr.node b k v l r).toL) (h : 0 < way f t o k) : (Tr.node b k v l r).nds.filter (fun x => inSp f t o x.2.1) = r.nds.filter (fun x => inSp f t o x.2.1) := by
  obtain ⟨_, _, h3, _⟩ := hs.parts
  have hk : inSp f t o k = false := by
    cases hq : inSp f t o k with
    | false => rfl
    | true => have := way_zero.2 hq; omega
  rw [Tr.nds, List.filter_append, List.filter_cons_of_neg (by simp [hk]), filter_nil (l := l.nds) (fun x hx => way_up h (h3 x.2 (nds_mem hx))), List.nil_append]
theorem fil_here {f t : ByteArray} {o : Bool} {b : Nat} {k v : ByteArray} {l r : Tr} (h : way f t o k = 0) : (Tr.node b k v l r).nds.filter (fun x => inSp f t o x.2.1) = l.nds.filter (fun x => inSp f t o x.2.1) ++ (b, (k, v)) :: r.nds.filter (fun x => inSp f t o x.2.1) := by
  rw [Tr.nds, List.filter_append, List.filter_cons_of_pos (by simpa using way_zero.1 h)]
theorem tell_low {f t : ByteArray} {o : Bool} {b : Nat} {k v : ByteArray} {l r : Tr} (back : Bool) (hs : Srt (Tr.node b k v l r).toL) (h : way f t o k < 0) : tellN f t o back (.node b k v l r) = tellN f t o back l := by
  unfold tellN
  rw [fil_low hs h]
theorem tell_high {f t : ByteArray} {o : Bool} {b : Nat} {k v : ByteArray} {l r : Tr} (back : Bool) (hs : Srt (Tr.node b k v l r).toL) (h : 0 < way f t o k) : tellN f t o back (.node b k v l r) = tellN f t o back r := by
  unfold tellN
  rw [fil_high hs h]
theorem tell_up {f t : ByteArray} {o : Bool} {b : Nat} {k v : ByteArray} {l r : Tr} (h : way f t o k = 0) : tellN f t o false (.node b k v l r) = tellN f t o false l ++ (b, (k, v)) :: tellN f t o false r := by
  unfold tellN
  rw [fil_here h]
  rfl
theorem tell_down {f t : ByteArray} {o : Bool} {b : Nat} {k v : ByteArray} {l r : Tr} (h : way f t o k = 0) : tellN f t o true (.node b k v l r) = tellN f t o true r ++ (b, (k, v)) :: tellN f t o true l := by
  unfold tellN
  rw [fil_here h]
  simp
/-- A node as it is told. -/
def encN (x : Nat × Pr) : Value := .pointer (some ⟨x.1, 0, none⟩)
theorem noBool (b : Bool) : ¬ ((some undef : Option Value) = some (Value.bool b)) := fun h => by cases h
/-- How a tour ends. -/
def TouPost (J Jx : List (Nat × Pr) → World → Prop) (pre T : List (Nat × Pr)) (W : World) (e : Ending) (W' : World) : Prop :=
  (e = .returned (.bool true) ∧ J (pre ++ T) W' ∧ KeepT W W') ∨ (e = .returned (.bool false) ∧ ∃ q, q <+: T ∧ Jx (pre ++ q) W')
/-- What a round is asked. -/
def Rounds (l : Nat) (all : List (Nat × Pr)) (J Jx : List (Nat × Pr) → World → Prop) : Prop :=
  ∀ m pre x W, J pre W → pre ++ [x] <+: all → YieldAt Fence.wide m Try.prog l #[encN x] W fun e W' => (e = .returned (.bool true) ∧ J (pre ++ [x]) W' ∧ KeepT W W') ∨ (e = .returned (.bool false) ∧ Jx (pre ++ [x]) W')

set_option maxRecDepth 100000 in
set_option maxHeartbeats 8000000 in
theorem tour_in (f t : ByteArray) (o back : Bool) (Bi l : Nat) (all : List (Nat × Pr)) (J Jx : List (Nat × Pr) → World → Prop) (hJ : ∀ pre A, J pre A → J pre A.drew) (hY : Rounds l all J Jx) (T : Tr) :
    ∀ (n : Nat) (pre : List (Nat × Pr)) (W : World), TAt W T → Srt T.toL → Blk W Bi 29 #[.string f, .string t, .bool o] → J pre W → pre ++ tellN f t o back T <+: all →
      CallsIn Fence.wide n Try.prog 47 #[.pointer T.ptr, .func (.func 48) #[] #[.pointer (some ⟨Bi, 0, none⟩)], .bool back, .func (.yield l) #[] #[]] W (TouPost J Jx pre (tellN f t o back T) W) := by
  induction T with
  | leaf =>
    intro n pre W hT hs hB hJ0 hpre
    have e0 : Tr.leaf.ptr = none := rfl
    rw [e0]
    refine callsIn_of_wp Try.func47 rfl trivial ?_ rfl
    simp only [Try.ntmps47, List.size_toArray, List.length_cons, List.length_nil, Nat.reduceAdd, Nat.reduceSub, Array.replicate_succ, Array.replicate_zero, List.push_toArray, List.append_toArray, List.nil_append, List.cons_append]
    gi_wp2
    (try go_ret)
    refine .inl ⟨rfl, ?_, KeepT.refl _⟩
    have e : tellN f t o back .leaf = [] := by unfold tellN; cases back <;> rfl
    rw [e, List.append_nil]
    exact hJ0
  | node b k v lt rt ihl ihr =>
    intro n pre W hT hs hB hJ0 hpre
    have e0 : (Tr.node b k v lt rt).ptr = some ⟨b, 0, none⟩ := rfl
    rw [e0]
    have HT : Hid (TAt W (.node b k v lt rt)) := hT
    have HS : Hid (Srt (Tr.node b k v lt rt).toL) := hs
    have HB : Hid (Blk W Bi 29 #[.string f, .string t, .bool o]) := hB
    have HP : Hid (pre ++ tellN f t o back (.node b k v lt rt) <+: all) := hpre
    have HF : Hid (∀ y, Below W.heap.size W y → y.cell? ⟨b, 0, none⟩ = some (.string k) ∧ y.cell? ⟨b, 2, none⟩ = some (.pointer lt.ptr) ∧ y.cell? ⟨b, 3, none⟩ = some (.pointer rt.ptr)) := fun y hy =>
      have q := (hT.old hy).cells
      ⟨q.1, q.2.2.1, q.2.2.2.1⟩
    have HW : Hid (∀ y, Below W.heap.size W y → Calls Try.prog 48 #[.string k, .pointer (some ⟨Bi, 0, none⟩)] y fun e w' => e = .returned (.int .i64 (way f t o k)) ∧ y = w') := fun y hy =>
      have q := (hB.old hy).c3
      into1_any k f t o Bi y q.1 q.2.1 q.2.2
    have HJD : Hid (J pre W.drew) := hJ _ _ hJ0
    clear hT hs hB hpre hJ0
    obtain ⟨TP, HTP⟩ : ∃ TP, Hid (TP = TouPost J Jx pre (tellN f t o back (.node b k v lt rt)) W) := ⟨_, rfl⟩
    rw [← HTP.out]
    refine callsIn_of_wp Try.func47 rfl trivial ?_ rfl
    simp only [Try.ntmps47, List.size_toArray, List.length_cons, List.length_nil, Nat.reduceAdd, Nat.reduceSub, Array.replicate_succ, Array.replicate_zero, List.push_toArray, List.append_toArray, List.nil_append, List.cons_append]
    gi_wp2
    refine wpIn_wide.2 ?_
    go_upto_region 3 with fail
    refine wp_region_held_drew (S := fun x => Below W.heap.size W x) (by kernel_rfl) ((Below.refl _ _).drew) (fun hHelda => ?_)
    refine wpAnyH_takeD (i := 0) (some 14) (v := ?va0) rfl rfl (by kernel_rfl) (by kernel_rfl) (by kernel_rfl) (fun _ _ _ h => h) (Or.inl ⟨by kernel_rfl, ?hya0⟩) (by assumption) ?resta0
    case hya0 => (intro x hSx; (try dsimp only at hSx); go_simp; first | done | with_reducible rfl)
    try simp only [Act.put, List.setIfInBounds_toArray, List.set_cons_zero, List.set_cons_succ]
    refine wpAnyH_takeD (i := 1) (some 15) (v := ?va1) rfl rfl (by kernel_rfl) (by kernel_rfl) (by kernel_rfl) (fun _ _ _ h => h) (Or.inl ⟨by kernel_rfl, ?hya1⟩) (by assumption) ?resta1
    case hya1 => (intro x hSx; (try dsimp only at hSx); go_simp; first | done | with_reducible rfl)
    try simp only [Act.put, List.setIfInBounds_toArray, List.set_cons_zero, List.set_cons_succ]
    refine wpAnyH_takeD (i := 2) (some 16) (v := ?va2) rfl rfl (by kernel_rfl) (by kernel_rfl) (by kernel_rfl) (fun _ _ _ h => h) (Or.inl ⟨by kernel_rfl, ?hya2⟩) (by assumption) ?resta2
    case hya2 => (intro x hSx; (try dsimp only at hSx); go_simp; first | done | with_reducible rfl)
    try simp only [Act.put, List.setIfInBounds_toArray, List.set_cons_zero, List.set_cons_succ]
    refine wpAnyH_takeD (i := 3) (some 17) (v := ?va3) rfl rfl (by kernel_rfl) (by kernel_rfl) (by kernel_rfl) (fun _ _ _ h => h) (Or.inl ⟨by kernel_rfl, ?hya3⟩) (by assumption) ?resta3
    case hya3 => (intro x hSx; (try dsimp only at hSx); go_simp; first | done | with_reducible rfl)
    try simp only [Act.put, List.setIfInBounds_toArray, List.set_cons_zero, List.set_cons_succ]
    refine wpAnyH_takeD (i := 4) (some 18) (v := ?va4) rfl rfl (by kernel_rfl) (by kernel_rfl) (by kernel_rfl) (fun _ _ _ h => h) (Or.inl ⟨by kernel_rfl, ?hya4⟩) (by assumption) ?resta4
    case hya4 => (intro x hSx; (try dsimp only at hSx); go_simp; first | done | with_reducible rfl)
    try simp only [Act.put, List.setIfInBounds_toArray, List.set_cons_zero, List.set_cons_succ]
    refine wpAnyH_takeD (i := 5) (some 19) (v := ?va5) rfl rfl (by kernel_rfl) (by kernel_rfl) (by kernel_rfl) (fun _ _ _ h => h) (Or.inl ⟨by kernel_rfl, ?hya5⟩) (by assumption) ?resta5
    case hya5 => (intro x hSx; (try dsimp only at hSx); obtain ⟨z0, z2, z3⟩ := HF.out x hSx; go_simp; first | done | with_reducible rfl)
    try simp only [Act.put, List.setIfInBounds_toArray, List.set_cons_zero, List.set_cons_succ]
    refine wpAnyH_takeD (i := 7) (some 21) (v := ?va7) rfl rfl (by kernel_rfl) (by kernel_rfl) (by kernel_rfl) (fun _ _ _ h => h) (Or.inl ⟨by kernel_rfl, ?hya7⟩) (by assumption) ?resta7
    case hya7 => (intro x hSx; (try dsimp only at hSx); go_simp; first | done | with_reducible rfl)
    try simp only [Act.put, List.setIfInBounds_toArray, List.set_cons_zero, List.set_cons_succ]
    refine wpAnyH_takeD (i := 8) (some 22) (v := ?va8) rfl rfl (by kernel_rfl) (by kernel_rfl) (by kernel_rfl) (fun _ _ _ h => h) (Or.inl ⟨by kernel_rfl, ?hya8⟩) (by assumption) ?resta8
    case hya8 => (intro x hSx; (try dsimp only at hSx); go_simp; first | done | with_reducible rfl)
    try simp only [Act.put, List.setIfInBounds_toArray, List.set_cons_zero, List.set_cons_succ]
    refine wpAnyH_takeD (i := 9) (some 23) (v := ?va9) rfl rfl (by kernel_rfl) (by kernel_rfl) (by kernel_rfl) (fun _ _ _ h => h) (Or.inl ⟨by kernel_rfl, ?hya9⟩) (by assumption) ?resta9
    case hya9 => (intro x hSx; (try dsimp only at hSx); go_simp; first | done | with_reducible rfl)
    try simp only [Act.put, List.setIfInBounds_toArray, List.set_cons_zero, List.set_cons_succ]
    refine wpAnyH_takeD (i := 10) (some 24) (v := ?va10) rfl rfl (by kernel_rfl) (by kernel_rfl) (by kernel_rfl) (fun _ _ _ h => h) (Or.inl ⟨by kernel_rfl, ?hya10⟩) (by assumption) ?resta10
    case hya10 => (intro x hSx; (try dsimp only at hSx); obtain ⟨z0, z2, z3⟩ := HF.out x hSx; go_simp; first | done | with_reducible rfl)
    try simp only [Act.put, List.setIfInBounds_toArray, List.set_cons_zero, List.set_cons_succ]
    refine wpAnyH_takeD (i := 11) (some 25) (v := ?va11) rfl rfl (by kernel_rfl) (by kernel_rfl) (by kernel_rfl) (fun _ _ _ h => h) (Or.inl ⟨by kernel_rfl, ?hya11⟩) (by assumption) ?resta11
    case hya11 => (intro x hSx; (try dsimp only at hSx); go_simp; first | done | with_reducible rfl)
    try simp only [Act.put, List.setIfInBounds_toArray, List.set_cons_zero, List.set_cons_succ]
    refine wpAnyH_takeD (i := 12) (some 26) (v := ?va12) rfl rfl (by kernel_rfl) (by kernel_rfl) (by kernel_rfl) (fun _ _ _ h => h) (Or.inl ⟨by kernel_rfl, ?hya12⟩) (by assumption) ?resta12
    case hya12 => (intro x hSx; (try dsimp only at hSx); go_simp; first | done | with_reducible rfl)
    try simp only [Act.put, List.setIfInBounds_toArray, List.set_cons_zero, List.set_cons_succ]
    refine wpAnyH_takeD (i := 13) (some 27) (v := ?va13) rfl rfl (by kernel_rfl) (by kernel_rfl) (by kernel_rfl) (fun _ _ _ h => h) (Or.inl ⟨by kernel_rfl, ?hya13⟩) (by assumption) ?resta13
    case hya13 => (intro x hSx; (try dsimp only at hSx); go_simp; first | done | with_reducible rfl)
    try simp only [Act.put, List.setIfInBounds_toArray, List.set_cons_zero, List.set_cons_succ]
    refine wpAnyH_takeD (i := 14) (some 28) (v := ?va14) rfl rfl (by kernel_rfl) (by kernel_rfl) (by kernel_rfl) (fun _ _ _ h => h) (Or.inl ⟨by kernel_rfl, ?hya14⟩) (by assumption) ?resta14
    case hya14 => (intro x hSx; (try dsimp only at hSx); obtain ⟨z0, z2, z3⟩ := HF.out x hSx; go_simp; first | done | with_reducible rfl)
    try simp only [Act.put, List.setIfInBounds_toArray, List.set_cons_zero, List.set_cons_succ]
    refine wpAnyH_ready (rs := [6]) (by kernel_rfl) (by simp) ?_
    refine AllReadyH.cons rfl (fun K hK => ?_) AllReadyH.nil
    go_simp
    go_wp2_with (go_at_call 48; refine (HW.out _ hHelda).mono ?_; rintro e ya6 ⟨rfl, rfl⟩)
    refine hK.out _ _ (hHelda) (fun hHelda6 => ?_)
    clear hK K
    try simp only [Act.put, List.setIfInBounds_toArray, List.set_cons_zero, List.set_cons_succ]
    refine wpAnyH_takeD (i := 15) (some 9) (v := ?va15) rfl rfl (by kernel_rfl) (by kernel_rfl) (by kernel_rfl) (fun _ _ _ h => h) (Or.inl ⟨by kernel_rfl, ?hya15⟩) (by assumption) ?resta15
    case hya15 => (intro x hSx; (try dsimp only at hSx); go_simp; first | done | with_reducible rfl)
    try simp only [Act.put, List.setIfInBounds_toArray, List.set_cons_zero, List.set_cons_succ]
    refine wpAnyH_takeD (i := 16) (some 10) (v := ?va16) rfl rfl (by kernel_rfl) (by kernel_rfl) (by kernel_rfl) (fun _ _ _ h => h) (Or.inl ⟨by kernel_rfl, ?hya16⟩) (by assumption) ?resta16
    case hya16 => (intro x hSx; (try dsimp only at hSx); go_simp; first | done | with_reducible rfl)
    try simp only [Act.put, List.setIfInBounds_toArray, List.set_cons_zero, List.set_cons_succ]
    refine wpAnyH_takeD (i := 17) (some 11) (v := ?va17) rfl rfl (by kernel_rfl) (by kernel_rfl) (by kernel_rfl) (fun _ _ _ h => h) (Or.inl ⟨by kernel_rfl, ?hya17⟩) (by assumption) ?resta17
    case hya17 => (intro x hSx; (try dsimp only at hSx); go_simp; first | done | with_reducible rfl)
    try simp only [Act.put, List.setIfInBounds_toArray, List.set_cons_zero, List.set_cons_succ]
    refine wpAnyH_done (by kernel_rfl) ?_ _
    have HD : Hid (KeepT W W.drew) := KeepT.of hHelda6
    have HT2 : Hid (TAt W.drew (.node b k v lt rt)) := HT.out.keep HD.out.nodes
    have HB2 : Hid (Blk W.drew Bi 29 #[.string f, .string t, .bool o]) := HB.out.old hHelda6
    clear HT HB HF HW hHelda6
    generalize W.drew = V at *
    obtain ⟨s, Hs⟩ : ∃ s, Hid (way f t o k = s) := ⟨_, rfl⟩
    rw [Hs.out]
    have hs3 : s = -1 ∨ s = 0 ∨ s = 1 := by rw [← Hs.out]; exact way_three f t o k
    cases back with
    | false =>
      rcases hs3 with rfl | rfl | rfl
      · skip
        have HE : Hid (tellN f t o false (.node b k v lt rt) = tellN f t o false lt) := tell_low false HS.out (by rw [Hs.out]; decide)
        have h1 := ihl (n - 1) pre V HT2.out.2.1 (HS.out.parts.1) HB2.out HJD.out (by rw [← HE.out]; exact HP.out)
        clear ihl ihr
        gi_wp2
        first | refine ⟨trivial, fun h => (by cases h), h1.mono ?_⟩ | refine ⟨trivial, h1.mono ?_⟩
        clear h1
        rintro e V2 (⟨rfl, hj, hk⟩ | ⟨rfl, q, hq, hx⟩)
        · gi_wp2
          refine ⟨fun _ h => (by cases h), ?_⟩
          gi_wp2
          refine ⟨trivial, ?_⟩
          gi_wp2
          (try go_ret)
          rw [HTP.out]
          exact .inl ⟨rfl, by rw [HE.out]; exact hj, HD.out.trans hk⟩
        · gi_wp2
          all_goals (try exact absurd (by assumption) (noBool _))
          refine ⟨fun _ h => (by cases h), ?_⟩
          gi_wp2
          (try go_ret)
          rw [HTP.out]
          exact .inr ⟨rfl, q, by rw [HE.out]; exact hq, hx⟩
      · skip
        have HE : Hid (tellN f t o false (.node b k v lt rt) = tellN f t o false lt ++ (b, (k, v)) :: tellN f t o false rt) := tell_up Hs.out
        have HP1 : Hid (pre ++ tellN f t o false lt <+: all) := by
          refine List.IsPrefix.trans ?_ HP.out
          rw [HE.out]
          exact ⟨(b, (k, v)) :: tellN f t o false rt, by simp⟩
        have HP2 : Hid (pre ++ tellN f t o false lt ++ [(b, (k, v))] <+: all) := by
          refine List.IsPrefix.trans ?_ HP.out
          rw [HE.out]
          exact ⟨tellN f t o false rt, by simp⟩
        have HP3 : Hid (pre ++ tellN f t o false lt ++ [(b, (k, v))] ++ tellN f t o false rt <+: all) := by
          refine List.IsPrefix.trans ?_ HP.out
          rw [HE.out]
          exact ⟨[], by simp⟩
        have h1 := ihl (n - 1) pre V HT2.out.2.1 (HS.out.parts.1) HB2.out HJD.out HP1.out
        gi_wp2
        first | refine ⟨trivial, fun h => (by cases h), h1.mono ?_⟩ | refine ⟨trivial, h1.mono ?_⟩
        clear h1
        rintro e V2 (⟨rfl, hj, hk⟩ | ⟨rfl, q, hq, hx⟩)
        · obtain ⟨fn, tmps, assign, body, hy, hR⟩ := hY (n - 1) _ (b, (k, v)) V2 hj HP2.out
          dsimp only [encN] at hy
          gi_wp2
          first | refine ⟨fun h => (by cases h), hR.mono ?_⟩ | refine hR.mono ?_
          clear hR hy
          rintro e V3 (⟨rfl, hj3, hk3⟩ | ⟨rfl, hx3⟩)
          · have HK3 : Hid (KeepT V V3) := hk.trans hk3
            have h3 := ihr (n - 1) _ V3 (HT2.out.2.2.keep HK3.out.nodes) (HS.out.parts.2.1) (HK3.out.same _ _ _ (.inr (.inl rfl)) HB2.out) hj3 HP3.out
            clear ihl ihr hk hk3
            gi_wp2
            first | refine ⟨trivial, fun h => (by cases h), h3.mono ?_⟩ | refine ⟨trivial, h3.mono ?_⟩
            clear h3
            rintro e V4 (⟨rfl, hj4, hk4⟩ | ⟨rfl, q, hq, hx⟩)
            · gi_wp2
              (try go_ret)
              rw [HTP.out]
              refine .inl ⟨rfl, ?_, HD.out.trans (HK3.out.trans hk4)⟩
              rw [HE.out]
              simpa using hj4
            · gi_wp2
              (try go_ret)
              rw [HTP.out]
              refine .inr ⟨rfl, tellN f t o false lt ++ (b, (k, v)) :: q, ?_, by simpa using hx⟩
              rw [HE.out]
              obtain ⟨z, hz⟩ := hq
              exact ⟨z, by simp [← hz]⟩
          · gi_wp2
            (try go_ret)
            rw [HTP.out]
            refine .inr ⟨rfl, tellN f t o false lt ++ [(b, (k, v))], ?_, by simpa using hx3⟩
            rw [HE.out]
            exact ⟨tellN f t o false rt, by simp⟩
        · gi_wp2
          all_goals (try exact absurd (by assumption) (noBool _))
          refine ⟨fun _ h => (by cases h), ?_⟩
          gi_wp2
          (try go_ret)
          rw [HTP.out]
          refine .inr ⟨rfl, q, ?_, hx⟩
          rw [HE.out]
          exact hq.trans ⟨(b, (k, v)) :: tellN f t o false rt, rfl⟩
      · skip
        have HE : Hid (tellN f t o false (.node b k v lt rt) = tellN f t o false rt) := tell_high false HS.out (by rw [Hs.out]; decide)
        have h1 := ihr (n - 1) pre V HT2.out.2.2 (HS.out.parts.2.1) HB2.out HJD.out (by rw [← HE.out]; exact HP.out)
        clear ihl ihr
        gi_wp2
        refine ⟨trivial, ?_⟩
        gi_wp2
        refine ⟨fun _ h => (by cases h), ?_⟩
        gi_wp2
        first | refine ⟨trivial, fun h => (by cases h), h1.mono ?_⟩ | refine ⟨trivial, h1.mono ?_⟩
        clear h1
        rintro e V2 (⟨rfl, hj, hk⟩ | ⟨rfl, q, hq, hx⟩)
        · gi_wp2
          (try go_ret)
          rw [HTP.out]
          exact .inl ⟨rfl, by rw [HE.out]; exact hj, HD.out.trans hk⟩
        · gi_wp2
          (try go_ret)
          rw [HTP.out]
          exact .inr ⟨rfl, q, by rw [HE.out]; exact hq, hx⟩
    | true =>
      rcases hs3 with rfl | rfl | rfl
      · skip
        have HE : Hid (tellN f t o true (.node b k v lt rt) = tellN f t o true lt) := tell_low true HS.out (by rw [Hs.out]; decide)
        have h1 := ihl (n - 1) pre V HT2.out.2.1 (HS.out.parts.1) HB2.out HJD.out (by rw [← HE.out]; exact HP.out)
        clear ihl ihr
        gi_wp2
        refine ⟨trivial, ?_⟩
        gi_wp2
        refine ⟨fun _ h => (by cases h), ?_⟩
        gi_wp2
        first | refine ⟨trivial, fun h => (by cases h), h1.mono ?_⟩ | refine ⟨trivial, h1.mono ?_⟩
        clear h1
        rintro e V2 (⟨rfl, hj, hk⟩ | ⟨rfl, q, hq, hx⟩)
        · gi_wp2
          (try go_ret)
          rw [HTP.out]
          exact .inl ⟨rfl, by rw [HE.out]; exact hj, HD.out.trans hk⟩
        · gi_wp2
          (try go_ret)
          rw [HTP.out]
          exact .inr ⟨rfl, q, by rw [HE.out]; exact hq, hx⟩
      · skip
        have HE : Hid (tellN f t o true (.node b k v lt rt) = tellN f t o true rt ++ (b, (k, v)) :: tellN f t o true lt) := tell_down Hs.out
        have HP1 : Hid (pre ++ tellN f t o true rt <+: all) := by
          refine List.IsPrefix.trans ?_ HP.out
          rw [HE.out]
          exact ⟨(b, (k, v)) :: tellN f t o true lt, by simp⟩
        have HP2 : Hid (pre ++ tellN f t o true rt ++ [(b, (k, v))] <+: all) := by
          refine List.IsPrefix.trans ?_ HP.out
          rw [HE.out]
          exact ⟨tellN f t o true lt, by simp⟩
        have HP3 : Hid (pre ++ tellN f t o true rt ++ [(b, (k, v))] ++ tellN f t o true lt <+: all) := by
          refine List.IsPrefix.trans ?_ HP.out
          rw [HE.out]
          exact ⟨[], by simp⟩
        have h1 := ihr (n - 1) pre V HT2.out.2.2 (HS.out.parts.2.1) HB2.out HJD.out HP1.out
        gi_wp2
        first | refine ⟨trivial, fun h => (by cases h), h1.mono ?_⟩ | refine ⟨trivial, h1.mono ?_⟩
        clear h1
        rintro e V2 (⟨rfl, hj, hk⟩ | ⟨rfl, q, hq, hx⟩)
        · obtain ⟨fn, tmps, assign, body, hy, hR⟩ := hY (n - 1) _ (b, (k, v)) V2 hj HP2.out
          dsimp only [encN] at hy
          gi_wp2
          first | refine ⟨fun h => (by cases h), hR.mono ?_⟩ | refine hR.mono ?_
          clear hR hy
          rintro e V3 (⟨rfl, hj3, hk3⟩ | ⟨rfl, hx3⟩)
          · have HK3 : Hid (KeepT V V3) := hk.trans hk3
            have h3 := ihl (n - 1) _ V3 (HT2.out.2.1.keep HK3.out.nodes) (HS.out.parts.1) (HK3.out.same _ _ _ (.inr (.inl rfl)) HB2.out) hj3 HP3.out
            clear ihl ihr hk hk3
            gi_wp2
            first | refine ⟨trivial, fun h => (by cases h), h3.mono ?_⟩ | refine ⟨trivial, h3.mono ?_⟩
            clear h3
            rintro e V4 (⟨rfl, hj4, hk4⟩ | ⟨rfl, q, hq, hx⟩)
            · gi_wp2
              (try go_ret)
              rw [HTP.out]
              refine .inl ⟨rfl, ?_, HD.out.trans (HK3.out.trans hk4)⟩
              rw [HE.out]
              simpa using hj4
            · gi_wp2
              (try go_ret)
              rw [HTP.out]
              refine .inr ⟨rfl, tellN f t o true rt ++ (b, (k, v)) :: q, ?_, by simpa using hx⟩
              rw [HE.out]
              obtain ⟨z, hz⟩ := hq
              exact ⟨z, by simp [← hz]⟩
          · gi_wp2
            (try go_ret)
            rw [HTP.out]
            refine .inr ⟨rfl, tellN f t o true rt ++ [(b, (k, v))], ?_, by simpa using hx3⟩
            rw [HE.out]
            exact ⟨tellN f t o true lt, by simp⟩
        · gi_wp2
          all_goals (try exact absurd (by assumption) (noBool _))
          refine ⟨fun _ h => (by cases h), ?_⟩
          gi_wp2
          (try go_ret)
          rw [HTP.out]
          refine .inr ⟨rfl, q, ?_, hx⟩
          rw [HE.out]
          exact hq.trans ⟨(b, (k, v)) :: tellN f t o true lt, rfl⟩
      · skip
        have HE : Hid (tellN f t o true (.node b k v lt rt) = tellN f t o true rt) := tell_high true HS.out (by rw [Hs.out]; decide)
        have h1 := ihr (n - 1) pre V HT2.out.2.2 (HS.out.parts.2.1) HB2.out HJD.out (by rw [← HE.out]; exact HP.out)
        clear ihl ihr
        gi_wp2
        first | refine ⟨trivial, fun h => (by cases h), h1.mono ?_⟩ | refine ⟨trivial, h1.mono ?_⟩
        clear h1
        rintro e V2 (⟨rfl, hj, hk⟩ | ⟨rfl, q, hq, hx⟩)
        · gi_wp2
          refine ⟨fun _ h => (by cases h), ?_⟩
          gi_wp2
          refine ⟨trivial, ?_⟩
          gi_wp2
          (try go_ret)
          rw [HTP.out]
          exact .inl ⟨rfl, by rw [HE.out]; exact hj, HD.out.trans hk⟩
        · gi_wp2
          all_goals (try exact absurd (by assumption) (noBool _))
          refine ⟨fun _ h => (by cases h), ?_⟩
          gi_wp2
          (try go_ret)
          rw [HTP.out]
          exact .inr ⟨rfl, q, by rw [HE.out]; exact hq, hx⟩
end Go.Proofs.Ytklnnkdcnaieoaa
