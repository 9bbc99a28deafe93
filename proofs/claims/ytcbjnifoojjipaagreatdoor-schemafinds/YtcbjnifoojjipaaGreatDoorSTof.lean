/- What schema's toldField does (a contract; nothing is claimed here). -/
import Derived.Test.YtcbjnifoojjipaaGreatDoorSSay
import Derived.Test.YtcbjnifoojjipaaGreatDoorJ9
namespace Go.Proofs.YtcbjnifoojjipaaGreatDoor
open Go.RowKit Go.Vf
def wordK (k : Nat) : List UInt8 := if k = 1 then [98, 111, 111, 108] else if k = 2 then [105, 110, 116] else if k = 3 then [98, 121, 116, 101, 115] else if k = 4 then [105, 100] else if k = 5 then [110, 97, 109, 101] else if k = 6 then [116, 101, 120, 116] else [116, 117, 112, 108, 101]
def fT (k : Nat) : Nat := if k = 2 then 130 else if k = 3 ∨ k = 5 then 134 else if k = 6 then 138 else 126
theorem kind_at (k : Nat) (h1 : 1 ≤ k) (h7 : k ≤ 7) : ∃ x1 x2 x3 : Nat, ∀ (w : World) (g : Nat), Blk w g 184 kindC → w.cell? ⟨g, k * 5, none⟩ = some (.string (bs (wordK k))) ∧ w.cell? ⟨g, k * 5 + 1, none⟩ = some (.func (.func x1) #[] #[]) ∧ w.cell? ⟨g, k * 5 + 2, none⟩ = some (.func (.func x2) #[] #[]) ∧ w.cell? ⟨g, k * 5 + 3, none⟩ = some (.func (.func x3) #[] #[]) ∧ w.cell? ⟨g, k * 5 + 4, none⟩ = some (.func (.func (fT k)) #[] #[]) := by
  obtain rfl | rfl | rfl | rfl | rfl | rfl | rfl : k = 1 ∨ k = 2 ∨ k = 3 ∨ k = 4 ∨ k = 5 ∨ k = 6 ∨ k = 7 := by omega
  · exact ⟨_, _, _, fun w g h => kind_at1 h⟩
  · exact ⟨_, _, _, fun w g h => kind_at2 h⟩
  · exact ⟨_, _, _, fun w g h => kind_at3 h⟩
  · exact ⟨_, _, _, fun w g h => kind_at4 h⟩
  · exact ⟨_, _, _, fun w g h => kind_at5 h⟩
  · exact ⟨_, _, _, fun w g h => kind_at6 h⟩
  · exact ⟨_, _, _, fun w g h => kind_at7 h⟩
theorem fT_enters (k : Nat) (h1 : 1 ≤ k) (h7 : k ≤ 7) : ∀ args w, (callFunc (fT k) args).run Tryz.prog w = .ok (.enter (fT k) args) w := by
  obtain rfl | rfl | rfl | rfl | rfl | rfl | rfl : k = 1 ∨ k = 2 ∨ k = 3 ∨ k = 4 ∨ k = 5 ∨ k = 6 ∨ k = 7 := by omega
  · exact enters_of Tryz.func126 (by kernel_rfl) rfl
  · exact enters_of Tryz.func130 (by kernel_rfl) rfl
  · exact enters_of Tryz.func134 (by kernel_rfl) rfl
  · exact enters_of Tryz.func126 (by kernel_rfl) rfl
  · exact enters_of Tryz.func134 (by kernel_rfl) rfl
  · exact enters_of Tryz.func138 (by kernel_rfl) rfl
  · exact enters_of Tryz.func126 (by kernel_rfl) rfl
set_option maxHeartbeats 1000000 in
theorem toldBounds_nb (o : Go.Vf.Own) (a : Option Addr) (n c : Nat) (hb : o.bnd = false) (w : World) :
    Calls Tryz.prog 130 #[.agg #[.string o.name, .int .u8 o.kind, .bool o.down, .int .u8 o.nulls, .bool o.bnd, .bool o.ln, .string o.lm, .bool o.hn, .string o.hm, .int .i64 o.most, .int .i64 o.str, .bool o.shf, .bool o.bck, .slice a n c]] w fun e w' => e = .returned (.string (bs (if o.bnd then 32 :: [102, 114, 111, 109] ++ (32 :: natS o.ln o.lm.data.toList) ++ (32 :: [116, 111]) ++ (32 :: natS o.hn o.hm.data.toList) else []))) ∧ Below w.heap.size w w' := by
  rw [if_neg (by simp [hb])]
  have hb1 := (Below.refl w.heap.size w).alloc (Nat.le_refl _) (.cells #[.string o.name, .int .u8 o.kind, .bool o.down, .int .u8 o.nulls, .bool o.bnd, .bool o.ln, .string o.lm, .bool o.hn, .string o.hm, .int .i64 o.most, .int .i64 o.str, .bool o.shf, .bool o.bck, .slice a n c] 48)
  have hN1 := Blk.new w 48 #[.string o.name, .int .u8 o.kind, .bool o.down, .int .u8 o.nulls, .bool o.bnd, .bool o.ln, .string o.lm, .bool o.hn, .string o.hm, .int .i64 o.most, .int .i64 o.str, .bool o.shf, .bool o.bck, .slice a n c]
  have HB : Hid (o.bnd = false) := hb
  clear hb
  go_enter Tryz.func130, Tryz.ntmps130
  go_upto_region 1 with fail
  generalize w.alloc (.cells #[.string o.name, .int .u8 o.kind, .bool o.down, .int .u8 o.nulls, .bool o.bnd, .bool o.ln, .string o.lm, .bool o.hn, .string o.hm, .int .i64 o.most, .int .i64 o.str, .bool o.shf, .bool o.bck, .slice a n c] 48) = w1 at *
  have c4 : w1.cell? ⟨w.heap.size, 4, none⟩ = some (.bool o.bnd) := hN1.cell 4
  rw [HB.out] at c4
  clear HB
  go_wp2_with fail
  go_ret
  exact ⟨rfl, hb1⟩
def toldF (o : Go.Vf.Own) : List UInt8 := (32 :: o.name.data.toList) ++ (32 :: wordK o.kind.toNat) ++ spIf o.down [100, 111, 119, 110] ++ (spIf (o.nulls == 1) [110, 117, 108, 108, 45, 102, 105, 114, 115, 116] ++ spIf (o.nulls == 2) [110, 117, 108, 108, 45, 108, 97, 115, 116]) ++ toldK o
set_option maxHeartbeats 8000000 in
set_option maxRecDepth 20000 in
theorem toldField_of (o : Go.Vf.Own) (k G : Nat) (hk : o.kind = (k : Int)) (h1 : 1 ≤ k) (h7 : k ≤ 7) (hG : fT k = G) (a : Option Addr) (n c : Nat) (L : List UInt8) (hL : L.length ≤ 10000000) (hnm : o.name.size ≤ 10000000) (w : World) (hE : Env w)
    (hT : ∀ W, Env W → Calls Tryz.prog G #[.agg #[.string o.name, .int .u8 o.kind, .bool o.down, .int .u8 o.nulls, .bool o.bnd, .bool o.ln, .string o.lm, .bool o.hn, .string o.hm, .int .i64 o.most, .int .i64 o.str, .bool o.shf, .bool o.bck, .slice a n c]] W fun e w' => e = .returned (.string (bs L)) ∧ Below W.heap.size W w') :
    Calls Tryz.prog 93 #[.agg #[.string o.name, .int .u8 o.kind, .bool o.down, .int .u8 o.nulls, .bool o.bnd, .bool o.ln, .string o.lm, .bool o.hn, .string o.hm, .int .i64 o.most, .int .i64 o.str, .bool o.shf, .bool o.bck, .slice a n c]] w fun e w' => e = .returned (.string (bs ((32 :: o.name.data.toList) ++ (32 :: wordK k) ++ spIf o.down [100, 111, 119, 110] ++ (spIf (o.nulls == 1) [110, 117, 108, 108, 45, 102, 105, 114, 115, 116] ++ spIf (o.nulls == 2) [110, 117, 108, 108, 45, 108, 97, 115, 116]) ++ L))) ∧ Below w.heap.size w w' := by
  have hN0 := Blk.new w 48 #[.string o.name, .int .u8 o.kind, .bool o.down, .int .u8 o.nulls, .bool o.bnd, .bool o.ln, .string o.lm, .bool o.hn, .string o.hm, .int .i64 o.most, .int .i64 o.str, .bool o.shf, .bool o.bck, .slice a n c]
  have hb0 := (Below.refl w.heap.size w).alloc (Nat.le_refl _) (.cells #[.string o.name, .int .u8 o.kind, .bool o.down, .int .u8 o.nulls, .bool o.bnd, .bool o.ln, .string o.lm, .bool o.hn, .string o.hm, .int .i64 o.most, .int .i64 o.str, .bool o.shf, .bool o.bck, .slice a n c] 48)
  obtain ⟨x1, x2, x3, hat⟩ := kind_at k h1 h7
  have heg := fT_enters k h1 h7
  rw [hG] at hat heg
  have hwl : (wordK k).length ≤ 5 := by
    obtain rfl | rfl | rfl | rfl | rfl | rfl | rfl : k = 1 ∨ k = 2 ∨ k = 3 ∨ k = 4 ∨ k = 5 ∨ k = 6 ∨ k = 7 := by omega
    all_goals decide
  generalize wordK k = WK at *
  have hk5 : (k : Int) < 8 := by omega
  have hk0 : (0 : Int) ≤ (k : Int) := by omega
  obtain ⟨NM, hNM⟩ : ∃ NM, o.name.data.toList = NM := ⟨_, rfl⟩
  have hnb : o.name = bs NM := by rw [← hNM]; apply ByteArray.ext; simp [bs]
  have hnl : NM.length ≤ 10000000 := by rw [← hNM, ← Lib.size_eq]; exact hnm
  rw [hNM]
  have e1 : ∀ W, Calls Tryz.prog 116 #[.bool (o.nulls == 1), .string (bs [110, 117, 108, 108, 45, 102, 105, 114, 115, 116])] W fun e w' => e = .returned (.string (bs (spIf (o.nulls == 1) [110, 117, 108, 108, 45, 102, 105, 114, 115, 116]))) ∧ w' = W := fun W => saidIf_any _ _ (by simp) W
  have e2 : ∀ W, Calls Tryz.prog 116 #[.bool (o.nulls == 2), .string (bs [110, 117, 108, 108, 45, 108, 97, 115, 116])] W fun e w' => e = .returned (.string (bs (spIf (o.nulls == 2) [110, 117, 108, 108, 45, 108, 97, 115, 116]))) ∧ w' = W := fun W => saidIf_any _ _ (by simp) W
  have e3 : ∀ W, Calls Tryz.prog 116 #[.bool o.down, .string (bs [100, 111, 119, 110])] W fun e w' => e = .returned (.string (bs (spIf o.down [100, 111, 119, 110]))) ∧ w' = W := fun W => saidIf_any _ _ (by simp) W
  have l1 : (spIf (o.nulls == 1) [110, 117, 108, 108, 45, 102, 105, 114, 115, 116]).length ≤ 11 := by cases (o.nulls == 1) <;> simp [spIf]
  have l2 : (spIf (o.nulls == 2) [110, 117, 108, 108, 45, 108, 97, 115, 116]).length ≤ 11 := by cases (o.nulls == 2) <;> simp [spIf]
  have l3 : (spIf o.down [100, 111, 119, 110]).length ≤ 11 := by cases o.down <;> simp [spIf]
  generalize spIf (o.nulls == 1) [110, 117, 108, 108, 45, 102, 105, 114, 115, 116] = N1 at *
  generalize spIf (o.nulls == 2) [110, 117, 108, 108, 45, 108, 97, 115, 116] = N2 at *
  generalize spIf o.down [100, 111, 119, 110] = D at *
  have hf : bs ((32 :: NM) ++ (32 :: WK) ++ D ++ (N1 ++ N2) ++ L) = bs (32 :: NM) ++ bs (32 :: WK) ++ bs D ++ (bs N1 ++ bs N2) ++ bs L := by rw [bs_add, bs_add, bs_add, bs_add, bs_add]
  rw [hf]
  have HK : Hid (o.kind = (k : Int)) := hk
  have sN : ∀ W, Calls Tryz.prog 69 #[.string o.name] W fun e w' => e = .returned (.string (bs (32 :: NM))) ∧ w' = W := fun W => by rw [hnb]; exact said_any NM (by omega) W
  clear hf hk hnb hNM hG
  have hkd := kinds_any
  go_enter Tryz.func93, Tryz.ntmps93
  go_upto_region 1 with fail
  generalize w.alloc (.cells #[.string o.name, .int .u8 o.kind, .bool o.down, .int .u8 o.nulls, .bool o.bnd, .bool o.ln, .string o.lm, .bool o.hn, .string o.hm, .int .i64 o.most, .int .i64 o.str, .bool o.shf, .bool o.bck, .slice a n c] 48) = w1 at *
  have hlt : w.heap.size < w1.heap.size := hN0.lt
  obtain ⟨c0, c1, c2, c3, c4, c5, c6, c7, c8, c9, c10, c11, c12, c13⟩ := hN0.c14
  rw [HK.out] at c1
  clear HK
  go_cut [3] from 5 (fun v wx => KVar w1 (.string (bs WK)) (.func (.func x1) #[] #[]) (.func (.func x2) #[] #[]) (.func (.func x3) #[] #[]) (.func (.func G) #[] #[]) v wx)
  case first =>
    have hc1 : ∀ x, Below w1.heap.size w1 x → x.cell? ⟨w.heap.size, 1, none⟩ = some (.int .u8 (k : Int)) := fun x h => (h.cell (p := ⟨w.heap.size, 1, none⟩) hlt).trans c1
    have HKeep : Hid (∀ x y, Below w1.heap.size w1 x → Below x.heap.size x y → Below w1.heap.size w1 y) := fun x y h1 h2 => h1.trans (h2.mono h1.size)
    clear c0 c1 c2 c3 c4 c5 c6 c7 c8 c9 c10 c11 c12 c13
    refine wp_region_held_drew (S := fun x => Below w1.heap.size w1 x) (by kernel_rfl) ((Below.refl _ _).drew) (fun hHeld => ?_)
    refine wpAnyH_takeD (i := 1) (some 6) (v := .pointer (some ⟨w.heap.size, 1, none⟩)) rfl rfl (by kernel_rfl) (by kernel_rfl) (by kernel_rfl) (fun _ _ _ h => h) (Or.inl ⟨by kernel_rfl, ?hy1⟩) (by assumption) ?rest1
    case hy1 => (intro x hSx; (try dsimp only at hSx); go_simp; first | done | with_reducible rfl)
    try simp only [Act.put, List.setIfInBounds_toArray, List.set_cons_zero, List.set_cons_succ]
    refine wpAnyH_takeD (i := 2) (some 7) (v := .int .u8 (k : Int)) rfl rfl (by kernel_rfl) (by kernel_rfl) (by kernel_rfl) (fun _ _ _ h => h) (Or.inl ⟨by kernel_rfl, ?hy2⟩) (by assumption) ?rest2
    case hy2 => (intro x hSx; have hq := hc1 _ hSx; (try dsimp only at hSx); go_simp; first | done | with_reducible rfl)
    try simp only [Act.put, List.setIfInBounds_toArray, List.set_cons_zero, List.set_cons_succ]
    refine wpAnyH_ready (rs := [0, 5]) (by kernel_rfl) (by simp) ?_
    refine AllReadyH.cons rfl (fun K hK => ?_) (AllReadyH.cons rfl (fun K hK => ?_) AllReadyH.nil)
    · skip
      go_simp
      go_wp2_with (go_at_call 108; refine (hkd _).mono ?_; rintro e y ⟨g, rfl, hg, hKd, hby⟩)
      refine hK.out _ _ (HKeep.out _ _ hHeld hby) (fun hH1 => ?_)
      clear hK K
      try simp only [Act.put, List.setIfInBounds_toArray, List.set_cons_zero, List.set_cons_succ]
      obtain ⟨q0, q1, q2, q3, q4⟩ := hat _ _ hKd
      have hgl := hKd.lt
      refine wpAnyH_takeD (i := 3) (some 8) (v := .pointer (some ⟨g, k * 5, none⟩)) rfl rfl (by kernel_rfl) (by kernel_rfl) (by kernel_rfl) (fun _ _ _ h => h) (Or.inl ⟨by kernel_rfl, ?hy3⟩) (by assumption) ?rest3
      case hy3 => (intro x hSx; (try dsimp only at hSx); go_simp; first | done | with_reducible rfl)
      try simp only [Act.put, List.setIfInBounds_toArray, List.set_cons_zero, List.set_cons_succ]
      refine wpAnyH_ready (rs := [4, 5]) (by kernel_rfl) (by simp) ?_
      refine AllReadyH.cons rfl (fun K hK => ?_) (AllReadyH.cons rfl (fun K hK => ?_) AllReadyH.nil)
      · skip
        go_simp
        refine hK.out _ _ hH1 (fun hH2 => ?_)
        clear hK K
        try simp only [Act.put, List.setIfInBounds_toArray, List.set_cons_zero, List.set_cons_succ]
        refine wpAnyH_ready (rs := [5]) (by kernel_rfl) (by simp) ?_
        refine AllReadyH.cons rfl (fun K hK => ?_) AllReadyH.nil
        go_simp
        refine hK.out _ _ (hH2.alloc hH2.size _) (fun hH3 => ?_)
        clear hK K
        try simp only [Act.put, List.setIfInBounds_toArray, List.set_cons_zero, List.set_cons_succ]
        obtain ⟨n0, n1, n2, n3, n4, n5, n6, n7, n8, n9⟩ := kv_new y
        refine wpAnyH_ready (rs := [6]) (by kernel_rfl) (by simp) ?_
        refine AllReadyH.cons rfl (fun K hK => ?_) AllReadyH.nil
        go_simp
        refine hK.out _ _ (hH2.alloc hH2.size _) (fun hEnd => ?_)
        clear hK K
        try simp only [Act.put, List.setIfInBounds_toArray, List.set_cons_zero, List.set_cons_succ]
        refine wpAnyH_done (by kernel_rfl) ?_ _
        go_wp2_with fail
        go_meet
        case rel => exact kvar_new _ _ _ _ _ hH2
      · skip
        go_simp
        refine hK.out _ _ (hH1.alloc hH1.size _) (fun hH2 => ?_)
        clear hK K
        try simp only [Act.put, List.setIfInBounds_toArray, List.set_cons_zero, List.set_cons_succ]
        obtain ⟨n0, n1, n2, n3, n4, n5, n6, n7, n8, n9⟩ := kv_new y
        refine wpAnyH_ready (rs := [4]) (by kernel_rfl) (by simp) ?_
        refine AllReadyH.cons rfl (fun K hK => ?_) AllReadyH.nil
        go_simp
        refine hK.out _ _ hH2 (fun hH3 => ?_)
        clear hK K
        try simp only [Act.put, List.setIfInBounds_toArray, List.set_cons_zero, List.set_cons_succ]
        refine wpAnyH_ready (rs := [6]) (by kernel_rfl) (by simp) ?_
        refine AllReadyH.cons rfl (fun K hK => ?_) AllReadyH.nil
        go_simp
        refine hK.out _ _ (hH1.alloc hH1.size _) (fun hEnd => ?_)
        clear hK K
        try simp only [Act.put, List.setIfInBounds_toArray, List.set_cons_zero, List.set_cons_succ]
        refine wpAnyH_done (by kernel_rfl) ?_ _
        go_wp2_with fail
        go_meet
        case rel => exact kvar_new _ _ _ _ _ hH1
    · skip
      go_simp
      refine hK.out _ _ (hHeld.alloc hHeld.size _) (fun hH1 => ?_)
      clear hK K
      try simp only [Act.put, List.setIfInBounds_toArray, List.set_cons_zero, List.set_cons_succ]
      refine wpAnyH_ready (rs := [0]) (by kernel_rfl) (by simp) ?_
      refine AllReadyH.cons rfl (fun K hK => ?_) AllReadyH.nil
      go_simp
      go_wp2_with (go_at_call 108; refine (hkd _).mono ?_; rintro e y ⟨g, rfl, hg, hKd, hby⟩)
      refine hK.out _ _ (HKeep.out _ _ hH1 hby) (fun hH2 => ?_)
      clear hK K
      try simp only [Act.put, List.setIfInBounds_toArray, List.set_cons_zero, List.set_cons_succ]
      obtain ⟨q0, q1, q2, q3, q4⟩ := hat _ _ hKd
      have hgl := hKd.lt
      obtain ⟨n0, n1, n2, n3, n4, n5, n6, n7, n8, n9⟩ := kv_kept hby
      refine wpAnyH_takeD (i := 3) (some 8) (v := .pointer (some ⟨g, k * 5, none⟩)) rfl rfl (by kernel_rfl) (by kernel_rfl) (by kernel_rfl) (fun _ _ _ h => h) (Or.inl ⟨by kernel_rfl, ?hyb3⟩) (by assumption) ?restb3
      case hyb3 => (intro x hSx; (try dsimp only at hSx); go_simp; first | done | with_reducible rfl)
      try simp only [Act.put, List.setIfInBounds_toArray, List.set_cons_zero, List.set_cons_succ]
      refine wpAnyH_ready (rs := [4]) (by kernel_rfl) (by simp) ?_
      refine AllReadyH.cons rfl (fun K hK => ?_) AllReadyH.nil
      go_simp
      refine hK.out _ _ hH2 (fun hH3 => ?_)
      clear hK K
      try simp only [Act.put, List.setIfInBounds_toArray, List.set_cons_zero, List.set_cons_succ]
      refine wpAnyH_ready (rs := [6]) (by kernel_rfl) (by simp) ?_
      refine AllReadyH.cons rfl (fun K hK => ?_) AllReadyH.nil
      go_simp
      refine hK.out _ _ ((((((hH2.setCell (Nat.le_refl _) _).setCell (Nat.le_refl _) _).setCell (Nat.le_refl _) _).setCell (Nat.le_refl _) _).setCell (Nat.le_refl _) _)) (fun hEnd => ?_)
      clear hK K
      try simp only [Act.put, List.setIfInBounds_toArray, List.set_cons_zero, List.set_cons_succ]
      refine wpAnyH_done (by kernel_rfl) ?_ _
      go_wp2_with fail
      go_meet
      case rel => exact kvar_set _ _ _ _ _ (((Below.refl _ (World.alloc w1 _)).drew).trans hby)
  case rest =>
    obtain ⟨g, rfl, hg, hK, hb2⟩ := hcut
    have hNc := hN0.old hb2
    clear c0 c1 c2 c3 c4 c5 c6 c7 c8 c9 c10 c11 c12 c13 hkd hat
    have n3 : wc.cell? ⟨w.heap.size, 3, none⟩ = some (.int .u8 o.nulls) := hNc.cell 3
    have z1 : (bs N1).size ≤ 100 := by rw [bs_size]; omega
    have z2 : (bs N2).size ≤ 100 := by rw [bs_size]; omega
    have y1 : (⟨#[110, 117, 108, 108, 45, 102, 105, 114, 115, 116]⟩ : ByteArray) = bs [110, 117, 108, 108, 45, 102, 105, 114, 115, 116] := rfl
    have y2 : (⟨#[110, 117, 108, 108, 45, 108, 97, 115, 116]⟩ : ByteArray) = bs [110, 117, 108, 108, 45, 108, 97, 115, 116] := rfl
    go_upto_region 2 with fail
    go_quiet (first | (go_at_call 116; first | exact Calls.quiet_of_same (e1 _) | exact Calls.quiet_of_same (e2 _)))
    go_upto_region 3 with fail
    have hEc := (hE.old hb0).old hb2
    have HC : Hid (∀ zz, Below wc.heap.size wc zz → Blk zz w.heap.size 48 #[.string o.name, .int .u8 o.kind, .bool o.down, .int .u8 o.nulls, .bool o.bnd, .bool o.ln, .string o.lm, .bool o.hn, .string o.hm, .int .i64 o.most, .int .i64 o.str, .bool o.shf, .bool o.bck, .slice a n c] ∧ Blk zz g 184 #[.string (bs WK), .func (.func x1) #[] #[], .func (.func x2) #[] #[], .func (.func x3) #[] #[], .func (.func G) #[] #[]]) := fun zz h => ⟨hNc.old h, hK.old h⟩
    have HKeep : Hid (∀ x y, Below wc.heap.size wc x → Below x.heap.size x y → Below wc.heap.size wc y) := fun x y h1 h2 => h1.trans (h2.mono h1.size)
    have HEn : Hid (∀ x, Below wc.heap.size wc x → Env x) := fun x h => hEc.old h
    have hfin0 := hb0.trans (hb2.mono hb0.size)
    have r1 : (bs (32 :: NM)).size ≤ 100000000 := by rw [bs_size]; simp; omega
    have r2 : (bs (32 :: WK)).size ≤ 100000000 := by rw [bs_size]; simp; omega
    have r3 : (bs D).size ≤ 100000000 := by rw [bs_size]; omega
    have r4 : (bs N1 ++ bs N2).size ≤ 100000000 := by rw [bs_add, bs_size]; simp; omega
    have r5 : (bs L).size ≤ 100000000 := by rw [bs_size]; omega
    have r6 : (bs (32 :: NM) ++ bs (32 :: WK)).size ≤ 100000000 := by rw [bs_add, bs_size]; simp; omega
    have r7 : (bs (32 :: NM) ++ bs (32 :: WK) ++ bs D).size ≤ 100000000 := by rw [bs_add, bs_add, bs_size]; simp; omega
    have r8 : (bs (32 :: NM) ++ bs (32 :: WK) ++ bs D ++ (bs N1 ++ bs N2)).size ≤ 100000000 := by rw [bs_add, bs_add, bs_add, bs_add, bs_size]; simp; omega
    have y3 : (⟨#[100, 111, 119, 110]⟩ : ByteArray) = bs [100, 111, 119, 110] := rfl
    clear n3 y1 y2 hNc hK hN0 hb0 hb2 e1 e2
    refine wp_region_held_drew (S := fun x => Below wc.heap.size wc x) (by kernel_rfl) ⟨rfl, rfl, rfl, Nat.le_refl _, fun _ _ => rfl⟩ (fun hHeld => ?_)
    refine wpAnyH_takeD (i := 0) (some 19) (v := .pointer (some ⟨w.heap.size, 0, none⟩)) rfl rfl (by kernel_rfl) (by kernel_rfl) (by kernel_rfl) (fun _ _ _ h => h) (Or.inl ⟨by kernel_rfl, ?hya0⟩) (by assumption) ?resta0
    case hya0 => (intro zz hSx; (try dsimp only at hSx); go_simp; first | done | omega | with_reducible rfl)
    try simp only [Act.put, List.setIfInBounds_toArray, List.set_cons_zero, List.set_cons_succ]
    refine wpAnyH_takeD (i := 1) (some 20) (v := .string o.name) rfl rfl (by kernel_rfl) (by kernel_rfl) (by kernel_rfl) (fun _ _ _ h => h) (Or.inl ⟨by kernel_rfl, ?hya1⟩) (by assumption) ?resta1
    case hya1 => (intro zz hSx; obtain ⟨qF, qK⟩ := HC.out zz hSx; obtain ⟨q0, q1, q2, q3, q4, q5, q6, q7, q8, q9, q10, q11, q12, q13⟩ := qF.c14; have k0 := qK.cell 0; have k4 := qK.cell 4; simp at k0 k4; (try dsimp only at hSx); go_simp; first | done | omega | with_reducible rfl)
    try simp only [Act.put, List.setIfInBounds_toArray, List.set_cons_zero, List.set_cons_succ]
    refine wpAnyH_takeD (i := 3) (some 22) (v := .pointer (some ⟨g, 0, none⟩)) rfl rfl (by kernel_rfl) (by kernel_rfl) (by kernel_rfl) (fun _ _ _ h => h) (Or.inl ⟨by kernel_rfl, ?hya3⟩) (by assumption) ?resta3
    case hya3 => (intro zz hSx; (try dsimp only at hSx); go_simp; first | done | omega | with_reducible rfl)
    try simp only [Act.put, List.setIfInBounds_toArray, List.set_cons_zero, List.set_cons_succ]
    refine wpAnyH_takeD (i := 4) (some 23) (v := .string (bs WK)) rfl rfl (by kernel_rfl) (by kernel_rfl) (by kernel_rfl) (fun _ _ _ h => h) (Or.inl ⟨by kernel_rfl, ?hya4⟩) (by assumption) ?resta4
    case hya4 => (intro zz hSx; obtain ⟨qF, qK⟩ := HC.out zz hSx; obtain ⟨q0, q1, q2, q3, q4, q5, q6, q7, q8, q9, q10, q11, q12, q13⟩ := qF.c14; have k0 := qK.cell 0; have k4 := qK.cell 4; simp at k0 k4; (try dsimp only at hSx); go_simp; first | done | omega | with_reducible rfl)
    try simp only [Act.put, List.setIfInBounds_toArray, List.set_cons_zero, List.set_cons_succ]
    refine wpAnyH_takeD (i := 7) (some 26) (v := .pointer (some ⟨w.heap.size, 2, none⟩)) rfl rfl (by kernel_rfl) (by kernel_rfl) (by kernel_rfl) (fun _ _ _ h => h) (Or.inl ⟨by kernel_rfl, ?hya7⟩) (by assumption) ?resta7
    case hya7 => (intro zz hSx; (try dsimp only at hSx); go_simp; first | done | omega | with_reducible rfl)
    try simp only [Act.put, List.setIfInBounds_toArray, List.set_cons_zero, List.set_cons_succ]
    refine wpAnyH_takeD (i := 8) (some 27) (v := .bool o.down) rfl rfl (by kernel_rfl) (by kernel_rfl) (by kernel_rfl) (fun _ _ _ h => h) (Or.inl ⟨by kernel_rfl, ?hya8⟩) (by assumption) ?resta8
    case hya8 => (intro zz hSx; obtain ⟨qF, qK⟩ := HC.out zz hSx; obtain ⟨q0, q1, q2, q3, q4, q5, q6, q7, q8, q9, q10, q11, q12, q13⟩ := qF.c14; have k0 := qK.cell 0; have k4 := qK.cell 4; simp at k0 k4; (try dsimp only at hSx); go_simp; first | done | omega | with_reducible rfl)
    try simp only [Act.put, List.setIfInBounds_toArray, List.set_cons_zero, List.set_cons_succ]
    refine wpAnyH_takeD (i := 11) (some 30) (v := .string (bs N1 ++ bs N2)) rfl rfl (by kernel_rfl) (by kernel_rfl) (by kernel_rfl) (fun _ _ _ h => h) (Or.inl ⟨by kernel_rfl, ?hya11⟩) (by assumption) ?resta11
    case hya11 => (intro zz hSx; (try dsimp only at hSx); go_simp; first | done | omega | with_reducible rfl)
    try simp only [Act.put, List.setIfInBounds_toArray, List.set_cons_zero, List.set_cons_succ]
    refine wpAnyH_takeD (i := 13) (some 32) (v := .pointer (some ⟨g, 4, none⟩)) rfl rfl (by kernel_rfl) (by kernel_rfl) (by kernel_rfl) (fun _ _ _ h => h) (Or.inl ⟨by kernel_rfl, ?hya13⟩) (by assumption) ?resta13
    case hya13 => (intro zz hSx; (try dsimp only at hSx); go_simp; first | done | omega | with_reducible rfl)
    try simp only [Act.put, List.setIfInBounds_toArray, List.set_cons_zero, List.set_cons_succ]
    refine wpAnyH_takeD (i := 14) (some 33) (v := .func (.func G) #[] #[]) rfl rfl (by kernel_rfl) (by kernel_rfl) (by kernel_rfl) (fun _ _ _ h => h) (Or.inl ⟨by kernel_rfl, ?hya14⟩) (by assumption) ?resta14
    case hya14 => (intro zz hSx; obtain ⟨qF, qK⟩ := HC.out zz hSx; obtain ⟨q0, q1, q2, q3, q4, q5, q6, q7, q8, q9, q10, q11, q12, q13⟩ := qF.c14; have k0 := qK.cell 0; have k4 := qK.cell 4; simp at k0 k4; (try dsimp only at hSx); go_simp; first | done | omega | with_reducible rfl)
    try simp only [Act.put, List.setIfInBounds_toArray, List.set_cons_zero, List.set_cons_succ]
    refine wpAnyH_takeD (i := 15) (some 34) (v := .agg #[.string o.name, .int .u8 o.kind, .bool o.down, .int .u8 o.nulls, .bool o.bnd, .bool o.ln, .string o.lm, .bool o.hn, .string o.hm, .int .i64 o.most, .int .i64 o.str, .bool o.shf, .bool o.bck, .slice a n c]) rfl rfl (by kernel_rfl) (by kernel_rfl) (by kernel_rfl) (fun _ _ _ h => h) (Or.inl ⟨by kernel_rfl, ?hya15⟩) (by assumption) ?resta15
    case hya15 => (intro zz hSx; obtain ⟨qF, qK⟩ := HC.out zz hSx; obtain ⟨q0, q1, q2, q3, q4, q5, q6, q7, q8, q9, q10, q11, q12, q13⟩ := qF.c14; have k0 := qK.cell 0; have k4 := qK.cell 4; simp at k0 k4; (try dsimp only at hSx); go_simp; first | done | omega | with_reducible rfl)
    try simp only [Act.put, List.setIfInBounds_toArray, List.set_cons_zero, List.set_cons_succ]
    refine wpAnyH_ready (rs := [2]) (by kernel_rfl) (by simp) ?_
    refine AllReadyH.cons rfl (fun K hK => ?_) AllReadyH.nil
    go_simp
    go_wp2_with (go_at_call 69; refine (sN _).mono ?_; rintro _ y2 ⟨rfl, rfl⟩)
    refine hK.out _ _ (hHeld) (fun hHa2 => ?_)
    clear hK K
    try simp only [Act.put, List.setIfInBounds_toArray, List.set_cons_zero, List.set_cons_succ]
    refine wpAnyH_ready (rs := [5]) (by kernel_rfl) (by simp) ?_
    refine AllReadyH.cons rfl (fun K hK => ?_) AllReadyH.nil
    go_simp
    go_wp2_with (go_at_call 69; refine (said_any WK (by omega) _).mono ?_; rintro _ y5 ⟨rfl, rfl⟩)
    refine hK.out _ _ (hHa2) (fun hHa5 => ?_)
    clear hK K
    try simp only [Act.put, List.setIfInBounds_toArray, List.set_cons_zero, List.set_cons_succ]
    refine wpAnyH_takeD (i := 6) (some 25) (v := .string (bs (32 :: NM) ++ bs (32 :: WK))) rfl rfl (by kernel_rfl) (by kernel_rfl) (by kernel_rfl) (fun _ _ _ h => h) (Or.inl ⟨by kernel_rfl, ?hya6⟩) (by assumption) ?resta6
    case hya6 => (intro zz hSx; (try dsimp only at hSx); go_simp; first | done | omega | with_reducible rfl)
    try simp only [Act.put, List.setIfInBounds_toArray, List.set_cons_zero, List.set_cons_succ]
    refine wpAnyH_ready (rs := [9]) (by kernel_rfl) (by simp) ?_
    refine AllReadyH.cons rfl (fun K hK => ?_) AllReadyH.nil
    go_simp
    go_wp2_with (go_at_call 116; refine (e3 _).mono ?_; rintro _ y9 ⟨rfl, rfl⟩)
    refine hK.out _ _ (hHa5) (fun hHa9 => ?_)
    clear hK K
    try simp only [Act.put, List.setIfInBounds_toArray, List.set_cons_zero, List.set_cons_succ]
    refine wpAnyH_takeD (i := 10) (some 29) (v := .string (bs (32 :: NM) ++ bs (32 :: WK) ++ bs D)) rfl rfl (by kernel_rfl) (by kernel_rfl) (by kernel_rfl) (fun _ _ _ h => h) (Or.inl ⟨by kernel_rfl, ?hya10⟩) (by assumption) ?resta10
    case hya10 => (intro zz hSx; (try dsimp only at hSx); go_simp; first | done | omega | with_reducible rfl)
    try simp only [Act.put, List.setIfInBounds_toArray, List.set_cons_zero, List.set_cons_succ]
    refine wpAnyH_takeD (i := 12) (some 31) (v := .string (bs (32 :: NM) ++ bs (32 :: WK) ++ bs D ++ (bs N1 ++ bs N2))) rfl rfl (by kernel_rfl) (by kernel_rfl) (by kernel_rfl) (fun _ _ _ h => h) (Or.inl ⟨by kernel_rfl, ?hya12⟩) (by assumption) ?resta12
    case hya12 => (intro zz hSx; (try dsimp only at hSx); go_simp; first | done | omega | with_reducible rfl)
    try simp only [Act.put, List.setIfInBounds_toArray, List.set_cons_zero, List.set_cons_succ]
    refine wpAnyH_ready (rs := [16]) (by kernel_rfl) (by simp) ?_
    refine AllReadyH.cons rfl (fun K hK => ?_) AllReadyH.nil
    go_simp
    go_wp2_with (go_at_fn G; refine (hT _ (HEn.out _ hHa9)).mono ?_; rintro _ y16 ⟨rfl, hy16⟩)
    refine hK.out _ _ (HKeep.out _ _ hHa9 hy16) (fun hHa16 => ?_)
    clear hK K
    try simp only [Act.put, List.setIfInBounds_toArray, List.set_cons_zero, List.set_cons_succ]
    refine wpAnyH_takeD (i := 17) (some 36) (v := .string (bs (32 :: NM) ++ bs (32 :: WK) ++ bs D ++ (bs N1 ++ bs N2) ++ bs L)) rfl rfl (by kernel_rfl) (by kernel_rfl) (by kernel_rfl) (fun _ _ _ h => h) (Or.inl ⟨by kernel_rfl, ?hya17⟩) (by assumption) ?resta17
    case hya17 => (intro zz hSx; (try dsimp only at hSx); go_simp; first | done | omega | with_reducible rfl)
    try simp only [Act.put, List.setIfInBounds_toArray, List.set_cons_zero, List.set_cons_succ]
    refine wpAnyH_takeD (i := 18) (some 2) (v := .string (bs (32 :: NM) ++ bs (32 :: WK) ++ bs D ++ (bs N1 ++ bs N2) ++ bs L)) rfl rfl (by kernel_rfl) (by kernel_rfl) (by kernel_rfl) (fun _ _ _ h => h) (Or.inl ⟨by kernel_rfl, ?hya18⟩) (by assumption) ?resta18
    case hya18 => (intro zz hSx; (try dsimp only at hSx); go_simp; first | done | omega | with_reducible rfl)
    try simp only [Act.put, List.setIfInBounds_toArray, List.set_cons_zero, List.set_cons_succ]
    refine wpAnyH_done (by kernel_rfl) ?_ _
    have hfin := hfin0.trans (hHa16.mono hfin0.size)
    clear hHeld hHa2 hHa5 hHa9 hHa16 hy16 HKeep HC HEn hT sN e3
    go_wp2_with fail
    go_ret
    exact ⟨rfl, hfin⟩
theorem toldField_any (o : Go.Vf.Own) (h1 : 1 ≤ o.kind) (h7 : o.kind ≤ 7) (a : Option Addr) (n c : Nat) (hl : o.lm.size ≤ 17179869184) (hh : o.hm.size ≤ 17179869184) (hm0 : -9223372036854775808 ≤ o.most) (hm1 : o.most ≤ 9223372036854775807) (hs0 : -9223372036854775808 ≤ o.str) (hs1 : o.str ≤ 9223372036854775807) (hL : (toldF o).length ≤ 1000000) (w : World) (hE : Env w) :
    Calls Tryz.prog 93 #[.agg #[.string o.name, .int .u8 o.kind, .bool o.down, .int .u8 o.nulls, .bool o.bnd, .bool o.ln, .string o.lm, .bool o.hn, .string o.hm, .int .i64 o.most, .int .i64 o.str, .bool o.shf, .bool o.bck, .slice a n c]] w fun e w' => e = .returned (.string (bs (toldF o))) ∧ Below w.heap.size w w' := by
  obtain ⟨k, hk⟩ : ∃ k : Nat, o.kind = (k : Int) := ⟨o.kind.toNat, by omega⟩
  have hLk : (toldK o).length ≤ 1000000 := by unfold toldF at hL; simp only [List.length_append] at hL; omega
  have hnm : o.name.size ≤ 1000000 := by rw [Lib.size_eq]; unfold toldF at hL; simp only [List.length_append, List.length_cons] at hL; omega
  have hkt : o.kind.toNat = k := by omega
  unfold toldF
  rw [hkt]
  refine toldField_of o k (fT k) hk (by omega) (by omega) rfl a n c (toldK o) (by omega) (by omega) w hE (fun W hW => ?_)
  obtain rfl | rfl | rfl | rfl | rfl | rfl | rfl : k = 1 ∨ k = 2 ∨ k = 3 ∨ k = 4 ∨ k = 5 ∨ k = 6 ∨ k = 7 := by omega
  · rw [show toldK o = [] by rw [toldK, hk]; rfl]
    exact toldNothing_any o a n c W
  · have e : toldK o = (if o.bnd then 32 :: [102, 114, 111, 109] ++ (32 :: natS o.ln o.lm.data.toList) ++ (32 :: [116, 111]) ++ (32 :: natS o.hn o.hm.data.toList) else []) := by rw [toldK, hk]; rfl
    by_cases hb : o.bnd = true
    · rw [e, if_pos hb] at hLk
      simp only [List.length_append, List.length_cons] at hLk
      rw [e]
      exact toldBounds_any o a n c hl hh (by omega) (by omega) W
    · rw [e]
      exact toldBounds_nb o a n c (by simpa using hb) W
  · rw [show toldK o = 32 :: [109, 111, 115, 116] ++ (32 :: Lib.itoa o.most) by rw [toldK, hk]; rfl] at hLk ⊢
    simp only [List.length_append, List.length_cons] at hLk
    exact toldMost_any o a n c hm0 hm1 (by omega) W hW
  · rw [show toldK o = [] by rw [toldK, hk]; rfl]
    exact toldNothing_any o a n c W
  · rw [show toldK o = 32 :: [109, 111, 115, 116] ++ (32 :: Lib.itoa o.most) by rw [toldK, hk]; rfl] at hLk ⊢
    simp only [List.length_append, List.length_cons] at hLk
    exact toldMost_any o a n c hm0 hm1 (by omega) W hW
  · rw [show toldK o = 32 :: [115, 116, 114, 101, 110, 103, 116, 104] ++ (32 :: Lib.itoa o.str) ++ spIf o.shf [115, 104, 105, 102, 116, 101, 100] ++ spIf o.bck [98, 97, 99, 107] by rw [toldK, hk]; rfl] at hLk ⊢
    simp only [List.length_append, List.length_cons] at hLk
    exact toldCollate_any o a n c hs0 hs1 (by omega) W hW
  · rw [show toldK o = [] by rw [toldK, hk]; rfl]
    exact toldNothing_any o a n c W
end Go.Proofs.YtcbjnifoojjipaaGreatDoor
