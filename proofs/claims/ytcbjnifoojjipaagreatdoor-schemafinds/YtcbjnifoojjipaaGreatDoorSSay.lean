/- What schema's said, saidIf, told.. do (contracts; nothing is claimed here). -/
import Derived.Test.YtcbjnifoojjipaaGreatDoorJ2
import Derived.Test.YtcbjnifoojjipaaGreatDoorJ7
import Derived.Test.YtcbjnifoojjipaaGreatDoorShelf
import Derived.Lib.AppendIntMem
import Derived.BigQuiet
namespace Go.Proofs.YtcbjnifoojjipaaGreatDoor
open Go.RowKit Go.Vf
structure Env (w : World) : Prop where
  tab : Lib.TabIs Tryz.prog w "internal/strconv.uint64pow10" .u64 Lib.pow10Tab
  mx : ∃ m, w.cell? ⟨2, 0, none⟩ = some (.int .i64 m)
  sz : 5 ≤ w.heap.size
theorem gTab : Tryz.prog.globalNamed "internal/strconv.uint64pow10" = some 1 := by kernel_rfl
theorem Env.old {w w' : World} (h : Env w) (hb : Below w.heap.size w w') : Env w' := by
  have hz := h.sz
  refine ⟨?_, ?_, Nat.le_trans hz hb.size⟩
  · have := h.tab
    unfold Lib.TabIs World.var? at this ⊢
    rw [gTab] at this ⊢
    simp only [Option.bind_some] at this ⊢
    rw [hb.block 1 (by omega)]
    exact this
  · obtain ⟨m, hm⟩ := h.mx
    exact ⟨m, (hb.cell (p := ⟨2, 0, none⟩) (by show 2 < w.heap.size; omega)).trans hm⟩
theorem Env.low {w w' : World} {B : Nat} (h : Env w) (hb : Below B w w') (hB : 5 ≤ B) : Env w' := by
  have hz := h.sz
  refine ⟨?_, ?_, Nat.le_trans hz hb.size⟩
  · have := h.tab
    unfold Lib.TabIs World.var? at this ⊢
    rw [gTab] at this ⊢
    simp only [Option.bind_some] at this ⊢
    rw [hb.block 1 (by omega)]
    exact this
  · obtain ⟨m, hm⟩ := h.mx
    exact ⟨m, (hb.cell (p := ⟨2, 0, none⟩) (by show 2 < B; omega)).trans hm⟩
theorem bs_add (a b : List UInt8) : bs a ++ bs b = bs (a ++ b) := by apply ByteArray.ext; simp [bs]
theorem bs_size (l : List UInt8) : (bs l).size = l.length := by simp [bs, ByteArray.size]
def natS (b : Bool) (m : List UInt8) : List UInt8 := if chk b m = 0 then printL b m else []
def spIf (b : Bool) (l : List UInt8) : List UInt8 := if b then 32 :: l else []
theorem said_any (l : List UInt8) (h : l.length ≤ 1000000000) (w : World) : Calls Tryz.prog 69 #[.string (bs l)] w fun e w' => e = .returned (.string (bs (32 :: l))) ∧ w' = w := by
  have hl : (bs l).size ≤ 1000000000 := by rw [bs_size]; exact h
  have e : (⟨#[32]⟩ : ByteArray) ++ bs l = bs (32 :: l) := bs_add [32] l
  go_enter Tryz.func69, Tryz.ntmps69
  go_wp2
  go_ret
  exact ⟨by rw [← e]; rfl, rfl⟩
theorem saidIf_any (b : Bool) (l : List UInt8) (h : l.length ≤ 1000000000) (w : World) : Calls Tryz.prog 116 #[.bool b, .string (bs l)] w fun e w' => e = .returned (.string (bs (spIf b l))) ∧ w' = w := by
  have hs := said_any l h w
  cases b with
  | true =>
    go_enter Tryz.func116, Tryz.ntmps116
    go_wp2_with fail
    refine hs.mono ?_
    rintro _ w2 ⟨rfl, rfl⟩
    go_wp2_with fail
    go_ret
    exact ⟨rfl, rfl⟩
  | false =>
    go_enter Tryz.func116, Tryz.ntmps116
    go_wp2_with fail
    go_ret
    exact ⟨rfl, rfl⟩
theorem itoa_any (n : Int) (h0 : -9223372036854775808 ≤ n) (h1 : n ≤ 9223372036854775807) (w : World) (hE : Env w) : Calls Tryz.prog 70 #[.int .i64 n] w fun e w' => e = .returned (.string (bs (Lib.itoa n))) ∧ Below w.heap.size w w' := by
  refine (Tryz.strconv_Itoa n h0 h1 w hE.tab).mono ?_
  rintro e w' ⟨he, k, os, rfl⟩
  exact ⟨he, Lib.below_grow _ w (Nat.le_refl _) k os⟩
def toldK (o : Go.Vf.Own) : List UInt8 :=
  if o.kind = 2 then (if o.bnd then 32 :: [102, 114, 111, 109] ++ (32 :: natS o.ln o.lm.data.toList) ++ (32 :: [116, 111]) ++ (32 :: natS o.hn o.hm.data.toList) else [])
  else if o.kind = 3 ∨ o.kind = 5 then 32 :: [109, 111, 115, 116] ++ (32 :: Lib.itoa o.most)
  else if o.kind = 6 then 32 :: [115, 116, 114, 101, 110, 103, 116, 104] ++ (32 :: Lib.itoa o.str) ++ spIf o.shf [115, 104, 105, 102, 116, 101, 100] ++ spIf o.bck [98, 97, 99, 107]
  else []
theorem toldNothing_any (o : Go.Vf.Own) (a : Option Addr) (n c : Nat) (w : World) : Calls Tryz.prog 126 #[.agg #[.string o.name, .int .u8 o.kind, .bool o.down, .int .u8 o.nulls, .bool o.bnd, .bool o.ln, .string o.lm, .bool o.hn, .string o.hm, .int .i64 o.most, .int .i64 o.str, .bool o.shf, .bool o.bck, .slice a n c]] w fun e w' => e = .returned (.string (bs [])) ∧ Below w.heap.size w w' := by
  have hb1 := (Below.refl w.heap.size w).alloc (Nat.le_refl _) (.cells #[.string o.name, .int .u8 o.kind, .bool o.down, .int .u8 o.nulls, .bool o.bnd, .bool o.ln, .string o.lm, .bool o.hn, .string o.hm, .int .i64 o.most, .int .i64 o.str, .bool o.shf, .bool o.bck, .slice a n c] 48)
  go_enter Tryz.func126, Tryz.ntmps126
  go_wp2
  go_ret
  exact ⟨rfl, hb1⟩
set_option maxHeartbeats 4000000 in
set_option maxRecDepth 20000 in
theorem toldBounds_any (o : Go.Vf.Own) (a : Option Addr) (n c : Nat) (hl : o.lm.size ≤ 17179869184) (hh : o.hm.size ≤ 17179869184) (h1 : (natS o.ln o.lm.data.toList).length ≤ 1000000) (h2 : (natS o.hn o.hm.data.toList).length ≤ 1000000) (w : World) :
    Calls Tryz.prog 130 #[.agg #[.string o.name, .int .u8 o.kind, .bool o.down, .int .u8 o.nulls, .bool o.bnd, .bool o.ln, .string o.lm, .bool o.hn, .string o.hm, .int .i64 o.most, .int .i64 o.str, .bool o.shf, .bool o.bck, .slice a n c]] w fun e w' => e = .returned (.string (bs (if o.bnd then 32 :: [102, 114, 111, 109] ++ (32 :: natS o.ln o.lm.data.toList) ++ (32 :: [116, 111]) ++ (32 :: natS o.hn o.hm.data.toList) else []))) ∧ Below w.heap.size w w' := by
  have hb1 := (Below.refl w.heap.size w).alloc (Nat.le_refl _) (.cells #[.string o.name, .int .u8 o.kind, .bool o.down, .int .u8 o.nulls, .bool o.bnd, .bool o.ln, .string o.lm, .bool o.hn, .string o.hm, .int .i64 o.most, .int .i64 o.str, .bool o.shf, .bool o.bck, .slice a n c] 48)
  have hN1 := Blk.new w 48 #[.string o.name, .int .u8 o.kind, .bool o.down, .int .u8 o.nulls, .bool o.bnd, .bool o.ln, .string o.lm, .bool o.hn, .string o.hm, .int .i64 o.most, .int .i64 o.str, .bool o.shf, .bool o.bck, .slice a n c]
  have hp1 : ∀ W : World, Calls Tryz.prog 151 #[.agg #[.bool o.ln, .string o.lm]] W fun e w' => e = .returned (.tuple #[.string (bs (natS o.ln o.lm.data.toList)), .int .i64 (chk o.ln o.lm.data.toList)]) ∧ Below W.heap.size W w' := fun W => print_any o.ln o.lm hl W
  have hp2 : ∀ W : World, Calls Tryz.prog 151 #[.agg #[.bool o.hn, .string o.hm]] W fun e w' => e = .returned (.tuple #[.string (bs (natS o.hn o.hm.data.toList)), .int .i64 (chk o.hn o.hm.data.toList)]) ∧ Below W.heap.size W w' := fun W => print_any o.hn o.hm hh W
  generalize natS o.ln o.lm.data.toList = A at *
  generalize natS o.hn o.hm.data.toList = B at *
  generalize chk o.ln o.lm.data.toList = ca at *
  generalize chk o.hn o.hm.data.toList = cb at *
  obtain ⟨R, hR⟩ : ∃ R, (if o.bnd then 32 :: [102, 114, 111, 109] ++ (32 :: A) ++ (32 :: [116, 111]) ++ (32 :: B) else []) = R := ⟨_, rfl⟩
  rw [hR]
  have HR : Hid ((if o.bnd then 32 :: [102, 114, 111, 109] ++ (32 :: A) ++ (32 :: [116, 111]) ++ (32 :: B) else []) = R) := hR
  clear hR
  go_enter Tryz.func130, Tryz.ntmps130
  go_upto_region 1 with fail
  generalize w.alloc (.cells #[.string o.name, .int .u8 o.kind, .bool o.down, .int .u8 o.nulls, .bool o.bnd, .bool o.ln, .string o.lm, .bool o.hn, .string o.hm, .int .i64 o.most, .int .i64 o.str, .bool o.shf, .bool o.bck, .slice a n c] 48) = w1 at *
  obtain ⟨c0, c1, c2, c3, c4, c5, c6, c7, c8, c9, c10, c11, c12, c13⟩ := hN1.c14
  cases hbd : o.bnd with
  | false =>
    rw [hbd] at c4
    have hRR : R = [] := by rw [← HR.out, hbd]; rfl
    clear HR
    go_wp2_with fail
    go_ret
    exact ⟨by rw [hRR]; rfl, hb1⟩
  | true =>
    rw [hbd] at c4
    have hRR : R = 32 :: [102, 114, 111, 109] ++ (32 :: A) ++ (32 :: [116, 111]) ++ (32 :: B) := by rw [← HR.out, hbd]; rfl
    have q1 := hp1 w1
    clear HR hp1
    go_wp2_with fail
    refine q1.mono ?_
    rintro _ w2 ⟨rfl, hb2⟩
    have hN2 := hN1.old hb2
    have hb02 := hb1.trans (hb2.mono hb1.size)
    have q2 := hp2 w2
    clear q1 hp2 c0 c1 c2 c3 c4 c5 c6 c7 c8 c9 c10 c11 c12 c13 hN1
    obtain ⟨c0, c1, c2, c3, c4, c5, c6, c7, c8, c9, c10, c11, c12, c13⟩ := hN2.c14
    go_wp2_with fail
    refine q2.mono ?_
    rintro _ w3 ⟨rfl, hb3⟩
    have hb03 := hb02.trans (hb3.mono hb02.size)
    clear q2 c0 c1 c2 c3 c4 c5 c6 c7 c8 c9 c10 c11 c12 c13 hN2
    have s1 := said_any [102, 114, 111, 109] (by simp) w3
    have s2 := said_any A (by omega) w3
    have s3 := said_any [116, 111] (by simp) w3
    have s4 := said_any B (by omega) w3
    have z1 : (bs (32 :: [102, 114, 111, 109])).size ≤ 1000000000 := by rw [bs_size]; simp
    have z2 : (bs (32 :: A)).size ≤ 1000000000 := by rw [bs_size]; simp; omega
    have z3 : (bs (32 :: [116, 111])).size ≤ 1000000000 := by rw [bs_size]; simp
    have z4 : (bs (32 :: B)).size ≤ 1000000000 := by rw [bs_size]; simp; omega
    have z5 : (bs (32 :: [102, 114, 111, 109]) ++ bs (32 :: A)).size ≤ 1000000000 := by rw [bs_add, bs_size]; simp; omega
    have z6 : (bs (32 :: [102, 114, 111, 109]) ++ bs (32 :: A) ++ bs (32 :: [116, 111])).size ≤ 1000000000 := by rw [bs_add, bs_add, bs_size]; simp; omega
    go_wp2_with fail
    refine s1.mono ?_
    rintro _ w4 ⟨rfl, rfl⟩
    go_wp2_with fail
    refine s2.mono ?_
    rintro _ w5 ⟨rfl, rfl⟩
    go_wp2_with fail
    refine s3.mono ?_
    rintro _ w6 ⟨rfl, rfl⟩
    go_wp2_with fail
    refine s4.mono ?_
    rintro _ w7 ⟨rfl, rfl⟩
    go_wp2_with fail
    go_ret
    exact ⟨by rw [hRR, ← bs_add, ← bs_add, ← bs_add]; rfl, hb03⟩
set_option maxHeartbeats 4000000 in
set_option maxRecDepth 20000 in
theorem toldMost_any (o : Go.Vf.Own) (a : Option Addr) (n c : Nat) (h0 : -9223372036854775808 ≤ o.most) (h1 : o.most ≤ 9223372036854775807) (hL : (Lib.itoa o.most).length ≤ 1000000) (w : World) (hE : Env w) :
    Calls Tryz.prog 134 #[.agg #[.string o.name, .int .u8 o.kind, .bool o.down, .int .u8 o.nulls, .bool o.bnd, .bool o.ln, .string o.lm, .bool o.hn, .string o.hm, .int .i64 o.most, .int .i64 o.str, .bool o.shf, .bool o.bck, .slice a n c]] w fun e w' => e = .returned (.string (bs (32 :: [109, 111, 115, 116] ++ (32 :: Lib.itoa o.most)))) ∧ Below w.heap.size w w' := by
  have hb1 := (Below.refl w.heap.size w).alloc (Nat.le_refl _) (.cells #[.string o.name, .int .u8 o.kind, .bool o.down, .int .u8 o.nulls, .bool o.bnd, .bool o.ln, .string o.lm, .bool o.hn, .string o.hm, .int .i64 o.most, .int .i64 o.str, .bool o.shf, .bool o.bck, .slice a n c] 48)
  have hN1 := Blk.new w 48 #[.string o.name, .int .u8 o.kind, .bool o.down, .int .u8 o.nulls, .bool o.bnd, .bool o.ln, .string o.lm, .bool o.hn, .string o.hm, .int .i64 o.most, .int .i64 o.str, .bool o.shf, .bool o.bck, .slice a n c]
  have hE1 := hE.old hb1
  have z1 : (bs (32 :: [109, 111, 115, 116])).size ≤ 1000000000 := by rw [bs_size]; simp
  have z2 : (bs (32 :: Lib.itoa o.most)).size ≤ 1000000000 := by rw [bs_size]; simp; omega
  have hf : bs (32 :: [109, 111, 115, 116] ++ (32 :: Lib.itoa o.most)) = bs (32 :: [109, 111, 115, 116]) ++ bs (32 :: Lib.itoa o.most) := (bs_add _ _).symm
  rw [hf]
  have hit := fun W (hW : Env W) => itoa_any o.most h0 h1 W hW
  generalize Lib.itoa o.most = I at *
  go_enter Tryz.func134, Tryz.ntmps134
  go_upto_region 1 with fail
  generalize w.alloc (.cells #[.string o.name, .int .u8 o.kind, .bool o.down, .int .u8 o.nulls, .bool o.bnd, .bool o.ln, .string o.lm, .bool o.hn, .string o.hm, .int .i64 o.most, .int .i64 o.str, .bool o.shf, .bool o.bck, .slice a n c] 48) = w1 at *
  have HC : Hid (∀ zz, Below w1.heap.size w1 zz → zz.cell? ⟨w.heap.size, 9, none⟩ = some (.int .i64 o.most)) := fun zz h => (hN1.old h).cell 9
  have HKeep : Hid (∀ x y, Below w1.heap.size w1 x → Below x.heap.size x y → Below w1.heap.size w1 y) := fun x y h1 h2 => h1.trans (h2.mono h1.size)
  have HEn : Hid (∀ x, Below w1.heap.size w1 x → Env x) := fun x h => hE1.old h
  refine wp_region_held_drew (S := fun x => Below w1.heap.size w1 x) (by kernel_rfl) ((Below.refl _ _).drew) (fun hHeld => ?_)
  refine wpAnyH_takeD (i := 1) (some 4) (v := .pointer (some ⟨w.heap.size, 9, none⟩)) rfl rfl (by kernel_rfl) (by kernel_rfl) (by kernel_rfl) (fun _ _ _ h => h) (Or.inl ⟨by kernel_rfl, ?hya1⟩) (by assumption) ?resta1
  case hya1 => (intro zz hSx; (try dsimp only at hSx); go_simp; first | done | omega | with_reducible rfl)
  try simp only [Act.put, List.setIfInBounds_toArray, List.set_cons_zero, List.set_cons_succ]
  refine wpAnyH_takeD (i := 2) (some 5) (v := .int .i64 o.most) rfl rfl (by kernel_rfl) (by kernel_rfl) (by kernel_rfl) (fun _ _ _ h => h) (Or.inl ⟨by kernel_rfl, ?hya2⟩) (by assumption) ?resta2
  case hya2 => (intro zz hSx; have q := HC.out zz hSx; (try dsimp only at hSx); go_simp; first | done | omega | with_reducible rfl)
  try simp only [Act.put, List.setIfInBounds_toArray, List.set_cons_zero, List.set_cons_succ]
  refine wpAnyH_ready (rs := [0]) (by kernel_rfl) (by simp) ?_
  refine AllReadyH.cons rfl (fun K hK => ?_) AllReadyH.nil
  go_simp
  go_wp2_with (go_at_call 69; refine (said_any [109, 111, 115, 116] (by simp) _).mono ?_; rintro _ y0 ⟨rfl, rfl⟩)
  refine hK.out _ _ (hHeld) (fun hHa0 => ?_)
  clear hK K
  try simp only [Act.put, List.setIfInBounds_toArray, List.set_cons_zero, List.set_cons_succ]
  refine wpAnyH_ready (rs := [3]) (by kernel_rfl) (by simp) ?_
  refine AllReadyH.cons rfl (fun K hK => ?_) AllReadyH.nil
  go_simp
  go_wp2_with (go_at_call 70; refine (hit _ (HEn.out _ hHa0)).mono ?_; rintro _ y3 ⟨rfl, hy3⟩)
  refine hK.out _ _ (HKeep.out _ _ hHa0 hy3) (fun hHa3 => ?_)
  clear hK K
  try simp only [Act.put, List.setIfInBounds_toArray, List.set_cons_zero, List.set_cons_succ]
  refine wpAnyH_ready (rs := [4]) (by kernel_rfl) (by simp) ?_
  refine AllReadyH.cons rfl (fun K hK => ?_) AllReadyH.nil
  go_simp
  go_wp2_with (go_at_call 69; refine (said_any I (by omega) _).mono ?_; rintro _ y4 ⟨rfl, rfl⟩)
  refine hK.out _ _ (hHa3) (fun hHa4 => ?_)
  clear hK K
  try simp only [Act.put, List.setIfInBounds_toArray, List.set_cons_zero, List.set_cons_succ]
  refine wpAnyH_takeD (i := 5) (some 8) (v := .string (bs (32 :: [109, 111, 115, 116]) ++ bs (32 :: I))) rfl rfl (by kernel_rfl) (by kernel_rfl) (by kernel_rfl) (fun _ _ _ h => h) (Or.inl ⟨by kernel_rfl, ?hya5⟩) (by assumption) ?resta5
  case hya5 => (intro zz hSx; (try dsimp only at hSx); go_simp; first | done | omega | with_reducible rfl)
  try simp only [Act.put, List.setIfInBounds_toArray, List.set_cons_zero, List.set_cons_succ]
  refine wpAnyH_takeD (i := 6) (some 2) (v := .string (bs (32 :: [109, 111, 115, 116]) ++ bs (32 :: I))) rfl rfl (by kernel_rfl) (by kernel_rfl) (by kernel_rfl) (fun _ _ _ h => h) (Or.inl ⟨by kernel_rfl, ?hya6⟩) (by assumption) ?resta6
  case hya6 => (intro zz hSx; (try dsimp only at hSx); go_simp; first | done | omega | with_reducible rfl)
  try simp only [Act.put, List.setIfInBounds_toArray, List.set_cons_zero, List.set_cons_succ]
  refine wpAnyH_done (by kernel_rfl) ?_ _
  have hfin := hb1.trans (hHa4.mono hb1.size)
  clear hHeld hHa0 hHa3 hHa4 HKeep HC HEn hit
  go_wp2_with fail
  go_ret
  exact ⟨rfl, hfin⟩
set_option maxHeartbeats 4000000 in
set_option maxRecDepth 20000 in
theorem toldCollate_any (o : Go.Vf.Own) (a : Option Addr) (n c : Nat) (h0 : -9223372036854775808 ≤ o.str) (h1 : o.str ≤ 9223372036854775807) (hL : (Lib.itoa o.str).length ≤ 1000000) (w : World) (hE : Env w) :
    Calls Tryz.prog 138 #[.agg #[.string o.name, .int .u8 o.kind, .bool o.down, .int .u8 o.nulls, .bool o.bnd, .bool o.ln, .string o.lm, .bool o.hn, .string o.hm, .int .i64 o.most, .int .i64 o.str, .bool o.shf, .bool o.bck, .slice a n c]] w fun e w' => e = .returned (.string (bs (32 :: [115, 116, 114, 101, 110, 103, 116, 104] ++ (32 :: Lib.itoa o.str) ++ spIf o.shf [115, 104, 105, 102, 116, 101, 100] ++ spIf o.bck [98, 97, 99, 107]))) ∧ Below w.heap.size w w' := by
  have hb1 := (Below.refl w.heap.size w).alloc (Nat.le_refl _) (.cells #[.string o.name, .int .u8 o.kind, .bool o.down, .int .u8 o.nulls, .bool o.bnd, .bool o.ln, .string o.lm, .bool o.hn, .string o.hm, .int .i64 o.most, .int .i64 o.str, .bool o.shf, .bool o.bck, .slice a n c] 48)
  have hN1 := Blk.new w 48 #[.string o.name, .int .u8 o.kind, .bool o.down, .int .u8 o.nulls, .bool o.bnd, .bool o.ln, .string o.lm, .bool o.hn, .string o.hm, .int .i64 o.most, .int .i64 o.str, .bool o.shf, .bool o.bck, .slice a n c]
  have hs1 := alloc_size w (.cells #[.string o.name, .int .u8 o.kind, .bool o.down, .int .u8 o.nulls, .bool o.bnd, .bool o.ln, .string o.lm, .bool o.hn, .string o.hm, .int .i64 o.most, .int .i64 o.str, .bool o.shf, .bool o.bck, .slice a n c] 48)
  have hb12 := (Below.refl _ (w.alloc (.cells #[.string o.name, .int .u8 o.kind, .bool o.down, .int .u8 o.nulls, .bool o.bnd, .bool o.ln, .string o.lm, .bool o.hn, .string o.hm, .int .i64 o.most, .int .i64 o.str, .bool o.shf, .bool o.bck, .slice a n c] 48))).alloc (Nat.le_refl _) (.cells #[.int .i64 o.str, .bool o.shf, .bool o.bck] 46)
  have hC2 := Blk.new (w.alloc (.cells #[.string o.name, .int .u8 o.kind, .bool o.down, .int .u8 o.nulls, .bool o.bnd, .bool o.ln, .string o.lm, .bool o.hn, .string o.hm, .int .i64 o.most, .int .i64 o.str, .bool o.shf, .bool o.bck, .slice a n c] 48)) 46 #[.int .i64 o.str, .bool o.shf, .bool o.bck]
  rw [hs1] at hC2
  have hb2 := hb1.trans (hb12.mono hb1.size)
  obtain ⟨c0, c1, c2, c3, c4, c5, c6, c7, c8, c9, c10, c11, c12, c13⟩ := hN1.c14
  have hE2 := hE.old hb2
  have hf : bs (32 :: [115, 116, 114, 101, 110, 103, 116, 104] ++ (32 :: Lib.itoa o.str) ++ spIf o.shf [115, 104, 105, 102, 116, 101, 100] ++ spIf o.bck [98, 97, 99, 107]) = bs (32 :: [115, 116, 114, 101, 110, 103, 116, 104]) ++ bs (32 :: Lib.itoa o.str) ++ bs (spIf o.shf [115, 104, 105, 102, 116, 101, 100]) ++ bs (spIf o.bck [98, 97, 99, 107]) := by rw [bs_add, bs_add, bs_add]
  rw [hf]
  have hit := fun W (hW : Env W) => itoa_any o.str h0 h1 W hW
  have k1 : (spIf o.shf [115, 104, 105, 102, 116, 101, 100]).length ≤ 8 := by cases o.shf <;> simp [spIf]
  have k2 : (spIf o.bck [98, 97, 99, 107]).length ≤ 8 := by cases o.bck <;> simp [spIf]
  have g1 := fun W => saidIf_any o.shf [115, 104, 105, 102, 116, 101, 100] (by simp) W
  have g2 := fun W => saidIf_any o.bck [98, 97, 99, 107] (by simp) W
  generalize spIf o.shf [115, 104, 105, 102, 116, 101, 100] = X1 at *
  generalize spIf o.bck [98, 97, 99, 107] = X2 at *
  generalize Lib.itoa o.str = I at *
  have z1 : (bs (32 :: [115, 116, 114, 101, 110, 103, 116, 104])).size ≤ 1000000000 := by rw [bs_size]; simp
  have z2 : (bs (32 :: I)).size ≤ 1000000000 := by rw [bs_size]; simp; omega
  have z3 : (bs X1).size ≤ 1000000000 := by rw [bs_size]; omega
  have z4 : (bs X2).size ≤ 1000000000 := by rw [bs_size]; omega
  have z5 : (bs (32 :: [115, 116, 114, 101, 110, 103, 116, 104]) ++ bs (32 :: I)).size ≤ 1000000000 := by rw [bs_add, bs_size]; simp; omega
  have z6 : (bs (32 :: [115, 116, 114, 101, 110, 103, 116, 104]) ++ bs (32 :: I) ++ bs X1).size ≤ 1000000000 := by rw [bs_add, bs_add, bs_size]; simp; omega
  go_enter Tryz.func138, Tryz.ntmps138
  go_upto_region 2 with fail
  generalize (w.alloc (.cells #[.string o.name, .int .u8 o.kind, .bool o.down, .int .u8 o.nulls, .bool o.bnd, .bool o.ln, .string o.lm, .bool o.hn, .string o.hm, .int .i64 o.most, .int .i64 o.str, .bool o.shf, .bool o.bck, .slice a n c] 48)).alloc (.cells #[.int .i64 o.str, .bool o.shf, .bool o.bck] 46) = w1 at *
  have HC : Hid (∀ zz, Below w1.heap.size w1 zz → zz.cell? ⟨w.heap.size + 1, 0, none⟩ = some (.int .i64 o.str) ∧ zz.cell? ⟨w.heap.size + 1, 1, none⟩ = some (.bool o.shf) ∧ zz.cell? ⟨w.heap.size + 1, 2, none⟩ = some (.bool o.bck)) := fun zz h => ⟨(hC2.old h).cell 0, (hC2.old h).cell 1, (hC2.old h).cell 2⟩
  have HKeep : Hid (∀ x y, Below w1.heap.size w1 x → Below x.heap.size x y → Below w1.heap.size w1 y) := fun x y h1 h2 => h1.trans (h2.mono h1.size)
  have HEn : Hid (∀ x, Below w1.heap.size w1 x → Env x) := fun x h => hE2.old h
  clear hb1 hN1 hs1 hb12 hC2 c0 c1 c2 c3 c4 c5 c6 c7 c8 c9 c10 c11 c12 c13
  refine wp_region_held_drew (S := fun x => Below w1.heap.size w1 x) (by kernel_rfl) ((Below.refl _ _).drew) (fun hHeld => ?_)
  refine wpAnyH_takeD (i := 1) (some 7) (v := .pointer (some ⟨w.heap.size + 1, 0, none⟩)) rfl rfl (by kernel_rfl) (by kernel_rfl) (by kernel_rfl) (fun _ _ _ h => h) (Or.inl ⟨by kernel_rfl, ?hya1⟩) (by assumption) ?resta1
  case hya1 => (intro zz hSx; (try dsimp only at hSx); go_simp; first | done | omega | with_reducible rfl)
  try simp only [Act.put, List.setIfInBounds_toArray, List.set_cons_zero, List.set_cons_succ]
  refine wpAnyH_takeD (i := 2) (some 8) (v := .int .i64 o.str) rfl rfl (by kernel_rfl) (by kernel_rfl) (by kernel_rfl) (fun _ _ _ h => h) (Or.inl ⟨by kernel_rfl, ?hya2⟩) (by assumption) ?resta2
  case hya2 => (intro zz hSx; obtain ⟨q0, q1, q2⟩ := HC.out zz hSx; (try dsimp only at hSx); go_simp; first | done | omega | with_reducible rfl)
  try simp only [Act.put, List.setIfInBounds_toArray, List.set_cons_zero, List.set_cons_succ]
  refine wpAnyH_takeD (i := 6) (some 12) (v := .pointer (some ⟨w.heap.size + 1, 1, none⟩)) rfl rfl (by kernel_rfl) (by kernel_rfl) (by kernel_rfl) (fun _ _ _ h => h) (Or.inl ⟨by kernel_rfl, ?hya6⟩) (by assumption) ?resta6
  case hya6 => (intro zz hSx; (try dsimp only at hSx); go_simp; first | done | omega | with_reducible rfl)
  try simp only [Act.put, List.setIfInBounds_toArray, List.set_cons_zero, List.set_cons_succ]
  refine wpAnyH_takeD (i := 7) (some 13) (v := .bool o.shf) rfl rfl (by kernel_rfl) (by kernel_rfl) (by kernel_rfl) (fun _ _ _ h => h) (Or.inl ⟨by kernel_rfl, ?hya7⟩) (by assumption) ?resta7
  case hya7 => (intro zz hSx; obtain ⟨q0, q1, q2⟩ := HC.out zz hSx; (try dsimp only at hSx); go_simp; first | done | omega | with_reducible rfl)
  try simp only [Act.put, List.setIfInBounds_toArray, List.set_cons_zero, List.set_cons_succ]
  refine wpAnyH_takeD (i := 10) (some 16) (v := .pointer (some ⟨w.heap.size + 1, 2, none⟩)) rfl rfl (by kernel_rfl) (by kernel_rfl) (by kernel_rfl) (fun _ _ _ h => h) (Or.inl ⟨by kernel_rfl, ?hya10⟩) (by assumption) ?resta10
  case hya10 => (intro zz hSx; (try dsimp only at hSx); go_simp; first | done | omega | with_reducible rfl)
  try simp only [Act.put, List.setIfInBounds_toArray, List.set_cons_zero, List.set_cons_succ]
  refine wpAnyH_takeD (i := 11) (some 17) (v := .bool o.bck) rfl rfl (by kernel_rfl) (by kernel_rfl) (by kernel_rfl) (fun _ _ _ h => h) (Or.inl ⟨by kernel_rfl, ?hya11⟩) (by assumption) ?resta11
  case hya11 => (intro zz hSx; obtain ⟨q0, q1, q2⟩ := HC.out zz hSx; (try dsimp only at hSx); go_simp; first | done | omega | with_reducible rfl)
  try simp only [Act.put, List.setIfInBounds_toArray, List.set_cons_zero, List.set_cons_succ]
  refine wpAnyH_ready (rs := [0]) (by kernel_rfl) (by simp) ?_
  refine AllReadyH.cons rfl (fun K hK => ?_) AllReadyH.nil
  go_simp
  go_wp2_with (go_at_call 69; refine (said_any [115, 116, 114, 101, 110, 103, 116, 104] (by simp) _).mono ?_; rintro _ y0 ⟨rfl, rfl⟩)
  refine hK.out _ _ (hHeld) (fun hHa0 => ?_)
  clear hK K
  try simp only [Act.put, List.setIfInBounds_toArray, List.set_cons_zero, List.set_cons_succ]
  refine wpAnyH_ready (rs := [3]) (by kernel_rfl) (by simp) ?_
  refine AllReadyH.cons rfl (fun K hK => ?_) AllReadyH.nil
  go_simp
  go_wp2_with (go_at_call 70; refine (hit _ (HEn.out _ hHa0)).mono ?_; rintro _ y3 ⟨rfl, hy3⟩)
  refine hK.out _ _ (HKeep.out _ _ hHa0 hy3) (fun hHa3 => ?_)
  clear hK K
  try simp only [Act.put, List.setIfInBounds_toArray, List.set_cons_zero, List.set_cons_succ]
  refine wpAnyH_ready (rs := [4]) (by kernel_rfl) (by simp) ?_
  refine AllReadyH.cons rfl (fun K hK => ?_) AllReadyH.nil
  go_simp
  go_wp2_with (go_at_call 69; refine (said_any I (by omega) _).mono ?_; rintro _ y4 ⟨rfl, rfl⟩)
  refine hK.out _ _ (hHa3) (fun hHa4 => ?_)
  clear hK K
  try simp only [Act.put, List.setIfInBounds_toArray, List.set_cons_zero, List.set_cons_succ]
  refine wpAnyH_takeD (i := 5) (some 11) (v := .string (bs (32 :: [115, 116, 114, 101, 110, 103, 116, 104]) ++ bs (32 :: I))) rfl rfl (by kernel_rfl) (by kernel_rfl) (by kernel_rfl) (fun _ _ _ h => h) (Or.inl ⟨by kernel_rfl, ?hya5⟩) (by assumption) ?resta5
  case hya5 => (intro zz hSx; (try dsimp only at hSx); go_simp; first | done | omega | with_reducible rfl)
  try simp only [Act.put, List.setIfInBounds_toArray, List.set_cons_zero, List.set_cons_succ]
  refine wpAnyH_ready (rs := [8]) (by kernel_rfl) (by simp) ?_
  refine AllReadyH.cons rfl (fun K hK => ?_) AllReadyH.nil
  go_simp
  go_wp2_with (go_at_call 116; refine (g1 _).mono ?_; rintro _ y8 ⟨rfl, rfl⟩)
  refine hK.out _ _ (hHa4) (fun hHa8 => ?_)
  clear hK K
  try simp only [Act.put, List.setIfInBounds_toArray, List.set_cons_zero, List.set_cons_succ]
  refine wpAnyH_takeD (i := 9) (some 15) (v := .string (bs (32 :: [115, 116, 114, 101, 110, 103, 116, 104]) ++ bs (32 :: I) ++ bs X1)) rfl rfl (by kernel_rfl) (by kernel_rfl) (by kernel_rfl) (fun _ _ _ h => h) (Or.inl ⟨by kernel_rfl, ?hya9⟩) (by assumption) ?resta9
  case hya9 => (intro zz hSx; (try dsimp only at hSx); go_simp; first | done | omega | with_reducible rfl)
  try simp only [Act.put, List.setIfInBounds_toArray, List.set_cons_zero, List.set_cons_succ]
  refine wpAnyH_ready (rs := [12]) (by kernel_rfl) (by simp) ?_
  refine AllReadyH.cons rfl (fun K hK => ?_) AllReadyH.nil
  go_simp
  go_wp2_with (go_at_call 116; refine (g2 _).mono ?_; rintro _ y12 ⟨rfl, rfl⟩)
  refine hK.out _ _ (hHa8) (fun hHa12 => ?_)
  clear hK K
  try simp only [Act.put, List.setIfInBounds_toArray, List.set_cons_zero, List.set_cons_succ]
  refine wpAnyH_takeD (i := 13) (some 19) (v := .string (bs (32 :: [115, 116, 114, 101, 110, 103, 116, 104]) ++ bs (32 :: I) ++ bs X1 ++ bs X2)) rfl rfl (by kernel_rfl) (by kernel_rfl) (by kernel_rfl) (fun _ _ _ h => h) (Or.inl ⟨by kernel_rfl, ?hya13⟩) (by assumption) ?resta13
  case hya13 => (intro zz hSx; (try dsimp only at hSx); go_simp; first | done | omega | with_reducible rfl)
  try simp only [Act.put, List.setIfInBounds_toArray, List.set_cons_zero, List.set_cons_succ]
  refine wpAnyH_takeD (i := 14) (some 2) (v := .string (bs (32 :: [115, 116, 114, 101, 110, 103, 116, 104]) ++ bs (32 :: I) ++ bs X1 ++ bs X2)) rfl rfl (by kernel_rfl) (by kernel_rfl) (by kernel_rfl) (fun _ _ _ h => h) (Or.inl ⟨by kernel_rfl, ?hya14⟩) (by assumption) ?resta14
  case hya14 => (intro zz hSx; (try dsimp only at hSx); go_simp; first | done | omega | with_reducible rfl)
  try simp only [Act.put, List.setIfInBounds_toArray, List.set_cons_zero, List.set_cons_succ]
  refine wpAnyH_done (by kernel_rfl) ?_ _
  have hfin := hb2.trans (hHa12.mono hb2.size)
  clear hHeld hHa0 hHa3 hHa4 hHa8 hHa12 HKeep HC HEn hit g1 g2
  go_wp2_with fail
  go_ret
  exact ⟨rfl, hfin⟩
end Go.Proofs.YtcbjnifoojjipaaGreatDoor
