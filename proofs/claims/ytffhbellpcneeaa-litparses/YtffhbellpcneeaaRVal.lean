/- What the document's value of layer 10 does (contracts; nothing is claimed here). -/
import Derived.Test.YtffhbellpcneeaaRUnq
import Derived.Test.YtffhbellpcneeaaRPit
import Derived.Test.YtffhbellpcneeaaNatRefE
import Derived.Test.YtffhbellpcneeaaNatRefG
import Derived.Test.YtffhbellpcneeaaLNum
namespace Go.Proofs.Ytffhbellpcneeaa
open Go.RowKit Go.Vf
/-- What the document's value and tuple answer. -/
def RvE (s : ByteArray) (g : Got) (w : World) (e : Ending) (w' : World) : Prop := Below w.heap.size w w' ∧ match g with
  | .ok (p, rest) => ∃ (a : Option Addr) (c k' : Nat), k' ≤ s.size ∧ rest = s.data.toList.drop k' ∧ e = .returned (.tuple #[pV p a c, .int .i64 (k' : Int), .bool true]) ∧ PIn w' w.heap.size w'.heap.size p a
  | .error r => ∃ k' : Nat, k' ≤ s.size ∧ r = s.size - k' ∧ e = .returned (.tuple #[pV nullP none 0, .int .i64 (k' : Int), .bool false])
theorem res32_run {tmps : Array Value} {w : World} {b : Nat} {a0 a1 a2 a3 a4 a5 n y : Value} (h : Blk w b 27 #[a0, a1, a2, a3, a4, a5]) (t6 : tmps[6]?.getD undef = .pointer (some ⟨b, 0, none⟩)) (t7 : tmps[7]?.getD undef = n) (t8 : tmps[8]?.getD undef = y) :
    (results Try.f32 tmps).run Try.prog w = .ok (.tuple #[.agg #[a0, a1, a2, a3, a4, a5], n, y]) w := by
  obtain ⟨c0, c1, c2, c3, c4, c5⟩ := h.c6
  simp [results, Try.results32, go_sem, t6, t7, t8, c0, c1, c2, c3, c4, c5]
theorem rdV_null {f : List UInt8 → Got} {l : List UInt8} (h : [110, 117, 108, 108].isPrefixOf l = true) : rdV f l = .ok (nullP, l.drop 4) := by
  obtain ⟨r, rfl⟩ := List.isPrefixOf_iff_prefix.1 h
  simp [rdV, isDig, wordR, List.isPrefixOf]
theorem rdV_yes {f : List UInt8 → Got} {l : List UInt8} (h : [121, 101, 115].isPrefixOf l = true) : rdV f l = .ok (boolP true, l.drop 3) := by
  obtain ⟨r, rfl⟩ := List.isPrefixOf_iff_prefix.1 h
  simp [rdV, isDig, wordR, List.isPrefixOf]
theorem rdV_no {f : List UInt8 → Got} {l : List UInt8} (h : [110, 111].isPrefixOf l = true) : rdV f l = .ok (boolP false, l.drop 2) := by
  obtain ⟨r, rfl⟩ := List.isPrefixOf_iff_prefix.1 h
  simp [rdV, isDig, wordR, List.isPrefixOf]
theorem wordR_not {l : List UInt8} (h1 : [110, 117, 108, 108].isPrefixOf l = false) (h2 : [121, 101, 115].isPrefixOf l = false) (h3 : [110, 111].isPrefixOf l = false) : wordR l = .error l.length := by
  rw [wordR, if_neg (by rw [h1]; simp), if_neg (by rw [h2]; simp), if_neg (by rw [h3]; simp)]
/-- What a number's reading stands on. -/
theorem num_prep (s : ByteArray) (hs : s.size ≤ 65536) (k : Nat) (hk : k < s.size) : ∃ (X : ByteArray) (k2 : Nat) (nb : Bool) (nm : ByteArray) (ne : Int), k + 1 ≤ k2 ∧ k2 ≤ s.size ∧ s.extract k k2 = X ∧
    (∀ w, Calls Try.prog 55 #[.string s, .int .i64 ((k : Int) + 1), .bool false] w fun e w' => e = .returned (.int .i64 (k2 : Int)) ∧ w = w') ∧
    (∀ w, Calls Try.prog 56 #[.string X] w fun e w' => e = .returned (.tuple #[.agg #[.bool nb, .string nm], .int .i64 ne]) ∧ Below w.heap.size w w') ∧
    ((ne = 0 ∧ numR s[k] (s.data.toList.drop (k + 1)) = .ok (.mk 2 false nb nm ⟨#[]⟩ [], s.data.toList.drop k2) ∧ (∀ w, Calls Try.prog 45 #[.agg #[.bool nb, .string nm]] w fun e w' => e = .returned (.tuple #[.string X, .int .i64 0]) ∧ Below w.heap.size w w')) ∨
     ((ne != 0) = true ∧ numR s[k] (s.data.toList.drop (k + 1)) = .error (s.size - k))) := by
  obtain ⟨T, hT⟩ : ∃ T, (s.data.toList.drop (k + 1)).takeWhile isDig = T := ⟨_, rfl⟩
  have hTl : k + 1 + T.length ≤ s.size := by
    have := takeW_len (P := isDig) (s.data.toList.drop (k + 1))
    rw [hT, drop_len] at this; omega
  have hx : s.extract k (k + 1 + T.length) = bs (s[k] :: T) := by
    have := ext_mid s k (1 + T.length)
    rw [drop_at s k hk, Nat.add_comm 1, List.take_succ_cons] at this
    rw [show k + 1 + T.length = k + (T.length + 1) by omega, this]
    rw [← hT, takeW_take]
  have hrest : s.data.toList.drop (k + 1 + T.length) = (s.data.toList.drop (k + 1)).dropWhile isDig := by
    rw [← drop_more, ← hT, takeW_drop]
  have hlen : (s.data.toList.drop (k + 1)).length + 1 = s.size - k := by rw [drop_len]; omega
  have hsz : (bs (s[k] :: T)).size ≤ 17179869184 := by rw [bs_size]; simp; omega
  have hrow : ∀ w, Calls Try.prog 55 #[.string s, .int .i64 ((k : Int) + 1), .bool false] w fun e w' => e = .returned (.int .i64 ((k + 1 + T.length : Nat) : Int)) ∧ w = w' := fun w => by
    have h := rrow_any s (k + 1) false hs (by omega) w
    have e : (s.data.toList.drop (k + 1)).takeWhile (rowP false) = T := hT
    rw [e] at h
    exact h.mono fun _ _ q => ⟨q.1, q.2.symm⟩
  have hpa := fun w => rparse_any (bs (s[k] :: T)) hsz w
  rw [bs_data] at hpa
  cases hp : parseR (s[k] :: T) with
  | ok z =>
    obtain ⟨nb, m⟩ := z
    rw [hp] at hpa
    obtain ⟨hc, hpr⟩ := print_parse hp
    refine ⟨_, _, nb, bs m, 0, by omega, hTl, hx, hrow, hpa, .inl ⟨rfl, ?_, fun w => ?_⟩⟩
    · rw [numR, hT, hp, hrest]; rfl
    · have h255 := (chk_zero hc).1
      have := rprint_any nb (bs m) (by rw [bs_size]; omega) w
      rw [bs_data, printE, hc, if_pos rfl, hpr] at this
      exact this
  | error er =>
    rw [hp] at hpa
    have he := parse_err hp
    refine ⟨_, _, false, bs [], er, by omega, hTl, hx, hrow, hpa, .inr ⟨?_, ?_⟩⟩
    · rcases he with rfl | rfl <;> rfl
    · rw [numR, hT, hp, hlen]
/-- What a row of digits of sixteen stands on. -/
theorem hex_prep (s : ByteArray) (hs : s.size ≤ 65536) (k : Nat) (hk : k < s.size) : ∃ (X : ByteArray) (k2 L : Nat) (T : List UInt8), k + 1 ≤ k2 ∧ k2 ≤ s.size ∧ L = k2 - (k + 1) ∧ T.length = L ∧ (s.data.toList.drop (k + 1)).takeWhile isHex = T ∧ s.extract (k + 1) k2 = X ∧ s.data.toList.drop k2 = (s.data.toList.drop (k + 1)).dropWhile isHex ∧
    (∀ w, Calls Try.prog 55 #[.string s, .int .i64 ((k : Int) + 1), .bool true] w fun e w' => e = .returned (.int .i64 (k2 : Int)) ∧ w = w') ∧
    (L % 2 = 0 → ∀ w, Calls Try.prog 57 #[.string X] w fun e w' => e = .returned (.string (bs (unhex T))) ∧ Below w.heap.size w w') := by
  obtain ⟨T, hT⟩ : ∃ T, (s.data.toList.drop (k + 1)).takeWhile isHex = T := ⟨_, rfl⟩
  have hTl : k + 1 + T.length ≤ s.size := by
    have := takeW_len (P := isHex) (s.data.toList.drop (k + 1))
    rw [hT, drop_len] at this; omega
  have hx : s.extract (k + 1) (k + 1 + T.length) = bs T := by
    rw [ext_mid, ← hT, takeW_take]
  have hrest : s.data.toList.drop (k + 1 + T.length) = (s.data.toList.drop (k + 1)).dropWhile isHex := by
    rw [← drop_more, ← hT, takeW_drop]
  have hrow : ∀ w, Calls Try.prog 55 #[.string s, .int .i64 ((k : Int) + 1), .bool true] w fun e w' => e = .returned (.int .i64 ((k + 1 + T.length : Nat) : Int)) ∧ w = w' := fun w => by
    have h := rrow_any s (k + 1) true hs (by omega) w
    have e : (s.data.toList.drop (k + 1)).takeWhile (rowP true) = T := hT
    rw [e] at h
    exact h.mono fun _ _ q => ⟨q.1, q.2.symm⟩
  refine ⟨_, _, T.length, T, by omega, hTl, by omega, rfl, hT, hx, hrest, hrow, fun he w => ?_⟩
  have hall := takeW_all (P := isHex) (s.data.toList.drop (k + 1))
  rw [hT] at hall
  have := rbytesOf_any (bs T) (by rw [bs_size]; omega) (by rw [bs_size]; exact he) (fun j hj => hall _ (by
    have : (bs T)[j] = (bs T).data.toList[j]'(by rw [← Lib.size_eq]; exact hj) := rfl
    rw [this]
    have hm : ∀ x ∈ (bs T).data.toList, x ∈ T := by rw [bs_data]; exact fun _ h => h
    exact hm _ (List.getElem_mem _))) w
  rw [bs_data] at this
  exact this
set_option maxHeartbeats 16000000 in
set_option maxRecDepth 20000 in
theorem rvalue_step (f : List UInt8 → Got) (D : Nat) (hD : D ≤ 16) (s : ByteArray) (hs : s.size ≤ 65536)
    (htup : D < 16 → ∀ (k : Nat) (hk : k < s.size), s[k] = 40 → ∀ (w : World), Calls Try.prog 59 #[.string s, .int .i64 ((k : Int) + 1), .int .i64 ((D : Int) + 1)] w (RvE s (f (s.data.toList.drop (k + 1))) w))
    (hdeep : ¬ D < 16 → ∀ t, f t = .error (t.length + 1))
    (k : Nat) (hk : k ≤ s.size) (w : World) : Calls Try.prog 32 #[.string s, .int .i64 (k : Int), .int .i64 (D : Int)] w (RvE s (rdV f (s.data.toList.drop k)) w) := by
  have hb1 := (Below.refl w.heap.size w).alloc (Nat.le_refl _) (.cells #[.int .u8 0, .bool false, .bool false, .string ⟨#[]⟩, .string ⟨#[]⟩, .slice none 0 0] 27)
  have hB0 := Blk.new w 27 #[.int .u8 0, .bool false, .bool false, .string ⟨#[]⟩, .string ⟨#[]⟩, .slice none 0 0]
  have hs1 := alloc_size w (.cells #[.int .u8 0, .bool false, .bool false, .string ⟨#[]⟩, .string ⟨#[]⟩, .slice none 0 0] 27)
  obtain ⟨G, hG⟩ : ∃ G, rdV f (s.data.toList.drop k) = G := ⟨_, rfl⟩
  have HG : Hid (rdV f (s.data.toList.drop k) = G) := hG
  rw [hG]
  clear hG
  have hn := fun w' => (rhas_any s ⟨#[110, 117, 108, 108]⟩ k hs hk (by decide) w').mono (R' := fun e w'' => e = .returned (.bool ([110, 117, 108, 108].isPrefixOf (s.data.toList.drop k))) ∧ w' = w'') fun _ _ q => ⟨q.1, q.2.symm⟩
  have hy := fun w' => (rhas_any s ⟨#[121, 101, 115]⟩ k hs hk (by decide) w').mono (R' := fun e w'' => e = .returned (.bool ([121, 101, 115].isPrefixOf (s.data.toList.drop k))) ∧ w' = w'') fun _ _ q => ⟨q.1, q.2.symm⟩
  have ho := fun w' => (rhas_any s ⟨#[110, 111]⟩ k hs hk (by decide) w').mono (R' := fun e w'' => e = .returned (.bool ([110, 111].isPrefixOf (s.data.toList.drop k))) ∧ w' = w'') fun _ _ q => ⟨q.1, q.2.symm⟩
  go_enter Try.func32, Try.ntmps32
  go_upto_region 1 with fail
  generalize w.alloc (.cells #[.int .u8 0, .bool false, .bool false, .string ⟨#[]⟩, .string ⟨#[]⟩, .slice none 0 0] 27) = w1 at *
  have hb2 := hb1.alloc hb1.size (.cells #[.int .u8 0, .bool false, .bool false, .string ⟨#[]⟩, .string ⟨#[]⟩, .slice none 0 0] 27)
  have hB1 := Blk.new w1 27 #[.int .u8 0, .bool false, .bool false, .string ⟨#[]⟩, .string ⟨#[]⟩, .slice none 0 0]
  have hB0' := hB0.old ((Below.refl w1.heap.size w1).alloc (Nat.le_refl _) (.cells #[.int .u8 0, .bool false, .bool false, .string ⟨#[]⟩, .string ⟨#[]⟩, .slice none 0 0] 27))
  have hs2 := alloc_size w1 (.cells #[.int .u8 0, .bool false, .bool false, .string ⟨#[]⟩, .string ⟨#[]⟩, .slice none 0 0] 27)
  rw [hs1] at hB1 hs2
  go_upto_region 2 with fail
  generalize w1.alloc (.cells #[.int .u8 0, .bool false, .bool false, .string ⟨#[]⟩, .string ⟨#[]⟩, .slice none 0 0] 27) = w2 at *
  have HS2 : Hid (w2.heap.size = w.heap.size + 1 + 1) := hs2
  have hlo : w.heap.size ≤ w2.heap.size := hb2.size
  have HB0 : Hid (Blk w2 w.heap.size 27 #[.int .u8 0, .bool false, .bool false, .string ⟨#[]⟩, .string ⟨#[]⟩, .slice none 0 0]) := hB0'
  have HB1 : Hid (Blk w2 (w.heap.size + 1) 27 #[.int .u8 0, .bool false, .bool false, .string ⟨#[]⟩, .string ⟨#[]⟩, .slice none 0 0]) := hB1
  clear hB0 hB0' hB1 hs1 hs2 hb1
  have hrf := Below.refl w2.heap.size w2
  obtain ⟨NN, eN⟩ : ∃ NN, [110, 117, 108, 108].isPrefixOf (s.data.toList.drop k) = NN := ⟨_, rfl⟩
  obtain ⟨YY, eY⟩ : ∃ YY, [121, 101, 115].isPrefixOf (s.data.toList.drop k) = YY := ⟨_, rfl⟩
  obtain ⟨OO, eO⟩ : ∃ OO, [110, 111].isPrefixOf (s.data.toList.drop k) = OO := ⟨_, rfl⟩
  have HN : Hid (_ = _) := eN
  have HY : Hid (_ = _) := eY
  have HO : Hid (_ = _) := eO
  rw [eN] at hn
  rw [eY] at hy
  rw [eO] at ho
  clear eN eY eO
  go_wp2_with fail
  refine (hn w2).mono ?_
  rintro _ _ ⟨rfl, rfl⟩
  go_wp2_with fail
  refine (hy w2).mono ?_
  rintro _ _ ⟨rfl, rfl⟩
  go_wp2_with fail
  refine (ho w2).mono ?_
  rintro _ _ ⟨rfl, rfl⟩
  clear hn hy ho
  cases NN with
  | true =>
    have hle := pre_len HN.out
    rw [drop_len] at hle
    have hle4 : k + 4 ≤ s.size := by simp at hle; omega
    have HE : Hid (G = .ok (nullP, s.data.toList.drop (k + 4))) := by show _ = _; rw [← HG.out, rdV_null HN.out, drop_more]
    clear hle
    have hBr := HB0.out.old hrf
    obtain ⟨c0, c1, c2, c3, c4, c5⟩ := hBr.c6
    have f0 := hBr.frozen 0
    have f1 := hBr.frozen 1
    have f2 := hBr.frozen 2
    have f3 := hBr.frozen 3
    have f4 := hBr.frozen 4
    have f5 := hBr.frozen 5
    have hBn := HB1.out.old hrf
    obtain ⟨d0, d1, d2, d3, d4, d5⟩ := hBn.c6
    have HBR : Hid (Blk w2 w.heap.size 27 #[.int .u8 0, .bool false, .bool false, .string ⟨#[]⟩, .string ⟨#[]⟩, .slice none 0 0]) := hBr
    clear hBr hBn
    go_wp2_with fail
    have hfin := Blk.set6 HBR.out (.int .u8 0) (.bool false) (.bool false) (.string ⟨#[]⟩) (.string ⟨#[]⟩) (.slice none 0 0)
    have hbw := set6_below (hb2.trans (hrf.mono hlo)) (Nat.le_refl _) 0 (.int .u8 0) (.bool false) (.bool false) (.string ⟨#[]⟩) (.string ⟨#[]⟩) (.slice none 0 0)
    refine bodyPost_ret (res32_run (b := w.heap.size) hfin rfl rfl rfl) rfl ?_
    rw [HE.out]
    exact ⟨hbw, none, 0, k + 4, hle4, rfl, rfl, .nil rfl⟩
  | false =>
  cases YY with
  | true =>
    have hle := pre_len HY.out
    rw [drop_len] at hle
    have hle3 : k + 3 ≤ s.size := by simp at hle; omega
    have HE : Hid (G = .ok (boolP true, s.data.toList.drop (k + 3))) := by show _ = _; rw [← HG.out, rdV_yes HY.out, drop_more]
    clear hle
    have hBr := HB0.out.old hrf
    obtain ⟨c0, c1, c2, c3, c4, c5⟩ := hBr.c6
    have f0 := hBr.frozen 0
    have f1 := hBr.frozen 1
    have f2 := hBr.frozen 2
    have f3 := hBr.frozen 3
    have f4 := hBr.frozen 4
    have f5 := hBr.frozen 5
    have HBR : Hid (Blk w2 w.heap.size 27 #[.int .u8 0, .bool false, .bool false, .string ⟨#[]⟩, .string ⟨#[]⟩, .slice none 0 0]) := hBr
    clear hBr
    go_wp2_with fail
    have hfin := Blk.set6 HBR.out (.int .u8 1) (.bool true) (.bool false) (.string ⟨#[]⟩) (.string ⟨#[]⟩) (.slice none 0 0)
    have hbw := set6_below (hb2.trans (hrf.mono hlo)) (Nat.le_refl _) 0 (.int .u8 1) (.bool true) (.bool false) (.string ⟨#[]⟩) (.string ⟨#[]⟩) (.slice none 0 0)
    refine bodyPost_ret (res32_run (b := w.heap.size) hfin rfl rfl rfl) rfl ?_
    rw [HE.out]
    exact ⟨hbw, none, 0, k + 3, hle3, rfl, rfl, .nil rfl⟩
  | false =>
  cases OO with
  | true =>
    have hle := pre_len HO.out
    rw [drop_len] at hle
    have hle2 : k + 2 ≤ s.size := by simp at hle; omega
    have HE : Hid (G = .ok (boolP false, s.data.toList.drop (k + 2))) := by show _ = _; rw [← HG.out, rdV_no HO.out, drop_more]
    clear hle
    have hBr := HB0.out.old hrf
    obtain ⟨c0, c1, c2, c3, c4, c5⟩ := hBr.c6
    have f0 := hBr.frozen 0
    have f1 := hBr.frozen 1
    have f2 := hBr.frozen 2
    have f3 := hBr.frozen 3
    have f4 := hBr.frozen 4
    have f5 := hBr.frozen 5
    have HBR : Hid (Blk w2 w.heap.size 27 #[.int .u8 0, .bool false, .bool false, .string ⟨#[]⟩, .string ⟨#[]⟩, .slice none 0 0]) := hBr
    clear hBr
    go_wp2_with fail
    have hfin := Blk.set6 HBR.out (.int .u8 1) (.bool false) (.bool false) (.string ⟨#[]⟩) (.string ⟨#[]⟩) (.slice none 0 0)
    have hbw := set6_below (hb2.trans (hrf.mono hlo)) (Nat.le_refl _) 0 (.int .u8 1) (.bool false) (.bool false) (.string ⟨#[]⟩) (.string ⟨#[]⟩) (.slice none 0 0)
    refine bodyPost_ret (res32_run (b := w.heap.size) hfin rfl rfl rfl) rfl ?_
    rw [HE.out]
    exact ⟨hbw, none, 0, k + 2, hle2, rfl, rfl, .nil rfl⟩
  | false =>
  by_cases hlt : k < s.size
  · have tge : decide ((s.size : Int) ≤ (k : Int)) = false := decide_eq_false (by omega)
    have tge2 : decide (s.size ≤ k) = false := decide_eq_false (by omega)
    have hki : (k : Int) < (s.size : Int) := by omega
    have hd := drop_at s k hlt
    have HRD : Hid (G = rdV f (s[k] :: s.data.toList.drop (k + 1))) := by show _ = _; rw [← HG.out, hd]
    have HDR : Hid (s[k] :: s.data.toList.drop (k + 1) = s.data.toList.drop k) := hd.symm
    have hk1 : k + 1 ≤ s.size := hlt
    clear HG hd
    obtain ⟨X, k2, nb, nm, ne, hk2, hk2s, hx, hrow, hpa, hcase⟩ := num_prep s hs k hlt
    obtain ⟨X3, k3, L3, T3, hk3, hk3s, hL3, hT3, hT3', hx3, hr3, hrow3, hby⟩ := hex_prep s hs k hlt
    have HC : Hid _ := hcase
    have HX : Hid (L3 = k3 - (k + 1) ∧ T3.length = L3 ∧ (s.data.toList.drop (k + 1)).takeWhile isHex = T3 ∧ s.data.toList.drop k3 = (s.data.toList.drop (k + 1)).dropWhile isHex ∧ (L3 % 2 = 0 → ∀ w, Calls Try.prog 57 #[.string X3] w fun e w' => e = .returned (.string (bs (unhex T3))) ∧ Below w.heap.size w w')) := ⟨hL3, hT3, hT3', hr3, hby⟩
    clear hcase hL3 hT3 hT3' hr3 hby
    have hn2 : (k : Int) ≤ (k2 : Int) := by omega
    have hn2s : (k2 : Int) ≤ (s.size : Int) := by omega
    by_cases h45 : s[k] = 45
    · have t45 : ((s[k].toNat : Int) == 45) = true := u8_eqn _ 45 (by omega) h45
      have HGEQ : Hid (G = numR s[k] (s.data.toList.drop (k + 1))) := by show _ = _; rw [HRD.out, rdV, if_pos (by rw [h45]; decide)]
      clear h45
      clear HRD HDR htup hdeep HX hrow3 hx3 hk3 hk3s
      go_wp2_with fail
      refine (hrow w2).mono ?_
      rintro _ _ ⟨rfl, rfl⟩
      have hk2n : k ≤ k2 := by omega
      clear hrow
      go_wp2_with fail
      refine (hpa w2).mono ?_
      rintro _ w3 ⟨rfl, hb3⟩
      clear hpa
      have hb4 := hb3.alloc hb3.size (.cells #[.bool nb, .string nm] 24)
      have hB4 := Blk.new w3 24 #[.bool nb, .string nm]
      have e0 : (w3.alloc (.cells #[.bool nb, .string nm] 24)).cell? ⟨w3.heap.size, 0, none⟩ = some (.bool nb) := hB4.cell 0
      have e1 : (w3.alloc (.cells #[.bool nb, .string nm] 24)).cell? ⟨w3.heap.size, 1, none⟩ = some (.string nm) := hB4.cell 1
      go_upto_region 27 with fail
      generalize hw4 : w3.alloc (.cells #[.bool nb, .string nm] 24) = w4 at *
      clear hw4
      rcases HC.out with ⟨hne, hok, hpr⟩ | ⟨hne, her⟩
      · have HE : Hid (G = .ok (.mk 2 false nb nm ⟨#[]⟩ [], s.data.toList.drop k2)) := by show _ = _; rw [HGEQ.out, hok]
        subst hne
        clear hok HC
        go_wp2_with fail
        refine (hpr w4).mono ?_
        rintro _ w5 ⟨rfl, hb5⟩
        have hb25 := hb4.trans (hb5.mono hb4.size)
        have hB5 := hB4.old hb5
        have g0 : w5.cell? ⟨w3.heap.size, 0, none⟩ = some (.bool nb) := hB5.cell 0
        have g1 : w5.cell? ⟨w3.heap.size, 1, none⟩ = some (.string nm) := hB5.cell 1
        have yX : (X.toList == X.toList) = true := by simp
        clear e0 e1 hpr
        have hBr := HB0.out.old hb25
        obtain ⟨c0, c1, c2, c3, c4, c5⟩ := hBr.c6
        have f0 := hBr.frozen 0
        have f1 := hBr.frozen 1
        have f2 := hBr.frozen 2
        have f3 := hBr.frozen 3
        have f4 := hBr.frozen 4
        have f5 := hBr.frozen 5
        have HBR : Hid (Blk w5 w.heap.size 27 #[.int .u8 0, .bool false, .bool false, .string ⟨#[]⟩, .string ⟨#[]⟩, .slice none 0 0]) := hBr
        clear hBr
        go_wp2_with fail
        have hfin := Blk.set6 HBR.out (.int .u8 2) (.bool false) (.bool nb) (.string nm) (.string ⟨#[]⟩) (.slice none 0 0)
        have hbw := set6_below (hb2.trans (hb25.mono hlo)) (Nat.le_refl _) 0 (.int .u8 2) (.bool false) (.bool nb) (.string nm) (.string ⟨#[]⟩) (.slice none 0 0)
        refine bodyPost_ret (res32_run (b := w.heap.size) hfin rfl rfl rfl) rfl ?_
        rw [HE.out]
        exact ⟨hbw, none, 0, k2, hk2s, rfl, rfl, .nil rfl⟩
      · have HE : Hid (G = .error (s.size - k)) := by show _ = _; rw [HGEQ.out, her]
        clear her HC
        have hBr := HB0.out.old hb4
        obtain ⟨c0, c1, c2, c3, c4, c5⟩ := hBr.c6
        have f0 := hBr.frozen 0
        have f1 := hBr.frozen 1
        have f2 := hBr.frozen 2
        have f3 := hBr.frozen 3
        have f4 := hBr.frozen 4
        have f5 := hBr.frozen 5
        have hBn := HB1.out.old hb4
        obtain ⟨d0, d1, d2, d3, d4, d5⟩ := hBn.c6
        have HBR : Hid (Blk w4 w.heap.size 27 #[.int .u8 0, .bool false, .bool false, .string ⟨#[]⟩, .string ⟨#[]⟩, .slice none 0 0]) := hBr
        clear hBr hBn
        go_wp2_with fail
        have hfin := Blk.set6 HBR.out (.int .u8 0) (.bool false) (.bool false) (.string ⟨#[]⟩) (.string ⟨#[]⟩) (.slice none 0 0)
        have hbw := set6_below (hb2.trans (hb4.mono hlo)) (Nat.le_refl _) 0 (.int .u8 0) (.bool false) (.bool false) (.string ⟨#[]⟩) (.string ⟨#[]⟩) (.slice none 0 0)
        refine bodyPost_ret (res32_run (b := w.heap.size) hfin rfl rfl rfl) rfl ?_
        rw [HE.out]
        exact ⟨hbw, k, hk, rfl, rfl⟩
    have t45 : ((s[k].toNat : Int) == 45) = false := u8_nen _ 45 h45
    by_cases h48 : s[k] = 48
    · have t48 : ((s[k].toNat : Int) == 48) = true := u8_eqn _ 48 (by omega) h48
      have HGEQ : Hid (G = numR s[k] (s.data.toList.drop (k + 1))) := by show _ = _; rw [HRD.out, rdV, if_pos (by rw [h48]; decide)]
      clear h45 h48
      clear HRD HDR htup hdeep HX hrow3 hx3 hk3 hk3s
      go_wp2_with fail
      refine (hrow w2).mono ?_
      rintro _ _ ⟨rfl, rfl⟩
      have hk2n : k ≤ k2 := by omega
      clear hrow
      go_wp2_with fail
      refine (hpa w2).mono ?_
      rintro _ w3 ⟨rfl, hb3⟩
      clear hpa
      have hb4 := hb3.alloc hb3.size (.cells #[.bool nb, .string nm] 24)
      have hB4 := Blk.new w3 24 #[.bool nb, .string nm]
      have e0 : (w3.alloc (.cells #[.bool nb, .string nm] 24)).cell? ⟨w3.heap.size, 0, none⟩ = some (.bool nb) := hB4.cell 0
      have e1 : (w3.alloc (.cells #[.bool nb, .string nm] 24)).cell? ⟨w3.heap.size, 1, none⟩ = some (.string nm) := hB4.cell 1
      go_upto_region 27 with fail
      generalize hw4 : w3.alloc (.cells #[.bool nb, .string nm] 24) = w4 at *
      clear hw4
      rcases HC.out with ⟨hne, hok, hpr⟩ | ⟨hne, her⟩
      · have HE : Hid (G = .ok (.mk 2 false nb nm ⟨#[]⟩ [], s.data.toList.drop k2)) := by show _ = _; rw [HGEQ.out, hok]
        subst hne
        clear hok HC
        go_wp2_with fail
        refine (hpr w4).mono ?_
        rintro _ w5 ⟨rfl, hb5⟩
        have hb25 := hb4.trans (hb5.mono hb4.size)
        have hB5 := hB4.old hb5
        have g0 : w5.cell? ⟨w3.heap.size, 0, none⟩ = some (.bool nb) := hB5.cell 0
        have g1 : w5.cell? ⟨w3.heap.size, 1, none⟩ = some (.string nm) := hB5.cell 1
        have yX : (X.toList == X.toList) = true := by simp
        clear e0 e1 hpr
        have hBr := HB0.out.old hb25
        obtain ⟨c0, c1, c2, c3, c4, c5⟩ := hBr.c6
        have f0 := hBr.frozen 0
        have f1 := hBr.frozen 1
        have f2 := hBr.frozen 2
        have f3 := hBr.frozen 3
        have f4 := hBr.frozen 4
        have f5 := hBr.frozen 5
        have HBR : Hid (Blk w5 w.heap.size 27 #[.int .u8 0, .bool false, .bool false, .string ⟨#[]⟩, .string ⟨#[]⟩, .slice none 0 0]) := hBr
        clear hBr
        go_wp2_with fail
        have hfin := Blk.set6 HBR.out (.int .u8 2) (.bool false) (.bool nb) (.string nm) (.string ⟨#[]⟩) (.slice none 0 0)
        have hbw := set6_below (hb2.trans (hb25.mono hlo)) (Nat.le_refl _) 0 (.int .u8 2) (.bool false) (.bool nb) (.string nm) (.string ⟨#[]⟩) (.slice none 0 0)
        refine bodyPost_ret (res32_run (b := w.heap.size) hfin rfl rfl rfl) rfl ?_
        rw [HE.out]
        exact ⟨hbw, none, 0, k2, hk2s, rfl, rfl, .nil rfl⟩
      · have HE : Hid (G = .error (s.size - k)) := by show _ = _; rw [HGEQ.out, her]
        clear her HC
        have hBr := HB0.out.old hb4
        obtain ⟨c0, c1, c2, c3, c4, c5⟩ := hBr.c6
        have f0 := hBr.frozen 0
        have f1 := hBr.frozen 1
        have f2 := hBr.frozen 2
        have f3 := hBr.frozen 3
        have f4 := hBr.frozen 4
        have f5 := hBr.frozen 5
        have hBn := HB1.out.old hb4
        obtain ⟨d0, d1, d2, d3, d4, d5⟩ := hBn.c6
        have HBR : Hid (Blk w4 w.heap.size 27 #[.int .u8 0, .bool false, .bool false, .string ⟨#[]⟩, .string ⟨#[]⟩, .slice none 0 0]) := hBr
        clear hBr hBn
        go_wp2_with fail
        have hfin := Blk.set6 HBR.out (.int .u8 0) (.bool false) (.bool false) (.string ⟨#[]⟩) (.string ⟨#[]⟩) (.slice none 0 0)
        have hbw := set6_below (hb2.trans (hb4.mono hlo)) (Nat.le_refl _) 0 (.int .u8 0) (.bool false) (.bool false) (.string ⟨#[]⟩) (.string ⟨#[]⟩) (.slice none 0 0)
        refine bodyPost_ret (res32_run (b := w.heap.size) hfin rfl rfl rfl) rfl ?_
        rw [HE.out]
        exact ⟨hbw, k, hk, rfl, rfl⟩
    have t48 : ((s[k].toNat : Int) == 48) = false := u8_nen _ 48 h48
    by_cases h49 : s[k] = 49
    · have t49 : ((s[k].toNat : Int) == 49) = true := u8_eqn _ 49 (by omega) h49
      have HGEQ : Hid (G = numR s[k] (s.data.toList.drop (k + 1))) := by show _ = _; rw [HRD.out, rdV, if_pos (by rw [h49]; decide)]
      clear h45 h48 h49
      clear HRD HDR htup hdeep HX hrow3 hx3 hk3 hk3s
      go_wp2_with fail
      refine (hrow w2).mono ?_
      rintro _ _ ⟨rfl, rfl⟩
      have hk2n : k ≤ k2 := by omega
      clear hrow
      go_wp2_with fail
      refine (hpa w2).mono ?_
      rintro _ w3 ⟨rfl, hb3⟩
      clear hpa
      have hb4 := hb3.alloc hb3.size (.cells #[.bool nb, .string nm] 24)
      have hB4 := Blk.new w3 24 #[.bool nb, .string nm]
      have e0 : (w3.alloc (.cells #[.bool nb, .string nm] 24)).cell? ⟨w3.heap.size, 0, none⟩ = some (.bool nb) := hB4.cell 0
      have e1 : (w3.alloc (.cells #[.bool nb, .string nm] 24)).cell? ⟨w3.heap.size, 1, none⟩ = some (.string nm) := hB4.cell 1
      go_upto_region 27 with fail
      generalize hw4 : w3.alloc (.cells #[.bool nb, .string nm] 24) = w4 at *
      clear hw4
      rcases HC.out with ⟨hne, hok, hpr⟩ | ⟨hne, her⟩
      · have HE : Hid (G = .ok (.mk 2 false nb nm ⟨#[]⟩ [], s.data.toList.drop k2)) := by show _ = _; rw [HGEQ.out, hok]
        subst hne
        clear hok HC
        go_wp2_with fail
        refine (hpr w4).mono ?_
        rintro _ w5 ⟨rfl, hb5⟩
        have hb25 := hb4.trans (hb5.mono hb4.size)
        have hB5 := hB4.old hb5
        have g0 : w5.cell? ⟨w3.heap.size, 0, none⟩ = some (.bool nb) := hB5.cell 0
        have g1 : w5.cell? ⟨w3.heap.size, 1, none⟩ = some (.string nm) := hB5.cell 1
        have yX : (X.toList == X.toList) = true := by simp
        clear e0 e1 hpr
        have hBr := HB0.out.old hb25
        obtain ⟨c0, c1, c2, c3, c4, c5⟩ := hBr.c6
        have f0 := hBr.frozen 0
        have f1 := hBr.frozen 1
        have f2 := hBr.frozen 2
        have f3 := hBr.frozen 3
        have f4 := hBr.frozen 4
        have f5 := hBr.frozen 5
        have HBR : Hid (Blk w5 w.heap.size 27 #[.int .u8 0, .bool false, .bool false, .string ⟨#[]⟩, .string ⟨#[]⟩, .slice none 0 0]) := hBr
        clear hBr
        go_wp2_with fail
        have hfin := Blk.set6 HBR.out (.int .u8 2) (.bool false) (.bool nb) (.string nm) (.string ⟨#[]⟩) (.slice none 0 0)
        have hbw := set6_below (hb2.trans (hb25.mono hlo)) (Nat.le_refl _) 0 (.int .u8 2) (.bool false) (.bool nb) (.string nm) (.string ⟨#[]⟩) (.slice none 0 0)
        refine bodyPost_ret (res32_run (b := w.heap.size) hfin rfl rfl rfl) rfl ?_
        rw [HE.out]
        exact ⟨hbw, none, 0, k2, hk2s, rfl, rfl, .nil rfl⟩
      · have HE : Hid (G = .error (s.size - k)) := by show _ = _; rw [HGEQ.out, her]
        clear her HC
        have hBr := HB0.out.old hb4
        obtain ⟨c0, c1, c2, c3, c4, c5⟩ := hBr.c6
        have f0 := hBr.frozen 0
        have f1 := hBr.frozen 1
        have f2 := hBr.frozen 2
        have f3 := hBr.frozen 3
        have f4 := hBr.frozen 4
        have f5 := hBr.frozen 5
        have hBn := HB1.out.old hb4
        obtain ⟨d0, d1, d2, d3, d4, d5⟩ := hBn.c6
        have HBR : Hid (Blk w4 w.heap.size 27 #[.int .u8 0, .bool false, .bool false, .string ⟨#[]⟩, .string ⟨#[]⟩, .slice none 0 0]) := hBr
        clear hBr hBn
        go_wp2_with fail
        have hfin := Blk.set6 HBR.out (.int .u8 0) (.bool false) (.bool false) (.string ⟨#[]⟩) (.string ⟨#[]⟩) (.slice none 0 0)
        have hbw := set6_below (hb2.trans (hb4.mono hlo)) (Nat.le_refl _) 0 (.int .u8 0) (.bool false) (.bool false) (.string ⟨#[]⟩) (.string ⟨#[]⟩) (.slice none 0 0)
        refine bodyPost_ret (res32_run (b := w.heap.size) hfin rfl rfl rfl) rfl ?_
        rw [HE.out]
        exact ⟨hbw, k, hk, rfl, rfl⟩
    have t49 : ((s[k].toNat : Int) == 49) = false := u8_nen _ 49 h49
    by_cases h50 : s[k] = 50
    · have t50 : ((s[k].toNat : Int) == 50) = true := u8_eqn _ 50 (by omega) h50
      have HGEQ : Hid (G = numR s[k] (s.data.toList.drop (k + 1))) := by show _ = _; rw [HRD.out, rdV, if_pos (by rw [h50]; decide)]
      clear h45 h48 h49 h50
      clear HRD HDR htup hdeep HX hrow3 hx3 hk3 hk3s
      go_wp2_with fail
      refine (hrow w2).mono ?_
      rintro _ _ ⟨rfl, rfl⟩
      have hk2n : k ≤ k2 := by omega
      clear hrow
      go_wp2_with fail
      refine (hpa w2).mono ?_
      rintro _ w3 ⟨rfl, hb3⟩
      clear hpa
      have hb4 := hb3.alloc hb3.size (.cells #[.bool nb, .string nm] 24)
      have hB4 := Blk.new w3 24 #[.bool nb, .string nm]
      have e0 : (w3.alloc (.cells #[.bool nb, .string nm] 24)).cell? ⟨w3.heap.size, 0, none⟩ = some (.bool nb) := hB4.cell 0
      have e1 : (w3.alloc (.cells #[.bool nb, .string nm] 24)).cell? ⟨w3.heap.size, 1, none⟩ = some (.string nm) := hB4.cell 1
      go_upto_region 27 with fail
      generalize hw4 : w3.alloc (.cells #[.bool nb, .string nm] 24) = w4 at *
      clear hw4
      rcases HC.out with ⟨hne, hok, hpr⟩ | ⟨hne, her⟩
      · have HE : Hid (G = .ok (.mk 2 false nb nm ⟨#[]⟩ [], s.data.toList.drop k2)) := by show _ = _; rw [HGEQ.out, hok]
        subst hne
        clear hok HC
        go_wp2_with fail
        refine (hpr w4).mono ?_
        rintro _ w5 ⟨rfl, hb5⟩
        have hb25 := hb4.trans (hb5.mono hb4.size)
        have hB5 := hB4.old hb5
        have g0 : w5.cell? ⟨w3.heap.size, 0, none⟩ = some (.bool nb) := hB5.cell 0
        have g1 : w5.cell? ⟨w3.heap.size, 1, none⟩ = some (.string nm) := hB5.cell 1
        have yX : (X.toList == X.toList) = true := by simp
        clear e0 e1 hpr
        have hBr := HB0.out.old hb25
        obtain ⟨c0, c1, c2, c3, c4, c5⟩ := hBr.c6
        have f0 := hBr.frozen 0
        have f1 := hBr.frozen 1
        have f2 := hBr.frozen 2
        have f3 := hBr.frozen 3
        have f4 := hBr.frozen 4
        have f5 := hBr.frozen 5
        have HBR : Hid (Blk w5 w.heap.size 27 #[.int .u8 0, .bool false, .bool false, .string ⟨#[]⟩, .string ⟨#[]⟩, .slice none 0 0]) := hBr
        clear hBr
        go_wp2_with fail
        have hfin := Blk.set6 HBR.out (.int .u8 2) (.bool false) (.bool nb) (.string nm) (.string ⟨#[]⟩) (.slice none 0 0)
        have hbw := set6_below (hb2.trans (hb25.mono hlo)) (Nat.le_refl _) 0 (.int .u8 2) (.bool false) (.bool nb) (.string nm) (.string ⟨#[]⟩) (.slice none 0 0)
        refine bodyPost_ret (res32_run (b := w.heap.size) hfin rfl rfl rfl) rfl ?_
        rw [HE.out]
        exact ⟨hbw, none, 0, k2, hk2s, rfl, rfl, .nil rfl⟩
      · have HE : Hid (G = .error (s.size - k)) := by show _ = _; rw [HGEQ.out, her]
        clear her HC
        have hBr := HB0.out.old hb4
        obtain ⟨c0, c1, c2, c3, c4, c5⟩ := hBr.c6
        have f0 := hBr.frozen 0
        have f1 := hBr.frozen 1
        have f2 := hBr.frozen 2
        have f3 := hBr.frozen 3
        have f4 := hBr.frozen 4
        have f5 := hBr.frozen 5
        have hBn := HB1.out.old hb4
        obtain ⟨d0, d1, d2, d3, d4, d5⟩ := hBn.c6
        have HBR : Hid (Blk w4 w.heap.size 27 #[.int .u8 0, .bool false, .bool false, .string ⟨#[]⟩, .string ⟨#[]⟩, .slice none 0 0]) := hBr
        clear hBr hBn
        go_wp2_with fail
        have hfin := Blk.set6 HBR.out (.int .u8 0) (.bool false) (.bool false) (.string ⟨#[]⟩) (.string ⟨#[]⟩) (.slice none 0 0)
        have hbw := set6_below (hb2.trans (hb4.mono hlo)) (Nat.le_refl _) 0 (.int .u8 0) (.bool false) (.bool false) (.string ⟨#[]⟩) (.string ⟨#[]⟩) (.slice none 0 0)
        refine bodyPost_ret (res32_run (b := w.heap.size) hfin rfl rfl rfl) rfl ?_
        rw [HE.out]
        exact ⟨hbw, k, hk, rfl, rfl⟩
    have t50 : ((s[k].toNat : Int) == 50) = false := u8_nen _ 50 h50
    by_cases h51 : s[k] = 51
    · have t51 : ((s[k].toNat : Int) == 51) = true := u8_eqn _ 51 (by omega) h51
      have HGEQ : Hid (G = numR s[k] (s.data.toList.drop (k + 1))) := by show _ = _; rw [HRD.out, rdV, if_pos (by rw [h51]; decide)]
      clear h45 h48 h49 h50 h51
      clear HRD HDR htup hdeep HX hrow3 hx3 hk3 hk3s
      go_wp2_with fail
      refine (hrow w2).mono ?_
      rintro _ _ ⟨rfl, rfl⟩
      have hk2n : k ≤ k2 := by omega
      clear hrow
      go_wp2_with fail
      refine (hpa w2).mono ?_
      rintro _ w3 ⟨rfl, hb3⟩
      clear hpa
      have hb4 := hb3.alloc hb3.size (.cells #[.bool nb, .string nm] 24)
      have hB4 := Blk.new w3 24 #[.bool nb, .string nm]
      have e0 : (w3.alloc (.cells #[.bool nb, .string nm] 24)).cell? ⟨w3.heap.size, 0, none⟩ = some (.bool nb) := hB4.cell 0
      have e1 : (w3.alloc (.cells #[.bool nb, .string nm] 24)).cell? ⟨w3.heap.size, 1, none⟩ = some (.string nm) := hB4.cell 1
      go_upto_region 27 with fail
      generalize hw4 : w3.alloc (.cells #[.bool nb, .string nm] 24) = w4 at *
      clear hw4
      rcases HC.out with ⟨hne, hok, hpr⟩ | ⟨hne, her⟩
      · have HE : Hid (G = .ok (.mk 2 false nb nm ⟨#[]⟩ [], s.data.toList.drop k2)) := by show _ = _; rw [HGEQ.out, hok]
        subst hne
        clear hok HC
        go_wp2_with fail
        refine (hpr w4).mono ?_
        rintro _ w5 ⟨rfl, hb5⟩
        have hb25 := hb4.trans (hb5.mono hb4.size)
        have hB5 := hB4.old hb5
        have g0 : w5.cell? ⟨w3.heap.size, 0, none⟩ = some (.bool nb) := hB5.cell 0
        have g1 : w5.cell? ⟨w3.heap.size, 1, none⟩ = some (.string nm) := hB5.cell 1
        have yX : (X.toList == X.toList) = true := by simp
        clear e0 e1 hpr
        have hBr := HB0.out.old hb25
        obtain ⟨c0, c1, c2, c3, c4, c5⟩ := hBr.c6
        have f0 := hBr.frozen 0
        have f1 := hBr.frozen 1
        have f2 := hBr.frozen 2
        have f3 := hBr.frozen 3
        have f4 := hBr.frozen 4
        have f5 := hBr.frozen 5
        have HBR : Hid (Blk w5 w.heap.size 27 #[.int .u8 0, .bool false, .bool false, .string ⟨#[]⟩, .string ⟨#[]⟩, .slice none 0 0]) := hBr
        clear hBr
        go_wp2_with fail
        have hfin := Blk.set6 HBR.out (.int .u8 2) (.bool false) (.bool nb) (.string nm) (.string ⟨#[]⟩) (.slice none 0 0)
        have hbw := set6_below (hb2.trans (hb25.mono hlo)) (Nat.le_refl _) 0 (.int .u8 2) (.bool false) (.bool nb) (.string nm) (.string ⟨#[]⟩) (.slice none 0 0)
        refine bodyPost_ret (res32_run (b := w.heap.size) hfin rfl rfl rfl) rfl ?_
        rw [HE.out]
        exact ⟨hbw, none, 0, k2, hk2s, rfl, rfl, .nil rfl⟩
      · have HE : Hid (G = .error (s.size - k)) := by show _ = _; rw [HGEQ.out, her]
        clear her HC
        have hBr := HB0.out.old hb4
        obtain ⟨c0, c1, c2, c3, c4, c5⟩ := hBr.c6
        have f0 := hBr.frozen 0
        have f1 := hBr.frozen 1
        have f2 := hBr.frozen 2
        have f3 := hBr.frozen 3
        have f4 := hBr.frozen 4
        have f5 := hBr.frozen 5
        have hBn := HB1.out.old hb4
        obtain ⟨d0, d1, d2, d3, d4, d5⟩ := hBn.c6
        have HBR : Hid (Blk w4 w.heap.size 27 #[.int .u8 0, .bool false, .bool false, .string ⟨#[]⟩, .string ⟨#[]⟩, .slice none 0 0]) := hBr
        clear hBr hBn
        go_wp2_with fail
        have hfin := Blk.set6 HBR.out (.int .u8 0) (.bool false) (.bool false) (.string ⟨#[]⟩) (.string ⟨#[]⟩) (.slice none 0 0)
        have hbw := set6_below (hb2.trans (hb4.mono hlo)) (Nat.le_refl _) 0 (.int .u8 0) (.bool false) (.bool false) (.string ⟨#[]⟩) (.string ⟨#[]⟩) (.slice none 0 0)
        refine bodyPost_ret (res32_run (b := w.heap.size) hfin rfl rfl rfl) rfl ?_
        rw [HE.out]
        exact ⟨hbw, k, hk, rfl, rfl⟩
    have t51 : ((s[k].toNat : Int) == 51) = false := u8_nen _ 51 h51
    by_cases h52 : s[k] = 52
    · have t52 : ((s[k].toNat : Int) == 52) = true := u8_eqn _ 52 (by omega) h52
      have HGEQ : Hid (G = numR s[k] (s.data.toList.drop (k + 1))) := by show _ = _; rw [HRD.out, rdV, if_pos (by rw [h52]; decide)]
      clear h45 h48 h49 h50 h51 h52
      clear HRD HDR htup hdeep HX hrow3 hx3 hk3 hk3s
      go_wp2_with fail
      refine (hrow w2).mono ?_
      rintro _ _ ⟨rfl, rfl⟩
      have hk2n : k ≤ k2 := by omega
      clear hrow
      go_wp2_with fail
      refine (hpa w2).mono ?_
      rintro _ w3 ⟨rfl, hb3⟩
      clear hpa
      have hb4 := hb3.alloc hb3.size (.cells #[.bool nb, .string nm] 24)
      have hB4 := Blk.new w3 24 #[.bool nb, .string nm]
      have e0 : (w3.alloc (.cells #[.bool nb, .string nm] 24)).cell? ⟨w3.heap.size, 0, none⟩ = some (.bool nb) := hB4.cell 0
      have e1 : (w3.alloc (.cells #[.bool nb, .string nm] 24)).cell? ⟨w3.heap.size, 1, none⟩ = some (.string nm) := hB4.cell 1
      go_upto_region 27 with fail
      generalize hw4 : w3.alloc (.cells #[.bool nb, .string nm] 24) = w4 at *
      clear hw4
      rcases HC.out with ⟨hne, hok, hpr⟩ | ⟨hne, her⟩
      · have HE : Hid (G = .ok (.mk 2 false nb nm ⟨#[]⟩ [], s.data.toList.drop k2)) := by show _ = _; rw [HGEQ.out, hok]
        subst hne
        clear hok HC
        go_wp2_with fail
        refine (hpr w4).mono ?_
        rintro _ w5 ⟨rfl, hb5⟩
        have hb25 := hb4.trans (hb5.mono hb4.size)
        have hB5 := hB4.old hb5
        have g0 : w5.cell? ⟨w3.heap.size, 0, none⟩ = some (.bool nb) := hB5.cell 0
        have g1 : w5.cell? ⟨w3.heap.size, 1, none⟩ = some (.string nm) := hB5.cell 1
        have yX : (X.toList == X.toList) = true := by simp
        clear e0 e1 hpr
        have hBr := HB0.out.old hb25
        obtain ⟨c0, c1, c2, c3, c4, c5⟩ := hBr.c6
        have f0 := hBr.frozen 0
        have f1 := hBr.frozen 1
        have f2 := hBr.frozen 2
        have f3 := hBr.frozen 3
        have f4 := hBr.frozen 4
        have f5 := hBr.frozen 5
        have HBR : Hid (Blk w5 w.heap.size 27 #[.int .u8 0, .bool false, .bool false, .string ⟨#[]⟩, .string ⟨#[]⟩, .slice none 0 0]) := hBr
        clear hBr
        go_wp2_with fail
        have hfin := Blk.set6 HBR.out (.int .u8 2) (.bool false) (.bool nb) (.string nm) (.string ⟨#[]⟩) (.slice none 0 0)
        have hbw := set6_below (hb2.trans (hb25.mono hlo)) (Nat.le_refl _) 0 (.int .u8 2) (.bool false) (.bool nb) (.string nm) (.string ⟨#[]⟩) (.slice none 0 0)
        refine bodyPost_ret (res32_run (b := w.heap.size) hfin rfl rfl rfl) rfl ?_
        rw [HE.out]
        exact ⟨hbw, none, 0, k2, hk2s, rfl, rfl, .nil rfl⟩
      · have HE : Hid (G = .error (s.size - k)) := by show _ = _; rw [HGEQ.out, her]
        clear her HC
        have hBr := HB0.out.old hb4
        obtain ⟨c0, c1, c2, c3, c4, c5⟩ := hBr.c6
        have f0 := hBr.frozen 0
        have f1 := hBr.frozen 1
        have f2 := hBr.frozen 2
        have f3 := hBr.frozen 3
        have f4 := hBr.frozen 4
        have f5 := hBr.frozen 5
        have hBn := HB1.out.old hb4
        obtain ⟨d0, d1, d2, d3, d4, d5⟩ := hBn.c6
        have HBR : Hid (Blk w4 w.heap.size 27 #[.int .u8 0, .bool false, .bool false, .string ⟨#[]⟩, .string ⟨#[]⟩, .slice none 0 0]) := hBr
        clear hBr hBn
        go_wp2_with fail
        have hfin := Blk.set6 HBR.out (.int .u8 0) (.bool false) (.bool false) (.string ⟨#[]⟩) (.string ⟨#[]⟩) (.slice none 0 0)
        have hbw := set6_below (hb2.trans (hb4.mono hlo)) (Nat.le_refl _) 0 (.int .u8 0) (.bool false) (.bool false) (.string ⟨#[]⟩) (.string ⟨#[]⟩) (.slice none 0 0)
        refine bodyPost_ret (res32_run (b := w.heap.size) hfin rfl rfl rfl) rfl ?_
        rw [HE.out]
        exact ⟨hbw, k, hk, rfl, rfl⟩
    have t52 : ((s[k].toNat : Int) == 52) = false := u8_nen _ 52 h52
    by_cases h53 : s[k] = 53
    · have t53 : ((s[k].toNat : Int) == 53) = true := u8_eqn _ 53 (by omega) h53
      have HGEQ : Hid (G = numR s[k] (s.data.toList.drop (k + 1))) := by show _ = _; rw [HRD.out, rdV, if_pos (by rw [h53]; decide)]
      clear h45 h48 h49 h50 h51 h52 h53
      clear HRD HDR htup hdeep HX hrow3 hx3 hk3 hk3s
      go_wp2_with fail
      refine (hrow w2).mono ?_
      rintro _ _ ⟨rfl, rfl⟩
      have hk2n : k ≤ k2 := by omega
      clear hrow
      go_wp2_with fail
      refine (hpa w2).mono ?_
      rintro _ w3 ⟨rfl, hb3⟩
      clear hpa
      have hb4 := hb3.alloc hb3.size (.cells #[.bool nb, .string nm] 24)
      have hB4 := Blk.new w3 24 #[.bool nb, .string nm]
      have e0 : (w3.alloc (.cells #[.bool nb, .string nm] 24)).cell? ⟨w3.heap.size, 0, none⟩ = some (.bool nb) := hB4.cell 0
      have e1 : (w3.alloc (.cells #[.bool nb, .string nm] 24)).cell? ⟨w3.heap.size, 1, none⟩ = some (.string nm) := hB4.cell 1
      go_upto_region 27 with fail
      generalize hw4 : w3.alloc (.cells #[.bool nb, .string nm] 24) = w4 at *
      clear hw4
      rcases HC.out with ⟨hne, hok, hpr⟩ | ⟨hne, her⟩
      · have HE : Hid (G = .ok (.mk 2 false nb nm ⟨#[]⟩ [], s.data.toList.drop k2)) := by show _ = _; rw [HGEQ.out, hok]
        subst hne
        clear hok HC
        go_wp2_with fail
        refine (hpr w4).mono ?_
        rintro _ w5 ⟨rfl, hb5⟩
        have hb25 := hb4.trans (hb5.mono hb4.size)
        have hB5 := hB4.old hb5
        have g0 : w5.cell? ⟨w3.heap.size, 0, none⟩ = some (.bool nb) := hB5.cell 0
        have g1 : w5.cell? ⟨w3.heap.size, 1, none⟩ = some (.string nm) := hB5.cell 1
        have yX : (X.toList == X.toList) = true := by simp
        clear e0 e1 hpr
        have hBr := HB0.out.old hb25
        obtain ⟨c0, c1, c2, c3, c4, c5⟩ := hBr.c6
        have f0 := hBr.frozen 0
        have f1 := hBr.frozen 1
        have f2 := hBr.frozen 2
        have f3 := hBr.frozen 3
        have f4 := hBr.frozen 4
        have f5 := hBr.frozen 5
        have HBR : Hid (Blk w5 w.heap.size 27 #[.int .u8 0, .bool false, .bool false, .string ⟨#[]⟩, .string ⟨#[]⟩, .slice none 0 0]) := hBr
        clear hBr
        go_wp2_with fail
        have hfin := Blk.set6 HBR.out (.int .u8 2) (.bool false) (.bool nb) (.string nm) (.string ⟨#[]⟩) (.slice none 0 0)
        have hbw := set6_below (hb2.trans (hb25.mono hlo)) (Nat.le_refl _) 0 (.int .u8 2) (.bool false) (.bool nb) (.string nm) (.string ⟨#[]⟩) (.slice none 0 0)
        refine bodyPost_ret (res32_run (b := w.heap.size) hfin rfl rfl rfl) rfl ?_
        rw [HE.out]
        exact ⟨hbw, none, 0, k2, hk2s, rfl, rfl, .nil rfl⟩
      · have HE : Hid (G = .error (s.size - k)) := by show _ = _; rw [HGEQ.out, her]
        clear her HC
        have hBr := HB0.out.old hb4
        obtain ⟨c0, c1, c2, c3, c4, c5⟩ := hBr.c6
        have f0 := hBr.frozen 0
        have f1 := hBr.frozen 1
        have f2 := hBr.frozen 2
        have f3 := hBr.frozen 3
        have f4 := hBr.frozen 4
        have f5 := hBr.frozen 5
        have hBn := HB1.out.old hb4
        obtain ⟨d0, d1, d2, d3, d4, d5⟩ := hBn.c6
        have HBR : Hid (Blk w4 w.heap.size 27 #[.int .u8 0, .bool false, .bool false, .string ⟨#[]⟩, .string ⟨#[]⟩, .slice none 0 0]) := hBr
        clear hBr hBn
        go_wp2_with fail
        have hfin := Blk.set6 HBR.out (.int .u8 0) (.bool false) (.bool false) (.string ⟨#[]⟩) (.string ⟨#[]⟩) (.slice none 0 0)
        have hbw := set6_below (hb2.trans (hb4.mono hlo)) (Nat.le_refl _) 0 (.int .u8 0) (.bool false) (.bool false) (.string ⟨#[]⟩) (.string ⟨#[]⟩) (.slice none 0 0)
        refine bodyPost_ret (res32_run (b := w.heap.size) hfin rfl rfl rfl) rfl ?_
        rw [HE.out]
        exact ⟨hbw, k, hk, rfl, rfl⟩
    have t53 : ((s[k].toNat : Int) == 53) = false := u8_nen _ 53 h53
    by_cases h54 : s[k] = 54
    · have t54 : ((s[k].toNat : Int) == 54) = true := u8_eqn _ 54 (by omega) h54
      have HGEQ : Hid (G = numR s[k] (s.data.toList.drop (k + 1))) := by show _ = _; rw [HRD.out, rdV, if_pos (by rw [h54]; decide)]
      clear h45 h48 h49 h50 h51 h52 h53 h54
      clear HRD HDR htup hdeep HX hrow3 hx3 hk3 hk3s
      go_wp2_with fail
      refine (hrow w2).mono ?_
      rintro _ _ ⟨rfl, rfl⟩
      have hk2n : k ≤ k2 := by omega
      clear hrow
      go_wp2_with fail
      refine (hpa w2).mono ?_
      rintro _ w3 ⟨rfl, hb3⟩
      clear hpa
      have hb4 := hb3.alloc hb3.size (.cells #[.bool nb, .string nm] 24)
      have hB4 := Blk.new w3 24 #[.bool nb, .string nm]
      have e0 : (w3.alloc (.cells #[.bool nb, .string nm] 24)).cell? ⟨w3.heap.size, 0, none⟩ = some (.bool nb) := hB4.cell 0
      have e1 : (w3.alloc (.cells #[.bool nb, .string nm] 24)).cell? ⟨w3.heap.size, 1, none⟩ = some (.string nm) := hB4.cell 1
      go_upto_region 27 with fail
      generalize hw4 : w3.alloc (.cells #[.bool nb, .string nm] 24) = w4 at *
      clear hw4
      rcases HC.out with ⟨hne, hok, hpr⟩ | ⟨hne, her⟩
      · have HE : Hid (G = .ok (.mk 2 false nb nm ⟨#[]⟩ [], s.data.toList.drop k2)) := by show _ = _; rw [HGEQ.out, hok]
        subst hne
        clear hok HC
        go_wp2_with fail
        refine (hpr w4).mono ?_
        rintro _ w5 ⟨rfl, hb5⟩
        have hb25 := hb4.trans (hb5.mono hb4.size)
        have hB5 := hB4.old hb5
        have g0 : w5.cell? ⟨w3.heap.size, 0, none⟩ = some (.bool nb) := hB5.cell 0
        have g1 : w5.cell? ⟨w3.heap.size, 1, none⟩ = some (.string nm) := hB5.cell 1
        have yX : (X.toList == X.toList) = true := by simp
        clear e0 e1 hpr
        have hBr := HB0.out.old hb25
        obtain ⟨c0, c1, c2, c3, c4, c5⟩ := hBr.c6
        have f0 := hBr.frozen 0
        have f1 := hBr.frozen 1
        have f2 := hBr.frozen 2
        have f3 := hBr.frozen 3
        have f4 := hBr.frozen 4
        have f5 := hBr.frozen 5
        have HBR : Hid (Blk w5 w.heap.size 27 #[.int .u8 0, .bool false, .bool false, .string ⟨#[]⟩, .string ⟨#[]⟩, .slice none 0 0]) := hBr
        clear hBr
        go_wp2_with fail
        have hfin := Blk.set6 HBR.out (.int .u8 2) (.bool false) (.bool nb) (.string nm) (.string ⟨#[]⟩) (.slice none 0 0)
        have hbw := set6_below (hb2.trans (hb25.mono hlo)) (Nat.le_refl _) 0 (.int .u8 2) (.bool false) (.bool nb) (.string nm) (.string ⟨#[]⟩) (.slice none 0 0)
        refine bodyPost_ret (res32_run (b := w.heap.size) hfin rfl rfl rfl) rfl ?_
        rw [HE.out]
        exact ⟨hbw, none, 0, k2, hk2s, rfl, rfl, .nil rfl⟩
      · have HE : Hid (G = .error (s.size - k)) := by show _ = _; rw [HGEQ.out, her]
        clear her HC
        have hBr := HB0.out.old hb4
        obtain ⟨c0, c1, c2, c3, c4, c5⟩ := hBr.c6
        have f0 := hBr.frozen 0
        have f1 := hBr.frozen 1
        have f2 := hBr.frozen 2
        have f3 := hBr.frozen 3
        have f4 := hBr.frozen 4
        have f5 := hBr.frozen 5
        have hBn := HB1.out.old hb4
        obtain ⟨d0, d1, d2, d3, d4, d5⟩ := hBn.c6
        have HBR : Hid (Blk w4 w.heap.size 27 #[.int .u8 0, .bool false, .bool false, .string ⟨#[]⟩, .string ⟨#[]⟩, .slice none 0 0]) := hBr
        clear hBr hBn
        go_wp2_with fail
        have hfin := Blk.set6 HBR.out (.int .u8 0) (.bool false) (.bool false) (.string ⟨#[]⟩) (.string ⟨#[]⟩) (.slice none 0 0)
        have hbw := set6_below (hb2.trans (hb4.mono hlo)) (Nat.le_refl _) 0 (.int .u8 0) (.bool false) (.bool false) (.string ⟨#[]⟩) (.string ⟨#[]⟩) (.slice none 0 0)
        refine bodyPost_ret (res32_run (b := w.heap.size) hfin rfl rfl rfl) rfl ?_
        rw [HE.out]
        exact ⟨hbw, k, hk, rfl, rfl⟩
    have t54 : ((s[k].toNat : Int) == 54) = false := u8_nen _ 54 h54
    by_cases h55 : s[k] = 55
    · have t55 : ((s[k].toNat : Int) == 55) = true := u8_eqn _ 55 (by omega) h55
      have HGEQ : Hid (G = numR s[k] (s.data.toList.drop (k + 1))) := by show _ = _; rw [HRD.out, rdV, if_pos (by rw [h55]; decide)]
      clear h45 h48 h49 h50 h51 h52 h53 h54 h55
      clear HRD HDR htup hdeep HX hrow3 hx3 hk3 hk3s
      go_wp2_with fail
      refine (hrow w2).mono ?_
      rintro _ _ ⟨rfl, rfl⟩
      have hk2n : k ≤ k2 := by omega
      clear hrow
      go_wp2_with fail
      refine (hpa w2).mono ?_
      rintro _ w3 ⟨rfl, hb3⟩
      clear hpa
      have hb4 := hb3.alloc hb3.size (.cells #[.bool nb, .string nm] 24)
      have hB4 := Blk.new w3 24 #[.bool nb, .string nm]
      have e0 : (w3.alloc (.cells #[.bool nb, .string nm] 24)).cell? ⟨w3.heap.size, 0, none⟩ = some (.bool nb) := hB4.cell 0
      have e1 : (w3.alloc (.cells #[.bool nb, .string nm] 24)).cell? ⟨w3.heap.size, 1, none⟩ = some (.string nm) := hB4.cell 1
      go_upto_region 27 with fail
      generalize hw4 : w3.alloc (.cells #[.bool nb, .string nm] 24) = w4 at *
      clear hw4
      rcases HC.out with ⟨hne, hok, hpr⟩ | ⟨hne, her⟩
      · have HE : Hid (G = .ok (.mk 2 false nb nm ⟨#[]⟩ [], s.data.toList.drop k2)) := by show _ = _; rw [HGEQ.out, hok]
        subst hne
        clear hok HC
        go_wp2_with fail
        refine (hpr w4).mono ?_
        rintro _ w5 ⟨rfl, hb5⟩
        have hb25 := hb4.trans (hb5.mono hb4.size)
        have hB5 := hB4.old hb5
        have g0 : w5.cell? ⟨w3.heap.size, 0, none⟩ = some (.bool nb) := hB5.cell 0
        have g1 : w5.cell? ⟨w3.heap.size, 1, none⟩ = some (.string nm) := hB5.cell 1
        have yX : (X.toList == X.toList) = true := by simp
        clear e0 e1 hpr
        have hBr := HB0.out.old hb25
        obtain ⟨c0, c1, c2, c3, c4, c5⟩ := hBr.c6
        have f0 := hBr.frozen 0
        have f1 := hBr.frozen 1
        have f2 := hBr.frozen 2
        have f3 := hBr.frozen 3
        have f4 := hBr.frozen 4
        have f5 := hBr.frozen 5
        have HBR : Hid (Blk w5 w.heap.size 27 #[.int .u8 0, .bool false, .bool false, .string ⟨#[]⟩, .string ⟨#[]⟩, .slice none 0 0]) := hBr
        clear hBr
        go_wp2_with fail
        have hfin := Blk.set6 HBR.out (.int .u8 2) (.bool false) (.bool nb) (.string nm) (.string ⟨#[]⟩) (.slice none 0 0)
        have hbw := set6_below (hb2.trans (hb25.mono hlo)) (Nat.le_refl _) 0 (.int .u8 2) (.bool false) (.bool nb) (.string nm) (.string ⟨#[]⟩) (.slice none 0 0)
        refine bodyPost_ret (res32_run (b := w.heap.size) hfin rfl rfl rfl) rfl ?_
        rw [HE.out]
        exact ⟨hbw, none, 0, k2, hk2s, rfl, rfl, .nil rfl⟩
      · have HE : Hid (G = .error (s.size - k)) := by show _ = _; rw [HGEQ.out, her]
        clear her HC
        have hBr := HB0.out.old hb4
        obtain ⟨c0, c1, c2, c3, c4, c5⟩ := hBr.c6
        have f0 := hBr.frozen 0
        have f1 := hBr.frozen 1
        have f2 := hBr.frozen 2
        have f3 := hBr.frozen 3
        have f4 := hBr.frozen 4
        have f5 := hBr.frozen 5
        have hBn := HB1.out.old hb4
        obtain ⟨d0, d1, d2, d3, d4, d5⟩ := hBn.c6
        have HBR : Hid (Blk w4 w.heap.size 27 #[.int .u8 0, .bool false, .bool false, .string ⟨#[]⟩, .string ⟨#[]⟩, .slice none 0 0]) := hBr
        clear hBr hBn
        go_wp2_with fail
        have hfin := Blk.set6 HBR.out (.int .u8 0) (.bool false) (.bool false) (.string ⟨#[]⟩) (.string ⟨#[]⟩) (.slice none 0 0)
        have hbw := set6_below (hb2.trans (hb4.mono hlo)) (Nat.le_refl _) 0 (.int .u8 0) (.bool false) (.bool false) (.string ⟨#[]⟩) (.string ⟨#[]⟩) (.slice none 0 0)
        refine bodyPost_ret (res32_run (b := w.heap.size) hfin rfl rfl rfl) rfl ?_
        rw [HE.out]
        exact ⟨hbw, k, hk, rfl, rfl⟩
    have t55 : ((s[k].toNat : Int) == 55) = false := u8_nen _ 55 h55
    by_cases h56 : s[k] = 56
    · have t56 : ((s[k].toNat : Int) == 56) = true := u8_eqn _ 56 (by omega) h56
      have HGEQ : Hid (G = numR s[k] (s.data.toList.drop (k + 1))) := by show _ = _; rw [HRD.out, rdV, if_pos (by rw [h56]; decide)]
      clear h45 h48 h49 h50 h51 h52 h53 h54 h55 h56
      clear HRD HDR htup hdeep HX hrow3 hx3 hk3 hk3s
      go_wp2_with fail
      refine (hrow w2).mono ?_
      rintro _ _ ⟨rfl, rfl⟩
      have hk2n : k ≤ k2 := by omega
      clear hrow
      go_wp2_with fail
      refine (hpa w2).mono ?_
      rintro _ w3 ⟨rfl, hb3⟩
      clear hpa
      have hb4 := hb3.alloc hb3.size (.cells #[.bool nb, .string nm] 24)
      have hB4 := Blk.new w3 24 #[.bool nb, .string nm]
      have e0 : (w3.alloc (.cells #[.bool nb, .string nm] 24)).cell? ⟨w3.heap.size, 0, none⟩ = some (.bool nb) := hB4.cell 0
      have e1 : (w3.alloc (.cells #[.bool nb, .string nm] 24)).cell? ⟨w3.heap.size, 1, none⟩ = some (.string nm) := hB4.cell 1
      go_upto_region 27 with fail
      generalize hw4 : w3.alloc (.cells #[.bool nb, .string nm] 24) = w4 at *
      clear hw4
      rcases HC.out with ⟨hne, hok, hpr⟩ | ⟨hne, her⟩
      · have HE : Hid (G = .ok (.mk 2 false nb nm ⟨#[]⟩ [], s.data.toList.drop k2)) := by show _ = _; rw [HGEQ.out, hok]
        subst hne
        clear hok HC
        go_wp2_with fail
        refine (hpr w4).mono ?_
        rintro _ w5 ⟨rfl, hb5⟩
        have hb25 := hb4.trans (hb5.mono hb4.size)
        have hB5 := hB4.old hb5
        have g0 : w5.cell? ⟨w3.heap.size, 0, none⟩ = some (.bool nb) := hB5.cell 0
        have g1 : w5.cell? ⟨w3.heap.size, 1, none⟩ = some (.string nm) := hB5.cell 1
        have yX : (X.toList == X.toList) = true := by simp
        clear e0 e1 hpr
        have hBr := HB0.out.old hb25
        obtain ⟨c0, c1, c2, c3, c4, c5⟩ := hBr.c6
        have f0 := hBr.frozen 0
        have f1 := hBr.frozen 1
        have f2 := hBr.frozen 2
        have f3 := hBr.frozen 3
        have f4 := hBr.frozen 4
        have f5 := hBr.frozen 5
        have HBR : Hid (Blk w5 w.heap.size 27 #[.int .u8 0, .bool false, .bool false, .string ⟨#[]⟩, .string ⟨#[]⟩, .slice none 0 0]) := hBr
        clear hBr
        go_wp2_with fail
        have hfin := Blk.set6 HBR.out (.int .u8 2) (.bool false) (.bool nb) (.string nm) (.string ⟨#[]⟩) (.slice none 0 0)
        have hbw := set6_below (hb2.trans (hb25.mono hlo)) (Nat.le_refl _) 0 (.int .u8 2) (.bool false) (.bool nb) (.string nm) (.string ⟨#[]⟩) (.slice none 0 0)
        refine bodyPost_ret (res32_run (b := w.heap.size) hfin rfl rfl rfl) rfl ?_
        rw [HE.out]
        exact ⟨hbw, none, 0, k2, hk2s, rfl, rfl, .nil rfl⟩
      · have HE : Hid (G = .error (s.size - k)) := by show _ = _; rw [HGEQ.out, her]
        clear her HC
        have hBr := HB0.out.old hb4
        obtain ⟨c0, c1, c2, c3, c4, c5⟩ := hBr.c6
        have f0 := hBr.frozen 0
        have f1 := hBr.frozen 1
        have f2 := hBr.frozen 2
        have f3 := hBr.frozen 3
        have f4 := hBr.frozen 4
        have f5 := hBr.frozen 5
        have hBn := HB1.out.old hb4
        obtain ⟨d0, d1, d2, d3, d4, d5⟩ := hBn.c6
        have HBR : Hid (Blk w4 w.heap.size 27 #[.int .u8 0, .bool false, .bool false, .string ⟨#[]⟩, .string ⟨#[]⟩, .slice none 0 0]) := hBr
        clear hBr hBn
        go_wp2_with fail
        have hfin := Blk.set6 HBR.out (.int .u8 0) (.bool false) (.bool false) (.string ⟨#[]⟩) (.string ⟨#[]⟩) (.slice none 0 0)
        have hbw := set6_below (hb2.trans (hb4.mono hlo)) (Nat.le_refl _) 0 (.int .u8 0) (.bool false) (.bool false) (.string ⟨#[]⟩) (.string ⟨#[]⟩) (.slice none 0 0)
        refine bodyPost_ret (res32_run (b := w.heap.size) hfin rfl rfl rfl) rfl ?_
        rw [HE.out]
        exact ⟨hbw, k, hk, rfl, rfl⟩
    have t56 : ((s[k].toNat : Int) == 56) = false := u8_nen _ 56 h56
    by_cases h57 : s[k] = 57
    · have t57 : ((s[k].toNat : Int) == 57) = true := u8_eqn _ 57 (by omega) h57
      have HGEQ : Hid (G = numR s[k] (s.data.toList.drop (k + 1))) := by show _ = _; rw [HRD.out, rdV, if_pos (by rw [h57]; decide)]
      clear h45 h48 h49 h50 h51 h52 h53 h54 h55 h56 h57
      clear HRD HDR htup hdeep HX hrow3 hx3 hk3 hk3s
      go_wp2_with fail
      refine (hrow w2).mono ?_
      rintro _ _ ⟨rfl, rfl⟩
      have hk2n : k ≤ k2 := by omega
      clear hrow
      go_wp2_with fail
      refine (hpa w2).mono ?_
      rintro _ w3 ⟨rfl, hb3⟩
      clear hpa
      have hb4 := hb3.alloc hb3.size (.cells #[.bool nb, .string nm] 24)
      have hB4 := Blk.new w3 24 #[.bool nb, .string nm]
      have e0 : (w3.alloc (.cells #[.bool nb, .string nm] 24)).cell? ⟨w3.heap.size, 0, none⟩ = some (.bool nb) := hB4.cell 0
      have e1 : (w3.alloc (.cells #[.bool nb, .string nm] 24)).cell? ⟨w3.heap.size, 1, none⟩ = some (.string nm) := hB4.cell 1
      go_upto_region 27 with fail
      generalize hw4 : w3.alloc (.cells #[.bool nb, .string nm] 24) = w4 at *
      clear hw4
      rcases HC.out with ⟨hne, hok, hpr⟩ | ⟨hne, her⟩
      · have HE : Hid (G = .ok (.mk 2 false nb nm ⟨#[]⟩ [], s.data.toList.drop k2)) := by show _ = _; rw [HGEQ.out, hok]
        subst hne
        clear hok HC
        go_wp2_with fail
        refine (hpr w4).mono ?_
        rintro _ w5 ⟨rfl, hb5⟩
        have hb25 := hb4.trans (hb5.mono hb4.size)
        have hB5 := hB4.old hb5
        have g0 : w5.cell? ⟨w3.heap.size, 0, none⟩ = some (.bool nb) := hB5.cell 0
        have g1 : w5.cell? ⟨w3.heap.size, 1, none⟩ = some (.string nm) := hB5.cell 1
        have yX : (X.toList == X.toList) = true := by simp
        clear e0 e1 hpr
        have hBr := HB0.out.old hb25
        obtain ⟨c0, c1, c2, c3, c4, c5⟩ := hBr.c6
        have f0 := hBr.frozen 0
        have f1 := hBr.frozen 1
        have f2 := hBr.frozen 2
        have f3 := hBr.frozen 3
        have f4 := hBr.frozen 4
        have f5 := hBr.frozen 5
        have HBR : Hid (Blk w5 w.heap.size 27 #[.int .u8 0, .bool false, .bool false, .string ⟨#[]⟩, .string ⟨#[]⟩, .slice none 0 0]) := hBr
        clear hBr
        go_wp2_with fail
        have hfin := Blk.set6 HBR.out (.int .u8 2) (.bool false) (.bool nb) (.string nm) (.string ⟨#[]⟩) (.slice none 0 0)
        have hbw := set6_below (hb2.trans (hb25.mono hlo)) (Nat.le_refl _) 0 (.int .u8 2) (.bool false) (.bool nb) (.string nm) (.string ⟨#[]⟩) (.slice none 0 0)
        refine bodyPost_ret (res32_run (b := w.heap.size) hfin rfl rfl rfl) rfl ?_
        rw [HE.out]
        exact ⟨hbw, none, 0, k2, hk2s, rfl, rfl, .nil rfl⟩
      · have HE : Hid (G = .error (s.size - k)) := by show _ = _; rw [HGEQ.out, her]
        clear her HC
        have hBr := HB0.out.old hb4
        obtain ⟨c0, c1, c2, c3, c4, c5⟩ := hBr.c6
        have f0 := hBr.frozen 0
        have f1 := hBr.frozen 1
        have f2 := hBr.frozen 2
        have f3 := hBr.frozen 3
        have f4 := hBr.frozen 4
        have f5 := hBr.frozen 5
        have hBn := HB1.out.old hb4
        obtain ⟨d0, d1, d2, d3, d4, d5⟩ := hBn.c6
        have HBR : Hid (Blk w4 w.heap.size 27 #[.int .u8 0, .bool false, .bool false, .string ⟨#[]⟩, .string ⟨#[]⟩, .slice none 0 0]) := hBr
        clear hBr hBn
        go_wp2_with fail
        have hfin := Blk.set6 HBR.out (.int .u8 0) (.bool false) (.bool false) (.string ⟨#[]⟩) (.string ⟨#[]⟩) (.slice none 0 0)
        have hbw := set6_below (hb2.trans (hb4.mono hlo)) (Nat.le_refl _) 0 (.int .u8 0) (.bool false) (.bool false) (.string ⟨#[]⟩) (.string ⟨#[]⟩) (.slice none 0 0)
        refine bodyPost_ret (res32_run (b := w.heap.size) hfin rfl rfl rfl) rfl ?_
        rw [HE.out]
        exact ⟨hbw, k, hk, rfl, rfl⟩
    have t57 : ((s[k].toNat : Int) == 57) = false := u8_nen _ 57 h57
    have hnum : ¬ (s[k] = 45 ∨ isDig s[k] = true) := by
      rintro (h | h)
      · exact h45 h
      · rcases dig_cases h with h | h | h | h | h | h | h | h | h | h <;> contradiction
    clear HC hrow hpa hx hn2 hn2s h45 h48 h49 h50 h51 h52 h53 h54 h55 h56 h57
    by_cases h120 : s[k] = 120
    · have t120 : ((s[k].toNat : Int) == 120) = true := u8_eqn _ 120 (by omega) h120
      have HGEQ : Hid (G = bytesR (s.data.toList.drop (k + 1))) := by show _ = _; rw [HRD.out, rdV, if_neg hnum, if_pos h120]
      obtain ⟨hL3, hT3, hT3', hr3, hby⟩ := HX.out
      have hlen : (s.data.toList.drop (k + 1)).length + 1 = s.size - k := by rw [drop_len]; omega
      have eL : (k3 : Int) - (k : Int) - 1 = (L3 : Int) := by omega
      have hn3 : (k : Int) + 1 ≤ (k3 : Int) := by omega
      have hn3s : (k3 : Int) ≤ (s.size : Int) := by omega
      by_cases he : L3 % 2 = 0
      · have tM : Int.tmod (L3 : Int) 2 = 0 := by rw [Int.tmod_eq_emod_of_nonneg (by omega)]; omega
        have hbw3 := hby he
        have HE : Hid (G = .ok (rawP 3 (unhex T3), s.data.toList.drop k3)) := by show _ = _; rw [HGEQ.out, bytesR, hT3', if_pos (by rw [hT3]; exact he), hr3]
        unfold rawP at HE
        clear HGEQ HRD HDR htup hdeep HX hT3 hT3' hr3 hby hlen he hnum h120
        have hL3' : L3 ≤ 65536 := by omega
        clear hL3
        generalize bs (unhex T3) = RR at *
        go_wp2_with fail
        refine (hrow3 w2).mono ?_
        rintro _ _ ⟨rfl, rfl⟩
        go_wp2_with fail
        refine (hbw3 w2).mono ?_
        rintro _ w3 ⟨rfl, hb3⟩
        clear hbw3 hrow3
        have hBr := HB0.out.old hb3
        obtain ⟨c0, c1, c2, c3, c4, c5⟩ := hBr.c6
        have f0 := hBr.frozen 0
        have f1 := hBr.frozen 1
        have f2 := hBr.frozen 2
        have f3 := hBr.frozen 3
        have f4 := hBr.frozen 4
        have f5 := hBr.frozen 5
        have HBR : Hid (Blk w3 w.heap.size 27 #[.int .u8 0, .bool false, .bool false, .string ⟨#[]⟩, .string ⟨#[]⟩, .slice none 0 0]) := hBr
        clear hBr
        go_wp2_with fail
        have hfin := Blk.set6 HBR.out (.int .u8 3) (.bool false) (.bool false) (.string ⟨#[]⟩) (.string RR) (.slice none 0 0)
        have hbw := set6_below (hb2.trans (hb3.mono hlo)) (Nat.le_refl _) 0 (.int .u8 3) (.bool false) (.bool false) (.string ⟨#[]⟩) (.string RR) (.slice none 0 0)
        refine bodyPost_ret (res32_run (b := w.heap.size) hfin rfl rfl rfl) rfl ?_
        rw [HE.out]
        exact ⟨hbw, none, 0, k3, hk3s, rfl, rfl, .nil rfl⟩
      · have tM : Int.tmod (L3 : Int) 2 = 1 := by rw [Int.tmod_eq_emod_of_nonneg (by omega)]; omega
        have HE : Hid (G = .error (s.size - k)) := by show _ = _; rw [HGEQ.out, bytesR, hT3', if_neg (by rw [hT3]; exact he), hlen]
        clear HGEQ HRD HDR htup hdeep HX hT3 hT3' hr3 hby hlen he hnum h120
        have hL3' : L3 ≤ 65536 := by omega
        clear hL3
        go_wp2_with fail
        refine (hrow3 w2).mono ?_
        rintro _ _ ⟨rfl, rfl⟩
        clear hrow3
        have hBr := HB0.out.old hrf
        obtain ⟨c0, c1, c2, c3, c4, c5⟩ := hBr.c6
        have f0 := hBr.frozen 0
        have f1 := hBr.frozen 1
        have f2 := hBr.frozen 2
        have f3 := hBr.frozen 3
        have f4 := hBr.frozen 4
        have f5 := hBr.frozen 5
        have hBn := HB1.out.old hrf
        obtain ⟨d0, d1, d2, d3, d4, d5⟩ := hBn.c6
        have HBR : Hid (Blk w2 w.heap.size 27 #[.int .u8 0, .bool false, .bool false, .string ⟨#[]⟩, .string ⟨#[]⟩, .slice none 0 0]) := hBr
        clear hBr hBn
        go_wp2_with fail
        have hfin := Blk.set6 HBR.out (.int .u8 0) (.bool false) (.bool false) (.string ⟨#[]⟩) (.string ⟨#[]⟩) (.slice none 0 0)
        have hbw := set6_below (hb2.trans (hrf.mono hlo)) (Nat.le_refl _) 0 (.int .u8 0) (.bool false) (.bool false) (.string ⟨#[]⟩) (.string ⟨#[]⟩) (.slice none 0 0)
        refine bodyPost_ret (res32_run (b := w.heap.size) hfin rfl rfl rfl) rfl ?_
        rw [HE.out]
        exact ⟨hbw, k, hk, rfl, rfl⟩
    have t120 : ((s[k].toNat : Int) == 120) = false := u8_nen _ 120 h120
    by_cases h35 : s[k] = 35
    · have t35 : ((s[k].toNat : Int) == 35) = true := u8_eqn _ 35 (by omega) h35
      have HGEQ : Hid (G = idR (s.data.toList.drop (k + 1))) := by show _ = _; rw [HRD.out, rdV, if_neg hnum, if_neg h120, if_pos h35]
      obtain ⟨hL3, hT3, hT3', hr3, hby⟩ := HX.out
      have hlen : (s.data.toList.drop (k + 1)).length + 1 = s.size - k := by rw [drop_len]; omega
      have eL : (k3 : Int) - (k : Int) - 1 = (L3 : Int) := by omega
      have hn3 : (k : Int) + 1 ≤ (k3 : Int) := by omega
      have hn3s : (k3 : Int) ≤ (s.size : Int) := by omega
      by_cases he : L3 = 32
      · have tM : ((L3 : Int) != 32) = false := by rw [he]; rfl
        have tM2 : ((L3 : Int) == 32) = true := by rw [he]; rfl
        have hbw3 := hby (by omega)
        have HE : Hid (G = .ok (rawP 4 (unhex T3), s.data.toList.drop k3)) := by show _ = _; rw [HGEQ.out, idR, hT3', if_pos (by rw [hT3]; exact he), hr3]
        unfold rawP at HE
        clear HGEQ HRD HDR htup hdeep HX hT3 hT3' hr3 hby hlen he hnum h120 h35
        have hL3' : L3 ≤ 65536 := by omega
        clear hL3
        generalize bs (unhex T3) = RR at *
        go_wp2_with fail
        refine (hrow3 w2).mono ?_
        rintro _ _ ⟨rfl, rfl⟩
        go_wp2_with fail
        refine (hbw3 w2).mono ?_
        rintro _ w3 ⟨rfl, hb3⟩
        clear hbw3 hrow3
        have hBr := HB0.out.old hb3
        obtain ⟨c0, c1, c2, c3, c4, c5⟩ := hBr.c6
        have f0 := hBr.frozen 0
        have f1 := hBr.frozen 1
        have f2 := hBr.frozen 2
        have f3 := hBr.frozen 3
        have f4 := hBr.frozen 4
        have f5 := hBr.frozen 5
        have HBR : Hid (Blk w3 w.heap.size 27 #[.int .u8 0, .bool false, .bool false, .string ⟨#[]⟩, .string ⟨#[]⟩, .slice none 0 0]) := hBr
        clear hBr
        go_wp2_with fail
        have hfin := Blk.set6 HBR.out (.int .u8 4) (.bool false) (.bool false) (.string ⟨#[]⟩) (.string RR) (.slice none 0 0)
        have hbw := set6_below (hb2.trans (hb3.mono hlo)) (Nat.le_refl _) 0 (.int .u8 4) (.bool false) (.bool false) (.string ⟨#[]⟩) (.string RR) (.slice none 0 0)
        refine bodyPost_ret (res32_run (b := w.heap.size) hfin rfl rfl rfl) rfl ?_
        rw [HE.out]
        exact ⟨hbw, none, 0, k3, hk3s, rfl, rfl, .nil rfl⟩
      · have tM : ((L3 : Int) != 32) = true := by rw [bne, Bool.not_eq_true', beq_eq_false_iff_ne]; omega
        have tM2 : ((L3 : Int) == 32) = false := by rw [beq_eq_false_iff_ne]; omega
        have HE : Hid (G = .error (s.size - k)) := by show _ = _; rw [HGEQ.out, idR, hT3', if_neg (by rw [hT3]; exact he), hlen]
        clear HGEQ HRD HDR htup hdeep HX hT3 hT3' hr3 hby hlen he hnum h120 h35
        have hL3' : L3 ≤ 65536 := by omega
        clear hL3
        go_wp2_with fail
        refine (hrow3 w2).mono ?_
        rintro _ _ ⟨rfl, rfl⟩
        clear hrow3
        have hBr := HB0.out.old hrf
        obtain ⟨c0, c1, c2, c3, c4, c5⟩ := hBr.c6
        have f0 := hBr.frozen 0
        have f1 := hBr.frozen 1
        have f2 := hBr.frozen 2
        have f3 := hBr.frozen 3
        have f4 := hBr.frozen 4
        have f5 := hBr.frozen 5
        have hBn := HB1.out.old hrf
        obtain ⟨d0, d1, d2, d3, d4, d5⟩ := hBn.c6
        have HBR : Hid (Blk w2 w.heap.size 27 #[.int .u8 0, .bool false, .bool false, .string ⟨#[]⟩, .string ⟨#[]⟩, .slice none 0 0]) := hBr
        clear hBr hBn
        go_wp2_with fail
        have hfin := Blk.set6 HBR.out (.int .u8 0) (.bool false) (.bool false) (.string ⟨#[]⟩) (.string ⟨#[]⟩) (.slice none 0 0)
        have hbw := set6_below (hb2.trans (hrf.mono hlo)) (Nat.le_refl _) 0 (.int .u8 0) (.bool false) (.bool false) (.string ⟨#[]⟩) (.string ⟨#[]⟩) (.slice none 0 0)
        refine bodyPost_ret (res32_run (b := w.heap.size) hfin rfl rfl rfl) rfl ?_
        rw [HE.out]
        exact ⟨hbw, k, hk, rfl, rfl⟩
    have t35 : ((s[k].toNat : Int) == 35) = false := u8_nen _ 35 h35
    clear HX hrow3 hx3
    by_cases h39 : s[k] = 39
    · have t39 : ((s[k].toNat : Int) == 39) = true := u8_eqn _ 39 (by omega) h39
      have HGEQ : Hid (G = quoR 5 39 (s.data.toList.drop (k + 1))) := by show _ = _; rw [HRD.out, rdV, if_neg hnum, if_neg h120, if_neg h35, if_pos h39]
      have hcq := runquoted_any 39 (by decide) s hs k hlt h39 w2
      have t34 : ((s[k].toNat : Int) == 34) = false := u8_nen _ 34 (by rw [h39]; decide)
      have hlen : (s.data.toList.drop (k + 1)).length + 1 = s.size - k := by rw [drop_len]; omega
      cases hu : unqF 39 (s.data.toList.drop (k + 1)) with
      | some z =>
        obtain ⟨r, rest⟩ := z
        rw [hu] at hcq
        have HGO : Hid (G = .ok (rawP 5 r, rest)) := by show _ = _; rw [HGEQ.out, quoR]; unfold unqF at hu; rw [hu]
        unfold rawP at HGO
        clear HGEQ HRD HDR htup hdeep hnum h120 h35 h39 hu hlen
        go_wp2_with fail
        refine hcq.mono ?_
        rintro _ w3 ⟨hb3, k3', hk3', hrest, rfl⟩
        have HE : Hid (G = .ok (.mk 5 false false ⟨#[]⟩ (bs r) [], s.data.toList.drop k3')) := by show _ = _; rw [HGO.out, hrest]
        have tlt : decide ((k3' : Int) < 0) = false := decide_eq_false (by omega)
        clear HGO hrest hcq
        generalize bs r = RR at *
        have hBr := HB0.out.old hb3
        obtain ⟨c0, c1, c2, c3, c4, c5⟩ := hBr.c6
        have f0 := hBr.frozen 0
        have f1 := hBr.frozen 1
        have f2 := hBr.frozen 2
        have f3 := hBr.frozen 3
        have f4 := hBr.frozen 4
        have f5 := hBr.frozen 5
        have HBR : Hid (Blk w3 w.heap.size 27 #[.int .u8 0, .bool false, .bool false, .string ⟨#[]⟩, .string ⟨#[]⟩, .slice none 0 0]) := hBr
        clear hBr
        go_wp2_with fail
        have hfin := Blk.set6 HBR.out (.int .u8 5) (.bool false) (.bool false) (.string ⟨#[]⟩) (.string RR) (.slice none 0 0)
        have hbw := set6_below (hb2.trans (hb3.mono hlo)) (Nat.le_refl _) 0 (.int .u8 5) (.bool false) (.bool false) (.string ⟨#[]⟩) (.string RR) (.slice none 0 0)
        refine bodyPost_ret (res32_run (b := w.heap.size) hfin rfl rfl rfl) rfl ?_
        rw [HE.out]
        exact ⟨hbw, none, 0, k3', hk3', rfl, rfl, .nil rfl⟩
      | none =>
        rw [hu] at hcq
        have HE : Hid (G = .error (s.size - k)) := by show _ = _; rw [HGEQ.out, quoR]; unfold unqF at hu; rw [hu, hlen]
        clear HGEQ HRD HDR htup hdeep hnum h120 h35 h39 hu hlen
        go_wp2_with fail
        refine hcq.mono ?_
        rintro _ w3 ⟨hb3, rfl⟩
        clear hcq
        have hBr := HB0.out.old hb3
        obtain ⟨c0, c1, c2, c3, c4, c5⟩ := hBr.c6
        have f0 := hBr.frozen 0
        have f1 := hBr.frozen 1
        have f2 := hBr.frozen 2
        have f3 := hBr.frozen 3
        have f4 := hBr.frozen 4
        have f5 := hBr.frozen 5
        have hBn := HB1.out.old hb3
        obtain ⟨d0, d1, d2, d3, d4, d5⟩ := hBn.c6
        have HBR : Hid (Blk w3 w.heap.size 27 #[.int .u8 0, .bool false, .bool false, .string ⟨#[]⟩, .string ⟨#[]⟩, .slice none 0 0]) := hBr
        clear hBr hBn
        go_wp2_with fail
        have hfin := Blk.set6 HBR.out (.int .u8 0) (.bool false) (.bool false) (.string ⟨#[]⟩) (.string ⟨#[]⟩) (.slice none 0 0)
        have hbw := set6_below (hb2.trans (hb3.mono hlo)) (Nat.le_refl _) 0 (.int .u8 0) (.bool false) (.bool false) (.string ⟨#[]⟩) (.string ⟨#[]⟩) (.slice none 0 0)
        refine bodyPost_ret (res32_run (b := w.heap.size) hfin rfl rfl rfl) rfl ?_
        rw [HE.out]
        exact ⟨hbw, k, hk, rfl, rfl⟩
    have t39 : ((s[k].toNat : Int) == 39) = false := u8_nen _ 39 h39
    by_cases h34 : s[k] = 34
    · have t34 : ((s[k].toNat : Int) == 34) = true := u8_eqn _ 34 (by omega) h34
      have HGEQ : Hid (G = quoR 6 34 (s.data.toList.drop (k + 1))) := by show _ = _; rw [HRD.out, rdV, if_neg hnum, if_neg h120, if_neg h35, if_neg h39, if_pos h34]
      have hcq := runquoted_any 34 (by decide) s hs k hlt h34 w2
      skip
      have hlen : (s.data.toList.drop (k + 1)).length + 1 = s.size - k := by rw [drop_len]; omega
      cases hu : unqF 34 (s.data.toList.drop (k + 1)) with
      | some z =>
        obtain ⟨r, rest⟩ := z
        rw [hu] at hcq
        have HGO : Hid (G = .ok (rawP 6 r, rest)) := by show _ = _; rw [HGEQ.out, quoR]; unfold unqF at hu; rw [hu]
        unfold rawP at HGO
        clear HGEQ HRD HDR htup hdeep hnum h120 h35 h39 h34 hu hlen
        go_wp2_with fail
        refine hcq.mono ?_
        rintro _ w3 ⟨hb3, k3', hk3', hrest, rfl⟩
        have HE : Hid (G = .ok (.mk 6 false false ⟨#[]⟩ (bs r) [], s.data.toList.drop k3')) := by show _ = _; rw [HGO.out, hrest]
        have tlt : decide ((k3' : Int) < 0) = false := decide_eq_false (by omega)
        clear HGO hrest hcq
        generalize bs r = RR at *
        have hBr := HB0.out.old hb3
        obtain ⟨c0, c1, c2, c3, c4, c5⟩ := hBr.c6
        have f0 := hBr.frozen 0
        have f1 := hBr.frozen 1
        have f2 := hBr.frozen 2
        have f3 := hBr.frozen 3
        have f4 := hBr.frozen 4
        have f5 := hBr.frozen 5
        have HBR : Hid (Blk w3 w.heap.size 27 #[.int .u8 0, .bool false, .bool false, .string ⟨#[]⟩, .string ⟨#[]⟩, .slice none 0 0]) := hBr
        clear hBr
        go_wp2_with fail
        have hfin := Blk.set6 HBR.out (.int .u8 6) (.bool false) (.bool false) (.string ⟨#[]⟩) (.string RR) (.slice none 0 0)
        have hbw := set6_below (hb2.trans (hb3.mono hlo)) (Nat.le_refl _) 0 (.int .u8 6) (.bool false) (.bool false) (.string ⟨#[]⟩) (.string RR) (.slice none 0 0)
        refine bodyPost_ret (res32_run (b := w.heap.size) hfin rfl rfl rfl) rfl ?_
        rw [HE.out]
        exact ⟨hbw, none, 0, k3', hk3', rfl, rfl, .nil rfl⟩
      | none =>
        rw [hu] at hcq
        have HE : Hid (G = .error (s.size - k)) := by show _ = _; rw [HGEQ.out, quoR]; unfold unqF at hu; rw [hu, hlen]
        clear HGEQ HRD HDR htup hdeep hnum h120 h35 h39 h34 hu hlen
        go_wp2_with fail
        refine hcq.mono ?_
        rintro _ w3 ⟨hb3, rfl⟩
        clear hcq
        have hBr := HB0.out.old hb3
        obtain ⟨c0, c1, c2, c3, c4, c5⟩ := hBr.c6
        have f0 := hBr.frozen 0
        have f1 := hBr.frozen 1
        have f2 := hBr.frozen 2
        have f3 := hBr.frozen 3
        have f4 := hBr.frozen 4
        have f5 := hBr.frozen 5
        have hBn := HB1.out.old hb3
        obtain ⟨d0, d1, d2, d3, d4, d5⟩ := hBn.c6
        have HBR : Hid (Blk w3 w.heap.size 27 #[.int .u8 0, .bool false, .bool false, .string ⟨#[]⟩, .string ⟨#[]⟩, .slice none 0 0]) := hBr
        clear hBr hBn
        go_wp2_with fail
        have hfin := Blk.set6 HBR.out (.int .u8 0) (.bool false) (.bool false) (.string ⟨#[]⟩) (.string ⟨#[]⟩) (.slice none 0 0)
        have hbw := set6_below (hb2.trans (hb3.mono hlo)) (Nat.le_refl _) 0 (.int .u8 0) (.bool false) (.bool false) (.string ⟨#[]⟩) (.string ⟨#[]⟩) (.slice none 0 0)
        refine bodyPost_ret (res32_run (b := w.heap.size) hfin rfl rfl rfl) rfl ?_
        rw [HE.out]
        exact ⟨hbw, k, hk, rfl, rfl⟩
    have t34 : ((s[k].toNat : Int) == 34) = false := u8_nen _ 34 h34
    by_cases h40 : s[k] = 40
    · have t40 : ((s[k].toNat : Int) == 40) = true := u8_eqn _ 40 (by omega) h40
      have HGEQ : Hid (G = f (s.data.toList.drop (k + 1))) := by show _ = _; rw [HRD.out, rdV, if_neg hnum, if_neg h120, if_neg h35, if_neg h39, if_neg h34, if_pos h40]
      by_cases hDl : D < 16
      · have hcq := htup hDl k hlt h40 w2
        have tD : decide ((16 : Int) ≤ (D : Int)) = false := decide_eq_false (by omega)
        clear HRD HDR htup hdeep hnum h120 h35 h39 h34 h40
        cases hg : f (s.data.toList.drop (k + 1)) with
        | ok z =>
          obtain ⟨p, rest⟩ := z
          rw [hg] at hcq
          have HGO : Hid (G = .ok (p, rest)) := by show _ = _; rw [HGEQ.out, hg]
          clear HGEQ hg
          go_wp2_with fail
          refine hcq.mono ?_
          rintro _ w3 ⟨hb3, ap, cp, k3', hk3', hrest, rfl, hpin⟩
          have HE : Hid (G = .ok (p, s.data.toList.drop k3')) := by show _ = _; rw [HGO.out, hrest]
          have HP : Hid (PIn w3 w2.heap.size w3.heap.size p ap) := hpin
          unfold pV
          clear HGO hrest hcq hpin
          have hBr := HB0.out.old hb3
          obtain ⟨c0, c1, c2, c3, c4, c5⟩ := hBr.c6
          have f0 := hBr.frozen 0
          have f1 := hBr.frozen 1
          have f2 := hBr.frozen 2
          have f3 := hBr.frozen 3
          have f4 := hBr.frozen 4
          have f5 := hBr.frozen 5
          have HBR : Hid (Blk w3 w.heap.size 27 #[.int .u8 0, .bool false, .bool false, .string ⟨#[]⟩, .string ⟨#[]⟩, .slice none 0 0]) := hBr
          clear hBr
          go_wp2_with fail
          have hfin := Blk.set6 HBR.out (.int .u8 p.kind) (.bool p.yes) (.bool p.neg) (.string p.mag) (.string p.raw) (.slice ap p.items.length cp)
          have hbw := set6_below (hb2.trans (hb3.mono hlo)) (Nat.le_refl _) 0 (.int .u8 p.kind) (.bool p.yes) (.bool p.neg) (.string p.mag) (.string p.raw) (.slice ap p.items.length cp)
          refine bodyPost_ret (res32_run (b := w.heap.size) hfin rfl rfl rfl) rfl ?_
          rw [HE.out]
          refine ⟨hbw, ap, cp, k3', hk3', rfl, rfl, ?_⟩
          have e2 := HS2.out
          have e3 := set6_size w3 w.heap.size 0 (.int .u8 p.kind) (.bool p.yes) (.bool p.neg) (.string p.mag) (.string p.raw) (.slice ap p.items.length cp)
          show PIn (set6 w3 w.heap.size 0 (.int .u8 p.kind) (.bool p.yes) (.bool p.neg) (.string p.mag) (.string p.raw) (.slice ap p.items.length cp)) _ (set6 w3 w.heap.size 0 (.int .u8 p.kind) (.bool p.yes) (.bool p.neg) (.string p.mag) (.string p.raw) (.slice ap p.items.length cp)).heap.size p ap
          rw [e3]
          exact (HP.out.keep' (fun b q1 q2 => set6_other (by omega))).mono (Nat.le_refl _) hlo
        | error r =>
          rw [hg] at hcq
          have HGO : Hid (G = .error r) := by show _ = _; rw [HGEQ.out, hg]
          clear HGEQ hg
          go_wp2_with fail
          refine hcq.mono ?_
          rintro _ w3 ⟨hb3, k3', hk3', hrest, rfl⟩
          have HE : Hid (G = .error (s.size - k3')) := by show _ = _; rw [HGO.out, hrest]
          unfold pV nullP
          clear HGO hrest hcq
          have hBr := HB0.out.old hb3
          obtain ⟨c0, c1, c2, c3, c4, c5⟩ := hBr.c6
          have f0 := hBr.frozen 0
          have f1 := hBr.frozen 1
          have f2 := hBr.frozen 2
          have f3 := hBr.frozen 3
          have f4 := hBr.frozen 4
          have f5 := hBr.frozen 5
          have HBR : Hid (Blk w3 w.heap.size 27 #[.int .u8 0, .bool false, .bool false, .string ⟨#[]⟩, .string ⟨#[]⟩, .slice none 0 0]) := hBr
          clear hBr
          go_wp2_with fail
          have hfin := Blk.set6 HBR.out (.int .u8 0) (.bool false) (.bool false) (.string ⟨#[]⟩) (.string ⟨#[]⟩) (.slice none 0 0)
          have hbw := set6_below (hb2.trans (hb3.mono hlo)) (Nat.le_refl _) 0 (.int .u8 0) (.bool false) (.bool false) (.string ⟨#[]⟩) (.string ⟨#[]⟩) (.slice none 0 0)
          refine bodyPost_ret (res32_run (b := w.heap.size) hfin rfl rfl rfl) rfl ?_
          rw [HE.out]
          exact ⟨hbw, k3', hk3', rfl, rfl⟩
      · have tD : decide ((16 : Int) ≤ (D : Int)) = true := decide_eq_true (by omega)
        have HE : Hid (G = .error (s.size - k)) := by show _ = _; rw [HGEQ.out, hdeep hDl, drop_len, show s.size - (k + 1) + 1 = s.size - k by omega]
        clear HGEQ HRD HDR htup hdeep hnum h120 h35 h39 h34 h40
        have hBr := HB0.out.old hrf
        obtain ⟨c0, c1, c2, c3, c4, c5⟩ := hBr.c6
        have f0 := hBr.frozen 0
        have f1 := hBr.frozen 1
        have f2 := hBr.frozen 2
        have f3 := hBr.frozen 3
        have f4 := hBr.frozen 4
        have f5 := hBr.frozen 5
        have hBn := HB1.out.old hrf
        obtain ⟨d0, d1, d2, d3, d4, d5⟩ := hBn.c6
        have HBR : Hid (Blk w2 w.heap.size 27 #[.int .u8 0, .bool false, .bool false, .string ⟨#[]⟩, .string ⟨#[]⟩, .slice none 0 0]) := hBr
        clear hBr hBn
        go_wp2_with fail
        have hfin := Blk.set6 HBR.out (.int .u8 0) (.bool false) (.bool false) (.string ⟨#[]⟩) (.string ⟨#[]⟩) (.slice none 0 0)
        have hbw := set6_below (hb2.trans (hrf.mono hlo)) (Nat.le_refl _) 0 (.int .u8 0) (.bool false) (.bool false) (.string ⟨#[]⟩) (.string ⟨#[]⟩) (.slice none 0 0)
        refine bodyPost_ret (res32_run (b := w.heap.size) hfin rfl rfl rfl) rfl ?_
        rw [HE.out]
        exact ⟨hbw, k, hk, rfl, rfl⟩
    have t40 : ((s[k].toNat : Int) == 40) = false := u8_nen _ 40 h40
    have HE : Hid (G = .error (s.size - k)) := by
      show _ = _
      rw [HRD.out, rdV, if_neg hnum, if_neg h120, if_neg h35, if_neg h39, if_neg h34, if_neg h40, HDR.out, wordR_not HN.out HY.out HO.out, drop_len]
    clear HRD HDR htup hdeep hnum h120 h35 h39 h34 h40
    have hBr := HB0.out.old hrf
    obtain ⟨c0, c1, c2, c3, c4, c5⟩ := hBr.c6
    have f0 := hBr.frozen 0
    have f1 := hBr.frozen 1
    have f2 := hBr.frozen 2
    have f3 := hBr.frozen 3
    have f4 := hBr.frozen 4
    have f5 := hBr.frozen 5
    have hBn := HB1.out.old hrf
    obtain ⟨d0, d1, d2, d3, d4, d5⟩ := hBn.c6
    have HBR : Hid (Blk w2 w.heap.size 27 #[.int .u8 0, .bool false, .bool false, .string ⟨#[]⟩, .string ⟨#[]⟩, .slice none 0 0]) := hBr
    clear hBr hBn
    go_wp2_with fail
    have hfin := Blk.set6 HBR.out (.int .u8 0) (.bool false) (.bool false) (.string ⟨#[]⟩) (.string ⟨#[]⟩) (.slice none 0 0)
    have hbw := set6_below (hb2.trans (hrf.mono hlo)) (Nat.le_refl _) 0 (.int .u8 0) (.bool false) (.bool false) (.string ⟨#[]⟩) (.string ⟨#[]⟩) (.slice none 0 0)
    refine bodyPost_ret (res32_run (b := w.heap.size) hfin rfl rfl rfl) rfl ?_
    rw [HE.out]
    exact ⟨hbw, k, hk, rfl, rfl⟩
  · have tge : decide ((s.size : Int) ≤ (k : Int)) = true := decide_eq_true (by omega)
    have tge2 : decide (s.size ≤ k) = true := decide_eq_true (by omega)
    have HE : Hid (G = .error (s.size - k)) := by show _ = _; rw [← HG.out, drop_end s k (by omega), rdV, show s.size - k = 0 by omega]
    clear HG htup hdeep
    have hBr := HB0.out.old hrf
    obtain ⟨c0, c1, c2, c3, c4, c5⟩ := hBr.c6
    have f0 := hBr.frozen 0
    have f1 := hBr.frozen 1
    have f2 := hBr.frozen 2
    have f3 := hBr.frozen 3
    have f4 := hBr.frozen 4
    have f5 := hBr.frozen 5
    have hBn := HB1.out.old hrf
    obtain ⟨d0, d1, d2, d3, d4, d5⟩ := hBn.c6
    have HBR : Hid (Blk w2 w.heap.size 27 #[.int .u8 0, .bool false, .bool false, .string ⟨#[]⟩, .string ⟨#[]⟩, .slice none 0 0]) := hBr
    clear hBr hBn
    go_wp2_with fail
    have hfin := Blk.set6 HBR.out (.int .u8 0) (.bool false) (.bool false) (.string ⟨#[]⟩) (.string ⟨#[]⟩) (.slice none 0 0)
    have hbw := set6_below (hb2.trans (hrf.mono hlo)) (Nat.le_refl _) 0 (.int .u8 0) (.bool false) (.bool false) (.string ⟨#[]⟩) (.string ⟨#[]⟩) (.slice none 0 0)
    refine bodyPost_ret (res32_run (b := w.heap.size) hfin rfl rfl rfl) rfl ?_
    rw [HE.out]
    exact ⟨hbw, k, hk, rfl, rfl⟩
end Go.Proofs.Ytffhbellpcneeaa
