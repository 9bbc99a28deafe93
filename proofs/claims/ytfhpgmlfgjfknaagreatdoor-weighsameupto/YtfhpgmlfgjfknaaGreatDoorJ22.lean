/- Contracts and lemmas (nothing is claimed here). -/
import Derived.Test.YtfhpgmlfgjfknaaGreatDoorJ21
import Derived.Test.YtfhpgmlfgjfknaaGreatDoorJ1
import Derived.Deep.RegionLaw
import Derived.Test.YtfhpgmlfgjfknaaGreatDoorJ2
namespace Go.Vf
open Go.RowKit
variable {P : Program}
theorem step_append_byte {ops : Array Oper} {o : Oper} {a : Act} {w : World} {K : Act → World → Prop} {Q : Exit → Act → World → Prop} {E : Prop} (hgd : o.guard = none) (s x : Operand) (t : TypeId)
    (ho : o.op = .call { callee := .builtin .append, args := #[s, x], argTypes := #[t, t] }) (e : TypeId) (ht : P.underlying t = some (.slice e)) (hinfo : (P.info? e).map (fun i => (i.zero, i.size, i.bytes)) = some (some (.int .u8 0), 1, 1))
    (base : Nat) (v : Value) (acc : List UInt8) (hs : a.eval s = v) (hown : BOwn e w base v acc) (b : UInt8) (ad : Addr) (c : Nat) (hx : a.eval x = .slice (some ad) 1 c) (hcell : w.cell? ad = some (.int .u8 (b.toNat : Int)))
    (hlen : acc.length ≤ 1099511627776) (hbase : base ≤ w.heap.size) (B : Nat) (w0 : World) (hb : Below B w0 w) (hB : B ≤ base)
    (hK : ∀ v' w', BOwn e w' base v' (acc ++ [b]) → Below B w0 w' → base ≤ w'.heap.size → K (a.put o.dst v') w') :
    if Region.wanted o (yielded ops a.tmps) = true then Oper.wp P o a w K Q else E := by
  have hw : Region.wanted o (yielded ops a.tmps) = true := by simp [Region.wanted, hgd]
  rw [if_pos hw]
  obtain ⟨i, hi, hzz⟩ := Option.map_eq_some_iff.1 hinfo
  simp only [Prod.mk.injEq] at hzz
  obtain ⟨hz, hsz, hby⟩ := hzz
  obtain ⟨v', w', hrun, r1, r2, r3⟩ := run_append_own (P := P) w base t o.type e i (.int .u8 0) 1 1 ht hi hz hsz hby rfl (by decide) v acc.length (cellsL acc) hown ad 1 c [.int .u8 (b.toNat : Int)] rfl
    (fun j u hj => by
      match j, hj with
      | 0, hj => simp at hj; subst hj; rw [show ad.add 0 = ad by cases ad; simp [Addr.add]]; exact hcell)
    (fun u hu => by simp at hu; subst hu; rfl) (by unfold maxLen; omega) (by omega) hbase
  unfold Oper.wp
  simp [execOp, ho, resolve, invoke, builtin, hs, hx, hrun, Result.andThen]
  refine hK v' w' ?_ ?_ ?_
  · unfold BOwn
    have e1 : cellsL (acc ++ [b]) = cellsL acc ++ [.int .u8 (b.toNat : Int)] := by simp [cellsL]
    rw [e1, List.length_append]
    exact r1
  · exact hb.grown r2 (by omega) (fun k hk => by
      rcases hown.form with ⟨rfl, _⟩ | ⟨g, cap, rfl, hg, _⟩
      · simp [Value.ownBlock] at hk
      · obtain rfl : g = k := by simpa [Value.ownBlock] using hk
        omega)
  · have := r2.size; omega
def tailsU (p : Nat) : Nat → List UInt8
  | 0 => []
  | i + 1 => UInt8.ofNat (0x80 + p / 64 ^ i % 64) :: tailsU p i
theorem enc_tails {p : Nat} (hp : IsPt p) : enc p = UInt8.ofNat (headOf (enc p).length + p / 64 ^ ((enc p).length - 1)) :: tailsU p ((enc p).length - 1) ∧ headOf (enc p).length + p / 64 ^ ((enc p).length - 1) < 256 := by
  unfold IsPt at hp
  by_cases h1 : p < 0x80
  · have e : enc p = [UInt8.ofNat p] := by unfold enc; rw [if_pos (by omega)]
    rw [e]
    refine ⟨?_, ?_⟩
    · simp [tailsU, headOf]
    · simp [headOf]; omega
  · by_cases h2 : p < 0x800
    · have e : enc p = [UInt8.ofNat (0xc0 + p / 64), UInt8.ofNat (0x80 + p % 64)] := by unfold enc; rw [if_neg (by omega), if_pos (by omega)]
      rw [e]
      refine ⟨?_, ?_⟩
      · simp [tailsU, headOf]
      · simp [headOf]; omega
    · by_cases h3 : p < 0x10000
      · have e : enc p = [UInt8.ofNat (0xe0 + p / 4096), UInt8.ofNat (0x80 + p / 64 % 64), UInt8.ofNat (0x80 + p % 64)] := by unfold enc; rw [if_neg (by omega), if_neg (by omega), if_pos (by omega)]
        rw [e]
        refine ⟨?_, ?_⟩
        · simp [tailsU, headOf]
        · simp [headOf]; omega
      · have e : enc p = [UInt8.ofNat (0xf0 + p / 262144), UInt8.ofNat (0x80 + p / 4096 % 64), UInt8.ofNat (0x80 + p / 64 % 64), UInt8.ofNat (0x80 + p % 64)] := by unfold enc; rw [if_neg (by omega), if_neg (by omega), if_neg (by omega)]
        rw [e]
        refine ⟨?_, ?_⟩
        · simp [tailsU, headOf]
        · simp [headOf]; omega
end Go.Vf
namespace Go.Proofs.YtfhpgmlfgjfknaaGreatDoor
open Go.RowKit Go.Vf
theorem info5U : (Tryz.prog.info? 5).map (fun i => (i.zero, i.size, i.bytes)) = some (some (.int .u8 0), 1, 1) := by kernel_rfl
theorem shift_six (p i : Nat) : (p : Int) / 2 ^ ((i : Int) * 6).toNat = ((p / 64 ^ i : Nat) : Int) := by
  have e : ((i : Int) * 6).toNat = 6 * i := by omega
  rw [e, show (2 : Int) ^ (6 * i) = ((64 ^ i : Nat) : Int) by rw [Int.pow_mul]; simp]
  rfl
theorem i64_and63 (n : Nat) : bits .and .i64 (n : Int) 63 = ((n % 64 : Nat) : Int) := by
  have h63 : (BitVec.ofInt 64 63).toNat = 2 ^ 6 - 1 := by decide
  have key : (BitVec.ofInt 64 (n : Int) &&& BitVec.ofInt 64 63).toNat = ((n : Int) % ((2 ^ 64 : Nat) : Int)).toNat % 2 ^ 6 := by
    rw [BitVec.toNat_and, BitVec.toNat_ofInt, h63, Nat.and_two_pow_sub_one_eq_mod]
  show IntKind.i64.wrap ((BitVec.ofInt 64 (n : Int) &&& BitVec.ofInt 64 63).toNat : Nat) = _
  rw [key, IntKind.wrap_i64]
  omega
set_option maxHeartbeats 2000000 in
set_option maxRecDepth 20000 in
theorem appendPoint_any (v : Value) (acc : List UInt8) (p : Nat) (hp : IsPt p) (base : Nat) (w : World) (hbase : base ≤ w.heap.size) (ht : Tabs w) (hown : BOwn 5 w base v acc) (hlen : acc.length ≤ 1099511627700) :
    Calls Tryz.prog 39 #[v, .int .i64 (p : Int), .int .i64 ((enc p).length : Int)] w fun e w' => ∃ v', e = .returned v' ∧ BOwn 5 w' base v' (acc ++ enc p) ∧ Below base w w' := by
  obtain ⟨he, hbig⟩ := enc_tails hp
  have h4 := enc_le p
  have h0 := enc_pos p
  obtain ⟨R, HR⟩ : ∃ R, Hid (R = acc ++ enc p) := ⟨_, rfl⟩
  rw [← HR.out]
  obtain ⟨z, hz⟩ : ∃ z, z = (enc p).length := ⟨_, rfl⟩
  rw [← hz] at he hbig h4 h0 ⊢
  have hh := ht.heads z (by omega)
  have HE : Hid (enc p = UInt8.ofNat (headOf z + p / 64 ^ (z - 1)) :: tailsU p (z - 1)) := he
  have HB : Hid (headOf z + p / 64 ^ (z - 1) < 256) := hbig
  clear he hbig hz
  obtain ⟨j, rfl⟩ : ∃ j, z = j + 1 := ⟨z - 1, by omega⟩
  rw [Nat.add_sub_cancel] at HE HB
  have hs0 := shift_six p j
  have hj0 : (0 : Int) ≤ (j : Int) + 1 := by omega
  have hj5 : (j : Int) + 1 < 5 := by omega
  obtain ⟨a, ha⟩ : ∃ a, a = p / 64 ^ j := ⟨_, rfl⟩
  rw [← ha] at hs0 HE HB
  have w1 : IntKind.u8.wrap (a : Int) = (a : Int) := by rw [IntWalk.u8_in _ ⟨by omega, by have := HB.out; omega⟩]
  have w2 : IntKind.u8.wrap ((headOf (j + 1) : Int) + (a : Int)) = ((UInt8.ofNat (headOf (j + 1) + a)).toNat : Int) := by rw [ofNat_toNat HB.out, IntWalk.u8_in _ ⟨by omega, by have := HB.out; omega⟩]; omega
  obtain ⟨b0, hb0⟩ : ∃ b0, b0 = UInt8.ofNat (headOf (j + 1) + a) := ⟨_, rfl⟩
  rw [← hb0] at w2 HE
  have HR2 : Hid (R = (acc ++ [b0]) ++ tailsU p j) := by show _ = _; rw [HR.out, HE.out]; simp
  clear HE HB ha hb0
  go_enter Tryz.func39, Tryz.ntmps39
  go_wp2
  go_region_law (refine step_append_byte rfl (.tmp 11) (.tmp 20) 74 rfl 5 Tryz.underlying74 info5U base v acc (by simp [Act.eval]) (BOwn.alloc (show BOwn 5 w.drew base v acc from hown) _) b0 ⟨w.heap.size, 0, none⟩ 1 (by simp [Act.eval]) (by simp) (by omega) (by simp; omega) base w ((Below.refl base w).drew.alloc hbase _) (Nat.le_refl _) ?_; intro v1 W1 hown1 hbel1 hsz1)
  go_wp2
  clear hs0 w1 w2 hj0 hj5 hh
  simp only [Act.put, List.getElem_toArray, List.getElem_cons_succ, List.getElem_cons_zero, List.setIfInBounds_toArray, List.set_cons_zero]
  go_loopw [0, 7] (fun t l wr => ∃ (i : Nat) (ac : List UInt8), i ≤ 3 ∧ l = .int .i64 ((i : Int) * 6) ∧ Hid (R = ac ++ tailsU p i) ∧ BOwn 5 wr base t ac ∧ ac.length + i ≤ 1099511627710 ∧ Below base w wr ∧ base ≤ wr.heap.size) (fun _ l _ => (intOf l).toNat)
  case atStart => exact ⟨j, acc ++ [b0], by omega, rfl, HR2, hown1, by simp; omega, hbel1, hsz1⟩
  case round =>
    obtain ⟨i, ac, hi, rfl, HI, ho, hl, hbl, hsz⟩ := hrel
    clear hown1 hbel1 hsz1
    cases i with
    | zero =>
      have hR : R = ac := by rw [HI.out]; simp [tailsU]
      go_wp2
      go_ret
      exact ⟨_, rfl, hR ▸ ho, hbl⟩
    | succ i =>
      obtain ⟨q, hq⟩ : ∃ q, q = p / 64 ^ i := ⟨_, rfl⟩
      have hs1 : (p : Int) / 2 ^ ((i + 1) * 6 - 6) = (q : Int) := by
        rw [hq, show (i + 1) * 6 - 6 = 6 * i by omega, show (2 : Int) ^ (6 * i) = ((64 ^ i : Nat) : Int) by rw [Int.pow_mul]; simp]
        rfl
      have hand := i64_and63 q
      have HI2 : Hid (R = (ac ++ [UInt8.ofNat (128 + q % 64)]) ++ tailsU p i) := by show _ = _; rw [HI.out, hq]; simp [tailsU]
      clear hq HI
      go_wp2_with (at_builtin; refine wpList_append_byte rfl _ _ 74 rfl 5 Tryz.underlying74 info5U base _ ac rfl ho (UInt8.ofNat (128 + q % 64)) _ (by rw [ofNat_toNat (by omega)]; omega) 1 rfl (by omega) hsz base w hbl (Nat.le_refl _) ?_; intro v2 W2 ho2 hbl2 hsz2)
      go_roundw
      case rel => exact ⟨i, ac ++ [UInt8.ofNat (128 + q % 64)], by omega, by go_num, HI2, ho2, by simp; omega, hbl2, hsz2⟩
      case measure => simp [intOf]; omega
end Go.Proofs.YtfhpgmlfgjfknaaGreatDoor
namespace Go.Vf
end Go.Vf
namespace Go.Proofs.YtfhpgmlfgjfknaaGreatDoor
open Go.RowKit Go.Vf
def TxtPost (ps : List Nat) (tl : List Int) (e : Ending) : Prop :=
  (tl = [] ∧ e = .returned (.tuple #[.string (bs (encs ps)), .int .i64 0, .int .i64 0])) ∨
  (tl ≠ [] ∧ e = .returned (.tuple #[.string ⟨#[]⟩, .int .i64 30, .int .i64 (ps.length : Int)]))
theorem results16_run {tmps : Array Value} {w : World} {s : ByteArray} {e n : Int} (t2 : tmps[2]?.getD undef = .string s) (t3 : tmps[3]?.getD undef = .int .i64 e) (t4 : tmps[4]?.getD undef = .int .i64 n) :
    (results Tryz.f19 tmps).run Tryz.prog w = .ok (.tuple #[.string s, .int .i64 e, .int .i64 n]) w := by
  simp [results, Tryz.results19, go_sem, t2, t3, t4]
set_option maxHeartbeats 2000000 in
set_option maxRecDepth 20000 in
theorem text_any (v : Value) (zs : List Int) (hlen : zs.length ≤ 4294967296) (ps : List Nat) (tl : List Int) (hz : zs = (ps.map fun p : Nat => (p : Int)) ++ tl) (hps : ∀ p ∈ ps, IsPt p) (htl : tl = [] ∨ ∃ z r, tl = z :: r ∧ rowPU z = none) (w : World) (ht : Tabs w) (hv : Ints w.heap.size w v zs) :
    Calls Tryz.prog 19 #[v] w fun e w' => TxtPost ps tl e ∧ Below w.heap.size w w' := by
  rcases hv with ⟨va, vcap, rfl, rfl⟩ | ⟨b, off, cap, rfl, hb, hc⟩
  · have h1 : ps = [] ∧ tl = [] := by
      have := congrArg List.length hz
      simp at this
      exact ⟨List.eq_nil_of_length_eq_zero (by omega), List.eq_nil_of_length_eq_zero (by omega)⟩
    obtain ⟨rfl, rfl⟩ := h1
    have hnil : ∀ W : World, (convert 74 9 (.slice none 0 0)).run Tryz.prog W = .ok (.string (bs [])) W := fun W => run_string_own W 74 9 5 Tryz.underlying74 Tryz.underlying5 Tryz.underlying9 0 _ [] (BOwn.nil 5 W 0)
    clear hz hps htl
    go_enter Tryz.func19, Tryz.ntmps19
    go_wp2
    go_loopw [5, 12] (fun t i wr => t = .slice none 0 0 ∧ i = .int .i64 0 ∧ wr = w) (fun _ _ _ => 0)
    case atStart => exact ⟨rfl, rfl, rfl⟩
    case round =>
      obtain ⟨rfl, rfl, rfl⟩ := hrel
      go_wp2
      refine bodyPost_ret (results16_run rfl rfl rfl) rfl ?_
      exact ⟨.inl ⟨rfl, rfl⟩, Below.refl _ _⟩
  · have HZ : Hid (zs = (ps.map fun p : Nat => (p : Int)) ++ tl) := hz
    have hpl : ps.length ≤ zs.length := by rw [hz]; simp
    clear hz
    obtain ⟨L, hL⟩ : ∃ L, L = zs.length := ⟨_, rfl⟩
    rw [← hL] at hc hlen hpl ⊢
    have HL : Hid (L = zs.length) := hL
    clear hL
    have h2 : 2 ≤ w.heap.size := ht.size
    go_enter Tryz.func19, Tryz.ntmps19
    go_wp2
    go_loopw [5, 12] (fun t i wr => ∃ (j : Nat) (ps1 ps2 : List Nat), j ≤ L ∧ i = .int .i64 j ∧ Hid (ps = ps1 ++ ps2 ∧ ps1.length = j) ∧ BOwn 5 wr w.heap.size t (encs ps1) ∧ Below w.heap.size w wr) (fun _ i _ => L - (intOf i).toNat)
    case atStart => exact ⟨0, [], ps, Nat.zero_le _, rfl, ⟨rfl, rfl⟩, BOwn.nil _ _ _, Below.refl _ _⟩
    case round =>
      obtain ⟨j, ps1, ps2, hj, rfl, HP, hown, hbel⟩ := hrel
      have htr := ht.own hbel
      by_cases hlt : j < L
      · have hcj : wr.cell? ⟨b, off + j, none⟩ = some (.int .i64 (zs[j]?.getD 0)) := (hbel.cell (p := ⟨b, off + j, none⟩) hb).trans (hc j hlt)
        obtain ⟨n, hn⟩ : ∃ n, n = zs[j]?.getD 0 := ⟨_, rfl⟩
        rw [← hn] at hcj
        have HN : Hid (n = zs[j]?.getD 0) := hn
        clear hn
        cases ps2 with
        | nil =>
          obtain ⟨hp1, hp2⟩ := HP.out
          rw [List.append_nil] at hp1
          have htl2 : tl ≠ [] := by
            intro h
            have := congrArg List.length HZ.out
            rw [← HL.out, h, hp1] at this
            simp at this
            omega
          obtain ⟨z, r, rfl, hzr⟩ := htl.resolve_left htl2
          have hnz : n = z := by
            rw [HN.out, HZ.out, List.getElem?_append_right (by simp [hp1, hp2])]
            simp [hp1, hp2]
          have HRP : Hid (rowPU n = none) := by show _ = _; rw [hnz]; exact hzr
          have HJ : Hid (ps.length = j) := by show _ = _; rw [hp1]; exact hp2
          clear hnz hzr hp1 hp2 HP
          go_wp2_with (go_at_call 38; refine (rowOfPoint_any n wr htr).mono ?_; rintro e w2 ⟨⟨R, rfl, hR, hR0⟩, hb2⟩; obtain rfl := hR0 HRP.out; rw [HRP.out]; unfold noRowV; clear hR hR0)
          refine bodyPost_ret (results16_run rfl rfl rfl) rfl ?_
          refine ⟨.inr ⟨htl2, by rw [HJ.out]⟩, ?_⟩
          exact (hbel.trans (hb2.mono hbel.size)).alloc (Nat.le_trans hbel.size hb2.size) _
        | cons p ps2 =>
          obtain ⟨hp1, hp2⟩ := HP.out
          have hp : IsPt p := hps p (by rw [hp1]; simp)
          have hnz : n = (p : Int) := by
            rw [HN.out, HZ.out, hp1, List.getElem?_append_left (by simp; omega)]
            simp [← hp2]
          obtain ⟨k, hk, _, hk1, hk2, _, _⟩ := enc_row hp []
          have HRP : Hid (rowPU n = some k) := by show _ = _; rw [hnz]; exact hk1
          have HNZ : Hid (n = (p : Int)) := hnz
          have HK2 : Hid ((utab k).size = (enc p).length) := hk2
          have HE : Hid ((encs ps1).length ≤ 17179869184) := by
            show _ ≤ _
            have := encs_length_le ps1
            omega
          clear hnz hp1 hp2 hk1 hk2
          go_wp2_with (first | (go_at_call 38; refine (rowOfPoint_any n wr htr).mono ?_; rintro e w2 ⟨⟨R, rfl, hR, hR0⟩, hb2⟩; obtain rfl := hR k HRP.out; rw [HRP.out]; unfold rowV; clear hR hR0))
          have hown2 : BOwn 5 w2 w.heap.size u5 (encs ps1) := own_after hown hb2
          have hbel2 : Below w.heap.size w w2 := hbel.trans (hb2.mono hbel.size)
          have hbel3 := hbel2.alloc hbel2.size (.cells #[.int .u8 ((utab k).first : Int), .int .u8 ((utab k).last : Int), .int .u8 ((utab k).low : Int), .int .u8 ((utab k).high : Int), .int .i64 ((utab k).size : Int), .int .i64 ((utab k).least : Int), .int .i64 ((utab k).most : Int)] 103)
          have hown3 := hown2.alloc (.cells #[.int .u8 ((utab k).first : Int), .int .u8 ((utab k).last : Int), .int .u8 ((utab k).low : Int), .int .u8 ((utab k).high : Int), .int .i64 ((utab k).size : Int), .int .i64 ((utab k).least : Int), .int .i64 ((utab k).most : Int)] 103)
          generalize w2.alloc (.cells #[.int .u8 ((utab k).first : Int), .int .u8 ((utab k).last : Int), .int .u8 ((utab k).low : Int), .int .u8 ((utab k).high : Int), .int .i64 ((utab k).size : Int), .int .i64 ((utab k).least : Int), .int .i64 ((utab k).most : Int)] 103) = W3 at hbel3 hown3 ⊢
          rw [show (Calls Tryz.prog 39 #[u5, Value.int IntKind.i64 n, Value.int IntKind.i64 ((utab k).size : Int)] W3) = (Calls Tryz.prog 39 #[u5, Value.int IntKind.i64 (p : Int), Value.int IntKind.i64 ((enc p).length : Int)] W3) by rw [HNZ.out, HK2.out]]
          refine (appendPoint_any u5 (encs ps1) p hp w.heap.size W3 hbel3.size (ht.own hbel3) hown3 (by have := HE.out; omega)).mono ?_
          rintro e W4 ⟨v4, rfl, hown4, hbel4⟩
          have hfin : Below w.heap.size w W4 := hbel3.trans hbel4
          have hencs : encs (ps1 ++ [p]) = encs ps1 ++ enc p := by rw [encs_append]; simp [encs]
          rw [← hencs] at hown4
          clear hown hown2 hown3 hencs
          go_wp2
          go_roundw
          case rel => exact ⟨j + 1, ps1 ++ [p], ps2, by omega, by go_num, ⟨by rw [HP.out.1]; simp, by rw [List.length_append, HP.out.2]; rfl⟩, hown4, hfin⟩
          case measure => simp [intOf]; omega
      · have hend : ps2 = [] ∧ tl = [] := by
          have h1 := congrArg List.length HZ.out
          rw [← HL.out, HP.out.1] at h1
          simp at h1
          have h2 := HP.out.2
          exact ⟨List.eq_nil_of_length_eq_zero (by omega), List.eq_nil_of_length_eq_zero (by omega)⟩
        obtain ⟨rfl, rfl⟩ := hend
        have hstr : (convert 74 9 u5).run Tryz.prog wr = .ok (.string (bs (encs ps))) wr := by
          rw [HP.out.1, List.append_nil]
          exact run_string_own wr 74 9 5 Tryz.underlying74 Tryz.underlying5 Tryz.underlying9 w.heap.size u5 _ hown
        clear hown
        go_wp2
        refine bodyPost_ret (results16_run rfl rfl rfl) rfl ?_
        exact ⟨.inl ⟨rfl, rfl⟩, hbel⟩
end Go.Proofs.YtfhpgmlfgjfknaaGreatDoor
