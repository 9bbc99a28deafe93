/- What utf.appendPoint and utf.Text do (contracts; nothing is claimed here). -/
import Derived.Test.YtjlgmoakdaeinaaDoorPts
import Derived.Deep.RegionLaw
namespace Go.Vf
open Go.RowKit
variable {P : Program}

/-- 'out = append(out, x)' as one step of a region that draws its order. -/
theorem step_append_byte {ops : Array Oper} {o : Oper} {a : Act} {w : World} {K : Act → World → Prop} {Q : Exit → Act → World → Prop} {E : Prop} (hgd : o.guard = none) (s x : Operand) (t : TypeId)
    (ho : o.op = .call { callee := .builtin .append, args := #[s, x], argTypes := #[t, t] }) (e : TypeId) (ht : P.underlying t = some (.slice e)) (hinfo : (P.info? e).map (fun i => (i.zero, i.size, i.bytes)) = some (some (.int .u8 0), 1, 1))
    (base : Nat) (v : Value) (acc : List UInt8) (hs : a.eval s = v) (hown : BOwn e w base v acc) (b : UInt8) (ad : Addr) (c : Nat) (hx : a.eval x = .slice (some ad) 1 c) (hcell : w.cell? ad = some (.int .u8 (b.toNat : Int)))
    (hlen : acc.length ≤ 1099511627776) (hbase : base ≤ w.heap.size) (B : Nat) (w0 : World) (hb : Below B w0 w) (hB : B ≤ base)
    (hK : ∀ v' w', BOwn e w' base v' (acc ++ [b]) → Below B w0 w' → base ≤ w'.heap.size → K (a.put o.dst v') w') :
    if Region.wanted o (yielded ops a.tmps) = true then Oper.wp P o a w K Q else E := by
  have hw : Region.wanted o (yielded ops a.tmps) = true := by simp [Region.wanted, hgd]
  rw [if_pos hw]
  obtain ⟨i, hi, hzz⟩ := Option.map_eq_some_iff.1 hinfo
  simp only [Prod.mk.injEq] at hzz
  obtain ⟨hz, hsz, hby⟩ := hzz
  obtain ⟨v', w', hrun, r1, r2, r3⟩ := run_append_own (P := P) w base t o.type e i (.int .u8 0) 1 1 ht hi hz hsz hby rfl (by decide) v acc.length (cellsL acc) hown ad 1 c [.int .u8 (b.toNat : Int)] rfl
    (fun j u hj => by
      match j, hj with
      | 0, hj => simp at hj; subst hj; rw [show ad.add 0 = ad by cases ad; simp [Addr.add]]; exact hcell)
    (fun u hu => by simp at hu; subst hu; rfl) (by unfold maxLen; omega) (by omega) hbase
  unfold Oper.wp
  simp [execOp, ho, resolve, invoke, builtin, hs, hx, hrun, Result.andThen]
  refine hK v' w' ?_ ?_ ?_
  · unfold BOwn
    have e1 : cellsL (acc ++ [b]) = cellsL acc ++ [.int .u8 (b.toNat : Int)] := by simp [cellsL]
    rw [e1, List.length_append]
    exact r1
  · exact hb.grown r2 (by omega) (fun k hk => by
      rcases hown.form with ⟨rfl, _⟩ | ⟨g, cap, rfl, hg, _⟩
      · simp [Value.ownBlock] at hk
      · obtain rfl : g = k := by simpa [Value.ownBlock] using hk
        omega)
  · have := r2.size; omega

/-- What the last bytes of a character are: of the point's bits from left on. -/
def tails (p : Nat) : Nat → List UInt8
  | 0 => []
  | i + 1 => UInt8.ofNat (0x80 + p / 64 ^ i % 64) :: tails p i

theorem enc_tails {p : Nat} (hp : IsPt p) : enc p = UInt8.ofNat (headOf (enc p).length + p / 64 ^ ((enc p).length - 1)) :: tails p ((enc p).length - 1) ∧ headOf (enc p).length + p / 64 ^ ((enc p).length - 1) < 256 := by
  unfold IsPt at hp
  by_cases h1 : p < 0x80
  · have e : enc p = [UInt8.ofNat p] := by unfold enc; rw [if_pos (by omega)]
    rw [e]
    refine ⟨?_, ?_⟩
    · simp [tails, headOf]
    · simp [headOf]; omega
  · by_cases h2 : p < 0x800
    · have e : enc p = [UInt8.ofNat (0xc0 + p / 64), UInt8.ofNat (0x80 + p % 64)] := by unfold enc; rw [if_neg (by omega), if_pos (by omega)]
      rw [e]
      refine ⟨?_, ?_⟩
      · simp [tails, headOf]
      · simp [headOf]; omega
    · by_cases h3 : p < 0x10000
      · have e : enc p = [UInt8.ofNat (0xe0 + p / 4096), UInt8.ofNat (0x80 + p / 64 % 64), UInt8.ofNat (0x80 + p % 64)] := by unfold enc; rw [if_neg (by omega), if_neg (by omega), if_pos (by omega)]
        rw [e]
        refine ⟨?_, ?_⟩
        · simp [tails, headOf]
        · simp [headOf]; omega
      · have e : enc p = [UInt8.ofNat (0xf0 + p / 262144), UInt8.ofNat (0x80 + p / 4096 % 64), UInt8.ofNat (0x80 + p / 64 % 64), UInt8.ofNat (0x80 + p % 64)] := by unfold enc; rw [if_neg (by omega), if_neg (by omega), if_neg (by omega)]
        rw [e]
        refine ⟨?_, ?_⟩
        · simp [tails, headOf]
        · simp [headOf]; omega

end Go.Vf
namespace Go.Proofs.YtjlgmoakdaeinaaDoor
open Go.RowKit Go.Vf

theorem info5 : (Tryd.prog.info? 5).map (fun i => (i.zero, i.size, i.bytes)) = some (some (.int .u8 0), 1, 1) := by kernel_rfl

theorem shift_six (p i : Nat) : (p : Int) / 2 ^ ((i : Int) * 6).toNat = ((p / 64 ^ i : Nat) : Int) := by
  have e : ((i : Int) * 6).toNat = 6 * i := by omega
  rw [e, show (2 : Int) ^ (6 * i) = ((64 ^ i : Nat) : Int) by rw [Int.pow_mul]; simp]
  rfl

theorem i64_and63 (n : Nat) : bits .and .i64 (n : Int) 63 = ((n % 64 : Nat) : Int) := by
  have h63 : (BitVec.ofInt 64 63).toNat = 2 ^ 6 - 1 := by decide
  have key : (BitVec.ofInt 64 (n : Int) &&& BitVec.ofInt 64 63).toNat = ((n : Int) % ((2 ^ 64 : Nat) : Int)).toNat % 2 ^ 6 := by
    rw [BitVec.toNat_and, BitVec.toNat_ofInt, h63, Nat.and_two_pow_sub_one_eq_mod]
  show IntKind.i64.wrap ((BitVec.ofInt 64 (n : Int) &&& BitVec.ofInt 64 63).toNat : Nat) = _
  rw [key, IntKind.wrap_i64]
  omega

set_option maxHeartbeats 2000000 in
set_option maxRecDepth 20000 in
/-- appendPoint(text, p, its character's length). -/
theorem appendPoint_any (v : Value) (acc : List UInt8) (p : Nat) (hp : IsPt p) (base : Nat) (w : World) (hbase : base ≤ w.heap.size) (ht : Tabs w) (hown : BOwn 5 w base v acc) (hlen : acc.length ≤ 1099511627700) :
    Calls Tryd.prog 23 #[v, .int .i64 (p : Int), .int .i64 ((enc p).length : Int)] w fun e w' => ∃ v', e = .returned v' ∧ BOwn 5 w' base v' (acc ++ enc p) ∧ Below base w w' := by
  obtain ⟨he, hbig⟩ := enc_tails hp
  have h4 := enc_le p
  have h0 := enc_pos p
  obtain ⟨R, HR⟩ : ∃ R, Hid (R = acc ++ enc p) := ⟨_, rfl⟩
  rw [← HR.out]
  obtain ⟨z, hz⟩ : ∃ z, z = (enc p).length := ⟨_, rfl⟩
  rw [← hz] at he hbig h4 h0 ⊢
  have hh := ht.heads z (by omega)
  have HE : Hid (enc p = UInt8.ofNat (headOf z + p / 64 ^ (z - 1)) :: tails p (z - 1)) := he
  have HB : Hid (headOf z + p / 64 ^ (z - 1) < 256) := hbig
  clear he hbig hz
  obtain ⟨j, rfl⟩ : ∃ j, z = j + 1 := ⟨z - 1, by omega⟩
  rw [Nat.add_sub_cancel] at HE HB
  have hs0 := shift_six p j
  have hj0 : (0 : Int) ≤ (j : Int) + 1 := by omega
  have hj5 : (j : Int) + 1 < 5 := by omega
  obtain ⟨a, ha⟩ : ∃ a, a = p / 64 ^ j := ⟨_, rfl⟩
  rw [← ha] at hs0 HE HB
  have w1 : IntKind.u8.wrap (a : Int) = (a : Int) := by rw [IntWalk.u8_in _ ⟨by omega, by have := HB.out; omega⟩]
  have w2 : IntKind.u8.wrap ((headOf (j + 1) : Int) + (a : Int)) = ((UInt8.ofNat (headOf (j + 1) + a)).toNat : Int) := by rw [ofNat_toNat HB.out, IntWalk.u8_in _ ⟨by omega, by have := HB.out; omega⟩]; omega
  obtain ⟨b0, hb0⟩ : ∃ b0, b0 = UInt8.ofNat (headOf (j + 1) + a) := ⟨_, rfl⟩
  rw [← hb0] at w2 HE
  have HR2 : Hid (R = (acc ++ [b0]) ++ tails p j) := by show _ = _; rw [HR.out, HE.out]; simp
  clear HE HB ha hb0
  go_enter Tryd.func23, Tryd.ntmps23
  go_wp2
  go_region_law (refine step_append_byte rfl (.tmp 11) (.tmp 20) 46 rfl 5 Tryd.underlying46 info5 base v acc (by simp [Act.eval]) (BOwn.alloc (show BOwn 5 w.drew base v acc from hown) _) b0 ⟨w.heap.size, 0, none⟩ 1 (by simp [Act.eval]) (by simp) (by omega) (by simp; omega) base w ((Below.refl base w).drew.alloc hbase _) (Nat.le_refl _) ?_; intro v1 W1 hown1 hbel1 hsz1)
  go_wp2
  clear hs0 w1 w2 hj0 hj5 hh
  simp only [Act.put, List.getElem_toArray, List.getElem_cons_succ, List.getElem_cons_zero, List.setIfInBounds_toArray, List.set_cons_zero]
  go_loopw [0, 7] (fun t l wr => ∃ (i : Nat) (ac : List UInt8), i ≤ 3 ∧ l = .int .i64 ((i : Int) * 6) ∧ Hid (R = ac ++ tails p i) ∧ BOwn 5 wr base t ac ∧ ac.length + i ≤ 1099511627710 ∧ Below base w wr ∧ base ≤ wr.heap.size) (fun _ l _ => (intOf l).toNat)
  case atStart => exact ⟨j, acc ++ [b0], by omega, rfl, HR2, hown1, by simp; omega, hbel1, hsz1⟩
  case round =>
    obtain ⟨i, ac, hi, rfl, HI, ho, hl, hbl, hsz⟩ := hrel
    clear hown1 hbel1 hsz1
    cases i with
    | zero =>
      have hR : R = ac := by rw [HI.out]; simp [tails]
      go_wp2
      go_ret
      exact ⟨_, rfl, hR ▸ ho, hbl⟩
    | succ i =>
      obtain ⟨q, hq⟩ : ∃ q, q = p / 64 ^ i := ⟨_, rfl⟩
      have hs1 : (p : Int) / 2 ^ ((i + 1) * 6 - 6) = (q : Int) := by
        rw [hq, show (i + 1) * 6 - 6 = 6 * i by omega, show (2 : Int) ^ (6 * i) = ((64 ^ i : Nat) : Int) by rw [Int.pow_mul]; simp]
        rfl
      have hand := i64_and63 q
      have HI2 : Hid (R = (ac ++ [UInt8.ofNat (128 + q % 64)]) ++ tails p i) := by show _ = _; rw [HI.out, hq]; simp [tails]
      clear hq HI
      go_wp2_with (at_builtin; refine wpList_append_byte rfl _ _ 46 rfl 5 Tryd.underlying46 info5 base _ ac rfl ho (UInt8.ofNat (128 + q % 64)) _ (by rw [ofNat_toNat (by omega)]; omega) 1 rfl (by omega) hsz base w hbl (Nat.le_refl _) ?_; intro v2 W2 ho2 hbl2 hsz2)
      go_roundw
      case rel => exact ⟨i, ac ++ [UInt8.ofNat (128 + q % 64)], by omega, by go_num, HI2, ho2, by simp; omega, hbl2, hsz2⟩
      case measure => simp [intOf]; omega

end Go.Proofs.YtjlgmoakdaeinaaDoor
