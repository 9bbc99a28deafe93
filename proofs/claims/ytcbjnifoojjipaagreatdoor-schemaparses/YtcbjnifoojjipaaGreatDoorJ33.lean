/- Contracts and lemmas (nothing is claimed here). -/
import Derived.Test.YtcbjnifoojjipaaGreatDoorJ14
import Derived.Test.YtcbjnifoojjipaaGreatDoorJ2
import Derived.OwnWalk
import Derived.Deep.AppendSrc
import Derived.Test.YtcbjnifoojjipaaGreatDoorJ32
import Derived.Test.YtcbjnifoojjipaaGreatDoorJ28
import Derived.Test.YtcbjnifoojjipaaGreatDoorSAwk
namespace Go.Proofs.YtcbjnifoojjipaaGreatDoor
open Go.RowKit Go.Vf
def news78 : List Value := [.string ⟨#[]⟩, .int .u8 78, .bool false, .int .u8 0, .bool false, .bool false, .string ⟨#[]⟩, .bool false, .string ⟨#[]⟩, .int .i64 0, .int .i64 0, .bool false, .bool false, .slice none 0 0]
theorem news78_at (W : World) : ∀ (j : Nat) u, news78[j]? = some u → (W.alloc (.cells news78.toArray 48)).cell? ((⟨W.heap.size, 0, none⟩ : Addr).add j) = some u := fun j u hu => by
  have hN := Blk.new W 48 news78.toArray
  rw [show (⟨W.heap.size, 0, none⟩ : Addr).add j = ⟨W.heap.size, j, none⟩ by simp [Addr.add]; omega, hN.cell j]
  simpa using hu
theorem news78_one : ∀ u ∈ news78, u.oneCell' = true := by
  intro u hu
  simp only [news78, List.mem_cons, List.not_mem_nil, or_false] at hu
  rcases hu with h | h | h | h | h | h | h | h | h | h | h | h | h | h <;> (subst h; rfl)
set_option maxHeartbeats 2000000 in
theorem write_nil (w : World) : Calls Tryz.prog 17 #[.slice none 0 0] w fun e w' => e = .returned (.tuple #[]) ∧ Below w.heap.size w w' := by
  obtain ⟨i, hi, hz, hsz, hby⟩ := info_parts info57
  have hb1 := (Below.refl w.heap.size w).alloc (Nat.le_refl _) (.cells news78.toArray 48)
  have hat := news78_at w
  go_enter Tryz.func17, Tryz.ntmps17
  go_wp2
  refine wp_loop_rounds 1 ?_
  rw [rounds_succ]
  unfold news78 at hb1 hat
  go_upto_region 6 with (first | (at_builtin; refine wpList_append_own_at _ rfl _ _ 23 rfl w.heap.size 48 i _ 14 120 Tryz.underlying23 hi hz hsz hby rfl (by decide) (.slice none 0 0) 0 [] rfl (World.ownsRow_nil _ _ _ _) ⟨w.heap.size, 0, none⟩ 1 1 _ rfl rfl hat news78_one (by unfold maxLen; omega) (by omega) (by simp) ?_; intro v' w' h1 h2 h3 h4))
  rcases h1.2 with ⟨_, hbad⟩ | ⟨g, cap, cur, rfl, hg, hh, hc1, hc2, hc3, hc4⟩
  · omega
  have k0 : ∃ v, w'.cell? ⟨g, 0, none⟩ = some v := by
    have hq : w'.cell? ⟨g, 0, none⟩ = cur[0]? := by simp [World.cell?, hh]
    exact ⟨_, hq.trans (Array.getElem?_eq_getElem (by rw [hc3]; omega))⟩
  obtain ⟨v0, k0⟩ := k0
  have kf : w'.frozen? ⟨g, 0, none⟩ = false := by simp [World.frozen?, hh]
  have hbw : Below w.heap.size w w' := hb1.grown h2 hb1.size (fun j e => by cases e)
  simp only [Nat.zero_add]
  clear h1 h2 h3 h4 hat hb1 hh hc4
  go_wp2_with fail
  exact ⟨rfl, _, by simp [results, Tryz.results17], rfl, hbw.setCell (p := ⟨g, 0, none⟩) hg _⟩
structure Wsu (lo n₀ : Nat) (w w' : World) : Prop where
  below : Below lo w w'
  above : ∀ b, n₀ ≤ b → b < w.heap.size → w'.heap[b]? = w.heap[b]?
  row : ∀ b cs, lo ≤ b → b < n₀ → Blk w b 48 cs → ∃ cs', Blk w' b 48 cs' ∧ cs'.size = cs.size ∧ ∀ i, cs'[i * 14 + 13]? = cs[i * 14 + 13]? ∨ cs'[i * 14 + 13]? = some (.slice none 0 0)
theorem Wsu.refl (lo n₀ : Nat) (w : World) : Wsu lo n₀ w w := ⟨Below.refl _ _, fun _ _ _ => rfl, fun _ cs _ _ h => ⟨cs, h, rfl, fun _ => .inl rfl⟩⟩
theorem Wsu.trans {lo n₀ : Nat} {a b c : World} (h : Wsu lo n₀ a b) (k : Wsu lo n₀ b c) : Wsu lo n₀ a c := by
  refine ⟨h.below.trans k.below, fun x h1 h2 => (k.above x h1 (Nat.lt_of_lt_of_le h2 h.below.size)).trans (h.above x h1 h2), fun x cs h1 h2 hx => ?_⟩
  obtain ⟨cs', a1, a2, a3⟩ := h.row x cs h1 h2 hx
  obtain ⟨cs'', b1, b2, b3⟩ := k.row x cs' h1 h2 a1
  refine ⟨cs'', b1, b2.trans a2, fun i => ?_⟩
  rcases b3 i with e | e
  · rw [e]; exact a3 i
  · exact .inr e
theorem Wsu.of {lo n₀ : Nat} {w w' : World} (hb : Below w.heap.size w w') (hlo : lo ≤ w.heap.size) : Wsu lo n₀ w w' :=
  ⟨hb.mono hlo, fun b _ h => hb.block b h, fun _ cs _ _ h => ⟨cs, h.old hb, rfl, fun _ => .inl rfl⟩⟩
theorem Wsu.one {lo n₀ b : Nat} {w w' : World} {cs cs' : Array Value} (h1 : lo ≤ b) (h2 : b < n₀) (hO : w.grownBy w' (some b)) (hlo : lo ≤ w.heap.size) (hB : Blk w b 48 cs) (hB' : Blk w' b 48 cs') (hz : cs'.size = cs.size) (hc : ∀ i, cs'[i * 14 + 13]? = cs[i * 14 + 13]? ∨ cs'[i * 14 + 13]? = some (.slice none 0 0)) : Wsu lo n₀ w w' := by
  refine ⟨(Below.refl lo w).grown hO hlo (fun j e => by cases e; exact h1), fun x q1 q2 => hO.block x q2 (by simp; omega), fun x ds q1 q2 hx => ?_⟩
  by_cases hxb : x = b
  · subst hxb
    have e := hB.symm.trans hx
    cases e
    exact ⟨cs', hB', hz, hc⟩
  · exact ⟨ds, (hO.block x hx.lt (by simp; omega)).trans hx, rfl, fun _ => .inl rfl⟩
inductive Wfu (w : World) (lo n₀ : Nat) : List Fld → Option Addr → Nat → Prop where
  | nil : Wfu w lo n₀ [] none 0
  | row {l : List Fld} {b c : Nat} (A : Nat → Option Addr) (C : Nat → Nat) (cs : Array Value) : lo ≤ b → b < n₀ → Blk w b 48 cs → cs.size = c * 14 → l.length ≤ c →
      (∀ j (hj : j < l.length), cs[j * 14 + 13]? = some (.slice (A j) l[j].fields.length (C j)) ∨ cs[j * 14 + 13]? = some (.slice none 0 0)) → (∀ j (hj : j < l.length), Wfu w lo n₀ l[j].fields (A j) (C j)) → Wfu w lo n₀ l (some ⟨b, 0, none⟩) c
theorem Wfu.step {w w' : World} {lo n₀ : Nat} {l : List Fld} {a : Option Addr} {c : Nat} (h : Wfu w lo n₀ l a c) (hs : Wsu lo n₀ w w') : Wfu w' lo n₀ l a c := by
  induction h with
  | nil => exact .nil
  | @row l b c A C cs h1 h2 hB hz hlc hc _ ih =>
    obtain ⟨cs', a1, a2, a3⟩ := hs.row b cs h1 h2 hB
    refine .row A C cs' h1 h2 a1 (a2.trans hz) hlc (fun j hj => ?_) ih
    rcases a3 j with e | e
    · rw [e]; exact hc j hj
    · exact .inr e
theorem FT.wfu {w : World} {lo : Nat} {x : Option Nat} {l : List Fld} {a : Option Addr} {c : Nat} (h : FT w lo x l a c) : Wfu w lo w.heap.size l a c := by
  induction h with
  | nil => exact .nil
  | cons A C cs h1 h2 h3 hz hl hr hc _ ih => exact .row A C cs h1 h3.lt h3 hz hl (fun j hj => .inl ((h3.cell _).symm.trans (by have := (hr j hj).c13; rw [Nat.zero_add] at this; exact this))) ih
def WuOk (l : List Fld) : Prop := ∀ (a : Option Addr) (c lo n₀ : Nat) (w : World), Wfu w lo n₀ l a c → n₀ ≤ w.heap.size → lo ≤ w.heap.size → l.length ≤ 17179869184 → (∀ x ∈ l, FitsF 17179869184 x) →
  Calls Tryz.prog 17 #[.slice a l.length c] w fun e w' => e = .returned (.tuple #[]) ∧ Wsu lo n₀ w w'
theorem setCells_setL (b : Nat) : ∀ (vs : List Value) (o : Nat) (w : World), w.setCells b o vs = setL w b o vs
  | [], _, _ => rfl
  | v :: r, o, w => setCells_setL b r (o + 1) (w.setCell ⟨b, o, none⟩ v)
theorem wpList_append_room_f {w : World} {ops : Array Oper} {rest : List Oper} {o : Oper} {a : Act} {Q : Exit → Act → World → Prop} (hgd : o.guard = none) (s x : Operand)
    (ho : o.op = .call { callee := .builtin .append, args := #[s, x], argTypes := #[23, 23] }) (b n c : Nat) (cs : Array Value) (hs : a.eval s = .slice (some ⟨b, 0, none⟩) n c) (hroom : n + 1 ≤ c) (hB : Blk w b 48 cs) (hz : cs.size = c * 14) (ad xc : Nat) (hx : a.eval x = .slice (some ⟨ad, 0, none⟩) 1 xc)
    (hnews : ∀ (j : Nat) u, news78[j]? = some u → w.cell? ((⟨ad, 0, none⟩ : Addr).add j) = some u)
    (h : ∀ w' cs', Blk w' b 48 cs' → cs'.size = cs.size → (∀ i, cs'[i * 14 + 13]? = cs[i * 14 + 13]? ∨ cs'[i * 14 + 13]? = some (.slice none 0 0)) → w.grownBy w' (some b) → wpList Tryz.prog ops Q rest (a.put o.dst (.slice (some ⟨b, 0, none⟩) (n + 1) c)) w') : wpList Tryz.prog ops Q (o :: rest) a w := by
  obtain ⟨i, hi, hzz, hsz, hby⟩ := info_parts info57
  have hle : n * 14 + 14 ≤ cs.size := by rw [hz]; omega
  have hr := run_append_room_src (P := Tryz.prog) (w := w) 23 23 o.type 48 i Tryz.underlying23 hi b 0 n c (.slice (some ⟨ad, 0, none⟩) 1 xc) 1 news78 (by rw [hsz]; exact Src.ofSlice w Tryz.underlying23 ⟨ad, 0, none⟩ 1 xc news78 rfl hnews news78_one) hroom
    (fun j hj => by
      rw [hsz, hB.cell]
      have hj14 : j < 14 := hj
      rw [Array.getElem?_eq_getElem (by omega)]; rfl) (fun j _ => hB.frozen _)
  rw [hsz, Nat.zero_add, setCells_setL] at hr
  refine wpList_plain hgd fun K hK => ?_
  unfold Oper.wp execOp
  simp only [ho, resolve, invoke, builtin, Sem.run_bind, Sem.run_pure, Result.andThen_ok, List.map_toArray, List.map_cons, List.map_nil, hs, hx, hr]
  obtain ⟨cs', q1, q2, q3, q4⟩ := setL_blk news78 w (n * 14) cs hB hle
  refine hK _ _ (h _ cs' q1 q2 (fun k => ?_) ⟨(setL_below (B := 0) (Nat.zero_le _) _ w _ (Below.refl 0 w)).os, (setL_below (B := 0) (Nat.zero_le _) _ w _ (Below.refl 0 w)).tape, (setL_below (B := 0) (Nat.zero_le _) _ w _ (Below.refl 0 w)).output, by rw [setL_size]; exact Nat.le_refl _, fun k _ hk => setL_other (by simpa using hk) _ _ _⟩)
  by_cases hkn : k = n
  · subst hkn
    exact .inr (q3 13 (by decide))
  · exact .inl (q4 _ (by show _ ∨ n * 14 + 14 ≤ _; omega))
set_option maxHeartbeats 4000000 in
set_option maxRecDepth 20000 in
theorem writeu_step (l : List Fld) (ih : ∀ x ∈ l, WuOk x.fields) : WuOk l := by
  intro a c lo n₀ w hwf hn₀ hlo hll hfit
  rcases a with _ | ad
  · have hnil : l = [] ∧ c = 0 := by cases hwf; exact ⟨rfl, rfl⟩
    obtain ⟨rfl, rfl⟩ := hnil
    exact (write_nil w).mono fun e w' h => ⟨h.1, Wsu.of h.2 hlo⟩
  obtain ⟨b, rfl⟩ : ∃ b, ad = ⟨b, 0, none⟩ := by cases hwf; exact ⟨_, rfl⟩
  have hlc : l.length ≤ c := by cases hwf; assumption
  obtain ⟨n, hn⟩ : ∃ n, l.length = n := ⟨_, rfl⟩
  have HN : Hid (l.length = n) := hn
  rw [hn]
  have hnl : n ≤ 17179869184 := by omega
  have hnc : n ≤ c := by omega
  have HWF : Hid (Wfu w lo n₀ l (some ⟨b, 0, none⟩) c) := hwf
  have HFIT : Hid (∀ x ∈ l, FitsF 17179869184 x) := hfit
  have HIH : Hid (∀ x ∈ l, WuOk x.fields) := ih
  clear hn hll hwf hfit ih hlc
  go_enter Tryz.func17, Tryz.ntmps17
  go_upto_region 1 with fail
  go_loopw [2] (fun i wr => ∃ j : Nat, j ≤ n ∧ i = .int .i64 j ∧ Hid (Wsu lo n₀ w wr)) (fun i _ => n - (intOf i).toNat)
  case atStart => exact ⟨0, by omega, rfl, Wsu.refl _ _ _⟩
  case round =>
    obtain ⟨j, hj, rfl, HST⟩ := hrel
    have hsz := HST.out.below.size
    have hwf2 := HWF.out.step HST.out
    have hln := HN.out
    by_cases hlt : j < n
    · have hjl : j < l.length := by omega
      have hx := HFIT.out _ (List.getElem_mem hjl)
      have hihx := HIH.out _ (List.getElem_mem hjl)
      have hrec : ∃ v, wr.cell? ⟨b, j * 14 + 13, none⟩ = some v ∧ (∃ a' n' c', v = .slice a' n' c') ∧ Calls Tryz.prog 17 #[v] wr (fun e w' => e = .returned (.tuple #[]) ∧ Wsu lo n₀ wr w') := by
        cases hwf2 with
        | row A C cs h1 h2 hB hz hlc hc hin =>
          rcases hc j hjl with e | e
          · exact ⟨_, (hB.cell _).trans e, ⟨_, _, _, rfl⟩, hihx (A j) (C j) lo n₀ wr (hin j hjl) (by omega) (by omega) hx.len (fun z hz => hx.mem hz)⟩
          · exact ⟨_, (hB.cell _).trans e, ⟨_, _, _, rfl⟩, (write_nil wr).mono fun e w' h => ⟨h.1, Wsu.of h.2 (by omega)⟩⟩
      obtain ⟨v, hv, ⟨a', n', c', rfl⟩, hcall⟩ := hrec
      have hbl : b < wr.heap.size := World.block_lt_of_cell? wr _ hv
      clear hwf2 hx hihx hln
      go_wp2_with fail
      refine hcall.mono ?_
      clear hcall hv
      rintro _ w3 ⟨rfl, hst3⟩
      have HST3 : Hid (Wsu lo n₀ w w3) := HST.out.trans hst3
      have hwf3 := HWF.out.step HST3.out
      have hblk : ∃ cs, lo ≤ b ∧ b < n₀ ∧ Blk w3 b 48 cs ∧ cs.size = c * 14 := by
        have hln := HN.out
        cases hwf3 with
        | row A C cs h1 h2 hB hz hlc hc hin => exact ⟨cs, h1, h2, hB, hz⟩
      obtain ⟨cs3, hb1, hb2, hB3, hz3⟩ := hblk
      have HB3 : Hid (Blk w3 b 48 cs3) := hB3
      obtain ⟨v0, u0⟩ : ∃ v, w3.cell? ⟨b, j * 14, none⟩ = some v := ⟨_, (hB3.cell _).trans (Array.getElem?_eq_getElem (by rw [hz3]; omega))⟩
      have f0 : w3.frozen? ⟨b, j * 14, none⟩ = false := hB3.frozen _
      obtain ⟨v1, u1⟩ : ∃ v, w3.cell? ⟨b, j * 14 + 1, none⟩ = some v := ⟨_, (hB3.cell _).trans (Array.getElem?_eq_getElem (by rw [hz3]; omega))⟩
      have f1 : w3.frozen? ⟨b, j * 14 + 1, none⟩ = false := hB3.frozen _
      obtain ⟨v2, u2⟩ : ∃ v, w3.cell? ⟨b, j * 14 + 2, none⟩ = some v := ⟨_, (hB3.cell _).trans (Array.getElem?_eq_getElem (by rw [hz3]; omega))⟩
      have f2 : w3.frozen? ⟨b, j * 14 + 2, none⟩ = false := hB3.frozen _
      obtain ⟨v3, u3⟩ : ∃ v, w3.cell? ⟨b, j * 14 + 3, none⟩ = some v := ⟨_, (hB3.cell _).trans (Array.getElem?_eq_getElem (by rw [hz3]; omega))⟩
      have f3 : w3.frozen? ⟨b, j * 14 + 3, none⟩ = false := hB3.frozen _
      obtain ⟨v4, u4⟩ : ∃ v, w3.cell? ⟨b, j * 14 + 4, none⟩ = some v := ⟨_, (hB3.cell _).trans (Array.getElem?_eq_getElem (by rw [hz3]; omega))⟩
      have f4 : w3.frozen? ⟨b, j * 14 + 4, none⟩ = false := hB3.frozen _
      obtain ⟨v5, u5⟩ : ∃ v, w3.cell? ⟨b, j * 14 + 5, none⟩ = some v := ⟨_, (hB3.cell _).trans (Array.getElem?_eq_getElem (by rw [hz3]; omega))⟩
      have f5 : w3.frozen? ⟨b, j * 14 + 5, none⟩ = false := hB3.frozen _
      obtain ⟨v6, u6⟩ : ∃ v, w3.cell? ⟨b, j * 14 + 6, none⟩ = some v := ⟨_, (hB3.cell _).trans (Array.getElem?_eq_getElem (by rw [hz3]; omega))⟩
      have f6 : w3.frozen? ⟨b, j * 14 + 6, none⟩ = false := hB3.frozen _
      obtain ⟨v7, u7⟩ : ∃ v, w3.cell? ⟨b, j * 14 + 7, none⟩ = some v := ⟨_, (hB3.cell _).trans (Array.getElem?_eq_getElem (by rw [hz3]; omega))⟩
      have f7 : w3.frozen? ⟨b, j * 14 + 7, none⟩ = false := hB3.frozen _
      obtain ⟨v8, u8⟩ : ∃ v, w3.cell? ⟨b, j * 14 + 8, none⟩ = some v := ⟨_, (hB3.cell _).trans (Array.getElem?_eq_getElem (by rw [hz3]; omega))⟩
      have f8 : w3.frozen? ⟨b, j * 14 + 8, none⟩ = false := hB3.frozen _
      obtain ⟨v9, u9⟩ : ∃ v, w3.cell? ⟨b, j * 14 + 9, none⟩ = some v := ⟨_, (hB3.cell _).trans (Array.getElem?_eq_getElem (by rw [hz3]; omega))⟩
      have f9 : w3.frozen? ⟨b, j * 14 + 9, none⟩ = false := hB3.frozen _
      obtain ⟨v10, u10⟩ : ∃ v, w3.cell? ⟨b, j * 14 + 10, none⟩ = some v := ⟨_, (hB3.cell _).trans (Array.getElem?_eq_getElem (by rw [hz3]; omega))⟩
      have f10 : w3.frozen? ⟨b, j * 14 + 10, none⟩ = false := hB3.frozen _
      obtain ⟨v11, u11⟩ : ∃ v, w3.cell? ⟨b, j * 14 + 11, none⟩ = some v := ⟨_, (hB3.cell _).trans (Array.getElem?_eq_getElem (by rw [hz3]; omega))⟩
      have f11 : w3.frozen? ⟨b, j * 14 + 11, none⟩ = false := hB3.frozen _
      obtain ⟨v12, u12⟩ : ∃ v, w3.cell? ⟨b, j * 14 + 12, none⟩ = some v := ⟨_, (hB3.cell _).trans (Array.getElem?_eq_getElem (by rw [hz3]; omega))⟩
      have f12 : w3.frozen? ⟨b, j * 14 + 12, none⟩ = false := hB3.frozen _
      obtain ⟨v13, u13⟩ : ∃ v, w3.cell? ⟨b, j * 14 + 13, none⟩ = some v := ⟨_, (hB3.cell _).trans (Array.getElem?_eq_getElem (by rw [hz3]; omega))⟩
      have f13 : w3.frozen? ⟨b, j * 14 + 13, none⟩ = false := hB3.frozen _
      have hbl3 : b < w3.heap.size := hB3.lt
      clear hwf3 hst3 HST hB3
      go_wp2_with fail
      have hset := setL_blk [.string ⟨#[119, 114, 105, 116, 116, 101, 110]⟩, .int .u8 77, .bool false, .int .u8 0, .bool false, .bool false, .string ⟨#[]⟩, .bool false, .string ⟨#[]⟩, .int .i64 0, .int .i64 0, .bool false, .bool false, .slice none 0 0] w3 (j * 14) cs3 HB3.out (by rw [hz3]; simp; omega)
      obtain ⟨cs4, q1, q2, q3, q4⟩ := hset
      have hgr : w3.grownBy (setL w3 b (j * 14) [.string ⟨#[119, 114, 105, 116, 116, 101, 110]⟩, .int .u8 77, .bool false, .int .u8 0, .bool false, .bool false, .string ⟨#[]⟩, .bool false, .string ⟨#[]⟩, .int .i64 0, .int .i64 0, .bool false, .bool false, .slice none 0 0]) (some b) := ⟨(setL_below (B := 0) (Nat.zero_le _) _ w3 _ (Below.refl 0 w3)).os, (setL_below (B := 0) (Nat.zero_le _) _ w3 _ (Below.refl 0 w3)).tape, (setL_below (B := 0) (Nat.zero_le _) _ w3 _ (Below.refl 0 w3)).output, by rw [setL_size]; exact Nat.le_refl _, fun k _ hk => setL_other (by simpa using hk) _ _ _⟩
      have hw4 : Wsu lo n₀ w3 (setL w3 b (j * 14) [.string ⟨#[119, 114, 105, 116, 116, 101, 110]⟩, .int .u8 77, .bool false, .int .u8 0, .bool false, .bool false, .string ⟨#[]⟩, .bool false, .string ⟨#[]⟩, .int .i64 0, .int .i64 0, .bool false, .bool false, .slice none 0 0]) := by
        refine Wsu.one hb1 hb2 hgr (Nat.le_trans hlo HST3.out.below.size) HB3.out q1 q2 (fun i => ?_)
        by_cases hij : i = j
        · subst hij
          exact .inr (q3 13 (by simp))
        · exact .inl (q4 _ (by simp; omega))
      refine ⟨⟨j + 1, by omega, by simp, HST3.out.trans hw4⟩, by simp only [intOf]; omega⟩
    · have hjn : j = n := by omega
      have hblk : ∃ cs, lo ≤ b ∧ b < n₀ ∧ Blk wr b 48 cs ∧ cs.size = c * 14 := by
        cases hwf2 with
        | row A C cs h1 h2 hB hz hlc hc hin => exact ⟨cs, h1, h2, hB, hz⟩
      obtain ⟨cs3, hb1, hb2, hB3, hz3⟩ := hblk
      obtain ⟨i, hi, hz, hsz', hby⟩ := info_parts info57
      have hb4 := (Below.refl wr.heap.size wr).alloc (Nat.le_refl _) (.cells news78.toArray 48)
      have hat := news78_at wr
      have hB4 := hB3.old hb4
      have hz4 := hb4.size
      have HB3 : Hid (Blk wr b 48 cs3) := hB3
      have HB4 : Hid (Below wr.heap.size wr (wr.alloc (.cells news78.toArray 48))) := hb4
      have HBB : Hid (Blk (wr.alloc (.cells news78.toArray 48)) b 48 cs3) := hB4
      have HAT : Hid (∀ (j : Nat) u, news78[j]? = some u → (wr.alloc (.cells news78.toArray 48)).cell? ((⟨wr.heap.size, 0, none⟩ : Addr).add j) = some u) := hat
      clear hwf2 hB3 hB4 hjn hb4 hat
      obtain ⟨W4, hW4⟩ : ∃ W4, wr.alloc (.cells news78.toArray 48) = W4 := ⟨_, rfl⟩
      rw [hW4] at HB4 HBB HAT hz4
      by_cases hroom : n < c
      · unfold news78 at hW4
        go_upto_region 6 with (first | (at_builtin; (try rw [hW4]); refine wpList_append_room_f rfl _ _ rfl b n c cs3 rfl (by omega) HBB.out hz3 wr.heap.size 1 rfl HAT.out ?_; intro w7 cur hh hcz hcc h2))
        have hw7 : Wsu lo n₀ wr w7 := (Wsu.of HB4.out (by omega)).trans (Wsu.one hb1 hb2 h2 (Nat.le_trans (by omega) HB4.out.size) HBB.out hh hcz hcc)
        have HW7 : Hid (Wsu lo n₀ w w7) := HST.out.trans hw7
        have hcz' : cur.size = c * 14 := hcz.trans hz3
        obtain ⟨v0, k0⟩ : ∃ v, w7.cell? ⟨b, n * 14, none⟩ = some v := ⟨_, (hh.cell _).trans (Array.getElem?_eq_getElem (by rw [hcz']; omega))⟩
        have kf : w7.frozen? ⟨b, n * 14, none⟩ = false := hh.frozen _
        have HH : Hid (Blk w7 b 48 cur) := hh
        have e1 : ((n + 1 : Nat) : Int) - 1 = (n : Int) := by omega
        have hn1 : (n : Int) < ((n + 1 : Nat) : Int) := by omega
        clear h2 hw7 HB4 hh hcc HAT HBB hW4 hcz hcz'
        go_wp2_with fail
        refine ⟨rfl, _, by simp [results, Tryz.results17], rfl, HW7.out.trans ?_⟩
        have hS := HH.out.set (n * 14) (.string ⟨#[98, 101, 104, 105, 110, 100]⟩)
        refine Wsu.one hb1 hb2 ⟨rfl, rfl, rfl, by simp [World.setCell], fun k _ hk => Below.heap_setCell w7 ⟨b, n * 14, none⟩ _ k (by simpa using hk)⟩ (Nat.le_trans hlo HW7.out.below.size) HH.out hS (by simp) (fun k => .inl ?_)
        rw [Array.getElem?_setIfInBounds, if_neg (by omega)]
      · have hnc2 : c < n + 1 := by omega
        have hol : (cs3.toList.take (n * 14)).length = n * 14 := by rw [List.length_take, Array.length_toList, hz3]; omega
        have HOL : Hid (∀ ba, some (⟨b, 0, none⟩ : Addr) = some ba → ∀ j u, (cs3.toList.take (n * 14))[j]? = some u → W4.cell? (ba.add j) = some u) := fun ba e j u hu => by
          cases e
          have hj : j < n * 14 := by have := (List.getElem?_eq_some_iff.1 hu).1; omega
          rw [List.getElem?_take_of_lt hj] at hu
          rw [show (⟨b, 0, none⟩ : Addr).add j = ⟨b, j, none⟩ by by_cases hj : j = 0 <;> simp [Addr.add, hj], HBB.out.cell]
          simpa using hu
        unfold news78 at hW4
        go_upto_region 6 with (first | (at_builtin; (try rw [hW4]); refine wpList_append_grows _ rfl _ _ 23 rfl 48 i _ 14 120 Tryz.underlying23 hi hz hsz' hby rfl (by decide) (some ⟨b, 0, none⟩) n c (cs3.toList.take (n * 14)) rfl (fun h => by cases h) hol HOL.out ⟨wr.heap.size, 0, none⟩ 1 1 news78 rfl rfl HAT.out news78_one hnc2 (by unfold maxLen; omega) (by omega) ?_; intro v7 w7 h1 h2))
        rcases h1.2 with ⟨_, hbad⟩ | ⟨g, cap, cur, rfl, hg, hh, hc1, hc2, hc3, hc4⟩
        · omega
        have k0 : ∃ v, w7.cell? ⟨g, n * 14, none⟩ = some v := by
          have hq : w7.cell? ⟨g, n * 14, none⟩ = cur[n * 14]? := by simp [World.cell?, hh]
          exact ⟨_, hq.trans (Array.getElem?_eq_getElem (by rw [hc3]; omega))⟩
        obtain ⟨v0, k0⟩ := k0
        have kf : w7.frozen? ⟨g, n * 14, none⟩ = false := by simp [World.frozen?, hh]
        have hb7 : Below W4.heap.size W4 w7 := ⟨h2.os, h2.tape, h2.output, h2.size, fun k hk => h2.block k hk (by simp)⟩
        have hb47 : Below wr.heap.size wr w7 := HB4.out.trans (hb7.mono HB4.out.size)
        have HGG : Hid (Below wr.heap.size wr (w7.setCell ⟨g, n * 14, none⟩ (.string ⟨#[98, 101, 104, 105, 110, 100]⟩))) := hb47.setCell (p := ⟨g, n * 14, none⟩) (show wr.heap.size ≤ g by omega) _
        have e1 : ((n + 1 : Nat) : Int) - 1 = (n : Int) := by omega
        have hn1 : (n : Int) < ((n + 1 : Nat) : Int) := by omega
        clear h1 h2 hh hc4 HB4 HBB HAT HOL hol hW4 hb7 hb47
        go_wp2_with fail
        exact ⟨rfl, _, by simp [results, Tryz.results17], rfl, HST.out.trans (Wsu.of HGG.out (by omega))⟩
theorem writeu_fld : ∀ f : Fld, WuOk f.fields := fun f => by
  induction f using Fld.ind with
  | h o l ih => exact writeu_step l ih
theorem writeu_any (l : List Fld) : WuOk l := writeu_step l fun x _ => writeu_fld x
def pE : Except (Int × Int × List Int) (Int × List Fld) → Int × List Fld × Int × Int × List Int
  | .error q => (0, [], q.1, q.2.1, q.2.2)
  | .ok q => (q.1, q.2, 0, 0, [])
def EvAt (w : World) (base : Nat) (v : Value) (c m : Int) (P : List Int) : Prop := (c = 0 ∧ m = 0 ∧ P = [] ∧ v = .nilIface) ∨ (c ≠ 0 ∧ FaultAt w base v c m P .nilIface)
theorem EvAt.old {w w' : World} {base : Nat} {v : Value} {c m : Int} {P : List Int} (h : EvAt w base v c m P) (hb : Below w.heap.size w w') : EvAt w' base v c m P := by
  rcases h with h | ⟨h1, F, a, cc, h2, h3, h4, h5, h6⟩
  · exact .inl h
  · exact .inr ⟨h1, F, a, cc, h2, h3, h4.old hb, own_after h5 hb, h6⟩
theorem FT.old {w w' : World} {lo : Nat} {x : Option Nat} {l : List Fld} {a : Option Addr} {c : Nat} (h : FT w lo x l a c) (hb : Below w.heap.size w w') : FT w' lo x l a c := h.keep fun b _ _ hh => hb.block b hh.lt
theorem parseS_code {s : List UInt8} {q : Int × Int × List Int} (h : parseS s = .error q) : q.1 ≠ 0 ∧ q.2.2.length ≤ 17 := by
  unfold parseS at h
  split at h
  · cases h; exact ⟨by simp, by simp⟩
  · unfold afterS at h
    split at h
    · cases h; exact ⟨by simp, by simp⟩
    · rename_i r hr
      split at h
      · split at h
        · cases h; exact ⟨by simp, by simp⟩
        · cases h
      · rename_i hc
        cases h
        exact ⟨hc, chkS_len _ _ _⟩
theorem parsed_fit {s : List UInt8} {limit : Int} {l : List Fld} (h : parseS s = .ok (limit, l)) : (chkS bndQ limit l).1 = 0 ∧ (prnS limit l).length ≤ 65536 ∧ (∀ x ∈ l, FitsF 17179869184 x) ∧ l.length ≤ 17179869184 := by
  unfold parseS at h
  split at h
  · cases h
  · rename_i hl
    cases hq : schemaP (1 + ((linesL s).length : Int)) (lnF 1 (linesL s)) [] with
    | error m => rw [hq] at h; cases h
    | ok q =>
      have hr := read_ok s (by omega) q hq
      rw [hq] at h
      simp only [afterS] at h
      split at h
      · rename_i hc
        split at h
        · cases h
        · rename_i hp
          cases h
          exact ⟨hc, by omega, hr.fit, hr.len⟩
      · cases h
theorem parseS_fit {s : List UInt8} {z : Int} {l : List Fld} {c m : Int} {P : List Int} (h : pE (parseS s) = (z, l, c, m, P)) : (∀ x ∈ l, FitsF 17179869184 x) ∧ l.length ≤ 17179869184 ∧ P.length ≤ 17 := by
  cases hr : parseS s with
  | error q =>
    rw [hr] at h
    cases h
    exact ⟨fun x hx => (by cases hx), Nat.zero_le _, (parseS_code hr).2⟩
  | ok q =>
    obtain ⟨q1, q2⟩ := q
    rw [hr] at h
    cases h
    obtain ⟨_, _, h3, h4⟩ := parsed_fit hr
    exact ⟨h3, h4, by simp⟩
theorem par_u (s : List UInt8) (w : World) (hE : Env w) {z : Int} {l : List Fld} {c m : Int} {P : List Int} (h : pE (parseS s) = (z, l, c, m, P)) :
    Calls Tryz.prog 27 #[.string (bs s)] w fun e w' => Below w.heap.size w w' ∧ ∃ fa fc v, e = .returned (.tuple #[.agg #[.int .i64 z, .slice fa l.length fc], v]) ∧ l.length ≤ fc ∧ FT w' w.heap.size none l fa fc ∧ EvAt w' w.heap.size v c m P := by
  refine (parse_all s w hE).mono ?_
  cases hr : parseS s with
  | error q =>
    rw [hr] at h
    cases h
    rintro e w' ⟨hb, v, rfl, hF⟩
    exact ⟨hb, none, 0, v, rfl, Nat.le_refl _, .nil, .inr ⟨(parseS_code hr).1, hF⟩⟩
  | ok q =>
    obtain ⟨q1, q2⟩ := q
    rw [hr] at h
    cases h
    rintro e w' ⟨hb, fa, fc, rfl, h1, _, h2⟩
    exact ⟨hb, fa, fc, _, rfl, h1, h2, .inl ⟨rfl, rfl, rfl, rfl⟩⟩
theorem rpar_u (s : List UInt8) (w : World) {z : Int} {l : List Fld} {c m : Int} {P : List Int} (h : pE (parseS s) = (z, l, c, m, P)) :
    Calls Tryz.prog 26 #[.string (bs s)] w fun e w' => Below w.heap.size w w' ∧ ∃ fa fc pa pc, e = .returned (.tuple #[.agg #[.int .i64 z, .slice fa l.length fc], .agg #[.int .i64 c, .int .i64 m, .slice pa P.length pc]]) ∧ l.length ≤ fc ∧ FT w' w.heap.size none l fa fc ∧ IOwn w' w.heap.size (.slice pa P.length pc) P := by
  refine (rparse_s s w).mono ?_
  cases hr : parseS s with
  | error q =>
    rw [hr] at h
    cases h
    rintro e w' ⟨hb, pa, pc, rfl, hF⟩
    exact ⟨hb, none, 0, pa, pc, rfl, Nat.le_refl _, .nil, hF⟩
  | ok q =>
    obtain ⟨q1, q2⟩ := q
    rw [hr] at h
    cases h
    rintro e w' ⟨hb, fa, fc, pa, pc, rfl, h1, h2, h3⟩
    exact ⟨hb, fa, fc, pa, pc, rfl, h1, h2, h3⟩
theorem is_u (w : World) (base base2 : Nat) (v : Value) (c m : Int) (P : List Int) (hev : EvAt w base v c m P) (hP : P.length ≤ 17) (pa : Option Addr) (pc : Nat) (hp : IOwn w base2 (.slice pa P.length pc) P) (hT : ErrT w) :
    Calls Tryz.prog 14 #[v, .agg #[.int .i64 c, .int .i64 m, .slice pa P.length pc]] w fun e w' => e = .returned (.bool true) ∧ Below w.heap.size w w' := by
  rcases hev with ⟨rfl, rfl, rfl, rfl⟩ | ⟨h1, F, a, cc, rfl, h3, h4, h5, h6⟩
  · exact keepIs_none _ w pa 0 pc rfl
  · exact keepIs_path F c m _ _ P (by omega) w h1 hT (h4.cell 0) (h4.cell 1) (h4.cell 2) h5.ints hp.ints
theorem kp {A B C : World} (h : Hid (Below A.heap.size A B)) (k : Below B.heap.size B C) : Hid (Below A.heap.size A C) := h.out.trans (k.mono h.out.size)
set_option maxHeartbeats 8000000 in
set_option maxRecDepth 20000 in
theorem schemaParses_any (s t : List UInt8) (w : World) (hE : Env w) (hT : ErrT w) :
    Calls Tryz.prog 7 #[.string (bs s), .string (bs t)] w fun e w' => e = .returned (.bool true) ∧ Below w.heap.size w w' := by
  obtain ⟨z, l, c, m, P, hs⟩ : ∃ z l c m P, pE (parseS s) = (z, l, c, m, P) := ⟨_, _, _, _, _, rfl⟩
  obtain ⟨zt, lt, ct, mt, Q, ht⟩ : ∃ z l c m P, pE (parseS t) = (z, l, c, m, P) := ⟨_, _, _, _, _, rfl⟩
  have HS : Hid (pE (parseS s) = (z, l, c, m, P)) := hs
  have HT : Hid (pE (parseS t) = (zt, lt, ct, mt, Q)) := ht
  have HFS : Hid _ := parseS_fit hs
  have HFT : Hid _ := parseS_fit ht
  have h0lt : 0 < w.heap.size := World.block_lt_of_cell? w _ hT
  have HTE : Hid (∀ W, Below w.heap.size w W → Env W ∧ ErrT W) := fun W h => ⟨hE.old h, (h.cell (p := ⟨0, 0, none⟩) h0lt).trans hT⟩
  clear hs ht
  have ha := awake_any w hE
  clear hE hT
  go_enter Tryz.func7, Tryz.ntmps7
  go_wp2_with fail
  refine ha.mono ?_
  clear ha
  rintro _ w1 ⟨rfl, hb1⟩
  have K_w_w1 : Hid (Below w.heap.size w w1) := hb1
  clear hb1
  have pn := rpar_u s w1 HS.out
  go_wp2_with fail
  refine pn.mono ?_
  clear pn
  rintro _ w2 ⟨hb, f1, g1, p1, q1, rfl, hf1, hft, hip⟩
  have FD1 : Hid (FT w2 w1.heap.size none l f1 g1) := hft
  have IP1 : Hid (IOwn w2 w1.heap.size (.slice p1 P.length q1) P) := hip
  clear hft hip
  have K_w_w2 := kp K_w_w1 hb
  clear K_w_w1
  have K_w2_w2 : Hid (Below w2.heap.size w2 w2) := Below.refl _ _
  clear hb
  go_upto_region 3 with fail
  have hA := (Below.refl w2.heap.size w2).alloc (Nat.le_refl _) (.cells #[.int .i64 z, .slice f1 l.length g1] 25)
  have hN1 := Blk.new w2 25 #[.int .i64 z, .slice f1 l.length g1]
  have hsz := alloc_size w2 (.cells #[.int .i64 z, .slice f1 l.length g1] 25)
  have hA2 := (Below.refl (w2.alloc (.cells #[.int .i64 z, .slice f1 l.length g1] 25)).heap.size (w2.alloc (.cells #[.int .i64 z, .slice f1 l.length g1] 25))).alloc (Nat.le_refl _) (.cells #[.int .i64 c, .int .i64 m, .slice p1 P.length q1] 31)
  have hN2 := Blk.new (w2.alloc (.cells #[.int .i64 z, .slice f1 l.length g1] 25)) 31 #[.int .i64 c, .int .i64 m, .slice p1 P.length q1]
  rw [hsz] at hN2
  have X_w3 : Hid (Blk ((w2.alloc (.cells #[.int .i64 z, .slice f1 l.length g1] 25)).alloc (.cells #[.int .i64 c, .int .i64 m, .slice p1 P.length q1] 31)) w2.heap.size 25 #[.int .i64 z, .slice f1 l.length g1]) := hN1.old hA2
  have Y_w3 : Hid (Blk ((w2.alloc (.cells #[.int .i64 z, .slice f1 l.length g1] 25)).alloc (.cells #[.int .i64 c, .int .i64 m, .slice p1 P.length q1] 31)) (w2.heap.size + 1) 31 #[.int .i64 c, .int .i64 m, .slice p1 P.length q1]) := hN2
  have hAA := hA.trans (hA2.mono hA.size)
  try simp only [hsz]
  clear hN1 hN2 hA hA2 hsz
  generalize (w2.alloc (.cells #[.int .i64 z, .slice f1 l.length g1] 25)).alloc (.cells #[.int .i64 c, .int .i64 m, .slice p1 P.length q1] 31) = w3 at *
  have K_w_w3 := kp K_w_w2 hAA
  have HW23b : Hid (Below w2.heap.size w2 w3) := K_w2_w2.out.trans (hAA.mono K_w2_w2.out.size)
  have HW23 : Hid (w2.heap.size ≤ w3.heap.size) := HW23b.out.size
  have K_w2_w3 := kp K_w2_w2 hAA
  clear K_w_w2 K_w2_w2
  have K_w3_w3 : Hid (Below w3.heap.size w3 w3) := Below.refl _ _
  clear hAA
  have pn := rpar_u t w3 HT.out
  go_wp2_with fail
  refine pn.mono ?_
  clear pn
  rintro _ w4 ⟨hb, f2, g2, p2, q2, rfl, hf2, hft, hip⟩
  have FD2 : Hid (FT w4 w3.heap.size none lt f2 g2) := hft
  have IP2 : Hid (IOwn w4 w3.heap.size (.slice p2 Q.length q2) Q) := hip
  clear hft hip
  have K_w_w4 := kp K_w_w3 hb
  have K_w2_w4 := kp K_w2_w3 hb
  have K_w3_w4 := kp K_w3_w3 hb
  clear K_w_w3 K_w2_w3 K_w3_w3
  have K_w4_w4 : Hid (Below w4.heap.size w4 w4) := Below.refl _ _
  clear hb
  go_upto_region 4 with fail
  have hA := (Below.refl w4.heap.size w4).alloc (Nat.le_refl _) (.cells #[.int .i64 zt, .slice f2 lt.length g2] 25)
  have hN1 := Blk.new w4 25 #[.int .i64 zt, .slice f2 lt.length g2]
  have hsz := alloc_size w4 (.cells #[.int .i64 zt, .slice f2 lt.length g2] 25)
  have hA2 := (Below.refl (w4.alloc (.cells #[.int .i64 zt, .slice f2 lt.length g2] 25)).heap.size (w4.alloc (.cells #[.int .i64 zt, .slice f2 lt.length g2] 25))).alloc (Nat.le_refl _) (.cells #[.int .i64 ct, .int .i64 mt, .slice p2 Q.length q2] 31)
  have hN2 := Blk.new (w4.alloc (.cells #[.int .i64 zt, .slice f2 lt.length g2] 25)) 31 #[.int .i64 ct, .int .i64 mt, .slice p2 Q.length q2]
  rw [hsz] at hN2
  have X_w5 : Hid (Blk ((w4.alloc (.cells #[.int .i64 zt, .slice f2 lt.length g2] 25)).alloc (.cells #[.int .i64 ct, .int .i64 mt, .slice p2 Q.length q2] 31)) w4.heap.size 25 #[.int .i64 zt, .slice f2 lt.length g2]) := hN1.old hA2
  have Y_w5 : Hid (Blk ((w4.alloc (.cells #[.int .i64 zt, .slice f2 lt.length g2] 25)).alloc (.cells #[.int .i64 ct, .int .i64 mt, .slice p2 Q.length q2] 31)) (w4.heap.size + 1) 31 #[.int .i64 ct, .int .i64 mt, .slice p2 Q.length q2]) := hN2
  have hAA := hA.trans (hA2.mono hA.size)
  try simp only [hsz]
  clear hN1 hN2 hA hA2 hsz
  generalize (w4.alloc (.cells #[.int .i64 zt, .slice f2 lt.length g2] 25)).alloc (.cells #[.int .i64 ct, .int .i64 mt, .slice p2 Q.length q2] 31) = w5 at *
  have K_w_w5 := kp K_w_w4 hAA
  have K_w2_w5 := kp K_w2_w4 hAA
  have K_w3_w5 := kp K_w3_w4 hAA
  have K_w4_w5 := kp K_w4_w4 hAA
  clear K_w_w4 K_w2_w4 K_w3_w4 K_w4_w4
  have K_w5_w5 : Hid (Below w5.heap.size w5 w5) := Below.refl _ _
  clear hAA
  have pn := par_u s w5 (HTE.out _ K_w_w5.out).1 HS.out
  go_wp2_with fail
  refine pn.mono ?_
  clear pn
  rintro _ w6 ⟨hb, f3, g3, v3, rfl, hf3, hft, hev⟩
  have K_w_w5_keep : Hid (Below w.heap.size w w5) := K_w_w5
  have HW35 : Hid (w3.heap.size ≤ w5.heap.size) := K_w3_w5.out.size
  have FD3 : Hid (FT w6 w5.heap.size none l f3 g3) := hft
  have EV3 : Hid (EvAt w6 w5.heap.size v3 c m P) := hev
  have HZ3 : Hid (w5.heap.size ≤ w6.heap.size) := hb.size
  clear hft hev
  have K_w_w6 := kp K_w_w5 hb
  have K_w2_w6 := kp K_w2_w5 hb
  have K_w3_w6 := kp K_w3_w5 hb
  have K_w4_w6 := kp K_w4_w5 hb
  have K_w5_w6 := kp K_w5_w5 hb
  clear K_w_w5 K_w2_w5 K_w3_w5 K_w4_w5 K_w5_w5
  have K_w6_w6 : Hid (Below w6.heap.size w6 w6) := Below.refl _ _
  clear hb
  go_upto_region 5 with fail
  have hA := (Below.refl w6.heap.size w6).alloc (Nat.le_refl _) (.cells #[.int .i64 z, .slice f3 l.length g3] 25)
  have X_w7 : Hid (Blk (w6.alloc (.cells #[.int .i64 z, .slice f3 l.length g3] 25)) w6.heap.size 25 #[.int .i64 z, .slice f3 l.length g3]) := Blk.new w6 25 #[.int .i64 z, .slice f3 l.length g3]
  generalize w6.alloc (.cells #[.int .i64 z, .slice f3 l.length g3] 25) = w7 at *
  have K_w_w7 := kp K_w_w6 hA
  have K_w2_w7 := kp K_w2_w6 hA
  have K_w3_w7 := kp K_w3_w6 hA
  have K_w4_w7 := kp K_w4_w6 hA
  have K_w5_w7 := kp K_w5_w6 hA
  have K_w6_w7 := kp K_w6_w6 hA
  clear K_w_w6 K_w2_w6 K_w3_w6 K_w4_w6 K_w5_w6 K_w6_w6
  have K_w7_w7 : Hid (Below w7.heap.size w7 w7) := Below.refl _ _
  clear hA
  have pn := par_u t w7 (HTE.out _ K_w_w7.out).1 HT.out
  go_wp2_with fail
  refine pn.mono ?_
  clear pn
  rintro _ w8 ⟨hb, f4, g4, v4, rfl, hf4, hft, hev⟩
  have FD4 : Hid (FT w8 w7.heap.size none lt f4 g4) := hft
  have EV4 : Hid (EvAt w8 w7.heap.size v4 ct mt Q) := hev
  have HZ4 : Hid (w7.heap.size ≤ w8.heap.size) := hb.size
  clear hft hev
  have K_w_w8 := kp K_w_w7 hb
  have K_w2_w8 := kp K_w2_w7 hb
  have K_w3_w8 := kp K_w3_w7 hb
  have K_w4_w8 := kp K_w4_w7 hb
  have K_w5_w8 := kp K_w5_w7 hb
  have K_w6_w8 := kp K_w6_w7 hb
  have K_w7_w8 := kp K_w7_w7 hb
  clear K_w_w7 K_w2_w7 K_w3_w7 K_w4_w7 K_w5_w7 K_w6_w7 K_w7_w7
  have K_w8_w8 : Hid (Below w8.heap.size w8 w8) := Below.refl _ _
  clear hb
  go_upto_region 6 with fail
  have hA := (Below.refl w8.heap.size w8).alloc (Nat.le_refl _) (.cells #[.int .i64 zt, .slice f4 lt.length g4] 25)
  have X_w9 : Hid (Blk (w8.alloc (.cells #[.int .i64 zt, .slice f4 lt.length g4] 25)) w8.heap.size 25 #[.int .i64 zt, .slice f4 lt.length g4]) := Blk.new w8 25 #[.int .i64 zt, .slice f4 lt.length g4]
  generalize w8.alloc (.cells #[.int .i64 zt, .slice f4 lt.length g4] 25) = w9 at *
  have K_w_w9 := kp K_w_w8 hA
  have K_w2_w9 := kp K_w2_w8 hA
  have K_w3_w9 := kp K_w3_w8 hA
  have K_w4_w9 := kp K_w4_w8 hA
  have K_w5_w9 := kp K_w5_w8 hA
  have K_w6_w9 := kp K_w6_w8 hA
  have K_w7_w9 := kp K_w7_w8 hA
  have K_w8_w9 := kp K_w8_w8 hA
  clear K_w_w8 K_w2_w8 K_w3_w8 K_w4_w8 K_w5_w8 K_w6_w8 K_w7_w8 K_w8_w8
  have K_w9_w9 : Hid (Below w9.heap.size w9 w9) := Below.refl _ _
  clear hA
  have pn := par_u s w9 (HTE.out _ K_w_w9.out).1 HS.out
  go_wp2_with fail
  refine pn.mono ?_
  clear pn
  rintro _ w10 ⟨hb, f5, g5, v5, rfl, hf5, hft, hev⟩
  have HW69 : Hid (w6.heap.size ≤ w9.heap.size) := K_w6_w9.out.size
  have FD5 : Hid (FT w10 w9.heap.size none l f5 g5) := hft
  have EV5 : Hid (EvAt w10 w9.heap.size v5 c m P) := hev
  have HZ5 : Hid (w9.heap.size ≤ w10.heap.size) := hb.size
  clear hft hev
  have K_w_w10 := kp K_w_w9 hb
  have K_w2_w10 := kp K_w2_w9 hb
  have K_w3_w10 := kp K_w3_w9 hb
  have K_w4_w10 := kp K_w4_w9 hb
  have K_w5_w10 := kp K_w5_w9 hb
  have K_w6_w10 := kp K_w6_w9 hb
  have K_w7_w10 := kp K_w7_w9 hb
  have K_w8_w10 := kp K_w8_w9 hb
  have K_w9_w10 := kp K_w9_w9 hb
  clear K_w_w9 K_w2_w9 K_w3_w9 K_w4_w9 K_w5_w9 K_w6_w9 K_w7_w9 K_w8_w9 K_w9_w9
  have K_w10_w10 : Hid (Below w10.heap.size w10 w10) := Below.refl _ _
  clear hb
  go_upto_region 7 with fail
  have hA := (Below.refl w10.heap.size w10).alloc (Nat.le_refl _) (.cells #[.int .i64 z, .slice f5 l.length g5] 25)
  have X_w11 : Hid (Blk (w10.alloc (.cells #[.int .i64 z, .slice f5 l.length g5] 25)) w10.heap.size 25 #[.int .i64 z, .slice f5 l.length g5]) := Blk.new w10 25 #[.int .i64 z, .slice f5 l.length g5]
  generalize w10.alloc (.cells #[.int .i64 z, .slice f5 l.length g5] 25) = w11 at *
  have K_w_w11 := kp K_w_w10 hA
  have K_w2_w11 := kp K_w2_w10 hA
  have K_w3_w11 := kp K_w3_w10 hA
  have K_w4_w11 := kp K_w4_w10 hA
  have K_w5_w11 := kp K_w5_w10 hA
  have K_w6_w11 := kp K_w6_w10 hA
  have K_w7_w11 := kp K_w7_w10 hA
  have K_w8_w11 := kp K_w8_w10 hA
  have K_w9_w11 := kp K_w9_w10 hA
  have HW1011 : Hid (Below w10.heap.size w10 w11) := K_w10_w10.out.trans (hA.mono K_w10_w10.out.size)
  have HW614 : Hid (w6.heap.size ≤ w10.heap.size) := K_w6_w10.out.size
  have K_w10_w11 := kp K_w10_w10 hA
  clear K_w_w10 K_w2_w10 K_w3_w10 K_w4_w10 K_w5_w10 K_w6_w10 K_w7_w10 K_w8_w10 K_w9_w10 K_w10_w10
  have K_w11_w11 : Hid (Below w11.heap.size w11 w11) := Below.refl _ _
  clear hA
  have y0 : w11.cell? ⟨w2.heap.size + 1, 0, none⟩ = some (.int .i64 c) := (Y_w3.out.old K_w3_w11.out).cell 0
  have y1 : w11.cell? ⟨w2.heap.size + 1, 1, none⟩ = some (.int .i64 m) := (Y_w3.out.old K_w3_w11.out).cell 1
  have y2 : w11.cell? ⟨w2.heap.size + 1, 2, none⟩ = some (.slice p1 P.length q1) := (Y_w3.out.old K_w3_w11.out).cell 2
  have pn := is_u w11 _ _ v3 c m P (EV3.out.old K_w6_w11.out) HFS.out.2.2 p1 q1 (own_after IP1.out K_w2_w11.out) (HTE.out _ K_w_w11.out).2
  go_wp2_with fail
  refine pn.mono ?_
  clear pn
  rintro _ w12 ⟨rfl, hb⟩
  clear y0 y1 y2
  have K_w_w12 := kp K_w_w11 hb
  have K_w2_w12 := kp K_w2_w11 hb
  have K_w3_w12 := kp K_w3_w11 hb
  have K_w4_w12 := kp K_w4_w11 hb
  have K_w5_w12 := kp K_w5_w11 hb
  have K_w6_w12 := kp K_w6_w11 hb
  have K_w7_w12 := kp K_w7_w11 hb
  have K_w8_w12 := kp K_w8_w11 hb
  have K_w9_w12 := kp K_w9_w11 hb
  have K_w10_w12 := kp K_w10_w11 hb
  have K_w11_w12 := kp K_w11_w11 hb
  clear K_w_w11 K_w2_w11 K_w3_w11 K_w4_w11 K_w5_w11 K_w6_w11 K_w7_w11 K_w8_w11 K_w9_w11 K_w10_w11 K_w11_w11
  clear hb
  have y0 : w12.cell? ⟨w4.heap.size + 1, 0, none⟩ = some (.int .i64 ct) := (Y_w5.out.old K_w5_w12.out).cell 0
  have y1 : w12.cell? ⟨w4.heap.size + 1, 1, none⟩ = some (.int .i64 mt) := (Y_w5.out.old K_w5_w12.out).cell 1
  have y2 : w12.cell? ⟨w4.heap.size + 1, 2, none⟩ = some (.slice p2 Q.length q2) := (Y_w5.out.old K_w5_w12.out).cell 2
  have pn := is_u w12 _ _ v4 ct mt Q (EV4.out.old K_w8_w12.out) HFT.out.2.2 p2 q2 (own_after IP2.out K_w4_w12.out) (HTE.out _ K_w_w12.out).2
  go_wp2_with fail
  refine pn.mono ?_
  clear pn
  rintro _ w13 ⟨rfl, hb⟩
  clear y0 y1 y2
  have K_w_w13 := kp K_w_w12 hb
  have K_w2_w13 := kp K_w2_w12 hb
  have K_w3_w13 := kp K_w3_w12 hb
  have K_w4_w13 := kp K_w4_w12 hb
  have K_w5_w13 := kp K_w5_w12 hb
  have K_w6_w13 := kp K_w6_w12 hb
  have K_w7_w13 := kp K_w7_w12 hb
  have K_w8_w13 := kp K_w8_w12 hb
  have K_w9_w13 := kp K_w9_w12 hb
  have K_w10_w13 := kp K_w10_w12 hb
  have K_w11_w13 := kp K_w11_w12 hb
  clear K_w_w12 K_w2_w12 K_w3_w12 K_w4_w12 K_w5_w12 K_w6_w12 K_w7_w12 K_w8_w12 K_w9_w12 K_w10_w12 K_w11_w12
  clear hb
  have y0 : w13.cell? ⟨w2.heap.size + 1, 0, none⟩ = some (.int .i64 c) := (Y_w3.out.old K_w3_w13.out).cell 0
  have y1 : w13.cell? ⟨w2.heap.size + 1, 1, none⟩ = some (.int .i64 m) := (Y_w3.out.old K_w3_w13.out).cell 1
  have y2 : w13.cell? ⟨w2.heap.size + 1, 2, none⟩ = some (.slice p1 P.length q1) := (Y_w3.out.old K_w3_w13.out).cell 2
  have pn := is_u w13 _ _ v5 c m P (EV5.out.old K_w10_w13.out) HFS.out.2.2 p1 q1 (own_after IP1.out K_w2_w13.out) (HTE.out _ K_w_w13.out).2
  go_wp2_with fail
  refine pn.mono ?_
  clear pn
  rintro _ w14 ⟨rfl, hb⟩
  clear y0 y1 y2
  have K_w_w14 := kp K_w_w13 hb
  have K_w2_w14 := kp K_w2_w13 hb
  have K_w3_w14 := kp K_w3_w13 hb
  have K_w4_w14 := kp K_w4_w13 hb
  have K_w5_w14 := kp K_w5_w13 hb
  have K_w6_w14 := kp K_w6_w13 hb
  have K_w7_w14 := kp K_w7_w13 hb
  have K_w8_w14 := kp K_w8_w13 hb
  have K_w9_w14 := kp K_w9_w13 hb
  have K_w10_w14 := kp K_w10_w13 hb
  have K_w11_w14 := kp K_w11_w13 hb
  clear K_w_w13 K_w2_w13 K_w3_w13 K_w4_w13 K_w5_w13 K_w6_w13 K_w7_w13 K_w8_w13 K_w9_w13 K_w10_w13 K_w11_w13
  clear hb
  have x1 : w14.cell? ⟨w6.heap.size, 1, none⟩ = some (.slice f3 l.length g3) := (X_w7.out.old K_w7_w14.out).cell 1
  have x2 : w14.cell? ⟨w2.heap.size, 1, none⟩ = some (.slice f1 l.length g1) := (X_w3.out.old K_w3_w14.out).cell 1
  have pn := sameFields_any l f3 f1 g3 g1 _ _ _ _ w14 (FD3.out.old K_w6_w14.out).fin (FD1.out.old K_w2_w14.out).fin (Nat.le_refl _) (Nat.le_refl _) HFS.out.2.1 HFS.out.1
  go_wp2_with fail
  refine pn.mono ?_
  clear pn
  rintro _ w15 ⟨rfl, hb⟩
  clear x1 x2
  have K_w_w15 := kp K_w_w14 hb
  have K_w2_w15 := kp K_w2_w14 hb
  have K_w3_w15 := kp K_w3_w14 hb
  have K_w4_w15 := kp K_w4_w14 hb
  have K_w5_w15 := kp K_w5_w14 hb
  have K_w6_w15 := kp K_w6_w14 hb
  have K_w7_w15 := kp K_w7_w14 hb
  have K_w8_w15 := kp K_w8_w14 hb
  have K_w9_w15 := kp K_w9_w14 hb
  have K_w10_w15 := kp K_w10_w14 hb
  have K_w11_w15 := kp K_w11_w14 hb
  clear K_w_w14 K_w2_w14 K_w3_w14 K_w4_w14 K_w5_w14 K_w6_w14 K_w7_w14 K_w8_w14 K_w9_w14 K_w10_w14 K_w11_w14
  clear hb
  have x1 : w15.cell? ⟨w8.heap.size, 1, none⟩ = some (.slice f4 lt.length g4) := (X_w9.out.old K_w9_w15.out).cell 1
  have x2 : w15.cell? ⟨w4.heap.size, 1, none⟩ = some (.slice f2 lt.length g2) := (X_w5.out.old K_w5_w15.out).cell 1
  have pn := sameFields_any lt f4 f2 g4 g2 _ _ _ _ w15 (FD4.out.old K_w8_w15.out).fin (FD2.out.old K_w4_w15.out).fin (Nat.le_refl _) (Nat.le_refl _) HFT.out.2.1 HFT.out.1
  go_wp2_with fail
  refine pn.mono ?_
  clear pn
  rintro _ w16 ⟨rfl, hb⟩
  clear x1 x2
  have K_w_w16 := kp K_w_w15 hb
  have K_w2_w16 := kp K_w2_w15 hb
  have K_w3_w16 := kp K_w3_w15 hb
  have K_w4_w16 := kp K_w4_w15 hb
  have K_w5_w16 := kp K_w5_w15 hb
  have K_w6_w16 := kp K_w6_w15 hb
  have K_w7_w16 := kp K_w7_w15 hb
  have K_w8_w16 := kp K_w8_w15 hb
  have K_w9_w16 := kp K_w9_w15 hb
  have K_w10_w16 := kp K_w10_w15 hb
  have K_w11_w16 := kp K_w11_w15 hb
  clear K_w_w15 K_w2_w15 K_w3_w15 K_w4_w15 K_w5_w15 K_w6_w15 K_w7_w15 K_w8_w15 K_w9_w15 K_w10_w15 K_w11_w15
  clear hb
  have z10 : w16.cell? ⟨w6.heap.size, 0, none⟩ = some (.int .i64 z) := (X_w7.out.old K_w7_w16.out).cell 0
  have z6 : w16.cell? ⟨w2.heap.size, 0, none⟩ = some (.int .i64 z) := (X_w3.out.old K_w3_w16.out).cell 0
  have z12 : w16.cell? ⟨w8.heap.size, 0, none⟩ = some (.int .i64 zt) := (X_w9.out.old K_w9_w16.out).cell 0
  have z8 : w16.cell? ⟨w4.heap.size, 0, none⟩ = some (.int .i64 zt) := (X_w5.out.old K_w5_w16.out).cell 0
  have z14 : w16.cell? ⟨w10.heap.size, 0, none⟩ = some (.int .i64 z) := (X_w11.out.old K_w11_w16.out).cell 0
  have bz : (z != z) = false := by simp
  have bzt : (zt != zt) = false := by simp
  go_upto_region 14 with fail
  clear z10 z6 z12 z8 z14 bz bzt
  have x1 : w16.cell? ⟨w6.heap.size, 1, none⟩ = some (.slice f3 l.length g3) := (X_w7.out.old K_w7_w16.out).cell 1
  have hlo : w5.heap.size ≤ w16.heap.size := Nat.le_trans HZ3.out K_w6_w16.out.size
  have pn := writeu_any l f3 g3 w5.heap.size w6.heap.size w16 (FD3.out.wfu.step (Wsu.of K_w6_w16.out HZ3.out)) K_w6_w16.out.size hlo HFS.out.2.1 HFS.out.1
  go_wp2_with fail
  refine pn.mono ?_
  clear pn
  rintro _ w17 ⟨rfl, hwu⟩
  clear x1
  have hW0 : Below w.heap.size w w17 := K_w_w16.out.trans (hwu.below.mono (Nat.le_trans K_w_w5_keep.out.size (Nat.le_refl _)))
  have q1 : ∀ k, k < w3.heap.size → w17.heap[k]? = w3.heap[k]? := fun k hk => (hwu.below.block k (Nat.lt_of_lt_of_le hk HW35.out)).trans (K_w3_w16.out.block k hk)
  have q2 : ∀ k, w6.heap.size ≤ k → k < w11.heap.size → w17.heap[k]? = w11.heap[k]? := fun k h1 hk => (hwu.above k h1 (Nat.lt_of_lt_of_le hk K_w11_w16.out.size)).trans (K_w11_w16.out.block k hk)
  have X6 : Blk w17 w2.heap.size 25 _ := (q1 _ X_w3.out.lt).trans X_w3.out
  have X14 : Blk w17 w10.heap.size 25 _ := (q2 _ HW614.out X_w11.out.lt).trans X_w11.out
  have F1 : FT w17 w1.heap.size none l f1 g1 := FD1.out.keep fun b _ _ hb => (q1 b (Nat.lt_of_lt_of_le hb.lt HW23.out)).trans (HW23b.out.block b hb.lt)
  have F5 : FT w17 w9.heap.size none l f5 g5 := FD5.out.keep fun b hb0 _ hb => (q2 b (Nat.le_trans HW69.out hb0) (Nat.lt_of_lt_of_le hb.lt HW1011.out.size)).trans (HW1011.out.block b hb.lt)
  have x14 : w17.cell? ⟨w10.heap.size, 1, none⟩ = some (.slice f5 l.length g5) := X14.cell 1
  have x6 : w17.cell? ⟨w2.heap.size, 1, none⟩ = some (.slice f1 l.length g1) := X6.cell 1
  have pn := sameFields_any l f5 f1 g5 g1 _ _ _ _ w17 F5.fin F1.fin (Nat.le_refl _) (Nat.le_refl _) HFS.out.2.1 HFS.out.1
  clear X6 X14 F1 F5 q1 q2 hwu
  go_wp2_with fail
  refine pn.mono ?_
  clear pn
  rintro _ w18 ⟨rfl, hb⟩
  go_wp2_with fail
  go_ret
  exact ⟨rfl, hW0.trans (hb.mono hW0.size)⟩
end Go.Proofs.YtcbjnifoojjipaaGreatDoor
