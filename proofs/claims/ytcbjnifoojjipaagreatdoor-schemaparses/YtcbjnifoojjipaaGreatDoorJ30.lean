/- Contracts and lemmas (nothing is claimed here). -/
import Derived.Test.YtcbjnifoojjipaaGreatDoorJ28
import Derived.Lib.DecodeN
import Derived.Test.YtcbjnifoojjipaaGreatDoorJ2
import Derived.Test.YtcbjnifoojjipaaGreatDoorSByt
import Derived.Test.YtcbjnifoojjipaaGreatDoorJ12
import Derived.Test.YtcbjnifoojjipaaGreatDoorSFlA
import Derived.Test.YtcbjnifoojjipaaGreatDoorJ29
import Derived.Test.YtcbjnifoojjipaaGreatDoorJ27
namespace Go.Proofs.YtcbjnifoojjipaaGreatDoor
open Go.RowKit Go.Vf
theorem decN_hi {n b0 b1 b2 b3 r k : Nat} (h : 128 ≤ b0) (e : Lib.decodeN n b0 b1 b2 b3 = (r, k)) : 128 ≤ r ∧ 1 ≤ k ∧ (k ≤ 1 ∨ (128 ≤ b1 ∧ 1 < n)) ∧ (k ≤ 2 ∨ (128 ≤ b2 ∧ 2 < n)) ∧ (k ≤ 3 ∨ (128 ≤ b3 ∧ 3 < n)) ∧ k ≤ 4 := by
  unfold Lib.decodeN at e
  rw [if_neg (by omega)] at e
  split at e
  · rename_i h1
    split at e <;> (cases e; omega)
  · split at e
    · rename_i h1
      split at e <;> (cases e; omega)
    · split at e
      · rename_i h1
        split at e <;> (cases e; omega)
      · cases e; omega
theorem dec_cases {L : List UInt8} {pos : Nat} (h : pos < L.length) : ∃ r k, Utf8.decode (bs L) pos = (r, k) ∧ 1 ≤ k ∧ pos + k ≤ L.length ∧ ((r = 32 ∧ k = 1 ∧ L[pos] = 32) ∨ (r ≠ 32 ∧ ∀ x ∈ (L.drop pos).take k, x ≠ 32)) := by
  by_cases ha : L[pos].toNat < 128
  · refine ⟨_, _, decode_bs h ha, Nat.le_refl _, by omega, ?_⟩
    by_cases h32 : L[pos] = 32
    · exact .inl ⟨by rw [h32]; rfl, rfl, h32⟩
    · refine .inr ⟨fun e => h32 (UInt8.toNat_inj.1 e), ?_⟩
      intro x hx
      rw [List.drop_eq_getElem_cons h, List.take_succ_cons, List.take_zero] at hx
      rw [List.mem_singleton.1 hx]; exact h32
  · have hd := Lib.decode_N (bs L) pos
    have hl : (bs L).data.toList = L := by simp [bs]
    rw [hl] at hd
    have g0 : L.getD pos 0 = L[pos] := by simp [List.getD_eq_getElem?_getD, h]
    obtain ⟨r, k, hq⟩ : ∃ r k, Utf8.decode (bs L) pos = (r, k) := ⟨_, _, rfl⟩
    rw [hq, g0] at hd
    obtain ⟨h1, h2, h3, h4, h5, h6⟩ := decN_hi (by omega) hd.symm
    refine ⟨r, k, hq, h2, by omega, .inr ⟨by omega, ?_⟩⟩
    intro x hx
    obtain ⟨j, hj, rfl⟩ := List.mem_iff_getElem.1 hx
    have hjk : j < k := by simp at hj; omega
    have hpj : pos + j < L.length := by simp at hj; omega
    have e : ((L.drop pos).take k)[j] = L[pos + j] := by simp
    rw [e]
    have gd : ∀ i, (hi : pos + i < L.length) → L.getD (pos + i) 0 = L[pos + i] := fun i hi => by simp [List.getD_eq_getElem?_getD, hi]
    have key : 128 ≤ (L[pos + j]).toNat := by
      match j, hjk, hpj with
      | 0, _, _ => simpa using (by omega : 128 ≤ (L[pos]).toNat)
      | 1, hjk, hpj => rw [← gd 1 hpj]; omega
      | 2, hjk, hpj => rw [← gd 2 hpj]; omega
      | 3, hjk, hpj => rw [← gd 3 hpj]; omega
      | j + 4, hjk, _ => omega
    intro h32
    rw [h32] at key
    exact absurd key (by decide)
theorem spl_run : ∀ (x r cur : List UInt8), (∀ c ∈ x, c ≠ 32) → spl (x ++ r) cur = spl r (cur ++ x)
  | [], r, cur, _ => by simp
  | c :: x, r, cur, h => by
    rw [List.cons_append, spl, if_neg (h c List.mem_cons_self), spl_run x r (cur ++ [c]) (fun y hy => h y (List.mem_cons_of_mem _ hy))]
    simp
theorem spans_any (L : List UInt8) : ∀ (f pos : Nat) (st : Option Nat) (acc : List (Nat × Nat)), L.length ≤ pos + f → pos ≤ L.length → (∀ a, st = some a → a < pos) →
    (Lib.closeSpans (bs L) (Lib.spansFromP (fun r => r == 32) (bs L) f pos st acc)).map (fun x => ((bs L).extract x.1 x.2).data.toList) = acc.map (fun x => ((bs L).extract x.1 x.2).data.toList) ++ spl (L.drop pos) (match st with | some a => (L.take pos).drop a | none => []) := by
  intro f
  induction f with
  | zero =>
    intro pos st acc h1 h2 h3
    have e : pos = L.length := by omega
    rw [Lib.spansFromP]
    subst e
    rw [List.drop_length, spl]
    cases st with
    | none => simp [Lib.closeSpans]
    | some a =>
      have := h3 a rfl
      have hne : (L.take L.length).drop a ≠ [] := by rw [List.take_length]; intro h; have := congrArg List.length h; simp at this; omega
      show (acc ++ [(a, (bs L).size)]).map _ = _ ++ (if _ = [] then [] else [_])
      rw [if_neg hne, List.map_append, bs_size]
      simp only [List.map_cons, List.map_nil, bs_extract]
  | succ f ih =>
    intro pos st acc h1 h2 h3
    by_cases hp : pos < L.length
    · obtain ⟨r, k, hd, hk1, hk2, hcase⟩ := dec_cases hp
      have hps : pos < (bs L).size := by rw [bs_size]; exact hp
      unfold Lib.spansFromP
      simp only [if_pos hps, hd]
      rcases hcase with ⟨rfl, rfl, hc⟩ | ⟨hr, hx⟩
      · rw [List.drop_eq_getElem_cons hp, hc, spl, if_pos rfl]
        simp only [beq_self_eq_true, if_true]
        cases st with
        | none =>
          rw [if_pos rfl]
          exact ih (pos + 1) none acc (by omega) (by omega) (fun a ha => by cases ha)
        | some a =>
          have ha := h3 a rfl
          have hne : (L.take pos).drop a ≠ [] := by intro h; have := congrArg List.length h; simp at this; omega
          simp only [if_neg hne]
          have := ih (pos + 1) none (acc ++ [(a, pos)]) (by omega) (by omega) (fun a ha => by cases ha)
          refine this.trans ?_
          rw [List.map_append]
          simp only [List.map_cons, List.map_nil, bs_extract, List.append_assoc, List.cons_append, List.nil_append]
      · have hb2 : (r == 32) = false := beq_eq_false_iff_ne.2 hr
        simp only [hb2, Bool.false_eq_true, if_false]
        have hs : L.drop pos = (L.drop pos).take k ++ L.drop (pos + k) := by rw [← List.drop_drop]; exact (List.take_append_drop k (L.drop pos)).symm
        have ht : L.take (pos + k) = L.take pos ++ (L.drop pos).take k := List.take_add
        rw [hs, spl_run _ _ _ hx]
        cases st with
        | none =>
          have := ih (pos + k) (some pos) acc (by omega) (by omega) (fun a ha => by cases ha; omega)
          refine this.trans ?_
          have e : (L.take (pos + k)).drop pos = [] ++ (L.drop pos).take k := by
            rw [ht, List.drop_append_of_le_length (by simp; omega)]; simp
          simp only [e]
        | some a =>
          have ha := h3 a rfl
          have := ih (pos + k) (some a) acc (by omega) (by omega) (fun b hb => by cases hb; omega)
          refine this.trans ?_
          have e : (L.take (pos + k)).drop a = (L.take pos).drop a ++ (L.drop pos).take k := by
            rw [ht, List.drop_append_of_le_length (by simp; omega)]
          simp only [e]
    · have e : pos = L.length := by omega
      have := ih pos st acc (by omega) h2 h3
      rw [Lib.spansFromP_end _ _ _ _ _ _ (by rw [bs_size]; omega)] at this ⊢
      exact this
theorem fields_any (L : List UInt8) : Lib.goFieldsP (fun r => r == 32) (bs L) = (spl L []).map bs := by
  have h : (Lib.goFieldsP (fun r => r == 32) (bs L)).map (fun x => x.data.toList) = spl L [] := by
    unfold Lib.goFieldsP Lib.spansOfP
    have := spans_any L (bs L).size 0 none [] (by rw [bs_size]; omega) (by omega) (fun a ha => by cases ha)
    rw [List.map_map]
    rw [List.map_nil, List.nil_append, List.drop_zero] at this
    exact this
  rw [← h, List.map_map]
  have : (bs ∘ fun x : ByteArray => x.data.toList) = id := by funext x; cases x; simp [bs]
  rw [this, List.map_id]
def splH : List UInt8 → List UInt8 → List (List UInt8)
  | [], cur => if cur = [] then [] else [cur]
  | c :: r, cur => if c = 32 then (if cur = [] then splH r [] else cur :: splH r []) else if c = 35 then (if cur = [] then [] else [cur]) else splH r (cur ++ [c])
theorem cut_nil : (Lib.cut [] [35]).1 = [] := by decide
theorem cut_hash (r : List UInt8) : (Lib.cut (35 :: r) [35]).1 = [] := by
  have h : Lib.indexByte (35 :: r) 35 = 0 := by rw [Lib.indexByte, if_pos (by decide)]
  unfold Lib.cut
  rw [Lib.index_one, h]
  rfl
theorem indexByte_ge (l : List UInt8) : -1 ≤ Lib.indexByte l 35 := by
  induction l with
  | nil => decide
  | cons b l ih =>
    rw [Lib.indexByte]
    split
    · omega
    · split <;> omega
theorem cut_cons {c : UInt8} (hc : c ≠ 35) (r : List UInt8) : (Lib.cut (c :: r) [35]).1 = c :: (Lib.cut r [35]).1 := by
  have hb := indexByte_ge r
  have h : Lib.indexByte (c :: r) 35 = if Lib.indexByte r 35 == -1 then -1 else Lib.indexByte r 35 + 1 := by
    rw [Lib.indexByte, if_neg (by simpa using hc)]
  unfold Lib.cut
  rw [Lib.index_one, Lib.index_one, h]
  generalize Lib.indexByte r 35 = i at hb
  by_cases hi : i = -1
  · subst hi; rfl
  · have e : (if (i == -1) = true then -1 else i + 1) = i + 1 := if_neg (by simpa using hi)
    rw [e, if_pos (by omega), if_pos (by omega)]
    show (c :: r).take (i + 1).toNat = c :: r.take i.toNat
    rw [show (i + 1).toNat = i.toNat + 1 by omega, List.take_succ_cons]
theorem splH_cut : ∀ (L cur : List UInt8), splH L cur = spl (Lib.cut L [35]).1 cur
  | [], cur => by rw [cut_nil]; rfl
  | c :: r, cur => by
    rw [splH]
    by_cases h35 : c = 35
    · subst h35
      rw [cut_hash, if_neg (by decide), if_pos rfl]; rfl
    · rw [cut_cons h35, spl, if_neg h35]
      rw [splH_cut r [], splH_cut r (cur ++ [c])]
theorem words_doc (s : List UInt8) : wordsL s = (splH (Lib.trimSuffix s [10]) []).map bs := by
  unfold wordsL
  rw [fields_any, splH_cut]
theorem info9b : (Tryz.prog.info? 9).map (fun i => (i.zero, i.size, i.bytes)) = some (some (.string ⟨#[]⟩), 1, 16) := by kernel_rfl
def StrAt (w : World) (a : Option Addr) (ws : List ByteArray) : Prop :=
 ∀ j (_ : j < ws.length), ∃ b off, a = some ⟨b, off, none⟩ ∧ (∃ cs f, w.heap[b]? = some (.cells cs 9 f)) ∧ w.cell? ⟨b, off + j, none⟩ = some (.string ws[j])
theorem StrAt.keep {w w' : World} {a : Option Addr} {ws : List ByteArray} (h : StrAt w a ws) (hk : ∀ b : Nat, (∃ cs f, w.heap[b]? = some (.cells cs 9 f)) → w'.heap[b]? = w.heap[b]?) : StrAt w' a ws := by
 intro j hj
 obtain ⟨b, off, h1, h2, h3⟩ := h j hj
 have e := hk b h2
 refine ⟨b, off, h1, by rw [e]; exact h2, ?_⟩
 rw [← h3]
 simp only [World.cell?, e]
theorem StrAt.old {w w' : World} {a : Option Addr} {ws : List ByteArray} (h : StrAt w a ws) (hb : Below w.heap.size w w') : StrAt w' a ws :=
 h.keep fun b ⟨_, _, hh⟩ => hb.block b (Array.getElem?_eq_some_iff.1 hh).1
def SOwn (w : World) (base : Nat) (v : Value) (ws : List ByteArray) : Prop := w.ownsRow base 9 1 v ws.length (ws.map Value.string)
theorem SOwn.val {w : World} {base : Nat} {v : Value} {ws : List ByteArray} (h : SOwn w base v ws) : ∃ a c, v = .slice a ws.length c ∧ ws.length ≤ c ∧ StrAt w a ws := by
 rcases h.2 with ⟨rfl, h0⟩ | ⟨g, cap, cur, rfl, hb, hh, hc1, hc2, hc3, hc4⟩
 ·
  have : ws = [] := List.eq_nil_of_length_eq_zero h0
  subst this
  exact ⟨none, 0, rfl, Nat.le_refl _, fun j hj => by simp at hj⟩
 ·
  refine ⟨some ⟨g, 0, none⟩, cap, rfl, hc1, fun j hj => ⟨g, 0, rfl, ⟨_, _, hh⟩, ?_⟩⟩
  have hx : (ws.map Value.string)[j]? = some (.string ws[j]) := by simp [hj]
  rw [← hc4, List.getElem?_take_of_lt (by omega)] at hx
  simp only [World.cell?, hh, Nat.zero_add]
  simpa using hx
theorem wpList_append_word {w : World} {ops : Array Oper} {rest : List Oper} {o : Oper} {a : Act} {Q : Exit → Act → World → Prop} (hgd : o.guard = none) (s x : Operand)
  (ho : o.op = .call { callee := .builtin .append, args := #[s, x], argTypes := #[93, 93] })
  (base : Nat) (v : Value) (ws : List ByteArray) (hs : a.eval s = v) (hown : SOwn w base v ws) (b : ByteArray) (c : Nat) (hx : a.eval x = .slice (some ⟨w.heap.size, 0, none⟩) 1 c)
  (hlen : ws.length ≤ 10000000) (hbase : base ≤ w.heap.size) (w0 : World) (hb : Below base w0 w)
  (h : ∀ v' w', SOwn w' base v' (ws ++ [b]) → Below base w0 w' → base ≤ w'.heap.size → wpList Tryz.prog ops Q rest (a.put o.dst v') w') :
  wpList Tryz.prog ops Q (o :: rest) a (w.alloc (.cells #[.string b] 9)) := by
 obtain ⟨i, hi, hz, hsz, hby⟩ := info_parts info9b
 refine wpList_append_own (P := Tryz.prog) _ hgd s x 93 ho base 9 i (.string ⟨#[]⟩) 1 16 Tryz.underlying93 hi hz hsz hby rfl (by decide) v ws.length (ws.map Value.string) hs (World.ownsRow.alloc hown _) ⟨w.heap.size, 0, none⟩ 1 c [.string b] hx rfl ?_ ?_ ?_ ?_ ?_ ?_
 ·
  intro j u hj
  match j, hj with
  | 0, hj => simp at hj; subst hj; simp [Addr.add]
 ·
  intro u hu; simp at hu; subst hu; rfl
 ·
  unfold maxLen; omega
 ·
  omega
 ·
  simp; omega
 ·
  intro v' w' h1 h2 _
  refine h v' w' ?_ ?_ ?_
  ·
   unfold SOwn
   rw [List.map_append, List.length_append]
   exact h1
  ·
   exact (hb.alloc hbase _).grown h2 (by simp; omega) (fun k hk => (World.ownsRow.lt (World.ownsRow.alloc hown (.cells #[.string b] 9)) k hk).1)
  ·
   have := h2.size; simp at this; omega
theorem bs_cut (L : List UInt8) (a b : Nat) : (bs L).extract a b = bs ((L.take b).drop a) := by
 have h := bs_extract L a b
 have : ∀ x : ByteArray, x = bs x.data.toList := fun x => by cases x; simp [bs]
 rw [this ((bs L).extract a b), h]
theorem splH_len : ∀ (L cur : List UInt8), (splH L cur).length ≤ L.length + 1
 | [], cur => by rw [splH]; split <;> simp
 | c :: r, cur => by
  rw [splH]
  have h1 := splH_len r []
  have h2 := splH_len r (cur ++ [c])
  split
  ·
   split <;> simp only [List.length_cons] <;> omega
  ·
   split
   ·
    split <;> simp
   ·
    simp only [List.length_cons]; omega
set_option maxHeartbeats 4000000 in
set_option maxRecDepth 20000 in
theorem words_any (s : List UInt8) (hs : s.length ≤ 65536) (w : World) : Calls Tryz.prog 72 #[.string (bs s)] w fun e w' => ∃ a c, e = .returned (.slice a (splH s []).length c) ∧ StrAt w' a ((splH s []).map bs) ∧ (splH s []).length ≤ c ∧ Below w.heap.size w w' := by
 obtain ⟨R, hR⟩ : ∃ R, splH s [] = R := ⟨_, rfl⟩
 rw [hR]
 have HR0 : Hid ([] ++ splH (s.drop 0) [] = R) := by show _ = _; simpa using hR
 obtain ⟨T, hT⟩ : ∃ T, bs s = T := ⟨_, rfl⟩
 have HT : Hid (bs s = T) := hT
 have HTZ : Hid (T.size = s.length) := by show _ = _; rw [← hT, bs_size]
 have htz : T.size ≤ 65536 := by rw [HTZ.out]; exact hs
 have HRL : Hid (R.length ≤ 65537) := by show _ ≤ _; rw [← hR]; have := splH_len s []; omega
 rw [hT]
 clear hR hT
 go_enter Tryz.func72, Tryz.ntmps72
 go_wp2_with fail
 go_loopw [3, 4, 5] (fun v bv iv wr => ∃ (i : Nat) (b : Int) (cur : List UInt8) (ac : List (List UInt8)) (av : Option Addr) (cv : Nat), i ≤ T.size + 1 ∧ iv = .int .i64 (i : Int) ∧ bv = .int .i64 b ∧ v = .slice av ac.length cv ∧ Hid (SOwn wr w.heap.size (.slice av ac.length cv) (ac.map bs)) ∧ Hid ((i ≤ T.size ∧ ac ++ splH (s.drop i) cur = R) ∨ (i = T.size + 1 ∧ ac = R)) ∧ Hid ((b = -1 ∧ cur = []) ∨ ∃ bn : Nat, b = (bn : Int) ∧ bn < i ∧ i ≤ T.size ∧ cur = (s.take i).drop bn) ∧ Below w.heap.size w wr ∧ w.heap.size ≤ wr.heap.size) (fun _ _ iv _ => T.size + 1 - (intOf iv).toNat)
 case atStart => exact ⟨0, -1, [], [], none, 0, by omega, rfl, rfl, rfl, World.ownsRow_nil _ _ _ _, .inl ⟨Nat.zero_le _, HR0.out⟩, .inl ⟨rfl, rfl⟩, Below.refl _ _, Nat.le_refl _⟩
 case round =>
  clear HR0
  obtain ⟨i, b, cur, ac, av, cv, hi, rfl, rfl, rfl, HO, HR, HB, hb, hbs⟩ := hrel
  by_cases hiT0 : i ≤ T.size
  ·
   have tl : decide ((i : Int) ≤ (T.size : Int)) = true := decide_eq_true (by omega)
   have tl2 : decide (i ≤ T.size) = true := decide_eq_true hiT0
   have hR1 : ac ++ splH (s.drop i) cur = R := by
    rcases HR.out with h | h
    ·
     exact h.2
    ·
     omega
   have hLA : (ac.map bs).length ≤ 10000000 := by
    have h1 := congrArg List.length hR1
    have h2 := HRL.out
    rw [List.length_append] at h1
    rw [List.length_map]; omega
   by_cases hie : i = T.size
   ·
    have te : ((i : Int) == (T.size : Int)) = true := beq_iff_eq.2 (by omega)
    have te2 : (i == T.size) = true := beq_iff_eq.2 hie
    have tf : decide ((i : Int) < (T.size : Int)) = false := decide_eq_false (by omega)
    have tf2 : decide (i < T.size) = false := decide_eq_false (by omega)
    have hd : s.drop i = [] := by rw [hie, HTZ.out, List.drop_length]
    rw [hd, splH] at hR1
    clear hd HR
    have HIE : Hid (i = T.size) := hie
    clear hie
    rcases HB.out with ⟨hb1, hcur⟩ | ⟨bn, hbn, hlt, hle, hcur⟩
    ·
     subst hb1
     subst hcur
     rw [if_pos rfl, List.append_nil] at hR1
     have HE1 : Hid (ac = R) := hR1
     clear hR1 hLA
     go_wp2_with fail
     go_roundw
     case rel => exact ⟨i + 1, -1, [], ac, av, cv, by omega, by simp, rfl, rfl, HO, .inr ⟨by rw [HIE.out], HE1.out⟩, .inl ⟨rfl, rfl⟩, hb, hbs⟩
     case measure => simp only [intOf]; omega
    ·
     subst hbn
     have tb : decide ((0 : Int) ≤ (bn : Int)) = true := decide_eq_true (by omega)
     have hcne : cur ≠ [] := by
      rw [hcur]; intro h
      have := congrArg List.length h
      rw [List.length_drop, List.length_take, ← HTZ.out] at this
      simp at this
      omega
     have HX : Hid (T.extract bn i = bs cur) := by show _ = _; rw [← HT.out, bs_cut, hcur]
     have HLA : Hid ((ac.map bs).length ≤ 10000000) := hLA
     have hbi : (bn : Int) ≤ (i : Int) := by omega
     have hiT : (i : Int) ≤ (T.size : Int) := by omega
     rw [if_neg hcne] at hR1
     have HE1 : Hid (ac ++ [cur] = R) := hR1
     clear hR1
     clear hcur hcne HB hLA
     go_wp2_with (at_builtin; refine wpList_append_word rfl _ _ rfl w.heap.size _ (ac.map bs) rfl HO.out (T.extract bn i) _ rfl HLA.out hbs w hb ?_; intro v3 w3 ho3 hb3 hs3)
     rw [HX.out] at ho3
     have ho4 : SOwn w3 w.heap.size v3 ((ac ++ [cur]).map bs) := by rw [List.map_append]; exact ho3
     obtain ⟨av2, cv2, hv2, hc2, hst⟩ := ho4.val
     rw [List.length_map] at hv2 hc2
     subst hv2
     go_roundw
     case rel => exact ⟨i + 1, -1, [], ac ++ [cur], av2, cv2, by omega, by simp, rfl, rfl, ho4, .inr ⟨by rw [HIE.out], HE1.out⟩, .inl ⟨rfl, rfl⟩, hb3, hs3⟩
     case measure => simp only [intOf]; omega
   ·
    have te : ((i : Int) == (T.size : Int)) = false := beq_eq_false_iff_ne.2 (by omega)
    have te2 : (i == T.size) = false := beq_eq_false_iff_ne.2 hie
    have hiT : i < T.size := by omega
    have tf : decide ((i : Int) < (T.size : Int)) = true := decide_eq_true (by omega)
    have tf2 : decide (i < T.size) = true := decide_eq_true hiT
    have his : i < s.length := by rw [← HTZ.out]; exact hiT
    have hti : T[i] = s[i]'his := by
     have := HT.out
     subst this
     simp [bs, ByteArray.getElem_eq_getElem_data]
    rw [List.drop_eq_getElem_cons his, ← hti] at hR1
    have htk : (s.take (i + 1)) = s.take i ++ [T[i]'hiT] := by rw [hti]; exact List.take_succ_eq_append_getElem his
    clear hti
    have hci : (T[i]'hiT).toNat < 256 := (T[i]'hiT).toNat_lt
    by_cases c32 : T[i]'hiT = 32
    ·
     have tb1 : (((T[i]'hiT).toNat : Int) == 32) = true := by rw [c32]; rfl
     have tb2 : (((T[i]'hiT).toNat : Int) == 35) = false := by rw [c32]; rfl
     rw [splH, if_pos c32] at hR1
     clear c32 HR htk
     rcases HB.out with ⟨hb1, hcur⟩ | ⟨bn, hbn, hlt, hle, hcur⟩
     ·
      subst hb1
      subst hcur
      rw [if_pos rfl] at hR1
      have HE1 : Hid (ac ++ splH (s.drop (i + 1)) [] = R) := hR1
      clear hR1 hLA
      go_wp2_with fail
      go_roundw
      case rel => exact ⟨i + 1, -1, [], ac, av, cv, by omega, by simp, rfl, rfl, HO, .inl ⟨by omega, HE1.out⟩, .inl ⟨rfl, rfl⟩, hb, hbs⟩
      case measure => simp only [intOf]; omega
     ·
      subst hbn
      have tb : decide ((0 : Int) ≤ (bn : Int)) = true := decide_eq_true (by omega)
      have hcne : cur ≠ [] := by
       rw [hcur]; intro h
       have := congrArg List.length h
       rw [List.length_drop, List.length_take, ← HTZ.out] at this
       simp at this
       omega
      have HX : Hid (T.extract bn i = bs cur) := by show _ = _; rw [← HT.out, bs_cut, hcur]
      have HLA : Hid ((ac.map bs).length ≤ 10000000) := hLA
      have hbi : (bn : Int) ≤ (i : Int) := by omega
      have hiT : (i : Int) ≤ (T.size : Int) := by omega
      rw [if_neg hcne] at hR1
      have HE1 : Hid ((ac ++ [cur]) ++ splH (s.drop (i + 1)) [] = R) := by show _ = _; rw [← hR1]; simp
      clear hR1
      clear hcur hcne HB hLA
      go_wp2_with (at_builtin; refine wpList_append_word rfl _ _ rfl w.heap.size _ (ac.map bs) rfl HO.out (T.extract bn i) _ rfl HLA.out hbs w hb ?_; intro v3 w3 ho3 hb3 hs3)
      rw [HX.out] at ho3
      have ho4 : SOwn w3 w.heap.size v3 ((ac ++ [cur]).map bs) := by rw [List.map_append]; exact ho3
      obtain ⟨av2, cv2, hv2, hc2, hst⟩ := ho4.val
      rw [List.length_map] at hv2 hc2
      subst hv2
      go_roundw
      case rel => exact ⟨i + 1, -1, [], ac ++ [cur], av2, cv2, by omega, by simp, rfl, rfl, ho4, .inl ⟨by omega, HE1.out⟩, .inl ⟨rfl, rfl⟩, hb3, hs3⟩
      case measure => simp only [intOf]; omega
    ·
     have tb1 : (((T[i]'hiT).toNat : Int) == 32) = false := beq_eq_false_iff_ne.2 (fun h => c32 (UInt8.toNat.inj (by rw [show (32 : UInt8).toNat = 32 from rfl]; omega)))
     by_cases c35 : T[i]'hiT = 35
     ·
      have tb2 : (((T[i]'hiT).toNat : Int) == 35) = true := by rw [c35]; rfl
      rw [splH, if_neg c32, if_pos c35] at hR1
      clear c32 c35 HR htk
      rcases HB.out with ⟨hb1, hcur⟩ | ⟨bn, hbn, hlt, hle, hcur⟩
      ·
       subst hb1
       subst hcur
       rw [if_pos rfl, List.append_nil] at hR1
       have hE := hR1
       have HR : True := trivial
       clear hR1 hLA
       obtain ⟨av2, cv2, hv2, hc2, hst⟩ := HO.out.val
       rw [List.length_map] at hv2 hc2
       cases hv2
       have HST : Hid (StrAt wr av (ac.map bs)) := hst
       have HE1 : Hid (ac = R) := hE
       clear hst hE HR
       go_wp2_with fail
       go_ret
       refine ⟨av, cv, ?_, ?_, ?_, hb⟩
       ·
        rw [← HE1.out]; rfl
       ·
        rw [← HE1.out]; exact HST.out
       ·
        rw [← HE1.out]; exact hc2
      ·
       subst hbn
       have tb : decide ((0 : Int) ≤ (bn : Int)) = true := decide_eq_true (by omega)
       have hcne : cur ≠ [] := by
        rw [hcur]; intro h
        have := congrArg List.length h
        rw [List.length_drop, List.length_take, ← HTZ.out] at this
        simp at this
        omega
       have HX : Hid (T.extract bn i = bs cur) := by show _ = _; rw [← HT.out, bs_cut, hcur]
       have HLA : Hid ((ac.map bs).length ≤ 10000000) := hLA
       have hbi : (bn : Int) ≤ (i : Int) := by omega
       have hiT : (i : Int) ≤ (T.size : Int) := by omega
       rw [if_neg hcne] at hR1
       have HE1 : Hid (ac ++ [cur] = R) := hR1
       clear hR1
       clear hcur hcne HB hLA
       go_wp2_with (at_builtin; refine wpList_append_word rfl _ _ rfl w.heap.size _ (ac.map bs) rfl HO.out (T.extract bn i) _ rfl HLA.out hbs w hb ?_; intro v3 w3 ho3 hb3 hs3)
       rw [HX.out] at ho3
       have ho4 : SOwn w3 w.heap.size v3 ((ac ++ [cur]).map bs) := by rw [List.map_append]; exact ho3
       obtain ⟨av2, cv2, hv2, hc2, hst⟩ := ho4.val
       rw [List.length_map] at hv2 hc2
       subst hv2
       go_ret
       refine ⟨av2, cv2, ?_, ?_, ?_, hb3⟩
       ·
        rw [← HE1.out]; rfl
       ·
        rw [← HE1.out]; exact hst
       ·
        rw [← HE1.out]; exact hc2
     ·
      have tb2 : (((T[i]'hiT).toNat : Int) == 35) = false := beq_eq_false_iff_ne.2 (fun h => c35 (UInt8.toNat.inj (by rw [show (35 : UInt8).toNat = 35 from rfl]; omega)))
      rw [splH, if_neg c32, if_neg c35] at hR1
      have HE1 : Hid (ac ++ splH (s.drop (i + 1)) (cur ++ [T[i]'hiT]) = R) := hR1
      clear c32 c35 HR hR1 hLA
      rcases HB.out with ⟨hb1, hcur⟩ | ⟨bn, hbn, hlt, hle, hcur⟩
      ·
       subst hb1
       subst hcur
       have HC : Hid ([] ++ [T[i]'hiT] = (s.take (i + 1)).drop i) := by
        show _ = _
        rw [htk, List.drop_append_of_le_length (by rw [List.length_take]; omega)]
        rw [List.drop_of_length_le (by rw [List.length_take]; omega)]
       clear htk
       go_wp2_with fail
       go_roundw
       case rel => exact ⟨i + 1, i, [] ++ [T[i]'hiT], ac, av, cv, by omega, by simp, rfl, rfl, HO, .inl ⟨by omega, HE1.out⟩, .inr ⟨i, rfl, by omega, by omega, HC.out⟩, hb, hbs⟩
       case measure => simp only [intOf]; omega
      ·
       subst hbn
       have tb : decide ((bn : Int) < 0) = false := decide_eq_false (by omega)
       have HC : Hid (cur ++ [T[i]'hiT] = (s.take (i + 1)).drop bn) := by
        show _ = _
        rw [htk, List.drop_append_of_le_length (by rw [List.length_take]; omega), hcur]
       clear htk hcur HB
       go_wp2_with fail
       go_roundw
       case rel => exact ⟨i + 1, bn, cur ++ [T[i]'hiT], ac, av, cv, by omega, by simp, rfl, rfl, HO, .inl ⟨by omega, HE1.out⟩, .inr ⟨bn, rfl, by omega, by omega, HC.out⟩, hb, hbs⟩
       case measure => simp only [intOf]; omega
  ·
   have tl : decide ((i : Int) ≤ (T.size : Int)) = false := decide_eq_false (by omega)
   have tl2 : decide (i ≤ T.size) = false := decide_eq_false hiT0
   have hE : ac = R := by
    rcases HR.out with h | h
    ·
     exact absurd h.1 hiT0
    ·
     exact h.2
   obtain ⟨av2, cv2, hv2, hc2, hst⟩ := HO.out.val
   rw [List.length_map] at hv2 hc2
   cases hv2
   have HST : Hid (StrAt wr av (ac.map bs)) := hst
   have HE1 : Hid (ac = R) := hE
   clear hst hE HR hiT0
   go_wp2_with fail
   go_ret
   refine ⟨av, cv, ?_, ?_, ?_, hb⟩
   ·
    rw [← HE1.out]; rfl
   ·
    rw [← HE1.out]; exact HST.out
   ·
    rw [← HE1.out]; exact hc2
theorem info95 : (Tryz.prog.info? 95).map (fun i => (i.zero, i.size, i.bytes)) = some (some (.agg #[.int .i64 0, .slice none 0 0]), 2, 32) := by kernel_rfl
abbrev RQ := Int × Option Addr × Nat × List ByteArray
def cellR (q : RQ) : List Value := [.int .i64 q.1, .slice q.2.1 q.2.2.2.length q.2.2.1]
structure RwOwn (w : World) (base : Nat) (v : Value) (qs : List RQ) : Prop where
 own : w.ownsRow base 95 2 v qs.length (qs.flatMap cellR)
 inn : ∀ q ∈ qs, q.2.2.2.length ≤ q.2.2.1 ∧ StrAt w q.2.1 q.2.2.2
def lnQ (q : RQ) : Ln := (q.1, q.2.2.2)
theorem RwOwn.old {w w' : World} {base : Nat} {v : Value} {qs : List RQ} (h : RwOwn w base v qs) (hb : Below w.heap.size w w') : RwOwn w' base v qs :=
 ⟨own_after h.own hb, fun q hq => ⟨(h.inn q hq).1, (h.inn q hq).2.old hb⟩⟩
def RowsAt (w : World) (a : Option Addr) (rs : List Ln) : Prop :=
 ∀ k (_ : k < rs.length), ∃ b off wa wc, a = some ⟨b, off, none⟩ ∧ b < w.heap.size ∧ w.cell? ⟨b, off + k * 2, none⟩ = some (.int .i64 rs[k].1) ∧ w.cell? ⟨b, off + k * 2 + 1, none⟩ = some (.slice wa rs[k].2.length wc) ∧ rs[k].2.length ≤ wc ∧ StrAt w wa rs[k].2
theorem RowsAt.old {w w' : World} {a : Option Addr} {rs : List Ln} (h : RowsAt w a rs) (hb : Below w.heap.size w w') : RowsAt w' a rs := by
 intro k hk
 obtain ⟨b, off, wa, wc, h1, h2, h3, h4, h5, h6⟩ := h k hk
 exact ⟨b, off, wa, wc, h1, Nat.lt_of_lt_of_le h2 hb.size, (hb.cell (p := ⟨b, _, none⟩) h2).trans h3, (hb.cell (p := ⟨b, _, none⟩) h2).trans h4, h5, h6.old hb⟩
theorem cellR_at : ∀ (qs : List RQ) (k : Nat) (hk : k < qs.length), (qs.flatMap cellR)[k * 2]? = some (.int .i64 qs[k].1) ∧ (qs.flatMap cellR)[k * 2 + 1]? = some (.slice qs[k].2.1 qs[k].2.2.2.length qs[k].2.2.1)
 | [], k, hk => by simp at hk
 | q :: qs, 0, _ => by simp [cellR]
 | q :: qs, k + 1, hk => by
  have := cellR_at qs k (by simpa using hk)
  simp only [List.flatMap_cons, List.getElem_cons_succ]
  have e : cellR q = [.int .i64 q.1, .slice q.2.1 q.2.2.2.length q.2.2.1] := rfl
  rw [e, show (k + 1) * 2 = k * 2 + 2 by omega, show k * 2 + 2 + 1 = k * 2 + 1 + 2 by omega]
  simpa using this
theorem flatR_len (qs : List RQ) : (qs.flatMap cellR).length = qs.length * 2 := by
 induction qs with
 | nil => rfl
 | cons q qs ih => rw [List.flatMap_cons, List.length_append, ih]; simp [cellR]; omega
theorem RwOwn.val {w : World} {base : Nat} {v : Value} {qs : List RQ} (h : RwOwn w base v qs) : ∃ a c, v = .slice a qs.length c ∧ qs.length ≤ c ∧ RowsAt w a (qs.map lnQ) := by
 rcases h.own.2 with ⟨rfl, h0⟩ | ⟨g, cap, cur, rfl, hb, hh, hc1, hc2, hc3, hc4⟩
 ·
  have : qs = [] := List.eq_nil_of_length_eq_zero h0
  subst this
  exact ⟨none, 0, rfl, Nat.le_refl _, fun j hj => by simp at hj⟩
 ·
  refine ⟨some ⟨g, 0, none⟩, cap, rfl, hc1, fun k hk => ?_⟩
  have hk' : k < qs.length := by simpa using hk
  have hq := h.inn qs[k] (List.getElem_mem hk')
  have e : (qs.map lnQ)[k] = lnQ qs[k] := by simp
  rw [e]
  have hc := cellR_at qs k hk'
  have hlen := flatR_len qs
  refine ⟨g, 0, qs[k].2.1, qs[k].2.2.1, rfl, (Array.getElem?_eq_some_iff.1 hh).1, ?_, ?_, hq.1, hq.2⟩
  ·
   have h1 := hc.1
   rw [← hc4, List.getElem?_take_of_lt (by omega)] at h1
   simp only [World.cell?, hh, Nat.zero_add]
   simpa [lnQ] using h1
  ·
   have h1 := hc.2
   rw [← hc4, List.getElem?_take_of_lt (by omega)] at h1
   simp only [World.cell?, hh, Nat.zero_add]
   simpa [lnQ] using h1
theorem own_ty {w : World} {base : Nat} {e t : TypeId} {size k b : Nat} {v : Value} {xs : List Value} (h : w.ownsRow base e size v k xs) (hb : ∃ cs f, w.heap[b]? = some (.cells cs t f)) (hne : e ≠ t) : some b ≠ v.ownBlock := fun hv => by
 obtain ⟨_, c1, f1, g1⟩ := own_ge h hv.symm
 obtain ⟨cs, f, hh⟩ := hb
 rw [hh] at g1
 simp only [Option.some.injEq, Obj.cells.injEq] at g1
 exact hne g1.2.1.symm
theorem wpList_append_rowR {w : World} {ops : Array Oper} {rest : List Oper} {o : Oper} {a : Act} {Q : Exit → Act → World → Prop} (hgd : o.guard = none) (s x : Operand)
  (ho : o.op = .call { callee := .builtin .append, args := #[s, x], argTypes := #[90, 90] })
  (base : Nat) (v : Value) (qs : List RQ) (hs : a.eval s = v) (hown : RwOwn w base v qs) (q : RQ) (hq : q.2.2.2.length ≤ q.2.2.1 ∧ StrAt w q.2.1 q.2.2.2) (c : Nat) (hx : a.eval x = .slice (some ⟨w.heap.size, 0, none⟩) 1 c)
  (hlen : qs.length ≤ 10000000) (hbase : base ≤ w.heap.size) (w0 : World) (hb : Below base w0 w)
  (h : ∀ v' w', RwOwn w' base v' (qs ++ [q]) → Below base w0 w' → base ≤ w'.heap.size → wpList Tryz.prog ops Q rest (a.put o.dst v') w') :
  wpList Tryz.prog ops Q (o :: rest) a (w.alloc (.cells #[.int .i64 q.1, .slice q.2.1 q.2.2.2.length q.2.2.1] 95)) := by
 obtain ⟨i, hi, hz, hsz, hby⟩ := info_parts info95
 have hba := (Below.refl w.heap.size w).alloc (Nat.le_refl _) (.cells #[.int .i64 q.1, .slice q.2.1 q.2.2.2.length q.2.2.1] 95)
 have hownA := hown.old hba
 have hqA := hq.2.old hba
 refine wpList_append_own (P := Tryz.prog) _ hgd s x 90 ho base 95 i (.agg #[.int .i64 0, .slice none 0 0]) 2 32 Tryz.underlying90 hi hz hsz hby rfl (by decide) v qs.length (qs.flatMap cellR) hs hownA.own ⟨w.heap.size, 0, none⟩ 1 c (cellR q) hx rfl ?_ ?_ ?_ ?_ ?_ ?_
 ·
  intro j u hj
  match j, hj with
  | 0, hj => simp [cellR] at hj; subst hj; simp [Addr.add]
  | 1, hj => simp [cellR] at hj; subst hj; simp [Addr.add]
 ·
  intro u hu; simp [cellR] at hu; rcases hu with rfl | rfl <;> rfl
 ·
  unfold maxLen; omega
 ·
  omega
 ·
  simp; omega
 ·
  intro v' w' h1 h2 _
  have hk : ∀ b : Nat, (∃ cs f, (w.alloc (.cells #[.int .i64 q.1, .slice q.2.1 q.2.2.2.length q.2.2.1] 95)).heap[b]? = some (.cells cs 9 f)) → w'.heap[b]? = (w.alloc (.cells #[.int .i64 q.1, .slice q.2.1 q.2.2.2.length q.2.2.1] 95)).heap[b]? := fun b hb' => by
   obtain ⟨cs, f, hh⟩ := hb'
   exact h2.block b (Array.getElem?_eq_some_iff.1 hh).1 (own_ty hownA.own ⟨cs, f, hh⟩ (by decide))
  refine h v' w' ⟨?_, fun y hy => ?_⟩ ?_ ?_
  ·
   rw [List.flatMap_append, List.length_append]
   simpa using h1
  ·
   rcases List.mem_append.1 hy with hy | hy
   ·
    exact ⟨(hownA.inn y hy).1, (hownA.inn y hy).2.keep hk⟩
   ·
    rw [List.mem_singleton.1 hy]; exact ⟨hq.1, hqA.keep hk⟩
  ·
   exact (hb.alloc hbase _).grown h2 (by simp; omega) (fun k hk' => (World.ownsRow.lt hownA.own k hk').1)
  ·
   have := h2.size; simp at this; omega
theorem trim_no {L : List UInt8} (h : ∀ x ∈ L, x ≠ 10) : Lib.trimSuffix L [10] = L := by
 unfold Lib.trimSuffix
 rw [if_neg]
 intro hs
 simp only [Lib.hasSuffix] at hs
 have := List.isSuffixOf_iff_suffix.1 hs
 obtain ⟨t, rfl⟩ := this
 exact h 10 (by simp) rfl
theorem linesL_last {L : List UInt8} (h : ∀ x ∈ L, x ≠ 10) (hne : L ≠ []) : linesL L = [L] := by
 have hi := indexByte_no L 10 h
 have := linesL_none hi hne
 exact this
theorem rows_res {tmps : Array Value} {w : World} {v0 v1 : Value} (t2 : tmps[2]?.getD undef = v0) (t3 : tmps[3]?.getD undef = v1) : (results Tryz.f46 tmps).run Tryz.prog w = .ok (.tuple #[v0, v1]) w := by
 simp [results, Tryz.results46, go_sem, t2, t3]
theorem lnF_step (n : Int) (X : List UInt8) (ls : List (List UInt8)) : lnF n (X :: ls) = (if (wordsL X).isEmpty then [] else [(n, wordsL X)]) ++ lnF (n + 1) ls := by
 rw [lnF]; split <;> simp
set_option maxHeartbeats 8000000 in
set_option maxRecDepth 20000 in
theorem rows_any (s : List UInt8) (hs : s.length ≤ 65536) (w : World) : Calls Tryz.prog 46 #[.string (bs s)] w fun e w' => ∃ a c, e = .returned (.tuple #[.slice a (lnF 1 (linesL s)).length c, .int .i64 ((linesL s).length : Int)]) ∧ RowsAt w' a (lnF 1 (linesL s)) ∧ (lnF 1 (linesL s)).length ≤ c ∧ Below w.heap.size w w' := by
 obtain ⟨R, hR⟩ : ∃ R, lnF 1 (linesL s) = R := ⟨_, rfl⟩
 obtain ⟨NT, hNT⟩ : ∃ NT, (linesL s).length = NT := ⟨_, rfl⟩
 rw [hR, hNT]
 have HR0 : Hid ([] ++ lnF ((0 : Nat) + 1) (linesL (s.drop 0)) = R ∧ 0 + (linesL (s.drop 0)).length = NT) := by
  refine ⟨?_, ?_⟩
  ·
   rw [List.drop_zero, List.nil_append]; exact hR
  ·
   rw [List.drop_zero, Nat.zero_add]; exact hNT
 obtain ⟨TT, hT⟩ : ∃ TT, bs s = TT := ⟨_, rfl⟩
 have HT : Hid (bs s = TT) := hT
 have HTZ : Hid (TT.size = s.length) := by show _ = _; rw [← hT, bs_size]
 have htz : TT.size ≤ 65536 := by rw [HTZ.out]; exact hs
 have HRL : Hid (R.length ≤ 65536 ∧ NT ≤ 65536) := by
  have h1 := lnF_len 1 (linesL s)
  have h2 := (linesL_len s).1
  rw [hR] at h1
  exact ⟨by omega, by omega⟩
 rw [hT]
 clear hR hT hNT
 go_enter Tryz.func46, Tryz.ntmps46
 go_wp2_with fail
 go_loopw [4, 5, 6, 7] (fun v nv bv iv wr => ∃ (i b n : Nat) (qs : List RQ) (av : Option Addr) (cv : Nat), i ≤ TT.size + 1 ∧ iv = .int .i64 (i : Int) ∧ bv = .int .i64 (b : Int) ∧ nv = .int .i64 (n : Int) ∧ v = .slice av qs.length cv ∧ n ≤ 65536 ∧ Hid (RwOwn wr w.heap.size (.slice av qs.length cv) qs) ∧ Hid ((i ≤ TT.size ∧ b ≤ i ∧ (∀ x ∈ (s.take i).drop b, x ≠ 10) ∧ qs.map lnQ ++ lnF ((n : Int) + 1) (linesL (s.drop b)) = R ∧ n + (linesL (s.drop b)).length = NT) ∨ (i = TT.size + 1 ∧ qs.map lnQ = R ∧ n = NT)) ∧ Below w.heap.size w wr ∧ w.heap.size ≤ wr.heap.size) (fun _ _ _ iv _ => TT.size + 1 - (intOf iv).toNat)
 case atStart => exact ⟨0, 0, 0, [], none, 0, by omega, rfl, rfl, rfl, rfl, by omega, ⟨World.ownsRow_nil _ _ _ _, fun q hq => by cases hq⟩, .inl ⟨Nat.zero_le _, Nat.le_refl _, by simp, HR0.out.1, HR0.out.2⟩, Below.refl _ _, Nat.le_refl _⟩
 case round =>
  clear HR0
  obtain ⟨i, b, n, qs, av, cv, hi, rfl, rfl, rfl, rfl, hn6, HO, HR, hb, hbs⟩ := hrel
  by_cases hiT0 : i ≤ TT.size
  ·
   have tl : decide ((i : Int) ≤ (TT.size : Int)) = true := decide_eq_true (by omega)
   have tl2 : decide (i ≤ TT.size) = true := decide_eq_true hiT0
   obtain ⟨hbi0, hno, hR1, hN1⟩ : b ≤ i ∧ (∀ x ∈ (s.take i).drop b, x ≠ 10) ∧ qs.map lnQ ++ lnF ((n : Int) + 1) (linesL (s.drop b)) = R ∧ n + (linesL (s.drop b)).length = NT := by
    rcases HR.out with h | h
    ·
     exact h.2
    ·
     omega
   clear HR
   obtain ⟨LL, hLL⟩ : ∃ LL, LL = (s.take i).drop b := ⟨_, rfl⟩
   have hLlen : LL.length ≤ 65536 := by rw [hLL, List.length_drop, List.length_take]; omega
   have hsp : s.drop b = LL ++ s.drop i := by
    rw [hLL]
    have := List.take_append_drop i s
    conv => lhs; rw [← this]
    rw [List.drop_append_of_le_length (by rw [List.length_take, ← HTZ.out]; omega)]
   rw [← hLL] at hno
   rw [hsp] at hR1 hN1
   by_cases hie : i = TT.size
   ·
    have te : ((i : Int) == (TT.size : Int)) = true := beq_iff_eq.2 (by omega)
    have te2 : (i == TT.size) = true := beq_iff_eq.2 hie
    have hd : s.drop i = [] := by rw [hie, HTZ.out, List.drop_length]
    have hd2 : s.drop (i + 1) = [] := List.drop_of_length_le (by rw [← HTZ.out]; omega)
    rw [hd, List.append_nil] at hR1 hN1
    have HIE : Hid (i = TT.size) := hie
    by_cases hbe : b = TT.size
    ·
     have tb : ((b : Int) == (TT.size : Int)) = true := beq_iff_eq.2 (by omega)
     have tb2 : (b == TT.size) = true := beq_iff_eq.2 hbe
     have hL0 : LL = [] := by rw [hLL, List.drop_of_length_le (by rw [List.length_take]; omega)]
     rw [hL0, linesL_nil, lnF, List.append_nil] at hR1
     rw [hL0, linesL_nil] at hN1
     have hnn : n = NT := by simpa using hN1
     obtain ⟨a2, c2, hv2, hc2, hst⟩ := HO.out.val
     cases hv2
     have HST : Hid (RowsAt wr av (qs.map lnQ)) := hst
     have HE1 : Hid (qs.map lnQ = R ∧ n = NT ∧ qs.length = R.length) := ⟨hR1, hnn, by rw [← hR1, List.length_map]⟩
     clear hst hR1 hN1 hnn hie hbe hL0 hLL hsp hno hd hd2 HIE hLlen
     go_wp2_with fail
     refine bodyPost_ret (rows_res rfl rfl) rfl ?_
     refine ⟨av, cv, ?_, ?_, ?_, hb⟩
     ·
      rw [HE1.out.2.1, HE1.out.2.2]; rfl
     ·
      rw [← HE1.out.1]; exact HST.out
     ·
      rw [← HE1.out.2.2]; exact hc2
    ·
     have tb : ((b : Int) == (TT.size : Int)) = false := beq_eq_false_iff_ne.2 (by omega)
     have tb2 : (b == TT.size) = false := beq_eq_false_iff_ne.2 hbe
     have hne : LL ≠ [] := by
      rw [hLL]; intro h
      have := congrArg List.length h
      rw [List.length_drop, List.length_take, ← HTZ.out] at this
      simp at this
      omega
     have hws : wordsL LL = (splH LL []).map bs := by rw [words_doc, trim_no hno]
     rw [linesL_last hno hne] at hR1 hN1
     rw [lnF_step, hws, show ([] : List (List UInt8)) = linesL (s.drop (i + 1)) by rw [hd2]; rfl] at hR1
     rw [List.length_singleton] at hN1
     replace hN1 : n + 1 + (linesL (s.drop (i + 1))).length = NT := by rw [hd2]; exact hN1
     have HD2 : Hid (s.drop (i + 1) = []) := hd2
     clear hws hne hno hsp hd hd2 hbe hie
     have hw0 : ∀ W, Calls Tryz.prog 72 #[.string (TT.extract b i)] W fun e w' => ∃ a c, e = .returned (.slice a (splH LL []).length c) ∧ StrAt w' a ((splH LL []).map bs) ∧ (splH LL []).length ≤ c ∧ Below W.heap.size W w' := fun W => by
      rw [← HT.out, bs_cut, ← hLL]; exact words_any LL hLlen W
     have hqn : qs.length ≤ 10000000 := by
      have h1 := congrArg List.length hR1
      have h2 := HRL.out.1
      simp only [List.length_append, List.length_map] at h1
      omega
     have hbi : (b : Int) ≤ (i : Int) := by omega
     have hiT2 : (i : Int) ≤ (TT.size : Int) := by omega
     obtain ⟨W0, hW0⟩ : ∃ W0, splH LL [] = W0 := ⟨_, rfl⟩
     rw [hW0] at hw0 hR1
     clear hLL hW0 hLlen
     have HR1 : Hid (qs.map lnQ ++ ((if (W0.map bs).isEmpty then [] else [((n : Int) + 1, W0.map bs)]) ++ lnF ((n : Int) + 1 + 1) (linesL (s.drop (i + 1)))) = R ∧ n + 1 + (linesL (s.drop (i + 1))).length = NT) := ⟨hR1, hN1⟩
     clear hR1 hN1
     go_wp2_with fail
     refine (hw0 _).mono ?_
     clear hw0
     rintro _ w3 ⟨wa, wcp, rfl, hst, hwc, hb3⟩
     have hs3 := hb3.size
     have hb03 := hb.trans (hb3.mono hbs)
     have hbs3 : w.heap.size ≤ w3.heap.size := by omega
     have HO3 : Hid (RwOwn w3 w.heap.size (.slice av qs.length cv) qs) := HO.out.old hb3
     clear HO hb hbs hb3
     have hn1 : n + 1 ≤ 65536 := by have h1 := HR1.out.2; have h2 := HRL.out.2; omega
     cases W0 with
     | nil =>
      have HR2 : Hid (qs.map lnQ ++ lnF (((n + 1 : Nat) : Int) + 1) (linesL (s.drop (i + 1))) = R ∧ n + 1 + (linesL (s.drop (i + 1))).length = NT) := HR1.out
      clear HR1 hst
      go_wp2_with fail
      go_roundw
      case rel => exact ⟨i + 1, i + 1, n + 1, qs, av, cv, by omega, by simp, by simp, by simp, rfl, hn1, HO3, .inr ⟨by rw [HIE.out], (by have h := HR2.out.1; rw [HD2.out, linesL_nil, lnF, List.append_nil] at h; exact h), (by have h := HR2.out.2; rw [HD2.out, linesL_nil] at h; simpa using h)⟩, hb03, hbs3⟩
      case measure => simp only [intOf]; omega
     | cons W1 WR =>
      have HR2 : Hid ((qs ++ [(((n + 1 : Nat) : Int), wa, wcp, (W1 :: WR).map bs)]).map lnQ ++ lnF (((n + 1 : Nat) : Int) + 1) (linesL (s.drop (i + 1))) = R ∧ n + 1 + (linesL (s.drop (i + 1))).length = NT) := by
       refine ⟨?_, HR1.out.2⟩
       rw [← HR1.out.1]
       simp [lnQ]
      have hlm : ((W1 :: WR).map bs).length = (W1 :: WR).length := List.length_map ..
      obtain ⟨ws, hws⟩ : ∃ ws, (W1 :: WR).map bs = ws := ⟨_, rfl⟩
      obtain ⟨wl, hwl⟩ : ∃ wl, (W1 :: WR).length = wl := ⟨_, rfl⟩
      have hwp : 0 < wl := by rw [← hwl]; simp
      rw [hws] at HR2 hst hlm
      rw [hwl] at hwc hlm ⊢
      have tg : decide ((0 : Int) < (wl : Int)) = true := decide_eq_true (by omega)
      have tg2 : decide (0 < wl) = true := decide_eq_true hwp
      have HQ : Hid (ws.length ≤ wcp ∧ StrAt w3 wa ws) := ⟨by omega, hst⟩
      have HLM : Hid (wl = ws.length) := hlm.symm
      clear HR1 hst hws hwl hlm
      go_wp2_with (at_builtin; rw [show (Obj.cells #[Value.int IntKind.i64 ((n : Int) + 1), Value.slice wa wl wcp] 95) = Obj.cells #[Value.int IntKind.i64 ((n + 1 : Nat) : Int), Value.slice wa ws.length wcp] 95 from by rw [HLM.out]; rfl]; refine wpList_append_rowR rfl _ _ rfl w.heap.size _ qs rfl HO3.out (((n + 1 : Nat) : Int), wa, wcp, ws) HQ.out _ rfl hqn hbs3 w hb03 ?_; intro v4 w4 ho4 hb4 hs4)
      obtain ⟨a4, c4, hv4, hc4, _⟩ := ho4.val
      subst hv4
      go_roundw
      case rel => exact ⟨i + 1, i + 1, n + 1, qs ++ [(((n + 1 : Nat) : Int), wa, wcp, ws)], a4, c4, by omega, by simp, by simp, by simp, rfl, hn1, ho4, .inr ⟨by rw [HIE.out], (by have h := HR2.out.1; rw [HD2.out, linesL_nil, lnF, List.append_nil] at h; exact h), (by have h := HR2.out.2; rw [HD2.out, linesL_nil] at h; simpa using h)⟩, hb4, hs4⟩
      case measure => simp only [intOf]; omega
   ·
    have te : ((i : Int) == (TT.size : Int)) = false := beq_eq_false_iff_ne.2 (by omega)
    have te2 : (i == TT.size) = false := beq_eq_false_iff_ne.2 hie
    have hiT : i < TT.size := by omega
    have his : i < s.length := by rw [← HTZ.out]; exact hiT
    have hti : TT[i] = s[i]'his := by
     have := HT.out
     subst this
     simp [bs, ByteArray.getElem_eq_getElem_data]
    have hdi : s.drop i = TT[i]'hiT :: s.drop (i + 1) := by rw [hti]; exact List.drop_eq_getElem_cons his
    have htk : (s.take (i + 1)) = s.take i ++ [TT[i]'hiT] := by rw [hti]; exact List.take_succ_eq_append_getElem his
    clear hti
    have hci : (TT[i]'hiT).toNat < 256 := (TT[i]'hiT).toNat_lt
    by_cases c10 : TT[i]'hiT = 10
    ·
     have tc : (((TT[i]'hiT).toNat : Int) == 10) = true := by rw [c10]; rfl
     rw [hdi, c10, linesL_line hno] at hR1 hN1
     have hws : wordsL (LL ++ [10]) = (splH LL []).map bs := by rw [words_doc, trim_line]
     rw [lnF_step, hws] at hR1
     rw [List.length_cons] at hN1
     replace hN1 : n + 1 + (linesL (s.drop (i + 1))).length = NT := by omega
     have HD3 : Hid (∀ x ∈ (s.take (i + 1)).drop (i + 1), x ≠ 10) := by
      intro x hx
      rw [List.drop_of_length_le (by rw [List.length_take]; omega)] at hx
      cases hx
     clear hws hno hsp hdi htk c10 hie
     have hw0 : ∀ W, Calls Tryz.prog 72 #[.string (TT.extract b i)] W fun e w' => ∃ a c, e = .returned (.slice a (splH LL []).length c) ∧ StrAt w' a ((splH LL []).map bs) ∧ (splH LL []).length ≤ c ∧ Below W.heap.size W w' := fun W => by
      rw [← HT.out, bs_cut, ← hLL]; exact words_any LL hLlen W
     have hqn : qs.length ≤ 10000000 := by
      have h1 := congrArg List.length hR1
      have h2 := HRL.out.1
      simp only [List.length_append, List.length_map] at h1
      omega
     have hbi : (b : Int) ≤ (i : Int) := by omega
     have hiT2 : (i : Int) ≤ (TT.size : Int) := by omega
     obtain ⟨W0, hW0⟩ : ∃ W0, splH LL [] = W0 := ⟨_, rfl⟩
     rw [hW0] at hw0 hR1
     clear hLL hW0 hLlen
     have HR1 : Hid (qs.map lnQ ++ ((if (W0.map bs).isEmpty then [] else [((n : Int) + 1, W0.map bs)]) ++ lnF ((n : Int) + 1 + 1) (linesL (s.drop (i + 1)))) = R ∧ n + 1 + (linesL (s.drop (i + 1))).length = NT) := ⟨hR1, hN1⟩
     clear hR1 hN1
     go_wp2_with fail
     refine (hw0 _).mono ?_
     clear hw0
     rintro _ w3 ⟨wa, wcp, rfl, hst, hwc, hb3⟩
     have hs3 := hb3.size
     have hb03 := hb.trans (hb3.mono hbs)
     have hbs3 : w.heap.size ≤ w3.heap.size := by omega
     have HO3 : Hid (RwOwn w3 w.heap.size (.slice av qs.length cv) qs) := HO.out.old hb3
     clear HO hb hbs hb3
     have hn1 : n + 1 ≤ 65536 := by have h1 := HR1.out.2; have h2 := HRL.out.2; omega
     cases W0 with
     | nil =>
      have HR2 : Hid (qs.map lnQ ++ lnF (((n + 1 : Nat) : Int) + 1) (linesL (s.drop (i + 1))) = R ∧ n + 1 + (linesL (s.drop (i + 1))).length = NT) := HR1.out
      clear HR1 hst
      go_wp2_with fail
      go_roundw
      case rel => exact ⟨i + 1, i + 1, n + 1, qs, av, cv, by omega, by simp, by simp, by simp, rfl, hn1, HO3, .inl ⟨by omega, Nat.le_refl _, HD3.out, HR2.out.1, HR2.out.2⟩, hb03, hbs3⟩
      case measure => simp only [intOf]; omega
     | cons W1 WR =>
      have HR2 : Hid ((qs ++ [(((n + 1 : Nat) : Int), wa, wcp, (W1 :: WR).map bs)]).map lnQ ++ lnF (((n + 1 : Nat) : Int) + 1) (linesL (s.drop (i + 1))) = R ∧ n + 1 + (linesL (s.drop (i + 1))).length = NT) := by
       refine ⟨?_, HR1.out.2⟩
       rw [← HR1.out.1]
       simp [lnQ]
      have hlm : ((W1 :: WR).map bs).length = (W1 :: WR).length := List.length_map ..
      obtain ⟨ws, hws⟩ : ∃ ws, (W1 :: WR).map bs = ws := ⟨_, rfl⟩
      obtain ⟨wl, hwl⟩ : ∃ wl, (W1 :: WR).length = wl := ⟨_, rfl⟩
      have hwp : 0 < wl := by rw [← hwl]; simp
      rw [hws] at HR2 hst hlm
      rw [hwl] at hwc hlm ⊢
      have tg : decide ((0 : Int) < (wl : Int)) = true := decide_eq_true (by omega)
      have tg2 : decide (0 < wl) = true := decide_eq_true hwp
      have HQ : Hid (ws.length ≤ wcp ∧ StrAt w3 wa ws) := ⟨by omega, hst⟩
      have HLM : Hid (wl = ws.length) := hlm.symm
      clear HR1 hst hws hwl hlm
      go_wp2_with (at_builtin; rw [show (Obj.cells #[Value.int IntKind.i64 ((n : Int) + 1), Value.slice wa wl wcp] 95) = Obj.cells #[Value.int IntKind.i64 ((n + 1 : Nat) : Int), Value.slice wa ws.length wcp] 95 from by rw [HLM.out]; rfl]; refine wpList_append_rowR rfl _ _ rfl w.heap.size _ qs rfl HO3.out (((n + 1 : Nat) : Int), wa, wcp, ws) HQ.out _ rfl hqn hbs3 w hb03 ?_; intro v4 w4 ho4 hb4 hs4)
      obtain ⟨a4, c4, hv4, hc4, _⟩ := ho4.val
      subst hv4
      go_roundw
      case rel => exact ⟨i + 1, i + 1, n + 1, qs ++ [(((n + 1 : Nat) : Int), wa, wcp, ws)], a4, c4, by omega, by simp, by simp, by simp, rfl, hn1, ho4, .inl ⟨by omega, Nat.le_refl _, HD3.out, HR2.out.1, HR2.out.2⟩, hb4, hs4⟩
      case measure => simp only [intOf]; omega
    ·
     have tc : (((TT[i]'hiT).toNat : Int) == 10) = false := beq_eq_false_iff_ne.2 (fun h => c10 (UInt8.toNat.inj (by rw [show (10 : UInt8).toNat = 10 from rfl]; omega)))
     have HE1 : Hid (i + 1 ≤ TT.size ∧ b ≤ i + 1 ∧ (∀ x ∈ (s.take (i + 1)).drop b, x ≠ 10) ∧ qs.map lnQ ++ lnF ((n : Int) + 1) (linesL (s.drop b)) = R ∧ n + (linesL (s.drop b)).length = NT) := by
      refine ⟨by omega, by omega, ?_, by rw [hsp]; exact hR1, by rw [hsp]; exact hN1⟩
      rw [htk, List.drop_append_of_le_length (by rw [List.length_take]; omega), ← hLL]
      intro x hx
      rcases List.mem_append.1 hx with hx | hx
      ·
       exact hno x hx
      ·
       rw [List.mem_singleton.1 hx]; exact c10
     clear hno hsp hdi htk c10 hie hR1 hN1 hLL hLlen
     go_wp2_with fail
     go_roundw
     case rel => exact ⟨i + 1, b, n, qs, av, cv, by omega, by simp, rfl, rfl, rfl, hn6, HO, .inl HE1.out, hb, hbs⟩
     case measure => simp only [intOf]; omega
  ·
   have tl : decide ((i : Int) ≤ (TT.size : Int)) = false := decide_eq_false (by omega)
   have tl2 : decide (i ≤ TT.size) = false := decide_eq_false hiT0
   obtain ⟨hR1, hnn⟩ : qs.map lnQ = R ∧ n = NT := by
    rcases HR.out with h | h
    ·
     exact absurd h.1 hiT0
    ·
     exact h.2
   obtain ⟨a2, c2, hv2, hc2, hst⟩ := HO.out.val
   cases hv2
   have HST : Hid (RowsAt wr av (qs.map lnQ)) := hst
   have HE1 : Hid (qs.map lnQ = R ∧ n = NT ∧ qs.length = R.length) := ⟨hR1, hnn, by rw [← hR1, List.length_map]⟩
   clear hst hR1 hnn HR
   go_wp2_with fail
   refine bodyPost_ret (rows_res rfl rfl) rfl ?_
   refine ⟨av, cv, ?_, ?_, ?_, hb⟩
   ·
    rw [HE1.out.2.1, HE1.out.2.2]; rfl
   ·
    rw [← HE1.out.1]; exact HST.out
   ·
    rw [← HE1.out.2.2]; exact hc2
theorem cntL_head {l : List UInt8} (h : 0 < l.length) : (l = [48] ∨ l.head? ≠ some 48) ↔ ¬ (l[0] = 48 ∧ 1 < l.length) := by
 match l, h with
 | x :: r, _ =>
  simp only [List.head?_cons, ne_eq, Option.some.injEq, List.getElem_cons_zero, List.length_cons, List.cons.injEq]
  constructor
  ·
   rintro (⟨h1, h2⟩ | h1) ⟨h3, h4⟩
   ·
    rw [h2] at h4; simp at h4
   ·
    exact h1 h3
  ·
   intro h1
   by_cases hx : x = 48
   ·
    left
    refine ⟨hx, ?_⟩
    cases r with
    | nil => rfl
    | cons y r => exact absurd ⟨hx, by simp⟩ h1
   ·
    exact .inr hx
set_option maxHeartbeats 4000000 in
set_option maxRecDepth 20000 in
theorem small_any (x : ByteArray) (hx0 : 0 < x.size) (hxs : x.size ≤ 1000000) (w : World) : Calls Tryz.prog 47 #[.string x] w fun e w' => e = .returned (.int .i64 ((cntL x.data.toList).getD (-1))) ∧ w = w' := by
 have hl : x.data.toList.length = x.size := (Lib.size_eq x).symm
 obtain ⟨R, hR⟩ : ∃ R, cntL x.data.toList = R := ⟨_, rfl⟩
 rw [hR]
 have h00 : x[0].toNat < 256 := x[0].toNat_lt
 have t0 : decide ((x.size : Int) < 1) = false := decide_eq_false (by omega)
 have t02 : decide (x.size < 1) = false := decide_eq_false (by omega)
 have e00 : x.data.toList[0]'(by omega) = x[0] := rfl
 by_cases h7 : 7 < x.size
 ·
  have hRn : R = none := by rw [← hR, cntL, if_neg (fun h => by omega)]
  subst hRn
  have t7 : decide ((7 : Int) < (x.size : Int)) = true := decide_eq_true (by omega)
  have t72 : decide (7 < x.size) = true := decide_eq_true h7
  clear hR hl e00
  go_enter Tryz.func47, Tryz.ntmps47
  go_wp2_with fail
  go_ret
  exact ⟨rfl, rfl⟩
 ·
  have t7 : decide ((7 : Int) < (x.size : Int)) = false := decide_eq_false (by omega)
  have t72 : decide (7 < x.size) = false := decide_eq_false h7
  by_cases h8 : x[0] = 48 ∧ 1 < x.size
  ·
   have hRn : R = none := by
    rw [← hR, cntL, if_neg]
    rintro ⟨_, h2, _⟩
    exact (cntL_head (by omega)).1 h2 ⟨by rw [e00]; exact h8.1, by omega⟩
   subst hRn
   have t8 : ((x[0].toNat : Int) == 48) = true := by rw [h8.1]; rfl
   have t9 : decide ((1 : Int) < (x.size : Int)) = true := decide_eq_true (by omega)
   have t92 : decide (1 < x.size) = true := decide_eq_true h8.2
   clear hR hl e00 h8
   go_enter Tryz.func47, Tryz.ntmps47
   go_wp2_with fail
   go_ret
   exact ⟨rfl, rfl⟩
  ·
   have HX : Hid (R = if (x.data.toList.drop 0).all isDigU = true then some (cntV (x.data.toList.drop 0) ((0 : Nat) : Int)) else none) := by
    show _ = _
    rw [List.drop_zero, ← hR, cntL]
    by_cases ha : x.data.toList.all isDigU = true
    ·
     rw [if_pos ha, if_pos]
     ·
      rfl
     ·
      exact ⟨by omega, (cntL_head (by omega)).2 (fun h => h8 ⟨by rw [← e00]; exact h.1, by omega⟩), ha⟩
    ·
     rw [if_neg ha, if_neg (fun h => ha h.2.2)]
   have key : ∃ t8 : Bool, ((x[0].toNat : Int) == 48) = t8 ∧ (t8 = true → decide ((1 : Int) < (x.size : Int)) = false ∧ decide (1 < x.size) = false) := by
    refine ⟨_, rfl, fun h => ?_⟩
    have h9 : ¬ 1 < x.size := fun h1 => h8 ⟨UInt8.toNat.inj (by rw [show (48 : UInt8).toNat = 48 from rfl]; have := beq_iff_eq.1 h; omega), h1⟩
    exact ⟨decide_eq_false (by omega), decide_eq_false h9⟩
   obtain ⟨t8, ht8, hk8⟩ := key
   clear hR h8 e00
   cases t8 with
   | true =>
    obtain ⟨t9, t92⟩ := hk8 rfl
    clear hk8
    go_enter Tryz.func47, Tryz.ntmps47
    go_wp2_with fail
    go_loopw [3, 4] (fun m i wr => ∃ (j n : Nat), j ≤ x.size ∧ i = .int .i64 j ∧ m = .int .i64 n ∧ Hid (n < 10 ^ j) ∧ Hid (R = if (x.data.toList.drop j).all isDigU = true then some (cntV (x.data.toList.drop j) n) else none) ∧ w = wr) (fun _ i _ => x.size - (intOf i).toNat)
    case atStart => exact ⟨0, 0, by omega, rfl, rfl, by show _ < _; decide, HX, rfl⟩
    case round =>
     clear HX
     obtain ⟨j, n, hj, rfl, rfl, HN, HS, rfl⟩ := hrel
     by_cases hlt : j < x.size
     ·
      have u1 : decide ((j : Int) < (x.size : Int)) = true := decide_eq_true (by omega)
      have u2 : decide (j < x.size) = true := decide_eq_true hlt
      have hcj : x[j].toNat < 256 := x[j].toNat_lt
      have hn6 : n ≤ 1000000 := by
       have h1 := HN.out
       have h2 : (10 : Nat) ^ j ≤ 10 ^ 6 := Nat.pow_le_pow_right (by omega) (by omega)
       omega
      have e1 : (x.data.toList[j]'(by omega)) = x[j] := rfl
      by_cases hd : 48 ≤ x[j].toNat ∧ x[j].toNat ≤ 57
      ·
       have hdg : isDigU x[j] = true := by simpa [isDigU] using hd
       obtain ⟨hd1, hd2⟩ := hd
       obtain ⟨d, hde⟩ : ∃ d, x[j].toNat = d + 48 := ⟨x[j].toNat - 48, by omega⟩
       have HS2 : Hid (R = if (x.data.toList.drop (j + 1)).all isDigU = true then some (cntV (x.data.toList.drop (j + 1)) ((n * 10 + d : Nat) : Int)) else none) := by
        show _ = _
        rw [HS.out, all_dropN _ _ _ (by omega), cntV_drop _ _ (by omega)]
        rw [e1, hdg, hde]
        have e2 : ((n : Int) * 10 + (((d + 48 : Nat) : Int) - 48)) = ((n * 10 + d : Nat) : Int) := by omega
        rw [e2]
        rfl
       have HN2 : Hid (n * 10 + d < 10 ^ (j + 1)) := by
        show _ < _
        have := HN.out
        rw [Nat.pow_succ]
        omega
       have hd9 : d ≤ 9 := by omega
       have v1 : decide ((x[j].toNat : Int) < 48) = false := decide_eq_false (by omega)
       have v2 : decide ((57 : Int) < (x[j].toNat : Int)) = false := decide_eq_false (by omega)
       have w1 : IntKind.u8.wrap ((x[j].toNat : Int) - 48) = (d : Int) := by rw [IntKind.wrap_u8]; omega
       have w2 : IntKind.i64.wrap (10 * (n : Int)) = 10 * (n : Int) := IntWalk.i64_in _ (by omega)
       have w3 : IntKind.i64.wrap (10 * (n : Int) + (d : Int)) = ((n * 10 + d : Nat) : Int) := by rw [IntWalk.i64_in _ (by omega)]; omega
       have w4 : IntKind.i64.wrap (d : Int) = (d : Int) := IntWalk.i64_in _ (by omega)
       clear HS HN hdg hde e1
       go_wp2_with fail
       go_roundw
       case rel => exact ⟨j + 1, n * 10 + d, by omega, by simp, by simp; try omega, HN2, HS2, trivial⟩
       case measure => simp only [intOf]; omega
      ·
       have hdg : isDigU x[j] = false := by
        cases h : isDigU x[j] with
        | false => rfl
        | true => exact absurd (by simpa [isDigU] using h) hd
       have hRn : R = none := by
        rw [HS.out, all_dropN _ _ _ (by omega)]
        rw [e1, hdg]
        rfl
       clear HS HN hdg e1
       subst hRn
       by_cases h4 : x[j].toNat < 48
       ·
        have v1 : decide ((x[j].toNat : Int) < 48) = true := decide_eq_true (by omega)
        clear hd
        go_wp2_with fail
        go_ret
        exact ⟨rfl, rfl⟩
       ·
        have v1 : decide ((x[j].toNat : Int) < 48) = false := decide_eq_false (by omega)
        have v2 : decide ((57 : Int) < (x[j].toNat : Int)) = true := decide_eq_true (by omega)
        clear hd
        go_wp2_with fail
        go_ret
        exact ⟨rfl, rfl⟩
     ·
      have u1 : decide ((j : Int) < (x.size : Int)) = false := decide_eq_false (by omega)
      have u2 : decide (j < x.size) = false := decide_eq_false hlt
      have hR2 : R = some (n : Int) := by
       rw [HS.out, List.drop_of_length_le (by omega)]
       rfl
      clear HS HN
      subst hR2
      go_wp2_with fail
      go_ret
      exact ⟨rfl, rfl⟩
   | false =>
    clear hk8
    go_enter Tryz.func47, Tryz.ntmps47
    go_wp2_with fail
    go_loopw [3, 4] (fun m i wr => ∃ (j n : Nat), j ≤ x.size ∧ i = .int .i64 j ∧ m = .int .i64 n ∧ Hid (n < 10 ^ j) ∧ Hid (R = if (x.data.toList.drop j).all isDigU = true then some (cntV (x.data.toList.drop j) n) else none) ∧ w = wr) (fun _ i _ => x.size - (intOf i).toNat)
    case atStart => exact ⟨0, 0, by omega, rfl, rfl, by show _ < _; decide, HX, rfl⟩
    case round =>
     clear HX
     obtain ⟨j, n, hj, rfl, rfl, HN, HS, rfl⟩ := hrel
     by_cases hlt : j < x.size
     ·
      have u1 : decide ((j : Int) < (x.size : Int)) = true := decide_eq_true (by omega)
      have u2 : decide (j < x.size) = true := decide_eq_true hlt
      have hcj : x[j].toNat < 256 := x[j].toNat_lt
      have hn6 : n ≤ 1000000 := by
       have h1 := HN.out
       have h2 : (10 : Nat) ^ j ≤ 10 ^ 6 := Nat.pow_le_pow_right (by omega) (by omega)
       omega
      have e1 : (x.data.toList[j]'(by omega)) = x[j] := rfl
      by_cases hd : 48 ≤ x[j].toNat ∧ x[j].toNat ≤ 57
      ·
       have hdg : isDigU x[j] = true := by simpa [isDigU] using hd
       obtain ⟨hd1, hd2⟩ := hd
       obtain ⟨d, hde⟩ : ∃ d, x[j].toNat = d + 48 := ⟨x[j].toNat - 48, by omega⟩
       have HS2 : Hid (R = if (x.data.toList.drop (j + 1)).all isDigU = true then some (cntV (x.data.toList.drop (j + 1)) ((n * 10 + d : Nat) : Int)) else none) := by
        show _ = _
        rw [HS.out, all_dropN _ _ _ (by omega), cntV_drop _ _ (by omega)]
        rw [e1, hdg, hde]
        have e2 : ((n : Int) * 10 + (((d + 48 : Nat) : Int) - 48)) = ((n * 10 + d : Nat) : Int) := by omega
        rw [e2]
        rfl
       have HN2 : Hid (n * 10 + d < 10 ^ (j + 1)) := by
        show _ < _
        have := HN.out
        rw [Nat.pow_succ]
        omega
       have hd9 : d ≤ 9 := by omega
       have v1 : decide ((x[j].toNat : Int) < 48) = false := decide_eq_false (by omega)
       have v2 : decide ((57 : Int) < (x[j].toNat : Int)) = false := decide_eq_false (by omega)
       have w1 : IntKind.u8.wrap ((x[j].toNat : Int) - 48) = (d : Int) := by rw [IntKind.wrap_u8]; omega
       have w2 : IntKind.i64.wrap (10 * (n : Int)) = 10 * (n : Int) := IntWalk.i64_in _ (by omega)
       have w3 : IntKind.i64.wrap (10 * (n : Int) + (d : Int)) = ((n * 10 + d : Nat) : Int) := by rw [IntWalk.i64_in _ (by omega)]; omega
       have w4 : IntKind.i64.wrap (d : Int) = (d : Int) := IntWalk.i64_in _ (by omega)
       clear HS HN hdg hde e1
       go_wp2_with fail
       go_roundw
       case rel => exact ⟨j + 1, n * 10 + d, by omega, by simp, by simp; try omega, HN2, HS2, trivial⟩
       case measure => simp only [intOf]; omega
      ·
       have hdg : isDigU x[j] = false := by
        cases h : isDigU x[j] with
        | false => rfl
        | true => exact absurd (by simpa [isDigU] using h) hd
       have hRn : R = none := by
        rw [HS.out, all_dropN _ _ _ (by omega)]
        rw [e1, hdg]
        rfl
       clear HS HN hdg e1
       subst hRn
       by_cases h4 : x[j].toNat < 48
       ·
        have v1 : decide ((x[j].toNat : Int) < 48) = true := decide_eq_true (by omega)
        clear hd
        go_wp2_with fail
        go_ret
        exact ⟨rfl, rfl⟩
       ·
        have v1 : decide ((x[j].toNat : Int) < 48) = false := decide_eq_false (by omega)
        have v2 : decide ((57 : Int) < (x[j].toNat : Int)) = true := decide_eq_true (by omega)
        clear hd
        go_wp2_with fail
        go_ret
        exact ⟨rfl, rfl⟩
     ·
      have u1 : decide ((j : Int) < (x.size : Int)) = false := decide_eq_false (by omega)
      have u2 : decide (j < x.size) = false := decide_eq_false hlt
      have hR2 : R = some (n : Int) := by
       rw [HS.out, List.drop_of_length_le (by omega)]
       rfl
      clear HS HN
      subst hR2
      go_wp2_with fail
      go_ret
      exact ⟨rfl, rfl⟩
theorem have_any (ws : List ByteArray) (_hws : ws.length ≤ 1000000) (a : Option Addr) (c k : Nat) (_hk : k ≤ 1000000) (y : ByteArray) (w : World) (h : StrAt w a ws) : Calls Tryz.prog 94 #[.slice a ws.length c, .int .i64 (k : Int), .string y] w fun e w' => e = .returned (.bool (skipL (ws.drop k) y).1) ∧ w = w' := by
 by_cases hkl : k < ws.length
 ·
  obtain ⟨b, off, rfl, _, hc⟩ := h k hkl
  have hd : (skipL (ws.drop k) y).1 = (ws[k].toList == y.toList) := by
   rw [List.drop_eq_getElem_cons hkl, skipL]
   split <;> simp_all
  rw [hd]
  generalize ws[k] = x at *
  have t1 : decide ((k : Int) < (ws.length : Int)) = true := decide_eq_true (by omega)
  have t2 : decide (k < ws.length) = true := decide_eq_true hkl
  generalize ws.length = n at *
  clear hd h
  go_enter Tryz.func94, Tryz.ntmps94
  go_wp2_with fail
  go_ret
  exact ⟨rfl, rfl⟩
 ·
  have hd : (skipL (ws.drop k) y).1 = false := by rw [List.drop_of_length_le (by omega), skipL]
  rw [hd]
  have t1 : decide ((k : Int) < (ws.length : Int)) = false := decide_eq_false (by omega)
  have t2 : decide (k < ws.length) = false := decide_eq_false hkl
  generalize ws.length = n at *
  clear hd h
  go_enter Tryz.func94, Tryz.ntmps94
  go_wp2_with fail
  go_ret
  exact ⟨rfl, rfl⟩
theorem kfind_some {x : ByteArray} : ∀ {l : List ByteArray} {i j : Nat}, kfind x l i = some j → i ≤ j ∧ l[j - i]? = some x
  | [], i, j, h => by cases h
  | y :: r, i, j, h => by
    rw [kfind] at h
    split at h
    · rename_i hy
      cases h
      exact ⟨Nat.le_refl _, by simpa using of_decide_eq_true hy⟩
    · obtain ⟨h1, h2⟩ := kfind_some h
      refine ⟨by omega, ?_⟩
      rw [show j - i = (j - (i + 1)) + 1 by omega, List.getElem?_cons_succ]
      exact h2
theorem kfind_none {x : ByteArray} : ∀ {l : List ByteArray} {i : Nat}, kfind x l i = none → x ∉ l
  | [], i, _ => by simp
  | y :: r, i, h => by
    rw [kfind] at h
    split at h
    · cases h
    · rename_i hy
      intro hm
      rcases List.mem_cons.1 hm with rfl | hm
      · exact hy (decide_eq_true rfl)
      · exact kfind_none h hm
theorem kwords_inj : ∀ i j : Nat, i < 8 → j < 8 → kwords[i]? = kwords[j]? → i = j := by
  intro i j hi hj h
  have key : (List.range 8).all (fun i => (List.range 8).all fun j => decide (i = j) || !decide ((kwords[i]?.map (fun x => x.data.toList)) = (kwords[j]?.map (fun x => x.data.toList)))) = true := by decide
  have h1 := List.all_eq_true.1 key i (List.mem_range.2 hi)
  have h2 := List.all_eq_true.1 h1 j (List.mem_range.2 hj)
  rw [h] at h2
  simpa using h2
theorem kindL_at {x : ByteArray} {i : Nat} (hi : i < 8) : kindL x = some i ↔ kwords[i]? = some x := by
  constructor
  · intro h
    have := (kfind_some h).2
    simpa using this
  · intro h
    cases hk : kindL x with
    | none => exact absurd (List.mem_of_getElem? h) (kfind_none hk)
    | some j =>
      have h2 := (kfind_some hk).2
      rw [Nat.sub_zero] at h2
      have hj : j < 8 := by
        have := (List.getElem?_eq_some_iff.1 h2).1
        exact this
      rw [kwords_inj j i hj hi (h2.trans h.symm)]
theorem kword_at {i : Nat} (h1 : 1 ≤ i) (h7 : i ≤ 7) : kwords[i]? = some (bs (wordK i)) := by
  obtain rfl | rfl | rfl | rfl | rfl | rfl | rfl : i = 1 ∨ i = 2 ∨ i = 3 ∨ i = 4 ∨ i = 5 ∨ i = 6 ∨ i = 7 := by omega
  all_goals rfl
def kzF (x : ByteArray) (i : Nat) : Nat := match kindL x with | some j => if j < i then j else 0 | none => 0
theorem kzF_one {x : ByteArray} : kzF x 1 = 0 := by
  unfold kzF
  split
  · split <;> omega
  · rfl
theorem kzF_hit {x : ByteArray} {i : Nat} (h1 : 1 ≤ i) (h7 : i ≤ 7) (h : bs (wordK i) = x) : kzF x (i + 1) = i := by
  have : kindL x = some i := (kindL_at (by omega)).2 (by rw [← h]; exact kword_at h1 h7)
  unfold kzF
  rw [this]
  simp
theorem kzF_miss {x : ByteArray} {i : Nat} (h1 : 1 ≤ i) (h7 : i ≤ 7) (h : bs (wordK i) ≠ x) : kzF x (i + 1) = kzF x i := by
  unfold kzF
  cases hk : kindL x with
  | none => rfl
  | some j =>
    have hne : j ≠ i := by
      rintro rfl
      have := (kindL_at (x := x) (by omega)).1 hk
      rw [kword_at h1 h7] at this
      exact h (Option.some.inj this)
    dsimp only
    by_cases hj : j < i
    · rw [if_pos (by omega), if_pos hj]
    · rw [if_neg (by omega), if_neg hj]
theorem kzF_end {x : ByteArray} (hx : 0 < x.size) : (kindL x = none ∧ kzF x 8 = 0) ∨ (∃ k, kindL x = some k ∧ kzF x 8 = k ∧ 1 ≤ k ∧ k ≤ 7) := by
  cases hk : kindL x with
  | none => left; exact ⟨rfl, by unfold kzF; rw [hk]⟩
  | some j =>
    right
    have h2 := (kfind_some hk).2
    rw [Nat.sub_zero] at h2
    have hj : j < 8 := (List.getElem?_eq_some_iff.1 h2).1
    have h0 : j ≠ 0 := by
      rintro rfl
      have : (⟨#[]⟩ : ByteArray) = x := Option.some.inj h2
      rw [← this] at hx
      exact absurd hx (by decide)
    exact ⟨j, rfl, by unfold kzF; rw [hk]; simp [hj], by omega, by omega⟩
theorem lineL_other {x : ByteArray} {r : List ByteArray} (h : (x.toList == (⟨#[102, 105, 101, 108, 100]⟩ : ByteArray).toList) = false) : lineL (x :: r) = none := by
  have e : (skipL (x :: r) ⟨#[102, 105, 101, 108, 100]⟩).1 = false := by rw [skipL, if_neg (by rw [h]; decide)]
  unfold lineL
  rw [e]
  rfl
theorem lineL_short {ws : List ByteArray} (h : ws.length < 3) : lineL ws = none := by
  match ws, h with
  | [], _ => rfl
  | [x], _ =>
    cases hx : (x.toList == (⟨#[102, 105, 101, 108, 100]⟩ : ByteArray).toList) with
    | false => exact lineL_other hx
    | true =>
      unfold lineL
      simp only [skipL, hx, if_true, takeW]
  | [x, y], _ =>
    cases hx : (x.toList == (⟨#[102, 105, 101, 108, 100]⟩ : ByteArray).toList) with
    | false => exact lineL_other hx
    | true =>
      unfold lineL
      simp only [skipL, hx, if_true, takeW, kindW]
  | x :: y :: z :: r, h => simp at h; omega
theorem lineL_rest {x nm kd : ByteArray} {r : List ByteArray} (h : (x.toList == (⟨#[102, 105, 101, 108, 100]⟩ : ByteArray).toList) = true) : lineL (x :: nm :: kd :: r) = match kindL kd with
    | none => none
    | some k => (match readKL k (nullsW (skipL r ⟨#[100, 111, 119, 110]⟩).2).2 { own0 nm with kind := (k : Int), down := (skipL r ⟨#[100, 111, 119, 110]⟩).1, nulls := (nullsW (skipL r ⟨#[100, 111, 119, 110]⟩).2).1 } with
        | some z => if z.1.isEmpty then some z.2 else none
        | none => none) := by
  unfold lineL
  simp only [skipL, h, if_true, takeW, kindW]
  cases kindL kd <;> rfl
theorem Blk.f14 {W : World} {B : Nat} {t : TypeId} {cs : Array Value} (h : Blk W B t cs) : W.frozen? ⟨B, 0, none⟩ = false ∧ W.frozen? ⟨B, 1, none⟩ = false ∧ W.frozen? ⟨B, 2, none⟩ = false ∧ W.frozen? ⟨B, 3, none⟩ = false ∧ W.frozen? ⟨B, 4, none⟩ = false ∧ W.frozen? ⟨B, 5, none⟩ = false ∧ W.frozen? ⟨B, 6, none⟩ = false ∧ W.frozen? ⟨B, 7, none⟩ = false ∧ W.frozen? ⟨B, 8, none⟩ = false ∧ W.frozen? ⟨B, 9, none⟩ = false ∧ W.frozen? ⟨B, 10, none⟩ = false ∧ W.frozen? ⟨B, 11, none⟩ = false ∧ W.frozen? ⟨B, 12, none⟩ = false ∧ W.frozen? ⟨B, 13, none⟩ = false := ⟨h.frozen 0, h.frozen 1, h.frozen 2, h.frozen 3, h.frozen 4, h.frozen 5, h.frozen 6, h.frozen 7, h.frozen 8, h.frozen 9, h.frozen 10, h.frozen 11, h.frozen 12, h.frozen 13⟩
end Go.Proofs.YtcbjnifoojjipaaGreatDoor
