/- What Parse reads, Print tells and the other way round (lemmas); awake (contract; nothing is claimed here). -/
import Derived.Test.YtffhbellpcneeaaJ12
import Derived.Test.YtffhbellpcneeaaVSame
namespace Go.Proofs.Ytffhbellpcneeaa
open Go.RowKit Go.Vf
theorem stop_nil : Stop [] := fun x hx => by simp at hx
theorem parse_txt {p : Prt} (hm : may p = true) (hd : dep p ≤ 16) (hl : (txt p).length ≤ 65536) : parseL (txt p) = .ok p := by
  have := rd_txt p hm 16 hd [] stop_nil
  rw [List.append_nil] at this
  rw [parseL, if_neg (by omega), this]
  rfl
theorem parse_inv {l : List UInt8} {p : Prt} (h : parseL l = .ok p) : l = txt p ∧ may p = true ∧ dep p ≤ 16 ∧ l.length ≤ 65536 := by
  unfold parseL at h
  split at h
  · cases h
  · rename_i hl
    split at h
    · rename_i q rest hr
      split at h
      · rename_i he
        simp only [Except.ok.injEq] at h
        subst h he
        obtain ⟨e1, e2, e3⟩ := rd_inv 16 _ _ _ (by omega) hr
        rw [List.append_nil] at e1
        exact ⟨e1, e2, e3, by omega⟩
      · cases h
    · cases h
theorem parseL_err {l : List UInt8} {why : Int} {i : Nat} (h : parseL l = .error (why, i)) : (why = 100 ∧ i ≤ l.length ∧ l.length ≤ 65536) ∨ (why = 2 ∧ i = 0 ∧ 65536 < l.length) := by
  unfold parseL at h
  split at h
  · rename_i hl
    simp only [Except.error.injEq, Prod.mk.injEq] at h
    exact .inr ⟨h.1.symm, h.2.symm, hl⟩
  · split at h
    · split at h
      · cases h
      · simp only [Except.error.injEq, Prod.mk.injEq] at h
        exact .inl ⟨h.1.symm, by omega, by omega⟩
    · simp only [Except.error.injEq, Prod.mk.injEq] at h
      exact .inl ⟨h.1.symm, by omega, by omega⟩
theorem txt_inj {p q : Prt} (hp : may p = true) (hq : may q = true) (h : txt p = txt q) : p = q := by
  have h1 := rd_txt p hp (max (dep p) (dep q)) (by omega) [] stop_nil
  have h2 := rd_txt q hq (max (dep p) (dep q)) (by omega) [] stop_nil
  rw [h, h2] at h1
  simpa using h1.symm
theorem parse_behind {l b : List UInt8} {p : Prt} {c : UInt8} (hc : c = 32 ∨ c = 41) (h : parseL l = .ok p) (hl : l.length + (b.length + 1) ≤ 65536) : parseL (l ++ c :: b) = .error (100, l.length) := by
  obtain ⟨rfl, hm, hd, _⟩ := parse_inv h
  have := rd_txt p hm 16 hd (c :: b) (fun x hx => by simp at hx; rw [← hx]; exact hc)
  rw [parseL, if_neg (by simp; omega), this]
  simp
theorem rdV_mono {f g : List UInt8 → Got} (h : ∀ t x, f t = .ok x → g t = .ok x) (l : List UInt8) (x : Prt × List UInt8) (hl : rdV f l = .ok x) : rdV g l = .ok x := by
  cases l with
  | nil => simp [rdV] at hl
  | cons c t =>
    rw [rdV] at hl ⊢
    split
    · rename_i hc; rw [if_pos hc] at hl; exact hl
    · rename_i hc; rw [if_neg hc] at hl
      split
      · rename_i hc; rw [if_pos hc] at hl; exact hl
      · rename_i hc; rw [if_neg hc] at hl
        split
        · rename_i hc; rw [if_pos hc] at hl; exact hl
        · rename_i hc; rw [if_neg hc] at hl
          split
          · rename_i hc; rw [if_pos hc] at hl; exact hl
          · rename_i hc; rw [if_neg hc] at hl
            split
            · rename_i hc; rw [if_pos hc] at hl; exact hl
            · rename_i hc; rw [if_neg hc] at hl
              split
              · rename_i hc; rw [if_pos hc] at hl; exact h t x hl
              · rename_i hc; rw [if_neg hc] at hl; exact hl
theorem tupR_mono {f g : List UInt8 → Got} (h : ∀ t x, f t = .ok x → g t = .ok x) : ∀ (k : Nat) (acc : List Prt) (t : List UInt8) (x : Prt × List UInt8), tupR f k acc t = .ok x → tupR g k acc t = .ok x
  | 0, _, _, _, hl => by simp [tupR] at hl
  | k + 1, acc, t, x, hl => by
    rw [tupR] at hl ⊢
    split
    · rename_i hc; rw [if_pos hc] at hl; exact hl
    · rename_i hc; rw [if_neg hc] at hl
      split
      · rename_i hc; rw [if_pos hc] at hl
        cases hf : f t with
        | error e => rw [hf] at hl; cases hl
        | ok y => rw [hf] at hl; rw [h t y hf]; exact tupR_mono h k _ _ x hl
      · rename_i hc; rw [if_neg hc] at hl
        split
        · rename_i hc; rw [if_pos hc] at hl
          cases hf : f (t.drop 1) with
          | error e => rw [hf] at hl; cases hl
          | ok y => rw [hf] at hl; rw [h _ y hf]; exact tupR_mono h k _ _ x hl
        · rename_i hc; rw [if_neg hc] at hl; exact hl
theorem rd_mono : ∀ (n : Nat) (l : List UInt8) (x : Prt × List UInt8), rd n l = .ok x → rd (n + 1) l = .ok x
  | 0, l, x, h => rdV_mono (fun t x hx => by cases hx) l x h
  | n + 1, l, x, h => rdV_mono (fun t x hx => tupR_mono (fun t x hx => rd_mono n t x hx) _ _ _ _ hx) l x h
/-- Within brackets it is an item; of the deepest ones it is too deep. -/
theorem parse_within {l : List UInt8} {p : Prt} (h : parseL l = .ok p) (hl : l.length + 2 ≤ 65536) : (dep p = 16 → ∃ i, parseL (40 :: (l ++ [41])) = .error (100, i)) ∧ (dep p ≠ 16 → parseL (40 :: (l ++ [41])) = .ok (tupP [p])) := by
  obtain ⟨rfl, hm, hd, _⟩ := parse_inv h
  constructor
  · intro h16
    have hbad : ∃ r, rd 15 (txt p ++ [41]) = .error r := by
      cases hr : rd 15 (txt p ++ [41]) with
      | error r => exact ⟨r, rfl⟩
      | ok x =>
        have h1 := rd_mono 15 _ _ hr
        rw [rd_txt p hm 16 hd [41] (fun x hx => by simp at hx; exact .inr hx.symm)] at h1
        simp only [Except.ok.injEq] at h1
        subst h1
        have := (rd_inv 15 _ _ _ (by simp; omega) hr).2.2
        omega
    obtain ⟨r, hr⟩ := hbad
    have hrd : rd 16 (40 :: (txt p ++ [41])) = .error r := by
      rw [rd, rdV, if_neg (by simp [isDig]), if_neg (by decide), if_neg (by decide), if_neg (by decide), if_neg (by decide), if_pos rfl, tupR, if_neg (by rw [txt_head hm]; simp), if_pos (by rfl), hr]
    exact ⟨_, by rw [parseL, if_neg (by simp; omega), hrd]⟩
  · intro hne
    have e : 40 :: (txt p ++ [41]) = txt (tupP [p]) := by rw [txt_tup, txtB, txtB]; simp
    rw [e]
    refine parse_txt ?_ ?_ ?_
    · rw [tupP, may_mk]
      have h0 : (⟨#[]⟩ : ByteArray).size = 0 := rfl
      generalize (⟨#[]⟩ : ByteArray) = E at *
      simp [hm, h0, isRawK]
    · rw [tupP, dep, if_pos rfl, depL, depL]; omega
    · rw [← e]; simp; omega

/-! ### awake -/
theorem print_one : printL false [1] = [49] := by
  have h : hvl [1] = 1 := rfl
  rw [printL, h, decD_pos (by omega), show (1 : Nat) / 10 = 0 from rfl, decD_zero]
  rfl
def p0 : Prt := tupP [numP false [1], tupP [nullP], rawP 5 [97, 34], rawP 6 [98, 10], rawP 3 [255], boolP false]
abbrev s0 : ByteArray := ⟨#[40, 49, 32, 40, 110, 117, 108, 108, 41, 32, 39, 97, 34, 39, 32, 34, 98, 92, 120, 48, 97, 34, 32, 120, 102, 102, 32, 110, 111, 41]⟩
theorem txt_p0 : txt p0 = s0.data.toList := by
  rw [p0, txt_tup]
  simp only [txtB, txt_num, print_one, txt_tup, txt_raw (show isRawK 5 = true from rfl), txt_raw (show isRawK 6 = true from rfl), txt_raw (show isRawK 3 = true from rfl)]
  rw [show txt nullP = [110, 117, 108, 108] from by simp [txt, nullP], show txt (boolP false) = [110, 111] from by simp [txt, boolP]]
  kernel_rfl
theorem may_p0 : may p0 = true := by kernel_rfl
theorem dep_p0 : dep p0 ≤ 16 := by
  have : dep p0 = 2 := by kernel_rfl
  omega
theorem parse_s0 : parseL s0.data.toList = .ok p0 := by
  rw [← txt_p0]
  exact parse_txt may_p0 dep_p0 (by rw [txt_p0]; decide)
abbrev s1 : ByteArray := ⟨#[40, 49, 32, 32, 50, 41]⟩
theorem parse_s1 : parseL s1.data.toList = .error (100, 3) := by
  have h1 : rd 15 [49, 32, 32, 50, 41] = .ok (numP false [1], [32, 32, 50, 41]) := by
    have := rd_txt (numP false [1]) (by kernel_rfl) 15 (by rw [numP, dep, if_neg (by decide)]; omega) [32, 32, 50, 41] (fun x hx => by simp at hx; exact .inl hx.symm)
    rw [txt_num, print_one] at this
    exact this
  have h2 : rd 15 [32, 50, 41] = .error 3 := by kernel_rfl
  have h3 : rd 16 [40, 49, 32, 32, 50, 41] = .error 3 := by
    rw [rd, rdV, if_neg (by simp [isDig]), if_neg (by decide), if_neg (by decide), if_neg (by decide), if_neg (by decide), if_pos rfl]
    show tupR (rd 15) (4 + 1 + 1) [] [49, 32, 32, 50, 41] = _
    rw [tupR, if_neg (by decide), if_pos (show ([] : List Prt).length = 0 from rfl), h1]
    show tupR (rd 15) (4 + 1) [numP false [1]] [32, 32, 50, 41] = _
    rw [tupR, if_neg (by decide), if_neg (by simp), if_pos ⟨by simp, by decide⟩]
    rw [show ([32, 32, 50, 41] : List UInt8).drop 1 = [32, 50, 41] from rfl, h2]
  show parseL [40, 49, 32, 32, 50, 41] = _
  rw [parseL, if_neg (by decide), h3]
  rfl
theorem prn_p0 : prnV p0 = .tuple #[.string s0, .int .i64 0] := by
  rw [prnV, txt_p0, if_pos (by decide), bs_of]
set_option maxHeartbeats 1000000 in
set_option maxRecDepth 20000 in
theorem awake_any (w : World) : Calls Try.prog 7 #[] w fun e w' => e = .returned (.bool true) ∧ Below w.heap.size w w' := by
  have h1 := lparse_any s0 (by decide) w
  rw [parse_s0] at h1
  have h3 := fun w' => lparse_any s1 (by decide) w'
  rw [parse_s1] at h3
  go_enter Try.func7, Try.ntmps7
  go_wp2_with fail
  refine h1.mono ?_
  rintro _ w1 ⟨hb1, v, rfl, hv⟩
  have h2 := lprint_any v p0 may_p0 _ _ w1 (Nat.le_refl _) hv
  rw [prn_p0] at h2
  obtain ⟨g, hg⟩ : ∃ g, v = .iface 78 (.pointer (some ⟨g, 0, none⟩)) := by
    generalize hp : p0 = p at hv
    cases hv with
    | tup => exact ⟨_, rfl⟩
    | _ => simp [p0, tupP] at hp
  subst hg
  clear hv h1
  go_wp2_with fail
  refine h2.mono ?_
  rintro _ w2 ⟨rfl, hb2⟩
  have h4 := h3 w2
  clear h2 h3
  go_wp2_with fail
  refine h4.mono ?_
  rintro _ w3 ⟨hb3, rfl⟩
  clear h4
  go_wp2_with fail
  go_ret
  exact ⟨rfl, hb1.trans ((hb2.mono hb1.size).trans (hb3.mono (Nat.le_trans hb1.size hb2.size)))⟩
end Go.Proofs.Ytffhbellpcneeaa
