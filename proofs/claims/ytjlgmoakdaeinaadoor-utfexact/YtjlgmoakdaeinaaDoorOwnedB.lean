/- What dovetaillaw03.owned does (a contract; nothing is claimed here). -/
import Derived.Test.YtjlgmoakdaeinaaDoorOwnedC
namespace Go.Proofs.YtjlgmoakdaeinaaDoor
open Go.RowKit Go.Vf

theorem Many.cellT {w : World} {base gT cap : Nat} {vs : List Value} {C : Nat → List Int} (m : Many w base (.slice (some ⟨gT, 0, none⟩) vs.length cap) vs C) (i : Nat) (hi : i < vs.length) : w.cell? ⟨gT, i, none⟩ = some vs[i] := by
  rcases m.row.form with ⟨h, _⟩ | ⟨g, c, h, _, _, hc⟩
  · cases h
  · simp only [Value.slice.injEq, Option.some.injEq, Addr.mk.injEq] at h
    obtain ⟨⟨rfl, _⟩, _⟩ := h
    exact hc i hi

/-- The form of a list's value. -/
theorem Many.val {w : World} {base : Nat} {T : Value} {vs : List Value} {C : Nat → List Int} (m : Many w base T vs C) (i : Nat) (hi : i < vs.length) : (∃ a cap, vs[i] = .slice a (C i).length cap) ∧ ((C i).length ≠ 0 → ∃ g cap, vs[i] = .slice (some ⟨g, 0, none⟩) (C i).length cap ∧ base ≤ g ∧ (∀ j, j < (C i).length → ∃ x, w.cell? ⟨g, j, none⟩ = some (.int .i64 x)) ∧ ∀ j, w.frozen? ⟨g, j, none⟩ = false) := by
  refine ⟨(m.each i hi).ints.val, fun hne => ?_⟩
  rcases (m.each i hi).form with ⟨_, h⟩ | ⟨g, cap, h, hb, _, _, hc, hf⟩
  · rw [h] at hne; exact absurd rfl hne
  · exact ⟨g, cap, h, hb, fun j hj => ⟨_, hc j hj⟩, hf⟩

theorem set_take (l : List Int) (k : Nat) (x : Int) (h : k < l.length) (ht : l.take k = List.replicate k x) : (l.set k x).take (k + 1) = List.replicate (k + 1) x := by
  rw [List.take_succ_eq_append_getElem (by simpa using h), List.take_set_of_le (Nat.le_refl _), ht]
  simp [List.replicate_succ']

set_option maxHeartbeats 2000000 in
set_option maxRecDepth 20000 in
theorem owned_any (T : Value) (vs : List Value) (C : Nat → List Int) (base : Nat) (w : World) (m : Many w base T vs C) (hn : vs.length ≤ 2147483648) (hC : ∀ j, (C j).length ≤ 4294967296) (hbase : base ≤ w.heap.size) :
    Calls Tryd.prog 19 #[T] w fun e w' => e = .returned (.bool true) ∧ Below base w w' := by
  rcases m.row.form with ⟨rfl, hvs⟩ | ⟨gT, capT, rfl, hgT, _, _⟩
  · clear m
    go_enter Tryd.func19, Tryd.ntmps19
    go_wp2
    go_loopw [4] (fun i wr => i = .int .i64 0 ∧ wr = w) (fun _ _ => 0)
    case atStart => exact ⟨rfl, rfl⟩
    case round =>
      obtain ⟨rfl, rfl⟩ := hrel
      go_wp2
      go_loopw [6] (fun i wr' => i = .int .i64 0 ∧ wr' = wr) (fun _ _ => 0)
      case atStart => exact ⟨rfl, rfl⟩
      case round =>
        obtain ⟨rfl, rfl⟩ := hrel
        go_wp2
        go_loopw [9] (fun i wr' => i = .int .i64 0 ∧ wr' = wr) (fun _ _ => 0)
        case atStart => exact ⟨rfl, rfl⟩
        case round =>
          obtain ⟨rfl, rfl⟩ := hrel
          go_wp2
          go_ret
          exact ⟨rfl, Below.refl _ _⟩
  · obtain ⟨n, hnn⟩ : ∃ n, n = vs.length := ⟨_, rfl⟩
    have HN : Hid (n = vs.length) := hnn
    have hT : ∀ w' C', Many w' base (.slice (some ⟨gT, 0, none⟩) vs.length capT) vs C' → ∀ i (h : i < vs.length), w'.cell? ⟨gT, i, none⟩ = some vs[i] := fun w' C' m' i hi => m'.cellT i hi
    obtain ⟨T, hTT⟩ : ∃ T, T = Value.slice (some ⟨gT, 0, none⟩) vs.length capT := ⟨_, rfl⟩
    have HT : Hid (T = Value.slice (some ⟨gT, 0, none⟩) vs.length capT) := hTT
    rw [← hTT] at m hT
    rw [← hnn] at hn ⊢
    clear hnn hTT
    go_enter Tryd.func19, Tryd.ntmps19
    go_wp2
    go_loopw [4] (fun s4 wr => ∃ (i : Nat) (D : Nat → List Int), i ≤ n ∧ s4 = .int .i64 i ∧ Many wr base T vs D ∧ Hid ((∀ j, (D j).length = (C j).length) ∧ ∀ j, j < i → D j = List.replicate (C j).length (1000 + (j : Int))) ∧ Below base w wr) (fun s4 _ => n - (intOf s4).toNat)
    case atStart => exact ⟨0, C, Nat.zero_le _, rfl, m, ⟨fun _ => rfl, fun j hj => absurd hj (by omega)⟩, Below.refl _ _⟩
    case round =>
      obtain ⟨i, D, hi, rfl, mD, HD, hbel⟩ := hrel
      by_cases hlt : i < n
      · have hiv : i < vs.length := by rw [← HN.out]; exact hlt
        obtain ⟨V, hVV⟩ : ∃ V, V = wr := ⟨_, rfl⟩
        obtain ⟨len, hlen⟩ : ∃ len, len = (C i).length := ⟨_, rfl⟩
        have HLEN : Hid (len = (C i).length) := hlen
        have hl32 : len ≤ 4294967296 := by rw [hlen]; exact hC i
        obtain ⟨va, vc, hval⟩ := (mD.val i hiv).1
        rw [HD.out.1 i, ← hlen] at hval
        have HVAL : Hid (vs[i] = .slice va len vc) := hval
        clear hVV hlen hval
        go_wp2
        go_loopw [5] (fun s5 wr2 => ∃ (k : Nat) (E : Nat → List Int), k ≤ len ∧ s5 = .int .i64 k ∧ Many wr2 base T vs E ∧ Hid ((∀ j, (E j).length = (C j).length) ∧ (∀ j, j < i → E j = List.replicate (C j).length (1000 + (j : Int))) ∧ (E i).take k = List.replicate k (1000 + (i : Int))) ∧ Below base w wr2) (fun s5 _ => len - (intOf s5).toNat)
        case atStart => exact ⟨0, D, Nat.zero_le _, rfl, mD, ⟨HD.out.1, HD.out.2, by simp⟩, hbel⟩
        case round =>
          clear mD HD hbel
          obtain ⟨k, E, hk, rfl, mE, HE, hbel⟩ := hrel
          have hct := hT wr E mE i hiv
          rw [HVAL.out] at hct
          have hEl : (E i).length = len := by rw [HE.out.1 i, ← HLEN.out]
          by_cases hkl : k < len
          · obtain ⟨g, vc', hv', hgb, hcs, hfs⟩ := (mE.val i hiv).2 (by omega)
            rw [HVAL.out] at hv'
            simp only [Value.slice.injEq] at hv'
            obtain ⟨rfl, _, rfl⟩ := hv'
            obtain ⟨x, hck⟩ := hcs k (by omega)
            have hfk := hfs k
            have mE2 := mE.set i hiv HVAL.out k (1000 + (i : Int))
            have hbel2 := hbel.setCell (p := ⟨g, k, none⟩) hgb (.int .i64 (1000 + (i : Int)))
            have HE2 : Hid ((∀ j, (if j = i then (E i).set k (1000 + (i : Int)) else E j).length = (C j).length) ∧ (∀ j, j < i → (if j = i then (E i).set k (1000 + (i : Int)) else E j) = List.replicate (C j).length (1000 + (j : Int))) ∧ (if i = i then (E i).set k (1000 + (i : Int)) else E i).take (k + 1) = List.replicate (k + 1) (1000 + (i : Int))) := by
              refine ⟨fun j => ?_, fun j hj => ?_, ?_⟩
              · by_cases e : j = i
                · rw [if_pos e, List.length_set, e]; exact HE.out.1 i
                · rw [if_neg e]; exact HE.out.1 j
              · rw [if_neg (by omega)]; exact HE.out.2.1 j hj
              · rw [if_pos rfl]; exact set_take _ _ _ (by omega) HE.out.2.2
            clear hcs hfs mE HE hbel hEl
            go_wp2
            go_roundw
            case rel => exact ⟨k + 1, _, by omega, by go_num, mE2, HE2, hbel2⟩
            case measure => simp [intOf]; omega
          · have HD2 : Hid ((∀ j, (E j).length = (C j).length) ∧ ∀ j, j < i + 1 → E j = List.replicate (C j).length (1000 + (j : Int))) := by
              refine ⟨HE.out.1, fun j hj => ?_⟩
              rcases Nat.lt_succ_iff_lt_or_eq.1 hj with h | rfl
              · exact HE.out.2.1 j h
              · have h1 := HE.out.2.2
                rw [List.take_of_length_le (by omega), show k = len by omega, HLEN.out] at h1
                exact h1
            clear HE hEl
            go_wp2
            go_roundw
            case rel => exact ⟨i + 1, E, by omega, by go_num, mE, HD2, hbel⟩
            case measure => simp [intOf]; omega
      · have hin : i = n := by omega
        obtain ⟨U, hU⟩ : ∃ U, U = wr := ⟨_, rfl⟩
        have hI : ∀ j (h : j < vs.length), IOwn wr base vs[j] (cont C j) := fun j h => by
          have h1 := mD.each j h
          rw [HD.out.2 j (by rw [hin, HN.out]; exact h)] at h1
          exact h1
        have hAh : Ahead wr base wr.heap.size T (.slice none 0 0) vs [] 0 C := by
          have hb : ∀ j (h : j < vs.length) b, vs[j].ownBlock = some b → b < wr.heap.size := fun j h b hb => own_lt (hI j h) hb
          exact ⟨⟨mD.row, LOwn.nil _ _, fun j h _ => hI j h, fun j h _ => (hI j h).rd (hb j h), fun j h => absurd h (by simp)⟩, fun h => hI 0 h, fun h => (hI 0 h).rd (hb 0 h),
            ⟨rfl, Nat.zero_le _, Nat.le_refl _, hb, fun b hb => own_lt mD.row hb, fun j h => absurd h (by simp), mD.apart⟩⟩
        obtain ⟨H, hH⟩ : ∃ H, H = wr.heap.size := ⟨_, rfl⟩
        rw [← hH] at hAh
        have hHw : H ≤ wr.heap.size := by omega
        have hbH : base ≤ H := by have := hbel.size; omega
        clear hI mD HD hH hU hT
        go_wp2
        go_loopw [3, 6] (fun LV s6 wr1 => ∃ (i : Nat) (xs : List Value), i ≤ n ∧ s6 = .int .i64 i ∧ Ahead wr1 base H T LV vs xs i C ∧ Below base w wr1 ∧ H ≤ wr1.heap.size) (fun _ s6 _ => n - (intOf s6).toNat)
        case atStart => exact ⟨0, [], Nat.zero_le _, rfl, hAh, hbel, hHw⟩
        case round =>
          clear hAh hHw hbel hin hlt hi
          obtain ⟨i2, xs, hi2, rfl, hA, hbel, hHw⟩ := hrel
          by_cases hlt : i2 < n
          · have hiv : i2 < vs.length := by rw [← HN.out]; exact hlt
            obtain ⟨va, vc, hval⟩ := (hA.own hiv).ints.val
            have hct : wr.cell? ⟨gT, i2, none⟩ = some vs[i2] := by
              rcases hA.rest.rowT.form with ⟨h, _⟩ | ⟨g, c, h, _, _, hc⟩
              · rw [HT.out] at h; cases h
              · rw [HT.out] at h
                simp only [Value.slice.injEq, Option.some.injEq, Addr.mk.injEq] at h
                obtain ⟨⟨rfl, _⟩, _⟩ := h
                exact hc i2 hiv
            rw [hval] at hct
            obtain ⟨len, hlen⟩ : ∃ len, len = (cont C i2).length := ⟨_, rfl⟩
            have hl32 : len ≤ 4294967296 := by rw [hlen, cont_length]; exact hC i2
            rw [← hlen] at hct hval
            have HVAL : Hid (vs[i2] = .slice va len vc) := hval
            have HLEN : Hid (len = (C i2).length) := by show _ = _; rw [hlen, cont_length]
            have hx0 : IOwn wr base (.slice va len vc) (grownTo C i2 0) := by rw [grownTo_zero, ← hval]; exact hA.own hiv
            have hrd0 := hA.rd hiv
            have hrest0 := hA.rest
            have hfix := hA.fixed
            obtain ⟨Hi, hHi⟩ : ∃ Hi, Hi = wr.heap.size := ⟨_, rfl⟩
            rw [← hHi] at hfix
            have hHi0 : Hi ≤ wr.heap.size := by omega
            have hl0 : Lies Hi vs[i2] (.slice va len vc) := .inl (by rw [hval])
            clear hval hlen hHi hA
            go_wp2
            go_loopw [7, 8] (fun x s8 wr2 => ∃ k : Nat, k ≤ 40 ∧ s8 = .int .i64 k ∧ IOwn wr2 base x (grownTo C i2 k) ∧ Lies Hi vs[i2] x ∧ Rest wr2 base H T u3 vs xs i2 C ∧ Rd H wr2 vs[i2] (cont C i2) ∧ Below base w wr2 ∧ H ≤ wr2.heap.size ∧ Hi ≤ wr2.heap.size) (fun _ s8 _ => 40 - (intOf s8).toNat)
            case atStart => exact ⟨0, Nat.zero_le _, rfl, hx0, hl0, hrest0, hrd0, hbel, hHw, hHi0⟩
            case round =>
              clear hx0 hl0 hrest0 hrd0 hbel hHw hHi0 hct
              obtain ⟨k, hk, rfl, hx, hl, hrest, hrd, hbel, hHw, hHiw⟩ := hrel
              by_cases hk40 : k < 40
              · have HGL : Hid ((grownTo C i2 k).length ≤ 1099511627776) := by show _ ≤ _; rw [grownTo_length, ← HLEN.out]; omega
                have hgA : wr.grownBy (wr.alloc (.cells #[.int .i64 (5000 + (i2 : Int))] 3)) none := World.grownBy_alloc wr _ none
                have hxA : IOwn (wr.alloc (.cells #[.int .i64 (5000 + (i2 : Int))] 3)) base u7 (grownTo C i2 k) := own_grown hx hgA (fun _ _ => by simp)
                have hrA := hrest.new hHw hgA
                have hdA := hrd.grown hgA hHw (fun _ _ => by simp)
                have hcA : (wr.alloc (.cells #[.int .i64 (5000 + (i2 : Int))] 3)).cell? ⟨wr.heap.size, 0, none⟩ = some (.int .i64 (5000 + (i2 : Int))) := by simp
                have hbA := hbel.alloc (show base ≤ wr.heap.size by omega) (.cells #[.int .i64 (5000 + (i2 : Int))] 3)
                have hsA : (wr.alloc (.cells #[.int .i64 (5000 + (i2 : Int))] 3)).heap.size = wr.heap.size + 1 := by simp
                obtain ⟨WA, hWA⟩ : ∃ WA, WA = wr.alloc (.cells #[.int .i64 (5000 + (i2 : Int))] 3) := ⟨_, rfl⟩
                have HWA : Hid (WA = wr.alloc (.cells #[.int .i64 (5000 + (i2 : Int))] 3)) := hWA
                rw [← hWA] at hxA hrA hdA hcA hbA hsA
                clear hWA hx hrest hrd hgA
                go_wp2_with (at_builtin; rw [← HWA.out]; refine wpList_append_at rfl _ _ rfl base _ _ rfl hxA _ ⟨wr.heap.size, 0, none⟩ 1 rfl hcA HGL.out (by omega) ?_; intro v' W' h1 h2 h3; rw [grownTo_succ] at h1)
                have hl2 : Lies Hi vs[i2] v' := lies_next hl (by omega) h3
                have hr2 := hrA.grown hfix hiv (by omega) hxA hl h2
                have hd2 : Rd H W' vs[i2] (cont C i2) := read_kept (ys := List.replicate k (5000 + (i2 : Int))) (n := 5000 + (i2 : Int)) hdA (hfix.below i2 hiv) hfix.HHi (by omega) hl (by have := h1; rw [← grownTo_succ] at this; exact this) h2 h3
                have hb2 : Below base w W' := hbA.grown h2 (by omega) (fun b hb => (own_ge hxA hb).1)
                have hs2 := h2.size
                go_roundw
                case rel => exact ⟨k + 1, by omega, by go_num, h1, hl2, hr2, hd2, hb2, by omega, by omega⟩
                case measure => simp [intOf]; omega
              · have hk2 : k = 40 := by omega
                rw [hk2] at hx
                obtain ⟨xa, xc, hxv⟩ := hx.ints.val
                obtain ⟨xl, hxl⟩ : ∃ xl, xl = (grownTo C i2 40).length := ⟨_, rfl⟩
                rw [← hxl] at hxv
                subst hxv
                have hxsl : xs.length ≤ 1099511627776 := by rw [hfix.lenX]; omega
                have hrL := hrest.rowL
                clear hk2 hxl
                go_wp2_with (at_builtin; refine wpList_append_list rfl _ _ rfl H _ xs rfl hrL _ _ _ 1 rfl hxsl hHw ?_; intro LV' W' g1 g2 g3)
                have hN := Ahead.next hrest hfix hiv hx hl hrd hHw hHiw g1 g2
                have hb2 : Below base w W' := hbel.grown g2 (by omega) (fun b hb => by have := (own_ge hrL hb).1; omega)
                have hs2 := g2.size
                go_wp2
                go_roundw
                case rel => exact ⟨i2 + 1, _, by omega, by go_num, hN, hb2, by omega⟩
                case measure => simp [intOf]; omega
          · have hin : i2 = n := by omega
            have hxl : xs.length = n := by rw [hA.fixed.lenX]; exact hin
            rcases hA.rest.rowL.form with ⟨rfl, hxs⟩ | ⟨gL, capL, rfl, _, _, hcL⟩
            · have hn0 : n = 0 := by rw [← hxl, hxs]; rfl
              have hn0' : ¬ (0 : Int) < (n : Int) := by omega
              have HN0 : Hid (n = 0) := hn0
              clear hA hxl hxs hin hn0
              go_wp2
              go_loopw [9] (fun s9 wr1 => s9 = .int .i64 0 ∧ wr1 = wr) (fun _ _ => 0)
              case atStart => exact ⟨rfl, rfl⟩
              case round =>
                obtain ⟨rfl, rfl⟩ := hrel
                go_wp2
                go_ret
                exact ⟨rfl, hbel⟩
            · rw [hxl]
              have hE : ∀ j, j < n → ∃ va vc xa xc len, len = (C j).length ∧ wr.cell? ⟨gT, j, none⟩ = some (.slice va len vc) ∧ wr.cell? ⟨gL, j, none⟩ = some (.slice (some xa) (len + 40) xc) ∧
                  (∀ k, k < len → ∃ g, va = some ⟨g, 0, none⟩ ∧ wr.cell? ⟨g, k, none⟩ = some (.int .i64 (1000 + (j : Int)))) ∧ (∀ k, k < len → wr.cell? ⟨xa.block, k, none⟩ = some (.int .i64 (1000 + (j : Int)))) ∧ (∀ k, len ≤ k → k < len + 40 → wr.cell? ⟨xa.block, k, none⟩ = some (.int .i64 (5000 + (j : Int)))) ∧ xa = ⟨xa.block, 0, none⟩ := fun j hj => by
                have hjv : j < vs.length := by rw [← HN.out]; exact hj
                have hjx : j < xs.length := by omega
                have hct : wr.cell? ⟨gT, j, none⟩ = some vs[j] := by
                  rcases hA.rest.rowT.form with ⟨h, _⟩ | ⟨g, c, h, _, _, hc⟩
                  · rw [HT.out] at h; cases h
                  · rw [HT.out] at h
                    simp only [Value.slice.injEq, Option.some.injEq, Addr.mk.injEq] at h
                    obtain ⟨⟨rfl, _⟩, _⟩ := h
                    exact hc j hjv
                have hcx := hcL j hjx
                have hrd := hA.rest.read j hjv (by omega)
                rcases (hA.rest.done_ j hjx).form with ⟨_, h⟩ | ⟨gx, xc, hxv, _, _, _, hxc, _⟩
                · have := congrArg List.length h
                  rw [grownTo_length] at this
                  simp at this
                · rw [hxv, grownTo_length] at hcx
                  have h1 : ∀ k, k < (C j).length → (grownTo C j 40)[k]?.getD 0 = 1000 + (j : Int) := fun k hk => by
                    rw [grownTo, List.getElem?_append_left (by rw [cont_length]; exact hk), cont, List.getElem?_replicate, if_pos hk]; rfl
                  have h2 : ∀ k, (C j).length ≤ k → k < (C j).length + 40 → (grownTo C j 40)[k]?.getD 0 = 5000 + (j : Int) := fun k hk hk2 => by
                    rw [grownTo, List.getElem?_append_right (by rw [cont_length]; exact hk), cont_length, List.getElem?_replicate, if_pos (by omega)]; rfl
                  have hx1 : ∀ k, k < (C j).length → wr.cell? ⟨gx, k, none⟩ = some (.int .i64 (1000 + (j : Int))) := fun k hk => by rw [hxc k (by rw [grownTo_length]; omega), h1 k hk]
                  have hx2 : ∀ k, (C j).length ≤ k → k < (C j).length + 40 → wr.cell? ⟨gx, k, none⟩ = some (.int .i64 (5000 + (j : Int))) := fun k hk hk2 => by rw [hxc k (by rw [grownTo_length]; omega), h2 k hk hk2]
                  rcases hrd with ⟨hv0, hc0⟩ | ⟨g, vc, hv, _, hc⟩
                  · have hl0 : (C j).length = 0 := by rw [← cont_length C j, hc0]; rfl
                    rw [hv0] at hct
                    exact ⟨none, 0, ⟨gx, 0, none⟩, xc, (C j).length, rfl, by rw [hl0]; exact hct, hcx, fun k hk => absurd hk (by omega), hx1, hx2, rfl⟩
                  · rw [hv, cont_length] at hct
                    refine ⟨some ⟨g, 0, none⟩, vc, ⟨gx, 0, none⟩, xc, (C j).length, rfl, hct, hcx, fun k hk => ⟨g, rfl, ?_⟩, hx1, hx2, rfl⟩
                    rw [hc k (by rw [cont_length]; exact hk), cont, List.getElem?_replicate, if_pos hk]; rfl
              have HE : Hid (∀ j, j < n → ∃ va vc xa xc len, len = (C j).length ∧ wr.cell? ⟨gT, j, none⟩ = some (.slice va len vc) ∧ wr.cell? ⟨gL, j, none⟩ = some (.slice (some xa) (len + 40) xc) ∧
                  (∀ k, k < len → ∃ g, va = some ⟨g, 0, none⟩ ∧ wr.cell? ⟨g, k, none⟩ = some (.int .i64 (1000 + (j : Int)))) ∧ (∀ k, k < len → wr.cell? ⟨xa.block, k, none⟩ = some (.int .i64 (1000 + (j : Int)))) ∧ (∀ k, len ≤ k → k < len + 40 → wr.cell? ⟨xa.block, k, none⟩ = some (.int .i64 (5000 + (j : Int)))) ∧ xa = ⟨xa.block, 0, none⟩) := hE
              clear hE hcL hA hxl hin
              go_wp2
              go_loopw [9] (fun s9 wr1 => ∃ i3 : Nat, i3 ≤ n ∧ s9 = .int .i64 i3 ∧ wr1 = wr) (fun s9 _ => n - (intOf s9).toNat)
              case atStart => exact ⟨0, Nat.zero_le _, rfl, rfl⟩
              case round =>
                obtain ⟨i3, hi3, rfl, rfl⟩ := hrel
                by_cases hlt : i3 < n
                · obtain ⟨va, vc, xa, xc, len, hlen, e1, e2, e3, e4, e5, e6⟩ := HE.out i3 hlt
                  have hl32 : len ≤ 4294967296 := by rw [hlen]; exact hC i3
                  obtain ⟨gx, hgx⟩ : ∃ gx, gx = xa.block := ⟨_, rfl⟩
                  rw [← hgx] at e4 e5 e6
                  subst e6
                  have E3 : Hid (∀ k, k < len → ∃ g, va = some ⟨g, 0, none⟩ ∧ wr.cell? ⟨g, k, none⟩ = some (.int .i64 (1000 + (i3 : Int)))) := e3
                  have E4 : Hid (∀ k, k < len → wr.cell? ⟨gx, k, none⟩ = some (.int .i64 (1000 + (i3 : Int)))) := e4
                  have E5 : Hid (∀ k, len ≤ k → k < len + 40 → wr.cell? ⟨gx, k, none⟩ = some (.int .i64 (5000 + (i3 : Int)))) := e5
                  clear e3 e4 e5 hlen hgx
                  go_wp2
                  go_loopw [10] (fun s10 wr1 => ∃ k : Nat, k ≤ len + 40 ∧ s10 = .int .i64 k ∧ wr1 = wr) (fun s10 _ => len + 40 - (intOf s10).toNat)
                  case atStart => exact ⟨0, Nat.zero_le _, rfl, rfl⟩
                  case round =>
                    obtain ⟨k, hk, rfl, rfl⟩ := hrel
                    by_cases hk40 : k < len + 40
                    · have hkI : (k : Int) < (len : Int) + 40 := by omega
                      by_cases hkl : k < len
                      · obtain ⟨g, rfl, c1⟩ := E3.out k hkl
                        have c2 := E4.out k hkl
                        go_wp2
                        go_roundw
                        case rel => exact ⟨k + 1, by omega, by go_num, trivial⟩
                        case measure => simp [intOf]; omega
                      · have c2 := E5.out k (by omega) hk40
                        go_wp2
                        go_roundw
                        case rel => exact ⟨k + 1, by omega, by go_num, trivial⟩
                        case measure => simp [intOf]; omega
                    · have hkI : ¬ (k : Int) < (len : Int) + 40 := by omega
                      go_wp2
                      go_roundw
                      case rel => exact ⟨i3 + 1, by omega, by go_num, trivial⟩
                      case measure => simp [intOf]; omega
                · go_wp2
                  go_ret
                  exact ⟨rfl, hbel⟩

end Go.Proofs.YtjlgmoakdaeinaaDoor
