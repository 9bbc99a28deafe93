/- What the document's answer for a text's digits does (a contract; nothing is claimed here). -/
import Derived.Test.YtffhbellpcneeaaJ13
import Derived.Test.YtffhbellpcneeaaNatParse
namespace Go.Proofs.Ytffhbellpcneeaa
open Go.RowKit Go.Vf

set_option maxHeartbeats 2000000 in
theorem rdigits_any (s : ByteArray) (f : Nat) (hf : f ≤ s.size) (hs : s.size ≤ 17179869184) (w : World) :
    Calls Try.prog 78 #[.string s, .int .i64 (f : Int)] w fun e w' => e = .returned (.bool (digOK (s.data.toList.drop f) false)) ∧ w = w' := by
  have hl : s.data.toList.length = s.size := (Lib.size_eq s).symm
  have hdl : (s.data.toList.drop f).length = s.size - f := by rw [List.length_drop, hl]
  by_cases h0 : f < s.size
  · have hsf : ((s.size : Int) == (f : Int)) = false := by simp; omega
    obtain ⟨r, hr⟩ : ∃ r, s.data.toList.drop f = s[f] :: r := ⟨_, drop_at s f h0⟩
    have hhead : (s.data.toList.drop f).head? = some s[f] := by rw [hr]; rfl
    have hemp : (s.data.toList.drop f).isEmpty = false := by rw [hr]; rfl
    have hbyte : ∀ x : UInt8, x = 48 ↔ x.toNat = 48 := fun x => ⟨fun h => by rw [h]; rfl, fun h => UInt8.toNat_inj.1 h⟩
    clear hr
    by_cases h48 : s[f].toNat = 48 ∧ f + 1 < s.size
    · have hR : digOK (s.data.toList.drop f) false = false := by
        unfold digOK
        rw [hhead, hdl, (hbyte s[f]).2 h48.1]
        have : 1 < s.size - f := by omega
        simp [this]
      rw [hR]
      obtain ⟨h48, hor⟩ := h48
      clear hR hhead hemp hbyte hl hdl
      go_enter Try.func78, Try.ntmps78
      go_wp2
      go_ret
      exact ⟨rfl, rfl⟩
    · have hR : digOK (s.data.toList.drop f) false = (s.data.toList.drop f).all isDig := by
        unfold digOK
        have : ((s.data.toList.drop f).head? == some 48 && (false || decide (1 < (s.data.toList.drop f).length))) = false := by
          rw [hhead, hdl]
          by_cases hx : s[f].toNat = 48
          · have h1 : ¬ f + 1 < s.size := fun h => h48 ⟨hx, h⟩
            have h2 : ¬ 1 < s.size - f := by omega
            simp [h2]
          · have : s[f] ≠ 48 := fun h => hx ((hbyte _).1 h)
            simp [this]
        rw [this, hemp]
        simp
      rw [hR]
      clear hR hhead hemp
      by_cases hx : s[f].toNat = 48
      · have h1 : ¬ f + 1 < s.size := fun h => h48 ⟨hx, h⟩
        clear h48 hbyte
        go_enter Try.func78, Try.ntmps78
        go_wp2
        go_loopw [5] (fun i wr => ∃ k : Nat, f ≤ k ∧ k ≤ s.size ∧ i = .int .i64 k ∧ Hid (∀ x ∈ (s.data.toList.drop f).take (k - f), isDig x = true) ∧ w = wr) (fun i _ => s.size - (intOf i).toNat)
        case atStart => exact ⟨f, Nat.le_refl _, hf, rfl, by simp [Hid], rfl⟩
        case round =>
          obtain ⟨k, hfk, hk, rfl, HD, rfl⟩ := hrel
          by_cases hlt : k < s.size
          · have hmem : s[k] ∈ s.data.toList.drop f := by
              have : (s.data.toList.drop f)[k - f]'(by rw [hdl]; omega) = s[k] := by
                rw [List.getElem_drop]
                show s.data.toList[f + (k - f)]'(by omega) = s.data.toList[k]'(by omega)
                congr 1
                omega
              rw [← this]
              exact List.getElem_mem _
            by_cases hlo : s[k].toNat < 48
            · have hA : ((s.data.toList.drop f).all isDig) = false := by
                rw [List.all_eq_false]
                exact ⟨_, hmem, by simp [isDig]; omega⟩
              clear HD hmem
              go_wp2
              all_goals go_ret
              all_goals (first | exact ⟨rfl, rfl⟩ | exact ⟨congrArg (fun b => Ending.returned (Value.bool b)) hA.symm, rfl⟩)
            · by_cases hhi : 57 < s[k].toNat
              · have hA : ((s.data.toList.drop f).all isDig) = false := by
                  rw [List.all_eq_false]
                  exact ⟨_, hmem, by simp [isDig]; omega⟩
                clear HD hmem
                go_wp2
                all_goals go_ret
                all_goals (first | exact ⟨rfl, rfl⟩ | exact ⟨congrArg (fun b => Ending.returned (Value.bool b)) hA.symm, rfl⟩)
              · have HD2 : Hid (∀ x ∈ (s.data.toList.drop f).take (k + 1 - f), isDig x = true) := by
                  have e1 : k + 1 - f = (k - f) + 1 := by omega
                  rw [e1, List.take_succ_eq_append_getElem (by rw [hdl]; omega)]
                  intro x hx
                  rcases List.mem_append.1 hx with hx | hx
                  · exact HD.out x hx
                  · rw [List.mem_singleton.1 hx, List.getElem_drop]
                    have e2 : s.data.toList[f + (k - f)]'(by omega) = s[k] := by
                      show s.data.toList[f + (k - f)]'(by omega) = s.data.toList[k]'(by omega)
                      congr 1
                      omega
                    rw [e2]
                    simp [isDig]; omega
                clear HD hmem
                go_wp2
                go_roundw
                case rel => exact ⟨k + 1, by omega, by omega, by go_num, HD2, trivial⟩
                case measure => simp [intOf]; omega
          · have hA : ((s.data.toList.drop f).all isDig) = true := by
              rw [List.all_eq_true]
              have := HD.out
              rwa [List.take_of_length_le (by rw [hdl]; omega)] at this
            clear HD
            go_wp2
            go_ret
            (first | exact ⟨rfl, rfl⟩ | exact ⟨congrArg (fun b => Ending.returned (Value.bool b)) hA.symm, rfl⟩)
      · have hx2 : ((s[f].toNat : Int) == 48) = false := by simp; omega
        clear h48 hbyte
        go_enter Try.func78, Try.ntmps78
        go_wp2
        go_loopw [5] (fun i wr => ∃ k : Nat, f ≤ k ∧ k ≤ s.size ∧ i = .int .i64 k ∧ Hid (∀ x ∈ (s.data.toList.drop f).take (k - f), isDig x = true) ∧ w = wr) (fun i _ => s.size - (intOf i).toNat)
        case atStart => exact ⟨f, Nat.le_refl _, hf, rfl, by simp [Hid], rfl⟩
        case round =>
          obtain ⟨k, hfk, hk, rfl, HD, rfl⟩ := hrel
          by_cases hlt : k < s.size
          · have hmem : s[k] ∈ s.data.toList.drop f := by
              have : (s.data.toList.drop f)[k - f]'(by rw [hdl]; omega) = s[k] := by
                rw [List.getElem_drop]
                show s.data.toList[f + (k - f)]'(by omega) = s.data.toList[k]'(by omega)
                congr 1
                omega
              rw [← this]
              exact List.getElem_mem _
            by_cases hlo : s[k].toNat < 48
            · have hA : ((s.data.toList.drop f).all isDig) = false := by
                rw [List.all_eq_false]
                exact ⟨_, hmem, by simp [isDig]; omega⟩
              clear HD hmem
              go_wp2
              all_goals go_ret
              all_goals (first | exact ⟨rfl, rfl⟩ | exact ⟨congrArg (fun b => Ending.returned (Value.bool b)) hA.symm, rfl⟩)
            · by_cases hhi : 57 < s[k].toNat
              · have hA : ((s.data.toList.drop f).all isDig) = false := by
                  rw [List.all_eq_false]
                  exact ⟨_, hmem, by simp [isDig]; omega⟩
                clear HD hmem
                go_wp2
                all_goals go_ret
                all_goals (first | exact ⟨rfl, rfl⟩ | exact ⟨congrArg (fun b => Ending.returned (Value.bool b)) hA.symm, rfl⟩)
              · have HD2 : Hid (∀ x ∈ (s.data.toList.drop f).take (k + 1 - f), isDig x = true) := by
                  have e1 : k + 1 - f = (k - f) + 1 := by omega
                  rw [e1, List.take_succ_eq_append_getElem (by rw [hdl]; omega)]
                  intro x hx
                  rcases List.mem_append.1 hx with hx | hx
                  · exact HD.out x hx
                  · rw [List.mem_singleton.1 hx, List.getElem_drop]
                    have e2 : s.data.toList[f + (k - f)]'(by omega) = s[k] := by
                      show s.data.toList[f + (k - f)]'(by omega) = s.data.toList[k]'(by omega)
                      congr 1
                      omega
                    rw [e2]
                    simp [isDig]; omega
                clear HD hmem
                go_wp2
                go_roundw
                case rel => exact ⟨k + 1, by omega, by omega, by go_num, HD2, trivial⟩
                case measure => simp [intOf]; omega
          · have hA : ((s.data.toList.drop f).all isDig) = true := by
              rw [List.all_eq_true]
              have := HD.out
              rwa [List.take_of_length_le (by rw [hdl]; omega)] at this
            clear HD
            go_wp2
            go_ret
            (first | exact ⟨rfl, rfl⟩ | exact ⟨congrArg (fun b => Ending.returned (Value.bool b)) hA.symm, rfl⟩)
  · have hn : s.data.toList.drop f = [] := List.drop_of_length_le (by omega)
    rw [hn]
    have hfe : (f : Int) = (s.size : Int) := by omega
    clear hn hl hdl
    rw [hfe]
    go_enter Try.func78, Try.ntmps78
    go_wp2
    go_ret
    exact ⟨rfl, rfl⟩
end Go.Proofs.Ytffhbellpcneeaa
