/- Contracts and lemmas (nothing is claimed here). -/
import Derived.Test.YtcbjnifoojjipaaGreatDoorJ10
import Derived.Test.YtcbjnifoojjipaaGreatDoorJ6
namespace Go.Proofs.YtcbjnifoojjipaaGreatDoor
open Go.RowKit Go.Vf
def digOK (l : List UInt8) (b : Bool) : Bool := !l.isEmpty && !(l.head? == some 48 && (b || decide (1 < l.length))) && l.all isDig
set_option maxHeartbeats 1000000 in
theorem needDigits_any (s : ByteArray) (b : Bool) (hs : s.size ≤ 17179869184) (w : World) :
    Calls Tryz.prog 172 #[.string s, .bool b] w fun e w' => e = (if digOK s.data.toList b then .returned (.tuple #[]) else lost 20 0) ∧ w = w' := by
  have hl : s.data.toList.length = s.size := (Lib.size_eq s).symm
  by_cases h0 : s.size = 0
  · have hn : s.data.toList = [] := List.eq_nil_of_length_eq_zero (by omega)
    have he : s.toList.isEmpty = true := by rw [ByteArray.toList_eq, hn]; rfl
    rw [hn]
    clear hn hl
    go_enter Tryz.func172, Tryz.ntmps172
    go_wp2
    exact ⟨rfl, rfl, rfl⟩
  have h0' : 0 < s.size := by omega
  have he : s.toList.isEmpty = false := by
    rw [ByteArray.toList_eq]
    cases h : s.data.toList with
    | nil => rw [h] at hl; exact absurd hl.symm h0
    | cons x r => rfl
  obtain ⟨r, hd⟩ : ∃ r, s.data.toList = s[0] :: r := ⟨_, (List.drop_zero (l := s.data.toList)).symm.trans (drop_at s 0 h0')⟩
  have hhead : s.data.toList.head? = some s[0] := by rw [hd]; rfl
  have hemp : s.data.toList.isEmpty = false := by rw [hd]; rfl
  have hbyte : ∀ x : UInt8, x = 48 ↔ x.toNat = 48 := fun x => ⟨fun h => by rw [h]; rfl, fun h => UInt8.toNat_inj.1 h⟩
  clear hd
  by_cases h48 : s[0].toNat = 48 ∧ (b = true ∨ 1 < s.size)
  · have hR : digOK s.data.toList b = false := by
      unfold digOK
      rw [hhead, hl, (hbyte s[0]).2 h48.1]
      rcases h48.2 with h | h <;> simp [h]
    rw [hR]
    obtain ⟨h48, hor⟩ := h48
    clear hR hhead hemp hbyte hl
    cases b
    · have h1 : 1 < s.size := by simpa using hor
      clear hor
      go_enter Tryz.func172, Tryz.ntmps172
      go_wp2
      exact ⟨rfl, rfl, rfl⟩
    · clear hor
      go_enter Tryz.func172, Tryz.ntmps172
      go_wp2
      exact ⟨rfl, rfl, rfl⟩
  · have hR : digOK s.data.toList b = s.data.toList.all isDig := by
      unfold digOK
      have : (s.data.toList.head? == some 48 && (b || decide (1 < s.data.toList.length))) = false := by
        rw [hhead, hl]
        by_cases hx : s[0].toNat = 48
        · have h1 : ¬ (b = true ∨ 1 < s.size) := fun h => h48 ⟨hx, h⟩
          simp at h1
          simp [h1]
        · have : s[0] ≠ 48 := fun h => hx ((hbyte _).1 h)
          simp [this]
      rw [this, hemp]
      simp
    rw [hR]
    clear hR hhead hemp
    by_cases hx : s[0].toNat = 48
    · have h1 : ¬ (b = true ∨ 1 < s.size) := fun h => h48 ⟨hx, h⟩
      obtain ⟨hb, h1⟩ := not_or.1 h1
      obtain rfl : b = false := by simpa using hb
      clear hb h48 hbyte
      go_enter Tryz.func172, Tryz.ntmps172
      go_wp2
      go_loopw [24] (fun i wr => ∃ k : Nat, k ≤ s.size ∧ i = .int .i64 k ∧ Hid (∀ x ∈ s.data.toList.take k, isDig x = true) ∧ w = wr) (fun i _ => s.size - (intOf i).toNat)
      case atStart => exact ⟨0, Nat.zero_le _, rfl, by simp [Hid], rfl⟩
      case round =>
        obtain ⟨k, hk, rfl, HD, rfl⟩ := hrel
        by_cases hlt : k < s.size
        · have hmem : s[k] ∈ s.data.toList := by show s.data.toList[k]'(by omega) ∈ _; exact List.getElem_mem _
          by_cases hlo : s[k].toNat < 48
          · have hA : (s.data.toList.all isDig) = false := by
              rw [List.all_eq_false]
              exact ⟨_, hmem, by simp [isDig]; omega⟩
            clear HD hmem
            go_wp2
            all_goals exact ⟨rfl, rfl, rfl⟩
          · by_cases hhi : 57 < s[k].toNat
            · have hA : (s.data.toList.all isDig) = false := by
                rw [List.all_eq_false]
                exact ⟨_, hmem, by simp [isDig]; omega⟩
              clear HD hmem
              go_wp2
              all_goals exact ⟨rfl, rfl, rfl⟩
            · have HD2 : Hid (∀ x ∈ s.data.toList.take (k + 1), isDig x = true) := by
                rw [List.take_succ_eq_append_getElem (by omega)]
                intro x hx
                rcases List.mem_append.1 hx with hx | hx
                · exact HD.out x hx
                · rw [List.mem_singleton.1 hx]
                  show isDig s[k] = true
                  simp [isDig]; omega
              clear HD hmem
              go_wp2
              go_roundw
              case rel => exact ⟨k + 1, by omega, by go_num, HD2, trivial⟩
              case measure => simp [intOf]; omega
        · have hA : (s.data.toList.all isDig) = true := by
            rw [List.all_eq_true]
            have := HD.out
            rwa [List.take_of_length_le (by omega)] at this
          clear HD
          go_wp2
          go_end0
          exact ⟨rfl, rfl⟩
    · clear h48 hbyte
      go_enter Tryz.func172, Tryz.ntmps172
      go_wp2
      go_loopw [24] (fun i wr => ∃ k : Nat, k ≤ s.size ∧ i = .int .i64 k ∧ Hid (∀ x ∈ s.data.toList.take k, isDig x = true) ∧ w = wr) (fun i _ => s.size - (intOf i).toNat)
      case atStart => exact ⟨0, Nat.zero_le _, rfl, by simp [Hid], rfl⟩
      case round =>
        obtain ⟨k, hk, rfl, HD, rfl⟩ := hrel
        by_cases hlt : k < s.size
        · have hmem : s[k] ∈ s.data.toList := by show s.data.toList[k]'(by omega) ∈ _; exact List.getElem_mem _
          by_cases hlo : s[k].toNat < 48
          · have hA : (s.data.toList.all isDig) = false := by
              rw [List.all_eq_false]
              exact ⟨_, hmem, by simp [isDig]; omega⟩
            clear HD hmem
            go_wp2
            all_goals exact ⟨rfl, rfl, rfl⟩
          · by_cases hhi : 57 < s[k].toNat
            · have hA : (s.data.toList.all isDig) = false := by
                rw [List.all_eq_false]
                exact ⟨_, hmem, by simp [isDig]; omega⟩
              clear HD hmem
              go_wp2
              all_goals exact ⟨rfl, rfl, rfl⟩
            · have HD2 : Hid (∀ x ∈ s.data.toList.take (k + 1), isDig x = true) := by
                rw [List.take_succ_eq_append_getElem (by omega)]
                intro x hx
                rcases List.mem_append.1 hx with hx | hx
                · exact HD.out x hx
                · rw [List.mem_singleton.1 hx]
                  show isDig s[k] = true
                  simp [isDig]; omega
              clear HD hmem
              go_wp2
              go_roundw
              case rel => exact ⟨k + 1, by omega, by go_num, HD2, trivial⟩
              case measure => simp [intOf]; omega
        · have hA : (s.data.toList.all isDig) = true := by
            rw [List.all_eq_true]
            have := HD.out
            rwa [List.take_of_length_le (by omega)] at this
          clear HD
          go_wp2
          go_end0
          exact ⟨rfl, rfl⟩
theorem hasPrefix_any (s p : ByteArray) (w : World) (_hs : s.size ≤ 17179869184) (_hp : p.size ≤ 17179869184) :
    Calls Tryz.prog 182 #[.string s, .string p] w fun e w' => e = .returned (.bool (p.data.toList.isPrefixOf s.data.toList)) ∧ w = w' := by
  have hsl : s.data.toList.length = s.size := (Lib.size_eq s).symm
  have hpl : p.data.toList.length = p.size := (Lib.size_eq p).symm
  by_cases h : p.size ≤ s.size
  · have hR : (p.data.toList.isPrefixOf s.data.toList) = ((s.extract 0 p.size).toList == p.toList) := by
      rw [ByteArray.toList_eq, ByteArray.toList_eq]
      have := beginsL_take s.data.toList p.data.toList (by omega)
      rw [hpl] at this
      rw [← beginsL, ← this]
      congr 1
      simp
    rw [hR]
    clear hR
    go_enter Tryz.func182, Tryz.ntmps182
    go_wp2
    go_ret
    exact ⟨rfl, rfl⟩
  · have hR : (p.data.toList.isPrefixOf s.data.toList) = false := beginsL_short _ _ (by omega)
    rw [hR]
    clear hR
    go_enter Tryz.func182, Tryz.ntmps182
    go_wp2
    go_ret
    exact ⟨rfl, rfl⟩
set_option maxHeartbeats 400000 in
theorem scut_any (s p : ByteArray) (w : World) (hs : s.size ≤ 17179869184) (hp : p.size ≤ 17179869184) :
    Calls Tryz.prog 178 #[.string s, .string p] w fun e w' => e = .returned (.tuple #[.string (if p.data.toList.isPrefixOf s.data.toList then bs (s.data.toList.drop p.size) else s), .bool (p.data.toList.isPrefixOf s.data.toList)]) ∧ w = w' := by
  have hsl : s.data.toList.length = s.size := (Lib.size_eq s).symm
  have hpl : p.data.toList.length = p.size := (Lib.size_eq p).symm
  by_cases h : p.data.toList.isPrefixOf s.data.toList = true
  · have hle : p.size ≤ s.size := by
      have := (List.isPrefixOf_iff_prefix.1 h).length_le
      omega
    have hx : s.extract p.size s.size = bs (s.data.toList.drop p.size) := data_inj (by rw [bs_data]; simp; exact List.take_of_length_le (by simp))
    rw [h, if_pos rfl]
    go_enter Tryz.func178, Tryz.ntmps178
    go_wp2_with fail
    refine (hasPrefix_any s p _ hs hp).mono ?_
    rintro e w1 ⟨rfl, rfl⟩
    rw [h]
    clear h
    go_wp2
    go_ret2
    exact ⟨rfl, rfl⟩
  · have h' : p.data.toList.isPrefixOf s.data.toList = false := by simpa using h
    rw [h', if_neg (by simp)]
    go_enter Tryz.func178, Tryz.ntmps178
    go_wp2_with fail
    refine (hasPrefix_any s p _ hs hp).mono ?_
    rintro e w1 ⟨rfl, rfl⟩
    rw [h']
    clear h h'
    go_wp2
    go_ret2
    exact ⟨rfl, rfl⟩
theorem cut_any (s p : ByteArray) (w : World) (hs : s.size ≤ 17179869184) (hp : p.size ≤ 17179869184) :
    Calls Tryz.prog 171 #[.string s, .string p] w fun e w' => e = .returned (.tuple #[.string (if p.data.toList.isPrefixOf s.data.toList then bs (s.data.toList.drop p.size) else s), .bool (p.data.toList.isPrefixOf s.data.toList)]) ∧ w = w' := by
  generalize hR : (if p.data.toList.isPrefixOf s.data.toList then bs (s.data.toList.drop p.size) else s) = R
  generalize hB : p.data.toList.isPrefixOf s.data.toList = B
  go_enter Tryz.func171, Tryz.ntmps171
  go_wp2_with fail
  refine (scut_any s p _ hs hp).mono ?_
  rintro e w1 ⟨rfl, rfl⟩
  rw [hR, hB]
  go_wp2
  go_ret2
  exact ⟨rfl, rfl⟩
structure Three (w : World) (h : Nat) (b : Bool) (m : ByteArray) (n e : Int) : Prop where
  c0 : w.cell? ⟨h, 0, none⟩ = some (.bool b)
  c1 : w.cell? ⟨h, 1, none⟩ = some (.string m)
  c2 : w.cell? ⟨h + 1, 0, none⟩ = some (.int .i64 n)
  c3 : w.cell? ⟨h + 1 + 1, 0, none⟩ = some (.int .i64 e)
  f0 : w.frozen? ⟨h, 0, none⟩ = false
  f1 : w.frozen? ⟨h, 1, none⟩ = false
  f2 : w.frozen? ⟨h + 1, 0, none⟩ = false
  f3 : w.frozen? ⟨h + 1 + 1, 0, none⟩ = false
  lt : h + 1 + 1 < w.heap.size
theorem Three.below {w w' : World} {B h : Nat} {b : Bool} {m : ByteArray} {n e : Int} (h3 : Three w h b m n e) (hb : Below B w w') (hB : h + 1 + 1 < B) : Three w' h b m n e :=
  ⟨(hb.cell (p := ⟨h, 0, none⟩) (by show h < B; omega)).trans h3.c0, (hb.cell (p := ⟨h, 1, none⟩) (by show h < B; omega)).trans h3.c1, (hb.cell (p := ⟨h + 1, 0, none⟩) (by show h + 1 < B; omega)).trans h3.c2, (hb.cell (p := ⟨h + 1 + 1, 0, none⟩) hB).trans h3.c3,
    (hb.frozen (p := ⟨h, 0, none⟩) (by show h < B; omega)).trans h3.f0, (hb.frozen (p := ⟨h, 1, none⟩) (by show h < B; omega)).trans h3.f1, (hb.frozen (p := ⟨h + 1, 0, none⟩) (by show h + 1 < B; omega)).trans h3.f2, (hb.frozen (p := ⟨h + 1 + 1, 0, none⟩) hB).trans h3.f3, Nat.lt_of_lt_of_le h3.lt hb.size⟩
theorem Three.drew {w : World} {h : Nat} {b : Bool} {m : ByteArray} {n e : Int} (h3 : Three w h b m n e) : Three w.drew h b m n e := ⟨h3.c0, h3.c1, h3.c2, h3.c3, h3.f0, h3.f1, h3.f2, h3.f3, h3.lt⟩
theorem Three.set {w : World} {h : Nat} {b : Bool} {m : ByteArray} {n e : Int} (h3 : Three w h b m n e) (b' : Bool) (m' : ByteArray) (n' e' : Int) :
    Three ((((w.setCell ⟨h, 0, none⟩ (.bool b')).setCell ⟨h, 1, none⟩ (.string m')).setCell ⟨h + 1, 0, none⟩ (.int .i64 n')).setCell ⟨h + 1 + 1, 0, none⟩ (.int .i64 e')) h b' m' n' e' ∧
    Below h w ((((w.setCell ⟨h, 0, none⟩ (.bool b')).setCell ⟨h, 1, none⟩ (.string m')).setCell ⟨h + 1, 0, none⟩ (.int .i64 n')).setCell ⟨h + 1 + 1, 0, none⟩ (.int .i64 e')) := by
  obtain ⟨c0, c1, c2, c3, f0, f1, f2, f3, hlt⟩ := h3
  refine ⟨⟨?_, ?_, ?_, ?_, ?_, ?_, ?_, ?_, ?_⟩, ?_⟩
  · rw [World.cell?_setCell_other _ _ _ _ (by simp), World.cell?_setCell_other _ _ _ _ (by simp), World.cell?_setCell_other _ _ _ _ (by simp), World.cell?_setCell_same _ _ _ (by rw [c0])]
  · rw [World.cell?_setCell_other _ _ _ _ (by simp), World.cell?_setCell_other _ _ _ _ (by simp), World.cell?_setCell_same _ _ _ (by rw [World.cell?_setCell_other _ _ _ _ (by simp), c1])]
  · rw [World.cell?_setCell_other _ _ _ _ (by simp), World.cell?_setCell_same _ _ _ (by rw [World.cell?_setCell_other _ _ _ _ (by simp), World.cell?_setCell_other _ _ _ _ (by simp), c2])]
  · rw [World.cell?_setCell_same _ _ _ (by rw [World.cell?_setCell_other _ _ _ _ (by simp), World.cell?_setCell_other _ _ _ _ (by simp), World.cell?_setCell_other _ _ _ _ (by simp), c3])]
  · simp only [World.frozen?_setCell, f0]
  · simp only [World.frozen?_setCell, f1]
  · simp only [World.frozen?_setCell, f2]
  · simp only [World.frozen?_setCell, f3]
  · simpa using hlt
  · exact ((((Below.refl h w).setCell (p := ⟨h, 0, none⟩) (Nat.le_refl _) _).setCell (p := ⟨h, 1, none⟩) (Nat.le_refl _) _).setCell (p := ⟨h + 1, 0, none⟩) (Nat.le_succ _) _).setCell (p := ⟨h + 1 + 1, 0, none⟩) (by show h ≤ h + 1 + 1; omega) _
def tk (l : List UInt8) : Nat × Option (Bool × List UInt8) :=
  match tkHead l with
  | .error n => (n, none)
  | .ok (b, k, h) => if k = 0 then (h, some (false, [])) else
    match tkMag (l.drop h) k b with
    | .error n => (h + n, none)
    | .ok m => (h + k, some (b, m))
def takeE (a : Nat) : Nat × Option (Bool × List UInt8) → Ending
  | (n, none) => .returned (.tuple #[numV false (bs []), .int .i64 ((a + n : Nat) : Int), .int .i64 20])
  | (n, some (b, m)) => .returned (.tuple #[numV b (bs m), .int .i64 ((a + n : Nat) : Int), .int .i64 0])
theorem tkHead_ok {l : List UInt8} {b : Bool} {k h : Nat} (hh : tkHead l = .ok (b, k, h)) : h ≤ l.length ∧ k ≤ 255 ∧ 0 < h := by
  unfold tkHead at hh
  split at hh
  · cases hh
  · rename_i x r
    have hx := x.toNat_lt
    split at hh
    · split at hh
      · cases hh
      · rename_i y r'
        have hy := y.toNat_lt
        split at hh
        · simp only [Except.ok.injEq, Prod.mk.injEq] at hh; obtain ⟨rfl, rfl, rfl⟩ := hh; simp only [List.length_cons]; omega
        · cases hh
    · split at hh
      · split at hh
        · cases hh
        · rename_i y r'
          split at hh
          · simp only [Except.ok.injEq, Prod.mk.injEq] at hh; obtain ⟨rfl, rfl, rfl⟩ := hh; simp only [List.length_cons]; omega
          · cases hh
      · split at hh
        · split at hh
          · simp only [Except.ok.injEq, Prod.mk.injEq] at hh; obtain ⟨rfl, rfl, rfl⟩ := hh; simp only [List.length_cons]; omega
          · simp only [Except.ok.injEq, Prod.mk.injEq] at hh; obtain ⟨rfl, rfl, rfl⟩ := hh; simp only [List.length_cons]; omega
        · cases hh
theorem three_new (w : World) : Three (((w.alloc (.cells #[.bool false, .string ⟨#[]⟩] 44)).alloc (.cells #[.int .i64 0] 3)).alloc (.cells #[.int .i64 0] 28)) w.heap.size false ⟨#[]⟩ 0 0 :=
  by constructor <;> simp [go_sem]
end Go.Proofs.YtcbjnifoojjipaaGreatDoor
