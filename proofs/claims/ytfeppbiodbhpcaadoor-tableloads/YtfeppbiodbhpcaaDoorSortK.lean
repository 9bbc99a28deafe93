/- The keys of a map of rows, sorted (contracts; nothing is claimed here). -/
import Derived.Test.YtfeppbiodbhpcaaDoorKeysR
import Derived.Test.YtfeppbiodbhpcaaDoorSortR
namespace Go.Proofs.YtfeppbiodbhpcaaDoor
open Go.RowKit Go.Vf Go.Maps Go.Sort Go.Shelf

theorem cells8_get : ∀ (ss : List R8) (t : Nat), t < ss.length * 8 → (cells8 ss)[t]? = some ((enc8 ss.toArray[t / 8]!)[t % 8]!) := by
  intro ss
  induction ss with
  | nil => intro t h; simp at h
  | cons a r ih =>
    intro t h
    have e : cells8 (a :: r) = enc8 a ++ cells8 r := by simp [cells8]
    rw [e]
    by_cases h8 : t < 8
    · rw [List.getElem?_append_left (by rw [enc8_len]; exact h8)]
      have e1 : t / 8 = 0 := by omega
      have e2 : t % 8 = t := by omega
      rw [e1, e2]
      have hl : t < (enc8 a).length := by rw [enc8_len]; exact h8
      simp [hl]
    · rw [List.getElem?_append_right (by rw [enc8_len]; omega), enc8_len, ih (t - 8) (by simp at h; omega)]
      have e1 : t / 8 = (t - 8) / 8 + 1 := by omega
      have e2 : t % 8 = (t - 8) % 8 := by omega
      have e3 : (t - 8) / 8 < r.length := by simp at h; omega
      rw [e1, e2]
      simp [e3]
theorem flat_cells (ss : List R8) : (flatK enc8 8 ss.toArray).toList = cells8 ss := by
  apply List.ext_getElem?
  intro t
  by_cases h : t < ss.length * 8
  · rw [cells8_get ss t h]
    have hs : t < (flatK enc8 8 ss.toArray).size := by rw [size_flatK]; simpa using h
    rw [Array.getElem?_toList, Array.getElem?_eq_getElem hs, ← getElem!_pos _ t hs, get_flatK _ _ _ _ (by simpa using h)]
  · rw [List.getElem?_eq_none (by simp; omega), List.getElem?_eq_none (by rw [cells8_len]; omega)]
theorem holds8 {w : World} {g : Nat} {cur : Array Value} {ss : List R8} (hb : w.heap[g]? = some (.cells cur 73 (0, 0))) (ht : cur.toList.take (ss.length * 8) = cells8 ss) : HoldsK enc8 8 w g 0 ss.toArray := by
  intro j hj
  have hj' : j < ss.length * 8 := by simpa using hj
  refine ⟨?_, by simp [World.frozen?, hb]⟩
  have h1 : (cur.toList.take (ss.length * 8))[j]? = (cells8 ss)[j]? := by rw [ht]
  rw [List.getElem?_take_of_lt hj', cells8_get ss j hj'] at h1
  simp only [World.cell?, hb, Nat.zero_add]
  simp only [Option.isSome_none, Bool.false_eq_true, if_false]
  rw [← Array.getElem?_toList, h1, get_flatK _ _ _ _ (by simpa using hj')]
  rfl
theorem take8 (cur : Array Value) (ts : List R8) (h : ts.length * 8 ≤ cur.size) : (putCells id 0 (flatK enc8 8 ts.toArray) cur).toList.take (ts.length * 8) = cells8 ts := by
  rw [← flat_cells]
  apply List.ext_getElem?
  intro j
  by_cases hj : j < ts.length * 8
  · have hs : j < (flatK enc8 8 ts.toArray).size := by rw [size_flatK]; simpa using hj
    rw [List.getElem?_take_of_lt hj, Array.getElem?_toList, Array.getElem?_toList, Array.getElem?_eq_getElem hs, ← getElem!_pos _ j hs]
    simp only [putCells, Array.getElem?_mapIdx]
    rw [Array.getElem?_eq_getElem (show j < cur.size by omega)]
    simp [hj]
  · rw [List.getElem?_take_eq_none (by omega), List.getElem?_eq_none (by simp; omega)]
theorem heap8 {w : World} {g n : Nat} {os : Array Obj} {cur : Array Value} {e : TypeId} {fr : Nat × Nat} (d : Array R8) (hb : w.heap[g]? = some (.cells cur e fr)) :
    (sortWorldK enc8 8 w g 0 n d os).heap[g]? = some (.cells (putCells id 0 (flatK enc8 8 d) cur) e fr) := by
  have hg : g < w.heap.size := (Array.getElem?_eq_some_iff.1 hb).1
  unfold sortWorldK putRowK
  rw [heap_grow_old _ _ (by simpa using hg)]
  simp [putRow, mapBlock, Sort.ahead, Array.getElem?_modify, hb, onCells]
theorem grown8 {w : World} {g n : Nat} {os : Array Obj} (d : Array R8) : w.grownBy (sortWorldK enc8 8 w g 0 n d os) (some g) := by
  unfold sortWorldK putRowK
  refine ⟨rfl, rfl, rfl, by simp, fun k hk hne => ?_⟩
  rw [heap_grow_old _ _ (by simpa using hk)]
  have : g ≠ k := fun e => hne (by rw [e])
  simp [putRow, mapBlock, Sort.ahead, Array.getElem?_modify, this]
theorem owns8 {w : World} {base g cap n : Nat} {os : Array Obj} {cur : Array Value} {ss ts : List R8} (hl : ts.length = ss.length) (hbase : base ≤ g) (hb : w.heap[g]? = some (.cells cur 73 (0, 0)))
    (h1 : ss.length ≤ cap) (h2 : cap ≤ maxLen) (h3 : cur.size = cap * 8) :
    (sortWorldK enc8 8 w g 0 n ts.toArray os).ownsRow base 73 8 (.slice (some ⟨g, 0, none⟩) ss.length cap) ts.length (cells8 ts) :=
  ⟨by rw [cells8_len], .inr ⟨g, cap, _, by rw [hl], hbase, heap8 _ hb, by omega, h2, by simp [putCells, h3], take8 cur ts (by omega)⟩⟩
/-- Rows that rise. -/
def Rise (ss : List R8) : Prop := ss.Pairwise fun a b => aheadL a.l b.l < 0
theorem aheadL_tri : ∀ a b : List Int, a.length = b.length → ¬ aheadL b a < 0 → a = b ∨ aheadL a b < 0 := by
  intro a
  induction a with
  | nil =>
    intro b h _
    cases b with
    | nil => exact .inl rfl
    | cons y t => simp at h
  | cons x r ih =>
    intro b h h1
    cases b with
    | nil => simp at h
    | cons y t =>
      unfold aheadL at h1 ⊢
      by_cases hyx : y < x
      · rw [if_pos hyx] at h1; exact absurd (by decide) h1
      · rw [if_neg hyx] at h1
        by_cases hxy : x < y
        · rw [if_pos hxy]; exact .inr (by decide)
        · rw [if_neg hxy] at h1 ⊢
          rw [if_neg (by omega)]
          have e : x = y := by omega
          subst e
          rcases ih t (by simpa using h) h1 with h | h
          · exact .inl (by rw [h])
          · exact .inr h
theorem rise_of {d' : Array R8} (hs : SortedIn (ltOf cmp8) 0 d'.size d') (hnd : d'.toList.Nodup) : Rise d'.toList := by
  unfold Rise
  rw [List.pairwise_iff_getElem]
  intro i j hi hj hij
  have hi' : i < d'.size := by simpa using hi
  have hj' : j < d'.size := by simpa using hj
  have h := hs i j (Nat.zero_le _) hij hj'
  have e1 : d'[i]! = d'[i] := getElem!_pos d' i hi'
  have e2 : d'[j]! = d'[j] := getElem!_pos d' j hj'
  rw [e1, e2] at h
  unfold ltOf cmp8 at h
  rw [decide_eq_false_iff_not] at h
  rcases aheadL_tri _ _ (by rfl) h with e | e
  · exact absurd (R8.l_inj e) ((List.pairwise_iff_getElem.1 hnd) i j hi hj hij)
  · exact e
theorem insNil (w : World) : Calls Tryd.prog 89 #[.slice none 0 0, .int .i64 0, .int .i64 0, .func (.func 49) #[] #[]] w fun e w' => e = .returned (.tuple #[]) ∧ w' = w := by
  go_enter Tryd.func89, Tryd.ntmps89
  go_wp2
  go_loopw [8] (fun s wr => s = .int .i64 1 ∧ wr = w) (fun _ _ => 0)
  case atStart => exact ⟨rfl, rfl⟩
  case round =>
    obtain ⟨rfl, rfl⟩ := hrel
    go_wp2
    go_end0
    exact ⟨rfl, rfl⟩
theorem pdqNil (k : Int) (w : World) : Calls Tryd.prog 78 #[.slice none 0 0, .int .i64 0, .int .i64 0, .int .i64 k, .func (.func 49) #[] #[]] w fun e w' => e = .returned (.tuple #[]) ∧ w' = w := by
  go_enter Tryd.func78, Tryd.ntmps78
  go_wp2
  go_loopw [1, 2, 3, 10, 11] (fun s1 s2 s3 s10 s11 wr => s1 = .int .i64 0 ∧ s2 = .int .i64 0 ∧ wr = w) (fun _ _ _ _ _ _ => 0)
  case atStart => exact ⟨rfl, rfl, rfl⟩
  case round =>
    obtain ⟨rfl, rfl, rfl⟩ := hrel
    go_wp2_with fail
    refine (insNil _).mono ?_
    rintro e w1 ⟨rfl, rfl⟩
    go_wp2
    refine bodyPost_ret (results_none rfl _ _ _) rfl ?_
    exact ⟨rfl, rfl⟩
theorem sortNil_any (w : World) : Calls Tryd.prog 64 #[.slice none 0 0, .func (.func 49) #[] #[]] w fun e w' => e = .returned (.tuple #[]) ∧ Below w.heap.size w w' := by
  have hl : Calls Tryd.prog 79 #[.int .u64 0] w fun e w' => e = .returned (.int .i64 (Lib.bitLen 0 : Nat)) ∧ w' = w := by
    have L := Tryd.sortRow
    exact Any.bits_Len (SlLaysF0.n15.bits { L with }) 0 w (by omega) (by omega)
  go_enter Tryd.func64, Tryd.ntmps64
  go_wp2_with fail
  refine hl.mono ?_
  rintro e w1 ⟨rfl, rfl⟩
  go_wp2_with fail
  refine (pdqNil _ _).mono ?_
  rintro e w1 ⟨rfl, rfl⟩
  go_wp2
  go_end0
  exact ⟨rfl, Below.refl _ _⟩
set_option maxHeartbeats 1000000 in
/-- slices.SortedFunc(maps.Keys(m), compare). -/
theorem sorted_any (Bm b nn : Nat) (hnn : nn ≤ 4096) (f : List Int → Option Value) (w : World) (hBm : Bm < w.heap.size) (hm : w.cell? ⟨Bm, 0, none⟩ = some (.map (some b))) (hown : MapR w b nn f) :
    Calls Tryd.prog 47 #[.func (.func 65) #[] #[.pointer (some ⟨Bm, 0, none⟩)], .func (.func 49) #[] #[]] w fun e w' => ∃ (v : Value) (ss : List R8), e = .returned v ∧ Rise ss ∧ (∀ r, r ∈ ss ↔ RowOk r.l ∧ (f r.l).isSome = true) ∧ w'.ownsRow w.heap.size 73 8 v ss.length (cells8 ss) ∧ Below w.heap.size w w' := by
  have hc := callsIn_wide.1 (collect_in 3 (by decide) #[.pointer (some ⟨Bm, 0, none⟩)] _ nn (by omega) w (keys_stops 1 (by decide) Bm b nn f w hBm hm hown))
  go_enter Tryd.func47, Tryd.ntmps47
  go_wp2_with fail
  refine hc.mono ?_
  rintro e W ⟨v, ss, rfl, ⟨⟨hnd, hS⟩, hlen⟩, hrow, hb⟩
  rcases hrow.2 with ⟨rfl, hz⟩ | ⟨gb, cap, cur, rfl, hbase, hgb, r1, r2, r3, r4⟩
  · have hss : ss = [] := List.eq_nil_of_length_eq_zero hz
    subst hss
    go_wp2_with fail
    refine (sortNil_any W).mono ?_
    rintro e w2 ⟨rfl, hb2⟩
    go_wp2
    go_ret
    exact ⟨_, [], rfl, List.Pairwise.nil, hS, World.ownsRow_nil _ _ _ _, hb.trans (hb2.mono hb.size)⟩
  · have hH : HoldsK enc8 8 W gb 0 ss.toArray := holds8 hgb r4
    have hgl : gb < W.heap.size := (Array.getElem?_eq_some_iff.1 hgb).1
    have hsz : ss.toArray.size < 4611686018427387904 := by simp; omega
    have cS := sortRows_any gb 0 cap ss.toArray W hH hgl hsz
    rw [show ss.toArray.size = ss.length from by simp] at cS
    go_wp2_with fail
    refine cS.mono ?_
    rintro e w' ⟨rfl, d', n, os, hperm, hsort, rfl⟩
    go_wp2
    go_ret
    obtain ⟨hs1, _, hp⟩ := hperm
    have hsz2 : d'.size = ss.length := by rw [hs1]; simp
    have hp' : d'.toList.Perm ss := by
      rw [← hsz2, Array.extract_size] at hp
      rw [hsz2] at hp
      simpa using hp
    have hrow' := owns8 (n := n) (os := os) (ts := d'.toList) (ss := ss) (base := w.heap.size) (by simpa using hsz2) hbase hgb r1 r2 r3
    rw [← hsz2] at hsort
    exact ⟨_, d'.toList, rfl, rise_of hsort (hp'.nodup_iff.2 hnd), fun r => (hp'.mem_iff).trans (hS r), by simpa using hrow', hb.grown (grown8 _) hb.size (fun j hj => by cases hj; exact hbase)⟩
end Go.Proofs.YtfeppbiodbhpcaaDoor
