/- What dovetaillaw05's lent and kept do (contracts; nothing is claimed here). -/
import Derived.Test.YtadbkkakjekopaaDoorTurnsW
namespace Go.Proofs.YtadbkkakjekopaaDoor
open Go.RowKit Go.Vf Go.Maps

/-- A list that was lent: with marked room behind it. -/
structure LentAt (w : World) (base g cap n : Nat) (zs : List Int) : Prop where
  own : IOwn w base (.slice (some ⟨g, 0, none⟩) (n + 2) cap) (zs ++ [-77, -78])
  len : n = zs.length
theorem LentAt.go {w w' : World} {base g cap n : Nat} {zs : List Int} (h : LentAt w base g cap n zs) (hb : Below w.heap.size w w') : LentAt w' base g cap n zs := ⟨own_after h.own hb, h.len⟩
theorem LentAt.numb {w : World} {base g cap n : Nat} {zs : List Int} (h : LentAt w base g cap n zs) (hI : ∀ q ∈ zs, InI q) (hf : zs.length ≤ 1000000000) : Numb w (some ⟨g, 0, none⟩) n cap zs := by
  have := h.own.front n (by rw [h.len]; simp)
  rw [List.take_append_of_le_length (by rw [h.len]; exact Nat.le_refl _), h.len, List.take_length, ← h.len] at this
  exact this.numb hI hf

set_option maxHeartbeats 2000000 in
set_option maxRecDepth 20000 in
theorem lent_any {w : World} {a : Option Addr} {k c : Nat} {zs : List Int} (ha : Numb w a k c zs) :
    Calls Tryd.prog 11 #[.slice a k c] w fun e w' => ∃ g cap, e = .returned (.slice (some ⟨g, 0, none⟩) k cap) ∧ LentAt w' w.heap.size g cap k zs ∧ Below w.heap.size w w' := by
  have HA : Aside (Numb w a k c zs) := ha
  have HK : Hid (k = zs.length) := ha.len
  have h1 := ha.few
  have hkl : k ≤ 1000000000 := by rw [ha.len]; exact ha.few
  clear ha
  go_enter Tryd.func11, Tryd.ntmps11
  go_upto_region 3 with (first | (at_builtin; refine wpList_append_any rfl _ _ rfl w.heap.size _ [] rfl (IOwn.nil _ _) zs w.heap.size _ rfl HA.out.ints (by simp; omega) (Nat.le_refl _) ?_; intro a3 c3 w3 hown3 hbel3 hgr3 hat3))
  have hO3 : IOwn w3 w.heap.size (.slice a3 zs.length c3) zs := by simpa using hown3
  have hbA := (Below.refl w3.heap.size w3).alloc (Nat.le_refl _) (.cells #[.int .i64 (-77), .int .i64 (-78)] 3)
  have hnA := Blk.new w3 3 #[.int .i64 (-77), .int .i64 (-78)]
  have hcA : ∀ u, u < [(-77 : Int), -78].length → (w3.alloc (.cells #[.int .i64 (-77), .int .i64 (-78)] 3)).cell? ((⟨w3.heap.size, 0, none⟩ : Addr).add u) = some (.int .i64 ([(-77 : Int), -78][u]?.getD 0)) := fun u hu => by
    rw [Go.WideShapes.add_plain, Nat.zero_add, hnA.cell]
    rcases u with _ | _ | u
    · rfl
    · rfl
    · simp only [List.length_cons, List.length_nil] at hu; omega
  have HOA : Aside (IOwn (w3.alloc (.cells #[.int .i64 (-77), .int .i64 (-78)] 3)) w.heap.size (.slice a3 zs.length c3) zs) := own_after hO3 hbA
  have hbz := hbel3.trans (hbA.mono hbel3.size)
  have HBZ : Aside (Below w.heap.size w (w3.alloc (.cells #[.int .i64 (-77), .int .i64 (-78)] 3))) := hbz
  have HCA : Aside _ := hcA
  have hpl : zs.length + [(-77 : Int), -78].length ≤ 1099511627776 := by simp; omega
  have hsz := HBZ.out.size
  clear hO3 hown3 hgr3 hat3 hbA hnA hcA hbz
  go_upto_region 4 with (first | (at_builtin; refine wpList_append_ints rfl _ _ rfl w.heap.size _ zs rfl HOA.out [-77, -78] ⟨w3.heap.size, 0, none⟩ _ rfl HCA.out hpl hsz ?_; intro a4 c4 w4 hown4 hgr4 hnil4 hat4))
  have hb4 : Below w.heap.size w w4 := HBZ.out.grown hgr4 hsz (fun k hk => (own_ge HOA.out hk).1)
  obtain ⟨g4, rfl, hg4, hcap4⟩ := hown4.some_of (by rw [List.length_append]; simp)
  have hO4 : IOwn w4 w.heap.size (.slice (some ⟨g4, 0, none⟩) (k + 2) c4) (zs ++ [-77, -78]) := by rw [HK.out]; simpa using hown4
  have HF : Aside (LentAt w4 w.heap.size g4 c4 k zs) := ⟨hO4, HK.out⟩
  have hkc : (k : Int) ≤ (c4 : Int) := by rw [List.length_append] at hcap4; simp at hcap4; have := HK.out; omega
  clear hO4 hown4 hgr4 hnil4 hat4 hcap4 HOA HCA
  go_wp2_with fail
  go_ret
  exact ⟨g4, c4, rfl, HF.out, hb4⟩

set_option maxHeartbeats 2000000 in
set_option maxRecDepth 20000 in
theorem kept_any {w : World} {base g cap n : Nat} {zs : List Int} (hl : LentAt w base g cap n zs) (hI : ∀ q ∈ zs, InI q) {b : Option Addr} {c2 : Nat} (hb : Numb w b n c2 zs) :
    Calls Tryd.prog 18 #[.slice (some ⟨g, 0, none⟩) n cap, .slice b n c2] w fun e w' => e = .returned (.bool true) ∧ Below w.heap.size w w' := by
  have hq := sameInts_any _ _ zs zs w.heap.size w.heap.size w (hl.numb hI hb.few).ints hb.ints (by have := hb.few; omega) (by have := hb.few; omega)
  rw [show decide (zs = zs) = true by simp] at hq
  have hk := hl.len
  have hfew : n ≤ 1000000000 := by rw [hk]; exact hb.few
  obtain ⟨hcells, hcap⟩ : (∀ j, j < (zs ++ [-77, -78]).length → w.cell? ⟨g, j, none⟩ = some (.int .i64 ((zs ++ [-77, -78])[j]?.getD 0))) ∧ n + 2 ≤ cap := by
    rcases hl.own.form with ⟨e, _⟩ | ⟨g', cap', e, _, _, hc, h1, _⟩
    · cases e
    · obtain ⟨e1, e2, e3⟩ := Value.slice.inj e
      cases e1; subst e3
      exact ⟨h1, by rw [List.length_append] at hc; simp at hc; omega⟩
  have c77 : ∀ x, Below w.heap.size w x → x.cell? ⟨g, n, none⟩ = some (.int .i64 (-77)) := fun x hx => by
    have h0 := hcells n (by rw [List.length_append]; simp; omega)
    rw [hk, List.getElem?_append_right (Nat.le_refl _), Nat.sub_self, ← hk] at h0
    exact (hx.cell (p := ⟨g, n, none⟩) (World.block_lt_of_cell? w _ h0)).trans h0
  have c78 : ∀ x, Below w.heap.size w x → x.cell? ⟨g, n + 1, none⟩ = some (.int .i64 (-78)) := fun x hx => by
    have h0 := hcells (n + 1) (by rw [List.length_append]; simp; omega)
    rw [hk, List.getElem?_append_right (by omega), Nat.add_sub_cancel_left, ← hk] at h0
    exact (hx.cell (p := ⟨g, n + 1, none⟩) (World.block_lt_of_cell? w _ h0)).trans h0
  have C77 : Aside _ := c77
  have C78 : Aside _ := c78
  have hz1 : (n : Int) + 2 ≤ (cap : Int) := by omega
  clear c77 c78 hcells hl hb hk hI
  go_enter Tryd.func18, Tryd.ntmps18
  go_wp2_with fail
  refine hq.mono ?_
  rintro e w1 ⟨rfl, hb1⟩
  have d77 := C77.out w1 hb1
  have d78 := C78.out w1 hb1
  clear hq C77 C78
  go_wp2
  go_ret
  exact ⟨rfl, hb1⟩
end Go.Proofs.YtadbkkakjekopaaDoor
