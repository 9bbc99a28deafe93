/- What lit's needBlank and readList do (contracts; nothing is claimed here). -/
import Derived.Test.YtffhbellpcneeaaJ10
import Derived.Test.YtffhbellpcneeaaLInv
namespace Go.Proofs.Ytffhbellpcneeaa
open Go.RowKit Go.Vf
theorem blank_yes (B k n : Nat) (s : ByteArray) (hs : s.size ≤ 65536) (hk : k ≤ s.size) (hn : n < 1024) (w : World) (h : Rdr w B s k) (hp : [32].isPrefixOf (s.data.toList.drop k) = true) :
    Calls Try.prog 75 #[.pointer (some ⟨B, 0, none⟩), .int .i64 (n : Int)] w fun e w' => e = .returned (.tuple #[]) ∧ Rk B s (k + 1) w w' ∧ w'.heap.size = w.heap.size := by
  obtain ⟨c0, c1, f1⟩ := h.two
  have hy := skip_yes B k s ⟨#[32]⟩ hs hk (by decide) w h hp
  have t : decide ((n : Int) < 1024) = true := decide_eq_true (by omega)
  have hnd := fun w' => need_yes (k : Int) w'
  clear hp
  go_enter Try.func75, Try.ntmps75
  go_wp2_with fail
  refine hy.mono ?_
  rintro _ w1 ⟨rfl, hr, hz⟩
  have hn1 := hnd w1
  have HZ : Hid (w1.heap.size = w.heap.size) := hz
  clear hnd hz
  go_wp2_with fail
  refine hn1.mono ?_
  rintro _ _ ⟨rfl, rfl⟩
  go_wp2_with fail
  go_end0
  exact ⟨rfl, hr, HZ.out⟩
theorem blank_many (B k n : Nat) (s : ByteArray) (hn : ¬ n < 1024) (hn2 : n ≤ 65536) (w : World) (h : Rdr w B s k) :
    Calls Try.prog 75 #[.pointer (some ⟨B, 0, none⟩), .int .i64 (n : Int)] w fun e w' => e = lostL 100 (k : Int) ∧ Rk B s k w w' := by
  obtain ⟨c0, c1, f1⟩ := h.two
  have t : decide ((n : Int) < 1024) = false := decide_eq_false (by omega)
  have t2 : decide (n < 1024) = false := decide_eq_false hn
  have hnd := need_not (k : Int) w
  have HR := Rk.refl h
  clear h
  go_enter Try.func75, Try.ntmps75
  go_wp2_with fail
  refine hnd.mono ?_
  rintro _ _ ⟨rfl, rfl⟩
  exact ⟨rfl, rfl, HR⟩
theorem blank_no (B k n : Nat) (s : ByteArray) (hs : s.size ≤ 65536) (hk : k ≤ s.size) (hn : n < 1024) (w : World) (h : Rdr w B s k) (hp : [32].isPrefixOf (s.data.toList.drop k) = false) :
    Calls Try.prog 75 #[.pointer (some ⟨B, 0, none⟩), .int .i64 (n : Int)] w fun e w' => e = lostL 100 (k : Int) ∧ Rk B s k w w' := by
  obtain ⟨c0, c1, f1⟩ := h.two
  have hy := skip_no B k s ⟨#[32]⟩ hs hk (by decide) w h hp
  have t : decide ((n : Int) < 1024) = true := decide_eq_true (by omega)
  have hnd := fun w' => need_not (k : Int) w'
  clear hp
  go_enter Try.func75, Try.ntmps75
  go_wp2_with fail
  refine hy.mono ?_
  rintro _ w1 ⟨rfl, hr, -⟩
  have hn1 := hnd w1
  clear hnd
  go_wp2_with fail
  refine hn1.mono ?_
  rintro _ _ ⟨rfl, rfl⟩
  exact ⟨rfl, rfl, hr⟩
end Go.Proofs.Ytffhbellpcneeaa
