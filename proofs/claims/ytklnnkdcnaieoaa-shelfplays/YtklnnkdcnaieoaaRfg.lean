/- What the document's Get does; what place says of a list by rising keys (contracts; nothing is claimed here). -/
import Derived.Test.YtklnnkdcnaieoaaPlc
namespace Go.Proofs.Ytklnnkdcnaieoaa
open Go.RowKit Go.Vf

theorem Plc.get {L : List Pr} {key : ByteArray} {k : Nat} (h : Plc L key k true) (hs : Srt L) : ∃ hk : k < L.length, L[k].1 = key ∧ Go.Vf.get key L = some L[k].2 := by
  obtain ⟨hk, e⟩ := h.yes rfl
  refine ⟨hk, e, (get_mem hs).2 ?_⟩
  rw [← e]
  exact List.getElem_mem hk
/-- All from k on are higher. -/
theorem Plc.above {L : List Pr} {key : ByteArray} {k : Nat} (h : Plc L key k false) (hs : Srt L) (j : Nat) (hj : j < L.length) (hkj : k ≤ j) : lt key L[j].1 = true := by
  have hk : k < L.length := by omega
  have h1 : lt key L[k].1 = true := lt_of_not (h.high hk) (h.no rfl hk)
  by_cases e : j = k
  · subst e; exact h1
  · unfold Srt at hs
    rw [List.pairwise_iff_getElem] at hs
    exact lt_trans h1 (hs k j hk hj (by omega))
theorem Plc.none {L : List Pr} {key : ByteArray} {k : Nat} (h : Plc L key k false) (hs : Srt L) : Go.Vf.get key L = Option.none := by
  rw [get_none]
  intro p hp
  obtain ⟨j, hj, rfl⟩ := List.mem_iff_getElem.1 hp
  by_cases e : j < k
  · exact lt_ne (h.low j hj e)
  · exact (lt_ne (h.above hs j hj (by omega))).symm
/-- Put in there, the list is what it should be. -/
theorem Plc.ins {L : List Pr} {key v : ByteArray} {k : Nat} (h : Plc L key k false) (hs : Srt L) : L.take k ++ (key, v) :: L.drop k = Go.Vf.ins key v L := by
  have e1 : L.filter (fun p => lt p.1 key) = L.take k := by
    conv => lhs; rw [← List.take_append_drop k L]
    rw [List.filter_append, filter_all (l := L.take k) (fun x hx => ?_), filter_nil (l := L.drop k) (fun x hx => ?_), List.append_nil]
    · obtain ⟨j, hj, rfl⟩ := List.mem_iff_getElem.1 hx
      rw [List.getElem_drop]
      rw [List.length_drop] at hj
      exact lt_asymm (h.above hs (k + j) (by omega) (by omega))
    · obtain ⟨j, hj, rfl⟩ := List.mem_iff_getElem.1 hx
      rw [List.getElem_take]
      rw [List.length_take] at hj
      exact h.low j (by omega) (by omega)
  have e2 : L.filter (fun p => lt key p.1) = L.drop k := by
    conv => lhs; rw [← List.take_append_drop k L]
    rw [List.filter_append, filter_nil (l := L.take k) (fun x hx => ?_), filter_all (l := L.drop k) (fun x hx => ?_), List.nil_append]
    · obtain ⟨j, hj, rfl⟩ := List.mem_iff_getElem.1 hx
      rw [List.getElem_drop]
      rw [List.length_drop] at hj
      exact h.above hs (k + j) (by omega) (by omega)
    · obtain ⟨j, hj, rfl⟩ := List.mem_iff_getElem.1 hx
      rw [List.getElem_take]
      rw [List.length_take] at hj
      exact lt_asymm (h.low j (by omega) (by omega))
  unfold Go.Vf.ins
  rw [e1, e2]
theorem tuple26 {tmps : Array Value} {w : World} : (results Try.f26 tmps).run Try.prog w = .ok (.tuple #[tmps[4]?.getD undef, tmps[5]?.getD undef]) w := by simp [results, Try.results26, go_sem]
set_option maxHeartbeats 4000000 in
theorem rget_any (w : World) (C base : Nat) (v : Value) (L : List Pr) (key : ByteArray) (h : RfAt w C base v L) (hs : Srt L) (hl : L.length ≤ 4294967296) : Calls Try.prog 26 #[.pointer (some ⟨C, 0, none⟩), .string key] w fun e w' => e = .returned (getV key L) ∧ Below w.heap.size w w' := by
  obtain ⟨G, HG⟩ : ∃ G, Hid (G = getV key L) := ⟨_, rfl⟩
  rw [← HG.out]
  have HH : Hid (RfAt w C base v L) := h
  have HS : Hid (Srt L) := hs
  have hp := place_any w C base v L key h hl
  clear h hs
  go_enter Try.func26, Try.ntmps26
  go_wp2_with fail
  refine hp.mono ?_
  clear hp
  rintro e w1 ⟨k, is, rfl, hp, hb1⟩
  have HP : Hid (Plc L key k is) := hp
  clear hp
  cases is with
  | false =>
    go_wp2
    refine bodyPost_ret tuple26 rfl ?_
    refine ⟨?_, hb1⟩
    rw [HG.out, getV, HP.out.none HS.out]
    rfl
  | true =>
    obtain ⟨hk, hke, hgv⟩ := HP.out.get HS.out
    have h1 := HH.out.old hb1
    obtain ⟨g, cc, _, _, q1, pat⟩ := PRow.at h1.row (by omega)
    have z1 := (pat k hk).2
    have c1 := h1.box.c1
    rw [q1] at c1
    obtain ⟨pv, hpv⟩ : ∃ pv, pv = L[k].2 := ⟨_, rfl⟩
    rw [← hpv] at z1
    have HGV : Hid (get key L = some pv) := by rw [hpv]; exact hgv
    obtain ⟨n, hn⟩ : ∃ n, n = L.length := ⟨_, rfl⟩
    rw [← hn] at c1
    have hkn : (k : Int) < (n : Int) := by omega
    have hnb : n ≤ 4294967296 := by omega
    clear hn hpv hke hgv q1 pat h1 hk hl
    go_wp2
    refine bodyPost_ret tuple26 rfl ?_
    refine ⟨?_, hb1⟩
    rw [HG.out, getV, HGV.out]
    rfl
end Go.Proofs.Ytklnnkdcnaieoaa
