/-
  The landed cells: the calls' contracts (CellsOk Hc), and those of cells that are nil (CellsNil).
-/
import Derived.Test.YtmlocdfjjgbnjaaClP5
namespace Go.Proofs.Ytmlocdfjjgbnjaa
open Go.RowKit

theorem okc : CellsOk Hc where
  lt := fun ⟨_, _, _, h⟩ => h.lt
  keep := fun ⟨g, b, e, h⟩ hk hs => ⟨g, b, e, h.keep hk hs⟩
  ord := fun ⟨_, _, _, h⟩ => h.ord
  ptr := fun ⟨g, _, e, _⟩ => ⟨_, e⟩
  less := less11
  new := new11
  set := fun h _ hc hl k => set11 h hc hl k
  chain := fun h hf k => chain11 h hf k
  keys := fun h hf => by
    obtain ⟨g, b, rfl, h⟩ := h
    exact (keysG11 h hf).mono (fun e w' hh => by
      obtain ⟨A, c, he, h1, h2⟩ := hh
      exact ⟨_, he, h1, h2⟩)
  newest := fun h hf => newest11 h hf

set_option maxRecDepth 100000 in
set_option maxHeartbeats 1000000 in
theorem keysN (w : World) : Calls Try.prog 27 #[.pointer none] w fun e w' => e = .returned (.slice none 0 0) ∧ Below w.heap.size w w' := by
  have HB := Lib.hid (Below.refl w.heap.size w)
  go_enter Try.func27, Try.ntmps27
  go_wp2
  go_ret
  exact ⟨rfl, HB.out⟩

set_option maxRecDepth 100000 in
set_option maxHeartbeats 1000000 in
theorem setN {w : World} {G : Nat → Prop} {vc : Value} {c : Cn.Ch} (hc : SlC w G vc c) (k : Cl.Ky) : Calls Try.prog 43 #[.pointer none, keyA k, vc] w fun e w' => e = .returned (.tuple #[]) ∧ Below w.heap.size w w' := by
  obtain ⟨A, cap, rfl, _⟩ := SlC.form hc
  clear hc
  generalize c.length = n
  have HB := Lib.hid ((Below.refl w.heap.size w).alloc (Nat.le_refl _) (.cells #[.int .i64 k.kind, .int .i64 k.a, .int .i64 k.b] 50))
  unfold keyA
  go_enter Try.func43, Try.ntmps43
  go_wp2
  refine bodyPost_ret (results_none rfl _ _ _) rfl ?_
  exact ⟨rfl, HB.out⟩

set_option maxRecDepth 100000 in
set_option maxHeartbeats 1000000 in
theorem chainN (k : Cl.Ky) (w : World) : Calls Try.prog 29 #[.pointer none, keyA k] w fun e w' => ∃ v', e = .returned v' ∧ SlC w' (S.New w w') v' Cn.fresh ∧ Below w.heap.size w w' := by
  have HB := Lib.hid ((Below.refl w.heap.size w).alloc (Nat.le_refl _) (.cells #[.int .i64 k.kind, .int .i64 k.a, .int .i64 k.b] 50))
  have HF := Lib.hid (fun w => ok10.fresh w)
  unfold keyA
  go_enter Try.func29, Try.ntmps29
  go_wp2_with (go_at_call 39; refine (HF.out _).mono ?_; rintro e w3 ⟨v3, rfl, h3, hb3⟩; have H3 := Lib.hid h3; have HB3 := Lib.hid hb3; clear hb3; obtain ⟨A3, c3, rfl, _⟩ := SlC.form h3; clear h3)
  go_ret
  exact ⟨_, rfl, H3.out.wider (fun r q => ⟨Nat.le_trans HB.out.size q.1, q.2⟩), below_two HB.out HB3.out⟩

set_option maxRecDepth 100000 in
set_option maxHeartbeats 1000000 in
theorem newestN (w : World) : Calls Try.prog 30 #[.pointer none] w fun e w' => e = .returned (.slice none 0 0) ∧ Below w.heap.size w w' := by
  have HK := Lib.hid (keysN w)
  go_enter Try.func30, Try.ntmps30
  go_wp2_with (go_at_call 27; refine HK.out.mono ?_; rintro e w1 ⟨rfl, hb1⟩; have HB1 := Lib.hid hb1; clear hb1)
  refine wp_loop_rounds 1 ?_
  rw [rounds_succ]
  go_wp2
  go_ret
  exact ⟨rfl, HB1.out⟩

theorem nilc : CellsNil where
  set := fun hc _ _ k => setN hc k
  chain := chainN
  keys := fun w => (keysN w).mono (fun _ _ hh => ⟨⟨none, 0, hh.1⟩, hh.2⟩)
  newest := fun w => (newestN w).mono (fun _ _ hh => ⟨⟨none, 0, hh.1⟩, hh.2⟩)
end Go.Proofs.Ytmlocdfjjgbnjaa
