/-
  The landed cells: the calls' contracts (CellsOk Hc), and those of cells that are nil (CellsNil).
-/
import Derived.Test.YtpppjipelcfnkaaClP5
namespace Go.Proofs.Ytpppjipelcfnkaa
open Go.RowKit

theorem okc : CellsOk Hc where
  lt := fun ⟨_, _, _, h⟩ => h.lt
  keep := fun ⟨g, b, e, h⟩ hk hs => ⟨g, b, e, h.keep hk hs⟩
  ord := fun ⟨_, _, _, h⟩ => h.ord
  ptr := fun ⟨g, _, e, _⟩ => ⟨_, e⟩
  less := less11
  new := new11
  read := fun h hf k ts t0 t1 => read11 h hf k ts t0 t1
  write := fun h hf k ts val t0 t1 => write11 h hf k ts val t0 t1
  commit := fun h hf ts t0 t1 => (commit11 h hf ts t0 t1).mono (fun e w' hh => by
    obtain ⟨v', he, F', T, h1, h2, h3, h4, h5⟩ := hh
    exact ⟨v', F', T, he, h1, h2, h3, h4, h5⟩)
  abort := fun h hf ts t0 t1 => abort11 h hf ts t0 t1
  set := fun h _ hc hl k => set11 h hc hl k
  chain := fun h hf k => chain11 h hf k
  keys := fun h hf => by
    obtain ⟨g, b, rfl, h⟩ := h
    exact (keysG11 h hf).mono (fun e w' hh => by
      obtain ⟨A, c, he, h1, h2⟩ := hh
      exact ⟨_, he, h1, h2⟩)
  newest := fun h hf => newest11 h hf

set_option maxRecDepth 100000 in
set_option maxHeartbeats 1000000 in
theorem keysN (w : World) : Calls Try.prog 13 #[.pointer none] w fun e w' => e = .returned (.slice none 0 0) ∧ Below w.heap.size w w' := by
  have HB := Lib.hid (Below.refl w.heap.size w)
  go_enter Try.func13, Try.ntmps13
  go_wp2
  go_ret
  exact ⟨rfl, HB.out⟩

set_option maxRecDepth 100000 in
set_option maxHeartbeats 1000000 in
theorem readN (k : Cl.Ky) (ts : Int) (w : World) : Calls Try.prog 21 #[.pointer none, keyA k, .int .i64 ts] w fun e w' => e = .returned (verA Cn.zero) ∧ Below w.heap.size w w' := by
  have HB := Lib.hid (((Below.refl w.heap.size w).alloc (Nat.le_refl _) (.cells #[.int .i64 k.kind, .int .i64 k.a, .int .i64 k.b] 31)).alloc (by simp) (.cells #[.int .i64 0, .int .i64 0, .string ⟨#[]⟩, .bool false] 49))
  have HR := Lib.hid (Bk.new (w.alloc (.cells #[.int .i64 k.kind, .int .i64 k.a, .int .i64 k.b] 31)) [.int .i64 0, .int .i64 0, .string ⟨#[]⟩, .bool false] 49 (g := w.heap.size + 1) (by simp))
  unfold keyA
  go_enter Try.func21, Try.ntmps21
  go_wp2
  refine bodyPost_ret (results_bk rfl _ rfl HR.out Try.underlying49 rfl infoCv) rfl ?_
  exact ⟨rfl, HB.out⟩

set_option maxRecDepth 100000 in
set_option maxHeartbeats 1000000 in
theorem writeN (k : Cl.Ky) (ts : Int) (val : ByteArray) (w : World) : Calls Try.prog 22 #[.pointer none, keyA k, .int .i64 ts, .string val] w fun e w' => e = .returned (.int .i64 1) ∧ Below w.heap.size w w' := by
  have HB := Lib.hid ((Below.refl w.heap.size w).alloc (Nat.le_refl _) (.cells #[.int .i64 k.kind, .int .i64 k.a, .int .i64 k.b] 31))
  unfold keyA
  go_enter Try.func22, Try.ntmps22
  go_wp2
  go_ret
  exact ⟨rfl, HB.out⟩

set_option maxRecDepth 100000 in
set_option maxHeartbeats 1000000 in
theorem setN {w : World} {G : Nat → Prop} {vc : Value} {c : Cn.Ch} (hc : SlC w G vc c) (k : Cl.Ky) : Calls Try.prog 23 #[.pointer none, keyA k, vc] w fun e w' => e = .returned (.tuple #[]) ∧ Below w.heap.size w w' := by
  obtain ⟨A, cap, rfl, _⟩ := SlC.form hc
  clear hc
  generalize c.length = n
  have HB := Lib.hid ((Below.refl w.heap.size w).alloc (Nat.le_refl _) (.cells #[.int .i64 k.kind, .int .i64 k.a, .int .i64 k.b] 31))
  unfold keyA
  go_enter Try.func23, Try.ntmps23
  go_wp2
  refine bodyPost_ret (results_none rfl _ _ _) rfl ?_
  exact ⟨rfl, HB.out⟩

set_option maxRecDepth 100000 in
set_option maxHeartbeats 1000000 in
theorem chainN (k : Cl.Ky) (w : World) : Calls Try.prog 19 #[.pointer none, keyA k] w fun e w' => ∃ v', e = .returned v' ∧ SlC w' (S.New w w') v' Cn.fresh ∧ Below w.heap.size w w' := by
  have HB := Lib.hid ((Below.refl w.heap.size w).alloc (Nat.le_refl _) (.cells #[.int .i64 k.kind, .int .i64 k.a, .int .i64 k.b] 31))
  have HF := Lib.hid (fun w => ok10.fresh w)
  unfold keyA
  go_enter Try.func19, Try.ntmps19
  go_wp2_with (go_at_call 31; refine (HF.out _).mono ?_; rintro e w3 ⟨v3, rfl, h3, hb3⟩; have H3 := Lib.hid h3; have HB3 := Lib.hid hb3; clear hb3; obtain ⟨A3, c3, rfl, _⟩ := SlC.form h3; clear h3)
  go_ret
  exact ⟨_, rfl, H3.out.wider (fun r q => ⟨Nat.le_trans HB.out.size q.1, q.2⟩), below_two HB.out HB3.out⟩

set_option maxRecDepth 100000 in
set_option maxHeartbeats 1000000 in
theorem commitN (ts : Int) (w : World) : Calls Try.prog 25 #[.pointer none, .int .i64 ts] w fun e w' => e = .returned (.slice none 0 0) ∧ Below w.heap.size w w' := by
  have HK := Lib.hid (keysN w)
  go_enter Try.func25, Try.ntmps25
  go_wp2_with (go_at_call 13; refine HK.out.mono ?_; rintro e w1 ⟨rfl, hb1⟩; have HB1 := Lib.hid hb1; clear hb1)
  refine wp_loop_rounds 1 ?_
  rw [rounds_succ]
  go_wp2
  go_ret
  exact ⟨rfl, HB1.out⟩

set_option maxRecDepth 100000 in
set_option maxHeartbeats 1000000 in
theorem abortN (ts : Int) (w : World) : Calls Try.prog 27 #[.pointer none, .int .i64 ts] w fun e w' => e = .returned (.tuple #[]) ∧ Below w.heap.size w w' := by
  have HK := Lib.hid (keysN w)
  go_enter Try.func27, Try.ntmps27
  go_wp2_with (go_at_call 13; refine HK.out.mono ?_; rintro e w1 ⟨rfl, hb1⟩; have HB1 := Lib.hid hb1; clear hb1)
  refine wp_loop_rounds 1 ?_
  rw [rounds_succ]
  go_wp2
  go_end0
  exact ⟨rfl, HB1.out⟩

set_option maxRecDepth 100000 in
set_option maxHeartbeats 1000000 in
theorem newestN (w : World) : Calls Try.prog 15 #[.pointer none] w fun e w' => e = .returned (.slice none 0 0) ∧ Below w.heap.size w w' := by
  have HK := Lib.hid (keysN w)
  go_enter Try.func15, Try.ntmps15
  go_wp2_with (go_at_call 13; refine HK.out.mono ?_; rintro e w1 ⟨rfl, hb1⟩; have HB1 := Lib.hid hb1; clear hb1)
  refine wp_loop_rounds 1 ?_
  rw [rounds_succ]
  go_wp2
  go_ret
  exact ⟨rfl, HB1.out⟩

theorem nilc : CellsNil where
  read := readN
  write := writeN
  commit := fun ts w => (commitN ts w).mono (fun _ _ hh => ⟨⟨none, 0, hh.1⟩, hh.2⟩)
  abort := abortN
  set := fun hc _ _ k => setN hc k
  chain := chainN
  keys := fun w => (keysN w).mono (fun _ _ hh => ⟨⟨none, 0, hh.1⟩, hh.2⟩)
  newest := fun w => (newestN w).mono (fun _ _ hh => ⟨⟨none, 0, hh.1⟩, hh.2⟩)
end Go.Proofs.Ytpppjipelcfnkaa
