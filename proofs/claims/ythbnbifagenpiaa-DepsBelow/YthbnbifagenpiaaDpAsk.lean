/-
  Who waits for whom in memory as a map of maps: All, Waits.
-/
import Derived.Test.YthbnbifagenpiaaDpHm
import Derived.Test.YthbnbifagenpiaaDpSortM
namespace Go.Proofs.Ythbnbifagenpiaa
open Go.RowKit

theorem zeroMap (w : World) : (zeroValue 58).run Try.prog w = .ok (.map none) w := by kernel_rfl

set_option maxRecDepth 100000 in
set_option maxHeartbeats 1000000 in
theorem all12 {w : World} {F : Nat → Prop} {v : Value} {d : List Dp.Wt} (h : Hd w F v d) (hl : d.length ≤ 200) : Calls Try.prog 14 #[v] w fun e w' => ∃ v', e = .returned v' ∧ SlN w' (S.New w w') v' (Dp.all d) ∧ Below w.heap.size w w' := by
  obtain ⟨g, b, rfl, h⟩ := h
  refine (callsIn_wide (n := 6)).1 ?_
  have hcell := h.cell
  obtain ⟨m, hm, hw⟩ := h.map
  have HSay := Lib.hid (fun k => (hw.say k).iff)
  have cK : ∀ mb W, CallsIn Fence.wide 5 Try.prog 29 #[.map mb] W fun e w' => e = .returned (.func (.func 35) #[] #[.pointer (some ⟨W.heap.size, 0, none⟩)]) ∧ w' = W.alloc (.cells #[.map mb] 44) := fun mb W => keysF_o 5 mb W
  have cS := Lib.hid (sortedO w b _ m hm (by have := Dp.all_len d; omega))
  have hfK : Fence.wide.fn 29 := trivial
  have hfS : Fence.wide.fn 28 := trivial
  clear h hm hw
  refine callsIn_of_wp Try.func14 rfl trivial ?_ rfl
  simp only [Try.ntmps14, List.size_toArray, List.length_cons, List.length_nil, Nat.reduceAdd, Nat.reduceSub, Array.replicate_succ, Array.replicate_zero, List.push_toArray, List.append_toArray, List.nil_append, List.cons_append]
  gi_wp2_with (first
    | (gi_at_call 29; refine (cK _ _).mono ?_; rintro e w' ⟨rfl, rfl⟩)
    | (gi_at_call 28; refine cS.out.mono ?_; rintro e w' ⟨v, L, rfl, h1, h2, hrow, hb⟩; have H1 := Lib.hid h1; have H2 := Lib.hid h2; have HR := Lib.hid hrow; have HB := Lib.hid hb; clear h1 h2 hrow hb))
  go_ret
  have e : L = Dp.all d := H1.out.ext (Dp.all_rises d) (fun k => by rw [H2.out, HSay.out, Dp.all_mem])
  rw [← e]
  exact ⟨_, rfl, HR.out, HB.out⟩

set_option maxRecDepth 100000 in
set_option maxHeartbeats 1000000 in
theorem waits12 {w : World} {F : Nat → Prop} {v : Value} {d : List Dp.Wt} (h : Hd w F v d) (hl : d.length ≤ 200) (o : Int) :
    Calls Try.prog 15 #[v, .int .i64 o] w fun e w' => ∃ v', e = .returned v' ∧ SlN w' (S.New w w') v' (Dp.waits d o) ∧ Below w.heap.size w w' := by
  obtain ⟨g, b, rfl, h⟩ := h
  refine (callsIn_wide (n := 6)).1 ?_
  have hcell := h.cell
  obtain ⟨m, hm, hw⟩ := h.map
  have HM := Lib.hid hm
  have HZ := Lib.hid (zeroMap w)
  have cS : ∃ mb, (m o).getD (.map none) = .map mb ∧ Hid (CallsIn Fence.wide 5 Try.prog 28 #[.func (.func 36) #[] #[.pointer (some ⟨w.heap.size, 0, none⟩)]] (w.alloc (.cells #[.map mb] 58)) fun e w' => ∃ (v : Value) (L : List Int), e = .returned v ∧ L = Dp.waits d o ∧ SlN w' (S.New w w') v L ∧ Below w.heap.size w w') := by
    cases em : m o with
    | none =>
      have e0 : Dp.waits d o = [] := List.eq_nil_iff_forall_not_mem.2 (fun n hn => hw.none_ em n (Dp.waits_mem.1 hn))
      refine ⟨none, rfl, Lib.hid ((sortedNil w).mono (fun e w' hh => ?_))⟩
      obtain ⟨v, L, h1, h2, h3, h4, h5⟩ := hh
      exact ⟨v, L, h1, by rw [h3, e0], h4, h5⟩
    | some v =>
      obtain ⟨q, mi, N, rfl, h2, _, h4, h5⟩ := hw.some_ em
      have h6 := h4.count (ks := Dp.waits d o) (fun k hk => Dp.waits_mem.2 ((h5 k).1 hk))
      have hlen := Dp.waits_len d o
      refine ⟨some q, rfl, Lib.hid ((sortedW w q _ mi h6 (by omega)).mono (fun e w' hh => ?_))⟩
      obtain ⟨v, L, h1, h2, h3, h4, h7⟩ := hh
      exact ⟨v, L, h1, h2.ext (Dp.waits_rises d o) (fun n => by rw [h3, h5, Dp.waits_mem]), h4, h7⟩
  obtain ⟨mb, hmb, cS⟩ := cS
  have HG := Lib.hid hmb
  have cK : ∀ mb W, CallsIn Fence.wide 5 Try.prog 30 #[.map mb] W fun e w' => e = .returned (.func (.func 36) #[] #[.pointer (some ⟨W.heap.size, 0, none⟩)]) ∧ w' = W.alloc (.cells #[.map mb] 58) := fun mb W => keysF_w 5 mb W
  have hfK : Fence.wide.fn 30 := trivial
  have hfS : Fence.wide.fn 28 := trivial
  have hlook := (hm.look Try.underlying44 o HZ.out).2
  rw [hmb] at hlook
  clear h hm hw hmb
  refine callsIn_of_wp Try.func15 rfl trivial ?_ rfl
  simp only [Try.ntmps15, List.size_toArray, List.length_cons, List.length_nil, Nat.reduceAdd, Nat.reduceSub, Array.replicate_succ, Array.replicate_zero, List.push_toArray, List.append_toArray, List.nil_append, List.cons_append]
  gi_wp2_with (first
    | (gi_at_call 30; refine (cK _ _).mono ?_; rintro e w' ⟨rfl, rfl⟩)
    | (gi_at_call 28; refine cS.out.mono ?_; rintro e w' ⟨v, L, rfl, h1, hrow, hb⟩; have H1 := Lib.hid h1; have HR := Lib.hid hrow; have HB := Lib.hid hb; clear h1 hrow hb))
  go_ret
  rw [← H1.out]
  exact ⟨_, rfl, HR.out, HB.out⟩
end Go.Proofs.Ythbnbifagenpiaa
