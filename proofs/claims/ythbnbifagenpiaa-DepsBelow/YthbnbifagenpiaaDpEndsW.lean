/-
  Walks of layer deps' laws: DepsEnds.
-/
import Derived.Test.YthbnbifagenpiaaDpNobodyW
namespace Go.Proofs.Ythbnbifagenpiaa.Dp
theorem without_lt {d : List Wt} {l : List Int} {p : Wt} (hp : p ∈ d) (hl : p.1 ∈ l ∨ p.2 ∈ l) : (without d l).length < d.length := by
  unfold without
  refine List.length_filter_lt_length_iff_exists.2 ⟨p, hp, ?_⟩
  unfold has
  rcases hl with h | h <;> simp [h]
theorem Ok.i64 {d : List Wt} (h : Ok d) (hr : ∀ p ∈ d, p.1 ≤ 9223372036854775807) {p : Wt} (hp : p ∈ d) : I64 p.1 ∧ I64 p.2 := by
  have := h.low p hp
  have := hr p hp
  exact ⟨⟨by omega, by omega⟩, ⟨by omega, by omega⟩⟩
/-- the least one that waits, and the least one that it waits for -/
theorem first_two {d : List Wt} (h : (all d).length ≠ 0) : ∃ x y, (x, y) ∈ d ∧ (all d)[0]? = some x ∧ (waits d x)[0]? = some y := by
  obtain ⟨x, l, e⟩ := List.exists_cons_of_ne_nil (l := all d) (fun e => h (by rw [e]; rfl))
  obtain ⟨m, hm⟩ := all_mem.1 (show x ∈ all d by rw [e]; simp)
  have hw := waits_mem.2 hm
  obtain ⟨y, l', e'⟩ := List.exists_cons_of_ne_nil (l := waits d x) (fun e => by rw [e] at hw; cases hw)
  exact ⟨x, y, waits_mem.1 (by rw [e']; simp), by rw [e]; rfl, by rw [e']; rfl⟩
end Go.Proofs.Ythbnbifagenpiaa.Dp
namespace Go.Proofs.Ythbnbifagenpiaa
open Go.RowKit
section
variable {H : World → (Nat → Prop) → Value → List Dp.Wt → Prop}

theorem Aw.first {w wr : World} {v vr : Value} {d : List Dp.Wt} {R : List Row12} {l : List Int} {x : Int} (h : Aw H w wr v d ((vr, l) :: R)) (hx : l[0]? = some x) : ∃ a c, vr = .slice (some a) l.length c ∧ wr.cell? a = some (.int .i64 x) := by
  obtain ⟨hl, hx⟩ := List.getElem?_eq_some_iff.1 hx
  obtain ⟨a, c, e, hc⟩ := h.nth (List.mem_cons_self ..) 0 hl
  refine ⟨a, c, e, ?_⟩
  rw [show a.add 0 = a by simp [Addr.add]] at hc
  rw [← hx]
  exact hc

set_option maxRecDepth 100000 in
set_option maxHeartbeats 4000000 in
theorem DepsEnds_walk (K : DepsOk H) (w : World) (vd : Value) (ld : List Dd12) (G0 : Nat → Prop) (hD : Dds12 w G0 vd ld) (hG0 : ∀ b, G0 b → b < w.heap.size) :
    Calls Try.prog 7 #[vd] w fun e w' => e = .returned (.bool true) ∧ Below w.heap.size w w' := by
  have HK := Lib.hid K
  have HAw := Lib.hid (awake12_any K w)
  have HR : Hid (∀ W, Below w.heap.size w W → Calls Try.prog 17 #[vd] W fun e w' => ∃ v, e = .returned v ∧ Ob H W w' v (Dp.runD (ld.take 60)) ∧ (Dp.runD (ld.take 60)).length ≤ 60 ∧ Below W.heap.size W w') := Lib.hid (fun W hb => run12_any K (hD.below hb hG0) (fun b q => Nat.lt_of_lt_of_le (hG0 b q) hb.size))
  obtain ⟨Ad, capd, rfl, hcd⟩ := hD.form
  clear hD hcd
  generalize ld.length = nd at *
  go_enter Try.func7, Try.ntmps7
  go_wp2_with (first
    | (go_at_call 9; refine HAw.out.mono ?_; rintro e w1 ⟨rfl, b1⟩; have HB1 := Lib.hid b1; clear b1)
    | (go_at_call 17; refine (HR.out _ HB1.out).mono ?_; rintro e w2 ⟨v, rfl, h2, hl2, b2⟩
       have HW2 : Hid (Aw H w w2 v (Dp.runD (ld.take 60)) [] ∧ Below w.heap.size w w2 ∧ (Dp.runD (ld.take 60)).length ≤ 60) := Lib.hid (by
         obtain ⟨F, q1, q2⟩ := h2
         exact ⟨⟨F, q1, fun b q => Nat.le_trans HB1.out.size (q2 b q), fun r hr => by cases hr⟩, HB1.out.trans (b2.mono HB1.out.size), hl2⟩)
       clear h2 hl2 b2))
  generalize Dp.runD (ld.take 60) = D0 at *
  go_loopw [5] (fun vi wr => ∃ (i : Nat) (D : List Dp.Wt), i ≤ 60 ∧ vi = .int .i64 (i : Int) ∧ Hid (i + D.length ≤ 60) ∧ Hid (Aw H w wr v D [] ∧ Below w.heap.size w wr)) (fun vi _ => 121 - (intOf vi).toNat)
  case atStart => exact ⟨0, D0, by omega, rfl, Lib.hid (by have := HW2.out.2.2; omega), Lib.hid ⟨HW2.out.1, HW2.out.2.1⟩⟩
  case round =>
    clear HW2
    obtain ⟨i, D, hi, rfl, HL, HW⟩ := hrel
    have hi1 : (i : Int) < 121 := by omega
    by_cases hz : (Dp.all D).length = 0
    · have HAl := Lib.hid (HW.out.1.all HK.out HW.out.2 (by have := HL.out; omega))
      generalize Dp.all D = L at *
      go_wp2_with (first
        | (go_at_call 14; refine HAl.out.mono ?_; rintro e w3 ⟨v3, rfl, h3⟩; have HB3 := Lib.hid h3.2; obtain ⟨A3, c3, e3, _⟩ := h3.1.form (List.mem_cons_self ..); have e3 : v3 = .slice A3 L.length c3 := e3; rw [hz] at e3; subst e3; clear h3))
      go_ret
      exact ⟨rfl, HB3.out⟩
    · obtain ⟨x, y, hxy, ex, ey⟩ := Dp.first_two hz
      have hI := (HW.out.1.ok HK.out).i64 (HW.out.1.rng HK.out) hxy
      have HI := Lib.hid hI
      have HLt := Lib.hid (Dp.without_lt (l := [y]) hxy (Or.inr (by simp)))
      have HAl : Hid (Calls Try.prog 14 #[v] _ fun e w' => ∃ a c, e = .returned (.slice (some a) (Dp.all D).length c) ∧ w'.cell? a = some (.int .i64 x) ∧ (∃ R, Aw H w w' v D R) ∧ Below w.heap.size w w') := Lib.hid (by
        refine (HW.out.1.all HK.out HW.out.2 (by have := HL.out; omega)).mono (fun e w' hh => ?_)
        obtain ⟨v', e, h1, h2⟩ := hh
        obtain ⟨a, c, rfl, hc⟩ := h1.first ex
        exact ⟨a, c, e, hc, ⟨_, h1⟩, h2⟩)
      have HWt : Hid (∀ W R, Aw H w W v D R → Below w.heap.size w W → Calls Try.prog 15 #[v, .int .i64 x] W fun e w' => ∃ a c, e = .returned (.slice (some a) (Dp.waits D x).length c) ∧ w'.cell? a = some (.int .i64 y) ∧ (∃ R, Aw H w w' v D R) ∧ Below w.heap.size w w') := Lib.hid (fun W R h hb => by
        refine (h.waits HK.out hb (by have := HL.out; omega) x HI.out.1).mono (fun e w' hh => ?_)
        obtain ⟨v', e, h1, h2⟩ := hh
        obtain ⟨a, c, rfl, hc⟩ := h1.first ey
        exact ⟨a, c, e, hc, ⟨_, h1⟩, h2⟩)
      have HSt : Hid (∀ W R, Aw H w W v D R → Below w.heap.size w W → Calls Try.prog 20 #[v, .int .i64 y] W fun e w' => e = .returned (.tuple #[]) ∧ Aw H w w' v (Dp.without D [y]) R ∧ Below w.heap.size w w') := Lib.hid (fun W R h hb => h.settle HK.out hb (by have := HL.out; omega) y HI.out.2)
      have hy0 : (Dp.waits D x).length ≠ 0 := by
        obtain ⟨q, _⟩ := List.getElem?_eq_some_iff.1 ey
        omega
      clear hxy ex ey hI
      generalize (Dp.all D).length = n at *
      generalize (Dp.waits D x).length = m at *
      have hn1 : ¬ (n : Int) = 0 := by omega
      have hn2 : (0 : Int) < (n : Int) := by omega
      have hm1 : ¬ (m : Int) = 0 := by omega
      have hm2 : (0 : Int) < (m : Int) := by omega
      go_wp2_with (first
        | (go_at_call 14; refine HAl.out.mono ?_; rintro e w3 ⟨a3, c3, rfl, y3, ⟨R3, h3⟩, b3⟩; have HW3 := Lib.hid (And.intro h3 b3); clear h3 b3)
        | (go_at_call 15; refine (HWt.out _ _ HW3.out.1 HW3.out.2).mono ?_; rintro e w4 ⟨a4, c4, rfl, y4, ⟨R4, h4⟩, b4⟩; have HW4 := Lib.hid (And.intro h4 b4); clear h4 b4)
        | (go_at_call 20; refine (HSt.out _ _ HW4.out.1 HW4.out.2).mono ?_; rintro e w5 ⟨rfl, h5⟩; have HW5 := Lib.hid (And.intro (h5.1.less (R' := []) (fun r q => by cases q)) h5.2); clear h5))
      go_roundw
      case rel => exact ⟨i + 1, Dp.without D [y], by have := HL.out; have := HLt.out; omega, by go_num, Lib.hid (by have := HL.out; have := HLt.out; omega), HW5⟩
      case measure => simp [intOf]; omega
end
end Go.Proofs.Ythbnbifagenpiaa
