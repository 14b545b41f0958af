/-
  The landed cells: New, own, Chain, Read, Write, Set, Keys.
-/
import Derived.Test.YtmlocdfjjgbnjaaClHc
namespace Go.Proofs.Ytmlocdfjjgbnjaa
open Go.RowKit

theorem infoCs : (Try.prog.info? 92).map (·.size) = some 1 := by kernel_rfl

set_option maxRecDepth 100000 in
set_option maxHeartbeats 1000000 in
theorem new11 (w : World) : Calls Try.prog 42 #[] w fun e w' => ∃ v, e = .returned v ∧ Hc w' (S.New w w') v [] ∧ Below w.heap.size w w' := by
  have hmake : (Instr.makeMap 90 none).run Try.prog w = .ok (.map (some w.heap.size)) (w.alloc (.map #[] 0)) := rfl
  have HM := Lib.hid (Mk.made w)
  have HB := Lib.hid ((Below.refl w.heap.size w).alloc (Nat.le_refl _) (.map #[] 0))
  have hs : (w.alloc (.map #[] 0)).heap.size = w.heap.size + 1 := by simp
  go_enter Try.func42, Try.ntmps42
  go_wp2
  go_ret
  generalize w.alloc (.map #[] 0) = w1 at *
  have hb2 : Below w1.heap.size w1 (w1.alloc (.cells #[.map (some w.heap.size)] 92)) := (Below.refl _ _).alloc (Nat.le_refl _) _
  refine ⟨_, rfl, ⟨w1.heap.size, w.heap.size, by simp, ?_⟩, below_two HB.out hb2⟩
  have hn : S.New w (w1.alloc (.cells #[.map (some w.heap.size)] 92)) w1.heap.size := ⟨HB.out.size, by simp⟩
  have hn2 : S.New w (w1.alloc (.cells #[.map (some w.heap.size)] 92)) w.heap.size := ⟨Nat.le_refl _, by simp; omega⟩
  exact ⟨Cl.Ord.nil, fun r hr => hr.2, by omega, hn, hn2, by simp, _, HM.out.below hb2, fun k => trivial⟩

theorem zeroSl (w : World) : (zeroValue 25).run Try.prog w = .ok (.slice none 0 0) w := Try.zeroValue25 w

section
variable {w w5 : World} {F : Nat → Prop} {g b : Nat} {X : Cl.Cs}

theorem Hg.later (h : Hg w F g b X) (hb : Below w.heap.size w w5) : Hg w5 (More F w w5) g b X := (h.below hb).wider (fun _ => Or.inl) (more_lt h.lt hb.size)
theorem Hg.cellAt (h : Hg w F g b X) (hb : Below w.heap.size w w5) : w5.cell? ⟨g, 0, none⟩ = some (.map (some b)) := (hb.cell (p := ⟨g, 0, none⟩) (h.lt _ h.fg)).trans h.cell
/-- a chain is laid at a key -/
theorem Hg.laid (h : Hg w F g b X) (hb : Below w.heap.size w w5) {k : Cl.Ky} {c : Cn.Ch} {vc : Value} (hmay : Cn.mayB c = true) (hv : SlC w5 (Chs (More F w w5) g b) vc c) :
    ∃ m n, Mk w5 b n m ∧ ∀ w6, Mk w6 b (n + 1) (fun k' => if k' = k then some vc else m k') → w5.grownBy w6 (some b) → Hg w6 (More F w w6) g b (Cl.setX X k c) ∧ Turn F w w6 := by
  have h5 := h.later hb
  obtain ⟨m, hm, hsay⟩ := h5.map
  refine ⟨m, _, hm, fun w6 h6 hg => ⟨(h5.put hsay hmay hv h6 hg).wider (more_more hg.size) (more_lt h.lt (Nat.le_trans hb.size hg.size)), (Turn.of_below hb).grown hg (Or.inl h.fb)⟩⟩
/-- .. taken away -/
theorem Hg.gone (h : Hg w F g b X) (hb : Below w.heap.size w w5) {k : Cl.Ky} {c : Cn.Ch} (hmay : Cn.mayB c = false) :
    ∃ m n, Mk w5 b n m ∧ ∀ w6, Mk w6 b n (fun k' => if k' = k then none else m k') → w5.grownBy w6 (some b) → Hg w6 (More F w w6) g b (Cl.setX X k c) ∧ Turn F w w6 := by
  have h5 := h.later hb
  obtain ⟨m, hm, hsay⟩ := h5.map
  refine ⟨m, _, hm, fun w6 h6 hg => ⟨(h5.del hsay hmay h6 hg).wider (more_more hg.size) (more_lt h.lt (Nat.le_trans hb.size hg.size)), (Turn.of_below hb).grown hg (Or.inl h.fb)⟩⟩
theorem Hg.new_not (h : Hg w F g b X) {w1 : World} (hs : w.heap.size ≤ w1.heap.size) (r : Nat) (hr : S.New w1 w5 r) : Chs (More F w w5) g b r := by
  have h1 := h.lt _ h.fg
  have h2 := h.lt _ h.fb
  have h3 := hr.1
  exact ⟨Or.inr ⟨by omega, hr.2⟩, by omega, by omega⟩
end

set_option maxRecDepth 100000 in
set_option maxHeartbeats 2000000 in
theorem own11 {w : World} {F : Nat → Prop} {g b : Nat} {X : Cl.Cs} (h : Hg w F g b X) (k : Cl.Ky) :
    Calls Try.prog 50 #[.pointer (some ⟨g, 0, none⟩), keyA k] w fun e w' => ∃ A cap, e = .returned (.slice A (Cl.chain X k).length cap) ∧ SlC w' (Chs (More F w w') g b) (.slice A (Cl.chain X k).length cap) (Cl.chain X k) ∧ Below w.heap.size w w' := by
  have HH := Lib.hid h
  obtain ⟨m, hm, hsay⟩ := h.map
  have hS := hsay k
  have hC := Cl.chain_said X k
  unfold keyA
  have hb1 : Below w.heap.size w (w.alloc (.cells #[.int .i64 k.kind, .int .i64 k.a, .int .i64 k.b] 50)) := (Below.refl _ _).alloc (Nat.le_refl _) _
  have HB1 := Lib.hid hb1
  have hcell1 := h.cellAt hb1
  have hlk : ∀ n, (Instr.lookup 90 (.map (some b)) (.agg #[.int .i64 k.kind, .int .i64 k.a, .int .i64 k.b]) true).run Try.prog ((w.alloc (.cells #[.int .i64 k.kind, .int .i64 k.a, .int .i64 k.b] 50)).drewN n) = .ok (.tuple #[(m k).getD (.slice none 0 0), .bool (m k).isSome]) ((w.alloc (.cells #[.int .i64 k.kind, .int .i64 k.a, .int .i64 k.b] 50)).drewN n) :=
    fun n => (Mk.look (w := (w.alloc (.cells #[.int .i64 k.kind, .int .i64 k.a, .int .i64 k.b] 50)).drewN n) ((hm.below hb1).below ⟨rfl, rfl, rfl, Nat.le_refl _, fun _ _ => rfl⟩) Try.underlying90 k (zeroSl _)).1
  clear h hsay hm hb1
  cases hsd : Cl.said X k with
  | none =>
    rw [hsd] at hS hC
    have hmk : m k = none := by
      cases e : m k with
      | none => rfl
      | some v => rw [e] at hS; exact hS.elim
    rw [hmk] at hlk
    have hC : Cl.chain X k = Cn.fresh := hC
    rw [hC]
    have hlk : ∀ n, (Instr.lookup 90 (.map (some b)) (.agg #[.int .i64 k.kind, .int .i64 k.a, .int .i64 k.b]) true).run Try.prog ((w.alloc (.cells #[.int .i64 k.kind, .int .i64 k.a, .int .i64 k.b] 50)).drewN n) = .ok (.tuple #[.slice none 0 0, .bool false]) ((w.alloc (.cells #[.int .i64 k.kind, .int .i64 k.a, .int .i64 k.b] 50)).drewN n) := hlk
    have HF := Lib.hid (fun w => ok10.fresh w)
    clear hsd hS hmk hC
    go_enter Try.func50, Try.ntmps50
    go_wp2_with fail
    go_quiet (fail)
    rename_i nq
    have HB2 : Hid (Below w.heap.size w ((w.alloc (.cells #[.int .i64 k.kind, .int .i64 k.a, .int .i64 k.b] 50)).drewN nq)) := Lib.hid ⟨HB1.out.os, HB1.out.tape, HB1.out.output, HB1.out.size, HB1.out.block⟩
    generalize (w.alloc (.cells #[.int .i64 k.kind, .int .i64 k.a, .int .i64 k.b] 50)).drewN nq = w2 at HB2 ⊢
    go_wp2_with (go_at_call 39; refine (HF.out _).mono ?_; rintro e w3 ⟨v3, rfl, h3, hb3⟩; have H3 := Lib.hid h3; have HB3 := Lib.hid hb3; clear hb3; obtain ⟨A3, c3, rfl, _⟩ := SlC.form h3; clear h3)
    go_ret
    exact ⟨A3, c3, rfl, H3.out.wider (HH.out.new_not HB2.out.size), below_two HB2.out HB3.out⟩
  | some c =>
    rw [hsd] at hS hC
    have hC : Cl.chain X k = c := hC
    obtain ⟨vc, hmk⟩ : ∃ vc, m k = some vc := by
      cases e : m k with
      | none => rw [e] at hS; exact hS.elim
      | some v => exact ⟨v, rfl⟩
    rw [hmk] at hS hlk
    rw [hC]
    have hS : SlC w (Chs F g b) vc c := hS
    have HS := Lib.hid hS
    obtain ⟨A, cap, rfl, _⟩ := SlC.form hS
    have hlk : ∀ n, (Instr.lookup 90 (.map (some b)) (.agg #[.int .i64 k.kind, .int .i64 k.a, .int .i64 k.b]) true).run Try.prog ((w.alloc (.cells #[.int .i64 k.kind, .int .i64 k.a, .int .i64 k.b] 50)).drewN n) = .ok (.tuple #[.slice A c.length cap, .bool true]) ((w.alloc (.cells #[.int .i64 k.kind, .int .i64 k.a, .int .i64 k.b] 50)).drewN n) := hlk
    clear hsd hS hmk hC
    go_enter Try.func50, Try.ntmps50
    go_wp2_with fail
    go_quiet (fail)
    rename_i nq
    have HB2 : Hid (Below w.heap.size w ((w.alloc (.cells #[.int .i64 k.kind, .int .i64 k.a, .int .i64 k.b] 50)).drewN nq)) := Lib.hid ⟨HB1.out.os, HB1.out.tape, HB1.out.output, HB1.out.size, HB1.out.block⟩
    generalize (w.alloc (.cells #[.int .i64 k.kind, .int .i64 k.a, .int .i64 k.b] 50)).drewN nq = w2 at HB2 ⊢
    go_wp2
    go_ret
    exact ⟨A, cap, rfl, (HS.out.below HB2.out (fun r q => HH.out.lt r q.1)).wider (fun r q => ⟨Or.inl q.1, q.2⟩), HB2.out⟩

set_option maxRecDepth 100000 in
set_option maxHeartbeats 2000000 in
theorem chain11 {w : World} {F : Nat → Prop} {v : Value} {X : Cl.Cs} (h : Hc w F v X) (hf : Cl.Fit 200 X) (k : Cl.Ky) :
    Calls Try.prog 29 #[v, keyA k] w fun e w' => ∃ v', e = .returned v' ∧ SlC w' (S.New w w') v' (Cl.chain X k) ∧ Below w.heap.size w w' := by
  obtain ⟨g, b, rfl, h⟩ := h
  have HH := Lib.hid h
  have hlen := hf.chain k
  have hb1 : Below w.heap.size w (w.alloc (.cells #[.int .i64 k.kind, .int .i64 k.a, .int .i64 k.b] 50)) := (Below.refl _ _).alloc (Nat.le_refl _) _
  have HB1 := Lib.hid hb1
  have HO := Lib.hid (own11 (h.below hb1) k)
  have HCl : Hid (∀ (w1 w2 : World) (v : Value), w.heap.size ≤ w1.heap.size → Below w1.heap.size w1 w2 → SlC w2 (Chs (More F w1 w2) g b) v (Cl.chain X k) → Calls Try.prog 40 #[v] w2 fun e w' => ∃ v', e = .returned v' ∧ w'.ownsRow w2.heap.size 40 4 v' (Cl.chain X k).length (verV (Cl.chain X k)) ∧ Below w2.heap.size w2 w') :=
    Lib.hid (fun w1 w2 v hs hb hv => clone10 hv (fun r q => q.1.elim (fun q => Nat.lt_of_lt_of_le (Nat.lt_of_lt_of_le (HH.out.lt r q) hs) hb.size) (fun q => q.2)) (by omega))
  clear h hb1 hlen
  unfold keyA at *
  go_enter Try.func29, Try.ntmps29
  go_wp2_with (first
    | (go_at_call 50; refine HO.out.mono ?_; rintro e w2 ⟨A, cap, rfl, h2, hb2⟩; have H2 := Lib.hid h2; have HB2 := Lib.hid hb2; clear h2 hb2)
    | (go_at_call 40; refine (HCl.out _ _ _ HB1.out.size HB2.out H2.out).mono ?_; rintro e w3 ⟨v3, rfl, h3, hb3⟩; have H3 := Lib.hid (S.Sg.of_own h3); have HB3 := Lib.hid hb3; obtain ⟨A3, c3, rfl⟩ := own_sliceK h3; clear h3 hb3))
  go_ret
  exact ⟨_, rfl, H3.out.wider (fun r q => ⟨Nat.le_trans (Nat.le_trans HB1.out.size HB2.out.size) q.1, q.2⟩), below_two (below_two HB1.out HB2.out) HB3.out⟩

end Go.Proofs.Ytmlocdfjjgbnjaa
