/-
  Layer deps' laws: several objects that are only asked, and rows of numbers (Sees); two runs, of which one is settled, or dropped of; in.
-/
import Derived.Test.YthbnbifagenpiaaDpEndsW
namespace Go.Proofs.Ythbnbifagenpiaa
open Go.RowKit

section
variable {H : World → (Nat → Prop) → Value → List Dp.Wt → Prop}

/-- the objects O stand, and the rows R -/
structure Sees (H : World → (Nat → Prop) → Value → List Dp.Wt → Prop) (wr : World) (O : List (Value × List Dp.Wt)) (R : List Row12) : Prop where
  obj : ∀ o ∈ O, ∃ F, H wr F o.1 o.2
  row : ∀ r ∈ R, ∃ G : Nat → Prop, SlN wr G r.1 r.2 ∧ ∀ b, G b → b < wr.heap.size

variable {wr w2 : World} {v : Value} {d : List Dp.Wt} {O : List (Value × List Dp.Wt)} {R : List Row12}
theorem Sees.low (K : DepsOk H) (h : Sees H wr O R) (hb : Below wr.heap.size wr w2) : Sees H w2 O R :=
  ⟨fun o q => by obtain ⟨F, h1⟩ := h.obj o q; exact ⟨F, K.below h1 hb⟩, fun r q => by
    obtain ⟨G, h1, h2⟩ := h.row r q
    exact ⟨G, S.Sg.below h1 hb h2, fun b g => Nat.lt_of_lt_of_le (h2 b g) hb.size⟩⟩
theorem Sees.push (h : Sees H wr O R) (r : Row12) {G : Nat → Prop} (hr : SlN wr G r.1 r.2) (hG : ∀ b, G b → b < wr.heap.size) : Sees H wr O (r :: R) :=
  ⟨h.obj, fun r' q => by
    rcases List.mem_cons.1 q with rfl | q
    · exact ⟨G, hr, hG⟩
    · exact h.row r' q⟩
theorem Sees.less (h : Sees H wr O R) {R' : List Row12} (hR : ∀ r ∈ R', r ∈ R) : Sees H wr O R' := ⟨h.obj, fun r q => h.row r (hR r q)⟩
theorem Sees.form {r : Row12} (h : Sees H wr O R) (hr : r ∈ R) : ∃ A c, r.1 = .slice A r.2.length c ∧ r.2.length ≤ c := by
  obtain ⟨G, hs, _⟩ := h.row r hr
  exact num_form hs
theorem Sees.nth {vr : Value} {l : List Int} (h : Sees H wr O R) (hr : (vr, l) ∈ R) (i : Nat) (hi : i < l.length) : ∃ a c, vr = .slice (some a) l.length c ∧ wr.cell? (a.add i) = some (.int .i64 l[i]) := by
  obtain ⟨G, hs, _⟩ := h.row _ hr
  obtain ⟨a, c, e, _, _, hx⟩ := num_nth hs i hi
  exact ⟨a, c, e, hx⟩
theorem Sees.waits (K : DepsOk H) (h : Sees H wr O R) (ho : (v, d) ∈ O) (hl : d.length ≤ 200) (o : Int) (hi : I64 o) :
    Calls Try.prog 15 #[v, .int .i64 o] wr fun e w' => ∃ v', e = .returned v' ∧ Sees H w' O ((v', Dp.waits d o) :: R) ∧ Below wr.heap.size wr w' := by
  obtain ⟨F, h1⟩ := h.obj _ ho
  refine (K.waits h1 hl o hi).mono (fun e w' hh => ?_)
  obtain ⟨v', e, g1, g2⟩ := hh
  exact ⟨v', e, (h.low K g2).push _ g1 (fun b q => q.2), g2⟩
theorem Sees.all (K : DepsOk H) (h : Sees H wr O R) (ho : (v, d) ∈ O) (hl : d.length ≤ 200) :
    Calls Try.prog 14 #[v] wr fun e w' => ∃ v', e = .returned v' ∧ Sees H w' O ((v', Dp.all d) :: R) ∧ Below wr.heap.size wr w' := by
  obtain ⟨F, h1⟩ := h.obj _ ho
  refine (K.all h1 hl).mono (fun e w' hh => ?_)
  obtain ⟨v', e, g1, g2⟩ := hh
  exact ⟨v', e, (h.low K g2).push _ g1 (fun b q => q.2), g2⟩
theorem Sees.same (K : DepsOk H) {va vb : Value} {l m : List Int} (h : Sees H wr O R) (ha : (va, l) ∈ R) (hm : (vb, m) ∈ R) (hl : l.length ≤ 1000) (hml : m.length ≤ 1000) :
    Calls Try.prog 13 #[va, vb] wr fun e w' => e = .returned (.bool (decide (l = m))) ∧ Sees H w' O R ∧ Below wr.heap.size wr w' := by
  obtain ⟨G, hs, hG⟩ := h.row _ ha
  obtain ⟨G', hs', hG'⟩ := h.row _ hm
  exact (rsame12_any (hs.wider (G := fun _ => True) (fun _ _ => trivial)) (hs'.wider (fun _ _ => trivial)) (Nat.le_trans hl (by omega)) (Nat.le_trans hml (by omega))).mono (fun e w' hh => ⟨hh.1, h.low K hh.2, hh.2⟩)

/-- of two objects the first one is settled -/
theorem two_settle (K : DepsOk H) {w1 w2 w3 : World} {v v' : Value} {d d' : List Dp.Wt} (h1 : Ob H w1 w2 v d) (h2 : Ob H w2 w3 v' d') (h12 : w1.heap.size ≤ w2.heap.size) (hb : Below w2.heap.size w2 w3) (hl : d.length ≤ 200) (n : Int) (hn : I64 n) :
    Calls Try.prog 20 #[v, .int .i64 n] w3 fun e w' => e = .returned (.tuple #[]) ∧ Sees H w' [(v, Dp.without d [n]), (v', d')] [] ∧ Below w1.heap.size w3 w' := by
  obtain ⟨F1, g1, g2⟩ := h1
  obtain ⟨F2, g3, g4⟩ := h2
  have hlt := K.lt g1
  refine (K.settle (K.below g1 hb) hl n hn).mono (fun e w' hh => ?_)
  obtain ⟨e, q1, q2⟩ := hh
  refine ⟨e, ⟨fun o q => ?_, fun r q => by cases q⟩, q2.below (Nat.le_trans h12 hb.size) g2⟩
  rcases List.mem_cons.1 q with rfl | q
  · exact ⟨_, q1⟩
  · rw [List.mem_singleton] at q
    subst q
    exact ⟨_, K.turn g3 q2 (fun b x y => by have := g4 b x; have := hlt b y; omega)⟩
/-- .. or one is dropped of it -/
theorem two_drop (K : DepsOk H) {w1 w2 w3 : World} {v v' : Value} {d d' : List Dp.Wt} (h1 : Ob H w1 w2 v d) (h2 : Ob H w2 w3 v' d') (h12 : w1.heap.size ≤ w2.heap.size) (hb : Below w2.heap.size w2 w3) (hl : d.length ≤ 200) (n : Int) (hn : I64 n) :
    Calls Try.prog 18 #[v, .int .i64 n] w3 fun e w' => ∃ vg, e = .returned vg ∧ Sees H w' [(v, Dp.dropD d n), (v', d')] [(vg, Dp.dropL d n)] ∧ Below w1.heap.size w3 w' := by
  obtain ⟨F1, g1, g2⟩ := h1
  obtain ⟨F2, g3, g4⟩ := h2
  have hlt := K.lt g1
  refine (K.drop (K.below g1 hb) hl n hn).mono (fun e w' hh => ?_)
  obtain ⟨vg, F', T, e, q1, q3, _, q5, q2⟩ := hh
  refine ⟨vg, e, ⟨fun o q => ?_, fun r q => ?_⟩, q2.below (Nat.le_trans h12 hb.size) g2⟩
  · rcases List.mem_cons.1 q with rfl | q
    · exact ⟨_, q1⟩
    · rw [List.mem_singleton] at q
      subst q
      exact ⟨_, K.turn g3 q2 (fun b x y => by have := g4 b x; have := hlt b y; omega)⟩
  · rw [List.mem_singleton] at q
    subst q
    exact ⟨T, q3, fun b g => (q5 b g).1.2⟩
end

/-- two runs of the same deeds -/
theorem run12_at {H : World → (Nat → Prop) → Value → List Dp.Wt → Prop} (K : DepsOk H) {w : World} {vd : Value} {ld : List Dd12} {G0 : Nat → Prop} (hD : Dds12 w G0 vd ld) (hG0 : ∀ b, G0 b → b < w.heap.size) :
    ∀ W, Below w.heap.size w W → Calls Try.prog 17 #[vd] W fun e w' => ∃ v, e = .returned v ∧ Ob H W w' v (Dp.runD (ld.take 60)) ∧ (Dp.runD (ld.take 60)).length ≤ 60 ∧ Below W.heap.size W w' :=
  fun _ hb => run12_any K (hD.below hb hG0) (fun b q => Nat.lt_of_lt_of_le (hG0 b q) hb.size)

set_option maxRecDepth 100000 in
set_option maxHeartbeats 1000000 in
theorem lin12_any {w : World} {F : Nat → Prop} {v : Value} {l : List Int} (h : SlN w F v l) (hF : ∀ b, F b → b < w.heap.size) (hl : l.length ≤ 1000000) (n : Int) :
    Calls Try.prog 19 #[v, .int .i64 n] w fun e w' => e = .returned (.bool (Dp.has l n)) ∧ Below w.heap.size w w' := by
  have HS := Lib.hid h
  obtain ⟨A, cap, rfl, hcap⟩ := num_form h
  clear h
  go_enter Try.func19, Try.ntmps19
  go_wp2
  go_loopw [5] (fun i wr => ∃ k : Nat, k ≤ l.length ∧ i = .int .i64 (k : Int) ∧ Hid (Below w.heap.size w wr) ∧ Hid (∀ j (hj : j < l.length), j < k → l[j] ≠ n)) (fun i _ => l.length - (intOf i).toNat)
  case atStart => exact ⟨0, Nat.zero_le _, rfl, Lib.hid (Below.refl _ _), Lib.hid (fun j _ h => absurd h (Nat.not_lt_zero _))⟩
  case round =>
    obtain ⟨k, hk, rfl, HB, HI⟩ := hrel
    by_cases hlt : k < l.length
    · have hlt' : (k : Int) < (l.length : Int) := by omega
      have hk0 : (0 : Int) ≤ (k : Int) := by omega
      obtain ⟨a, _, ea, _, _, xa⟩ := num_nth (S.Sg.below HS.out HB.out hF) k hlt
      cases ea
      by_cases he : l[k] = n
      · have he1 : (l[k] == n) = true := by simpa using he
        have HV : Hid (Dp.has l n = true) := Lib.hid (decide_eq_true (by rw [← he]; exact List.getElem_mem hlt))
        clear he
        generalize l[k] = u at *
        go_wp2
        go_ret
        exact ⟨ret_v (by rw [HV.out]; rfl), HB.out⟩
      · have he1 : (l[k] == n) = false := by simpa using he
        have HN : Hid (∀ j (hj : j < l.length), j < k + 1 → l[j] ≠ n) := Lib.hid (fun j hj hjk => by
          by_cases e : j = k
          · subst e; exact he
          · exact HI.out j hj (by omega))
        clear he
        generalize l[k] = u at *
        go_wp2
        go_roundw
        case rel => exact ⟨k + 1, by omega, by go_num, HB, HN⟩
        case measure => simp [intOf]; omega
    · obtain rfl : k = l.length := by omega
      have hlt' : ¬ (l.length : Int) < (l.length : Int) := by omega
      have HV : Hid (Dp.has l n = false) := Lib.hid (decide_eq_false (fun hm => by
        obtain ⟨j, hj, e⟩ := List.getElem_of_mem hm
        exact HI.out j hj hj e))
      go_wp2
      go_ret
      exact ⟨ret_v (by rw [HV.out]; rfl), HB.out⟩

end Go.Proofs.Ythbnbifagenpiaa

namespace Go.Proofs.Ythbnbifagenpiaa.Dp
theorem settle_waits (d : List Wt) (x ts : Int) : waits (without d [ts]) x = (waits d x).filter (fun y => decide (y ≠ ts ∧ x ≠ ts)) := by
  refine (waits_rises _ _).ext ((waits_rises d x).filter _) (fun n => ?_)
  rw [waits_mem, without_mem, List.mem_filter, waits_mem]
  simp only [List.mem_singleton, decide_eq_true_eq]
  exact ⟨fun ⟨a, b, c⟩ => ⟨a, c, b⟩, fun ⟨a, b, c⟩ => ⟨a, c, b⟩⟩
theorem settle_none (d : List Wt) (ts : Int) : waits (without d [ts]) ts = [] := by
  rw [settle_waits]
  simp
theorem all_i64 {d : List Wt} (h : Ok d) (hr : ∀ p ∈ d, p.1 ≤ 9223372036854775807) {x : Int} (hx : x ∈ all d) : I64 x := by
  obtain ⟨m, hm⟩ := all_mem.1 hx
  exact (h.i64 hr hm).1
end Go.Proofs.Ythbnbifagenpiaa.Dp
