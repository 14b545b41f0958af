/-
  Who waits for whom in memory as a map of maps: Add.
-/
import Derived.Test.YthbnbifagenpiaaDpAsk
import Derived.WalkSpells
namespace Go.Proofs.Ythbnbifagenpiaa
open Go.RowKit

theorem wpList_look_v {ops : Array Oper} {rest : List Oper} {x : Oper} {a : Act} {Q : Exit → Act → World → Prop} {w : World} {b n : Nat} {m : Int → Option Value} (hg : x.guard = none) (mo y : Operand) (t e : TypeId) (hop : x.op = Op.lookup t mo y false) (ht : Try.prog.underlying t = some (.map 2 e)) {z v : Value} (hz : (zeroValue e).run Try.prog w = .ok z w)
    (hm : a.eval mo = .map (some b)) (h : Mi w b n m) (k : Int) (hx : a.eval y = .int .i64 k) (hv : (m k).getD z = v) (hK : wpList Try.prog ops Q rest (a.put x.dst v) w) : wpList Try.prog ops Q (x :: rest) a w :=
  wpList_look_i hg mo y t e hop ht hz hm h k hx (by rw [hv]; exact hK)

theorem add_same {d : List Dp.Wt} {o n : Int} (h : Dp.addB o n = false) : Dp.addD d o n = d := by
  unfold Dp.addD
  rw [if_neg (by rw [h]; simp)]

section
variable {w w1 w2 w' : World} {F : Nat → Prop} {g b q : Nat} {d : List Dp.Wt} {o n : Int} {M : Int → Option Value} {mi : Int → Option Value} {u : Value}
theorem add_rng (hr : ∀ p ∈ d, p.1 ≤ 9223372036854775807) (ho : I64 o) : ∀ p ∈ Dp.addD d o n, p.1 ≤ 9223372036854775807 := fun p hp => by
  rcases Dp.add_mem.1 hp with hp | ⟨rfl, _⟩
  · exact hr p hp
  · exact ho.hi
/-- one that waits already waits for one more -/
theorem Hg.add_in (h : Hg w F g b d) {N N' : Nat} (hM : Mi w b N M) (hw : Wm w (Ins F g b) M (fun k n => (k, n) ∈ d)) (hq : M o = some (.map (some q))) (hm : ∀ n, (mi n).isSome = true ↔ (o, n) ∈ d) (hb : Dp.addB o n = true) (ho : I64 o)
    (hmi : Mi w' q N' (fun k => if k = n then some u else mi k)) (hg : w.grownBy w' (some q)) : Hg w' (More F w w') g b (Dp.addD d o n) ∧ Turn F w w' := by
  obtain ⟨r, _, _, e2, hR, _⟩ := hw.some_ hq
  cases e2
  have hn : ((fun k => if k = n then some u else mi k) n).isSome = true := by dsimp only; rw [if_pos rfl]; rfl
  have hw2 := hw.inner hq (fun r hr => h.lt r hr.1) hg hmi hn
  have hk : ∀ r, r ≠ q → r < w.heap.size → w'.heap[r]? = w.heap[r]? := fun r hr hl => hg.block r hl (fun e => hr (by cases e; rfl))
  refine ⟨Hg.of (h.ok.add o n) (add_rng h.rng ho) (more_ltD h.lt hg.size) h.ne (Or.inl h.fg) (Or.inl h.fb) ((World.cell?_of_block (a := ⟨g, 0, none⟩) (hk g (Ne.symm hR.2.1) (h.lt _ h.fg))).trans h.cell) (hM.keep (hk b (Ne.symm hR.2.2) (h.lt _ h.fb))) ?_, (Turn.refl F w).grownD hg (Or.inl hR.1)⟩
  refine (hw2.wider (fun r hr => ⟨Or.inl hr.1, hr.2⟩)).of (fun k x => ?_)
  rw [Dp.add_mem]
  try dsimp only
  by_cases e : k = o
  · subst e
    rw [if_pos rfl]
    by_cases e2 : x = n
    · subst e2
      simp [hb]
    · rw [if_neg e2, hm]
      simp [e2]
  · rw [if_neg e]
    simp [e]
/-- one that didn't wait does -/
theorem Hg.add_new (h : Hg w F g b d) {N N' : Nat} (hw : Wm w (Ins F g b) M (fun k n => (k, n) ∈ d)) (ho0 : M o = none) (hb : Dp.addB o n = true) (ho : I64 o) (hk1 : Below w.heap.size w w1)
    (hM : Mi w2 b N (fun k => if k = o then some (.map (some q)) else M k)) (hg2 : w1.grownBy w2 (some b)) (hql : w.heap.size ≤ q) (hqu : q < w1.heap.size)
    (hmi : Mi w' q N' (fun k => if k = n then some u else none)) (hg : w2.grownBy w' (some q)) : Hg w' (More F w w') g b (Dp.addD d o n) ∧ Turn F w w' := by
  have hn : ((fun k => if k = n then some u else none) n).isSome = true := by dsimp only; rw [if_pos rfl]; rfl
  have hqg : q ≠ g := by have := h.lt _ h.fg; omega
  have hqb : q ≠ b := by have := h.lt _ h.fb; omega
  have s2 : w1.heap.size ≤ w2.heap.size := hg2.size
  have s3 : w2.heap.size ≤ w'.heap.size := hg.size
  have hk : ∀ r, r ≠ q → r ≠ b → r < w.heap.size → w'.heap[r]? = w.heap[r]? := fun r h1 h2 hl =>
    (hg.block r (by have := hk1.size; omega) (fun e => h1 (by cases e; rfl))).trans ((hg2.block r (by have := hk1.size; omega) (fun e => h2 (by cases e; rfl))).trans (hk1.block r hl))
  have hqn : S.New w w' q := ⟨hql, by omega⟩
  have hw2 : Wm w' (Ins (More F w w') g b) _ _ := hw.put (q := q) (k := o) (fun r hr => hk r (by have := h.lt r hr.1; omega) hr.2.2 (h.lt r hr.1)) (fun hr => by have := h.lt _ hr.1; omega) (fun r hr => ⟨Or.inl hr.1, hr.2⟩) ⟨Or.inr hqn, hqg, hqb⟩ hmi hn
  refine ⟨Hg.of (h.ok.add o n) (add_rng h.rng ho) (more_ltD h.lt (by have := hk1.size; omega)) h.ne (Or.inl h.fg) (Or.inl h.fb) ((World.cell?_of_block (a := ⟨g, 0, none⟩) (hk g (Ne.symm hqg) h.ne (h.lt _ h.fg))).trans h.cell) (hM.keep (hg.block b (by have := hk1.size; have := h.lt _ h.fb; omega) (fun e => hqb (by cases e; rfl)))) ?_, ((Turn.of_below hk1).grownD hg2 (Or.inl h.fb)).grownD hg (Or.inr hql)⟩
  refine hw2.of (fun k x => ?_)
  rw [Dp.add_mem]
  try dsimp only
  by_cases e : k = o
  · subst e
    have := hw.none_ ho0
    rw [if_pos rfl]
    by_cases e2 : x = n
    · subst e2
      simp [hb]
    · rw [if_neg e2]
      have := this x
      simp [e2, this]
  · rw [if_neg e]
    simp [e]
end

set_option maxRecDepth 100000 in
set_option maxHeartbeats 1000000 in
theorem add12 {w : World} {F : Nat → Prop} {v : Value} {d : List Dp.Wt} (h : Hd w F v d) (o n : Int) (ho : I64 o) :
    Calls Try.prog 21 #[v, .int .i64 o, .int .i64 n] w fun e w' => e = .returned (.bool (Dp.addB o n)) ∧ Hd w' (More F w w') v (Dp.addD d o n) ∧ Turn F w w' := by
  obtain ⟨g, b, rfl, h⟩ := h
  have HH := Lib.hid h
  cases hb : Dp.addB o n with
  | false =>
    rw [add_same hb]
    have hl := Lib.hid (h.later (Below.refl _ _))
    have h0 := hb
    unfold Dp.addB at h0
    clear hb h
    by_cases h1 : n < 1
    · have d1 : decide (n < 1) = true := decide_eq_true h1
      clear h0
      go_enter Try.func21, Try.ntmps21
      go_wp2
      go_ret
      exact ⟨rfl, ⟨g, b, rfl, hl.out⟩, Turn.refl _ _⟩
    · have d1 : decide (n < 1) = false := decide_eq_false h1
      have h2 : o ≤ n := by
        rw [d1] at h0
        simpa using h0
      have d2 : decide (o ≤ n) = true := decide_eq_true h2
      clear h0
      go_enter Try.func21, Try.ntmps21
      go_wp2
      go_ret
      exact ⟨rfl, ⟨g, b, rfl, hl.out⟩, Turn.refl _ _⟩
  | true =>
    have h12 := Dp.addB_iff.1 hb
    have h1 : ¬ n < 1 := by omega
    have h2 : ¬ o ≤ n := by omega
    have d1 : decide (n < 1) = false := decide_eq_false h1
    have d2 : decide (o ≤ n) = false := decide_eq_false h2
    have HB := Lib.hid hb
    have hcell := h.cell
    obtain ⟨M, hM, hw⟩ := h.map
    have HM := Lib.hid hM
    have HW := Lib.hid hw
    have HZ := Lib.hid (zeroMap w)
    have HO := Lib.hid ho
    have HNE : Hid (∀ r, F r → r < w.heap.size) := Lib.hid h.lt
    cases em : M o with
    | some v =>
      obtain ⟨q, mi, N, rfl, hR, _, hmi, hiff⟩ := hw.some_ em
      have HMI := Lib.hid hmi
      have HI := Lib.hid hiff
      have HE := Lib.hid em
      have e1 : (M o).getD (.map none) = .map (some q) := by rw [em]; rfl
      have HG := Lib.hid e1
      have heq := run_eql_map_nil (P := Try.prog) w 58 _ _ (some q) Try.underlying58
      clear hM hw hmi hiff em e1 h hb h12 hR
      go_enter Try.func21, Try.ntmps21
      go_wp2_with (first
        | (at_lookup; refine wpList_look_i rfl _ _ 44 58 rfl Try.underlying44 HZ.out rfl HM.out o rfl ?_; rw [HG.out])
        | (at_mapUpdate; refine wpList_put_i rfl _ _ _ 58 60 rfl Try.underlying58 rfl HMI.out n _ rfl rfl ?_; intro w2 h2 hg2; have H2 := Lib.hid h2; have HG2 := Lib.hid hg2; clear h2 hg2))
      go_ret
      obtain ⟨r1, r2⟩ := HH.out.add_in HM.out HW.out HE.out HI.out HB.out HO.out H2.out HG2.out
      exact ⟨rfl, ⟨g, b, rfl, r1⟩, r2⟩
    | none =>
      have HE := Lib.hid em
      have e1 : (M o).getD (.map none) = .map none := by rw [em]; rfl
      have HG := Lib.hid e1
      have HB1 : Hid (Below w.heap.size w (w.alloc (.map #[] 0))) := Lib.hid ((Below.refl _ _).alloc (Nat.le_refl _) _)
      have hbl : b < w.heap.size := h.lt _ h.fb
      have hgl : g < w.heap.size := h.lt _ h.fg
      have HC2 : Hid (∀ w2, (w.alloc (.map #[] 0)).grownBy w2 (some b) → w2.cell? ⟨g, 0, none⟩ = some (.map (some b))) := Lib.hid (fun w2 hg2 => (World.cell?_of_block (a := ⟨g, 0, none⟩) (hg2.block g (by simp; omega) (fun e => h.ne (by cases e; rfl)))).trans (h.cellAt HB1.out))
      have HK2 : Hid (∀ w2, (w.alloc (.map #[] 0)).grownBy w2 (some b) → Mi w2 w.heap.size 0 (fun _ => none)) := Lib.hid (fun w2 hg2 => (Mi.made w).keep (hg2.block _ (by simp) (fun e => by cases e; omega)))
      have HG2' : Hid ((fun k' => if k' = o then some (Value.map (some w.heap.size)) else M k') o = some (.map (some w.heap.size))) := Lib.hid (by dsimp only; rw [if_pos rfl])
      have HG2' : Hid (((fun k' => if k' = o then some (Value.map (some w.heap.size)) else M k') o).getD (.map none) = .map (some w.heap.size)) := Lib.hid (by rw [HG2'.out]; rfl)
      have hmake : (Instr.makeMap 58 none).run Try.prog w = .ok (.map (some w.heap.size)) (w.alloc (.map #[] 0)) := rfl
      have HM1 : Hid (Mi (w.alloc (.map #[] 0)) b _ M) := Lib.hid (hM.below HB1.out)
      have heq := run_eql_map_nil (P := Try.prog) w 58 _ _ none Try.underlying58
      clear hM hw em e1 h hb h12 hbl hgl
      go_enter Try.func21, Try.ntmps21
      go_wp2_with (first
        | (at_lookup; refine wpList_look_v rfl _ _ 44 58 rfl Try.underlying44 HZ.out rfl HM.out o rfl HG.out ?_; clear HM)
        | (at_mapUpdate; refine wpList_put_i rfl _ _ _ 44 58 rfl Try.underlying44 rfl HM1.out o (.map (some w.heap.size)) rfl rfl ?_; intro w2 h2 hg2; have H2 := Lib.hid h2; have HG2 := Lib.hid hg2; have hcell2 := HC2.out w2 hg2; have HQ2 := Lib.hid (HK2.out w2 hg2); clear h2 hg2 HC2 HK2 hcell heq HM1)
        | (at_lookup; refine wpList_look_v rfl _ _ 44 58 rfl Try.underlying44 (zeroMap w2) rfl H2.out o rfl HG2'.out ?_)
        | (at_mapUpdate; refine wpList_put_i rfl _ _ _ 58 60 rfl Try.underlying58 rfl HQ2.out n _ rfl rfl ?_; intro w3 h3 hg3; have H3 := Lib.hid h3; have HG3 := Lib.hid hg3; clear h3 hg3))
      go_ret
      obtain ⟨r1, r2⟩ := HH.out.add_new HW.out HE.out HB.out HO.out HB1.out H2.out HG2.out (Nat.le_refl _) (by simp) H3.out HG3.out
      exact ⟨rfl, ⟨g, b, rfl, r1⟩, r2⟩
end Go.Proofs.Ythbnbifagenpiaa
