/-
  Walks of the landed clock: Min, Active.
-/
import Derived.Test.YtcndghkeondbpaaStClk
import Derived.Test.YtcndghkeondbpaaStShelf
namespace Go.Proofs.Ytcndghkeondbpaa
open Go.RowKit Go.Maps

theorem sameKey_int (x y : Int) : (Lit.int .i64 y).sameKey (.int .i64 x) = decide (y = x) := by simp [Lit.sameKey]

/-- the least so far -/
def Least (c : T.Ck) (left : Lit → Bool) (L : Int) : Prop := L ≤ c.next ∧ (L = c.next ∨ L ∈ c.act) ∧ ∀ x ∈ c.act, left (.int .i64 x) = false → L ≤ x

theorem Least.start {c : T.Ck} {D : DataW Unit} (hx : ∀ x : Int, Maps.has D (.int .i64 x) = decide (x ∈ c.act)) : Least c (Maps.has D) c.next :=
  ⟨Int.le_refl _, .inl rfl, fun x hm hl => by rw [hx x, decide_eq_true hm] at hl; cases hl⟩
theorem Least.step {c : T.Ck} {left : Lit → Bool} {L x : Int} (h : Least c left L) (hx : x ∈ c.act) : Least c (fun z => left z && !z.sameKey (.int .i64 x)) (min L x) := by
  obtain ⟨h1, h2, h3⟩ := h
  by_cases hlt : x < L
  · rw [show min L x = x by omega]
    refine ⟨by omega, .inr hx, fun y hy hl => ?_⟩
    by_cases e : y = x
    · omega
    · have : left (.int .i64 y) = false := by
        dsimp only at hl
        rw [sameKey_int, decide_eq_false e] at hl
        simpa using hl
      have := h3 y hy this
      omega
  · rw [show min L x = L by omega]
    refine ⟨h1, h2, fun y hy hl => ?_⟩
    by_cases e : y = x
    · omega
    · have : left (.int .i64 y) = false := by
        dsimp only at hl
        rw [sameKey_int, decide_eq_false e] at hl
        simpa using hl
      exact h3 y hy this
theorem Least.fin {c : T.Ck} {left : Lit → Bool} {L : Int} (hc : c.Ok) (h : Least c left L) (hl : ∀ k, left k = false) : L = c.min := by
  have h1 : L ≤ c.min := T.Ck.min_of h.1 (fun x hx => h.2.2 x hx (hl _))
  have h2 : c.min ≤ L := by
    rcases h.2.1 with e | e
    · rw [e]; exact T.Ck.min_next hc
    · exact T.Ck.min_le hc e
  omega

set_option maxRecDepth 100000 in
set_option maxHeartbeats 1000000 in
theorem min_any {w : World} {g b m : Nat} {c : T.Ck} (h : Hc w g b m c) : Calls Try.prog 19 #[.pointer (some ⟨g, 0, none⟩)] w fun e w' => e = .returned (.int .i64 c.min) ∧ Below w.heap.size w w' := by
  have c0 := h.c0
  have c1 := h.c1
  have HH := Lib.hid h
  obtain ⟨D, hown, hx⟩ := h.own
  have HX := Lib.hid hx
  clear h hx
  go_enter Try.func19, Try.ntmps19
  go_wp2_with (first
    | (at_range; refine wpList_range_own _ rfl _ 52 rfl 2 55 keyed9 Try.underlying52 _ b m _ rfl hown ?_; intro w0 hrg0 hg0 hs0)
    | go_in)
  go_frame
  go_loopw [3] (fun v wr => ∃ (left : Lit → Bool) (cnt : Nat) (L : Int), v = .int .i64 L ∧ wr.ranges Try.prog 2 unitElem b w.heap.size m D left cnt ∧ Hid (Below w.heap.size w wr) ∧ Hid (Least c left L))
    (fun _ wr => wr.rangeLeft b w.heap.size)
  case atStart => exact ⟨_, _, c.next, rfl, hrg0, Lib.hid ((Below.refl _ _).grown hg0 (Nat.le_refl _) (fun k e => by cases e)), Lib.hid (Least.start HX.out)⟩
  case round =>
    obtain ⟨left, cnt, L, rfl, hrg, HB, HL⟩ := hrel
    go_wp2_with (first
      | (at_next; refine wpList_next_ranges (α := Int) (β := Unit) _ rfl _ rfl 2 keyed9 unitElem (Value.int .i64) (fun _ => .agg #[]) (fun key kl hkey => by obtain ⟨x, rfl, _⟩ := Maps.keyOf_int_inv Try.underlying2 hkey; exact ⟨x, rfl⟩) (fun v y hv => by obtain ⟨rfl, _⟩ := unitElem_inv hv; exact ⟨(), rfl⟩) b w.heap.size m D left cnt rfl hrg ?_ ?_)
      | go_in)
    · intro _ hl0
      have HE := Lib.hid (HL.out.fin HH.out.ok hl0)
      clear hl0
      go_wp2
      go_ret
      exact ⟨ret_v (by rw [← HE.out]; rfl), HB.out⟩
    · intro x _ kl y w1 cnt1 hkey hlx hv hat hrg1 hlt hg1 hs1 hen
      obtain ⟨x', ex, rfl, hwx⟩ := Maps.keyOf_int_inv Try.underlying2 hkey
      cases ex
      have hmem : x ∈ c.act := by
        have := Maps.has_true_of_atKey hat
        rw [HX.out x] at this
        exact of_decide_eq_true this
      have HL1 := Lib.hid (HL.out.step hmem)
      have HB1 : Hid (Below w.heap.size w w1) := Lib.hid (HB.out.grown hg1 (by have := hrg.lt; omega) (fun k e => by cases e; exact Nat.le_refl _))
      clear hmem hat hv hkey
      go_wp2
      go_roundw
      case rel => exact ⟨_, cnt1, min L x, rfl, hrg1, HB1, HL1⟩
      case measure => rw [hrg1.left_eq, hrg.left_eq]; exact hlt

/-! ### Active -/
theorem sorted_act {c : T.Ck} (hc : c.Ok) {w : World} {b m : Nat} {D : DataW Unit} (hown : w.ownsMap Try.prog 2 unitElem b m D) (hx : ∀ x : Int, Maps.has D (.int .i64 x) = decide (x ∈ c.act)) {ss : List Int} (hp : ss.Perm (intKeys D)) :
    ss.mergeSort (fun x y => decide (x ≤ y)) = c.act := by
  have h1 : CollectedI D (fun _ => false) c.act := ⟨hc.rise.nodup, fun x => by rw [hx x]; simp⟩
  have h2 := h1.perm hown keyed9 Try.underlying2 (fun _ => rfl)
  have h3 := mergeSort_of_perm_i (hp.trans h2.symm)
  refine h3.trans (List.mergeSort_of_pairwise ?_)
  exact hc.rise.imp (fun h => decide_eq_true (Int.le_of_lt h))

theorem sortsA (k : Nat) : AnyZI.SortsIn Try.prog sortedA_ren Fence.wide k :=
  ⟨fun blk off cap ss W hH hblk hsz => callsIn_wide.2 (AnyM.slices_Sort_int sortA blk off cap ss W hH hblk hsz),
   fun p cap W => callsIn_wide.2 (AnyM.slices_Sort_int_none sortA p cap W)⟩

set_option maxRecDepth 100000 in
set_option maxHeartbeats 1000000 in
theorem active_any {w : World} {g b m : Nat} {c : T.Ck} (h : Hc w g b m c) (hm : m ≤ 1000) : Calls Try.prog 22 #[.pointer (some ⟨g, 0, none⟩)] w fun e w' => ∃ v, e = .returned v ∧ SlN w' (S.New w w') v c.act ∧ Below w.heap.size w w' := by
  refine (callsIn_wide (n := 6)).1 ?_
  have c1 := h.c1
  have HH := Lib.hid h
  obtain ⟨D, hown, hx⟩ := h.own
  have HX := Lib.hid hx
  have HOW := Lib.hid hown
  have hbl := hown.lt
  have hsz := hown.size_le
  have hseq : SeqGives Fence.wide 2 Try.prog 27 #[.pointer (some ⟨w.heap.size, 0, none⟩)] encZ (fun ss => ss.Perm (intKeys D)) (Maps.size D) (w.alloc (.cells #[.map (some b)] 52)) :=
    AnyZI.keys_gives (ρ := keysA_ren) { keysA with } Fence.wide _ trivial rfl (by omega) w.heap.size b m D _ (by simp) (by simp) (by
      obtain ⟨es, clock, hb, Ft, hs, hD⟩ := hown
      exact ⟨es, clock, (Below.heap_alloc _ _ b hbl).trans hb, Ft, hs, hD⟩)
  have cK : ∀ mb W, CallsIn Fence.wide 5 Try.prog 24 #[.map mb] W fun e w' => e = .returned (.func (.func 27) #[] #[.pointer (some ⟨W.heap.size, 0, none⟩)]) ∧ w' = W.alloc (.cells #[.map mb] 52) := fun mb W => AnyZI.keys_in keysA Fence.wide 5 trivial rfl mb W
  have cS := AnyZI.sorted_in sortedA Fence.wide 5 trivial trivial trivial trivial rfl (by omega) (sortsA _) (enters_of Try.func26 (by kernel_rfl) rfl) 27 #[.pointer (some ⟨w.heap.size, 0, none⟩)] trivial (enters_of Try.func27 (by kernel_rfl) rfl) _ _ (by unfold maxLen; omega) (by omega) _ hseq
  change CallsIn _ _ Try.prog 23 _ _ _ at cS
  have hfK : Fence.wide.fn 24 := trivial
  have hfS : Fence.wide.fn 23 := trivial
  clear h hown hx hsz hseq
  refine callsIn_of_wp Try.func22 rfl trivial ?_ rfl
  simp only [Try.ntmps22, List.size_toArray, List.length_cons, List.length_nil, Nat.reduceAdd, Nat.reduceSub, Array.replicate_succ, Array.replicate_zero, List.push_toArray, List.append_toArray, List.nil_append, List.cons_append]
  gi_wp2_with (first
    | (gi_at_call 24; refine (cK _ _).mono ?_; rintro e w' ⟨rfl, rfl⟩)
    | (gi_at_call 23; refine cS.mono ?_; rintro e w' ⟨v, ss, rfl, hS, hrow, hnil, hb⟩))
  go_ret
  have e := sorted_act HH.out.ok HOW.out HX.out hS
  have hl : ss.length = c.act.length := by rw [← e, List.length_mergeSort]
  rw [e, hl] at hrow
  have hb0 : Below w.heap.size w w' := ((Below.refl _ w).alloc (Nat.le_refl _) _).trans (hb.mono (by simp))
  refine ⟨v, rfl, ?_, hb0⟩
  exact (S.Sg.of_own hrow).wider (fun k hk => ⟨by have := hk.1; simp at this; omega, hk.2⟩)

end Go.Proofs.Ytcndghkeondbpaa
