/-
  The landed cells: a map's keys collected and sorted (slices.SortedFunc).
-/
import Derived.Test.YtmlocdfjjgbnjaaClKeys
import Derived.Test.YtmlocdfjjgbnjaaClCmp
import Derived.Test.YtmlocdfjjgbnjaaClShelf
namespace Go.Proofs.Ytmlocdfjjgbnjaa
open Go.RowKit Go.Shelf

instance : Inhabited Cl.Ky := ⟨⟨0, 0, 0⟩⟩

theorem keyV_len (k : Cl.Ky) : (keyV k).length = 3 := rfl
theorem keyV_one (k : Cl.Ky) : ∀ v ∈ keyV k, v.oneCell' = true := fun v hv => by
  simp only [keyV, List.mem_cons, List.not_mem_nil, or_false] at hv
  rcases hv with rfl | rfl | rfl <;> rfl

theorem flat_key (ks : List Cl.Ky) : (Go.Sort.flatK keyV 3 ks.toArray).toList = ks.flatMap keyV := by
  apply List.ext_getElem?
  intro t
  have hl : (ks.flatMap keyV).length = ks.length * 3 := V.flat_len ks (fun x _ => keyV_len x)
  by_cases ht : t < ks.length * 3
  · have hi : t / 3 < ks.length := by omega
    have e : t / 3 * 3 + t % 3 = t := by omega
    have h1 := V.flat_at ks (fun x _ => keyV_len x) (t / 3) hi (t % 3) (Nat.mod_lt _ (by decide))
    rw [e] at h1
    rw [h1]
    have hs : t < (Go.Sort.flatK keyV 3 ks.toArray).size := by rw [Go.Sort.size_flatK]; simpa using ht
    have h2 := Go.Sort.get_flatK keyV 3 ks.toArray t (by simpa using ht)
    rw [getElem!_pos _ t hs] at h2
    rw [Array.getElem?_toList, Array.getElem?_eq_getElem hs, h2]
    have e3 : ks.toArray[t / 3]! = ks[t / 3] := by
      rw [getElem!_pos _ _ (by simpa using hi)]
      simp
    rw [e3]
    have hm : t % 3 < (keyV ks[t / 3]).length := by rw [keyV_len]; exact Nat.mod_lt _ (by decide)
    rw [List.getElem?_eq_getElem hm, getElem!_pos (keyV ks[t / 3]) (t % 3) hm]
  · have hz : (Go.Sort.flatK keyV 3 ks.toArray).toList.length = ks.length * 3 := by rw [Array.length_toList, Go.Sort.size_flatK]; simp
    rw [List.getElem?_eq_none (by omega), List.getElem?_eq_none (by omega)]

section
variable {w : World} {base g n cap m : Nat} {e : TypeId} {ks ts : List Cl.Ky} {os : Array Obj}

theorem holds_key (h : w.ownsRow base e 3 (.slice (some ⟨g, 0, none⟩) n cap) n (ks.flatMap keyV)) : Go.Sort.HoldsK keyV 3 w g 0 ks.toArray := fun j hj => by
  have hj2 : (ks.flatMap keyV)[j]? = some (Go.Sort.flatK keyV 3 ks.toArray)[j]! := by
    rw [← flat_key, Array.getElem?_toList, Array.getElem?_eq_getElem hj, getElem!_pos (Go.Sort.flatK keyV 3 ks.toArray) j hj]
  rw [Nat.zero_add]
  exact ⟨V.own_cell h hj2, V.own_frozen h j⟩

theorem heap_sortedK {cur : Array Value} {fr : Nat × Nat} (d : Array Cl.Ky) (hb : w.heap[g]? = some (.cells cur e fr)) :
    (Go.Sort.grow (Go.Sort.putRowK keyV 3 (Go.Sort.ahead w m) g 0 d) os).heap[g]? = some (.cells (Go.Sort.putCells id 0 (Go.Sort.flatK keyV 3 d) cur) e fr) := by
  have hg : g < w.heap.size := (Array.getElem?_eq_some_iff.1 hb).1
  rw [Go.Sort.heap_grow_old _ _ (by simpa [Go.Sort.putRowK] using hg)]
  simp [Go.Sort.putRowK, Go.Sort.putRow, Go.Sort.mapBlock, Go.Sort.ahead, Array.getElem?_modify, hb, Go.Sort.onCells]
theorem grownBy_sortedK (d : Array Cl.Ky) : w.grownBy (Go.Sort.grow (Go.Sort.putRowK keyV 3 (Go.Sort.ahead w m) g 0 d) os) (some g) := by
  refine ⟨rfl, rfl, rfl, by simp [Go.Sort.putRowK], fun k hk hne => ?_⟩
  rw [Go.Sort.heap_grow_old _ _ (by simpa [Go.Sort.putRowK] using hk)]
  have : g ≠ k := fun e => hne (by rw [e])
  simp [Go.Sort.putRowK, Go.Sort.putRow, Go.Sort.mapBlock, Go.Sort.ahead, Array.getElem?_modify, this]
theorem take_putK (F cur : Array Value) (h : F.size ≤ cur.size) : (Go.Sort.putCells id 0 F cur).toList.take F.size = F.toList := by
  apply List.ext_getElem?
  intro j
  by_cases hj : j < F.size
  · rw [List.getElem?_take_of_lt hj, Array.getElem?_toList, Array.getElem?_toList]
    simp [Go.Sort.putCells, hj, show j < cur.size by omega]
  · rw [List.getElem?_take_eq_none (by omega), List.getElem?_eq_none (by simp; omega)]
theorem own_sortedK (hl : ts.length = ks.length) (h : w.ownsRow base e 3 (.slice (some ⟨g, 0, none⟩) n cap) n (ks.flatMap keyV)) (hn : n = ks.length) :
    (Go.Sort.grow (Go.Sort.putRowK keyV 3 (Go.Sort.ahead w m) g 0 ts.toArray) os).ownsRow base e 3 (.slice (some ⟨g, 0, none⟩) n cap) n (ts.flatMap keyV) := by
  rcases h.2 with ⟨h1, _⟩ | ⟨g', cap', cur, he, hb, hg, hc, hm, h3, h4⟩
  · cases h1
  · cases he
    have hs : (Go.Sort.flatK keyV 3 ts.toArray).size = n * 3 := by rw [Go.Sort.size_flatK]; simp; omega
    have hle : n * 3 ≤ cap * 3 := Nat.mul_le_mul_right _ hc
    refine ⟨by rw [V.flat_len ts (fun x _ => keyV_len x), hl, hn], .inr ⟨g, cap, _, rfl, hb, heap_sortedK _ hg, hc, hm, by simp [Go.Sort.putCells, h3], ?_⟩⟩
    have h5 := take_putK (Go.Sort.flatK keyV 3 ts.toArray) cur (by rw [hs]; omega)
    rw [hs, flat_key] at h5
    exact h5
end

/-- keys in order -/
def srt (ks : List Cl.Ky) : List Cl.Ky := ks.mergeSort (fun x y => !Cl.less y x)

theorem ltOf_key : ltOf cmpK = Cl.less := by
  funext x y
  exact cmpK_neg x y
theorem less_swo : Go.Sort.SWO (ltOf cmpK) := by
  rw [ltOf_key]
  refine ⟨Cl.less_irrefl, fun x y z => Cl.less_trans, fun x y z h1 h2 => ?_⟩
  cases e : Cl.less x z with
  | false => rfl
  | true =>
    have h1' : ¬ Cl.less x y = true := by rw [h1]; simp
    have h2' : ¬ Cl.less y z = true := by rw [h2]; simp
    rw [Cl.less_iff] at h1' h2' e
    omega
theorem less_all (x y : Cl.Ky) (h1 : ltOf cmpK x y = false) (h2 : ltOf cmpK y x = false) : x = y := by
  rw [ltOf_key] at h1 h2
  by_cases e : x = y
  · exact e
  · rcases Cl.less_total e with h | h
    · rw [h1] at h; cases h
    · rw [h2] at h; cases h

theorem cmp_lays (blk off size : Nat) (w : World) : CmpLays Try.prog 49 #[] keyV 3 cmpK blk off size w :=
  fun _ _ _ _ x y => compare11 x y _

theorem sort11 {w : World} {base : Nat} {v : Value} {ks : List Cl.Ky} (h : w.ownsRow base 50 3 v ks.length (ks.flatMap keyV)) (hb : base ≤ w.heap.size) (hl : ks.length ≤ 1000000) :
    Calls Try.prog 55 #[v, .func (.func 49) #[] #[]] w fun e w' => e = .returned (.tuple #[]) ∧ w'.ownsRow base 50 3 v (srt ks).length ((srt ks).flatMap keyV) ∧ Below base w w' := by
  have hls : (srt ks).length = ks.length := by unfold srt; rw [List.length_mergeSort]
  rw [hls]
  rcases h.2 with ⟨rfl, h0⟩ | ⟨g, cap, cur, rfl, hg, hgb, _⟩
  · have e0 : ks = [] := List.length_eq_zero_iff.1 h0
    subst e0
    have hcon := AnyF.slices_SortFunc_none sortK none 0 (.func (.func 49) #[] #[]) w
    change Calls Try.prog 55 _ _ _ at hcon
    refine hcon.mono ?_
    rintro e w' ⟨rfl, rfl⟩
    exact ⟨rfl, by simpa [srt] using h, Below.refl _ _⟩
  · have hgw := (Array.getElem?_eq_some_iff.1 hgb).1
    have hcon := AnyQ.slices_SortFunc_total sortK 3 Try.isAgg50 Try.sizeOf50 keyV keyV_len keyV_one cmpK less_swo 49 #[] g 0 cap ks.toArray w
      (enters_of Try.func49 (by kernel_rfl) rfl) (cmp_lays _ _ _ _) (holds_key h) hgw (by simp; omega) less_all
    change Calls Try.prog 55 _ _ _ at hcon
    rw [List.size_toArray] at hcon
    refine hcon.mono ?_
    rintro e w' ⟨rfl, m, os, rfl⟩
    have es : (ks.toArray.toList.mergeSort fun x y => !(ltOf cmpK) y x) = srt ks := by rw [ltOf_key]; rfl
    rw [es]
    exact ⟨rfl, own_sortedK hls h rfl, (Below.refl base w).grown (grownBy_sortedK _) hb (fun k e => by cases e; exact hg)⟩

set_option maxHeartbeats 1000000 in
theorem sortedK (N : Nat) (hN : 3 ≤ N) (g : Nat) (lb : Array Value) (eg : ∀ args w, (callFunc g args).run Try.prog w = .ok (.enter g args) w) (Sx : List Cl.Ky → Prop) (n : Nat) (hn : n ≤ 1000000) (w : World) (hseq : SeqGives Fence.wide (N - 1 - 1 - 1) Try.prog g lb keyA Sx n w) (hlen : ∀ ks, Sx ks → ks.length ≤ 1000000) :
    CallsIn Fence.wide N Try.prog 47 #[.func (.func g) #[] lb, .func (.func 49) #[] #[]] w fun e w' => ∃ (v : Value) (ks : List Cl.Ky), e = .returned v ∧ Sx ks ∧ w'.ownsRow w.heap.size 50 3 v (srt ks).length ((srt ks).flatMap keyV) ∧ Below w.heap.size w w' := by
  have h1 : 1 ≤ N := by omega
  have hC := Lib.hid (collectK (N - 1) (by omega) g lb eg Sx n hn w hseq)
  have hT : Fence.wide.fn 54 := trivial
  have hT2 : Fence.wide.fn 55 := trivial
  have HL := Lib.hid hlen
  clear hseq hlen
  refine callsIn_of_wp Try.func47 rfl trivial ?_ rfl
  simp only [Try.ntmps47, List.size_toArray, List.length_cons, List.length_nil, Nat.reduceAdd, Nat.reduceSub, Array.replicate_succ, Array.replicate_zero, List.push_toArray, List.append_toArray, List.nil_append, List.cons_append]
  gi_wp2_with (first
    | (gi_at_call 54; refine hC.out.mono ?_; rintro e w' ⟨v, ks, rfl, hS, hrow, hb⟩; obtain ⟨A, c, rfl⟩ := own_sliceK hrow; have HS := Lib.hid hS; have HR := Lib.hid hrow; have HB := Lib.hid hb; have HO := Lib.hid (callsIn_wide (n := N - 1).2 (sort11 hrow hb.size (HL.out ks hS))); clear hS hrow hb)
    | (gi_at_call 55; refine HO.out.mono ?_; rintro e w2 ⟨rfl, hrow, hb⟩; have HR2 := Lib.hid hrow; have HB2 := Lib.hid hb; clear hrow hb))
  go_ret
  exact ⟨_, _, rfl, HS.out, HR2.out, HB.out.trans HB2.out⟩
end Go.Proofs.Ytmlocdfjjgbnjaa
