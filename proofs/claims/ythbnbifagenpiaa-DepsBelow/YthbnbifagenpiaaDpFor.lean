/-
  Who waits for whom in memory as a map of maps: whether one waits for somebody of a row that rises.
-/
import Derived.Test.YthbnbifagenpiaaDpSet
import Derived.Test.YthbnbifagenpiaaDpSearchL
namespace Go.Proofs.Ythbnbifagenpiaa
open Go.RowKit Go.Shelf

/-- the cells of a row of one's own -/
theorem own_at {w : World} {base : Nat} {v : Value} {l : List Int} (h : w.ownsRow base 2 1 v l.length (numV l)) (hn : l ≠ []) : ∃ q cap, v = .slice (some ⟨q, 0, none⟩) l.length cap ∧ base ≤ q ∧ q < w.heap.size ∧ ∀ j (hj : j < l.length), w.cell? ⟨q, j, none⟩ = some (.int .i64 l[j]) := by
  have hs := S.Sg.of_own h
  have h0 : l.length ≠ 0 := fun e => hn (List.length_eq_zero_iff.1 e)
  rcases h.2 with ⟨_, e⟩ | ⟨q, cap, cur, e, hb, hq, _⟩
  · exact absurd e h0
  · refine ⟨q, cap, e, hb, (Array.getElem?_eq_some_iff.1 hq).1, fun j hj => ?_⟩
    obtain ⟨a, c, e2, _, _, hx⟩ := num_nth hs j hj
    rw [e] at e2
    cases e2
    have e3 : (⟨q, 0, none⟩ : Addr).add j = ⟨q, j, none⟩ := by rw [Addr.add_lit, Nat.zero_add]
    rw [← e3]
    exact hx

theorem searchN {w : World} {q cap : Nat} {l : List Int} (hc : ∀ j (hj : j < l.length), w.cell? ⟨q, j, none⟩ = some (.int .i64 l[j])) (hs : T.Rises l) (hl : l.length ≤ 1000000) (x : Int) :
    Calls Try.prog 37 #[.slice (some ⟨q, 0, none⟩) l.length cap, .int .i64 x] w fun e w' => ∃ k : Nat, e = .returned (.tuple #[.int .i64 (k : Int), .bool (decide (x ∈ l))]) ∧ Below w.heap.size w w' := by
  have h := AnyG.slices_BinarySearch_int searchA q 0 l.length cap l x w (Nat.le_refl _) (by omega) (fun j hj => by
    rw [Nat.zero_add, hc j hj, List.getD_eq_getElem?_getD, List.getElem?_eq_getElem hj]
    rfl) (by rw [List.take_length]; exact hs.imp (fun h => Int.le_of_lt h))
  change Calls Try.prog 37 _ _ _ at h
  refine h.mono ?_
  rintro e w' ⟨rfl, n, rfl⟩
  refine ⟨(l.take l.length).countP (· < x), ?_, ⟨rfl, rfl, rfl, Nat.le_refl _, fun _ _ => rfl⟩⟩
  rw [List.take_length, List.contains_eq_mem]

set_option maxRecDepth 100000 in
set_option maxHeartbeats 2000000 in
theorem for12 {w : World} {F : Nat → Prop} {g b : Nat} {d : List Dp.Wt} (h : Hg w F g b d) {o n1 : Int} (hin : (o, n1) ∈ d) {q cap : Nat} {l : List Int} (hc : ∀ j (hj : j < l.length), w.cell? ⟨q, j, none⟩ = some (.int .i64 l[j])) (hql : q < w.heap.size) (hs : T.Rises l) (hl : l.length ≤ 1000000) :
    Calls Try.prog 31 #[.pointer (some ⟨g, 0, none⟩), .int .i64 o, .slice (some ⟨q, 0, none⟩) l.length cap] w fun e w' => ∃ B : Bool, e = .returned (.bool B) ∧ (B = true ↔ ∃ n, (o, n) ∈ d ∧ n ∈ l) ∧ Below w.heap.size w w' := by
  have hcell := h.cell
  obtain ⟨M, hM, hw⟩ := h.map
  obtain ⟨p, mi, N, em, hR, hmi, hi⟩ := hw.at_ hin
  have HM := Lib.hid hM
  have HMI := Lib.hid hmi
  have hpl : p < w.heap.size := h.lt _ hR.1
  have HZ := Lib.hid (zeroMap w)
  have HG : Hid ((M o).getD (.map none) = .map (some p)) := Lib.hid (by rw [em]; rfl)
  have HI := Lib.hid hi
  have HC : Hid (∀ w', Below w.heap.size w w' → ∀ x, Calls Try.prog 37 #[.slice (some ⟨q, 0, none⟩) l.length cap, .int .i64 x] w' fun e w2 => ∃ k : Nat, e = .returned (.tuple #[.int .i64 (k : Int), .bool (decide (x ∈ l))]) ∧ Below w'.heap.size w' w2) := Lib.hid (fun w' hb x => searchN (fun j hj => (hb.cell (p := ⟨q, j, none⟩) hql).trans (hc j hj)) hs hl x)
  clear h hM hw em hR hmi hi hin hc hs hl
  go_enter Try.func31, Try.ntmps31
  go_wp2_with (first
    | (at_lookup; refine wpList_look_v rfl _ _ 44 58 rfl Try.underlying44 HZ.out rfl HM.out o rfl HG.out ?_)
    | (at_range; refine wpList_range_i rfl _ 58 60 rfl Try.underlying58 rfl HMI.out ?_; intro w2 T hrg _ _ ha hb2; have HRG := Lib.hid hrg; have HA := Lib.hid ha; have HB2 := Lib.hid hb2; clear hrg ha hb2)
    | go_in)
  obtain ⟨r, hr⟩ : ∃ r, r = w.heap.size := ⟨_, rfl⟩
  have HR : Hid (w.heap.size = r ∧ p < r) := Lib.hid ⟨hr.symm, by omega⟩
  rw [← hr] at HRG ⊢
  clear hr hcell
  have HT0 : Hid (∀ n, (o, n) ∈ d → n ∈ l → n ∈ T.map Eni.k) := Lib.hid (fun n hd _ => by
    obtain ⟨v, hv⟩ := Option.isSome_iff_exists.1 ((HI.out n).2 hd)
    obtain ⟨x, hx, rfl, _⟩ := (HA.out n v).2 hv
    exact List.mem_map_of_mem hx)
  clear HA
  go_frame
  go_loopw [7, 8, 9] (fun _ _ _ wr => ∃ T : List Eni, Hid (Rni wr p r N mi T) ∧ Hid (Below w.heap.size w wr) ∧ Hid (∀ n, (o, n) ∈ d → n ∈ l → n ∈ T.map Eni.k)) (fun _ _ _ wr => wr.rangeLeft p r)
  case atStart => exact ⟨T, HRG, HB2, HT0⟩
  case round =>
    clear HT0 HRG HB2
    obtain ⟨T, HRG, HB, HT⟩ := hrel
    have hrg := HRG.out
    have hbr : p ≠ r := by have := HR.out.2; omega
    have HLE := Lib.hid hrg.left_eq
    go_wp2_with (first
      | (at_next; refine wpList_next_i rfl _ rfl rfl hrg hbr ?_ ?_)
      | go_in)
    · intro hT
      have HF : Hid (∀ n, (o, n) ∈ d → ¬ n ∈ l) := Lib.hid (fun n h1 h2 => by have := HT.out n h1 h2; rw [hT] at this; cases this)
      clear hT hrg hbr
      go_wp2
      go_ret
      exact ⟨false, rfl, ⟨fun e => Bool.noConfusion e, fun q => q.elim (fun n hh => absurd hh.2 (HF.out n hh.1))⟩, HB.out⟩
    · intro A x B w2 hT hrg2 hg2 hen
      subst hT
      have hm := HRG.out.mem (x := x) (by simp)
      have HX : Hid ((o, x.k) ∈ d) := Lib.hid ((HI.out x.k).1 (by rw [hm]; rfl))
      have HB2 : Hid (Below w.heap.size w w2) := Lib.hid (HB.out.grown hg2 HB.out.size (fun k e => by cases e; have := HR.out.1; omega))
      have HRG2 := Lib.hid hrg2
      have HS := Lib.hid (HC.out w2 HB2.out x.k)
      have HM3 : Hid ((A ++ B).length < (A ++ x :: B).length) := Lib.hid (by simp)
      have HPL : Hid (p < w2.heap.size ∧ r < w2.heap.size) := Lib.hid hrg2.lt
      clear hm hg2 hrg2 hrg hbr
      by_cases hx : x.k ∈ l
      · rw [show decide (x.k ∈ l) = true from decide_eq_true hx] at HS
        have HX2 := Lib.hid hx
        clear hx
        go_wp2_with (first
          | (go_at_call 37; refine HS.out.mono ?_; rintro e w3 ⟨k, rfl, hb3⟩; have HB3 := Lib.hid (HB2.out.trans (hb3.mono HB2.out.size)); clear hb3 hen)
          | go_in)
        go_ret
        exact ⟨true, rfl, ⟨fun _ => ⟨x.k, HX.out, HX2.out⟩, fun _ => rfl⟩, HB3.out⟩
      · rw [show decide (x.k ∈ l) = false from decide_eq_false hx] at HS
        have HT2 : Hid (∀ n, (o, n) ∈ d → n ∈ l → n ∈ (A ++ B).map Eni.k) := Lib.hid (fun n h1 h2 => by
          have := HT.out n h1 h2
          simp only [List.map_append, List.map_cons, List.mem_append, List.mem_cons] at this ⊢
          rcases this with q | q | q
          · exact Or.inl q
          · subst q; exact absurd h2 hx
          · exact Or.inr q)
        clear hx
        go_wp2_with (first
          | (go_at_call 37; refine HS.out.mono ?_; rintro e w3 ⟨k, rfl, hb3⟩; have HB3 := Lib.hid (HB2.out.trans (hb3.mono HB2.out.size)); have HRG3 : Hid (Rni w3 p r N mi (A ++ B)) := Lib.hid (HRG2.out.keep (hb3.block p HPL.out.1) (hb3.block r HPL.out.2)); clear hb3 hen)
          | go_in)
        go_roundw
        case rel => exact ⟨A ++ B, HRG3, HB3, HT2⟩
        case measure => rw [HRG3.out.left_eq, HLE.out]; exact HM3.out
end Go.Proofs.Ythbnbifagenpiaa
