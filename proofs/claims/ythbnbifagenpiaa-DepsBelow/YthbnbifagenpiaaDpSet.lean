/-
  Who waits for whom in memory as a map of maps: Settle.
-/
import Derived.Test.YthbnbifagenpiaaDpAdd
namespace Go.Proofs.Ythbnbifagenpiaa
open Go.RowKit

/-- who waits for whom while the maps are gone through: those of T are still to come -/
def Half (d : List Dp.Wt) (on : Int) (T : List Eni) (k n : Int) : Prop := (k ≠ on ∧ (k, n) ∈ d) ∧ (n = on → k ∈ T.map Eni.k)
/-- so far: the maps, gone through by the iterator in block r -/
structure Hs (w wr : World) (F : Nat → Prop) (g b r N : Nat) (d : List Dp.Wt) (on : Int) (T : List Eni) (M : Int → Option Value) : Prop where
  rng : Rni wr b r N M T
  wm : Wm wr (Ins F g b) M (Half d on T)
  turn : Turn F w wr
  cell : wr.cell? ⟨g, 0, none⟩ = some (.map (some b))

section
variable {w wr w1 w2 w3 w4 : World} {F : Nat → Prop} {g b r N q : Nat} {d : List Dp.Wt} {on : Int} {T A B : List Eni} {M : Int → Option Value} {x : Eni} {mi : Int → Option Value}

theorem Hs.start (h : Hg w F g b d) (hM : Wm w (Ins F g b) M (fun k n => (k, n) ∈ d)) (hg : w.grownBy w1 (some b)) (hb : Below w1.heap.size w1 w2)
    (h2 : Rni w2 b r N (fun k' => if k' = on then none else M k') T) (ha : ∀ k v, (∃ x ∈ T, x.k = k ∧ x.v = v) ↔ (if k = on then none else M k) = some v) : Hs w w2 F g b r N d on T (fun k' => if k' = on then none else M k') := by
  have hs := hg.size
  have hk : ∀ q, F q → q ≠ b → w2.heap[q]? = w.heap[q]? := fun q hq hqb => (hb.block q (by have := h.lt q hq; omega)).trans (hg.block q (h.lt q hq) (fun e => hqb (by cases e; rfl)))
  refine ⟨h2, ?_, ((Turn.refl F w).grownD hg (Or.inl h.fb)).trans' hb, (World.cell?_of_block (a := ⟨g, 0, none⟩) (hk g h.fg h.ne)).trans h.cell⟩
  have hw := (hM.del on).keep (w' := w2) (fun q hq => hk q hq.1 hq.2.2) (fun _ q => q)
  refine hw.of (fun k n => ⟨fun q => ⟨q, fun e => ?_⟩, fun q => q.1⟩)
  have hsome := (hw.say k).iff.2 ⟨n, q⟩
  obtain ⟨v, hv⟩ := Option.isSome_iff_exists.1 hsome
  obtain ⟨x, hx, rfl, _⟩ := (ha k v).2 hv
  exact List.mem_map_of_mem hx
/-- the map of the one that comes -/
theorem Hs.at_ (h : Hs w wr F g b r N d on (A ++ x :: B) M) : ∃ q mi Nq, x.v = .map (some q) ∧ M x.k = some (.map (some q)) ∧ Ins F g b q ∧ Mi wr q Nq mi ∧ (∀ n, (mi n).isSome = true ↔ x.k ≠ on ∧ (x.k, n) ∈ d) ∧ (∀ y ∈ A ++ B, y.k ≠ x.k) := by
  have hm := h.rng.mem (x := x) (by simp)
  obtain ⟨q, mi, Nq, e, hR, _, hmi, hi⟩ := h.wm.some_ hm
  have hp := List.pairwise_append.1 h.rng.apart
  refine ⟨q, mi, Nq, e, by rw [hm, e], hR, hmi, fun n => (hi n).trans ⟨fun q => q.1, fun q => ⟨q, fun _ => by simp⟩⟩, fun y hy => ?_⟩
  rcases List.mem_append.1 hy with hy | hy
  · exact hp.2.2 y hy x (by simp)
  · exact Ne.symm ((List.pairwise_cons.1 hp.2.1).1 y hy)
theorem half_other {k n : Int} (e : k ≠ x.k) : Half d on (A ++ x :: B) k n ↔ Half d on (A ++ B) k n := by
  unfold Half
  simp [e]
theorem half_it {n : Int} (hx : ∀ y ∈ A ++ B, y.k ≠ x.k) : Half d on (A ++ B) x.k n ↔ (x.k ≠ on ∧ (x.k, n) ∈ d) ∧ n ≠ on := by
  unfold Half
  constructor
  · rintro ⟨h1, h2⟩
    refine ⟨h1, fun e => ?_⟩
    obtain ⟨y, hy, e2⟩ := List.mem_map.1 (h2 e)
    exact hx y hy e2
  · rintro ⟨h1, h2⟩
    exact ⟨h1, fun e => absurd e h2⟩
/-- what one round leaves of the iterator's own -/
theorem Hs.next (h0 : Hg w F g b d) (hr : w.heap.size ≤ r) (h : Hs w wr F g b r N d on T M) (hg2 : wr.grownBy w2 (some r)) : Wm w2 (Ins F g b) M (Half d on T) ∧ Turn F w w2 ∧ w2.cell? ⟨g, 0, none⟩ = some (.map (some b)) := by
  have s1 := h.turn.size
  have hne : ∀ p, F p → p < wr.heap.size ∧ p ≠ r := fun p hp => by have := h0.lt p hp; exact ⟨by omega, by omega⟩
  exact ⟨h.wm.keep (fun p hp => hg2.block p (hne p hp.1).1 (fun e => (hne p hp.1).2 (by cases e; rfl))) (fun _ q => q), h.turn.grownD hg2 (Or.inr hr), (World.cell?_of_block (a := ⟨g, 0, none⟩) (hg2.block g (hne g h0.fg).1 (fun e => (hne g h0.fg).2 (by cases e; rfl)))).trans h.cell⟩
theorem Hs.three (h0 : Hg w F g b d) (hr : w.heap.size ≤ r) (h : Hs w wr F g b r N d on T M) (hg2 : wr.grownBy w2 (some r)) (h2 : Rni w2 b r N M (A ++ B)) (hR : Ins F g b q) (hg3 : w2.grownBy w3 (some q)) : Rni w3 b r N M (A ++ B) ∧ Turn F w w3 ∧ w3.cell? ⟨g, 0, none⟩ = some (.map (some b)) := by
  obtain ⟨_, n2, n3⟩ := h.next h0 hr hg2
  have s2 := n2.size
  have hl := h0.lt _ hR.1
  have hgl := h0.lt _ h0.fg
  have hbl := h0.lt _ h0.fb
  have hrl := h2.lt.2
  exact ⟨h2.keep (hg3.block b (by omega) (fun e => hR.2.2 (by cases e; rfl))) (hg3.block r hrl (fun e => by cases e; omega)), n2.grownD hg3 (Or.inl hR.1), (World.cell?_of_block (a := ⟨g, 0, none⟩) (hg3.block g (by omega) (fun e => hR.2.1 (by cases e; rfl)))).trans n3⟩
/-- it waits for others -/
theorem Hs.stays (h0 : Hg w F g b d) (hr : w.heap.size ≤ r) (h : Hs w wr F g b r N d on (A ++ x :: B) M) (h2 : Rni w2 b r N M (A ++ B)) (hg2 : wr.grownBy w2 (some r)) (hq : M x.k = some (.map (some q))) (hR : Ins F g b q) (hi : ∀ n, (mi n).isSome = true ↔ x.k ≠ on ∧ (x.k, n) ∈ d) (hx : ∀ y ∈ A ++ B, y.k ≠ x.k)
    {Nq : Nat} (h3 : Mi w3 q Nq (fun k => if k = on then none else mi k)) (hg3 : w2.grownBy w3 (some q)) {n0 : Int} (hn : n0 ≠ on) (hn2 : (mi n0).isSome = true) : Hs w w3 F g b r N d on (A ++ B) M := by
  obtain ⟨hw2, _, _⟩ := h.next h0 hr hg2
  obtain ⟨r3, t3, c3⟩ := h.three h0 hr hg2 h2 hR hg3
  have s2 : w.heap.size ≤ w2.heap.size := Nat.le_trans h.turn.size hg2.size
  have hsome : ((fun k => if k = on then none else mi k) n0).isSome = true := by dsimp only; rw [if_neg hn]; exact hn2
  have hw3 := hw2.inner hq (fun p hp => by have := h0.lt p hp.1; omega) hg3 h3 hsome
  refine ⟨r3, hw3.of (fun k n => ?_), t3, c3⟩
  by_cases e : k = x.k
  · subst e
    rw [if_pos rfl, half_it hx]
    by_cases e2 : n = on
    · subst e2; simp
    · rw [if_neg e2, hi]; simp [e2]
  · rw [if_neg e, half_other e]
/-- it waits for nobody else, and goes -/
theorem Hs.goes (h0 : Hg w F g b d) (hr : w.heap.size ≤ r) (h : Hs w wr F g b r N d on (A ++ x :: B) M) (h2 : Rni w2 b r N M (A ++ B)) (hg2 : wr.grownBy w2 (some r)) (hq : M x.k = some (.map (some q))) (hR : Ins F g b q) (hx : ∀ y ∈ A ++ B, y.k ≠ x.k)
    (hg3 : w2.grownBy w3 (some q)) (h4 : Rni w4 b r N (fun k' => if k' = x.k then none else M k') (A ++ B)) (hg4 : w3.grownBy w4 (some b)) (hno : ∀ n, n ≠ on → ¬ (x.k ≠ on ∧ (x.k, n) ∈ d)) : Hs w w4 F g b r N d on (A ++ B) (fun k' => if k' = x.k then none else M k') := by
  obtain ⟨hw2, _, _⟩ := h.next h0 hr hg2
  obtain ⟨_, t3, c3⟩ := h.three h0 hr hg2 h2 hR hg3
  have s2 : w.heap.size ≤ w2.heap.size := Nat.le_trans h.turn.size hg2.size
  have s3 := t3.size
  have hw3 := hw2.lose hq hg3 (fun p hp => by have := h0.lt p hp.1; omega)
  have hw4 := hw3.keep (w' := w4) (fun p hp => hg4.block p (by have := h0.lt p hp.1; omega) (fun e => hp.2.2 (by cases e; rfl))) (fun _ q => q)
  refine ⟨h4, hw4.of (fun k n => ?_), t3.grownD hg4 (Or.inl h0.fb), (World.cell?_of_block (a := ⟨g, 0, none⟩) (hg4.block g (by have := h0.lt _ h0.fg; omega) (fun e => h0.ne (by cases e; rfl)))).trans c3⟩
  by_cases e : k = x.k
  · subst e
    rw [half_it hx]
    constructor
    · exact fun q => absurd rfl q.1
    · exact fun q => absurd q.1 (hno n q.2)
  · rw [half_other e]
    exact ⟨fun q => q.2, fun q => ⟨e, q⟩⟩
theorem Hs.fin (h0 : Hg w F g b d) (h : Hs w wr F g b r N d on [] M) : Hg wr (More F w wr) g b (Dp.without d [on]) ∧ Turn F w wr := by
  refine ⟨Hg.of (h0.ok.without [on]) (fun p hp => h0.rng p (Dp.without_mem.1 hp).1) (more_ltD h0.lt h.turn.size) h0.ne (Or.inl h0.fg) (Or.inl h0.fb) h.cell h.rng.map ?_, h.turn⟩
  refine (h.wm.wider (fun p hp => ⟨Or.inl hp.1, hp.2⟩)).of (fun k n => ?_)
  rw [Dp.without_mem]
  unfold Half
  simp
  constructor
  · rintro ⟨⟨h1, h2⟩, h3⟩; exact ⟨h2, h1, h3⟩
  · rintro ⟨h1, h2, h3⟩; exact ⟨⟨h2, h1⟩, h3⟩
end

set_option maxRecDepth 100000 in
set_option maxHeartbeats 2000000 in
theorem settle12 {w : World} {F : Nat → Prop} {v : Value} {d : List Dp.Wt} (h : Hd w F v d) (on : Int) :
    Calls Try.prog 20 #[v, .int .i64 on] w fun e w' => e = .returned (.tuple #[]) ∧ Hd w' (More F w w') v (Dp.without d [on]) ∧ Turn F w w' := by
  obtain ⟨g, b, rfl, h⟩ := h
  have HH := Lib.hid h
  have hcell := h.cell
  obtain ⟨M, hM, hw⟩ := h.map
  have HM := Lib.hid hM
  have HW := Lib.hid hw
  obtain ⟨N, hN⟩ : ∃ N, N = (Dp.all d).length := ⟨_, rfl⟩
  rw [← hN] at HM
  clear hN h hM hw
  have HC1 : Hid (∀ w1, w.grownBy w1 (some b) → w1.cell? ⟨g, 0, none⟩ = some (.map (some b))) := Lib.hid (fun w1 hg => (World.cell?_of_block (a := ⟨g, 0, none⟩) (hg.block g (HH.out.lt _ HH.out.fg) (fun e => HH.out.ne (by cases e; rfl)))).trans HH.out.cell)
  go_enter Try.func20, Try.ntmps20
  go_wp2_with (first
    | (at_delete; refine wpList_del_i rfl _ _ 44 58 rfl Try.underlying44 rfl HM.out on rfl ?_; intro w1 h1 hg1; have H1 := Lib.hid h1; have HG1 := Lib.hid hg1; have hcell1 := HC1.out w1 hg1; clear h1 hg1 HM HC1 hcell)
    | (at_range; refine wpList_range_i rfl _ 44 58 rfl Try.underlying44 rfl H1.out ?_; intro w2 T hrg _ _ ha hb2; have HS0 := Lib.hid (Hs.start HH.out HW.out HG1.out hb2 hrg ha); have HR0 : Hid (w.heap.size ≤ w1.heap.size) := Lib.hid HG1.out.size; clear hrg ha hb2 hcell1)
    | go_in)
  obtain ⟨r, hr⟩ : ∃ r, r = w1.heap.size := ⟨_, rfl⟩
  rw [← hr] at HS0 HR0 ⊢
  clear hr H1 HG1 HW
  go_frame
  go_loopw [4, 5] (fun _ _ wr => ∃ (T : List Eni) (M : Int → Option Value), Hid (Hs w wr F g b r N d on T M)) (fun _ _ wr => wr.rangeLeft b r)
  case atStart => exact ⟨T, _, HS0⟩
  case round =>
    obtain ⟨T, M, HS⟩ := hrel
    have hrg := HS.out.rng
    have hbr : b ≠ r := by have := HH.out.lt _ HH.out.fb; have := HR0.out; omega
    have HBR := Lib.hid hbr
    have HLE := Lib.hid hrg.left_eq
    go_wp2_with (first
      | (at_next; refine wpList_next_i rfl _ rfl rfl hrg hbr ?_ ?_)
      | go_in)
    · intro hT
      have HF := Lib.hid (by have := HS.out; rw [hT] at this; exact this.fin HH.out)
      clear hT hrg hbr
      go_wp2
      go_end0
      exact ⟨rfl, ⟨g, b, rfl, HF.out.1⟩, HF.out.2⟩
    · intro A x B w2 hT hrg2 hg2 hen
      subst hT
      obtain ⟨q, mi, Nq, exv, hq, hR, hmi, hi, hx⟩ := HS.out.at_
      have HQ := Lib.hid hq
      have HR := Lib.hid hR
      have HI := Lib.hid hi
      have HX := Lib.hid hx
      have HM2 : Hid (Mi w2 q Nq mi) := Lib.hid (hmi.keep (hg2.block q (by have := HS.out.turn.size; have := HH.out.lt _ hR.1; omega) (fun e => by cases e; have := HR0.out; have := HH.out.lt _ hR.1; omega)))
      have HG2 := Lib.hid hg2
      have HRG2 := Lib.hid hrg2
      rw [exv] at hen
      have HM3 : Hid ((A ++ B).length < (A ++ x :: B).length) := Lib.hid (by simp)
      have HT3 : Hid (∀ w3, w2.grownBy w3 (some q) → Rni w3 b r N M (A ++ B) ∧ Turn F w w3 ∧ w3.cell? ⟨g, 0, none⟩ = some (.map (some b))) := Lib.hid (fun w3 hg3 => HS.out.three HH.out HR0.out HG2.out HRG2.out HR.out hg3)
      clear hq hR hi hx hmi hg2 hrg2 hrg hbr
      by_cases hne : ∃ n, n ≠ on ∧ (mi n).isSome = true
      · obtain ⟨n0, hn1, hn2⟩ := hne
        have HN1 := Lib.hid hn1
        have HN2 := Lib.hid hn2
        have HZ : Hid (∀ z : Nat, (z = 0 ↔ ∀ k, (fun k => if k = on then none else mi k) k = none) → ((z : Int) == 0) = false) := Lib.hid (fun z hz0 => by
          have : z ≠ 0 := fun e => by
            have h1 := hz0.1 e n0
            try dsimp only at h1
            rw [if_neg hn1] at h1
            rw [h1] at hn2
            cases hn2
          simpa using this)
        clear hn1 hn2
        go_wp2_with (first
          | (at_delete; refine wpList_del_i rfl _ _ 58 60 rfl Try.underlying58 rfl HM2.out on rfl ?_; intro w3 h3 hg3; have H3 := Lib.hid h3; have HG3 := Lib.hid hg3; clear h3 hg3 HM2 hen)
          | (at_len; refine wpList_len_i rfl _ 58 60 rfl Try.underlying58 rfl H3.out ?_; intro z hz0; have hz1 := HZ.out z hz0; clear hz0)
          | go_in)
        have HS3 := Lib.hid (HS.out.stays HH.out HR0.out HRG2.out HG2.out HQ.out HR.out HI.out HX.out H3.out HG3.out HN1.out HN2.out)
        go_roundw
        case rel => exact ⟨A ++ B, M, HS3⟩
        case measure => rw [HS3.out.rng.left_eq, HLE.out]; exact HM3.out
      · have HNO : Hid (∀ n, n ≠ on → ¬ (x.k ≠ on ∧ (x.k, n) ∈ d)) := Lib.hid (fun n hn hd => hne ⟨n, hn, (HI.out n).2 hd⟩)
        have HN : Hid (∀ k, (fun k => if k = on then none else mi k) k = none) := Lib.hid (fun k => by
          dsimp only
          by_cases e : k = on
          · rw [if_pos e]
          · rw [if_neg e]
            cases em : mi k with
            | none => rfl
            | some v => exact absurd ⟨k, e, by rw [em]; rfl⟩ hne)
        clear hne
        go_wp2_with (first
          | (at_delete; refine wpList_del_i rfl _ _ 58 60 rfl Try.underlying58 rfl HM2.out on rfl ?_; intro w3 h3 hg3; have H3 := Lib.hid h3; have HG3 := Lib.hid hg3; have hcell3 := (HT3.out w3 hg3).2.2; have HR3 := Lib.hid (HT3.out w3 hg3).1; clear h3 hg3 HM2 hen)
          | (at_len; refine wpList_len_i rfl _ 58 60 rfl Try.underlying58 rfl H3.out ?_; intro z hz0; obtain rfl : z = 0 := hz0.2 HN.out; clear hz0)
          | (at_delete; refine wpList_delr_i rfl _ _ 44 58 rfl Try.underlying44 rfl HR3.out HBR.out x.k HX.out rfl ?_; intro w4 h4 hg4; have H4 := Lib.hid h4; have HG4 := Lib.hid hg4; clear h4 hg4)
          | go_in)
        have HS4 := Lib.hid (HS.out.goes HH.out HR0.out HRG2.out HG2.out HQ.out HR.out HX.out HG3.out H4.out HG4.out HNO.out)
        go_roundw
        case rel => exact ⟨A ++ B, _, HS4⟩
        case measure => rw [HS4.out.rng.left_eq, HLE.out]; exact HM3.out
end Go.Proofs.Ythbnbifagenpiaa
