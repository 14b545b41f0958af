/-
  Sweep: Keys, the first one that isn't below by halves, and the chains in their turn.
-/
import Derived.Test.YtmlocdfjjgbnjaaSwP4
namespace Go.Proofs.Ytmlocdfjjgbnjaa
open Go.RowKit

theorem ky_nth13 {w : World} {F : Nat → Prop} {v : Value} {X : Cl.Cs} (h : S.Sg w F 3 v X.length (X.flatMap keyC)) (i : Nat) (hi : i < X.length) : ∃ a cap, v = .slice (some a) X.length cap ∧ X.length ≤ cap ∧ F a.block ∧
    w.cell? (a.add (i * 3)) = some (.int .i64 X[i].1.kind) ∧ w.cell? ⟨(a.add (i * 3)).block, (a.add (i * 3)).off + 1, none⟩ = some (.int .i64 X[i].1.a) ∧ w.cell? ⟨(a.add (i * 3)).block, (a.add (i * 3)).off + 2, none⟩ = some (.int .i64 X[i].1.b) := by
  obtain ⟨hl0, A, cap, e, hc, hx⟩ := h
  obtain ⟨a, rfl, hF, hx⟩ := hx (by intro e; rw [e] at hi; simp at hi)
  have q (j : Nat) (hj : j < 3) : w.cell? (a.add (i * 3 + j)) = (keyC X[i])[j]? := by
    have := V.flat_at (f := keyC) (m := 3) X (fun _ _ => rfl) i hi j hj
    rw [← this]
    have hl : i * 3 + j < (X.flatMap keyC).length := by rw [hl0]; omega
    rw [hx (i * 3 + j) _ (List.getElem?_eq_getElem hl)]
    exact (List.getElem?_eq_getElem hl).symm
  have e1 : ∀ (p : Addr) (j : Nat), (⟨p.block, p.off + (j + 1), none⟩ : Addr) = p.add (j + 1) := fun p j => by simp [Addr.add]
  refine ⟨a, cap, e, hc, hF, q 0 (by decide), ?_, ?_⟩
  · rw [e1 _ 0, S.add_add]; exact q 1 (by decide)
  · rw [e1 _ 1, S.add_add]; exact q 2 (by decide)


namespace Sw
open Cl
/-- the place from which it goes, found by halves -/
theorem atK_half {X : Cs} {k : Ky} {a : Nat} (ha : a ≤ X.length) (h : ∀ j (hj : j < X.length), j < a → less X[j].1 k = true) (hn : ∀ hj : a < X.length, less X[a].1 k = false) : atK X k = a := by
  by_cases e : a < X.length
  · exact atK_at e h (hn e)
  · obtain rfl : a = X.length := by omega
    exact atK_end (fun j hj => h j hj hj)
theorem half_mono {X : Cs} {k : Ky} {i j : Nat} (ho : Ord X) (hi : i < X.length) (hj : j < X.length) (hij : i ≤ j) (h : less X[i].1 k = false) : less X[j].1 k = false := by
  by_cases e : i = j
  · subst e; exact h
  · have h1 := List.pairwise_iff_getElem.1 ho.up i j hi hj (by omega)
    cases h2 : less X[j].1 k with
    | false => rfl
    | true => rw [less_trans h1 h2] at h; cases h
end Sw

section
variable {H : World → (Nat → Prop) → Value → Cl.Cs → Prop}
/-- an object's turns since w, out of those up to w1 and those since -/
theorem Sq.join {w w1 wr : World} {F F' : Nat → Prop} {v : Value} {Z : Cl.Cs} {R : List Row11} (ht : Turn F w w1) (hs : ∀ b, F' b → More F w w1 b) (h : Sq H w1 wr F' v Z R) : Sq H w wr F v Z R := by
  obtain ⟨F'', h1, h2, h3, h4⟩ := h
  refine ⟨F'', h1, fun b q => ?_, h3, ht.trans h4 hs⟩
  rcases h2 b q with q | q
  · rcases hs b q with q | q
    · exact Or.inl q
    · exact Or.inr ⟨q.1, Nat.lt_of_lt_of_le q.2 h4.size⟩
  · exact Or.inr ⟨Nat.le_trans ht.size q.1, q.2⟩

set_option maxRecDepth 100000 in
set_option maxHeartbeats 4000000 in
/-- the closure: isn't the i-th key below? -/
theorem from13 (K : CellsOk H) {w : World} {pk pf i n cap : Nat} {ax : Addr} {x tk : Cl.Ky} (hi : i < n)
    (hk0 : w.cell? ⟨pk, 0, none⟩ = some (.slice (some ax) n cap))
    (y0 : w.cell? (ax.add (i * 3)) = some (.int .i64 x.kind)) (y1 : w.cell? ⟨(ax.add (i * 3)).block, (ax.add (i * 3)).off + 1, none⟩ = some (.int .i64 x.a)) (y2 : w.cell? ⟨(ax.add (i * 3)).block, (ax.add (i * 3)).off + 2, none⟩ = some (.int .i64 x.b))
    (x0 : w.cell? ⟨pf, 0, none⟩ = some (.int .i64 tk.kind)) (x1 : w.cell? ⟨pf, 1, none⟩ = some (.int .i64 tk.a)) (x2 : w.cell? ⟨pf, 2, none⟩ = some (.int .i64 tk.b)) :
    Calls Try.prog 45 #[.int .i64 (i : Int), .pointer (some ⟨pk, 0, none⟩), .pointer (some ⟨pf, 0, none⟩)] w fun e w' => e = .returned (.bool (!Cl.less x tk)) ∧ Below w.heap.size w w' := by
  have HL : Hid (∀ W, Calls Try.prog 46 #[.agg #[.int .i64 x.kind, .int .i64 x.a, .int .i64 x.b], .agg #[.int .i64 tk.kind, .int .i64 tk.a, .int .i64 tk.b]] W fun e w' => e = .returned (.bool (Cl.less x tk)) ∧ Below W.heap.size W w') := Lib.hid (fun W => K.less x tk W)
  obtain ⟨w0, hw0⟩ : ∃ w0, w0 = w := ⟨_, rfl⟩
  have HBd : Hid (Below w0.heap.size w0 w.drew) := Lib.hid (by rw [hw0]; exact Below.drew (Below.refl _ _))
  have HA : Hid (∀ W, Below w0.heap.size w0 W → W.cell? ⟨pk, 0, none⟩ = some (.slice (some ax) n cap) ∧ W.cell? (ax.add (i * 3)) = some (.int .i64 x.kind) ∧ W.cell? ⟨(ax.add (i * 3)).block, (ax.add (i * 3)).off + 1, none⟩ = some (.int .i64 x.a) ∧ W.cell? ⟨(ax.add (i * 3)).block, (ax.add (i * 3)).off + 2, none⟩ = some (.int .i64 x.b) ∧ W.cell? ⟨pf, 0, none⟩ = some (.int .i64 tk.kind) ∧ W.cell? ⟨pf, 1, none⟩ = some (.int .i64 tk.a) ∧ W.cell? ⟨pf, 2, none⟩ = some (.int .i64 tk.b)) := Lib.hid (by
    rw [hw0]
    intro W hb
    have ec : ∀ {p : Addr} {u : Value}, w.cell? p = some u → W.cell? p = some u := fun h => (hb.cell (World.block_lt_of_cell? _ _ h)).trans h
    exact ⟨ec hk0, ec y0, ec y1, ec y2, ec x0, ec x1, ec x2⟩)
  have hS := HA.out _ HBd.out
  have HW0 := Lib.hid hw0
  clear hw0
  have hi1 : (i : Int) < (n : Int) := by omega
  have hi2 : (0 : Int) ≤ (i : Int) := by omega
  generalize Cl.less x tk = bl at *
  go_enter Try.func45, Try.ntmps45
  go_wp2_with fail
  go_region_held3 (fun W => W.cell? ⟨pk, 0, none⟩ = some (.slice (some ax) n cap) ∧ W.cell? (ax.add (i * 3)) = some (.int .i64 x.kind) ∧ W.cell? ⟨(ax.add (i * 3)).block, (ax.add (i * 3)).off + 1, none⟩ = some (.int .i64 x.a) ∧ W.cell? ⟨(ax.add (i * 3)).block, (ax.add (i * 3)).off + 2, none⟩ = some (.int .i64 x.b) ∧ W.cell? ⟨pf, 0, none⟩ = some (.int .i64 tk.kind) ∧ W.cell? ⟨pf, 1, none⟩ = some (.int .i64 tk.a) ∧ W.cell? ⟨pf, 2, none⟩ = some (.int .i64 tk.b))
    (first | with_reducible assumption | go_keep)
    (first
      | (go_at_call 46
         (with_reducible refine (HL.out _).mono ?_)
         rintro e w7 ⟨rfl, hb7⟩
         have HB7 := Lib.hid (below_two HBd.out hb7)
         have hA6 := HA.out _ HB7.out))
  clear hA6
  go_wp2_with fail
  go_ret
  rw [← HW0.out]
  exact ⟨rfl, HB7.out⟩

/-- the first key that isn't below, by halves -/
theorem first13 (K : CellsOk H) {w : World} {G : Nat → Prop} {pk pf cap : Nat} {ax : Addr} {X : Cl.Cs} {tk : Cl.Ky} (ho : Cl.Ord X) (hn : X.length ≤ 1000)
    (hk0 : w.cell? ⟨pk, 0, none⟩ = some (.slice (some ax) X.length cap)) (hr : S.Sg w G 3 (.slice (some ax) X.length cap) X.length (X.flatMap keyC)) (hG : ∀ b, G b → b < w.heap.size)
    (x0 : w.cell? ⟨pf, 0, none⟩ = some (.int .i64 tk.kind)) (x1 : w.cell? ⟨pf, 1, none⟩ = some (.int .i64 tk.a)) (x2 : w.cell? ⟨pf, 2, none⟩ = some (.int .i64 tk.b)) :
    Calls Try.prog 34 #[.int .i64 (X.length : Int), .func (.func 45) #[] #[.pointer (some ⟨pk, 0, none⟩), .pointer (some ⟨pf, 0, none⟩)]] w fun e w' => e = .returned (.int .i64 (Sw.atK X tk : Int)) ∧ Below w.heap.size w w' := by
  have hs := search13 (w := w) (g := 45) (cb := #[.pointer (some ⟨pk, 0, none⟩), .pointer (some ⟨pf, 0, none⟩)]) (n := X.length) (p := fun i => !Cl.less (X.getD i (tk, [])).1 tk) (enters_of Try.func45 (by kernel_rfl) rfl) (by omega) (fun W i hi hb => ?_) (fun a b hab hbl ha => ?_)
  · refine hs.mono ?_
    rintro e w' ⟨k, rfl, hk, hlo, hhi, hb⟩
    have e : Sw.atK X tk = k := Sw.atK_half hk (fun j hj hjk => by
      have := hlo j hjk
      rw [List.getD_eq_getElem?_getD, List.getElem?_eq_getElem hj] at this
      simpa using this) (fun hj => by
      have := hhi k (Nat.le_refl _) hj
      rw [List.getD_eq_getElem?_getD, List.getElem?_eq_getElem hj] at this
      simpa using this)
    rw [e]
    exact ⟨rfl, hb⟩
  · obtain ⟨a2, _, e2, _, _, y0, y1, y2⟩ := ky_nth13 (S.Sg.below hr hb hG) i hi
    cases e2
    have ec : ∀ {p : Addr} {u : Value}, w.cell? p = some u → W.cell? p = some u := fun h => (hb.cell (World.block_lt_of_cell? _ _ h)).trans h
    have := from13 K hi (ec hk0) y0 y1 y2 (ec x0) (ec x1) (ec x2)
    rw [show (X.getD i (tk, [])).1 = X[i].1 from by rw [List.getD_eq_getElem?_getD, List.getElem?_eq_getElem hi]; rfl]
    exact this
  · have hal : a < X.length := by omega
    simp only [Bool.not_eq_true', List.getD_eq_getElem?_getD, List.getElem?_eq_getElem hal, List.getElem?_eq_getElem hbl, Option.getD_some] at ha ⊢
    exact Sw.half_mono ho hal hbl hab ha

set_option maxRecDepth 100000 in
set_option maxHeartbeats 8000000 in
theorem sweep13 (K : CellsOk H) (KP : PruneOk) (hwd : Wid H) {w : World} {F : Nat → Prop} {v va : Value} {X : Cl.Cs} {act : List Int} (h : H w F v X) (hf : Cl.Fit 100 X) (hrx : ∀ p ∈ X, RngC p.2) (ha : SlN w (Out F w) va act) (hal : act.length ≤ 200) (hra : RngN act) (tk : Cl.Ky) (batch : Int) (b0 : -9223372036854775808 ≤ batch) (b1 : batch ≤ 9223372036854775807) :
    Calls Try.prog 26 #[v, va, keyA tk, .int .i64 batch] w fun e w' => e = .returned (.tuple #[keyA (Sw.nextK X tk (Sw.many X batch)), .int .i64 (Sw.goneI act ((Sw.rot X tk).take (Sw.many X batch)))]) ∧ H w' (More F w w') v (Sw.sweepS X act (Sw.takenK X tk (Sw.many X batch))) ∧ Turn F w w' := by
  have hFlt := K.lt h
  obtain ⟨B, capb, rfl, hcapb⟩ : ∃ B capb, va = .slice B act.length capb ∧ act.length ≤ capb := num_form ha
  obtain ⟨pa, rfl⟩ := K.ptr h
  have HK := Lib.hid K
  have HKP : Hid PruneOk := Lib.hid KP
  have HO := Lib.hid (K.ord h)
  have HRX := Lib.hid hrx
  have HRA := Lib.hid hra
  have HFt := Lib.hid hf
  have HX4 : Hid (Sw.RngX X) := Lib.hid ⟨fun p hp v hv => (hrx p hp v hv).t1⟩
  obtain ⟨w0, hw0⟩ : ∃ w0, w0 = (w.alloc (.cells #[.int .i64 tk.kind, .int .i64 tk.a, .int .i64 tk.b] 50)).alloc (.cells #[.int .i64 0, .int .i64 0, .int .i64 0] 50) := ⟨_, rfl⟩
  have hbt : Below w.heap.size w w0 := by rw [hw0]; exact ((Below.refl _ _).alloc (Nat.le_refl _) _).alloc (by simp) _
  have HS1 : Hid (Sq H w0 w0 F (.pointer (some pa)) X [nmR (.slice B act.length capb) act]) := Lib.hid (Sq.start (K.below h hbt) (fun r hr => by
    rw [List.mem_singleton] at hr; subst hr
    exact (S.Sg.below ha hbt (fun b g => g.1)).wider (fun b g => ⟨Nat.lt_of_lt_of_le g.1 hbt.size, g.2⟩)))
  have HNF : Hid (¬ F (w.heap.size + 1)) := Lib.hid (fun g => by have := hFlt _ g; omega)
  have hw2 : w0.heap.size = w.heap.size + 2 := by rw [hw0]; simp
  have HEnd : Hid (∀ W Z R u0 u1 u2, Sq H w0 W F (.pointer (some pa)) Z R → H (((W.setCell ⟨w.heap.size + 1, 0, none⟩ u0).setCell ⟨w.heap.size + 1, 1, none⟩ u1).setCell ⟨w.heap.size + 1, 2, none⟩ u2) (More F w (((W.setCell ⟨w.heap.size + 1, 0, none⟩ u0).setCell ⟨w.heap.size + 1, 1, none⟩ u1).setCell ⟨w.heap.size + 1, 2, none⟩ u2)) (.pointer (some pa)) Z ∧ Turn F w (((W.setCell ⟨w.heap.size + 1, 0, none⟩ u0).setCell ⟨w.heap.size + 1, 1, none⟩ u1).setCell ⟨w.heap.size + 1, 2, none⟩ u2)) := Lib.hid (fun W Z R u0 u1 u2 hq => hq.done K hwd hFlt hbt (by omega) (by omega) u0 u1 u2)
  have HKt : Hid (Bk w0 w.heap.size [.int .i64 tk.kind, .int .i64 tk.a, .int .i64 tk.b]) := Lib.hid (by rw [hw0]; exact (Bk.new w [.int .i64 tk.kind, .int .i64 tk.a, .int .i64 tk.b] 50 rfl).alloc _)
  have HRt : Hid (Bk w0 (w.heap.size + 1) [.int .i64 0, .int .i64 0, .int .i64 0]) := Lib.hid (by rw [hw0]; exact Bk.new _ [.int .i64 0, .int .i64 0, .int .i64 0] 50 (by simp))
  have y0 := HKt.out.cell 0 _ rfl
  have y1 := HKt.out.cell 1 _ rfl
  have y2 := HKt.out.cell 2 _ rfl
  have HK0 := Lib.hid (HS1.out.keys HK.out (HFt.out.more (by omega)))
  clear hbt h hf hrx ha hra hFlt hwd KP hw2
  unfold keyA
  go_enter Try.func26, Try.ntmps26
  subst hw0
  obtain ⟨m, hm⟩ : ∃ m, m = Sw.many X batch := ⟨_, rfl⟩
  have hn100 : X.length ≤ 100 := HFt.out.len
  by_cases hm0 : m = 0
  · obtain ⟨e1, e2, e3⟩ := Sw.many_zero (X := X) (k := tk) (by rw [← hm, hm0]) act
    rw [e1, e2, e3]
    have hmin : batch < 1 ∨ X.length = 0 := by
      rw [hm] at hm0; unfold Sw.many at hm0
      omega
    clear e1 e2 e3 hm0 hm
    go_wp2_with (go_at_call 27; refine HK0.out.mono ?_; rintro e w5 ⟨v1, rfl, hs5, b5⟩
                 obtain ⟨_, ⟨_, A6, c6, e6, _⟩, _⟩ := hs5.row (List.mem_cons_self ..)
                 obtain rfl : v1 = .slice A6 X.length c6 := e6
                 have HS5 := Lib.hid hs5
                 have HK5 := Lib.hid (HKt.out.step b5)
                 have HR5 := Lib.hid (HRt.out.step b5)
                 have hB6 : Below w5.heap.size w5 (w5.alloc (.cells #[.slice A6 X.length c6] 60)) := (Below.refl _ _).alloc (Nat.le_refl _) _
                 have HB6 := Lib.hid hB6
                 have HP6 := Lib.hid (Bk.new w5 [.slice A6 X.length c6] 60 rfl)
                 have p6 := HP6.out.cell 0 _ rfl
                 have HK6 := Lib.hid (HK5.out.step hB6)
                 have z0 := HK6.out.cell 0 _ rfl
                 have z1 := HK6.out.cell 1 _ rfl
                 have z2 := HK6.out.cell 2 _ rfl
                 have HR6 := Lib.hid (HR5.out.step hB6)
                 have r0 := HR6.out.cell 0 _ rfl
                 have r1 := HR6.out.cell 1 _ rfl
                 have r2 := HR6.out.cell 2 _ rfl
                 have f0 := HR6.out.fz 0 (by simp)
                 have f1 := HR6.out.fz 1 (by simp)
                 have f2 := HR6.out.fz 2 (by simp)
                 clear hs5 b5 HK0 HK5 HR5 hB6)
    all_goals
      have HR9 := Lib.hid (((HR6.out.set 0 (by simp) (.int .i64 tk.kind)).set 1 (by simp) (.int .i64 tk.a)).set 2 (by simp) (.int .i64 tk.b))
      refine bodyPost_ret (results_bk_1 rfl _ rfl HR9.out Try.underlying50 rfl (by kernel_rfl)) rfl ?_
      exact ⟨rfl, HEnd.out _ _ _ _ _ _ (HS5.out.low HK.out HB6.out)⟩
  · have hm1 : 0 < m := by omega
    have HMn : Hid (m = min batch.toNat X.length) := Lib.hid hm
    have hm2 : m ≤ X.length := by rw [hm]; unfold Sw.many; omega
    have hxn : 0 < X.length := by omega
    have hb2 : 1 ≤ batch := by
      rw [hm] at hm1; unfold Sw.many at hm1
      omega
    rw [← hm]
    clear hm hm0
    go_wp2_with (first
      | (go_at_call 27; refine HK0.out.mono ?_; rintro e w5 ⟨v1, rfl, hs5, b5⟩
         obtain ⟨F5, g1, g2, g3, g4⟩ := hs5
         have hky := g3 _ (List.mem_cons_self ..)
         obtain ⟨ax, c6, e6, _⟩ := ky_nth13 (X := X) hky 0 hxn
         obtain rfl : v1 = .slice (some ax) X.length c6 := e6
         have hB6 : Below w5.heap.size w5 (w5.alloc (.cells #[.slice (some ax) X.length c6] 60)) := (Below.refl _ _).alloc (Nat.le_refl _) _
         have hky6 := S.Sg.below hky hB6 (fun b q => q.1)
         have hS6 : Sq H (w5.alloc (.cells #[.slice (some ax) X.length c6] 60)) (w5.alloc (.cells #[.slice (some ax) X.length c6] 60)) F5 (.pointer (some pa)) X [kyR (.slice (some ax) X.length c6) X, nmR (.slice B act.length capb) act] := Sq.start (HK.out.below g1 hB6) (fun r hr => (S.Sg.below (g3 r hr) hB6 (fun b q => q.1)).wider (fun b q => ⟨Nat.lt_of_lt_of_le q.1 hB6.size, q.2⟩))
         have HS6 := Lib.hid hS6
         have HN5 : Hid (¬ F5 w5.heap.size) := Lib.hid (fun q => by have := HK.out.lt g1 _ q; omega)
         have HG4 := Lib.hid (Turn.trans' g4 hB6)
         have HG2 := Lib.hid g2
         have HKt6 := Lib.hid ((HKt.out.step b5).step hB6)
         have HRt6 := Lib.hid ((HRt.out.step b5).step hB6)
         have HPk6 := Lib.hid (Bk.new w5 [.slice (some ax) X.length c6] 60 rfl)
         have p0 := HPk6.out.cell 0 _ rfl
         have HFi := Lib.hid (first13 HK.out HO.out (by omega) p0 hky6 (fun b q => Nat.lt_of_lt_of_le q.1 hB6.size) (HKt6.out.cell 0 _ rfl) (HKt6.out.cell 1 _ rfl) (HKt6.out.cell 2 _ rfl))
         clear b5 HK0 g1 g2 g3 g4 hky hky6 hS6 hB6)
      | (go_at_call 34; refine HFi.out.mono ?_; rintro e w7 ⟨rfl, b7⟩
         have HS7 := Lib.hid (HS6.out.low HK.out b7)
         clear b7 HFi))
    all_goals
      have hmi := HMn.out
      first
        | rw [show batch = (m : Int) by omega]
        | rw [show (X.length : Int) = (m : Int) by omega]
      clear hmi
      have HP7 : Hid (∀ Z wr R, Sq H (w5.alloc (.cells #[.slice (some ax) X.length c6] 60)) wr F5 (.pointer (some pa)) Z R → Bk wr w5.heap.size [.slice (some ax) X.length c6]) := Lib.hid (fun Z wr R hq => HPk6.out.turn hq.turn HN5.out)
      have HR7 : Hid (∀ Z wr R, Sq H (w5.alloc (.cells #[.slice (some ax) X.length c6] 60)) wr F5 (.pointer (some pa)) Z R → Bk wr (w.heap.size + 1) [.int .i64 0, .int .i64 0, .int .i64 0]) := Lib.hid (fun Z wr R hq => HRt6.out.turn hq.turn (fun q => by
        rcases HG2.out _ q with q | q
        · exact HNF.out q
        · have := HRt.out.lt; have := q.1; omega))
      have HE7 : Hid (∀ Z wr R u0 u1 u2, Sq H (w5.alloc (.cells #[.slice (some ax) X.length c6] 60)) wr F5 (.pointer (some pa)) Z R → H (((wr.setCell ⟨w.heap.size + 1, 0, none⟩ u0).setCell ⟨w.heap.size + 1, 1, none⟩ u1).setCell ⟨w.heap.size + 1, 2, none⟩ u2) (More F w (((wr.setCell ⟨w.heap.size + 1, 0, none⟩ u0).setCell ⟨w.heap.size + 1, 1, none⟩ u1).setCell ⟨w.heap.size + 1, 2, none⟩ u2)) (.pointer (some pa)) Z ∧ Turn F w (((wr.setCell ⟨w.heap.size + 1, 0, none⟩ u0).setCell ⟨w.heap.size + 1, 1, none⟩ u1).setCell ⟨w.heap.size + 1, 2, none⟩ u2)) := Lib.hid (fun Z wr R u0 u1 u2 hq => HEnd.out _ _ _ _ _ _ (Sq.join HG4.out (fun b q => (HG2.out b q).elim Or.inl (fun q => Or.inr ⟨q.1, Nat.lt_of_lt_of_le q.2 (by simp)⟩)) hq))
      clear HEnd HKt HRt y0 y1 y2 HS1 HKt6 HRt6 HPk6 p0 HG4 HG2 HN5 HNF
      generalize w5.alloc (.cells #[.slice (some ax) X.length c6] 60) = w6 at *
      generalize w5.heap.size = pk at *
      obtain ⟨a, ha⟩ : ∃ a, a = Sw.atK X tk := ⟨_, rfl⟩
      have haL : a ≤ 100 := by have := Sw.atK_le (X := X) (k := tk); omega
      rw [← ha]
      have HAe := Lib.hid ha
      clear ha HMn HS6
      go_loopw [13, 32] (fun gv iv wr => ∃ (i : Nat) (g : Int), i ≤ m ∧ 0 ≤ g ∧ g ≤ 120 * (i : Int) ∧ gv = .int .i64 g ∧ iv = .int .i64 (i : Int) ∧ Hid (g = Sw.goneI act ((Sw.rot X tk).take i)) ∧ Hid (Sq H w6 wr F5 (.pointer (some pa)) (Sw.sweepS X act (Sw.takenK X tk i)) [kyR (.slice (some ax) X.length c6) X, nmR (.slice B act.length capb) act])) (fun _ iv _ => m - (intOf iv).toNat)
      case atStart => exact ⟨0, 0, Nat.zero_le _, Int.le_refl _, by omega, rfl, rfl, Lib.hid (by simp [Sw.goneI]), Lib.hid (by rw [Sw.taken_none, Sw.sweep_nil]; exact HS7.out)⟩
      case round =>
        clear HS7
        obtain ⟨i, g, hi, hg0, hg1, rfl, rfl, HG, HS⟩ := hrel
        have HKw := Lib.hid (HS.out.row (List.mem_cons_self ..))
        have hpk := (HP7.out _ _ _ HS.out).cell 0 _ rfl
        by_cases him : i < m
        · have him' : (i : Int) < (m : Int) := by omega
          have hi0 : (0 : Int) ≤ (i : Int) := by omega
          obtain ⟨j, hj⟩ : ∃ j, j = (a + i) % X.length := ⟨_, rfl⟩
          have hjl : j < X.length := by rw [hj]; exact Nat.mod_lt _ hxn
          have hjl' : (j : Int) < (X.length : Int) := by omega
          have hj0 : (0 : Int) ≤ (j : Int) := by omega
          have hj1 : ((a : Int) + (i : Int)) % (X.length : Int) = (j : Int) := by rw [hj, Int.natCast_emod, Int.natCast_add]
          have hj2 : ((a : Int) + (i : Int)).tmod (X.length : Int) = (j : Int) := by rw [Int.tmod_eq_emod_of_nonneg (by omega)]; exact hj1
          have hwv : IntKind.i64.wrap ((a : Int) + (i : Int)) = (a : Int) + (i : Int) := IntWalk.i64_in _ (by omega)
          have hje : (Sw.atK X tk + i) % X.length = j := by rw [← HAe.out, ← hj]
          have hrl : i < (Sw.rot X tk).length := by rw [Sw.rot_length]; omega
          have hrg : (Sw.rot X tk)[i] = X[j] := by
            have := Sw.rot_get (k := tk) (X := X) (i := i) (by omega) hrl (by rw [hje]; exact hjl)
            simp only [hje] at this
            exact this
          have hst := Sw.sweep_step (act := act) HO.out hrl
          have htc := Sw.turn_chain (act := act) HO.out hrl
          have hgs := Sw.gone_step (act := act) hrl
          rw [hrg] at hst htc hgs
          obtain ⟨Gk, hGk, _⟩ := HKw.out
          obtain ⟨a2, _, e2, _, _, k0, k1, k2⟩ := ky_nth13 (X := X) hGk j hjl
          obtain rfl : ax = a2 := Option.some.inj (Value.slice.inj e2).1
          have HZf : Hid (Cl.Fit 200 (Sw.sweepS X act (Sw.takenK X tk i))) := Lib.hid (sweep_fit (HFt.out.more (by omega)))
          have hmem := List.getElem_mem hjl
          have HRc : Hid (RngC X[j].2) := Lib.hid (HRX.out _ hmem)
          have HCl : Hid (X[j].2.length ≤ 120) := Lib.hid (HFt.out.ch _ hmem)
          obtain ⟨pl, hpl⟩ : ∃ pl, pl = (Sw.pruneC X[j].2 act).length := ⟨_, rfl⟩
          have hpl2 : pl ≤ X[j].2.length := by rw [hpl]; exact Sw.prune_sub.length_le
          have hcl : X[j].2.length ≤ 120 := HCl.out
          rw [← hpl] at hgs
          have HPL : Hid ((Sw.pruneC X[j].2 act).length = pl) := Lib.hid hpl.symm
          have HGs := Lib.hid hgs
          have HSt := Lib.hid hst.2
          have HTc := Lib.hid htc
          clear hst htc hgs hrg hje hj hGk e2 hmem hpl hrl
          generalize Sw.sweepS X act (Sw.takenK X tk i) = Z at *
          generalize X[j].1 = kk at *
          generalize X[j].2 = cc at *
          have hxne : ¬ X = [] := by rintro rfl; simp at hxn
          have ec : ∀ {p : Addr} {u : Value}, wr.cell? p = some u → (wr.alloc (.cells #[.int .i64 0, .int .i64 0, .int .i64 0] 50)).cell? p = some u := fun h => (((Below.refl wr.heap.size wr).alloc (Nat.le_refl _) _).cell (World.block_lt_of_cell? _ _ h)).trans h
          have hpk' := ec hpk
          have k0' := ec k0
          have k1' := ec k1
          have k2' := ec k2
          clear ec
          go_wp2_with fail
          go_region
          have hb6 : Below wr.heap.size wr (wr.alloc (.cells #[.int .i64 kk.kind, .int .i64 kk.a, .int .i64 kk.b] 50)).drew := Below.drew ((Below.refl _ _).alloc (Nat.le_refl _) _)
          have HS6 := Lib.hid (HS.out.low HK.out hb6)
          have HKk := Lib.hid (Bk.new wr [.int .i64 kk.kind, .int .i64 kk.a, .int .i64 kk.b] 50 rfl).drew
          generalize (wr.alloc (.cells #[.int .i64 kk.kind, .int .i64 kk.a, .int .i64 kk.b] 50)).drew = w8 at *
          have l0 := HKk.out.cell 0 _ rfl
          have l1 := HKk.out.cell 1 _ rfl
          have l2 := HKk.out.cell 2 _ rfl
          have HCh : Hid (Calls Try.prog 29 #[.pointer (some pa), .agg #[.int .i64 kk.kind, .int .i64 kk.a, .int .i64 kk.b]] w8 fun e w' => ∃ v', e = .returned v' ∧ Sq H w6 w' F5 (.pointer (some pa)) Z (chR v' cc :: [kyR (.slice (some ax) X.length c6) X, nmR (.slice B act.length capb) act]) ∧ Below w8.heap.size w8 w') := Lib.hid (by
            have := HS6.out.chain HK.out HZf.out kk
            rw [HTc.out] at this
            exact this)
          clear hb6 HS hpk hpk' k0 k1 k2 k0' k1' k2'
          go_wp2_with (first
            | (go_at_call 29; refine HCh.out.mono ?_; rintro e w7 ⟨v7, rfl, h7, b7⟩
               obtain ⟨_, ⟨_, A7, c7, e7, _⟩, _⟩ := h7.row (List.mem_cons_self ..)
               obtain rfl : v7 = .slice A7 cc.length c7 := e7
               have HS7 := Lib.hid h7
               have HK7 := Lib.hid (HKk.out.step b7)
               clear h7 b7 HCh)
            | (go_at_call 16; refine (HS7.out.prune HK.out HKP.out (List.mem_cons_self ..) (by simp) (by have := HCl.out; omega) HRc.out hal HRA.out).mono ?_; rintro e w8 ⟨v8, rfl, h8, b8⟩
               obtain ⟨_, ⟨_, A8, c8, e8, _⟩, _⟩ := h8.row (List.mem_cons_self ..)
               obtain rfl : v8 = .slice A8 (Sw.pruneC cc act).length c8 := e8
               have HS8 := Lib.hid h8
               have HK8 := Lib.hid (HK7.out.step b8)
               rw [HPL.out]
               have m0 := HK8.out.cell 0 _ rfl
               have m1 := HK8.out.cell 1 _ rfl
               have m2 := HK8.out.cell 2 _ rfl
               clear h8 b8 HS7)
            | (go_at_call 43; rw [← HPL.out]; refine (HS8.out.set HK.out (List.mem_cons_self ..) HZf.out (by have := HPL.out; have := HCl.out; omega) kk).mono ?_; rintro e w9 ⟨rfl, h9, b9⟩
               have HS9 := Lib.hid h9
               rw [HPL.out]
               clear h9 b9 HS8))
          go_roundw
          case rel => exact ⟨i + 1, g + ((cc.length : Int) - (pl : Int)), by omega, by omega, by omega, by go_num, by go_num, Lib.hid (by rw [HGs.out, HG.out]), Lib.hid (by rw [← HSt.out]; exact HS9.out.less (fun r hr => List.mem_cons_of_mem _ (List.mem_cons_of_mem _ hr)))⟩
          case measure => simp [intOf]; omega
        · obtain rfl : i = m := by omega
          have hNo : ¬ (i : Int) < (i : Int) := by omega
          obtain ⟨j, hj⟩ : ∃ j, j = (a + i) % X.length := ⟨_, rfl⟩
          have hjl : j < X.length := by rw [hj]; exact Nat.mod_lt _ hxn
          have hjl' : (j : Int) < (X.length : Int) := by omega
          have hj0 : (0 : Int) ≤ (j : Int) := by omega
          have hj1 : ((a : Int) + (i : Int)) % (X.length : Int) = (j : Int) := by rw [hj, Int.natCast_emod, Int.natCast_add]
          have hj2 : ((a : Int) + (i : Int)).tmod (X.length : Int) = (j : Int) := by rw [Int.tmod_eq_emod_of_nonneg (by omega)]; exact hj1
          have hwv : IntKind.i64.wrap ((a : Int) + (i : Int)) = (a : Int) + (i : Int) := IntWalk.i64_in _ (by omega)
          have hje : (Sw.atK X tk + i) % X.length = j := by rw [← HAe.out, ← hj]
          have hkk : X[j].1 = Sw.nextK X tk i := by
            have := Sw.next_get (k := tk) hm1 hm2 (by rw [hje]; exact hjl)
            simp only [hje] at this
            exact this.symm
          obtain ⟨Gk, hGk, _⟩ := HKw.out
          obtain ⟨a2, _, e2, _, _, k0, k1, k2⟩ := ky_nth13 (X := X) hGk j hjl
          obtain rfl : ax = a2 := Option.some.inj (Value.slice.inj e2).1
          have HRm := Lib.hid (HR7.out _ _ _ HS.out)
          have r0 := HRm.out.cell 0 _ rfl
          have r1 := HRm.out.cell 1 _ rfl
          have r2 := HRm.out.cell 2 _ rfl
          have f0 := HRm.out.fz 0 (by simp)
          have f1 := HRm.out.fz 1 (by simp)
          have f2 := HRm.out.fz 2 (by simp)
          have HKK := Lib.hid hkk
          have hxne : ¬ X = [] := by rintro rfl; simp at hxn
          clear hje hj hGk e2 hkk
          generalize X[j].1 = nk at *
          go_wp2_with fail
          go_region
          go_wp2_with fail
          have HR9 := Lib.hid (((HRm.out.set 0 (by simp) (.int .i64 nk.kind)).set 1 (by simp) (.int .i64 nk.a)).set 2 (by simp) (.int .i64 nk.b)).drew
          refine bodyPost_ret (results_bk_1 rfl _ rfl HR9.out Try.underlying50 rfl (by kernel_rfl)) rfl ?_
          rw [← HKK.out, ← HG.out]
          have he := HE7.out _ _ _ (.int .i64 nk.kind) (.int .i64 nk.a) (.int .i64 nk.b) HS.out
          have ht := he.2
          exact ⟨rfl, HK.out.below he.1 (Below.drew (Below.refl _ _)), ⟨ht.os, ht.tape, ht.output, ht.size, ht.block⟩⟩
end
end Go.Proofs.Ytmlocdfjjgbnjaa
