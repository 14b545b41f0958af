/-
  Walks of the document's slots: Load, Save.
-/
import Derived.Test.YtbjbnjpdackloaaSoRef1
namespace Go.Proofs.Ytbjbnjpdackloaa
open Go.RowKit

theorem load_newer (d : D.Dk) (first size : Int) : loadI d first size = Z.newer (oneI d first size 0) (oneI d first size 1) := by
  rw [← load_upd, upd_both (fun x h => by have := oneI_num h; omega) (fun x h => by have := oneI_num h; omega)]

set_option maxRecDepth 100000 in
set_option maxHeartbeats 4000000 in
theorem rload8 (x : Value) (d : D.Dk) (w : World) (F : Nat → Prop) (hF : ∀ b, F b → b < w.heap.size) (h : Rd w F x d) (hfit : d.Fit) (hd : d.secs.length ≤ 1024) (hrow : d.row.length ≤ 1000000) (first size : Int) (hf0 : -9223372036854775808 ≤ first) (hf1 : first ≤ 9223372036854775807) (hm0 : -9223372036854775808 ≤ size) (hm1 : size ≤ 9223372036854775807) :
    Calls Try.prog 15 #[x, .int .i64 first, .int .i64 size] w fun e w' => e = .returned (rTell (loadI d first size)) ∧ Below w.heap.size w w' := by
  obtain ⟨A1, c1, A2, c2, A3, c3, rfl⟩ := h.form
  have HX := Lib.hid h
  have P0 := Bk.new w [.slice A1 d.secs.length c1, .slice A2 d.row.length c2, .slice A3 d.row.length c3] 32 rfl
  have hb0 : Below w.heap.size w (w.alloc (.cells #[.slice A1 d.secs.length c1, .slice A2 d.row.length c2, .slice A3 d.row.length c3] 32)) := (Below.refl _ _).alloc (Nat.le_refl _) _
  have hz0 : (w.alloc (.cells #[.slice A1 d.secs.length c1, .slice A2 d.row.length c2, .slice A3 d.row.length c3] 32)).heap.size = w.heap.size + 1 := by simp
  have HL := Lib.hid (load_newer d first size)
  have h1n : ∀ y, oneI d first size 0 = some y → y.1 < 4294967296 := fun y hy => (oneI_num hy).2.2
  have h2n : ∀ y, oneI d first size 1 = some y → y.1 < 4294967296 := fun y hy => (oneI_num hy).2.2
  have HO1 := Lib.hid (rone8 _ d (w.alloc (.cells #[.slice A1 d.secs.length c1, .slice A2 d.row.length c2, .slice A3 d.row.length c3] 32)) F (fun b g => Nat.lt_of_lt_of_le (hF b g) hb0.size) (h.below hb0 hF) hfit hd hrow first size 0 hf0 hf1 hm0 hm1)
  have HO2 : Hid (∀ w', Below w.heap.size w w' → Calls Try.prog 17 #[.agg #[.slice A1 d.secs.length c1, .slice A2 d.row.length c2, .slice A3 d.row.length c3], .int .i64 first, .int .i64 size, .int .i64 1] w' fun e w'' => e = .returned (rTell (oneI d first size 1)) ∧ Below w'.heap.size w' w'') := Lib.hid (fun w' hb => rone8 _ d w' F (fun b g => Nat.lt_of_lt_of_le (hF b g) hb.size) (HX.out.below hb hF) hfit hd hrow first size 1 hf0 hf1 hm0 hm1)
  generalize oneI d first size 0 = o0 at *
  generalize oneI d first size 1 = o1 at *
  unfold rTell at HO1 HO2
  clear h
  go_enter Try.func15, Try.ntmps15
  go_wp2_with fail
  refine HO1.out.mono ?_
  rintro e w1 ⟨rfl, hb1⟩
  have P1 := P0.step hb1
  have hbw1 := hb0.trans (hb1.mono (by omega))
  have p0 := P1.cell 0 _ rfl
  have p1 := P1.cell 1 _ rfl
  have p2 := P1.cell 2 _ rfl
  have HC := Lib.hid (HO2.out w1 hbw1)
  clear HO1 HO2 P0
  go_wp2_with fail
  refine HC.out.mono ?_
  rintro e w2 ⟨rfl, hb2⟩
  have hbw2 := below_two hbw1 hb2
  clear p0 p1 p2 HC P1
  cases o0 with
  | none =>
    have HV : Hid (loadI d first size = o1) := Lib.hid (by rw [HL.out]; rfl)
    rw [show (none : Option (Nat × List UInt8)).isSome = false from rfl]
    go_wp2_with fail
    go_ret3
    exact ⟨ret_v (by rw [HV.out]; rfl), hbw2⟩
  | some y =>
    rw [show (some y).isSome = true from rfl, show oG (some y) = y.1 from rfl]
    have hy := h1n y rfl
    cases o1 with
    | none =>
      have HV : Hid (loadI d first size = some y) := Lib.hid (by rw [HL.out]; rfl)
      rw [show (none : Option (Nat × List UInt8)).isSome = false from rfl]
      go_wp2_with fail
      go_ret3
      exact ⟨ret_v (by rw [HV.out]; rfl), hbw2⟩
    | some z =>
      rw [show (some z).isSome = true from rfl, show oG (some z) = z.1 from rfl]
      have hz := h2n z rfl
      by_cases hgt : z.1 < y.1
      · have hgt' : (z.1 : Int) < (y.1 : Int) := by omega
        have HV : Hid (loadI d first size = some y) := Lib.hid (by rw [HL.out]; show (if z.1 < y.1 then some y else some z) = _; rw [if_pos hgt])
        go_wp2_with fail
        go_ret3
        exact ⟨ret_v (by rw [HV.out]; rfl), hbw2⟩
      · have hgt' : ¬ (z.1 : Int) < (y.1 : Int) := by omega
        have HV : Hid (loadI d first size = some z) := Lib.hid (by rw [HL.out]; show (if z.1 < y.1 then some y else some z) = _; rw [if_neg hgt])
        go_wp2_with fail
        go_ret3
        exact ⟨ret_v (by rw [HV.out]; rfl), hbw2⟩

theorem infoRd : (Try.prog.info? 32).map (·.size) = some 3 := by kernel_rfl

theorem own_low8 {w : World} {b b' k n : Nat} {e : TypeId} {v : Value} {xs : List Value} (h : w.ownsRow b e k v n xs) (hb : b' ≤ b) : w.ownsRow b' e k v n xs := by
  refine ⟨h.1, ?_⟩
  rcases h.2 with hn | ⟨g, cap, cur, hv, hbs, rest⟩
  · exact .inl hn
  · exact .inr ⟨g, cap, cur, hv, Nat.le_trans hb hbs, rest⟩

/-- the cells of one of the document's frames, as a walk writes their places -/
theorem rfr_nth {w : World} {base : Nat} {v : Value} {fs : List R.Fr} (h : w.ownsRow base 84 4 v fs.length (fs.flatMap frC)) (i : Nat) (hi : i < fs.length) : ∃ a cap, v = .slice (some a) fs.length cap ∧ fs.length ≤ cap ∧ w.cell? (a.add (i * 4)) = some (.int .u32 (fs[i].epoch : Int)) ∧ w.cell? ⟨(a.add (i * 4)).block, (a.add (i * 4)).off + 1, none⟩ = some (.int .u32 (fs[i].seq : Int)) ∧ w.cell? ⟨(a.add (i * 4)).block, (a.add (i * 4)).off + 2, none⟩ = some (.int .u8 (fs[i].flag.toNat : Int)) ∧ w.cell? ⟨(a.add (i * 4)).block, (a.add (i * 4)).off + 3, none⟩ = some (.string ⟨fs[i].body.toArray⟩) := by
  obtain ⟨_, A, cap, e, hc, hx⟩ := S.Sg.of_own h
  obtain ⟨a, rfl, _, hx⟩ := hx (by omega)
  have q (j : Nat) (u : Value) (h : w.cell? (a.add (i * 4 + (j + 1))) = some u) : w.cell? ⟨(a.add (i * 4)).block, (a.add (i * 4)).off + (j + 1), none⟩ = some u := by
    rw [← ap_add, S.add_add]; exact h
  have f (j : Nat) (hj : j < 4) := V.flat_at (f := frC) (m := 4) fs (fun x _ => rfl) i hi j hj
  refine ⟨a, cap, e, hc, hx (i * 4) _ (by rw [← Nat.add_zero (i * 4), f 0 (by decide)]; rfl), q 0 _ (hx _ _ (by rw [f 1 (by decide)]; rfl)), q 1 _ (hx _ _ (by rw [f 2 (by decide)]; rfl)), q 2 _ (hx _ _ (by rw [f 3 (by decide)]; rfl))⟩

/-- what the loop over a checkpoint's frames keeps -/
structure RSp (w : World) (F : Nat → Prop) (d : D.Dk) (bs size gen : Nat) (rec : List UInt8) (vf : Value) (k : Nat) (wr : World) (x1 x2 x3 : Value) : Prop where
  p : Bk wr w.heap.size [x1, x2, x3]
  rd : Rd wr (fun b => F b ∨ (w.heap.size + 2 ≤ b ∧ b < wr.heap.size)) (.agg #[x1, x2, x3]) (G.lay bs size d (G.firsts gen 0 rec k))
  q : Bk wr (w.heap.size + 1) [nilV, nilV, nilV]
  fr : wr.ownsRow (w.heap.size + 2) 84 4 vf (R.cut gen 0 rec).length ((R.cut gen 0 rec).flatMap frC)
  low : Below w.heap.size w wr
  sz : w.heap.size + 2 ≤ wr.heap.size

set_option maxRecDepth 100000 in
set_option maxHeartbeats 2000000 in
theorem rsave_out (x : Value) (d : D.Dk) (w : World) (F : Nat → Prop) (hF : ∀ b, F b → b < w.heap.size) (h : Rd w F x d) (hd : d.secs.length ≤ 1024) (first size : Int) (gen : Nat) (rec : List UInt8) (hf0 : -9223372036854775808 ≤ first) (hf1 : first ≤ 9223372036854775807) (hm0 : -9223372036854775808 ≤ size) (hm1 : size ≤ 9223372036854775807) (hno : fitsB d.secs.length first size = false) :
    Calls Try.prog 26 #[x, .int .i64 first, .int .i64 size, .int .u32 (gen : Int), .string ⟨rec.toArray⟩] w fun e w' => ∃ v', e = .returned (.tuple #[v', .int .i64 1]) ∧ Rd w' (fun b => F b ∨ S.New w w' b) v' d ∧ Below w.heap.size w w' := by
  obtain ⟨A1, c1, A2, c2, A3, c3, rfl⟩ := h.form
  have HX := Lib.hid h
  have P0 : Bk ((w.alloc (.cells #[.slice A1 d.secs.length c1, .slice A2 d.row.length c2, .slice A3 d.row.length c3] 32)).alloc (.cells #[nilV, nilV, nilV] 32)) w.heap.size [.slice A1 d.secs.length c1, .slice A2 d.row.length c2, .slice A3 d.row.length c3] := (Bk.new w [.slice A1 d.secs.length c1, .slice A2 d.row.length c2, .slice A3 d.row.length c3] 32 rfl).alloc _
  have Q0 := Bk.new (w.alloc (.cells #[.slice A1 d.secs.length c1, .slice A2 d.row.length c2, .slice A3 d.row.length c3] 32)) [nilV, nilV, nilV] 32 (g := w.heap.size + 1) (by simp)
  have hb0 : Below w.heap.size w ((w.alloc (.cells #[.slice A1 d.secs.length c1, .slice A2 d.row.length c2, .slice A3 d.row.length c3] 32)).alloc (.cells #[nilV, nilV, nilV] 32)) := ((Below.refl _ _).alloc (Nat.le_refl _) _).alloc (by simp) _
  have hz0 : ((w.alloc (.cells #[.slice A1 d.secs.length c1, .slice A2 d.row.length c2, .slice A3 d.row.length c3] 32)).alloc (.cells #[nilV, nilV, nilV] 32)).heap.size = w.heap.size + 2 := by simp
  have HM := Lib.hid (rmay8 ((w.alloc (.cells #[.slice A1 d.secs.length c1, .slice A2 d.row.length c2, .slice A3 d.row.length c3] 32)).alloc (.cells #[nilV, nilV, nilV] 32)) A1 A2 A3 d.secs.length c1 d.row.length c2 d.row.length c3 first size hd hf0 hf1 hm0 hm1)
  clear h
  rw [hno] at HM
  clear hno
  go_enter Try.func26, Try.ntmps26
  go_wp2_with fail
  refine HM.out.mono ?_
  rintro e w1 ⟨rfl, hb1⟩
  have w1P := P0.step hb1
  have w1Q := Q0.step hb1
  have hbw1 := hb0.trans (hb1.mono (by omega))
  clear HM P0 Q0 hb0
  have p0 := w1P.cell 0 _ rfl
  have p1 := w1P.cell 1 _ rfl
  have p2 := w1P.cell 2 _ rfl
  have q0 := w1Q.cell 0 _ rfl
  have q1 := w1Q.cell 1 _ rfl
  have q2 := w1Q.cell 2 _ rfl
  have z0 := w1Q.fz 0 (by simp)
  have z1 := w1Q.fz 1 (by simp)
  have z2 := w1Q.fz 2 (by simp)
  have npq : ¬ w.heap.size = w.heap.size + 1 := by omega
  have nqp : ¬ w.heap.size + 1 = w.heap.size := by omega
  have HQ8 := Lib.hid (w1Q.all3 (.slice A1 d.secs.length c1) (.slice A2 d.row.length c2) (.slice A3 d.row.length c3))
  have HT8 := Lib.hid (turn3 w1 (w.heap.size + 1) (.slice A1 d.secs.length c1) (.slice A2 d.row.length c2) (.slice A3 d.row.length c3))
  clear w1P w1Q
  go_wp2_with fail
  refine bodyPost_ret (results_bk_1 rfl _ rfl HQ8.out Try.underlying32 rfl infoRd) rfl ?_
  refine ⟨_, rfl, ((HX.out.below hbw1 hF).turn HT8.out (fun b g => Nat.lt_of_lt_of_le (hF b g) hbw1.size) (fun b g e => by have := hF b g; omega)).wider (fun b g => Or.inl g), hbw1.trans (HT8.out.below hbw1.size (fun b e => by omega))⟩

set_option maxRecDepth 100000 in
set_option maxHeartbeats 2000000 in
theorem rsave_zero (x : Value) (d : D.Dk) (w : World) (F : Nat → Prop) (hF : ∀ b, F b → b < w.heap.size) (h : Rd w F x d) (hd : d.secs.length ≤ 1024) (first size : Int) (rec : List UInt8) (hf0 : -9223372036854775808 ≤ first) (hf1 : first ≤ 9223372036854775807) (hm0 : -9223372036854775808 ≤ size) (hm1 : size ≤ 9223372036854775807) (hno : fitsB d.secs.length first size = true) :
    Calls Try.prog 26 #[x, .int .i64 first, .int .i64 size, .int .u32 ((0 : Nat) : Int), .string ⟨rec.toArray⟩] w fun e w' => ∃ v', e = .returned (.tuple #[v', .int .i64 1]) ∧ Rd w' (fun b => F b ∨ S.New w w' b) v' d ∧ Below w.heap.size w w' := by
  obtain ⟨A1, c1, A2, c2, A3, c3, rfl⟩ := h.form
  have HX := Lib.hid h
  have P0 : Bk ((w.alloc (.cells #[.slice A1 d.secs.length c1, .slice A2 d.row.length c2, .slice A3 d.row.length c3] 32)).alloc (.cells #[nilV, nilV, nilV] 32)) w.heap.size [.slice A1 d.secs.length c1, .slice A2 d.row.length c2, .slice A3 d.row.length c3] := (Bk.new w [.slice A1 d.secs.length c1, .slice A2 d.row.length c2, .slice A3 d.row.length c3] 32 rfl).alloc _
  have Q0 := Bk.new (w.alloc (.cells #[.slice A1 d.secs.length c1, .slice A2 d.row.length c2, .slice A3 d.row.length c3] 32)) [nilV, nilV, nilV] 32 (g := w.heap.size + 1) (by simp)
  have hb0 : Below w.heap.size w ((w.alloc (.cells #[.slice A1 d.secs.length c1, .slice A2 d.row.length c2, .slice A3 d.row.length c3] 32)).alloc (.cells #[nilV, nilV, nilV] 32)) := ((Below.refl _ _).alloc (Nat.le_refl _) _).alloc (by simp) _
  have hz0 : ((w.alloc (.cells #[.slice A1 d.secs.length c1, .slice A2 d.row.length c2, .slice A3 d.row.length c3] 32)).alloc (.cells #[nilV, nilV, nilV] 32)).heap.size = w.heap.size + 2 := by simp
  have HM := Lib.hid (rmay8 ((w.alloc (.cells #[.slice A1 d.secs.length c1, .slice A2 d.row.length c2, .slice A3 d.row.length c3] 32)).alloc (.cells #[nilV, nilV, nilV] 32)) A1 A2 A3 d.secs.length c1 d.row.length c2 d.row.length c3 first size hd hf0 hf1 hm0 hm1)
  clear h
  rw [hno] at HM
  clear hno
  go_enter Try.func26, Try.ntmps26
  go_wp2_with fail
  refine HM.out.mono ?_
  rintro e w1 ⟨rfl, hb1⟩
  have w1P := P0.step hb1
  have w1Q := Q0.step hb1
  have hbw1 := hb0.trans (hb1.mono (by omega))
  clear HM P0 Q0 hb0
  have p0 := w1P.cell 0 _ rfl
  have p1 := w1P.cell 1 _ rfl
  have p2 := w1P.cell 2 _ rfl
  have q0 := w1Q.cell 0 _ rfl
  have q1 := w1Q.cell 1 _ rfl
  have q2 := w1Q.cell 2 _ rfl
  have z0 := w1Q.fz 0 (by simp)
  have z1 := w1Q.fz 1 (by simp)
  have z2 := w1Q.fz 2 (by simp)
  have npq : ¬ w.heap.size = w.heap.size + 1 := by omega
  have nqp : ¬ w.heap.size + 1 = w.heap.size := by omega
  have HQ8 := Lib.hid (w1Q.all3 (.slice A1 d.secs.length c1) (.slice A2 d.row.length c2) (.slice A3 d.row.length c3))
  have HT8 := Lib.hid (turn3 w1 (w.heap.size + 1) (.slice A1 d.secs.length c1) (.slice A2 d.row.length c2) (.slice A3 d.row.length c3))
  clear w1P w1Q
  go_wp2_with fail
  refine bodyPost_ret (results_bk_1 rfl _ rfl HQ8.out Try.underlying32 rfl infoRd) rfl ?_
  refine ⟨_, rfl, ((HX.out.below hbw1 hF).turn HT8.out (fun b g => Nat.lt_of_lt_of_le (hF b g) hbw1.size) (fun b g e => by have := hF b g; omega)).wider (fun b g => Or.inl g), hbw1.trans (HT8.out.below hbw1.size (fun b e => by omega))⟩

set_option maxRecDepth 100000 in
set_option maxHeartbeats 8000000 in
theorem rsave_more (x : Value) (d : D.Dk) (w : World) (F : Nat → Prop) (hF : ∀ b, F b → b < w.heap.size) (h : Rd w F x d) (hd : d.secs.length ≤ 1024) (hrow : d.row.length ≤ 900000) {firstN sizeN gen : Nat} (hm : Z.May d firstN sizeN) (hfn : firstN ≤ 1024) (rec : List UInt8) (hl : rec.length ≤ 100000) (hg1 : 1 ≤ gen) (hg : gen < 4294967296) :
    Calls Try.prog 26 #[x, .int .i64 (firstN : Int), .int .i64 (sizeN : Int), .int .u32 (gen : Int), .string ⟨rec.toArray⟩] w fun e w' => ∃ v', e = .returned (.tuple #[v', .int .i64 (if R.many rec.length ≤ sizeN then 0 else 3)]) ∧ Rd w' (fun b => F b ∨ S.New w w' b) v' (if R.many rec.length ≤ sizeN then Z.save d firstN sizeN gen rec else d) ∧ Below w.heap.size w w' := by
  have hs1 := hm.s1
  have hs2 := hm.s2
  have hslot := hm.slot (Nat.mod_lt gen (show 0 < 2 by decide))
  have hfe := fits_may hm
  have HMay := Lib.hid hm
  have hf0 : -9223372036854775808 ≤ (firstN : Int) := by omega
  have hf1 : (firstN : Int) ≤ 9223372036854775807 := by omega
  have hm0 : -9223372036854775808 ≤ (sizeN : Int) := by omega
  have hm1 : (sizeN : Int) ≤ 9223372036854775807 := by omega
  have hge : ((gen : Int) == 0) = false := by simp; omega
  have hge' : ¬ (gen : Int) = 0 := by omega
  clear hm
  obtain ⟨A1, c1, A2, c2, A3, c3, rfl⟩ := h.form
  have HX := Lib.hid h
  have P0 : Bk ((w.alloc (.cells #[.slice A1 d.secs.length c1, .slice A2 d.row.length c2, .slice A3 d.row.length c3] 32)).alloc (.cells #[nilV, nilV, nilV] 32)) w.heap.size [.slice A1 d.secs.length c1, .slice A2 d.row.length c2, .slice A3 d.row.length c3] := (Bk.new w [.slice A1 d.secs.length c1, .slice A2 d.row.length c2, .slice A3 d.row.length c3] 32 rfl).alloc _
  have Q0 := Bk.new (w.alloc (.cells #[.slice A1 d.secs.length c1, .slice A2 d.row.length c2, .slice A3 d.row.length c3] 32)) [nilV, nilV, nilV] 32 (g := w.heap.size + 1) (by simp)
  have hb0 : Below w.heap.size w ((w.alloc (.cells #[.slice A1 d.secs.length c1, .slice A2 d.row.length c2, .slice A3 d.row.length c3] 32)).alloc (.cells #[nilV, nilV, nilV] 32)) := ((Below.refl _ _).alloc (Nat.le_refl _) _).alloc (by simp) _
  have hz0 : ((w.alloc (.cells #[.slice A1 d.secs.length c1, .slice A2 d.row.length c2, .slice A3 d.row.length c3] 32)).alloc (.cells #[nilV, nilV, nilV] 32)).heap.size = w.heap.size + 2 := by simp
  have HM := Lib.hid (rmay8 ((w.alloc (.cells #[.slice A1 d.secs.length c1, .slice A2 d.row.length c2, .slice A3 d.row.length c3] 32)).alloc (.cells #[nilV, nilV, nilV] 32)) A1 A2 A3 d.secs.length c1 d.row.length c2 d.row.length c3 (firstN : Int) (sizeN : Int) hd hf0 hf1 hm0 hm1)
  clear h
  rw [hfe] at HM
  clear hfe
  go_enter Try.func26, Try.ntmps26
  go_wp2_with fail
  refine HM.out.mono ?_
  rintro e w1 ⟨rfl, hb1⟩
  have HP1 := Lib.hid (P0.step hb1)
  have HQ1 := Lib.hid (Q0.step hb1)
  have hbw1 := hb0.trans (hb1.mono (by omega))
  have hs1w := hb1.size
  have hC : Calls Try.prog 45 #[.int .u32 (gen : Int), .int .u32 0, .string ⟨rec.toArray⟩] w1 fun r w' => ∃ v, r = .returned v ∧ w'.ownsRow w1.heap.size 84 4 v (R.cut gen 0 rec).length ((R.cut gen 0 rec).flatMap frC) ∧ Below w1.heap.size w1 w' := rcut_any gen 0 rec w1 hg (by decide) (by omega)
  have HC := Lib.hid hC
  clear HM P0 Q0 hb0 hC
  go_wp2_with fail
  refine HC.out.mono ?_
  rintro e w2 ⟨vf, rfl, hown, hb2⟩
  have w2P := HP1.out.step hb2
  have w2Q := HQ1.out.step hb2
  have hbw2 := below_two hbw1 hb2
  have hs2w := hb2.size
  have hown := own_low8 hown (show w.heap.size + 2 ≤ w1.heap.size by omega)
  have hcl := R.cut_len gen 0 rec
  have hM1 := R.many_pos rec.length
  obtain ⟨M, hM⟩ : ∃ M, M = R.many rec.length := ⟨_, rfl⟩
  rw [← hM] at hcl hM1
  have hMb : M ≤ 100001 := by rw [hM]; unfold R.many; split <;> omega
  obtain ⟨Af, capf, rfl, hcf⟩ : ∃ A cap, vf = .slice A M cap ∧ M ≤ cap := by
    obtain ⟨_, A, cap, e, hc, _⟩ := S.Sg.of_own hown
    rw [hcl] at e hc
    exact ⟨A, cap, e, hc⟩
  have HMM := Lib.hid hM
  have HCL := Lib.hid hcl
  have HO2 := Lib.hid hown
  clear HC hown hM hcl HP1 HQ1 hb1 hb2
  by_cases hfull : sizeN < M
  · have hfull' : (sizeN : Int) < (M : Int) := by omega
    have HIf : Hid (¬ R.many rec.length ≤ sizeN) := Lib.hid (by rw [← HMM.out]; omega)
    have p0 := w2P.cell 0 _ rfl
    have p1 := w2P.cell 1 _ rfl
    have p2 := w2P.cell 2 _ rfl
    have q0 := w2Q.cell 0 _ rfl
    have q1 := w2Q.cell 1 _ rfl
    have q2 := w2Q.cell 2 _ rfl
    have z0 := w2Q.fz 0 (by simp)
    have z1 := w2Q.fz 1 (by simp)
    have z2 := w2Q.fz 2 (by simp)
    have npq : ¬ w.heap.size = w.heap.size + 1 := by omega
    have nqp : ¬ w.heap.size + 1 = w.heap.size := by omega
    have HQ8 := Lib.hid (w2Q.all3 (.slice A1 d.secs.length c1) (.slice A2 d.row.length c2) (.slice A3 d.row.length c3))
    have HT8 := Lib.hid (turn3 w2 (w.heap.size + 1) (.slice A1 d.secs.length c1) (.slice A2 d.row.length c2) (.slice A3 d.row.length c3))
    clear w2P w2Q
    go_wp2_with fail
    refine bodyPost_ret (results_bk_1 rfl _ rfl HQ8.out Try.underlying32 rfl infoRd) rfl ?_
    refine ⟨_, rfl, ((HX.out.below hbw2 hF).turn HT8.out (fun b g => Nat.lt_of_lt_of_le (hF b g) hbw2.size) (fun b g e => by have := hF b g; omega)).wider (fun b g => Or.inl g), hbw2.trans (HT8.out.below hbw2.size (fun b e => by omega))⟩
  · have hfull' : ¬ (sizeN : Int) < (M : Int) := by omega
    have HIf : Hid (R.many rec.length ≤ sizeN) := Lib.hid (by rw [← HMM.out]; omega)
    obtain ⟨r, hr⟩ : ∃ r, r = gen % 2 := ⟨_, rfl⟩
    have m1 : (gen : Int).tmod 2 = (r : Int) := by rw [Int.tmod_eq_emod_of_nonneg (by omega)]; omega
    have m2 : (gen : Int) % 2 = (r : Int) := by omega
    have hr2 : r < 2 := by omega
    obtain ⟨bs, hbs⟩ : ∃ bs, bs = Z.at_ firstN sizeN r := ⟨_, rfl⟩
    have HBS : Hid (bs = Z.at_ firstN sizeN (gen % 2)) := Lib.hid (by rw [hbs, hr])
    have hbs2 : bs ≤ 2048 := by rw [hbs]; unfold Z.at_; rcases (show r = 0 ∨ r = 1 by omega) with e | e <;> rw [e] <;> omega
    obtain ⟨q, hq⟩ : ∃ q : Int, q = (sizeN : Int) * (r : Int) := ⟨_, rfl⟩
    have hq' : (sizeN : Int) * (r : Int) = q := hq.symm
    have hsum : (firstN : Int) + q = (bs : Int) := by rw [hbs, hq]; unfold Z.at_; rcases (show r = 0 ∨ r = 1 by omega) with e | e <;> rw [e] <;> omega
    have hqb0 : 0 ≤ q := by rw [hq]; exact Int.mul_nonneg (by omega) (by omega)
    have hqb1 : q ≤ 2048 := by omega
    have HS : Hid (RSp w F d bs sizeN gen rec (.slice Af M capf) 0 w2 (.slice A1 d.secs.length c1) (.slice A2 d.row.length c2) (.slice A3 d.row.length c3)) := Lib.hid ⟨w2P, (HX.out.below hbw2 hF).wider (fun b g => Or.inl g), w2Q, HO2.out, hbw2, by omega⟩
    clear hr hbs hq w2P w2Q HO2
    go_wp2_with fail
    go_loopw [13] (fun i wr => ∃ (k : Nat) (B1 : Option Addr) (n1 e1 : Nat) (B2 : Option Addr) (n2 e2 : Nat) (B3 : Option Addr) (n3 e3 : Nat), k ≤ M ∧ i = .int .i64 (k : Int) ∧ RSp w F d bs sizeN gen rec (.slice Af M capf) k wr (.slice B1 n1 e1) (.slice B2 n2 e2) (.slice B3 n3 e3)) (fun i _ => M - (intOf i).toNat)
    case atStart => exact ⟨0, _, _, _, _, _, _, _, _, _, by omega, rfl, HS.out⟩
    case round =>
      clear HS
      obtain ⟨k, B1, n1, e1, B2, n2, e2, B3, n3, e3, hk, rfl, hL⟩ := hrel
      have HL := Lib.hid hL
      have hlow := hL.low
      have hsz := hL.sz
      by_cases hlt : k < M
      · have hlt' : (k : Int) < (M : Int) := by omega
        have hk0 : (0 : Int) ≤ (k : Int) := by omega
        have hck : k < (R.cut gen 0 rec).length := by rw [HCL.out]; exact hlt
        obtain ⟨a, capa, e5, _, x0, X1, X2, X3⟩ := rfr_nth hL.fr k hck
        rw [HCL.out] at e5
        cases e5
        rw [R.cut_at] at x0 X1 X2 X3
        have hnum : (R.frameOf gen 0 rec k).Num := ⟨hg, Nat.mod_lt _ (by decide)⟩
        have hfit := G.frameOf_fits gen 0 rec k
        have HAt := Lib.hid ((Z.seq_at (base := bs) (size := sizeN) gen (show k < R.many rec.length by rw [← HMM.out]; exact hlt) HIf.out hs2).2)
        have hPk := rpack_fits (R.frameOf gen 0 rec k) wr hnum hfit
        have HSl := Lib.hid (R.sector_len hfit)
        have HFS := Lib.hid (show G.firsts gen 0 rec (k + 1) = G.firsts gen 0 rec k ++ [R.frameOf gen 0 rec k] from G.firsts_succ _ _ _ _)
        generalize R.frameOf gen 0 rec k = f at *
        unfold frA at hPk
        have HPk := Lib.hid hPk
        clear hL hPk hnum hfit
        go_wp2_with fail
        refine HPk.out.mono ?_
        rintro e w3 ⟨rfl, hb3⟩
        clear x0 X1 X2 X3 HPk
        obtain ⟨sec, hsec⟩ : ∃ sec, sec = R.sector f := ⟨_, rfl⟩
        rw [← hsec] at HSl ⊢
        have HSec := Lib.hid hsec
        clear hsec
        obtain ⟨cb, wb, hcb, hslb, hbb⟩ := conv_bytes w3 sec
        have hs3 := hb3.size
        have hsb := hbb.size
        have hlowb := below_two (below_two hlow hb3) hbb
        have w3P := HL.out.p.step hb3
        have p0 := w3P.cell 0 _ rfl
        have p1 := w3P.cell 1 _ rfl
        have p2 := w3P.cell 2 _ rfl
        obtain ⟨dk, hdk'⟩ : ∃ dk, dk = G.lay bs sizeN d (G.firsts gen 0 rec k) := ⟨_, rfl⟩
        have hRd := HL.out.rd
        rw [← hdk'] at hRd
        have hdk : dk.row.length ≤ 1000000 := by rw [hdk', G.firsts_row hs1 (by rw [HBS.out]; exact hslot)]; omega
        obtain ⟨dn, hdn⟩ : ∃ dn, dn = G.lay bs sizeN d (G.firsts gen 0 rec (k + 1)) := ⟨_, rfl⟩
        have HDN := Lib.hid hdn
        have HDE : Hid (dk.write ((bs : Int) + (k : Int)) sec = dn) := Lib.hid (by rw [hdn, HFS.out, G.lay_snoc, ← hdk', ← HSec.out, HAt.out, show ((bs + k : Nat) : Int) = (bs : Int) + (k : Int) by omega])
        have hRdb : Rd wb (fun b => F b ∨ (w.heap.size + 2 ≤ b ∧ b < wr.heap.size)) (.agg #[.slice B1 n1 e1, .slice B2 n2 e2, .slice B3 n3 e3]) dk := (hRd.below hb3 (fun b g => g.elim (fun g => by have := hF b g; omega) (fun g => g.2))).below hbb (fun b g => g.elim (fun g => by have := hF b g; omega) (fun g => by omega))
        have hW := rwrite_any _ _ dk ((bs : Int) + (k : Int)) sec wb _ (fun b g => g.elim (fun g => by have := hF b g; omega) (fun g => by omega)) hRdb (S.New w3 wb) (fun b g => g.2) hslb hdk (by rw [HSl.out]; decide)
        rw [HDE.out] at hW
        have HW := Lib.hid hW
        have HPb := Lib.hid (w3P.step hbb)
        have HQb := Lib.hid ((HL.out.q.step hb3).step hbb)
        have HOb := Lib.hid (S.own_below (S.own_below HL.out.fr hb3) hbb)
        clear hdk' hRd hRdb hW w3P hdn
        go_wp2_with fail
        refine HW.out.mono ?_
        rintro e w5 ⟨v5, rfl, hR5, hb5⟩
        obtain ⟨D1, g1, D2, g2, D3, g3, rfl⟩ := hR5.form
        generalize dn.secs.length = n4 at *
        generalize dn.row.length = n5 at *
        clear p0 p1 p2 HW
        have hs5 := hb5.size
        have hba : Below w5.heap.size w5 (w5.alloc (.cells #[.slice D1 n4 g1, .slice D2 n5 g2, .slice D3 n5 g3] 32)) := (Below.refl _ _).alloc (Nat.le_refl _) _
        have hza : (w5.alloc (.cells #[.slice D1 n4 g1, .slice D2 n5 g2, .slice D3 n5 g3] 32)).heap.size = w5.heap.size + 1 := by simp
        have P6 := (HPb.out.step hb5).step hba
        have hlow6 := below_two (below_two hlowb hb5) hba
        have HT7 := Lib.hid (turn3 (w5.alloc (.cells #[.slice D1 n4 g1, .slice D2 n5 g2, .slice D3 n5 g3] 32)) w.heap.size (.slice D1 n4 g1) (.slice D2 n5 g2) (.slice D3 n5 g3))
        have HP7 := Lib.hid (P6.all3 (.slice D1 n4 g1) (.slice D2 n5 g2) (.slice D3 n5 g3))
        have HQ6 := Lib.hid ((HQb.out.step hb5).step hba)
        have HO6 := Lib.hid (S.own_below (S.own_below HOb.out hb5) hba)
        have HR6 := Lib.hid (hR5.below hba (fun b g => g.elim (fun g => g.elim (fun g => by have := hF b g; omega) (fun g => by omega)) (fun g => g.2)))
        have p0 := P6.cell 0 _ rfl
        have p1 := P6.cell 1 _ rfl
        have p2 := P6.cell 2 _ rfl
        have z0 := P6.fz 0 (by simp)
        have z1 := P6.fz 1 (by simp)
        have z2 := P6.fz 2 (by simp)
        have hs6 : ((((w5.alloc (.cells #[.slice D1 n4 g1, .slice D2 n5 g2, .slice D3 n5 g3] 32)).setCell ⟨w.heap.size, 0, none⟩ (.slice D1 n4 g1)).setCell ⟨w.heap.size, 1, none⟩ (.slice D2 n5 g2)).setCell ⟨w.heap.size, 2, none⟩ (.slice D3 n5 g3)).heap.size = w5.heap.size + 1 := by simp [World.setCell]
        have np5 : ¬ w.heap.size = w5.heap.size := by omega
        have n5p : ¬ w5.heap.size = w.heap.size := by omega
        have HNX : Hid (RSp w F d bs sizeN gen rec (.slice (some a) M capf) (k + 1) ((((w5.alloc (.cells #[.slice D1 n4 g1, .slice D2 n5 g2, .slice D3 n5 g3] 32)).setCell ⟨w.heap.size, 0, none⟩ (.slice D1 n4 g1)).setCell ⟨w.heap.size, 1, none⟩ (.slice D2 n5 g2)).setCell ⟨w.heap.size, 2, none⟩ (.slice D3 n5 g3)) (.slice D1 n4 g1) (.slice D2 n5 g2) (.slice D3 n5 g3)) := Lib.hid
          ⟨HP7.out, HDN.out ▸ (HR6.out.turn HT7.out (fun b g => g.elim (fun g => g.elim (fun g => by have := hF b g; omega) (fun g => by omega)) (fun g => by have := g.2; omega)) (fun b g ee => g.elim (fun g => g.elim (fun g => by have := hF b g; omega) (fun g => by omega)) (fun g => by have := g.1; omega))).wider (fun b g => g.elim (fun g => g.elim (fun g => Or.inl g) (fun g => Or.inr ⟨g.1, by omega⟩)) (fun g => Or.inr ⟨by have := g.1; omega, by have := g.2; omega⟩)),
            HQ6.out.turn HT7.out (by omega), V.own_keep HO6.out (fun j hj => HT7.out.block j (World.ownsRow.lt HO6.out j hj).2 (fun ee => by have := (World.ownsRow.lt HO6.out j hj).1; omega)), hlow6.trans (HT7.out.below (by omega) (fun b ee => by omega)), by omega⟩
        clear P6 hR5 hba hb5 hbb hb3 HP7 HQ6 HO6 HR6 HT7 HPb HQb HOb hslb hcb hs6
        go_wp2_with fail
        go_roundw
        case rel => exact ⟨k + 1, _, _, _, _, _, _, _, _, _, by omega, by go_num, HNX.out⟩
        case measure => simp [intOf]; omega
      · obtain rfl : k = M := by omega
        have hlt' : ¬ (k : Int) < (k : Int) := by omega
        have wrP := hL.p
        have wrQ := hL.q
        have HRd : Hid (Rd wr (fun b => F b ∨ (w.heap.size + 2 ≤ b ∧ b < wr.heap.size)) (.agg #[.slice B1 n1 e1, .slice B2 n2 e2, .slice B3 n3 e3]) (Z.save d firstN sizeN gen rec)) := Lib.hid (by
          have := hL.rd
          rw [show G.firsts gen 0 rec k = R.cut gen 0 rec by rw [HMM.out, G.firsts_all], HBS.out] at this
          exact this)
        clear hL
        have p0 := wrP.cell 0 _ rfl
        have p1 := wrP.cell 1 _ rfl
        have p2 := wrP.cell 2 _ rfl
        have q0 := wrQ.cell 0 _ rfl
        have q1 := wrQ.cell 1 _ rfl
        have q2 := wrQ.cell 2 _ rfl
        have z0 := wrQ.fz 0 (by simp)
        have z1 := wrQ.fz 1 (by simp)
        have z2 := wrQ.fz 2 (by simp)
        have npq : ¬ w.heap.size = w.heap.size + 1 := by omega
        have nqp : ¬ w.heap.size + 1 = w.heap.size := by omega
        have HQ8 := Lib.hid (wrQ.all3 (.slice B1 n1 e1) (.slice B2 n2 e2) (.slice B3 n3 e3))
        have HT8 := Lib.hid (turn3 wr (w.heap.size + 1) (.slice B1 n1 e1) (.slice B2 n2 e2) (.slice B3 n3 e3))
        clear wrP wrQ
        have hs8 := HT8.out.size
        go_wp2_with fail
        refine bodyPost_ret (results_bk_1 rfl _ rfl HQ8.out Try.underlying32 rfl infoRd) rfl ?_
        refine ⟨_, rfl, (HRd.out.turn HT8.out (fun b g => g.elim (fun g => by have := hF b g; omega) (fun g => g.2)) (fun b g e => g.elim (fun g => by have := hF b g; omega) (fun g => by omega))).wider (fun b g => g.imp id (fun g => ⟨by omega, by omega⟩)), hlow.trans (HT8.out.below hlow.size (fun b e => by omega))⟩

theorem rsave8 (x : Value) (d : D.Dk) (w : World) (F : Nat → Prop) (hF : ∀ b, F b → b < w.heap.size) (h : Rd w F x d) (hd : d.secs.length ≤ 1024) (hrow : d.row.length ≤ 900000) (first size : Int) (gen : Nat) (rec : List UInt8) (hl : rec.length ≤ 100000) (hg : gen < 4294967296) (hf0 : -9223372036854775808 ≤ first) (hf1 : first ≤ 9223372036854775807) (hm0 : -9223372036854775808 ≤ size) (hm1 : size ≤ 9223372036854775807) :
    Calls Try.prog 26 #[x, .int .i64 first, .int .i64 size, .int .u32 (gen : Int), .string ⟨rec.toArray⟩] w fun e w' => ∃ v', e = .returned (.tuple #[v', .int .i64 (savE d first size gen rec)]) ∧ Rd w' (fun b => F b ∨ S.New w w' b) v' (savD d first size gen rec) ∧ Below w.heap.size w w' := by
  by_cases hf : fitsB d.secs.length first size = true
  · by_cases h0 : gen = 0
    · subst h0
      rw [savE, if_neg (fun g => g.2 rfl), savD, if_neg (fun g => g.1.2 rfl)]
      exact rsave_zero x d w F hF h hd first size rec hf0 hf1 hm0 hm1 hf
    · obtain ⟨f, s, rfl, rfl, hM, hf10⟩ := may_of hd hf
      have := rsave_more x d w F hF h hd hrow hM hf10 rec hl (by omega) hg
      unfold savE savD
      rw [if_pos ⟨hf, h0⟩, Int.toNat_natCast, Int.toNat_natCast]
      rw [show (if (fitsB d.secs.length (f : Int) (s : Int) = true ∧ gen ≠ 0) ∧ R.many rec.length ≤ s then Z.save d f s gen rec else d) = (if R.many rec.length ≤ s then Z.save d f s gen rec else d) by
        by_cases hq : R.many rec.length ≤ s
        · rw [if_pos ⟨⟨hf, h0⟩, hq⟩, if_pos hq]
        · rw [if_neg (fun g => hq g.2), if_neg hq]]
      exact this
  · rw [savE, if_neg (fun g => hf g.1), savD, if_neg (fun g => hf g.1.1)]
    exact rsave_out x d w F hF h hd first size gen rec hf0 hf1 hm0 hm1 (by simpa using hf)

end Go.Proofs.Ytbjbnjpdackloaa
