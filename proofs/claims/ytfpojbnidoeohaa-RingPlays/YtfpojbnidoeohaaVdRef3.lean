/-
  Walks of the document's disk: a write.
-/
import Derived.Test.YtfpojbnidoeohaaVdRef2
namespace Go.Proofs.Ytfpojbnidoeohaa
open Go.RowKit

theorem own_int {w : World} {base : Nat} {v : Value} {a b : List Nat} (h : w.ownsRow base 3 1 v (a.length + b.length) (intV a ++ intV b)) : w.ownsRow base 3 1 v (a ++ b).length (intV (a ++ b)) := by
  rw [intV_append, List.length_append]; exact h

theorem Sg_form {w : World} {F : Nat → Prop} {k n : Nat} {v : Value} {cs : List Value} (h : S.Sg w F k v n cs) : ∃ A cap, v = .slice A n cap ∧ n ≤ cap := by
  obtain ⟨_, A, cap, e, hc, _⟩ := h
  exact ⟨A, cap, e, hc⟩

theorem two_new {w : World} {o o' : Obj} : Below w.heap.size w ((w.alloc o).alloc o') := ((Below.refl _ _).alloc (Nat.le_refl _) _).alloc (by simp) _

set_option maxRecDepth 100000 in
set_option maxHeartbeats 1000000 in
/-- where nothing is written -/
theorem rwrite_no (v vb : Value) (d : D.Dk) (i : Int) (l : List UInt8) (w : World) (F : Nat → Prop) (hF : ∀ b, F b → b < w.heap.size) (h : Rd w F v d) (G : Nat → Prop) (hb : SlB w G vb l) (hl : l.length ≤ 1000000) (hno : ¬ (d.there i ∧ l.length ≤ 64)) :
    Calls Try.prog 47 #[v, .int .i64 i, vb] w fun e w' => ∃ v', e = .returned (.tuple #[v', .int .i64 (d.bad i l)]) ∧ Rd w' (fun b => F b ∨ S.New w w' b) v' (d.write i l) ∧ Below w.heap.size w w' := by
  have HR := Lib.hid h
  obtain ⟨a, b, c, rfl, h1, h2, h3⟩ := h
  obtain ⟨A1, cap1, rfl, hc1⟩ := Sg_form h1
  obtain ⟨A2, cap2, rfl, hc2⟩ := Sg_form h2
  obtain ⟨A3, cap3, rfl, hc3⟩ := Sg_form h3
  obtain ⟨Ab, capb, rfl, hcb⟩ := Sg_form hb
  rw [show d.write i l = d by rw [D.Dk.write, if_neg hno]]
  simp only [List.length_map] at hc1 hc2 hc3 h1 h2 h3
  clear h1 h2 h3 hb
  generalize hm : (List.map (fun x => x.1) d.row).length = m at *
  generalize hm' : (List.map (fun x => x.2) d.row).length = m' at *
  have R1 := B3.new (w.alloc (.cells #[.slice A1 d.secs.length cap1, .slice A2 m cap2, .slice A3 m' cap3] 36)) (.slice A1 d.secs.length cap1) (.slice A2 m cap2) (.slice A3 m' cap3) 36 (g := w.heap.size + 1) (by simp)
  have hb2 := two_new (w := w) (o := .cells #[.slice A1 d.secs.length cap1, .slice A2 m cap2, .slice A3 m' cap3] 36) (o' := .cells #[.slice A1 d.secs.length cap1, .slice A2 m cap2, .slice A3 m' cap3] 36)
  have HR2 := Lib.hid (HR.out.below hb2 hF)
  by_cases h0 : i < 0
  · rw [show d.bad i l = 11 by rw [D.Dk.bad, if_neg (fun g => by have := g.1; omega)]]
    go_enter Try.func47, Try.ntmps47
    go_wp2
    refine bodyPost_ret (results_b3_1 rfl _ rfl R1 undDisk rfl infoDisk) rfl ?_
    exact ⟨_, rfl, HR2.out.wider (fun b h => Or.inl h), hb2⟩
  · by_cases h1 : (d.secs.length : Int) ≤ i
    · rw [show d.bad i l = 11 by rw [D.Dk.bad, if_neg (fun g => by have := g.2; omega)]]
      go_enter Try.func47, Try.ntmps47
      go_wp2
      refine bodyPost_ret (results_b3_1 rfl _ rfl R1 undDisk rfl infoDisk) rfl ?_
      exact ⟨_, rfl, HR2.out.wider (fun b h => Or.inl h), hb2⟩
    · have ht : d.there i := ⟨by omega, by omega⟩
      have hl64 : 64 < l.length := by
        have : ¬ l.length ≤ 64 := fun g => hno ⟨ht, g⟩
        omega
      rw [show d.bad i l = 1 by rw [D.Dk.bad, if_pos ht, if_neg (by omega)]]
      go_enter Try.func47, Try.ntmps47
      go_wp2
      refine bodyPost_ret (results_b3_1 rfl _ rfl R1 undDisk rfl infoDisk) rfl ?_
      exact ⟨_, rfl, HR2.out.wider (fun b h => Or.inl h), hb2⟩

set_option maxRecDepth 100000 in
set_option maxHeartbeats 2000000 in
/-- where something is written -/
theorem rwrite_yes (v vb : Value) (d : D.Dk) (i : Nat) (l : List UInt8) (w : World) (F : Nat → Prop) (hF : ∀ b, F b → b < w.heap.size) (h : Rd w F v d) (G : Nat → Prop) (hG : ∀ b, G b → b < w.heap.size) (hb : SlB w G vb l) (hr : d.row.length ≤ 1000000) (hi : i < d.secs.length) (hl : l.length ≤ 64) :
    Calls Try.prog 47 #[v, .int .i64 i, vb] w fun e w' => ∃ v', e = .returned (.tuple #[v', .int .i64 (d.bad i l)]) ∧ Rd w' (fun b => F b ∨ S.New w w' b) v' (d.write i l) ∧ Below w.heap.size w w' := by
  have ht : d.there (i : Int) := ⟨by omega, by omega⟩
  rw [show d.bad (i : Int) l = 0 by rw [D.Dk.bad, if_pos ht, if_pos hl], show d.write (i : Int) l = ⟨d.secs, d.row ++ [(i, D.full l)]⟩ by rw [D.Dk.write, if_pos ⟨ht, hl⟩]; rfl]
  have HB := Lib.hid hb
  obtain ⟨a, b, c, rfl, h1, h2, h3⟩ := h
  have H1 := Lib.hid h1
  obtain ⟨A1, cap1, rfl, hc1⟩ := Sg_form h1
  obtain ⟨A2, cap2, rfl, hc2⟩ := Sg_form h2
  obtain ⟨A3, cap3, rfl, hc3⟩ := Sg_form h3
  obtain ⟨Ab, capb, rfl, hcb⟩ := Sg_form hb
  have H2 := Lib.hid h2
  have H3 := Lib.hid h3
  clear h1 h2 h3 hb ht
  have hm : (List.map (fun x => x.1) d.row).length ≤ 1000000 := by simp; exact hr
  have hm' : (List.map (fun x => x.2) d.row).length ≤ 1000000 := by simp; exact hr
  obtain ⟨r1, hr1⟩ : ∃ r1, r1 = List.map (fun x => x.1) d.row := ⟨_, rfl⟩
  obtain ⟨r2, hr2⟩ : ∃ r2, r2 = List.map (fun x => x.2) d.row := ⟨_, rfl⟩
  rw [← hr1] at H2 hc2 hm ⊢
  rw [← hr2] at H3 hc3 hm' ⊢
  have HR := Lib.hid (And.intro hr1 hr2)
  clear hr1 hr2
  have P0 := ((B3.new w (.slice A1 d.secs.length cap1) (.slice A2 r1.length cap2) (.slice A3 r2.length cap3) 36 rfl).alloc (.cells #[nilV, nilV, nilV] 36)).alloc (.cells #[.slice A1 d.secs.length cap1, nilV, nilV] 36)
  have R0 := (B3.new (w.alloc (.cells #[.slice A1 d.secs.length cap1, .slice A2 r1.length cap2, .slice A3 r2.length cap3] 36)) nilV nilV nilV 36 (g := w.heap.size + 1) (by simp)).alloc (.cells #[.slice A1 d.secs.length cap1, nilV, nilV] 36)
  have O0 := B3.new ((w.alloc (.cells #[.slice A1 d.secs.length cap1, .slice A2 r1.length cap2, .slice A3 r2.length cap3] 36)).alloc (.cells #[nilV, nilV, nilV] 36)) (.slice A1 d.secs.length cap1) nilV nilV 36 (g := w.heap.size + 1 + 1) (by simp)
  have hb0 := (two_new (w := w) (o := .cells #[.slice A1 d.secs.length cap1, .slice A2 r1.length cap2, .slice A3 r2.length cap3] 36) (o' := .cells #[nilV, nilV, nilV] 36)).alloc (by simp; omega) (.cells #[.slice A1 d.secs.length cap1, nilV, nilV] 36)
  have hz0 : (((w.alloc (.cells #[.slice A1 d.secs.length cap1, .slice A2 r1.length cap2, .slice A3 r2.length cap3] 36)).alloc (.cells #[nilV, nilV, nilV] 36)).alloc (.cells #[.slice A1 d.secs.length cap1, nilV, nilV] 36)).heap.size = w.heap.size + 1 + 1 + 1 := by simp
  have P0 := Lib.hid P0
  have R0 := Lib.hid R0
  have O0 := Lib.hid O0
  have hz0 := Lib.hid hz0
  go_enter Try.func47, Try.ntmps47
  go_wp2_with (at_builtin; refine S.wpList_append_sg elI rfl _ _ rfl (base := w.heap.size + 1 + 1 + 1) (xs := []) (cs := intV r1) rfl rfl (S.own_none 3 1 hz0.out.symm (Nat.le_refl _)) (H2.out.below (hb0.alloc hb0.size _) hF) (intV_one _) (by omega) (by omega) (by rw [← hz0.out]; simp) ?_)
  intro v1 w1 hown1 hgrow1 _
  have hbb1 := S.below_base (S.own_none 3 1 hz0.out.symm (Nat.le_refl _)) (by rw [← hz0.out]; simp) hgrow1
  have P1 := (P0.out.alloc (.cells #[] 3)).below hbb1 (by omega)
  have R1 := (R0.out.alloc (.cells #[] 3)).below hbb1 (by omega)
  have O1 := (O0.out.alloc (.cells #[] 3)).below hbb1 (by omega)
  have hb1 := (hb0.alloc hb0.size (.cells #[] 3)).trans (hbb1.mono (by omega))
  have hz1 : w.heap.size + 1 + 1 + 1 ≤ w1.heap.size := Nat.le_trans (Nat.le_trans (Nat.le_of_eq hz0.out.symm) (by simp)) hbb1.size
  clear hbb1 P0 R0 O0 hb0 hz0 hgrow1
  generalize hbs : w.heap.size + 1 + 1 + 1 = base at *
  generalize ho : w.heap.size + 1 + 1 = o at *
  generalize hrr : w.heap.size + 1 = r at *
  have P1 := Lib.hid P1
  have R1 := Lib.hid R1
  have O1 := Lib.hid O1
  go_wp2_with (at_builtin; refine S.wpList_append_sg elI rfl _ _ rfl (base := base) (xs := intV r1) (cs := intV [i]) rfl rfl (hown1.alloc _) (S.Sg.one w1 3 (.int .i64 (i : Int))) (intV_one _) (by omega) (by omega) (by simp; omega) ?_)
  intro v2 w2 hown2 hgrow2 _
  have hbb2 := S.below_base (hown1.alloc (.cells #[.int .i64 (i : Int)] 3)) (by simp; omega) hgrow2
  have P2 := (P1.out.alloc (.cells #[.int .i64 (i : Int)] 3)).below hbb2 (by omega)
  have R2 := (R1.out.alloc (.cells #[.int .i64 (i : Int)] 3)).below hbb2 (by omega)
  have O2 := (O1.out.alloc (.cells #[.int .i64 (i : Int)] 3)).below hbb2 (by omega)
  have hb2 := (hb1.alloc hb1.size (.cells #[.int .i64 (i : Int)] 3)).trans (hbb2.mono (by omega))
  have hz2 : base ≤ w2.heap.size := Nat.le_trans (Nat.le_trans hz1 (by simp)) hbb2.size
  have hownA := own_int (b := [i]) hown2
  obtain ⟨A4, cap4, rfl, hc4⟩ := Sg_form (S.Sg.of_own hown2)
  clear hbb2 P1 R1 O1 hb1 hz1 hgrow2 hown1 hown2
  have P3 := P2.other (q := o) (by omega) 1 (.slice A4 (r1.length + 1) cap4)
  have R3 := R2.other (q := o) (by omega) 1 (.slice A4 (r1.length + 1) cap4)
  have O3 := O2.set1 (.slice A4 (r1.length + 1) cap4)
  have hb3 := hb2.setCell (p := ⟨o, 1, none⟩) (by show _ ≤ o; omega) (.slice A4 (r1.length + 1) cap4)
  have hltA : ∀ j, (Value.slice A4 (r1.length + 1) cap4).ownBlock = some j → j < w2.heap.size := fun j hj => (World.ownsRow.lt hownA j hj).2
  have hA3 := S.own_set hownA (p := o) (by omega) 1 (.slice A4 (r1.length + 1) cap4)
  have hz3 : base ≤ (w2.setCell ⟨o, 1, none⟩ (.slice A4 (r1.length + 1) cap4)).heap.size := by simpa [World.setCell] using hz2
  have hsz : (w2.setCell ⟨o, 1, none⟩ (.slice A4 (r1.length + 1) cap4)).heap.size = w2.heap.size := by simp [World.setCell]
  have P3 := Lib.hid P3
  have R3 := Lib.hid R3
  have O3 := Lib.hid O3
  have hA3 := Lib.hid hA3
  have hb3 := Lib.hid hb3
  have hsz := Lib.hid hsz
  obtain ⟨_, p0, p1, p2, _⟩ := P2
  obtain ⟨_, o0, o1, o2, of0, of1, of2⟩ := O2
  clear hb2 hownA R2 hz3
  go_wp2_with (at_builtin; refine S.wpList_append_sg elS rfl _ _ rfl (base := w2.heap.size) (xs := []) (cs := strV r2) rfl rfl (S.own_none 9 1 hsz.out.symm (Nat.le_refl _)) (H3.out.below (hb3.out.alloc hb3.out.size _) hF) (strV_one _) (by omega) (by omega) (by rw [← hsz.out]; simp) ?_)
  intro v5 w5 hown5 hgrow5 _
  have hbb5 := S.below_base (S.own_none 9 1 hsz.out.symm (Nat.le_refl _)) (by rw [← hsz.out]; simp) hgrow5
  have P5 := (P3.out.alloc (.cells #[] 9)).below hbb5 (by omega)
  have R5 := (R3.out.alloc (.cells #[] 9)).below hbb5 (by omega)
  have O5 := (O3.out.alloc (.cells #[] 9)).below hbb5 (by omega)
  have hA5 := S.own_under (hA3.out.alloc (.cells #[] 9)) hbb5 hltA
  have hb5 := (hb3.out.alloc hb3.out.size (.cells #[] 9)).trans (hbb5.mono (by omega))
  have hz5 : w2.heap.size ≤ w5.heap.size := Nat.le_trans (Nat.le_trans (Nat.le_of_eq hsz.out.symm) (by simp)) hbb5.size
  clear hbb5 P3 R3 O3 hA3 hb3 hsz hgrow5 p0 p1 p2 o0 o1 o2 of0 of1 of2
  have HF := Lib.hid (full_any (.slice Ab l.length capb) l w5 G (fun b h => Nat.lt_of_lt_of_le (hG b h) hb5.size) (HB.out.below hb5 hG) (by omega))
  go_wp2_with fail
  refine HF.out.mono ?_
  rintro e w6 ⟨rfl, hbn⟩
  have P6 := P5.step hbn
  have R6 := R5.step hbn
  have O6 := O5.step hbn
  have hA6 := S.own_below hA5 hbn
  have hb6 := hb5.trans (hbn.mono hb5.size)
  have hown6 := S.own_below hown5 hbn
  have hz6 : w2.heap.size ≤ w6.heap.size := Nat.le_trans hz5 hbn.size
  clear HF hbn P5 R5 O5 hA5 hb5 hown5 hz5
  obtain ⟨zl, hzl⟩ : ∃ zl, zl = D.full l := ⟨_, rfl⟩
  rw [← hzl]
  have HZ := Lib.hid hzl
  clear hzl
  go_wp2_with (at_builtin; refine S.wpList_append_sg elS rfl _ _ rfl (base := w2.heap.size) (xs := strV r2) (cs := strV [zl]) rfl rfl (hown6.alloc _) (S.Sg.one w6 9 (.string ⟨zl.toArray⟩)) (strV_one _) (by omega) (by omega) (by simp; omega) ?_)
  intro v7 w7 hown7 hgrow7 _
  have hbb7 := S.below_base (hown6.alloc (.cells #[.string ⟨zl.toArray⟩] 9)) (by simp; omega) hgrow7
  have P7 := (P6.alloc (.cells #[.string ⟨zl.toArray⟩] 9)).below hbb7 (by omega)
  have R7 := (R6.alloc (.cells #[.string ⟨zl.toArray⟩] 9)).below hbb7 (by omega)
  have O7 := (O6.alloc (.cells #[.string ⟨zl.toArray⟩] 9)).below hbb7 (by omega)
  have hA7 := S.own_under (hA6.alloc (.cells #[.string ⟨zl.toArray⟩] 9)) hbb7 hltA
  have hb7 := (hb6.alloc hb6.size (.cells #[.string ⟨zl.toArray⟩] 9)).trans (hbb7.mono (by omega))
  have hz7 : w2.heap.size ≤ w7.heap.size := Nat.le_trans (Nat.le_trans hz6 (by simp)) hbb7.size
  have hownB := own_str (b := [zl]) hown7
  obtain ⟨A8, cap8, rfl, hc8⟩ := Sg_form (S.Sg.of_own hown7)
  clear hbb7 P6 R6 O6 hA6 hb6 hown6 hown7 hz6 hgrow7 P7
  obtain ⟨_, o0, o1, o2, of0, of1, of2⟩ := id O7
  obtain ⟨_, q0, q1, q2, qf0, qf1, qf2⟩ := id R7
  have R8 := (R7.other (q := o) (by omega) 2 (.slice A8 (r2.length + 1) cap8)).setAll (.slice A1 d.secs.length cap1) (.slice A4 (r1.length + 1) cap4) (.slice A8 (r2.length + 1) cap8)
  have hA8 := S.own_set (S.own_set (S.own_set (S.own_set hA7 (p := o) (by omega) 2 (.slice A8 (r2.length + 1) cap8)) (p := r) (by omega) 0 (.slice A1 d.secs.length cap1)) (p := r) (by omega) 1 (.slice A4 (r1.length + 1) cap4)) (p := r) (by omega) 2 (.slice A8 (r2.length + 1) cap8)
  have hB8 := S.own_set (S.own_set (S.own_set (S.own_set hownB (p := o) (by omega) 2 (.slice A8 (r2.length + 1) cap8)) (p := r) (by omega) 0 (.slice A1 d.secs.length cap1)) (p := r) (by omega) 1 (.slice A4 (r1.length + 1) cap4)) (p := r) (by omega) 2 (.slice A8 (r2.length + 1) cap8)
  have hb8 := (((hb7.setCell (p := ⟨o, 2, none⟩) (by show _ ≤ o; omega) (.slice A8 (r2.length + 1) cap8)).setCell (p := ⟨r, 0, none⟩) (by show _ ≤ r; omega) (.slice A1 d.secs.length cap1)).setCell (p := ⟨r, 1, none⟩) (by show _ ≤ r; omega) (.slice A4 (r1.length + 1) cap4)).setCell (p := ⟨r, 2, none⟩) (by show _ ≤ r; omega) (.slice A8 (r2.length + 1) cap8)
  have HE := Lib.hid (And.intro hA8 hB8)
  have HS := Lib.hid (H1.out.below hb8 hF)
  have nor : ¬ o = r := by omega
  have nro : ¬ r = o := by omega
  clear hA8 hB8 hA7 hownB R7 O7 hb7
  go_wp2_with fail
  refine bodyPost_ret (results_b3_1 rfl _ rfl R8 undDisk rfl infoDisk) rfl ?_
  refine ⟨_, rfl, ⟨_, _, _, rfl, HS.out.wider (fun b h => Or.inl h), ?_, ?_⟩, hb8⟩
  · rw [List.map_append, ← HR.out.1]; exact (S.Sg.of_own HE.out.1).wider (fun b h => Or.inr ⟨by omega, h.2⟩)
  · rw [List.map_append, ← HR.out.2, ← HZ.out]; exact (S.Sg.of_own HE.out.2).wider (fun b h => Or.inr ⟨by omega, h.2⟩)

theorem rwrite_any (v vb : Value) (d : D.Dk) (i : Int) (l : List UInt8) (w : World) (F : Nat → Prop) (hF : ∀ b, F b → b < w.heap.size) (h : Rd w F v d) (G : Nat → Prop) (hG : ∀ b, G b → b < w.heap.size) (hb : SlB w G vb l) (hr : d.row.length ≤ 1000000) (hl : l.length ≤ 1000000) :
    Calls Try.prog 47 #[v, .int .i64 i, vb] w fun e w' => ∃ v', e = .returned (.tuple #[v', .int .i64 (d.bad i l)]) ∧ Rd w' (fun b => F b ∨ S.New w w' b) v' (d.write i l) ∧ Below w.heap.size w w' := by
  by_cases hc : d.there i ∧ l.length ≤ 64
  · obtain ⟨⟨h0, h1⟩, h2⟩ := hc
    obtain ⟨k, rfl⟩ := Int.eq_ofNat_of_zero_le h0
    exact rwrite_yes v vb d k l w F hF h G hG hb hr (by omega) h2
  · exact rwrite_no v vb d i l w F hF h G hb hl hc

end Go.Proofs.Ytfpojbnidoeohaa
