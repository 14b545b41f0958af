/-
  Walks of layer vdisk's laws: a disk of 8 sectors behind deeds, walked.
-/
import Derived.Test.YtbnoocjhlofnoaaVdLaw5
namespace Go.Proofs.Ytbnoocjhlofnoaa
open Go.RowKit

/-- the cells of a deed, as the walk reckons their addresses -/
theorem deed_at {w : World} {G : Nat → Prop} {v : Value} {l : List Deed} (h : Deeds w G v l) (k : Nat) (hk : k < l.length) : ∃ a cap c0 c1 c2 c3, v = .slice (some a) l.length cap ∧ l.length ≤ cap ∧ G a.block ∧
    w.cell? (a.add (k * 4)) = some c0 ∧ w.cell? ⟨(a.add (k * 4)).block, (a.add (k * 4)).off + 1, none⟩ = some c1 ∧ w.cell? ⟨(a.add (k * 4)).block, (a.add (k * 4)).off + 2, none⟩ = some c2 ∧ w.cell? ⟨(a.add (k * 4)).block, (a.add (k * 4)).off + 3, none⟩ = some c3 ∧
    DeedV w G c0 c1 c2 c3 l[k] ∧ l[k].Ok := by
  obtain ⟨A, cap, rfl, hc, ho, hx⟩ := h
  obtain ⟨a, rfl, hg, hx⟩ := hx (fun e => by subst e; simp at hk)
  obtain ⟨c0, c1, c2, c3, h0, h1, h2, h3, hv⟩ := hx k hk
  exact ⟨a, cap, c0, c1, c2, c3, rfl, hc, hg, h0, cell_in (j := 0) h1, cell_in (j := 1) h2, cell_in (j := 2) h3, hv, ho _ (List.getElem_mem hk)⟩

theorem set3_other {w : World} {a : Addr} {v : Value} (h : w.cell? a = some v) {g : Nat} (hg : g ≠ a.block) (u0 u1 u2 : Value) : (((w.setCell ⟨g, 0, none⟩ u0).setCell ⟨g, 1, none⟩ u1).setCell ⟨g, 2, none⟩ u2).cell? a = some v :=
  cell_other (cell_other (cell_other h hg 0 u0) hg 1 u1) hg 2 u2

section
variable {H : World → (Nat → Prop) → Value → D.Dk → Prop}

set_option maxRecDepth 100000 in
set_option maxHeartbeats 4000000 in
theorem run_any (K : DiskOk H) (v : Value) (l : List Deed) (w : World) (G : Nat → Prop) (hd : Deeds w G v l) (hG : ∀ b, G b → b < w.heap.size) (hf : fewM l = true) :
    Calls Try.prog 18 #[v] w fun e w' => ∃ p F, e = .returned p ∧ H w' F p (steps (newD 8) l) ∧ (∀ b, F b → w.heap.size ≤ b) ∧ Below w.heap.size w w' := by
  obtain ⟨hl, hbl⟩ := few_of hf
  have HD := Lib.hid hd
  obtain ⟨A, cap, rfl, hc, ho, _⟩ := hd
  have HN := Lib.hid (K.new 8 w (by omega) (by omega))
  clear ho
  go_enter Try.func18, Try.ntmps18
  go_wp2_with fail
  refine HN.out.mono ?_
  rintro e w1 ⟨p, rfl, hH1, hb1⟩
  have HR := Lib.hid (rnew_any 8 w1 (by omega))
  obtain ⟨pa, rfl⟩ := K.ptr hH1
  clear HN
  go_wp2_with fail
  refine HR.out.mono ?_
  rintro e w2 ⟨x, rfl, hR2, hb2⟩
  obtain ⟨x1, x2, x3, rfl, hL⟩ := Loop.start K hH1 hb1 hR2 hb2
  obtain ⟨B1, f1, B2, f2, B3', f3, e3⟩ := hR2.form
  simp only [Value.agg.injEq] at e3
  have e3' := congrArg Array.toList e3
  simp only [List.cons.injEq, and_true] at e3'
  obtain ⟨rfl, rfl, rfl⟩ := e3'
  clear e3 hR2 HR hH1 hb1 hb2
  go_wp2_with fail
  generalize w2.heap.size = X at *
  go_loopw [5] (fun i wr => ∃ k : Nat, k ≤ l.length ∧ i = .int .i64 k ∧ Loop H w X (.pointer (some pa)) (steps (newD 8) (l.take k)) wr) (fun i _ => l.length - (intOf i).toNat)
  case atStart => exact ⟨0, Nat.zero_le _, rfl, hL⟩
  case round =>
    clear hL
    obtain ⟨k, hk, rfl, ⟨⟨F, R, x1, x2, x3, hB, hX3, nF, nR, hF⟩, hbl2, hX⟩⟩ := hrel
    by_cases hlt : k < l.length
    · obtain ⟨a, cap', c0, c1, c2, c3, e1, _, hga, d0, d1, d2, d3, hv, hok⟩ := deed_at (HD.out.below hbl2 hG) k hlt
      cases e1
      have HO : Hid (∀ wd, Below wr.heap.size wr wd → Calls Try.prog 13 #[.pointer (some pa), .agg #[x1, x2, x3], .agg #[c0, c1, c2, c3]] wd (Did H wd F R (.pointer (some pa)) (steps (newD 8) (l.take (k + 1))))) := Lib.hid (fun wd hbd => by
        rw [steps_take _ _ _ hlt]
        refine do_any K (.pointer (some pa)) (.agg #[x1, x2, x3]) _ c0 c1 c2 c3 l[k] wd F R G ⟨K.below hB.real hbd, hB.ref.below hbd hB.rlt, fun b h => Nat.lt_of_lt_of_le (hB.rlt b h) hbd.size, hB.off⟩ (hv.keep fun p hp => hbd.cell (Nat.lt_of_lt_of_le (hG _ hp) hbl2.size)) hok (fun b h => Nat.lt_of_lt_of_le (hG b h) (Nat.le_trans hbl2.size hbd.size)) (fun b h g => by have := hG b h; have := hF b g; omega)
          (by have := steps_row (l.take k) (newD 8); simp [newD] at this ⊢; omega) (by have := hbl l[k] (List.getElem_mem hlt); omega))
      obtain ⟨_, y0, y1, y2, _⟩ := id hX3
      obtain ⟨A1, e1, A2, e2, A3, e3, ee⟩ := hB.ref.form
      simp only [Value.agg.injEq] at ee
      have ee' := congrArg Array.toList ee
      simp only [List.cons.injEq, and_true] at ee'
      obtain ⟨rfl, rfl, rfl⟩ := ee'
      obtain ⟨rfl, rfl, hv2, hv3⟩ := hv
      obtain ⟨Ab, capb, rfl, hcb⟩ := Sg_form hv2
      obtain ⟨Ak, capk, rfl, hck⟩ := Sg_form hv3
      have hlt2 : k * 4 < 9223372036854775807 := by omega
      have hgl := hG _ hga
      have hab : (a.add (k * 4)).block = a.block := S.add_block a (k * 4)
      have nga : ¬ F a.block := fun g => by have := hF _ g; omega
      have hwz := hbl2.size
      have HC : Hid (∀ wd w3, Below wr.heap.size wr wd → Turn F wd w3 → ∀ j, w3.cell? ⟨(a.add (k * 4)).block, j, none⟩ = wr.cell? ⟨(a.add (k * 4)).block, j, none⟩) := Lib.hid (fun wd w3 hbd ht j => (ht.cell (p := ⟨(a.add (k * 4)).block, j, none⟩) (show (a.add (k * 4)).block < wd.heap.size by have := hbd.size; omega) (show ¬ F (a.add (k * 4)).block by rw [hab]; exact nga)).trans (hbd.cell (p := ⟨(a.add (k * 4)).block, j, none⟩) (show (a.add (k * 4)).block < wr.heap.size by omega)))
      have HC0 : Hid (∀ wd w3, Below wr.heap.size wr wd → Turn F wd w3 → w3.cell? (a.add (k * 4)) = wr.cell? (a.add (k * 4))) := Lib.hid (fun wd w3 hbd ht => (ht.cell (show (a.add (k * 4)).block < wd.heap.size by have := hbd.size; omega) (show ¬ F (a.add (k * 4)).block by rw [hab]; exact nga)).trans (hbd.cell (show (a.add (k * 4)).block < wr.heap.size by omega)))
      have HL := Lib.hid (fun w3 y F' R' => Loop.next K (w := w) (wr := wr.drew) (w2 := w3) (X := X) (v := .pointer (some pa)) (y := y) (d' := steps (newD 8) (l.take (k + 1))) (F := F) (R := R) (F' := F') (R' := R') hX3.lt hX hbl2.drew hX3.drew nF nR hF)
      have hbz : Below wr.heap.size wr (wr.alloc (.cells #[nilV, nilV, nilV] 30)) := (Below.refl _ _).alloc (Nat.le_refl _) _
      have hbd1 := Lib.hid (Below.drew (Below.refl wr.heap.size wr))
      have hbd2 := Lib.hid hbz.drew
      have mF : ¬ F wr.heap.size := fun g => by have := K.lt hB.real _ g; omega
      have mR : ¬ R wr.heap.size := fun g => by have := hB.rlt _ g; omega
      have HL2 := Lib.hid (fun w3 y F' R' => Loop.next' K (w := w) (wr := (wr.alloc (.cells #[nilV, nilV, nilV] 30)).drew) (w2 := w3) (X := X) (Y := wr.heap.size) (v := .pointer (some pa)) (y := y) (d' := steps (newD 8) (l.take (k + 1))) (F := F) (R := R) (F' := F') (R' := R') (hX3.alloc _).lt hX hX3.lt (below_two hbl2 hbz).drew (hX3.alloc _).drew (B3.new wr nilV nilV nilV 30 rfl).drew nF nR mF mR hF)
      have hxl := hX3.lt
      have nXY : wr.heap.size ≠ X := by omega
      have nAY : wr.heap.size ≠ (a.add (k * 4)).block := by omega
      clear hbz
      clear hab hv2 hv3 hB hX3 hok
      go_wp2_with fail
      generalize hm1 : (steps (newD 8) (l.take k)).secs.length = m1 at *
      generalize hm2 : (steps (newD 8) (l.take k)).row.length = m2 at *
      go_region_held3 (fun w' => w'.cell? ⟨X, 0, none⟩ = some (.slice A1 m1 e1) ∧ w'.cell? ⟨X, 1, none⟩ = some (.slice A2 m2 e2) ∧ w'.cell? ⟨X, 2, none⟩ = some (.slice A3 m2 e3) ∧ w'.cell? (a.add (k * 4)) = some (.int .i64 l[k].kind) ∧ w'.cell? ⟨(a.add (k * 4)).block, (a.add (k * 4)).off + 1, none⟩ = some (.int .i64 l[k].at_) ∧ w'.cell? ⟨(a.add (k * 4)).block, (a.add (k * 4)).off + 2, none⟩ = some (.slice Ab l[k].b.length capb) ∧ w'.cell? ⟨(a.add (k * 4)).block, (a.add (k * 4)).off + 3, none⟩ = some (.slice Ak l[k].keep.length capk))
        (first | assumption | go_keep)
        (first
          | (go_at_call 13
             (with_reducible refine (HO.out _ hbd1.out).mono ?_)
             rintro e w3 ⟨y, F', R', rfl, hB', hF', hR', ht⟩
             obtain ⟨C1, n1, g1, C2, n2, g2, C3, n3, g3, rfl, hX4, hb4, hLn⟩ := HL.out w3 y F' R' hB' hF' hR' ht
             have hA := And.intro hX4.c0 (And.intro hX4.c1 (And.intro hX4.c2 (And.intro ((HC0.out _ w3 hbd1.out ht).trans d0) (And.intro ((HC.out _ w3 hbd1.out ht _).trans d1) (And.intro ((HC.out _ w3 hbd1.out ht _).trans d2) ((HC.out _ w3 hbd1.out ht _).trans d3))))))
             have hXl := hX4.lt
             have hf0 := hX4.f0
             have hf1 := hX4.f1
             have hf2 := hX4.f2)
          | (go_at_call 13
             (with_reducible refine (HO.out _ hbd2.out).mono ?_)
             rintro e w3 ⟨y, F', R', rfl, hB', hF', hR', ht⟩
             obtain ⟨C1, n1, g1, C2, n2, g2, C3, n3, g3, rfl, hX4, hY4, hb4, hLn⟩ := HL2.out w3 y F' R' hB' hF' hR' ht
             have hA := And.intro hX4.c0 (And.intro hX4.c1 (And.intro hX4.c2 (And.intro ((HC0.out _ w3 hbd2.out ht).trans d0) (And.intro ((HC.out _ w3 hbd2.out ht _).trans d1) (And.intro ((HC.out _ w3 hbd2.out ht _).trans d2) ((HC.out _ w3 hbd2.out ht _).trans d3))))))
             have hXl := hX4.lt
             have hf0 := hX4.f0
             have hf1 := hX4.f1
             have hf2 := hX4.f2
             obtain ⟨hyl, ya, yb, yc, yf0, yf1, yf2⟩ := id hY4
             have hA' := And.intro (set3_other hA.1 nXY (.slice C1 n1 g1) (.slice C2 n2 g2) (.slice C3 n3 g3)) (And.intro (set3_other hA.2.1 nXY (.slice C1 n1 g1) (.slice C2 n2 g2) (.slice C3 n3 g3)) (And.intro (set3_other hA.2.2.1 nXY (.slice C1 n1 g1) (.slice C2 n2 g2) (.slice C3 n3 g3)) (And.intro (set3_other hA.2.2.2.1 nAY (.slice C1 n1 g1) (.slice C2 n2 g2) (.slice C3 n3 g3)) (And.intro (set3_other hA.2.2.2.2.1 nAY (.slice C1 n1 g1) (.slice C2 n2 g2) (.slice C3 n3 g3)) (And.intro (set3_other hA.2.2.2.2.2.1 nAY (.slice C1 n1 g1) (.slice C2 n2 g2) (.slice C3 n3 g3)) (set3_other hA.2.2.2.2.2.2 nAY (.slice C1 n1 g1) (.slice C2 n2 g2) (.slice C3 n3 g3)))))))))
      · go_wp2_with fail
        go_roundw
        case rel => exact ⟨k + 1, by omega, by go_num, hLn⟩
        case measure => simp [intOf]; omega
      · go_wp2_with fail
        go_roundw
        case rel => exact ⟨k + 1, by omega, by go_num, hLn⟩
        case measure => simp [intOf]; omega
    · obtain rfl : k = l.length := by omega
      rw [List.take_length] at hB
      have hR := hB.real
      go_wp2_with fail
      go_ret
      exact ⟨_, F, rfl, hR, hF, hbl2⟩
end

end Go.Proofs.Ytbnoocjhlofnoaa
