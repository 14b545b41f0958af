/-
  Walks of the document's chain: with, Read, Write.
-/
import Derived.Test.YtpppjipelcfnkaaChRef2
namespace Go.Proofs.Ytpppjipelcfnkaa
open Go.RowKit

theorem four_cells {w : World} {g o : Nat} {u1 u2 u3 : Value} (y1 : w.cell? ⟨g, o + 1, none⟩ = some u1) (y2 : w.cell? ⟨g, o + 2, none⟩ = some u2) (y3 : w.cell? ⟨g, o + 3, none⟩ = some u3)
    (z1 : w.frozen? ⟨g, o + 1, none⟩ = false) (z2 : w.frozen? ⟨g, o + 2, none⟩ = false) (z3 : w.frozen? ⟨g, o + 3, none⟩ = false) (a b c : Value) :
    (w.setCell ⟨g, o, none⟩ a).cell? ⟨g, o + 1, none⟩ = some u1 ∧ ((w.setCell ⟨g, o, none⟩ a).setCell ⟨g, o + 1, none⟩ b).cell? ⟨g, o + 2, none⟩ = some u2 ∧ (((w.setCell ⟨g, o, none⟩ a).setCell ⟨g, o + 1, none⟩ b).setCell ⟨g, o + 2, none⟩ c).cell? ⟨g, o + 3, none⟩ = some u3 ∧
    (w.setCell ⟨g, o, none⟩ a).frozen? ⟨g, o + 1, none⟩ = false ∧ ((w.setCell ⟨g, o, none⟩ a).setCell ⟨g, o + 1, none⟩ b).frozen? ⟨g, o + 2, none⟩ = false ∧ (((w.setCell ⟨g, o, none⟩ a).setCell ⟨g, o + 1, none⟩ b).setCell ⟨g, o + 2, none⟩ c).frozen? ⟨g, o + 3, none⟩ = false := by
  have ne : ∀ i j : Nat, i ≠ j → (⟨g, i, none⟩ : Addr) ≠ ⟨g, j, none⟩ := fun i j h e => by cases e; exact h rfl
  refine ⟨?_, ?_, ?_, ?_, ?_, ?_⟩
  · rw [World.cell?_setCell_other _ _ _ _ (ne _ _ (by omega))]; exact y1
  · rw [World.cell?_setCell_other _ _ _ _ (ne _ _ (by omega)), World.cell?_setCell_other _ _ _ _ (ne _ _ (by omega))]; exact y2
  · rw [World.cell?_setCell_other _ _ _ _ (ne _ _ (by omega)), World.cell?_setCell_other _ _ _ _ (ne _ _ (by omega)), World.cell?_setCell_other _ _ _ _ (ne _ _ (by omega))]; exact y3
  · simpa using z1
  · simpa using z2
  · simpa using z3
theorem infoVr : (Try.prog.info? 76).map (·.size) = some 4 := by kernel_rfl

set_option maxRecDepth 100000 in
set_option maxHeartbeats 2000000 in
theorem rwith10_any {w : World} {F : Nat → Prop} {v : Value} {c : Cn.Ch} (h : SlC w F v c) (hF : ∀ b, F b → b < w.heap.size) (hl : c.length ≤ 1000000) {k : Nat} (hk : k < c.length) (x : Cn.Vr) :
    Calls Try.prog 63 #[v, .int .i64 (k : Int), verA x] w fun e w' => ∃ v', e = .returned v' ∧ SlC w' (S.New w w') v' (c.set k x) ∧ Below w.heap.size w w' := by
  have HS := Lib.hid h
  obtain ⟨A, cap, rfl, hcap⟩ := SlC.form h
  clear h
  have hk0 : (0 : Int) ≤ (k : Int) := by omega
  have hk1 : (k : Int) < (c.length : Int) := by omega
  have X0 := (Bk.new w [.int .i64 x.ts, .int .i64 x.rd, .string x.val, .bool x.done] 76 rfl).alloc (.cells #[] 76)
  have hb2 : Below w.heap.size w ((w.alloc (.cells #[.int .i64 x.ts, .int .i64 x.rd, .string x.val, .bool x.done] 76)).alloc (.cells #[] 76)) := ((Below.refl _ _).alloc (Nat.le_refl _) _).alloc (by simp) _
  have hsl := HS.out.below hb2 hF
  have hown0 : ((w.alloc (.cells #[.int .i64 x.ts, .int .i64 x.rd, .string x.val, .bool x.done] 76)).alloc (.cells #[] 76)).ownsRow (w.heap.size + 1) 76 4 (.slice (some ⟨w.heap.size + 1, 0, none⟩) 0 0) 0 [] := S.own_none (w := (w.alloc (.cells #[.int .i64 x.ts, .int .i64 x.rd, .string x.val, .bool x.done] 76))) _ _ (by simp) (Nat.le_refl _)
  have hz2 : ((w.alloc (.cells #[.int .i64 x.ts, .int .i64 x.rd, .string x.val, .bool x.done] 76)).alloc (.cells #[] 76)).heap.size = w.heap.size + 2 := by simp
  unfold verA
  go_enter Try.func63, Try.ntmps63
  go_wp2_with (at_builtin; refine S.wpList_append_sg elVr rfl _ _ rfl (base := w.heap.size + 1) (n := 0) (m := c.length) (xs := []) (cs := verV c) rfl rfl hown0 hsl (verV_one _) (by omega) (by omega) (by omega) ?_)
  intro v4 w4 hown4 hgrow4 _
  have hb4 := S.below_base hown0 (by omega) hgrow4
  have X4 := X0.below hb4 (by omega)
  have hbw4 : Below w.heap.size w w4 := hb2.trans (hb4.mono (by omega))
  have hown4 : w4.ownsRow (w.heap.size + 1) 76 4 v4 c.length (verV c) := by simpa using hown4
  obtain ⟨g, cap4, cur, rfl, hg, hcap4, _, _, _⟩ := V.own_form hown4 (by omega)
  have hgb : w.heap.size + 1 ≤ g := (World.ownsRow.lt hown4 g rfl).1
  have hcl : ∀ j, j < 4 → ∃ u, w4.cell? ⟨g, k * 4 + j, none⟩ = some u := fun j hj => ⟨_, V.own_cell hown4 (List.getElem?_eq_getElem (by rw [verV_length]; omega))⟩
  obtain ⟨u0, y0⟩ : ∃ u, w4.cell? ⟨g, k * 4, none⟩ = some u := hcl 0 (by decide)
  obtain ⟨u1, y1⟩ := hcl 1 (by decide)
  obtain ⟨u2, y2⟩ := hcl 2 (by decide)
  obtain ⟨u3, y3⟩ := hcl 3 (by decide)
  have z0 := V.own_frozen hown4 (k * 4)
  have z1 := V.own_frozen hown4 (k * 4 + 1)
  have z2 := V.own_frozen hown4 (k * 4 + 2)
  have z3 := V.own_frozen hown4 (k * 4 + 3)
  obtain ⟨Y1, Y2, Y3, Z1, Z2, Z3⟩ := four_cells y1 y2 y3 z1 z2 z3 (.int .i64 x.ts) (.int .i64 x.rd) (.string x.val)
  have x0 := X4.cell 0 _ rfl
  have x1 := X4.cell 1 _ rfl
  have x2 := X4.cell 2 _ rfl
  have x3 := X4.cell 3 _ rfl
  have HSet : Hid (SlC (w4.setCells g (k * 4) (verC x)) (fun b => w.heap.size + 1 ≤ b ∧ b < w4.heap.size) (.slice (some ⟨g, 0, none⟩) c.length cap4) (c.set k x)) := Lib.hid (SlC.set (S.Sg.of_own hown4) hk x)
  have HB : Hid (Below w.heap.size w (w4.setCells g (k * 4) (verC x))) := Lib.hid ((((hbw4.setCell (p := ⟨g, k * 4, none⟩) (by show _ ≤ g; omega) _).setCell (p := ⟨g, k * 4 + 1, none⟩) (by show _ ≤ g; omega) _).setCell (p := ⟨g, k * 4 + 2, none⟩) (by show _ ≤ g; omega) _).setCell (p := ⟨g, k * 4 + 3, none⟩) (by show _ ≤ g; omega) _)
  have HZ : Hid ((w4.setCells g (k * 4) (verC x)).heap.size = w4.heap.size) := Lib.hid (by simp [World.setCells, verC, World.setCell])
  clear hown0 hown4 hsl hgrow4 hb4 X4 X0 hcl hbw4 hb2
  go_wp2_with fail
  go_ret
  refine ⟨_, rfl, S.Sg.wider HSet.out (fun b hb => ⟨by have := hb.1; omega, ?_⟩), HB.out⟩
  have := HZ.out
  have := hb.2
  show b < (w4.setCells g (k * 4) (verC x)).heap.size
  omega

end Go.Proofs.Ytpppjipelcfnkaa
