/-
  Walks of the document's disk: a crash, a sync.
-/
import Derived.Test.YtfpojbnidoeohaaVdRef4
namespace Go.Proofs.Ytfpojbnidoeohaa
open Go.RowKit

theorem cell_other {w : World} {a : Addr} {v : Value} (h : w.cell? a = some v) {g : Nat} (hg : g ≠ a.block) (j : Nat) (u : Value) : (w.setCell ⟨g, j, none⟩ u).cell? a = some v :=
  (World.cell?_setCell_other w _ _ u (fun e => hg (congrArg Addr.block e))).trans h

theorem kept_step {row : List (Nat × D.Sec)} {keep : List Bool} {k : Nat} (h : k < row.length) (hk : keep[k]? = some true) : D.kept (row.take (k + 1)) keep = D.kept (row.take k) keep ++ [row[k]] := by
  rw [D.kept_take row keep k h, if_pos hk]
theorem kept_skip {row : List (Nat × D.Sec)} {keep : List Bool} {k : Nat} (h : k < row.length) (hk : ¬ keep[k]? = some true) : D.kept (row.take (k + 1)) keep = D.kept (row.take k) keep := by
  rw [D.kept_take row keep k h, if_neg hk]

set_option maxRecDepth 100000 in
set_option maxHeartbeats 2000000 in
theorem rcrash_any (v vk : Value) (d : D.Dk) (keep : List Bool) (w : World) (F : Nat → Prop) (hF : ∀ b, F b → b < w.heap.size) (h : Rd w F v d) (G : Nat → Prop) (hG : ∀ b, G b → b < w.heap.size) (hk : SlT w G vk keep) (hr : d.row.length ≤ 1000000) (hn : d.secs.length ≤ 1000000) (_hkl : keep.length ≤ 9223372036854775807) (hf : ∀ x ∈ d.row, x.1 < d.secs.length) :
    Calls Try.prog 49 #[v, vk] w fun e w' => ∃ v', e = .returned v' ∧ Rd w' (S.New w w') v' (d.crash keep) ∧ Below w.heap.size w w' := by
  obtain ⟨a, b, c, rfl, h1, h2, h3⟩ := h
  have h2 : S.Sg w F 1 b (d.row.map (·.1)).length (intV (d.row.map (·.1))) := h2
  have h3 : S.Sg w F 1 c (d.row.map (·.2)).length (strV (d.row.map (·.2))) := h3
  rw [List.length_map] at h2 h3
  obtain ⟨A1, cap1, rfl, hc1⟩ := Sg_form h1
  obtain ⟨A2, cap2, rfl, hc2⟩ := Sg_form h2
  obtain ⟨A3, cap3, rfl, hc3⟩ := Sg_form h3
  obtain ⟨Ak, capk, rfl, hck⟩ := Sg_form hk
  have H1 := Lib.hid h1
  have H2 := Lib.hid h2
  have H3 := Lib.hid h3
  have HK := Lib.hid hk
  have HF := Lib.hid hf
  clear h1 h2 h3 hk hf
  have P0 := (B3.new w (.slice A1 d.secs.length cap1) (.slice A2 d.row.length cap2) (.slice A3 d.row.length cap3) 36 rfl).alloc (.cells #[nilV, nilV, nilV] 36)
  have R0 := B3.new (w.alloc (.cells #[.slice A1 d.secs.length cap1, .slice A2 d.row.length cap2, .slice A3 d.row.length cap3] 36)) nilV nilV nilV 36 (g := w.heap.size + 1) (by simp)
  have hb0 := two_new (w := w) (o := .cells #[.slice A1 d.secs.length cap1, .slice A2 d.row.length cap2, .slice A3 d.row.length cap3] 36) (o' := .cells #[nilV, nilV, nilV] 36)
  have hz0 : ((w.alloc (.cells #[.slice A1 d.secs.length cap1, .slice A2 d.row.length cap2, .slice A3 d.row.length cap3] 36)).alloc (.cells #[nilV, nilV, nilV] 36)).heap.size = w.heap.size + 1 + 1 := by simp
  have P0 := Lib.hid P0
  have R0 := Lib.hid R0
  have hz0 := Lib.hid hz0
  go_enter Try.func49, Try.ntmps49
  go_wp2_with (at_builtin; refine S.wpList_append_sg elS rfl _ _ rfl (base := w.heap.size + 1 + 1) (xs := []) (cs := strV d.secs) rfl rfl (S.own_none 9 1 hz0.out.symm (Nat.le_refl _)) (H1.out.below (hb0.alloc hb0.size _) hF) (strV_one _) (by omega) (by omega) (by rw [← hz0.out]; simp) ?_)
  intro v1 w1 hown1 hgrow1 _
  have hbb1 := S.below_base (S.own_none 9 1 hz0.out.symm (Nat.le_refl _)) (by rw [← hz0.out]; simp) hgrow1
  have P1 := (P0.out.alloc (.cells #[] 9)).below hbb1 (by omega)
  have R1 := (R0.out.alloc (.cells #[] 9)).below hbb1 (by omega)
  have hb1 := (hb0.alloc hb0.size (.cells #[] 9)).trans (hbb1.mono (by omega))
  have hz1 : w.heap.size + 1 + 1 ≤ w1.heap.size := Nat.le_trans (Nat.le_trans (Nat.le_of_eq hz0.out.symm) (by simp)) hbb1.size
  obtain ⟨A4, cap4, rfl, hc4⟩ := Sg_form (S.Sg.of_own hown1)
  clear hbb1 P0 R0 hb0 hz0 hgrow1
  have hlt1 : ∀ j, (Value.slice A4 d.secs.length cap4).ownBlock = some j → j < w1.heap.size := fun j hj => (World.ownsRow.lt hown1 j hj).2
  have P2 := P1.alloc (.cells #[.slice A4 d.secs.length cap4, nilV, nilV] 36)
  have R2 := R1.alloc (.cells #[.slice A4 d.secs.length cap4, nilV, nilV] 36)
  have O2 := B3.new w1 (.slice A4 d.secs.length cap4) nilV nilV 36 rfl
  have hb2 := hb1.alloc hb1.size (.cells #[.slice A4 d.secs.length cap4, nilV, nilV] 36)
  have hown2 := hown1.alloc (.cells #[.slice A4 d.secs.length cap4, nilV, nilV] 36)
  have hO := hz1
  generalize ho : w1.heap.size = o at *
  clear P1 R1 hb1 hown1 hz1
  go_wp2_with fail
  generalize w1.alloc (.cells #[.slice A4 d.secs.length cap4, nilV, nilV] 36) = w2 at *
  go_loopw [6] (fun i wr => ∃ k : Nat, k ≤ d.row.length ∧ i = .int .i64 k ∧ B3 wr w.heap.size (.slice A1 d.secs.length cap1) (.slice A2 d.row.length cap2) (.slice A3 d.row.length cap3) ∧ B3 wr (w.heap.size + 1) nilV nilV nilV ∧ B3 wr o (.slice A4 d.secs.length cap4) nilV nilV ∧ wr.ownsRow (w.heap.size + 1 + 1) 9 1 (.slice A4 d.secs.length cap4) d.secs.length (strV (D.done d.secs (D.kept (d.row.take k) keep))) ∧ Below w.heap.size w wr) (fun i _ => d.row.length - (intOf i).toNat)
  case atStart => exact ⟨0, Nat.zero_le _, rfl, P2, R2, O2, hown2, hb2⟩
  case round =>
    clear P2 R2 O2 hown2 hb2
    obtain ⟨k, hk, rfl, P, R, O, hown, hb⟩ := hrel
    obtain ⟨_, p0, p1, p2, _⟩ := id P
    obtain ⟨_, o0, o1, o2, _⟩ := id O
    by_cases hlt : k < d.row.length
    · by_cases hkk : k < keep.length
      · obtain ⟨ak, capk', ek, _, habk, hcellk⟩ := Sg_at HK.out k hkk
        cases ek
        have hck' : wr.cell? (ak.add k) = some (.bool keep[k]) := by
          rw [hb.cell (by rw [S.add_block]; exact hG _ habk), hcellk, boolV_at _ _ hkk]
        clear hcellk
        cases hkb : keep[k]
        · have HN := Lib.hid (kept_skip hlt (fun e => by rw [List.getElem?_eq_getElem hkk, hkb] at e; cases e))
          rw [hkb] at hck'
          go_wp2
          go_roundw
          case rel => exact ⟨k + 1, by omega, by go_num, P, R, O, by rw [HN.out]; exact hown, hb⟩
          case measure => simp [intOf]; omega
        · have HN := Lib.hid (kept_step hlt (by rw [List.getElem?_eq_getElem hkk, hkb]))
          rw [hkb] at hck'
          obtain ⟨a2, cap2', e2, _, hab2, hcell2⟩ := Sg_at H2.out k hlt
          obtain ⟨a3, cap3', e3, _, hab3, hcell3⟩ := Sg_at H3.out k hlt
          cases e2
          cases e3
          have hc2' : wr.cell? (a2.add k) = some (.int .i64 (d.row[k].1 : Int)) := by
            rw [hb.cell (by rw [S.add_block]; exact hF _ hab2), hcell2, intV_at _ _ (by simp; omega), List.getElem_map]
          have hc3' : wr.cell? (a3.add k) = some (.string ⟨d.row[k].2.toArray⟩) := by
            rw [hb.cell (by rw [S.add_block]; exact hF _ hab3), hcell3, strV_at _ _ (by simp; omega), List.getElem_map]
          clear hcell2 hcell3
          have hx := HF.out d.row[k] (List.getElem_mem hlt)
          obtain ⟨g, cap5, e4, hg1, _⟩ := World.ownsRow.form hown (by omega)
          cases e4
          have hgo : g < o := hlt1 g rfl
          have HN2 := Lib.hid (show D.done d.secs (D.kept (d.row.take (k + 1)) keep) = (D.done d.secs (D.kept (d.row.take k) keep)).set d.row[k].1 d.row[k].2 by rw [HN.out, D.done_snoc])
          have hst := hown.stored d.row[k].1 (.string ⟨d.row[k].2.toArray⟩)
          have hfz := hown.frozenAt d.row[k].1
          obtain ⟨u, hu⟩ : ∃ u, wr.cell? ⟨g, d.row[k].1, none⟩ = some (.string u) := by
            rw [hown.cellAt d.row[k].1 (by omega), strV_at _ _ (by rw [D.done_len]; exact hx)]
            exact ⟨_, rfl⟩
          have hown3 := hst.1
          rw [← strV_set, ← HN2.out] at hown3
          have HO3 := Lib.hid hown3
          clear hown3 hst HN hown
          obtain ⟨x1, hx1⟩ : ∃ x1, x1 = d.row[k].1 := ⟨_, rfl⟩
          obtain ⟨x2, hx2⟩ : ∃ x2, x2 = d.row[k].2 := ⟨_, rfl⟩
          rw [← hx1] at hc2' hx hu hfz HO3
          rw [← hx2] at hc3' HO3
          clear hx1 hx2 HN2
          have hS' := And.intro (cell_other (g := g) o0 (by show g ≠ o; omega) x1 (.string ⟨x2.toArray⟩)) (And.intro (cell_other (g := g) p1 (by show g ≠ w.heap.size; omega) x1 (.string ⟨x2.toArray⟩)) (And.intro (cell_other (g := g) hc2' (by rw [S.add_block]; have := hF _ hab2; omega) x1 (.string ⟨x2.toArray⟩)) (And.intro (cell_other (g := g) p2 (by show g ≠ w.heap.size; omega) x1 (.string ⟨x2.toArray⟩)) (cell_other (g := g) hc3' (by rw [S.add_block]; have := hF _ hab3; omega) x1 (.string ⟨x2.toArray⟩)))))
          have P' := P.other (q := g) (by omega) x1 (.string ⟨x2.toArray⟩)
          have R' := R.other (q := g) (by omega) x1 (.string ⟨x2.toArray⟩)
          have O' := O.other (q := g) (by omega) x1 (.string ⟨x2.toArray⟩)
          have hb' := hb.setCell (p := ⟨g, x1, none⟩) (by show _ ≤ g; omega) (.string ⟨x2.toArray⟩)
          have HP := Lib.hid (And.intro P' (And.intro R' O'))
          clear P' R' O' P R O
          have i0 : (0 : Int) ≤ (x1 : Int) := by omega
          have i1 : (x1 : Int) < (d.secs.length : Int) := by omega
          have i2 : (0 : Int) ≤ (k : Int) := by omega
          have i3 : (k : Int) < (d.row.length : Int) := by omega
          go_wp2_with fail
          go_region_held3 (fun w' => w'.cell? ⟨o, 0, none⟩ = some (.slice (some ⟨g, 0, none⟩) d.secs.length cap4) ∧ w'.cell? ⟨w.heap.size, 1, none⟩ = some (.slice (some a2) d.row.length cap2) ∧ w'.cell? (a2.add k) = some (.int .i64 (x1 : Int)) ∧ w'.cell? ⟨w.heap.size, 2, none⟩ = some (.slice (some a3) d.row.length cap3) ∧ w'.cell? (a3.add k) = some (.string ⟨x2.toArray⟩))
            (first | exact hS' | assumption | go_keep)
            (fail)
          all_goals (try go_wp2)
          all_goals go_roundw
          case rel => exact ⟨k + 1, by omega, by go_num, HP.out.1.drew, HP.out.2.1.drew, HP.out.2.2.drew, HO3.out.drew, hb'.drew⟩
          case measure => simp [intOf]; omega
      · have HN := Lib.hid (kept_skip hlt (fun e => by have := (List.getElem?_eq_some_iff.1 e).1; exact hkk this))
        go_wp2
        go_roundw
        case rel => exact ⟨k + 1, by omega, by go_num, P, R, O, by rw [HN.out]; exact hown, hb⟩
        case measure => simp [intOf]; omega
    · obtain rfl : k = d.row.length := by omega
      obtain ⟨_, q0, q1, q2, qf0, qf1, qf2⟩ := id R
      have R4 := R.setAll (.slice A4 d.secs.length cap4) nilV nilV
      have hown4 := S.own_set (S.own_set (S.own_set hown (p := w.heap.size + 1) (by omega) 0 (.slice A4 d.secs.length cap4)) (p := w.heap.size + 1) (by omega) 1 nilV) (p := w.heap.size + 1) (by omega) 2 nilV
      have hb4 := ((hb.setCell (p := ⟨w.heap.size + 1, 0, none⟩) (by show _ ≤ w.heap.size + 1; omega) (.slice A4 d.secs.length cap4)).setCell (p := ⟨w.heap.size + 1, 1, none⟩) (by show _ ≤ w.heap.size + 1; omega) nilV).setCell (p := ⟨w.heap.size + 1, 2, none⟩) (by show _ ≤ w.heap.size + 1; omega) nilV
      go_wp2_with fail
      refine bodyPost_ret (results_b3 rfl _ rfl R4 undDisk rfl infoDisk) rfl ?_
      refine ⟨_, rfl, ⟨_, _, _, rfl, ?_, S.Sg.nil .., S.Sg.nil ..⟩, hb4⟩
      rw [List.take_length] at hown4
      have := (S.Sg.of_own hown4).wider (G := S.New w _) (fun b h => ⟨by omega, h.2⟩)
      rw [SlS, D.crash_len]
      exact this

end Go.Proofs.Ytfpojbnidoeohaa
