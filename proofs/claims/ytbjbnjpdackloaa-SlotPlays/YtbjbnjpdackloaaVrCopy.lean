/-
  The program's disk: a copy.
-/
import Derived.Test.YtbjbnjpdackloaaVrSync
namespace Go.Proofs.Ytbjbnjpdackloaa
open Go.RowKit

theorem elSec : S.El Try.prog 62 92 64 64 := by
  obtain ⟨i0, hi, hz0, hz1, hz2⟩ := info_parts Try.infoSec
  exact ⟨Try.underlying62, ⟨i0, _, hi, hz0, hz1, hz2, by simp [Value.cells]⟩, by decide⟩

set_option maxRecDepth 100000 in
theorem clone_secs (v : Value) (n : Nat) (xs : List Value) (w : World) (h : w.ownsRow 0 92 64 v n xs) (h1 : ∀ u ∈ xs, u.oneCell' = true) (hn : 0 < n) (hn' : n ≤ 1024) :
    Calls Try.prog 41 #[v] w fun e w' => ∃ v', e = .returned v' ∧ w'.ownsRow w.heap.size 92 64 v' n xs ∧ Below w.heap.size w w' := by
  have hb0 : Below w.heap.size w (w.alloc (.cells #[] 92)) := (Below.refl _ _).alloc (Nat.le_refl _) _
  have HS := Lib.hid ((S.Sg.of_own h).below hb0 (fun b hb => hb.2))
  obtain ⟨g, cap, _, rfl, _, hc, _⟩ := V.own_form h hn
  clear h
  have heq := Lib.run_eql_slice_nil (P := Try.prog) w 62 92 (some ⟨g, 0, none⟩) n cap 0 0 Try.underlying62
  go_enter Try.func41, Try.ntmps41
  go_wp2_with (at_builtin; refine S.wpList_append_sg elSec rfl _ _ rfl (base := w.heap.size) (xs := []) (cs := xs) rfl rfl (S.own_none 92 64 rfl (Nat.le_refl _)) HS.out h1 (by omega) (by omega) (by simp) ?_)
  intro v1 w1 hown hgrow _
  have hb1 : Below w.heap.size w w1 := hb0.grown hgrow hb0.size (fun j hj => by simp [Value.ownBlock] at hj; omega)
  have HO := Lib.hid hown
  clear hown hgrow
  go_wp2
  go_ret
  exact ⟨_, rfl, HO.out, hb1⟩

set_option maxRecDepth 100000 in
theorem clone_row (v : Value) (n : Nat) (xs : List Value) (w : World) (h : w.ownsRow 0 94 65 v n xs) (h1 : ∀ u ∈ xs, u.oneCell' = true) (hn' : n ≤ 1001) :
    Calls Try.prog 42 #[v] w fun e w' => ∃ v', e = .returned v' ∧ w'.ownsRow w.heap.size 94 65 v' n xs ∧ Below w.heap.size w w' := by
  have hb0 : Below w.heap.size w (w.alloc (.cells #[] 94)) := (Below.refl _ _).alloc (Nat.le_refl _) _
  have HS := Lib.hid ((S.Sg.of_own h).below hb0 (fun b hb => hb.2))
  rcases h.2 with ⟨rfl, rfl⟩ | ⟨g, cap, cur, rfl, _, _, hc, _⟩
  · have hx : xs = [] := List.length_eq_zero_iff.1 (by simpa using h.1)
    have heq := Lib.run_eql_slice_nil (P := Try.prog) w 63 94 none 0 0 0 0 Try.underlying63
    go_enter Try.func42, Try.ntmps42
    go_wp2
    go_ret
    exact ⟨_, rfl, by rw [hx]; exact S.own_nil _ _ _ _, Below.refl _ _⟩
  · clear h
    have heq := Lib.run_eql_slice_nil (P := Try.prog) w 63 94 (some ⟨g, 0, none⟩) n cap 0 0 Try.underlying63
    go_enter Try.func42, Try.ntmps42
    go_wp2_with (at_builtin; refine S.wpList_append_sg elW rfl _ _ rfl (base := w.heap.size) (xs := []) (cs := xs) rfl rfl (S.own_none 94 65 rfl (Nat.le_refl _)) HS.out h1 (by omega) (by omega) (by simp) ?_)
    intro v1 w1 hown hgrow _
    have hb1 : Below w.heap.size w w1 := hb0.grown hgrow hb0.size (fun j hj => by simp [Value.ownBlock] at hj; omega)
    have HO := Lib.hid hown
    clear hown hgrow
    go_wp2
    go_ret
    exact ⟨_, rfl, HO.out, hb1⟩

/-- both cloned, and the new disk laid -/
theorem copy_done {w w2 : World} {F : Nat → Prop} {p : Nat} {vs vr v1 v2 : Value} {d : D.Dk} {b1 b2 : Nat} (h : Dw w F p vs vr d) (hb : Below w.heap.size w w2) (h1 : w2.ownsRow b1 92 64 v1 d.secs.length (secV d.secs)) (h2 : w2.ownsRow b2 94 65 v2 d.row.length (rowV d.row))
    (l1 : w.heap.size ≤ b1) (l2 : w.heap.size ≤ b2) (hd : ∀ j, v2.ownBlock = some j → v1.ownBlock ≠ some j) :
    Hd (w2.alloc (.cells #[v1, v2] 65)) (S.New w (w2.alloc (.cells #[v1, v2] 65))) (.pointer (some ⟨w2.heap.size, 0, none⟩)) d ∧ Below w.heap.size w (w2.alloc (.cells #[v1, v2] 65)) := by
  have hs := hb.size
  have hsz : (w2.alloc (.cells #[v1, v2] 65)).heap.size = w2.heap.size + 1 := by simp
  refine ⟨⟨w2.heap.size, v1, v2, rfl, ?_⟩, hb.alloc hs _⟩
  exact {
    blk := B2.new w2 _ _ _
    fp := ⟨hs, by omega⟩
    secs := V.own_base (h1.alloc _)
    row := V.own_base (h2.alloc _)
    fs := fun j hj => by have := World.ownsRow.lt h1 j hj; exact ⟨⟨by omega, by omega⟩, by omega⟩
    fr := fun j hj => by have := World.ownsRow.lt h2 j hj; exact ⟨⟨by omega, by omega⟩, by omega, hd j hj⟩
    lt := fun b hb => hb.2
    fit := h.fit
    n1 := h.n1
    n2 := h.n2
    r1 := h.r1 }

theorem copy_nil (w : World) : Calls Try.prog 23 #[.pointer none] w fun e w' => e = .returned (.pointer none) ∧ w' = w := by
  go_enter Try.func23, Try.ntmps23
  go_wp2
  go_ret
  exact ⟨rfl, rfl⟩

set_option linter.unusedSimpArgs false in
set_option maxRecDepth 100000 in
set_option maxHeartbeats 2000000 in
theorem copy_any {w : World} {F : Nat → Prop} {v : Value} {d : D.Dk} (h : Hd w F v d) :
    Calls Try.prog 23 #[v] w fun e w' => ∃ v', e = .returned v' ∧ Hd w' (S.New w w') v' d ∧ Below w.heap.size w w' := by
  obtain ⟨p, vs, vr, rfl, h⟩ := h
  have HD := Lib.hid h
  obtain ⟨gs, cs, rfl, hFgs, hgp, hcs⟩ := h.sform
  obtain ⟨A, cr, rfl, hcr⟩ := h.rform
  have c0 := h.blk.c0
  have c1 := h.blk.c1
  clear h
  have HC1 : Hid (∀ w', (w'.cell? ⟨p, 0, none⟩ = some (.slice (some ⟨gs, 0, none⟩) d.secs.length cs) ∧ w'.cell? ⟨p, 1, none⟩ = some (.slice A d.row.length cr) ∧ Below w.heap.size w w') → Calls Try.prog 41 #[.slice (some ⟨gs, 0, none⟩) d.secs.length cs] w' fun e w'' => ∃ v', e = .returned v' ∧ w''.ownsRow w'.heap.size 92 64 v' d.secs.length (secV d.secs) ∧ w.heap.size ≤ w'.heap.size ∧ Below w.heap.size w w'') :=
    Lib.hid fun w' hS => (clone_secs _ _ _ w' (HD.out.keep (fun b g => hS.2.2.block b (HD.out.lt b g)) hS.2.2.size).secs (V.flat_one _ (fun x _ => bytesV_one x)) HD.out.n1 HD.out.n2).mono
      (fun e w'' ⟨v', he, ho, hb⟩ => ⟨v', he, ho, hS.2.2.size, hS.2.2.trans (hb.mono hS.2.2.size)⟩)
  have HC2 : Hid (∀ w', (w'.cell? ⟨p, 0, none⟩ = some (.slice (some ⟨gs, 0, none⟩) d.secs.length cs) ∧ w'.cell? ⟨p, 1, none⟩ = some (.slice A d.row.length cr) ∧ Below w.heap.size w w') → Calls Try.prog 42 #[.slice A d.row.length cr] w' fun e w'' => ∃ v', e = .returned v' ∧ w''.ownsRow w'.heap.size 94 65 v' d.row.length (rowV d.row) ∧ Below w'.heap.size w' w'' ∧ Below w.heap.size w w'') :=
    Lib.hid fun w' hS => (clone_row _ _ _ w' (HD.out.keep (fun b g => hS.2.2.block b (HD.out.lt b g)) hS.2.2.size).row (V.flat_one _ (fun x _ => wrV_one x)) HD.out.r1).mono
      (fun e w'' ⟨v', he, ho, hb⟩ => ⟨v', he, ho, hb, hS.2.2.trans (hb.mono hS.2.2.size)⟩)
  have HP := Lib.hid (HD.out.lt _ HD.out.fp)
  have HK : Hid (∀ w', Below w.heap.size w w' → w'.cell? ⟨p, 0, none⟩ = some (.slice (some ⟨gs, 0, none⟩) d.secs.length cs) ∧ w'.cell? ⟨p, 1, none⟩ = some (.slice A d.row.length cr) ∧ Below w.heap.size w w') :=
    Lib.hid fun w' hb => ⟨(hb.cell HP.out).trans c0, (hb.cell HP.out).trans c1, hb⟩
  have hb0 : Below w.heap.size w w.drew := (Below.refl _ _).drew
  go_enter Try.func23, Try.ntmps23
  go_wp2_with fail
  go_region_held3 (fun w' => w'.cell? ⟨p, 0, none⟩ = some (.slice (some ⟨gs, 0, none⟩) d.secs.length cs) ∧ w'.cell? ⟨p, 1, none⟩ = some (.slice A d.row.length cr) ∧ Below w.heap.size w w')
    (first | exact HK.out _ hb0 | exact HK.out _ hbB | exact HK.out _ hbA | exact HK.out _ (hbB.alloc hbB.size _))
    (first
      | (go_at_call 41
         refine (HC1.out _ (by assumption)).mono ?_
         rintro e wA ⟨v1, rfl, hown1, hl1, hbA⟩
         obtain ⟨A1, cap1, rfl, hc1⟩ := Sg_form (S.Sg.of_own hown1))
      | (go_at_call 42
         refine (HC2.out _ (by assumption)).mono ?_
         rintro e wB ⟨v2, rfl, hown2, hbm, hbB⟩
         obtain ⟨A2, cap2, rfl, hc2⟩ := Sg_form (S.Sg.of_own hown2)))
  all_goals (try go_wp2)
  all_goals go_ret
  have HE := copy_done HD.out hbB (S.own_below hown1 hbm) hown2 hl1 hbA.size (fun j hj e => by have := (World.ownsRow.lt hown1 j e).2; have := (World.ownsRow.lt hown2 j hj).1; omega)
  exact ⟨_, rfl, HE.1, HE.2⟩

end Go.Proofs.Ytbjbnjpdackloaa
