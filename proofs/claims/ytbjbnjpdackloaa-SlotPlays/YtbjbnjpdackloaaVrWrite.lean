/-
  The program's disk: a write.
-/
import Derived.Test.YtbjbnjpdackloaaVrNew
import Derived.Deep.WholeRow
import Derived.Great.BuildSlice
namespace Go.Proofs.Ytbjbnjpdackloaa
open Go.RowKit

/-- a write's cells before any byte is laid -/
def wz (i : Int) : Array Value := (Value.int .i64 i :: List.replicate 64 (.int .u8 0)).toArray

theorem wz_size (i : Int) : (wz i).size = 65 := by simp [wz]
theorem wz_one (i : Int) : (wz i).all (·.oneCell') = true := by
  refine all_oneCell_toArray fun v hv => ?_
  rcases List.mem_cons.1 hv with rfl | hv
  · rfl
  · rw [(List.mem_replicate.1 hv).2]; rfl

theorem Try.infoWr : (Try.prog.info? 94).map (fun i => (i.zero, i.size)) = some (some (.agg (wz 0)), 65) := by kernel_rfl
theorem zeroWr : ∀ w, (zeroValue 94).run Try.prog w = .ok (.agg (wz 0)) w := (zero_of_info Try.infoWr).1
theorem sizeWr : (Try.prog.info? 94).map (·.size) = some 65 := (zero_of_info Try.infoWr).2
theorem buildWr (i : Int) (w : World) : (Instr.build 94 #[(0, .int .i64 i)]).run Try.prog w = .ok (.agg (wz i)) w := run_build w _ _ _ (by kernel_rfl)

theorem wz_set (i : Int) : (wz 0).toList.set 0 (.int .i64 i) = (wz i).toList := by simp [wz]
theorem wz_splice (i : Nat) (l : List UInt8) : splice (wz i).toList 1 (bytesV l) = wrV (i, D.full l) := by
  rw [wrV, D.full, bytesV_append, bytesV_zeros, splice, bytesV_length]
  rw [show (wz i).toList = .int .i64 i :: List.replicate 64 (.int .u8 0) from rfl, List.take_succ_cons, List.take_zero, Nat.add_comm 1, List.drop_succ_cons, List.drop_replicate]
  rfl

/-- the local variable made, and laid -/
theorem store_wz (i : Int) (w : World) : ∃ w1, (storeCells ⟨w.heap.size, 0, none⟩ ((wz 0).toList.set 0 (.int .i64 i))).run Try.prog (w.alloc (.cells (wz 0) 94)) = .ok () w1 ∧ w1.heap[w.heap.size]? = some (.cells (wz i) 94 (0, 0)) ∧ Below w.heap.size w w1 := by
  have hg : (w.alloc (.cells (wz 0) 94)).heap[w.heap.size]? = some (.cells (wz 0) 94 (0, 0)) := heap_alloc_new w _
  have h := run_storeCells_from (P := Try.prog) w.heap.size 94 (wz i).toList 0 (wz 0) _ hg (by simp [wz_size]) (fun v hv => (Array.all_eq_true_iff_forall_mem.1 (wz_one i)) v (by simpa using hv))
  rw [wz_set]
  refine ⟨_, by simpa using h, setRow_heap _ _ _ _ _ _ hg, below_setRow ((Below.refl _ _).alloc (Nat.le_refl _) _) (Nat.le_refl _) _⟩

theorem fold_over (X : List Value) : ∀ (o : Nat) (Z : Array Value), o + X.length ≤ Z.size → ((X.zipIdx o).foldl (fun cs (c, j) => cs.setIfInBounds j c) Z).toList = splice Z.toList o X := by
  induction X with
  | nil => intro o Z h; simp [splice]
  | cons x r ih =>
    intro o Z h
    rw [List.zipIdx_cons, List.foldl_cons, ih (o + 1) _ (by simp at h ⊢; omega)]
    have e := list_seg_step Z.toList o x r (by simp at h ⊢; omega)
    rw [splice, splice, ← List.append_assoc, ← List.append_assoc, Array.toList_setIfInBounds]
    simpa [Nat.add_assoc] using e

theorem elW : S.El Try.prog 63 94 65 72 := by
  obtain ⟨i0, hi, hz0, hz1, hz2⟩ := info_parts (show (Try.prog.info? 94).map (fun i => (i.zero, i.size, i.bytes)) = some (some (.agg (wz 0)), 65, 72) by kernel_rfl)
  exact ⟨Try.underlying63, ⟨i0, _, hi, hz0, hz1, hz2, wz_size 0⟩, by decide⟩

theorem buildS (X : Array Value) (hX : X.size = 65) (w : World) : (Instr.buildSlice 63 1 #[(0, .agg X)]).run Try.prog w = .ok (.slice (some ⟨w.heap.size, 0, none⟩) 1 1) (w.alloc (.cells X 94)) := by
  obtain ⟨i, z, hi, hz0, hz1, _, _⟩ := elW.info
  refine run_buildSlice w _ _ 1 _ X i z elW.und hi hz0 (by rw [hz1]; decide) (by rw [hz1]; decide) ?_
  rw [hz1]
  generalize hZ : (Array.range (1 * 65)).map (fun j => z.cells[j % z.cells.size]!) = Z
  have hZs : Z.size = 65 := by rw [← hZ]; simp
  have hf := fold_over X.toList 0 Z (by simp [hX, hZs])
  rw [show splice Z.toList 0 X.toList = X.toList from splice_all _ _ (by simp [hX, hZs])] at hf
  have hf2 : X.zipIdx.foldl (fun cs (x : Value × Nat) => cs.setIfInBounds (0 + x.2) x.1) Z = X := by
    apply Array.toList_inj.1
    rw [← hf, ← Array.foldl_toList, Array.toList_zipIdx]
    simp
  simp only [Instr.fill, Value.cells, hX, hZs, Nat.zero_mul]
  simp only [ne_eq, not_true_eq_false, Nat.zero_add, decide_false, gt_iff_lt, Nat.lt_irrefl, Bool.or_self, Bool.false_eq_true, if_false]
  simpa using hf2

theorem load_row {w : World} {g : Nat} {X : Array Value} (hg : w.heap[g]? = some (.cells X 94 (0, 0))) (hX : X.size = 65) : (Instr.loadAt 94 (.pointer (some ⟨g, 0, none⟩))).run Try.prog w = .ok (.agg X) w := by
  have := run_loadAt_mid (P := Try.prog) w g 0 94 X.toList _ (fun j v hj => by simp [World.cell?, hg]; simpa using hj) Try.underlying94 rfl (by rw [sizeWr]; simp [hX])
  simpa using this

theorem sg_one_row (w : World) (e : TypeId) (X : Array Value) {k : Nat} (hX : X.size = k) : S.Sg (w.alloc (.cells X e)) (fun b => b = w.heap.size) k (.slice (some ⟨w.heap.size, 0, none⟩) 1 1) 1 X.toList :=
  ⟨by simp [hX], _, 1, rfl, Nat.le_refl _, fun _ => ⟨_, rfl, rfl, fun j x hj => by
    rw [Addr.add_mid]
    rw [cell_of_row _ _ _ X e (0, 0) (heap_alloc_new w _), Nat.zero_add]
    simpa using hj⟩⟩

theorem wp_buildS {o : Oper} {a : Act} {w : World} {K : Act → World → Prop} {Q : Exit → Act → World → Prop} (x : Operand) (ho : o.op = .buildSlice 63 1 #[(0, x)]) (X : Array Value) (hX : X.size = 65) (hx : a.eval x = .agg X)
    (h : K (a.put o.dst (.slice (some ⟨w.heap.size, 0, none⟩) 1 1)) (w.alloc (.cells X 94))) : o.wp Try.prog a w K Q := by
  unfold Oper.wp execOp
  have e : (#[(0, x)].map fun (i, x) => (i, a.eval x)) = #[(0, .agg X)] := by simp [hx]
  simp only [ho, e, Sem.run_bind, buildS X hX w, Result.andThen_ok]
  exact h

/-- the row grown by one write -/
theorem Dw.grow {w w2 w3 : World} {F : Nat → Prop} {p : Nat} {vs vr v3 : Value} {d : D.Dk} {x : Nat × D.Sec} (h : Dw w F p vs vr d) (hb : Below w.heap.size w w2) (hown : w3.ownsRow 0 94 65 v3 (d.row.length + 1) (rowV d.row ++ wrV x)) (hg : w2.grownBy w3 vr.ownBlock)
    (hbl : v3.ownBlock = vr.ownBlock ∨ v3.ownBlock = some w2.heap.size) (fit : (⟨d.secs, d.row ++ [x]⟩ : D.Dk).Fit) (hr : d.row.length ≤ 1000) :
    Dw (w3.setCell ⟨p, 1, none⟩ v3) (More F w (w3.setCell ⟨p, 1, none⟩ v3)) p vs v3 ⟨d.secs, d.row ++ [x]⟩ ∧ Turn F w (w3.setCell ⟨p, 1, none⟩ v3) := by
  have hsz : (w3.setCell ⟨p, 1, none⟩ v3).heap.size = w3.heap.size := by simp [World.setCell]
  have hs2 := hb.size
  have hs3 := hg.size
  have hpl := h.lt p h.fp
  have hk : ∀ b, b < w.heap.size → b ≠ p → vr.ownBlock ≠ some b → (w3.setCell ⟨p, 1, none⟩ v3).heap[b]? = w.heap[b]? := fun b h1 h2 h3 =>
    (Below.heap_setCell w3 ⟨p, 1, none⟩ v3 b h2).trans ((hg.block b (by omega) (fun e => h3 e.symm)).trans (hb.block b h1))
  have B3 : B2 w3 p vs vr := (h.blk.keep (hb.block p hpl) hs2).keep (hg.block p (by omega) (fun e => (h.fr p e.symm).2.1 rfl)) hs3
  refine ⟨{ blk := B3.set1 v3, fp := Or.inl h.fp, secs := ?_, row := ?_, fs := fun j hj => ⟨Or.inl (h.fs j hj).1, (h.fs j hj).2⟩, fr := ?_, lt := ?_, fit := fit, n1 := h.n1, n2 := h.n2, r1 := by simp; omega }, ?_⟩
  · exact V.own_keep h.secs fun j hj => hk j (h.lt j (h.fs j hj).1) (h.fs j hj).2 (fun e => (h.fr j e).2.2 hj)
  · rw [show rowV (d.row ++ [x]) = rowV d.row ++ wrV x by simp [rowV], List.length_append]
    refine V.own_keep hown fun j hj => Below.heap_setCell w3 ⟨p, 1, none⟩ v3 j ?_
    rcases hbl with e | e
    · exact (h.fr j (e ▸ hj)).2.1
    · rw [e] at hj; cases hj; show w2.heap.size ≠ p; omega
  · intro j hj
    rcases hbl with e | e
    · have := h.fr j (e ▸ hj); exact ⟨Or.inl this.1, this.2⟩
    · have hl := (World.ownsRow.lt hown j hj).2
      rw [e] at hj; cases hj
      exact ⟨Or.inr ⟨hs2, by omega⟩, by omega, fun e => by have := h.lt _ (h.fs _ e).1; omega⟩
  · rintro b (hF | hN)
    · have := h.lt b hF; omega
    · exact hN.2
  · exact ⟨by rw [← hb.os, ← hg.os]; rfl, by rw [← hb.tape, ← hg.tape]; rfl, by rw [← hb.output, ← hg.output]; rfl, by omega,
      fun k h1 h2 => hk k h1 (fun e => h2 (e ▸ h.fp)) (fun e => h2 (h.fr k e).1)⟩

set_option linter.unusedSimpArgs false in
set_option maxRecDepth 100000 in
set_option maxHeartbeats 1000000 in
theorem write_yes {w : World} {F : Nat → Prop} {v : Value} {d : D.Dk} (G : Nat → Prop) (vb : Value) (l : List UInt8) (i : Nat) (h : Hd w F v d) (hb : SlB w G vb l) (hG : ∀ b, G b → b < w.heap.size) (hr : d.row.length ≤ 1000) (hl : l.length ≤ 64) (hi : i < d.secs.length) :
    Calls Try.prog 29 #[v, .int .i64 i, vb] w fun e w' => e = .returned (.int .i64 0) ∧ Hd w' (More F w w') v ⟨d.secs, d.row ++ [(i, D.full l)]⟩ ∧ Turn F w w' := by
  have HH := Lib.hid (has_any h (i : Int))
  rw [show decide (d.there (i : Int)) = true from decide_eq_true ⟨by omega, by omega⟩] at HH
  have HD := Lib.hid h
  have HS := Lib.hid hb
  obtain ⟨p, vs, vr, rfl, _⟩ := h
  obtain ⟨Ab, capb, rfl, hcb⟩ := Sg_form hb
  clear hb
  have hzw := zeroWr
  go_enter Try.func29, Try.ntmps29
  go_wp2_with fail
  refine HH.out.mono ?_
  rintro e w0 ⟨rfl, rfl⟩
  clear HH
  obtain ⟨w1, hst, hg1, hb1⟩ := store_wz (i : Int) w0
  have hs1 : w0.heap.size < w1.heap.size := by rcases Array.getElem?_eq_some_iff.1 hg1 with ⟨h, _⟩; exact h
  obtain ⟨w2, r, hcp, hg2, ht2⟩ := copy_run (off := 1) 3 64 64 hg1 (HS.out.below hb1 hG) hl (by rw [wz_size]; omega)
  rw [wz_splice i l] at hg2
  have hb2 : Below w0.heap.size w0 w2 := hb1.trans (ht2.below (by omega) (fun b hb => by omega))
  obtain ⟨X, hX⟩ : ∃ X, X = (wrV (i, D.full l)).toArray := ⟨_, rfl⟩
  rw [← hX] at hg2
  have hXs : X.size = 65 := by rw [hX]; simp [wrV, bytesV_length, D.full_len hl]
  have HX := Lib.hid hX
  have HG2 := Lib.hid hg2
  have hs2 := ht2.size
  clear hX hg1 ht2 hb1 hg2
  obtain ⟨p', vs', vr', e', HW⟩ := HD.out
  cases e'
  have HW2 := HW.keep (fun b g => hb2.block b (HW.lt b g)) hb2.size
  have hp := HW.lt _ HW.fp
  obtain ⟨A, cr, rfl, hcr⟩ := HW2.rform
  have HL := Lib.hid (load_row (w := w2.drew) HG2.out hXs)
  have c1 := HW2.blk.c1
  have HW3 := HW2.keep (w' := w2.alloc (.cells X 94)) (fun b g => ((Below.refl w2.heap.size w2).alloc (Nat.le_refl _) (.cells X 94)).block b (HW2.lt b g)) (by simp)
  have c1' := HW3.blk.c1
  have HO : Hid ((w2.alloc (.cells X 94)).drew.ownsRow 0 94 65 (.slice A d.row.length cr) d.row.length (rowV d.row)) := Lib.hid HW3.row
  have HB := Lib.hid HW3
  have HS1 : Hid (S.Sg (w2.alloc (.cells X 94)).drew (fun b => b = w2.heap.size) 65 (.slice (some ⟨w2.heap.size, 0, none⟩) 1 1) 1 X.toList) := Lib.hid (sg_one_row w2 94 X hXs)
  have HF := Lib.hid HW.lt
  have HD' := HW
  have hfit : (⟨d.secs, d.row ++ [(i, D.full l)]⟩ : D.Dk).Fit := by
    have := HW.fit.write i l
    rw [D.Dk.write, if_pos ⟨⟨by omega, by omega⟩, hl⟩] at this
    exact this
  have HX1 : Hid (∀ u ∈ X.toList, u.oneCell' = true) := Lib.hid (by rw [HX.out]; exact wrV_one _)
  have hbS := buildS X hXs
  have hld := HL.out
  clear HW2 HW3 HW HL
  go_wp2_with fail
  have hrg : w2.drew.rangeAt w0.heap.size 0 X.toList := (World.rangeAt_drew w2 _ _ _).2 fun j v hj => by rw [Nat.zero_add, cell_of_row _ _ _ X 94 (0, 0) HG2.out]; simpa using hj
  refine wp_region_held_drew (S := fun w' => w'.rangeAt w0.heap.size 0 X.toList) (by kernel_rfl) hrg (fun hHeld => ?_)
  refine wpAnyH_take (i := 0) (v := .pointer (some ⟨p, 0, none⟩)) rfl (by kernel_rfl) (by kernel_rfl) (by kernel_rfl) (fun _ _ _ h => h) (Or.inl ⟨by rfl, fun w _ => by go_simp⟩) hHeld ?_
  try simp only [Act.put, List.setIfInBounds_toArray, List.set_cons_zero, List.set_cons_succ]
  refine wpAnyH_take (i := 1) (v := .pointer (some ⟨p, 0, none⟩)) rfl (by kernel_rfl) (by kernel_rfl) (by kernel_rfl) (fun _ _ _ h => h) (Or.inl ⟨by rfl, fun w _ => by go_simp⟩) hHeld ?_
  try simp only [Act.put, List.setIfInBounds_toArray, List.set_cons_zero, List.set_cons_succ]
  refine wpAnyH_take (i := 2) (v := .pointer (some ⟨p, 0, none⟩)) rfl (by kernel_rfl) (by kernel_rfl) (by kernel_rfl) (fun _ _ _ h => h) (Or.inl ⟨by rfl, fun w _ => by go_simp⟩) hHeld ?_
  try simp only [Act.put, List.setIfInBounds_toArray, List.set_cons_zero, List.set_cons_succ]
  refine wpAnyH_take (i := 3) (v := .pointer (some ⟨p, 1, none⟩)) rfl (by kernel_rfl) (by kernel_rfl) (by kernel_rfl) (fun _ _ _ h => h) (Or.inl ⟨by rfl, fun w _ => by go_simp⟩) hHeld ?_
  try simp only [Act.put, List.setIfInBounds_toArray, List.set_cons_zero, List.set_cons_succ]
  refine wpAnyH_take (i := 5) (v := .agg X.toList.toArray) rfl (by kernel_rfl) (by kernel_rfl) (by kernel_rfl) (fun _ _ _ h => h) (yieldsIf_load_mid (by rfl) 94 _ rfl w0.heap.size 0 rfl X.toList _ (fun _ h => h) Try.underlying94 rfl (by rw [sizeWr, Array.length_toList, hXs])) hHeld ?_
  simp only [Act.put, List.setIfInBounds_toArray, List.set_cons_zero, List.set_cons_succ, Array.toArray_toList]
  have hal : (w2.alloc (.cells X 94)).drew.rangeAt w0.heap.size 0 X.toList := World.rangeAt_alloc hrg _
  refine wpAnyH_ready (rs := [4, 6]) (by kernel_rfl) (by simp) ?_
  refine AllReadyH.cons rfl (fun K hK => ?_) (AllReadyH.cons rfl (fun K hK => ?_) AllReadyH.nil)
  case' refine_1 =>
    go_simp
    refine hK.out _ _ hrg (fun hHeld => ?_)
    clear hK K
    try simp only [Act.put, List.setIfInBounds_toArray, List.set_cons_zero, List.set_cons_succ]
    refine wpAnyH_ready (rs := [6]) (by kernel_rfl) (by simp) (AllReadyH.cons rfl (fun K hK => ?_) AllReadyH.nil)
    rw [if_pos (by rfl)]
    refine wp_buildS _ rfl X hXs rfl ?_
    refine hK.out _ _ hal (fun hHeld => ?_)
    clear hK K
    try simp only [Act.put, List.setIfInBounds_toArray, List.set_cons_zero, List.set_cons_succ]
  case' refine_2 =>
    rw [if_pos (by rfl)]
    refine wp_buildS _ rfl X hXs rfl ?_
    refine hK.out _ _ hal (fun hHeld => ?_)
    clear hK K
    try simp only [Act.put, List.setIfInBounds_toArray, List.set_cons_zero, List.set_cons_succ]
    refine wpAnyH_ready (rs := [4]) (by kernel_rfl) (by simp) (AllReadyH.cons rfl (fun K hK => ?_) AllReadyH.nil)
    go_simp
    refine hK.out _ _ hal (fun hHeld => ?_)
    clear hK K
    try simp only [Act.put, List.setIfInBounds_toArray, List.set_cons_zero, List.set_cons_succ]
  all_goals
    refine wpAnyH_ready (rs := [7]) (by kernel_rfl) (by simp) (AllReadyH.cons rfl (fun K hK => ?_) AllReadyH.nil)
    refine S.step_append_sg elW (by rfl) _ _ (by rfl) (base := 0) (xs := rowV d.row) (cs := X.toList) (n := d.row.length) (by rfl) (by rfl) HO.out HS1.out HX1.out (by omega) (by omega) (Nat.zero_le _) ?_
    intro v3 w3 hown3 hgrow3 hbl
    obtain ⟨_, A3, cap3, rfl, hc3, _⟩ := S.Sg.of_own hown3
    have J3 := HB.out.blk.keep (hgrow3.block p HB.out.blk.lt (fun e => (HB.out.fr p e.symm).2.1 rfl)) hgrow3.size
    have hr3 : w3.rangeAt w0.heap.size 0 X.toList := fun j u hj => hgrow3.cell (hal j u hj) (fun e => Nat.lt_irrefl _ (HF.out _ (HB.out.fr _ e.symm).1))
    refine hK.out _ _ hr3 (fun hHeld => ?_)
    clear hK K
    try simp only [Act.put, List.setIfInBounds_toArray, List.set_cons_zero, List.set_cons_succ]
    refine wpAnyH_take (i := 8) (v := .pointer (some ⟨p, 0, none⟩)) rfl (by kernel_rfl) (by kernel_rfl) (by kernel_rfl) (fun _ _ _ h => h) (Or.inl ⟨by rfl, fun w _ => by go_simp⟩) hHeld ?_
    try simp only [Act.put, List.setIfInBounds_toArray, List.set_cons_zero, List.set_cons_succ]
    refine wpAnyH_take (i := 9) (v := .pointer (some ⟨p, 1, none⟩)) rfl (by kernel_rfl) (by kernel_rfl) (by kernel_rfl) (fun _ _ _ h => h) (Or.inl ⟨by rfl, fun w _ => by go_simp⟩) hHeld ?_
    try simp only [Act.put, List.setIfInBounds_toArray, List.set_cons_zero, List.set_cons_succ]
    refine wpAnyH_ready (rs := [10]) (by kernel_rfl) (by simp) (AllReadyH.cons rfl (fun K hK => ?_) AllReadyH.nil)
    have hA := J3.c1
    have hF := J3.f1
    go_simp
    refine hK.out _ _ (fun j u hj => (World.cell?_setCell_other _ _ _ _ (fun e => by have := congrArg Addr.block e; simp at this; omega)).trans (hr3 j u hj)) (fun hHeld => ?_)
    clear hK K
    try simp only [Act.put, List.setIfInBounds_toArray, List.set_cons_zero, List.set_cons_succ]
    refine wpAnyH_done (by kernel_rfl) ?_ _
    go_wp2
    go_ret
    rw [HX.out] at hown3
    have HE := Dw.grow (x := (i, D.full l)) HD' ((hb2.alloc hb2.size (.cells X 94)).drew) hown3 hgrow3 hbl hfit hr
    exact ⟨rfl, ⟨p, vs', _, rfl, HE.1⟩, HE.2⟩

theorem Hd.more {w : World} {F : Nat → Prop} {v : Value} {d : D.Dk} (h : Hd w F v d) : Hd w (More F w w) v d := by
  obtain ⟨p, vs, vr, e, h⟩ := h
  exact ⟨p, vs, vr, e, { h with
    fp := Or.inl h.fp
    fs := fun j hj => ⟨Or.inl (h.fs j hj).1, (h.fs j hj).2⟩
    fr := fun j hj => ⟨Or.inl (h.fr j hj).1, (h.fr j hj).2⟩
    lt := fun b hb => by
      rcases hb with hb | hb
      · exact h.lt b hb
      · exact hb.2 }⟩

/-- a write where there is no sector -/
theorem write_no (v vb : Value) (i : Int) (w : World) (h : Calls Try.prog 43 #[v, .int .i64 i] w fun e w' => e = .returned (.bool false) ∧ w' = w) :
    Calls Try.prog 29 #[v, .int .i64 i, vb] w fun e w' => e = .returned (.int .i64 11) ∧ w' = w := by
  go_enter Try.func29, Try.ntmps29
  go_wp2_with fail
  refine h.mono ?_
  rintro e w1 ⟨rfl, rfl⟩
  go_wp2
  go_ret
  exact ⟨rfl, rfl⟩

/-- a write of more than a sector -/
theorem write_long_any (v : Value) (A : Option Addr) (n cap : Nat) (i : Int) (w : World) (hn : 64 < n) (h : Calls Try.prog 43 #[v, .int .i64 i] w fun e w' => e = .returned (.bool true) ∧ w' = w) :
    Calls Try.prog 29 #[v, .int .i64 i, .slice A n cap] w fun e w' => e = .returned (.int .i64 1) ∧ w' = w := by
  have hn' : (64 : Int) < (n : Int) := by omega
  go_enter Try.func29, Try.ntmps29
  go_wp2_with fail
  refine h.mono ?_
  rintro e w1 ⟨rfl, rfl⟩
  go_wp2
  go_ret
  exact ⟨rfl, rfl⟩

theorem write_any {w : World} {F : Nat → Prop} {v : Value} {d : D.Dk} (G : Nat → Prop) (vb : Value) (l : List UInt8) (i : Int) (h : Hd w F v d) (hb : SlB w G vb l) (hG : ∀ b, G b → b < w.heap.size) (hr : d.row.length ≤ 1000) :
    Calls Try.prog 29 #[v, .int .i64 i, vb] w fun e w' => e = .returned (.int .i64 (d.bad i l)) ∧ Hd w' (More F w w') v (d.write i l) ∧ Turn F w w' := by
  have hh := has_any h i
  by_cases ht : d.there i
  · by_cases hl : l.length ≤ 64
    · obtain ⟨k, rfl⟩ := Int.eq_ofNat_of_zero_le ht.1
      have hi := ht.2
      rw [D.Dk.bad, if_pos ht, if_pos hl, D.Dk.write, if_pos ⟨ht, hl⟩, Int.toNat_natCast]
      exact write_yes G vb l k h hb hG hr hl (by omega)
    · rw [D.Dk.bad, if_pos ht, if_neg hl, D.Dk.write, if_neg (fun g => hl g.2)]
      rw [decide_eq_true ht] at hh
      obtain ⟨A, cap, rfl, _⟩ := Sg_form hb
      refine (write_long_any v A l.length cap i w (by omega) hh).mono ?_
      rintro e w' ⟨rfl, rfl⟩
      exact ⟨rfl, h.more, Turn.of_below (Below.refl _ _)⟩
  · rw [D.Dk.bad, if_neg ht, D.Dk.write, if_neg (fun g => ht g.1)]
    rw [decide_eq_false ht] at hh
    refine (write_no v vb i w hh).mono ?_
    rintro e w' ⟨rfl, rfl⟩
    exact ⟨rfl, h.more, Turn.of_below (Below.refl _ _)⟩

end Go.Proofs.Ytbjbnjpdackloaa
