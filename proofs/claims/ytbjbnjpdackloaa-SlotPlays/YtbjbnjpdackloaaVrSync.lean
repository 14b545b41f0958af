/-
  The program's disk: a sync.
-/
import Derived.Test.YtbjbnjpdackloaaVrWrite
namespace Go.Proofs.Ytbjbnjpdackloaa
open Go.RowKit

theorem sizeSec : (Try.prog.info? 92).map (·.size) = some 64 := by kernel_rfl

section
variable {w w' : World} {F G : Nat → Prop} {p gs n cap : Nat} {vs vr v : Value} {d : D.Dk}

theorem Turn.trans {w1 w2 : World} (h1 : Turn F w w1) (h2 : Turn F w1 w2) : Turn F w w2 :=
  ⟨h2.os.trans h1.os, h2.tape.trans h1.tape, h2.output.trans h1.output, Nat.le_trans h1.size h2.size,
    fun k hk hF => (h2.block k (Nat.lt_of_lt_of_le hk h1.size) hF).trans (h1.block k hk hF)⟩

/-- one sector written over -/
theorem Dw.stored (h : Dw w F p (.slice (some ⟨gs, 0, none⟩) n cap) vr d) (i : Nat) (hi : i < d.secs.length) (y : D.Sec) (hy : y.length = 64) :
    Dw (w.setCells gs (i * 64) (bytesV y)) F p (.slice (some ⟨gs, 0, none⟩) n cap) vr ⟨d.secs.set i y, d.row⟩ ∧ Turn F w (w.setCells gs (i * 64) (bytesV y)) := by
  obtain ⟨g', cap', e, hF, hne, _⟩ := h.sform
  cases e
  obtain ⟨h1, h2, h3, h4, h5, h6⟩ := V.own_stored Try.prog h.secs (i * 64) (bytesV y) (by rw [bytesV_length, hy]; omega) (bytesV_one y)
  refine ⟨{ blk := h.blk.keep (h3 p hne.symm) (by omega), fp := h.fp, secs := ?_, row := V.own_keep h.row fun j hj => h3 j (fun e => (h.fr j hj).2.2 (by rw [e]; rfl)), fs := h.fs, fr := h.fr, lt := fun b hb => (by rw [h2]; exact h.lt b hb), fit := ?_, n1 := by simpa using h.n1, n2 := by simpa using h.n2, r1 := h.r1 },
    ⟨h4, h5, h6, by omega, fun k _ hk => h3 k (fun e => hk (e ▸ hF))⟩⟩
  · rw [List.length_set, show secV (d.secs.set i y) = splice (secV d.secs) (i * 64) (bytesV y) from V.flat_set d.secs (secV_len h.fit) i hi y (by rw [bytesV_length, hy])]
    exact h1
  · refine ⟨fun s hs => ?_, fun x hx => by rw [List.length_set]; exact h.fit.row x hx⟩
    rcases List.mem_or_eq_of_mem_set hs with e | e
    · exact h.fit.secs s e
    · rw [e]; exact hy

/-- the row emptied -/
theorem Dw.emptied (h : Dw w F p vs vr d) : Dw (w.setCell ⟨p, 1, none⟩ (.slice none 0 0)) F p vs (.slice none 0 0) ⟨d.secs, []⟩ ∧ Turn F w (w.setCell ⟨p, 1, none⟩ (.slice none 0 0)) := by
  have hk : ∀ b, b ≠ p → (w.setCell ⟨p, 1, none⟩ (.slice none 0 0)).heap[b]? = w.heap[b]? := fun b hb => Below.heap_setCell w ⟨p, 1, none⟩ (.slice none 0 0) b hb
  have hsz : (w.setCell ⟨p, 1, none⟩ (.slice none 0 0)).heap.size = w.heap.size := by simp [World.setCell]
  exact ⟨{ blk := h.blk.set1 _, fp := h.fp, secs := V.own_keep h.secs fun j hj => hk j (h.fs j hj).2, row := S.own_nil _ _ _ _, fs := h.fs, fr := fun j hj => (by cases hj), lt := fun b hb => (by rw [hsz]; exact h.lt b hb), fit := ⟨h.fit.secs, fun x hx => (by cases hx)⟩, n1 := h.n1, n2 := h.n2, r1 := by simp },
    ⟨rfl, rfl, rfl, by omega, fun k _ hF => hk k (fun e => hF (e ▸ h.fp))⟩⟩

theorem Hd.wide (h : Hd w' F v d) : Hd w' (More F w w') v d := by
  obtain ⟨p, vs, vr, e, h⟩ := h
  exact ⟨p, vs, vr, e, { h with
    fp := Or.inl h.fp
    fs := fun j hj => ⟨Or.inl (h.fs j hj).1, (h.fs j hj).2⟩
    fr := fun j hj => ⟨Or.inl (h.fr j hj).1, (h.fr j hj).2⟩
    lt := fun b hb => by
      rcases hb with hb | hb
      · exact h.lt b hb
      · exact hb.2 }⟩

theorem Dw.drew (h : Dw w F p vs vr d) : Dw w.drew F p vs vr d := h.keep (fun _ _ => rfl) (Nat.le_refl _)
theorem Turn.vdrew (h : Turn F w w') : Turn F w w'.drew := ⟨h.os, h.tape, h.output, h.size, h.block⟩
end

/-- a local variable of a write made, and a write's cells laid there -/
theorem store_wr (X : Array Value) (hX : X.size = 65) (h1 : ∀ v ∈ X.toList, v.oneCell' = true) (w : World) : ∃ w1, (storeCells ⟨w.heap.size, 0, none⟩ X.toList).run Try.prog (w.alloc (.cells (wz 0) 94)) = .ok () w1 ∧ w1.heap[w.heap.size]? = some (.cells X 94 (0, 0)) ∧ Below w.heap.size w w1 := by
  have hg : (w.alloc (.cells (wz 0) 94)).heap[w.heap.size]? = some (.cells (wz 0) 94 (0, 0)) := heap_alloc_new w _
  have h := run_storeCells_from (P := Try.prog) w.heap.size 94 X.toList 0 (wz 0) _ hg (by simp [wz_size, hX]) h1
  refine ⟨_, by simpa using h, setRow_heap _ _ _ _ _ _ hg, below_setRow ((Below.refl _ _).alloc (Nat.le_refl _) _) (Nat.le_refl _) _⟩

set_option linter.unusedSimpArgs false in
set_option maxRecDepth 100000 in
set_option maxHeartbeats 2000000 in
theorem sync_any {w : World} {F : Nat → Prop} {v : Value} {d : D.Dk} (h : Hd w F v d) :
    Calls Try.prog 21 #[v] w fun e w' => e = .returned (.tuple #[]) ∧ Hd w' (More F w w') v d.sync ∧ Turn F w w' := by
  obtain ⟨p, vs, vr, rfl, h⟩ := h
  have HD := Lib.hid h
  obtain ⟨gs, cs, rfl, hFgs, hgp, hcs⟩ := h.sform
  obtain ⟨A, cr, rfl, hcr⟩ := h.rform
  have c1 := h.blk.c1
  have r1 := h.r1
  have n2 := h.n2
  have hgl := h.lt _ hFgs
  have hpl := h.lt _ h.fp
  have hfit := Lib.hid h.fit
  clear h
  have hzw := zeroWr
  go_enter Try.func21, Try.ntmps21
  go_wp2_with fail
  go_loopw [11] (fun i wr => ∃ k : Nat, k ≤ d.row.length ∧ i = .int .i64 k ∧ Hid (Dw wr F p (.slice (some ⟨gs, 0, none⟩) d.secs.length cs) (.slice A d.row.length cr) ⟨D.done d.secs (d.row.take k), d.row⟩) ∧ Hid (Turn F w wr)) (fun i _ => d.row.length - (intOf i).toNat)
  case atStart => exact ⟨0, Nat.zero_le _, rfl, HD, Lib.hid (Turn.of_below (Below.refl _ _))⟩
  case round =>
    clear c1
    obtain ⟨k, hk, rfl, HW, HT⟩ := hrel
    by_cases hlt : k < d.row.length
    · obtain ⟨g, cr', e, hFg, hgp', hgs, _⟩ := HW.out.rform' (by show 0 < d.row.length; omega)
      cases e
      have HR := Lib.hid (V.own_range HW.out.row (wrV_len HW.out.fit) k hlt)
      obtain ⟨x, hx⟩ : ∃ x, x = d.row[k] := ⟨_, rfl⟩
      have HX := Lib.hid hx
      rw [← hx] at HR
      have hxr := hfit.out.row x (hx ▸ List.getElem_mem hlt)
      obtain ⟨X, hX⟩ : ∃ X, X = (wrV x).toArray := ⟨_, rfl⟩
      have hXs : X.size = 65 := by rw [hX, List.size_toArray, wrV, List.length_cons, bytesV_length, hxr.2]
      have HR2 : Hid (wr.rangeAt g (k * 65) X.toList) := Lib.hid (by rw [hX]; exact HR.out)
      have HS := Lib.hid hX
      obtain ⟨w1, hst, hg1, hb1⟩ := store_wr X hXs (by rw [hX]; exact wrV_one x) wr
      clear hX hx
      go_wp2_with ((with_reducible refine wpList_load_mid ?_ 94 (.tmp 13) ?_ g (k * 65) ?_ X.toList _ HR2.out Try.underlying94 ?_ ?_ ?_); rfl; rfl; rfl; rfl; (rw [sizeWr, Array.length_toList, hXs]); skip)
      have HW1 := HW.out.keep (fun b hb => hb1.block b (HW.out.lt b hb)) hb1.size
      have HT1 := HT.out.trans (Turn.of_below hb1)
      have hql := HW.out.lt gs hFgs
      have hqp := HW.out.lt p HW.out.fp
      have HN : Hid (D.done d.secs (d.row.take (k + 1)) = (D.done d.secs (d.row.take k)).set x.1 x.2) := Lib.hid (by
        rw [← List.take_append_getElem hlt, D.done_snoc, ← HX.out])
      have HW2 := HW1.drew.stored x.1 (by show _ < (D.done d.secs _).length; rw [D.done_len]; exact hxr.1) x.2 hxr.2
      have c0 := HW1.blk.c0
      have hsec := HW1.secs
      rw [show (⟨D.done d.secs (d.row.take k), d.row⟩ : D.Dk).secs.length = d.secs.length from D.done_len _ _] at hsec
      have hth := V.own_there hsec (x.1 * 64) 64 (by have := hxr.1; omega)
      clear hsec
      rw [HS.out] at hg1
      have hrg : w1.rangeAt wr.heap.size 0 (wrV x) := fun j u hj => by rw [Nat.zero_add, cell_of_row _ _ _ _ _ _ hg1]; simpa using hj
      have hat := wr_at hrg
      have hto : w1.rangeAt wr.heap.size 1 (bytesV x.2) := wr_to hrg
      have c0' := HW2.1.blk.c0
      rw [← HN.out] at HW2
      have HE := Lib.hid (And.intro HW2.1 (HT1.vdrew.trans HW2.2))
      obtain ⟨x1, x2⟩ := x
      obtain ⟨T, hT⟩ : ∃ T, T = bytesV x2 := ⟨_, rfl⟩
      have hTl : T.length = 64 := by rw [hT, bytesV_length, hxr.2]
      have hT1 : ∀ v ∈ T, v.oneCell' = true := by rw [hT]; exact bytesV_one _
      have hxl := hxr.1
      simp only at hat hto hth HE c0' hxl
      rw [← hT] at hto HE c0'
      have hTs : (Try.prog.info? 92).map (·.size) = some T.length := by rw [sizeSec, hTl]
      have hat' : (w1.drew.setCells gs (x1 * 64) T).cell? ⟨wr.heap.size, 0, none⟩ = some (.int .i64 (x1 : Int)) := (World.cell?_setCells_out gs T _ _ _ (fun e => by simp at e; omega)).trans hat
      have hS' := And.intro c0' (And.intro hat' (And.intro (World.rangeAt_setCells_apart (w := w1.drew) hto gs (x1 * 64) T (Or.inl (by omega))) (World.there_setCells (w := w1.drew) hth gs (x1 * 64) T)))
      have hu := Try.underlying92
      clear HW1 HT1 HW2 HR HR2 hst hg1 hrg HN HX HS hxr hat' c0' hb1 hT HD
      have i0 : (0 : Int) ≤ (x1 : Int) := by omega
      have i1 : (x1 : Int) < (d.secs.length : Int) := by omega
      go_region_held3 (fun w' => w'.cell? ⟨p, 0, none⟩ = some (.slice (some ⟨gs, 0, none⟩) d.secs.length cs) ∧ w'.cell? ⟨wr.heap.size, 0, none⟩ = some (.int .i64 (x1 : Int)) ∧ w'.rangeAt wr.heap.size 1 T ∧ w'.there gs (x1 * 64) 64)
        (first | exact hS' | exact And.intro c0 (And.intro hat (And.intro hto hth)))
        (fail)
      all_goals (try go_wp2)
      all_goals go_roundw
      case rel => exact ⟨k + 1, by omega, by go_num, Lib.hid HE.out.1, Lib.hid HE.out.2⟩
      case measure => simp [intOf]; omega
    · obtain rfl : k = d.row.length := by omega
      have HW2 := HW.out.emptied
      have c1 := HW.out.blk.c1
      have f1 := HW.out.blk.f1
      have HE := Lib.hid (And.intro HW2.1 (HT.out.trans HW2.2))
      rw [List.take_length] at HE
      clear HW2
      go_wp2
      go_end0
      exact ⟨rfl, Hd.wide ⟨p, _, _, rfl, HE.out.1⟩, HE.out.2⟩

theorem sync_nil (w : World) : Calls Try.prog 21 #[.pointer none] w fun e w' => e = .returned (.tuple #[]) ∧ w' = w := by
  go_enter Try.func21, Try.ntmps21
  go_wp2
  refine bodyPost_ret (results_none rfl _ _ _) rfl ?_
  exact ⟨rfl, rfl⟩

end Go.Proofs.Ytbjbnjpdackloaa
