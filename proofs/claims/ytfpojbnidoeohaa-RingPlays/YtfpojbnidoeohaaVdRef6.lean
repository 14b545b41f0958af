/-
  Walks of the document's disk: a sync.
-/
import Derived.Test.YtfpojbnidoeohaaVdRef5
namespace Go.Proofs.Ytfpojbnidoeohaa
open Go.RowKit

theorem own_bool {w : World} {base : Nat} {v : Value} {a b : List Bool} (h : w.ownsRow base 4 1 v (a.length + b.length) (boolV a ++ boolV b)) : w.ownsRow base 4 1 v (a ++ b).length (boolV (a ++ b)) := by
  rw [boolV_append, List.length_append]; exact h

set_option maxRecDepth 100000 in
set_option maxHeartbeats 2000000 in
theorem rsync_any (v : Value) (d : D.Dk) (w : World) (F : Nat → Prop) (hF : ∀ b, F b → b < w.heap.size) (h : Rd w F v d) (hr : d.row.length ≤ 1000000) (hn : d.secs.length ≤ 1000000) (hf : ∀ x ∈ d.row, x.1 < d.secs.length) :
    Calls Try.prog 36 #[v] w fun e w' => ∃ v', e = .returned v' ∧ Rd w' (S.New w w') v' d.sync ∧ Below w.heap.size w w' := by
  have HR := Lib.hid h
  have HF := Lib.hid hf
  obtain ⟨A1, cap1, A2, cap2, A3, cap3, rfl⟩ := h.form
  clear h hf
  have P0 := (B3.new w (.slice A1 d.secs.length cap1) (.slice A2 d.row.length cap2) (.slice A3 d.row.length cap3) 36 rfl).alloc (.cells #[nilV, nilV, nilV] 36)
  have R0 := B3.new (w.alloc (.cells #[.slice A1 d.secs.length cap1, .slice A2 d.row.length cap2, .slice A3 d.row.length cap3] 36)) nilV nilV nilV 36 (g := w.heap.size + 1) (by simp)
  have hb0 := two_new (w := w) (o := .cells #[.slice A1 d.secs.length cap1, .slice A2 d.row.length cap2, .slice A3 d.row.length cap3] 36) (o' := .cells #[nilV, nilV, nilV] 36)
  go_enter Try.func36, Try.ntmps36
  go_wp2_with fail
  go_loopw [3, 4] (fun s i wr => ∃ k : Nat, k ≤ d.row.length ∧ i = .int .i64 k ∧ B3 wr w.heap.size (.slice A1 d.secs.length cap1) (.slice A2 d.row.length cap2) (.slice A3 d.row.length cap3) ∧ B3 wr (w.heap.size + 1) nilV nilV nilV ∧ wr.ownsRow (w.heap.size + 1 + 1) 4 1 s (List.replicate k true).length (boolV (List.replicate k true)) ∧ Below w.heap.size w wr ∧ w.heap.size + 1 + 1 ≤ wr.heap.size) (fun _ i _ => d.row.length - (intOf i).toNat)
  case atStart => exact ⟨0, Nat.zero_le _, rfl, P0, R0, S.own_nil _ _ _ _, hb0, by simp⟩
  case round =>
    clear P0 R0 hb0
    obtain ⟨k, hk, rfl, P, R, hown, hb, hz⟩ := hrel
    obtain ⟨_, p0, p1, p2, _⟩ := id P
    have hlk : (List.replicate k true).length ≤ 1000000 := by simp; omega
    obtain ⟨L, hL⟩ : ∃ L, L = List.replicate k true := ⟨_, rfl⟩
    rw [← hL] at hown hlk
    have HL := Lib.hid hL
    clear hL
    obtain ⟨A4, cap4, rfl, hc4⟩ := Sg_form (S.Sg.of_own hown)
    by_cases hlt : k < d.row.length
    · go_wp2_with (at_builtin; refine S.wpList_append_sg elT rfl _ _ rfl (base := w.heap.size + 1 + 1) (xs := boolV L) (cs := boolV [true]) rfl rfl (hown.alloc _) (S.Sg.one wr 4 (.bool true)) (boolV_one _) (by omega) (by omega) (by simp; omega) ?_)
      intro v2 w2 hown2 hgrow2 _
      have hbb2 := S.below_base (hown.alloc (.cells #[.bool true] 4)) (by simp; omega) hgrow2
      have P2 := (P.alloc (.cells #[.bool true] 4)).below hbb2 (by omega)
      have R2 := (R.alloc (.cells #[.bool true] 4)).below hbb2 (by omega)
      have hb2 := (hb.alloc hb.size (.cells #[.bool true] 4)).trans (hbb2.mono (by omega))
      have hz2 : w.heap.size + 1 + 1 ≤ w2.heap.size := Nat.le_trans (Nat.le_trans hz (by simp)) hbb2.size
      have HO := Lib.hid (own_bool (b := [true]) hown2)
      clear hbb2 hgrow2 hown2
      go_wp2
      go_roundw
      case rel => exact ⟨k + 1, by omega, by go_num, P2, R2, by rw [List.replicate_succ', ← HL.out]; exact HO.out, hb2, hz2⟩
      case measure => simp [intOf]; omega
    · obtain rfl : k = d.row.length := by omega
      have HC := Lib.hid (rcrash_any (.agg #[.slice A1 d.secs.length cap1, .slice A2 d.row.length cap2, .slice A3 d.row.length cap3]) (.slice A4 L.length cap4) d L wr F
        (fun b h => Nat.lt_of_lt_of_le (hF b h) hb.size) (HR.out.below hb hF) (fun b => w.heap.size + 1 + 1 ≤ b ∧ b < wr.heap.size) (fun b h => h.2) (S.Sg.of_own hown) hr hn (by omega) HF.out)
      go_wp2_with fail
      refine HC.out.mono ?_
      rintro e w3 ⟨v3, rfl, hR3, hbn⟩
      have R3 := R.step hbn
      have hb3 := hb.trans (hbn.mono hb.size)
      rw [show d.crash L = d.sync by rw [D.sync_crash, HL.out]] at hR3
      have hsz := hbn.size
      have HR3 := Lib.hid hR3
      obtain ⟨B1, cb1, B2, cb2, B3', cb3, rfl⟩ := hR3.form
      have hnr : ¬ S.New wr w3 (w.heap.size + 1) := fun h => by have := h.1; omega
      generalize d.sync.secs.length = n1 at *
      generalize d.sync.row.length = n2 at *
      obtain ⟨_, q0, q1, q2, qf0, qf1, qf2⟩ := id R3
      have R4 := R3.setAll (.slice B1 n1 cb1) (.slice B2 n2 cb2) (.slice B3' n2 cb3)
      have HR4 := Lib.hid (((HR3.out.set hnr 0 (.slice B1 n1 cb1)).set hnr 1 (.slice B2 n2 cb2)).set hnr 2 (.slice B3' n2 cb3))
      have hb4 := ((hb3.setCell (p := ⟨w.heap.size + 1, 0, none⟩) (by show _ ≤ w.heap.size + 1; omega) (.slice B1 n1 cb1)).setCell (p := ⟨w.heap.size + 1, 1, none⟩) (by show _ ≤ w.heap.size + 1; omega) (.slice B2 n2 cb2)).setCell (p := ⟨w.heap.size + 1, 2, none⟩) (by show _ ≤ w.heap.size + 1; omega) (.slice B3' n2 cb3)
      clear hR3 HR3 hb3 hbn HC R3
      go_wp2_with fail
      refine bodyPost_ret (results_b3 rfl _ rfl R4 undDisk rfl infoDisk) rfl ?_
      exact ⟨_, rfl, HR4.out.wider (fun b h => ⟨by have := h.1; omega, by have := h.2; simpa [World.setCell] using this⟩), hb4⟩

end Go.Proofs.Ytfpojbnidoeohaa
