/-
  Walks of layer vdisk's laws: one deed, of both disks: a read; whatever deed.
-/
import Derived.Test.YtbnoocjhlofnoaaVdLaw3
namespace Go.Proofs.Ytbnoocjhlofnoaa
open Go.RowKit

section
variable {H : World → (Nat → Prop) → Value → D.Dk → Prop}

set_option maxRecDepth 100000 in
set_option maxHeartbeats 2000000 in
theorem do_read (K : DiskOk H) (v x : Value) (d : D.Dk) (c0 c1 c2 c3 : Value) (X : Deed) (w : World) (F R G : Nat → Prop) (h : Both H w F R v x d) (hX : DeedV w G c0 c1 c2 c3 X) (hO : X.Ok) (hr : d.row.length ≤ 1000) (hk1 : ¬ X.kind = 1) (hk2 : ¬ X.kind = 2) (hk3 : ¬ X.kind = 3) :
    Calls Try.prog 13 #[v, x, .agg #[c0, c1, c2, c3]] w (Did H w F R v d) := by
  have HH := Lib.hid h.real
  have HR := Lib.hid h.ref
  have hrlt := h.rlt
  have hoff := h.off
  obtain ⟨hc0, hc1, hB, hT⟩ := hX
  subst hc0
  subst hc1
  have HB := Lib.hid hB
  obtain ⟨Ab, capb, rfl, hcb⟩ := Sg_form hB
  obtain ⟨Ak, capk, rfl, hck⟩ := Sg_form hT
  obtain ⟨va, rfl⟩ := K.ptr h.real
  obtain ⟨A1, e1, A2, e2, A3, e3, rfl⟩ := h.ref.form
  have hfl := K.lt h.real
  have ha0 := hO.a0
  have ha1 := hO.a1
  have hfit := K.fit h.real
  clear hB hT h HB
  generalize hn1 : d.secs.length = n1 at *
  generalize hn2 : d.row.length = n2 at *
  have P0 := ((B3.new w (.slice A1 n1 e1) (.slice A2 n2 e2) (.slice A3 n2 e3) 30 rfl).alloc (.cells #[.int .i64 X.kind, .int .i64 X.at_, .slice Ab X.b.length capb, .slice Ak X.keep.length capk] 37)).alloc (.cells #[nilV, nilV, nilV] 30)
  have Q0 := (B4.new (w.alloc (.cells #[.slice A1 n1 e1, .slice A2 n2 e2, .slice A3 n2 e3] 30)) (.int .i64 X.kind) (.int .i64 X.at_) (.slice Ab X.b.length capb) (.slice Ak X.keep.length capk) 37 (g := w.heap.size + 1) (by simp)).alloc (.cells #[nilV, nilV, nilV] 30)
  have R0 := B3.new ((w.alloc (.cells #[.slice A1 n1 e1, .slice A2 n2 e2, .slice A3 n2 e3] 30)).alloc (.cells #[.int .i64 X.kind, .int .i64 X.at_, .slice Ab X.b.length capb, .slice Ak X.keep.length capk] 37)) nilV nilV nilV 30 (g := w.heap.size + 1 + 1) (by simp)
  have hb0 := three_new (w := w) (o := .cells #[.slice A1 n1 e1, .slice A2 n2 e2, .slice A3 n2 e3] 30) (o' := .cells #[.int .i64 X.kind, .int .i64 X.at_, .slice Ab X.b.length capb, .slice Ak X.keep.length capk] 37) (o'' := .cells #[nilV, nilV, nilV] 30)
  have HW := Lib.hid (K.read X.at_ (K.below HH.out hb0) ha0 ha1)
  go_enter Try.func13, Try.ntmps13
  go_wp2_with fail
  refine HW.out.mono ?_
  rintro e w1 ⟨vb, l, k, rfl, hrd, hl, hb1⟩
  have hz0 : (((w.alloc (.cells #[.slice A1 n1 e1, .slice A2 n2 e2, .slice A3 n2 e3] 30)).alloc (.cells #[.int .i64 X.kind, .int .i64 X.at_, .slice Ab X.b.length capb, .slice Ak X.keep.length capk] 37)).alloc (.cells #[nilV, nilV, nilV] 30)).heap.size = w.heap.size + 1 + 1 + 1 := by simp
  generalize ((w.alloc (.cells #[.slice A1 n1 e1, .slice A2 n2 e2, .slice A3 n2 e3] 30)).alloc (.cells #[.int .i64 X.kind, .int .i64 X.at_, .slice Ab X.b.length capb, .slice Ak X.keep.length capk] 37)).alloc (.cells #[nilV, nilV, nilV] 30) = w0 at *
  generalize hp : w.heap.size = p at *
  generalize hq : p + 1 = q at *
  generalize hrr : q + 1 = r at *
  have nR : ¬ F r := fun g => by have := hfl _ g; omega
  have P1 := P0.step hb1
  have Q1 := Q0.step hb1
  have R1 := R0.step hb1
  have hs1 := hb1.size
  have hR1 := (HR.out.below hb0 hrlt).below hb1 (fun b h => by have := hrlt b h; have := hb0.size; omega)
  have HRW := Lib.hid (by have := rread_any _ d X.at_ w1 R (fun b h => by have := hrlt b h; have := hb0.size; omega) hR1 (by omega) (by omega); rw [hrd] at this; exact this)
  obtain ⟨Al, capl, rfl, hcl⟩ := Sg_form hl
  have hl := Lib.hid hl
  clear P0 Q0 R0 hR1 HW hrd
  have P1' := Lib.hid P1
  obtain ⟨_, p0, p1, p2, _⟩ := P1
  obtain ⟨_, q0, q1, q2, q3⟩ := Q1
  have R1 := Lib.hid R1
  go_wp2_with fail
  refine HRW.out.mono ?_
  rintro e w2 ⟨rfl, hb2⟩
  have hs2 := hb2.size
  have R2 := R1.out.step hb2
  have P2 := P1'.out.step hb2
  have hcv := conv_sg (hl.out.below hb2 (fun b h => h.2))
  have hH2 := K.below (K.below (K.below HH.out (hp ▸ hb0)) hb1) hb2
  have nRR : ¬ R r := fun g => by have := hrlt _ g; omega
  have hR2 := ((HR.out.below hb0 hrlt).below hb1 (fun b h => by have := hrlt b h; have := hb0.size; omega)).below hb2 (fun b h => by have := hrlt b h; have := hb0.size; omega)
  clear p0 p1 p2 q0 q1 q2 q3
  obtain ⟨_, p0, p1, p2, _⟩ := P2
  obtain ⟨_, r0, r1, r2, rf0, rf1, rf2⟩ := id R2
  have R3 := R2.setAll (.slice A1 n1 e1) (.slice A2 n2 e2) (.slice A3 n2 e3)
  have hH3 := K.set (K.set (K.set hH2 nR 0 (.slice A1 n1 e1)) nR 1 (.slice A2 n2 e2)) nR 2 (.slice A3 n2 e3)
  have hR3 := ((hR2.set nRR 0 (.slice A1 n1 e1)).set nRR 1 (.slice A2 n2 e2)).set nRR 2 (.slice A3 n2 e3)
  have ht3 := (((Turn.of_below (F := F) (hp ▸ hb0)).trans' hb1).trans' hb2).setCell (p := r) (by omega) 0 (.slice A1 n1 e1) |>.setCell (p := r) (by omega) 1 (.slice A2 n2 e2) |>.setCell (p := r) (by omega) 2 (.slice A3 n2 e3)
  have hz3 : (((w2.setCell ⟨r, 0, none⟩ (.slice A1 n1 e1)).setCell ⟨r, 1, none⟩ (.slice A2 n2 e2)).setCell ⟨r, 2, none⟩ (.slice A3 n2 e3)).heap.size = w2.heap.size := by simp [World.setCell]
  have HX := Lib.hid (And.intro hH3 (And.intro hR3 (And.intro ht3 hz3)))
  clear hH3 hR3 ht3 hz3 hH2 hR2 R2 R1 HRW hl P1'
  go_wp2_with fail
  refine bodyPost_ret (results_b3_1 rfl _ rfl R3 undDisk rfl infoDisk) rfl ?_
  obtain ⟨hH3, hR3, ht3, hz3⟩ := HX.out
  exact ⟨_, F, R, rfl, ⟨hH3, hR3, fun b h => by have := hrlt b h; have := hb0.size; omega, hoff⟩, fun b h => Or.inl h, fun b h => Or.inl h, ht3⟩

/-- whatever deed -/
theorem do_any (K : DiskOk H) (v x : Value) (d : D.Dk) (c0 c1 c2 c3 : Value) (X : Deed) (w : World) (F R G : Nat → Prop) (h : Both H w F R v x d) (hX : DeedV w G c0 c1 c2 c3 X) (hO : X.Ok) (hG : ∀ b, G b → b < w.heap.size) (hGF : ∀ b, G b → ¬ F b) (hr : d.row.length ≤ 1000) (hb : X.b.length ≤ 1000000) :
    Calls Try.prog 13 #[v, x, .agg #[c0, c1, c2, c3]] w (Did H w F R v (d.step X)) := by
  by_cases h1 : X.kind = 1
  · rw [D.Dk.step, if_pos h1]; exact do_write K v x d c0 c1 c2 c3 X w F R G h hX hO hG hGF hr hb h1
  · by_cases h2 : X.kind = 2
    · rw [D.Dk.step, if_neg h1, if_pos h2]; exact do_sync K v x d c0 c1 c2 c3 X w F R G h hX hO hG hGF hr h2
    · by_cases h3 : X.kind = 3
      · rw [D.Dk.step, if_neg h1, if_neg h2, if_pos h3]; exact do_crash K v x d c0 c1 c2 c3 X w F R G h hX hO hG hGF hr h3
      · rw [D.Dk.step, if_neg h1, if_neg h2, if_neg h3]; exact do_read K v x d c0 c1 c2 c3 X w F R G h hX hO hr h1 h2 h3
end

end Go.Proofs.Ytbnoocjhlofnoaa
