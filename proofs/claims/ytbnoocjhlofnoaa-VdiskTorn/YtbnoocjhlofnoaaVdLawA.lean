/-
  Walks of layer vdisk's laws: a write, of two disks that are unlike.
-/
import Derived.Test.YtbnoocjhlofnoaaVdLaw4
namespace Go.Proofs.Ytbnoocjhlofnoaa
open Go.RowKit

section
variable {H : World → (Nat → Prop) → Value → D.Dk → Prop}

set_option maxRecDepth 100000 in
set_option maxHeartbeats 2000000 in
theorem do_write' (K : DiskOk H) (v x : Value) (d dr : D.Dk) (c0 c1 c2 c3 : Value) (X : Deed) (w : World) (F R G : Nat → Prop) (hreal : H w F v d) (href : Rd w R x dr) (hrlt : ∀ b, R b → b < w.heap.size) (hoff : ∀ b, R b → ¬ F b) (hX : DeedV w G c0 c1 c2 c3 X) (hO : X.Ok) (hG : ∀ b, G b → b < w.heap.size) (hGF : ∀ b, G b → ¬ F b) (hr : d.row.length ≤ 1000) (hr2 : dr.row.length ≤ 1000) (hb : X.b.length ≤ 1000000) (hk : X.kind = 1) :
    Calls Try.prog 13 #[v, x, .agg #[c0, c1, c2, c3]] w fun e w' => ∃ y bb F', e = .returned (.tuple #[y, .bool bb]) ∧ H w' F' v (d.write X.at_ X.b) ∧ (∀ b, F' b → F b ∨ S.New w w' b) ∧ Turn F w w' := by
  have HH := Lib.hid hreal
  have HR := Lib.hid href
  obtain ⟨hc0, hc1, hB, hT⟩ := hX
  rw [hk] at hc0
  subst hc0
  subst hc1
  have HB := Lib.hid hB
  obtain ⟨Ab, capb, rfl, hcb⟩ := Sg_form hB
  obtain ⟨Ak, capk, rfl, hck⟩ := Sg_form hT
  obtain ⟨va, rfl⟩ := K.ptr hreal
  obtain ⟨A1, e1, A2, e2, A3, e3, rfl⟩ := href.form
  have hfl := K.lt hreal
  have ha0 := hO.a0
  have ha1 := hO.a1
  clear hB hT hreal href hk
  generalize hn1 : dr.secs.length = n1 at *
  generalize hn2 : dr.row.length = n2 at *
  have P0 := ((B3.new w (.slice A1 n1 e1) (.slice A2 n2 e2) (.slice A3 n2 e3) 30 rfl).alloc (.cells #[.int .i64 1, .int .i64 X.at_, .slice Ab X.b.length capb, .slice Ak X.keep.length capk] 37)).alloc (.cells #[nilV, nilV, nilV] 30)
  have Q0 := (B4.new (w.alloc (.cells #[.slice A1 n1 e1, .slice A2 n2 e2, .slice A3 n2 e3] 30)) (.int .i64 1) (.int .i64 X.at_) (.slice Ab X.b.length capb) (.slice Ak X.keep.length capk) 37 (g := w.heap.size + 1) (by simp)).alloc (.cells #[nilV, nilV, nilV] 30)
  have R0 := B3.new ((w.alloc (.cells #[.slice A1 n1 e1, .slice A2 n2 e2, .slice A3 n2 e3] 30)).alloc (.cells #[.int .i64 1, .int .i64 X.at_, .slice Ab X.b.length capb, .slice Ak X.keep.length capk] 37)) nilV nilV nilV 30 (g := w.heap.size + 1 + 1) (by simp)
  have hb0 := three_new (w := w) (o := .cells #[.slice A1 n1 e1, .slice A2 n2 e2, .slice A3 n2 e3] 30) (o' := .cells #[.int .i64 1, .int .i64 X.at_, .slice Ab X.b.length capb, .slice Ak X.keep.length capk] 37) (o'' := .cells #[nilV, nilV, nilV] 30)
  have HW := Lib.hid (K.write G (.slice Ab X.b.length capb) X.b X.at_ (K.below HH.out hb0) (HB.out.below hb0 hG) (fun b h => Nat.lt_of_lt_of_le (hG b h) hb0.size) (by omega) hb ha0 ha1)
  go_enter Try.func13, Try.ntmps13
  go_wp2_with fail
  refine HW.out.mono ?_
  rintro e w1 ⟨rfl, hH1, ht1⟩
  have hz0 : (((w.alloc (.cells #[.slice A1 n1 e1, .slice A2 n2 e2, .slice A3 n2 e3] 30)).alloc (.cells #[.int .i64 1, .int .i64 X.at_, .slice Ab X.b.length capb, .slice Ak X.keep.length capk] 37)).alloc (.cells #[nilV, nilV, nilV] 30)).heap.size = w.heap.size + 1 + 1 + 1 := by simp
  generalize ((w.alloc (.cells #[.slice A1 n1 e1, .slice A2 n2 e2, .slice A3 n2 e3] 30)).alloc (.cells #[.int .i64 1, .int .i64 X.at_, .slice Ab X.b.length capb, .slice Ak X.keep.length capk] 37)).alloc (.cells #[nilV, nilV, nilV] 30) = w0 at *
  generalize hp : w.heap.size = p at *
  generalize hq : p + 1 = q at *
  generalize hrr : q + 1 = r at *
  have nP : ¬ F p := fun g => by have := hfl _ g; omega
  have nQ : ¬ F q := fun g => by have := hfl _ g; omega
  have nR : ¬ F r := fun g => by have := hfl _ g; omega
  have P1 := P0.turn ht1 nP
  have Q1 := Q0.turn ht1 nQ
  have R1 := R0.turn ht1 nR
  have hs1 := ht1.size
  have hR1 := (HR.out.below hb0 hrlt).turn ht1 (fun b h => by have := hrlt b h; have := hb0.size; omega) hoff
  have hB1 : SlB w1 G (.slice Ab X.b.length capb) X.b := (HB.out.below hb0 hG).keep fun a ha => ht1.cell (by have := hG _ ha; have := hb0.size; omega) (hGF _ ha)
  have HRW := Lib.hid (rwrite_any _ (.slice Ab X.b.length capb) dr X.at_ X.b w1 R (fun b h => by have := hrlt b h; have := hb0.size; omega) hR1 G (fun b h => by have := hG b h; have := hb0.size; omega) hB1 (by omega) hb)
  clear P0 Q0 R0 hR1 hB1 HW
  obtain ⟨_, p0, p1, p2, _⟩ := P1
  obtain ⟨_, q0, q1, q2, q3⟩ := Q1
  have R1 := Lib.hid R1
  go_wp2_with fail
  refine HRW.out.mono ?_
  rintro e w2 ⟨v2, rfl, hR2, hb2⟩
  have hs2 := hb2.size
  obtain ⟨B1, f1, B2, f2, B3', f3, rfl⟩ := hR2.form
  generalize (dr.write X.at_ X.b).secs.length = m1 at *
  generalize (dr.write X.at_ X.b).row.length = m2 at *
  have R2 := R1.out.step hb2
  have hH2 := K.below hH1 hb2
  have nR' : ¬ More F w0 w1 r := fun g => g.elim nR (fun g => by have := g.1; omega)
  have nRR : ¬ (R r ∨ S.New w1 w2 r) := fun g => g.elim (fun g => by have := hrlt _ g; omega) (fun g => by have := g.1; omega)
  obtain ⟨_, r0, r1, r2, rf0, rf1, rf2⟩ := id R2
  have R3 := (R2.setAll (.slice B1 m1 f1) (.slice B2 m2 f2) (.slice B3' m2 f3)).alloc (.cells #[.slice B1 m1 f1, .slice B2 m2 f2, .slice B3' m2 f3] 30)
  have hH3 := K.set (K.set (K.set hH2 nR' 0 (.slice B1 m1 f1)) nR' 1 (.slice B2 m2 f2)) nR' 2 (.slice B3' m2 f3)
  have hR3 := ((hR2.set nRR 0 (.slice B1 m1 f1)).set nRR 1 (.slice B2 m2 f2)).set nRR 2 (.slice B3' m2 f3)
  have ht3 := (((Turn.after (F := F) (hp ▸ hb0) ht1).trans' hb2).setCell (p := r) (by omega) 0 (.slice B1 m1 f1)).setCell (p := r) (by omega) 1 (.slice B2 m2 f2) |>.setCell (p := r) (by omega) 2 (.slice B3' m2 f3)
  have hz3 : (((w2.setCell ⟨r, 0, none⟩ (.slice B1 m1 f1)).setCell ⟨r, 1, none⟩ (.slice B2 m2 f2)).setCell ⟨r, 2, none⟩ (.slice B3' m2 f3)).heap.size = w2.heap.size := by simp [World.setCell]
  have HX := Lib.hid (And.intro hH3 (And.intro hR3 (And.intro ht3 hz3)))
  clear hH3 hR3 ht3 hz3 hH2 hR2 R2 R1 hH1 HRW
  go_wp2_with fail
  refine bodyPost_ret (results_b3_1 rfl _ rfl R3 undDisk rfl infoDisk) rfl ?_
  obtain ⟨hH3, hR3, ht3, hz3⟩ := HX.out
  generalize ((w2.setCell ⟨r, 0, none⟩ (.slice B1 m1 f1)).setCell ⟨r, 1, none⟩ (.slice B2 m2 f2)).setCell ⟨r, 2, none⟩ (.slice B3' m2 f3) = w3 at *
  have hba := (Below.refl w3.heap.size w3).alloc (Nat.le_refl _) (.cells #[.slice B1 m1 f1, .slice B2 m2 f2, .slice B3' m2 f3] 30)
  have hsa := hba.size
  refine ⟨_, _, More F w0 w1, rfl, K.below hH3 hba, ?_, ht3.trans' hba⟩
  rintro b (g | g)
  · exact Or.inl g
  · exact Or.inr ⟨by have := g.1; omega, by have := g.2; omega⟩
end

end Go.Proofs.Ytbnoocjhlofnoaa
