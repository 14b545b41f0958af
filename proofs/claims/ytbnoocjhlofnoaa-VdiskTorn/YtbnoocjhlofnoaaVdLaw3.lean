/-
  Walks of layer vdisk's laws: one deed, of both disks: a sync, a crash.
-/
import Derived.Test.YtbnoocjhlofnoaaVdLaw2
namespace Go.Proofs.Ytbnoocjhlofnoaa
open Go.RowKit

section
variable {H : World → (Nat → Prop) → Value → D.Dk → Prop}

set_option maxRecDepth 100000 in
set_option maxHeartbeats 2000000 in
theorem do_sync (K : DiskOk H) (v x : Value) (d : D.Dk) (c0 c1 c2 c3 : Value) (X : Deed) (w : World) (F R G : Nat → Prop) (h : Both H w F R v x d) (hX : DeedV w G c0 c1 c2 c3 X) (hO : X.Ok) (_hG : ∀ b, G b → b < w.heap.size) (_hGF : ∀ b, G b → ¬ F b) (hr : d.row.length ≤ 1000) (hk : X.kind = 2) :
    Calls Try.prog 13 #[v, x, .agg #[c0, c1, c2, c3]] w (Did H w F R v (d.sync)) := by
  have HH := Lib.hid h.real
  have HR := Lib.hid h.ref
  have hrlt := h.rlt
  have hoff := h.off
  obtain ⟨hc0, hc1, hB, hT⟩ := hX
  rw [hk] at hc0
  subst hc0
  subst hc1
  have HB := Lib.hid hB
  have HT := Lib.hid hT
  obtain ⟨Ab, capb, rfl, hcb⟩ := Sg_form hB
  obtain ⟨Ak, capk, rfl, hck⟩ := Sg_form hT
  obtain ⟨va, rfl⟩ := K.ptr h.real
  obtain ⟨A1, e1, A2, e2, A3, e3, rfl⟩ := h.ref.form
  have hfl := K.lt h.real
  have ha0 := hO.a0
  have ha1 := hO.a1
  have hfit := K.fit h.real
  clear hB hT h hk
  generalize hn1 : d.secs.length = n1 at *
  generalize hn2 : d.row.length = n2 at *
  have P0 := ((B3.new w (.slice A1 n1 e1) (.slice A2 n2 e2) (.slice A3 n2 e3) 30 rfl).alloc (.cells #[.int .i64 2, .int .i64 X.at_, .slice Ab X.b.length capb, .slice Ak X.keep.length capk] 37)).alloc (.cells #[nilV, nilV, nilV] 30)
  have Q0 := (B4.new (w.alloc (.cells #[.slice A1 n1 e1, .slice A2 n2 e2, .slice A3 n2 e3] 30)) (.int .i64 2) (.int .i64 X.at_) (.slice Ab X.b.length capb) (.slice Ak X.keep.length capk) 37 (g := w.heap.size + 1) (by simp)).alloc (.cells #[nilV, nilV, nilV] 30)
  have R0 := B3.new ((w.alloc (.cells #[.slice A1 n1 e1, .slice A2 n2 e2, .slice A3 n2 e3] 30)).alloc (.cells #[.int .i64 2, .int .i64 X.at_, .slice Ab X.b.length capb, .slice Ak X.keep.length capk] 37)) nilV nilV nilV 30 (g := w.heap.size + 1 + 1) (by simp)
  have hb0 := three_new (w := w) (o := .cells #[.slice A1 n1 e1, .slice A2 n2 e2, .slice A3 n2 e3] 30) (o' := .cells #[.int .i64 2, .int .i64 X.at_, .slice Ab X.b.length capb, .slice Ak X.keep.length capk] 37) (o'' := .cells #[nilV, nilV, nilV] 30)
  have HW := Lib.hid (K.sync (K.below HH.out hb0))
  go_enter Try.func13, Try.ntmps13
  go_wp2_with fail
  refine HW.out.mono ?_
  rintro e w1 ⟨rfl, hH1, ht1⟩
  have hz0 : (((w.alloc (.cells #[.slice A1 n1 e1, .slice A2 n2 e2, .slice A3 n2 e3] 30)).alloc (.cells #[.int .i64 2, .int .i64 X.at_, .slice Ab X.b.length capb, .slice Ak X.keep.length capk] 37)).alloc (.cells #[nilV, nilV, nilV] 30)).heap.size = w.heap.size + 1 + 1 + 1 := by simp
  generalize ((w.alloc (.cells #[.slice A1 n1 e1, .slice A2 n2 e2, .slice A3 n2 e3] 30)).alloc (.cells #[.int .i64 2, .int .i64 X.at_, .slice Ab X.b.length capb, .slice Ak X.keep.length capk] 37)).alloc (.cells #[nilV, nilV, nilV] 30) = w0 at *
  generalize hp : w.heap.size = p at *
  generalize hq : p + 1 = q at *
  generalize hrr : q + 1 = r at *
  have nP : ¬ F p := fun g => by have := hfl _ g; omega
  have nQ : ¬ F q := fun g => by have := hfl _ g; omega
  have nR : ¬ F r := fun g => by have := hfl _ g; omega
  have P1 := P0.turn ht1 nP
  have Q1 := Q0.turn ht1 nQ
  have R1 := R0.turn ht1 nR
  have hs1 := ht1.size
  have hR1 := (HR.out.below hb0 hrlt).turn ht1 (fun b h => by have := hrlt b h; have := hb0.size; omega) hoff
  have HRW := Lib.hid (rsync_any _ d w1 R (fun b h => by have := hrlt b h; have := hb0.size; omega) hR1 (by omega) (by omega) (fun x hx => (hfit.1.row x hx).1))
  clear P0 Q0 R0 hR1 HW
  obtain ⟨_, p0, p1, p2, _⟩ := P1
  obtain ⟨_, q0, q1, q2, q3⟩ := Q1
  have R1 := Lib.hid R1
  go_wp2_with fail
  refine HRW.out.mono ?_
  rintro e w2 ⟨v2, rfl, hR2, hb2⟩
  have hs2 := hb2.size
  obtain ⟨B1, f1, B2, f2, B3', f3, rfl⟩ := hR2.form
  generalize (d.sync).secs.length = m1 at *
  generalize (d.sync).row.length = m2 at *
  have R2 := R1.out.step hb2
  have hH2 := K.below hH1 hb2
  have nR' : ¬ More F w0 w1 r := fun g => g.elim nR (fun g => by have := g.1; omega)
  have nRR : ¬ S.New w1 w2 r := fun g => by have := g.1; omega
  obtain ⟨_, r0, r1, r2, rf0, rf1, rf2⟩ := id R2
  have R3 := R2.setAll (.slice B1 m1 f1) (.slice B2 m2 f2) (.slice B3' m2 f3)
  have hH3 := K.set (K.set (K.set hH2 nR' 0 (.slice B1 m1 f1)) nR' 1 (.slice B2 m2 f2)) nR' 2 (.slice B3' m2 f3)
  have hR3 := ((hR2.set nRR 0 (.slice B1 m1 f1)).set nRR 1 (.slice B2 m2 f2)).set nRR 2 (.slice B3' m2 f3)
  have ht3 := (((Turn.after (F := F) (hp ▸ hb0) ht1).trans' hb2).setCell (p := r) (by omega) 0 (.slice B1 m1 f1)).setCell (p := r) (by omega) 1 (.slice B2 m2 f2) |>.setCell (p := r) (by omega) 2 (.slice B3' m2 f3)
  have hz3 : (((w2.setCell ⟨r, 0, none⟩ (.slice B1 m1 f1)).setCell ⟨r, 1, none⟩ (.slice B2 m2 f2)).setCell ⟨r, 2, none⟩ (.slice B3' m2 f3)).heap.size = w2.heap.size := by simp [World.setCell]
  have HX := Lib.hid (And.intro hH3 (And.intro hR3 (And.intro ht3 hz3)))
  clear hH3 hR3 ht3 hz3 hH2 hR2 R2 R1 hH1 HRW
  go_wp2_with fail
  refine bodyPost_ret (results_b3_1 rfl _ rfl R3 undDisk rfl infoDisk) rfl ?_
  obtain ⟨hH3, hR3, ht3, hz3⟩ := HX.out
  generalize ((w2.setCell ⟨r, 0, none⟩ (.slice B1 m1 f1)).setCell ⟨r, 1, none⟩ (.slice B2 m2 f2)).setCell ⟨r, 2, none⟩ (.slice B3' m2 f3) = w3 at *
  refine ⟨_, More F w0 w1, S.New w1 w2, rfl, ⟨hH3, hR3, ?_, ?_⟩, ?_, ?_, ht3⟩
  · intro b g
    have := g.2; omega
  · rintro b g (f | f)
    · have := hfl b f; have := g.1; omega
    · have := g.1; have := f.2; omega
  · rintro b (g | g)
    · exact Or.inl g
    · exact Or.inr ⟨by have := g.1; omega, by have := g.2; omega⟩
  · intro b g
    exact Or.inr ⟨by have := g.1; omega, by have := g.2; omega⟩

set_option maxRecDepth 100000 in
set_option maxHeartbeats 2000000 in
theorem do_crash (K : DiskOk H) (v x : Value) (d : D.Dk) (c0 c1 c2 c3 : Value) (X : Deed) (w : World) (F R G : Nat → Prop) (h : Both H w F R v x d) (hX : DeedV w G c0 c1 c2 c3 X) (hO : X.Ok) (hG : ∀ b, G b → b < w.heap.size) (hGF : ∀ b, G b → ¬ F b) (hr : d.row.length ≤ 1000) (hk : X.kind = 3) :
    Calls Try.prog 13 #[v, x, .agg #[c0, c1, c2, c3]] w (Did H w F R v (d.crash X.keep)) := by
  have HH := Lib.hid h.real
  have HR := Lib.hid h.ref
  have hrlt := h.rlt
  have hoff := h.off
  obtain ⟨hc0, hc1, hB, hT⟩ := hX
  rw [hk] at hc0
  subst hc0
  subst hc1
  have HB := Lib.hid hB
  have HT := Lib.hid hT
  obtain ⟨Ab, capb, rfl, hcb⟩ := Sg_form hB
  obtain ⟨Ak, capk, rfl, hck⟩ := Sg_form hT
  obtain ⟨va, rfl⟩ := K.ptr h.real
  obtain ⟨A1, e1, A2, e2, A3, e3, rfl⟩ := h.ref.form
  have hfl := K.lt h.real
  have ha0 := hO.a0
  have ha1 := hO.a1
  have hfit := K.fit h.real
  clear hB hT h hk
  generalize hn1 : d.secs.length = n1 at *
  generalize hn2 : d.row.length = n2 at *
  have P0 := ((B3.new w (.slice A1 n1 e1) (.slice A2 n2 e2) (.slice A3 n2 e3) 30 rfl).alloc (.cells #[.int .i64 3, .int .i64 X.at_, .slice Ab X.b.length capb, .slice Ak X.keep.length capk] 37)).alloc (.cells #[nilV, nilV, nilV] 30)
  have Q0 := (B4.new (w.alloc (.cells #[.slice A1 n1 e1, .slice A2 n2 e2, .slice A3 n2 e3] 30)) (.int .i64 3) (.int .i64 X.at_) (.slice Ab X.b.length capb) (.slice Ak X.keep.length capk) 37 (g := w.heap.size + 1) (by simp)).alloc (.cells #[nilV, nilV, nilV] 30)
  have R0 := B3.new ((w.alloc (.cells #[.slice A1 n1 e1, .slice A2 n2 e2, .slice A3 n2 e3] 30)).alloc (.cells #[.int .i64 3, .int .i64 X.at_, .slice Ab X.b.length capb, .slice Ak X.keep.length capk] 37)) nilV nilV nilV 30 (g := w.heap.size + 1 + 1) (by simp)
  have hb0 := three_new (w := w) (o := .cells #[.slice A1 n1 e1, .slice A2 n2 e2, .slice A3 n2 e3] 30) (o' := .cells #[.int .i64 3, .int .i64 X.at_, .slice Ab X.b.length capb, .slice Ak X.keep.length capk] 37) (o'' := .cells #[nilV, nilV, nilV] 30)
  have HW := Lib.hid (K.crash G (.slice Ak X.keep.length capk) X.keep (K.below HH.out hb0) (HT.out.below hb0 hG) (fun b h => Nat.lt_of_lt_of_le (hG b h) hb0.size) hGF)
  go_enter Try.func13, Try.ntmps13
  go_wp2_with fail
  refine HW.out.mono ?_
  rintro e w1 ⟨rfl, hH1, ht1⟩
  have hz0 : (((w.alloc (.cells #[.slice A1 n1 e1, .slice A2 n2 e2, .slice A3 n2 e3] 30)).alloc (.cells #[.int .i64 3, .int .i64 X.at_, .slice Ab X.b.length capb, .slice Ak X.keep.length capk] 37)).alloc (.cells #[nilV, nilV, nilV] 30)).heap.size = w.heap.size + 1 + 1 + 1 := by simp
  generalize ((w.alloc (.cells #[.slice A1 n1 e1, .slice A2 n2 e2, .slice A3 n2 e3] 30)).alloc (.cells #[.int .i64 3, .int .i64 X.at_, .slice Ab X.b.length capb, .slice Ak X.keep.length capk] 37)).alloc (.cells #[nilV, nilV, nilV] 30) = w0 at *
  generalize hp : w.heap.size = p at *
  generalize hq : p + 1 = q at *
  generalize hrr : q + 1 = r at *
  have nP : ¬ F p := fun g => by have := hfl _ g; omega
  have nQ : ¬ F q := fun g => by have := hfl _ g; omega
  have nR : ¬ F r := fun g => by have := hfl _ g; omega
  have P1 := P0.turn ht1 nP
  have Q1 := Q0.turn ht1 nQ
  have R1 := R0.turn ht1 nR
  have hs1 := ht1.size
  have hR1 := (HR.out.below hb0 hrlt).turn ht1 (fun b h => by have := hrlt b h; have := hb0.size; omega) hoff
  have hT1 : SlT w1 G (.slice Ak X.keep.length capk) X.keep := (HT.out.below hb0 hG).keep fun a ha => ht1.cell (by have := hG _ ha; have := hb0.size; omega) (hGF _ ha)
  have HRW := Lib.hid (rcrash_any _ (.slice Ak X.keep.length capk) d X.keep w1 R (fun b h => by have := hrlt b h; have := hb0.size; omega) hR1 G (fun b h => by have := hG b h; have := hb0.size; omega) hT1 (by omega) (by omega) hO.kl (fun x hx => (hfit.1.row x hx).1))
  clear hT1
  clear P0 Q0 R0 hR1 HW
  obtain ⟨_, p0, p1, p2, _⟩ := P1
  obtain ⟨_, q0, q1, q2, q3⟩ := Q1
  have R1 := Lib.hid R1
  go_wp2_with fail
  refine HRW.out.mono ?_
  rintro e w2 ⟨v2, rfl, hR2, hb2⟩
  have hs2 := hb2.size
  obtain ⟨B1, f1, B2, f2, B3', f3, rfl⟩ := hR2.form
  generalize (d.crash X.keep).secs.length = m1 at *
  generalize (d.crash X.keep).row.length = m2 at *
  have R2 := R1.out.step hb2
  have hH2 := K.below hH1 hb2
  have nR' : ¬ More F w0 w1 r := fun g => g.elim nR (fun g => by have := g.1; omega)
  have nRR : ¬ S.New w1 w2 r := fun g => by have := g.1; omega
  obtain ⟨_, r0, r1, r2, rf0, rf1, rf2⟩ := id R2
  have R3 := R2.setAll (.slice B1 m1 f1) (.slice B2 m2 f2) (.slice B3' m2 f3)
  have hH3 := K.set (K.set (K.set hH2 nR' 0 (.slice B1 m1 f1)) nR' 1 (.slice B2 m2 f2)) nR' 2 (.slice B3' m2 f3)
  have hR3 := ((hR2.set nRR 0 (.slice B1 m1 f1)).set nRR 1 (.slice B2 m2 f2)).set nRR 2 (.slice B3' m2 f3)
  have ht3 := (((Turn.after (F := F) (hp ▸ hb0) ht1).trans' hb2).setCell (p := r) (by omega) 0 (.slice B1 m1 f1)).setCell (p := r) (by omega) 1 (.slice B2 m2 f2) |>.setCell (p := r) (by omega) 2 (.slice B3' m2 f3)
  have hz3 : (((w2.setCell ⟨r, 0, none⟩ (.slice B1 m1 f1)).setCell ⟨r, 1, none⟩ (.slice B2 m2 f2)).setCell ⟨r, 2, none⟩ (.slice B3' m2 f3)).heap.size = w2.heap.size := by simp [World.setCell]
  have HX := Lib.hid (And.intro hH3 (And.intro hR3 (And.intro ht3 hz3)))
  clear hH3 hR3 ht3 hz3 hH2 hR2 R2 R1 hH1 HRW
  go_wp2_with fail
  refine bodyPost_ret (results_b3_1 rfl _ rfl R3 undDisk rfl infoDisk) rfl ?_
  obtain ⟨hH3, hR3, ht3, hz3⟩ := HX.out
  generalize ((w2.setCell ⟨r, 0, none⟩ (.slice B1 m1 f1)).setCell ⟨r, 1, none⟩ (.slice B2 m2 f2)).setCell ⟨r, 2, none⟩ (.slice B3' m2 f3) = w3 at *
  refine ⟨_, More F w0 w1, S.New w1 w2, rfl, ⟨hH3, hR3, ?_, ?_⟩, ?_, ?_, ht3⟩
  · intro b g
    have := g.2; omega
  · rintro b g (f | f)
    · have := hfl b f; have := g.1; omega
    · have := g.1; have := f.2; omega
  · rintro b (g | g)
    · exact Or.inl g
    · exact Or.inr ⟨by have := g.1; omega, by have := g.2; omega⟩
  · intro b g
    exact Or.inr ⟨by have := g.1; omega, by have := g.2; omega⟩

end

end Go.Proofs.Ytbnoocjhlofnoaa
