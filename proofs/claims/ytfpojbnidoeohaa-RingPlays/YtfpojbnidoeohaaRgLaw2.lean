/-
  Walks of layer ring's laws: one deed, of both rings: a record appended.
-/
import Derived.Test.YtfpojbnidoeohaaRgLaw1
namespace Go.Proofs.Ytfpojbnidoeohaa
open Go.RowKit

/-- both rings, beside each other -/
structure Bo (H : World → (Nat → Prop) → Value → D.Dk → Prop) (w : World) (F R : Nat → Prop) (v vd x : Value) (r : G.Rg) : Prop where
  real : Rp H w F v vd r
  ref : Rr w R x r
  rlt : ∀ b, R b → b < w.heap.size
  off : ∀ b, R b → ¬ F b

/-- what a deed leaves -/
def Did6 (H : World → (Nat → Prop) → Value → D.Dk → Prop) (w : World) (F R : Nat → Prop) (v vd : Value) (r' : G.Rg) (e : Ending) (w' : World) : Prop :=
  ∃ y F' R', e = .returned (.tuple #[y, .bool true]) ∧ Bo H w' F' R' v vd y r' ∧ (∀ b, F' b → F b ∨ S.New w w' b) ∧ (∀ b, R' b → R b ∨ S.New w w' b) ∧ Turn F w w'

theorem three_new' {w : World} {o o' o'' : Obj} : Below w.heap.size w (((w.alloc o).alloc o').alloc o'') := two_new.alloc (by simp; omega) _

theorem Rr.keep {w w' : World} {R : Nat → Prop} {x : Value} {r : G.Rg} (h : Rr w R x r) (hk : ∀ p : Addr, R p.block → w'.cell? p = w.cell? p) : Rr w' R x r := by
  obtain ⟨a, b, c, e, hd⟩ := h
  exact ⟨a, b, c, e, hd.keep hk⟩
theorem Rr.below {w w' : World} {R : Nat → Prop} {B : Nat} {x : Value} {r : G.Rg} (h : Rr w R x r) (hb : Below B w w') (hF : ∀ b, R b → b < B) : Rr w' R x r := h.keep fun _ hp => hb.cell (hF _ hp)
theorem Rr.turn {w w' : World} {R F : Nat → Prop} {x : Value} {r : G.Rg} (h : Rr w R x r) (ht : Turn F w w') (hlt : ∀ b, R b → b < w.heap.size) (hd : ∀ b, R b → ¬ F b) : Rr w' R x r := h.keep fun _ hp => ht.cell (hlt _ hp) (hd _ hp)
theorem Rr.wider {w : World} {R R' : Nat → Prop} {x : Value} {r : G.Rg} (h : Rr w R x r) (hF : ∀ b, R b → R' b) : Rr w R' x r := by
  obtain ⟨a, b, c, e, hd⟩ := h
  exact ⟨a, b, c, e, hd.wider hF⟩
theorem Rr.form {w : World} {R : Nat → Prop} {x : Value} {r : G.Rg} (h : Rr w R x r) : ∃ A n k B m l C p q, x = .agg #[.slice A n k, .slice B m l, .slice C p q, .int .i64 (r.first : Int), .int .i64 (r.many : Int), .int .u32 (r.epoch : Int), .int .u32 (r.low : Int), .int .u32 (r.next : Int)] := by
  obtain ⟨a, b, c, rfl, hd⟩ := h
  obtain ⟨A, n, k, B, m, l, C, p, q, rfl, rfl, rfl⟩ := rd_form hd
  exact ⟨A, n, k, B, m, l, C, p, q, rfl⟩

section
variable {H : World → (Nat → Prop) → Value → D.Dk → Prop}

set_option maxRecDepth 100000 in
set_option maxHeartbeats 4000000 in
theorem do6_append (K : DiskOk H) (KF : FrameOk) (v vd x : Value) (r : G.Rg) (c1 c2 : Value) (X : Dd) (w : World) (F R G' : Nat → Prop) (h : Bo H w F R v vd x r) (hX : DdV w G' (.int .i64 1) c1 c2 X) (hG : ∀ b, G' b → b < w.heap.size) (hGF : ∀ b, G' b → ¬ F b) (hr : r.d.row.length ≤ 900) (hb : X.rc.length ≤ 1000) :
    Calls Try.prog 15 #[vd, v, x, .agg #[.int .i64 1, c1, c2]] w (Did6 H w F R v vd (r.append X.rc)) := by
  have HH := Lib.hid h.real
  have HR := Lib.hid h.ref
  have hrlt := h.rlt
  have hoff := h.off
  obtain ⟨hk, hB, rfl⟩ := hX
  clear hk
  have HB := Lib.hid hB
  obtain ⟨Ab, capb, rfl, hcb⟩ := Sg_form hB
  obtain ⟨A1, n1, k1, A2, n2, k2, A3, n3, k3, rfl⟩ := h.ref.form
  have hfl := h.real.lt
  clear hB h
  have P0 := ((Bk.new w [.slice A1 n1 k1, .slice A2 n2 k2, .slice A3 n3 k3, .int .i64 (r.first : Int), .int .i64 (r.many : Int), .int .u32 (r.epoch : Int), .int .u32 (r.low : Int), .int .u32 (r.next : Int)] 39 rfl).alloc (.cells #[.int .i64 1, .slice Ab X.rc.length capb, .int .u8 (X.n : Int)] 46)).alloc (.cells #[nilV, nilV, nilV, .int .i64 0, .int .i64 0, .int .u32 0, .int .u32 0, .int .u32 0] 39)
  have Q0 := (Bk.new (w.alloc (.cells #[.slice A1 n1 k1, .slice A2 n2 k2, .slice A3 n3 k3, .int .i64 (r.first : Int), .int .i64 (r.many : Int), .int .u32 (r.epoch : Int), .int .u32 (r.low : Int), .int .u32 (r.next : Int)] 39)) [.int .i64 1, .slice Ab X.rc.length capb, .int .u8 (X.n : Int)] 46 (g := w.heap.size + 1) (by simp)).alloc (.cells #[nilV, nilV, nilV, .int .i64 0, .int .i64 0, .int .u32 0, .int .u32 0, .int .u32 0] 39)
  have R0 := Bk.new ((w.alloc (.cells #[.slice A1 n1 k1, .slice A2 n2 k2, .slice A3 n3 k3, .int .i64 (r.first : Int), .int .i64 (r.many : Int), .int .u32 (r.epoch : Int), .int .u32 (r.low : Int), .int .u32 (r.next : Int)] 39)).alloc (.cells #[.int .i64 1, .slice Ab X.rc.length capb, .int .u8 (X.n : Int)] 46)) [nilV, nilV, nilV, .int .i64 0, .int .i64 0, .int .u32 0, .int .u32 0, .int .u32 0] 39 (g := w.heap.size + 1 + 1) (by simp)
  have hb0 := three_new' (w := w) (o := .cells #[.slice A1 n1 k1, .slice A2 n2 k2, .slice A3 n3 k3, .int .i64 (r.first : Int), .int .i64 (r.many : Int), .int .u32 (r.epoch : Int), .int .u32 (r.low : Int), .int .u32 (r.next : Int)] 39) (o' := .cells #[.int .i64 1, .slice Ab X.rc.length capb, .int .u8 (X.n : Int)] 46) (o'' := .cells #[nilV, nilV, nilV, .int .i64 0, .int .i64 0, .int .u32 0, .int .u32 0, .int .u32 0] 39)
  have hz0 : (((w.alloc (.cells #[.slice A1 n1 k1, .slice A2 n2 k2, .slice A3 n3 k3, .int .i64 (r.first : Int), .int .i64 (r.many : Int), .int .u32 (r.epoch : Int), .int .u32 (r.low : Int), .int .u32 (r.next : Int)] 39)).alloc (.cells #[.int .i64 1, .slice Ab X.rc.length capb, .int .u8 (X.n : Int)] 46)).alloc (.cells #[nilV, nilV, nilV, .int .i64 0, .int .i64 0, .int .u32 0, .int .u32 0, .int .u32 0] 39)).heap.size = w.heap.size + 1 + 1 + 1 := by simp
  have HW := Lib.hid (ring_append K KF (HH.out.below K hb0) (HB.out.below hb0 hG) (fun b g => Nat.lt_of_lt_of_le (hG b g) hb0.size) hb hr)
  obtain ⟨T, hT⟩ : ∃ T : Nat, T = r.told X.rc := ⟨_, rfl⟩
  obtain ⟨E, hE⟩ : ∃ E : Int, E = r.err X.rc := ⟨_, rfl⟩
  rw [← hT, ← hE] at HW
  have HTE := Lib.hid (And.intro hT hE)
  clear hT hE
  go_enter Try.func15, Try.ntmps15
  go_wp2_with fail
  refine HW.out.mono ?_
  rintro e w1 ⟨rfl, hH1, ht1⟩
  generalize ((w.alloc (.cells #[.slice A1 n1 k1, .slice A2 n2 k2, .slice A3 n3 k3, .int .i64 (r.first : Int), .int .i64 (r.many : Int), .int .u32 (r.epoch : Int), .int .u32 (r.low : Int), .int .u32 (r.next : Int)] 39)).alloc (.cells #[.int .i64 1, .slice Ab X.rc.length capb, .int .u8 (X.n : Int)] 46)).alloc (.cells #[nilV, nilV, nilV, .int .i64 0, .int .i64 0, .int .u32 0, .int .u32 0, .int .u32 0] 39) = w0 at *
  generalize hp : w.heap.size = p at *
  generalize hq : p + 1 = q at *
  generalize hrr : q + 1 = s at *
  have nP : ¬ F p := fun g => by have := hfl _ g; omega
  have nQ : ¬ F q := fun g => by have := hfl _ g; omega
  have nS : ¬ F s := fun g => by have := hfl _ g; omega
  have P1 := P0.turn ht1 nP
  have Q1 := Q0.turn ht1 nQ
  have R1 := R0.turn ht1 nS
  have hs1 := ht1.size
  have hs0 := hb0.size
  have hR1 := (HR.out.below hb0 hrlt).turn ht1 (fun b g => by have := hrlt b g; omega) hoff
  have hB1 : SlB w1 G' (.slice Ab X.rc.length capb) X.rc := (HB.out.below hb0 hG).keep fun a ha => ht1.cell (by have := hG _ ha; omega) (hGF _ ha)
  have hcv := conv_sg hB1
  have HRA := Lib.hid (rappend_any X.rc hR1 (fun b g => by have := hrlt b g; omega) HH.out.num HH.out.may (by omega) (by omega))
  rw [← HTE.out.1, ← HTE.out.2] at HRA
  have HT1 := Lib.hid (Turn.behind (F := F) (by rw [hp]; exact hb0 : Below w.heap.size w w0) ht1)
  have R1 := Lib.hid R1
  have HH1 := Lib.hid hH1
  have p0 := P1.cell 0 _ rfl
  have p1 := P1.cell 1 _ rfl
  have p2 := P1.cell 2 _ rfl
  have p3 := P1.cell 3 _ rfl
  have p4 := P1.cell 4 _ rfl
  have p5 := P1.cell 5 _ rfl
  have p6 := P1.cell 6 _ rfl
  have p7 := P1.cell 7 _ rfl
  have q1 := Q1.cell 1 _ rfl
  clear P0 Q0 R0 hR1 hB1 HW P1 Q1 hH1
  go_wp2_with fail
  refine HRA.out.mono ?_
  rintro e w2 ⟨v2, rfl, hR2, hb2⟩
  clear p0 p1 p2 p3 p4 p5 p6 p7 q1 hcv
  have hs2 := hb2.size
  obtain ⟨y, hy⟩ : ∃ y, y = r.append X.rc := ⟨_, rfl⟩
  rw [← hy] at hR2 HH1
  have HY := Lib.hid hy
  clear hy
  obtain ⟨B1, m1, f1, B2, m2, f2, B3, m3, f3, rfl⟩ := hR2.form
  have R2 := R1.out.step hb2
  have nS' : ¬ More F w0 w1 s := fun g => g.elim nS (fun g => by have := g.1; omega)
  have nSR : ∀ b, (R b ∨ S.New w1 w2 b) → ¬ b = s := fun b g => g.elim (fun g => by have := hrlt _ g; omega) (fun g => by have := g.1; omega)
  have hba := (Below.refl w2.heap.size w2).alloc (Nat.le_refl _) (.cells #[.slice B1 m1 f1, .slice B2 m2 f2, .slice B3 m3 f3, .int .i64 (y.first : Int), .int .i64 (y.many : Int), .int .u32 (y.epoch : Int), .int .u32 (y.low : Int), .int .u32 (y.next : Int)] 39)
  have hsa := hba.size
  have R2a := R2.alloc (.cells #[.slice B1 m1 f1, .slice B2 m2 f2, .slice B3 m3 f3, .int .i64 (y.first : Int), .int .i64 (y.many : Int), .int .u32 (y.epoch : Int), .int .u32 (y.low : Int), .int .u32 (y.next : Int)] 39)
  have hT8 := set8_turn (w2.alloc (.cells #[.slice B1 m1 f1, .slice B2 m2 f2, .slice B3 m3 f3, .int .i64 (y.first : Int), .int .i64 (y.many : Int), .int .u32 (y.epoch : Int), .int .u32 (y.low : Int), .int .u32 (y.next : Int)] 39)) s (.slice B1 m1 f1) (.slice B2 m2 f2) (.slice B3 m3 f3) (.int .i64 (y.first : Int)) (.int .i64 (y.many : Int)) (.int .u32 (y.epoch : Int)) (.int .u32 (y.low : Int)) (.int .u32 (y.next : Int))
  have hz8 := set8_size (w2.alloc (.cells #[.slice B1 m1 f1, .slice B2 m2 f2, .slice B3 m3 f3, .int .i64 (y.first : Int), .int .i64 (y.many : Int), .int .u32 (y.epoch : Int), .int .u32 (y.low : Int), .int .u32 (y.next : Int)] 39)) s (.slice B1 m1 f1) (.slice B2 m2 f2) (.slice B3 m3 f3) (.int .i64 (y.first : Int)) (.int .i64 (y.many : Int)) (.int .u32 (y.epoch : Int)) (.int .u32 (y.low : Int)) (.int .u32 (y.next : Int))
  have R3 := R2a.all8 (.slice B1 m1 f1) (.slice B2 m2 f2) (.slice B3 m3 f3) (.int .i64 (y.first : Int)) (.int .i64 (y.many : Int)) (.int .u32 (y.epoch : Int)) (.int .u32 (y.low : Int)) (.int .u32 (y.next : Int))
  have hH3 := ((HH1.out.below K hb2).below K hba).turn K hT8 (fun b g e => nS' (e ▸ g))
  have hR3 := (hR2.below hba (fun b g => g.elim (fun g => by have := hrlt b g; omega) (fun g => g.2))).turn hT8 (fun b g => g.elim (fun g => by have := hrlt b g; omega) (fun g => by have := g.2; omega)) nSR
  have ht3 := ((HT1.out.on hb2).on hba).more hT8 (fun b hb e => by omega)
  have HX := Lib.hid (And.intro hH3 (And.intro hR3 (And.intro ht3 (And.intro hz8 hsa))))
  have r0 := R2a.cell 0 _ rfl
  have r1 := R2a.cell 1 _ rfl
  have r2 := R2a.cell 2 _ rfl
  have r3 := R2a.cell 3 _ rfl
  have r4 := R2a.cell 4 _ rfl
  have r5 := R2a.cell 5 _ rfl
  have r6 := R2a.cell 6 _ rfl
  have r7 := R2a.cell 7 _ rfl
  have rf0 := R2a.fz 0 (by simp)
  have rf1 := R2a.fz 1 (by simp)
  have rf2 := R2a.fz 2 (by simp)
  have rf3 := R2a.fz 3 (by simp)
  have rf4 := R2a.fz 4 (by simp)
  have rf5 := R2a.fz 5 (by simp)
  have rf6 := R2a.fz 6 (by simp)
  have rf7 := R2a.fz 7 (by simp)
  have HR3 := Lib.hid R3
  clear hH3 hR3 ht3 hz8 hT8 hR2 R2 R2a R3 R1 HH1 HRA HT1 hba hsa
  go_wp2_with fail
  refine bodyPost_ret (results_bk_1 rfl _ rfl HR3.out Try.underlying39 rfl infoRr) rfl ?_
  obtain ⟨hH3, hR3, ht3, hz8, hsa⟩ := HX.out
  clear HX HR3 r0 r1 r2 r3 r4 r5 r6 r7 rf0 rf1 rf2 rf3 rf4 rf5 rf6 rf7
  rw [← HY.out]
  change Did6 H w F R v vd y _ (set8 (w2.alloc (.cells #[.slice B1 m1 f1, .slice B2 m2 f2, .slice B3 m3 f3, .int .i64 (y.first : Int), .int .i64 (y.many : Int), .int .u32 (y.epoch : Int), .int .u32 (y.low : Int), .int .u32 (y.next : Int)] 39)) s (.slice B1 m1 f1) (.slice B2 m2 f2) (.slice B3 m3 f3) (.int .i64 (y.first : Int)) (.int .i64 (y.many : Int)) (.int .u32 (y.epoch : Int)) (.int .u32 (y.low : Int)) (.int .u32 (y.next : Int)))
  generalize set8 (w2.alloc (.cells #[.slice B1 m1 f1, .slice B2 m2 f2, .slice B3 m3 f3, .int .i64 (y.first : Int), .int .i64 (y.many : Int), .int .u32 (y.epoch : Int), .int .u32 (y.low : Int), .int .u32 (y.next : Int)] 39)) s (.slice B1 m1 f1) (.slice B2 m2 f2) (.slice B3 m3 f3) (.int .i64 (y.first : Int)) (.int .i64 (y.many : Int)) (.int .u32 (y.epoch : Int)) (.int .u32 (y.low : Int)) (.int .u32 (y.next : Int)) = w3 at *
  generalize w2.alloc (.cells #[.slice B1 m1 f1, .slice B2 m2 f2, .slice B3 m3 f3, .int .i64 (y.first : Int), .int .i64 (y.many : Int), .int .u32 (y.epoch : Int), .int .u32 (y.low : Int), .int .u32 (y.next : Int)] 39) = wa at *
  refine ⟨_, More F w0 w1, fun b => R b ∨ S.New w1 w2 b, rfl, ⟨hH3, hR3, ?_, ?_⟩, ?_, ?_, ht3⟩
  · rintro b (g | g)
    · have := hrlt b g; omega
    · have := g.2; omega
  · rintro b (g | g) (f | f)
    · exact hoff b g f
    · have := hrlt b g; have := f.1; omega
    · have := hfl b f; have := g.1; omega
    · have := g.1; have := f.2; omega
  · rintro b (g | g)
    · exact Or.inl g
    · exact Or.inr ⟨by have := g.1; omega, by have := g.2; omega⟩
  · rintro b (g | g)
    · exact Or.inl g
    · exact Or.inr ⟨by have := g.1; omega, by have := g.2; omega⟩
end

end Go.Proofs.Ytfpojbnidoeohaa
