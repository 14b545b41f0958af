/-
  Walks of layer ring's laws: one deed, of both rings: a truncation, a sync; whatever deed.
-/
import Derived.Test.YtfpojbnidoeohaaRgLaw2
namespace Go.Proofs.Ytfpojbnidoeohaa
open Go.RowKit

section
variable {H : World → (Nat → Prop) → Value → D.Dk → Prop}

/-- the ring's disk, turned by itself -/
theorem Rp.lend {w : World} {F : Nat → Prop} {v vd : Value} {r : G.Rg} (h : Rp H w F v vd r) : ∃ Fd, H w Fd vd r.d ∧ (∀ b, Fd b → F b) ∧ ∀ (w' : World) (d' : D.Dk), d'.secs.length = r.d.secs.length → H w' (More Fd w w') vd d' → Turn Fd w w' → Rp H w' (More F w w') v vd { r with d := d' } ∧ Turn F w w' := by
  obtain ⟨hn, hm, hl, p, Fd, rfl, hp, h1, h2, h3, h4⟩ := h
  refine ⟨Fd, h4, h3, fun w' d' hd' a1 a2 => ?_⟩
  have hpl := hl p h1
  refine ⟨⟨⟨hn.e, hn.l, hn.n, hn.f, hn.m1, hn.m⟩, ⟨hm.m1, by show _ ≤ d'.secs.length; rw [hd']; exact hm.fits, hm.ln, hm.nl, hm.top⟩, ?_, p, More Fd w w', rfl, hp.turn a2 h2, Or.inl h1, ?_, ?_, a1⟩, ⟨a2.os, a2.tape, a2.output, a2.size, fun k hk hF => a2.block k hk (fun g => hF (h3 k g))⟩⟩
  · rintro b (g | g)
    · exact Nat.lt_of_lt_of_le (hl b g) a2.size
    · exact g.2
  · rintro (g | g)
    · exact h2 g
    · have := g.1; omega
  · rintro b (g | g)
    · exact Or.inl (h3 b g)
    · exact Or.inr g

theorem ring_sync (K : DiskOk H) {w : World} {F : Nat → Prop} {v vd : Value} {r : G.Rg} (h : Rp H w F v vd r) : Calls Try.prog 35 #[vd] w fun e w' => e = .returned (.tuple #[]) ∧ Rp H w' (More F w w') v vd r.sync ∧ Turn F w w' := by
  obtain ⟨Fd, h4, _, hx⟩ := h.lend
  refine (K.sync h4).mono ?_
  rintro e w' ⟨rfl, a1, a2⟩
  exact ⟨rfl, hx w' _ (D.sync_len _) a1 a2⟩

set_option maxRecDepth 100000 in
set_option maxHeartbeats 4000000 in
theorem do6_trunc (K : DiskOk H) (v vd x : Value) (r : G.Rg) (c1 c2 : Value) (X : Dd) (w : World) (F R G' : Nat → Prop) (h : Bo H w F R v vd x r) (hX : DdV w G' (.int .i64 2) c1 c2 X) (hXn : X.n < 256) :
    Calls Try.prog 15 #[vd, v, x, .agg #[.int .i64 2, c1, c2]] w (Did6 H w F R v vd (r.trunc (r.low + X.n))) := by
  have HH := Lib.hid h.real
  have HR := Lib.hid h.ref
  have hrlt := h.rlt
  have hoff := h.off
  obtain ⟨hk, hB, rfl⟩ := hX
  clear hk
  obtain ⟨Ab, capb, rfl, hcb⟩ := Sg_form hB
  obtain ⟨A1, n1, k1, A2, n2, k2, A3, n3, k3, rfl⟩ := h.ref.form
  have hfl := h.real.lt
  clear hB h
  have P0 := ((Bk.new w [.slice A1 n1 k1, .slice A2 n2 k2, .slice A3 n3 k3, .int .i64 (r.first : Int), .int .i64 (r.many : Int), .int .u32 (r.epoch : Int), .int .u32 (r.low : Int), .int .u32 (r.next : Int)] 39 rfl).alloc (.cells #[.int .i64 2, .slice Ab X.rc.length capb, .int .u8 (X.n : Int)] 46)).alloc (.cells #[nilV, nilV, nilV, .int .i64 0, .int .i64 0, .int .u32 0, .int .u32 0, .int .u32 0] 39)
  have Q0 := (Bk.new (w.alloc (.cells #[.slice A1 n1 k1, .slice A2 n2 k2, .slice A3 n3 k3, .int .i64 (r.first : Int), .int .i64 (r.many : Int), .int .u32 (r.epoch : Int), .int .u32 (r.low : Int), .int .u32 (r.next : Int)] 39)) [.int .i64 2, .slice Ab X.rc.length capb, .int .u8 (X.n : Int)] 46 (g := w.heap.size + 1) (by simp)).alloc (.cells #[nilV, nilV, nilV, .int .i64 0, .int .i64 0, .int .u32 0, .int .u32 0, .int .u32 0] 39)
  have R0 := Bk.new ((w.alloc (.cells #[.slice A1 n1 k1, .slice A2 n2 k2, .slice A3 n3 k3, .int .i64 (r.first : Int), .int .i64 (r.many : Int), .int .u32 (r.epoch : Int), .int .u32 (r.low : Int), .int .u32 (r.next : Int)] 39)).alloc (.cells #[.int .i64 2, .slice Ab X.rc.length capb, .int .u8 (X.n : Int)] 46)) [nilV, nilV, nilV, .int .i64 0, .int .i64 0, .int .u32 0, .int .u32 0, .int .u32 0] 39 (g := w.heap.size + 1 + 1) (by simp)
  have hb0 := three_new' (w := w) (o := .cells #[.slice A1 n1 k1, .slice A2 n2 k2, .slice A3 n3 k3, .int .i64 (r.first : Int), .int .i64 (r.many : Int), .int .u32 (r.epoch : Int), .int .u32 (r.low : Int), .int .u32 (r.next : Int)] 39) (o' := .cells #[.int .i64 2, .slice Ab X.rc.length capb, .int .u8 (X.n : Int)] 46) (o'' := .cells #[nilV, nilV, nilV, .int .i64 0, .int .i64 0, .int .u32 0, .int .u32 0, .int .u32 0] 39)
  have hz0 : (((w.alloc (.cells #[.slice A1 n1 k1, .slice A2 n2 k2, .slice A3 n3 k3, .int .i64 (r.first : Int), .int .i64 (r.many : Int), .int .u32 (r.epoch : Int), .int .u32 (r.low : Int), .int .u32 (r.next : Int)] 39)).alloc (.cells #[.int .i64 2, .slice Ab X.rc.length capb, .int .u8 (X.n : Int)] 46)).alloc (.cells #[nilV, nilV, nilV, .int .i64 0, .int .i64 0, .int .u32 0, .int .u32 0, .int .u32 0] 39)).heap.size = w.heap.size + 1 + 1 + 1 := by simp
  have hlt := HH.out.may.top
  have hln := HH.out.may.ln
  go_enter Try.func15, Try.ntmps15
  go_wp2_with fail
  generalize (((w.alloc (.cells #[.slice A1 n1 k1, .slice A2 n2 k2, .slice A3 n3 k3, .int .i64 (r.first : Int), .int .i64 (r.many : Int), .int .u32 (r.epoch : Int), .int .u32 (r.low : Int), .int .u32 (r.next : Int)] 39)).alloc (.cells #[.int .i64 2, .slice Ab X.rc.length capb, .int .u8 (X.n : Int)] 46)).alloc (.cells #[nilV, nilV, nilV, .int .i64 0, .int .i64 0, .int .u32 0, .int .u32 0, .int .u32 0] 39)) = w0 at *
  generalize hp : w.heap.size = p at *
  generalize hq : p + 1 = q at *
  generalize hrr : q + 1 = s at *
  have nP : ¬ F p := fun g => by have := hfl _ g; omega
  have nQ : ¬ F q := fun g => by have := hfl _ g; omega
  have nS : ¬ F s := fun g => by have := hfl _ g; omega
  have hs0 := hb0.size
  have HQ0 := Lib.hid Q0
  have HP0 := Lib.hid P0
  have HR0 := Lib.hid R0
  have HB0 : Hid (Below w.heap.size w w0) := Lib.hid (by rw [hp]; exact hb0)
  have hbd : Below w0.heap.size w0 w0.drew := (Below.refl _ _).drew
  have HLo : Hid (Calls Try.prog 16 #[v] w0.drew fun e w' => e = .returned (.int .u32 (r.low : Int)) ∧ w'.cell? ⟨q, 2, none⟩ = some (.int .u8 (X.n : Int)) ∧ Below w0.heap.size w0 w') :=
    Lib.hid ((ring_low (HH.out.below K (below_two HB0.out hbd))).mono (fun e w' ⟨e1, hb⟩ => ⟨e1, (HQ0.out.step (below_two hbd hb)).cell 2 _ rfl, below_two hbd hb⟩))
  obtain ⟨lo, hlo⟩ : ∃ lo, lo = r.low + X.n := ⟨_, rfl⟩
  have HTr : Hid (∀ w', Below w0.heap.size w0 w' → Calls Try.prog 28 #[v, .int .u32 (lo : Int)] w' fun e w'' => e = .returned (.tuple #[]) ∧ w''.cell? ⟨q, 2, none⟩ = some (.int .u8 (X.n : Int)) ∧ Rp H w'' F v vd (r.trunc lo) ∧ Turn F w' w'') :=
    Lib.hid fun w' hb => (ring_trunc K (HH.out.below K (below_two HB0.out hb)) lo (by omega)).mono (fun e w'' ⟨e1, e2, e3⟩ => ⟨e1, ((HQ0.out.step hb).turn e3 nQ).cell 2 _ rfl, e2, e3⟩)
  have hq2 : w0.drew.cell? ⟨q, 2, none⟩ = some (.int .u8 (X.n : Int)) := Q0.cell 2 _ rfl
  have HQ2 := Lib.hid hq2
  have hlo' : (r.low : Int) + (X.n : Int) = (lo : Int) := by omega
  have HLE := Lib.hid hlo
  have hlob : lo ≤ 1073742100 := by omega
  have hw1 : IntKind.u32.wrap (X.n : Int) = (X.n : Int) := by rw [IntKind.wrap_u32]; omega
  have hw2 : IntKind.u32.wrap ((r.low : Int) + (X.n : Int)) = (lo : Int) := by rw [IntKind.wrap_u32]; omega
  have HLO := Lib.hid hlo'
  clear P0 Q0 R0 hlo hq2 hlo'
  go_region_held3 (fun w' => w'.cell? ⟨q, 2, none⟩ = some (.int .u8 (X.n : Int)))
    (first | exact HQ2.out | assumption)
    (first
      | (go_at_call 16
         with_reducible refine HLo.out.mono ?_
         rintro e1 w5 ⟨rfl, hS5, hb5⟩)
      | (go_at_call 28
         with_reducible refine (HTr.out _ hb5).mono ?_
         rintro e2 w6 ⟨rfl, hS6, hH6, ht6⟩))
  clear hw1 hw2
  have hlo' := HLO.out
  have hs5 := hb5.size
  have hs6 := ht6.size
  have P6 := (HP0.out.step hb5).turn ht6 nP
  have Q6 := (HQ0.out.step hb5).turn ht6 nQ
  have R6 := (HR0.out.step hb5).turn ht6 nS
  have HT6 := Lib.hid (Turn.behind (F := F) (below_two HB0.out hb5) ht6)
  have hR6 := (HR.out.below (below_two HB0.out hb5) (fun b g => by have := hrlt b g; omega)).turn ht6 (fun b g => by have := hrlt b g; omega) hoff
  have HRT := Lib.hid (rtrunc_any hR6 (fun b g => by have := hrlt b g; omega) HH.out.num lo (by omega))
  have HH6 := Lib.hid hH6
  have HR6 := Lib.hid R6
  have p0 := P6.cell 0 _ rfl
  have p1 := P6.cell 1 _ rfl
  have p2 := P6.cell 2 _ rfl
  have p3 := P6.cell 3 _ rfl
  have p4 := P6.cell 4 _ rfl
  have p5 := P6.cell 5 _ rfl
  have p6 := P6.cell 6 _ rfl
  have p7 := P6.cell 7 _ rfl
  have q2 := Q6.cell 2 _ rfl
  clear hS6 hS5 P6 Q6 R6 hR6 hH6 HTr HLo HQ2 ht6 hb5 HP0 HQ0 HR0
  go_wp2_with fail
  refine HRT.out.mono ?_
  rintro e w2 ⟨v2, rfl, hR2, hb2⟩
  clear p0 p1 p2 p3 p4 p5 p6 p7 q2
  have hs2 := hb2.size
  obtain ⟨y, hy⟩ : ∃ y, y = r.trunc lo := ⟨_, rfl⟩
  rw [← hy] at hR2 HH6
  have HY : Hid (y = r.trunc (r.low + X.n)) := Lib.hid (by rw [hy, HLE.out])
  clear hy
  obtain ⟨B1, m1, f1, B2, m2, f2, B3, m3, f3, rfl⟩ := hR2.form
  have R2 := HR6.out.step hb2
  have hT8 := set8_turn w2 s (.slice B1 m1 f1) (.slice B2 m2 f2) (.slice B3 m3 f3) (.int .i64 (y.first : Int)) (.int .i64 (y.many : Int)) (.int .u32 (y.epoch : Int)) (.int .u32 (y.low : Int)) (.int .u32 (y.next : Int))
  have hz8 := set8_size w2 s (.slice B1 m1 f1) (.slice B2 m2 f2) (.slice B3 m3 f3) (.int .i64 (y.first : Int)) (.int .i64 (y.many : Int)) (.int .u32 (y.epoch : Int)) (.int .u32 (y.low : Int)) (.int .u32 (y.next : Int))
  have R3 := R2.all8 (.slice B1 m1 f1) (.slice B2 m2 f2) (.slice B3 m3 f3) (.int .i64 (y.first : Int)) (.int .i64 (y.many : Int)) (.int .u32 (y.epoch : Int)) (.int .u32 (y.low : Int)) (.int .u32 (y.next : Int))
  have hH3 := (HH6.out.below K hb2).turn K hT8 (fun b g e => nS (e ▸ g))
  have hR3 := hR2.turn hT8 (fun b g => by have := hrlt b g; omega) (fun b g e => by have := hrlt b g; omega)
  have ht3 := (HT6.out.on hb2).more hT8 (fun b hb e => by omega)
  have HX := Lib.hid (And.intro hH3 (And.intro hR3 (And.intro ht3 hz8)))
  have r0 := R2.cell 0 _ rfl
  have r1 := R2.cell 1 _ rfl
  have r2 := R2.cell 2 _ rfl
  have r3 := R2.cell 3 _ rfl
  have r4 := R2.cell 4 _ rfl
  have r5 := R2.cell 5 _ rfl
  have r6 := R2.cell 6 _ rfl
  have r7 := R2.cell 7 _ rfl
  have rf0 := R2.fz 0 (by simp)
  have rf1 := R2.fz 1 (by simp)
  have rf2 := R2.fz 2 (by simp)
  have rf3 := R2.fz 3 (by simp)
  have rf4 := R2.fz 4 (by simp)
  have rf5 := R2.fz 5 (by simp)
  have rf6 := R2.fz 6 (by simp)
  have rf7 := R2.fz 7 (by simp)
  have HR3 := Lib.hid R3
  clear hH3 hR3 ht3 hz8 hT8 hR2 R2 R3 HR6 HH6 HRT HT6
  go_wp2_with fail
  refine bodyPost_ret (results_bk_1 rfl _ rfl HR3.out Try.underlying39 rfl infoRr) rfl ?_
  obtain ⟨hH3, hR3, ht3, hz8⟩ := HX.out
  clear HX HR3 r0 rf0 r1 rf1 r2 rf2 r3 rf3 r4 rf4 r5 rf5 r6 rf6 r7 rf7
  rw [← HY.out]
  change Did6 H w F R v vd y _ (set8 w2 s (.slice B1 m1 f1) (.slice B2 m2 f2) (.slice B3 m3 f3) (.int .i64 (y.first : Int)) (.int .i64 (y.many : Int)) (.int .u32 (y.epoch : Int)) (.int .u32 (y.low : Int)) (.int .u32 (y.next : Int)))
  generalize set8 w2 s (.slice B1 m1 f1) (.slice B2 m2 f2) (.slice B3 m3 f3) (.int .i64 (y.first : Int)) (.int .i64 (y.many : Int)) (.int .u32 (y.epoch : Int)) (.int .u32 (y.low : Int)) (.int .u32 (y.next : Int)) = w3 at *
  exact ⟨_, F, R, rfl, ⟨hH3, hR3, fun b g => by have := hrlt b g; omega, hoff⟩, fun b g => Or.inl g, fun b g => Or.inl g, ht3⟩

set_option maxRecDepth 100000 in
set_option maxHeartbeats 4000000 in
theorem do6_sync (K : DiskOk H) (v vd x : Value) (r : G.Rg) (c1 c2 : Value) (X : Dd) (w : World) (F R G' : Nat → Prop) (h : Bo H w F R v vd x r) (hX : DdV w G' (.int .i64 X.kind) c1 c2 X) (hr : r.d.row.length ≤ 900) (hk1 : X.kind ≠ 1) (hk2 : X.kind ≠ 2) :
    Calls Try.prog 15 #[vd, v, x, .agg #[.int .i64 X.kind, c1, c2]] w (Did6 H w F R v vd r.sync) := by
  have b1 : (X.kind == 1) = false := by simpa using hk1
  have b2 : (X.kind == 2) = false := by simpa using hk2
  clear hk1 hk2
  obtain ⟨Fd, _, hDk⟩ := h.real.disk
  have hfit := K.fit hDk
  clear hDk
  have HH := Lib.hid h.real
  have HR := Lib.hid h.ref
  have hrlt := h.rlt
  have hoff := h.off
  obtain ⟨hk, hB, rfl⟩ := hX
  clear hk
  obtain ⟨Ab, capb, rfl, hcb⟩ := Sg_form hB
  obtain ⟨A1, n1, k1, A2, n2, k2, A3, n3, k3, rfl⟩ := h.ref.form
  have hfl := h.real.lt
  clear hB h
  have P0 := ((Bk.new w [.slice A1 n1 k1, .slice A2 n2 k2, .slice A3 n3 k3, .int .i64 (r.first : Int), .int .i64 (r.many : Int), .int .u32 (r.epoch : Int), .int .u32 (r.low : Int), .int .u32 (r.next : Int)] 39 rfl).alloc (.cells #[.int .i64 X.kind, .slice Ab X.rc.length capb, .int .u8 (X.n : Int)] 46)).alloc (.cells #[nilV, nilV, nilV, .int .i64 0, .int .i64 0, .int .u32 0, .int .u32 0, .int .u32 0] 39)
  have Q0 := (Bk.new (w.alloc (.cells #[.slice A1 n1 k1, .slice A2 n2 k2, .slice A3 n3 k3, .int .i64 (r.first : Int), .int .i64 (r.many : Int), .int .u32 (r.epoch : Int), .int .u32 (r.low : Int), .int .u32 (r.next : Int)] 39)) [.int .i64 X.kind, .slice Ab X.rc.length capb, .int .u8 (X.n : Int)] 46 (g := w.heap.size + 1) (by simp)).alloc (.cells #[nilV, nilV, nilV, .int .i64 0, .int .i64 0, .int .u32 0, .int .u32 0, .int .u32 0] 39)
  have R0 := Bk.new ((w.alloc (.cells #[.slice A1 n1 k1, .slice A2 n2 k2, .slice A3 n3 k3, .int .i64 (r.first : Int), .int .i64 (r.many : Int), .int .u32 (r.epoch : Int), .int .u32 (r.low : Int), .int .u32 (r.next : Int)] 39)).alloc (.cells #[.int .i64 X.kind, .slice Ab X.rc.length capb, .int .u8 (X.n : Int)] 46)) [nilV, nilV, nilV, .int .i64 0, .int .i64 0, .int .u32 0, .int .u32 0, .int .u32 0] 39 (g := w.heap.size + 1 + 1) (by simp)
  have hb0 := three_new' (w := w) (o := .cells #[.slice A1 n1 k1, .slice A2 n2 k2, .slice A3 n3 k3, .int .i64 (r.first : Int), .int .i64 (r.many : Int), .int .u32 (r.epoch : Int), .int .u32 (r.low : Int), .int .u32 (r.next : Int)] 39) (o' := .cells #[.int .i64 X.kind, .slice Ab X.rc.length capb, .int .u8 (X.n : Int)] 46) (o'' := .cells #[nilV, nilV, nilV, .int .i64 0, .int .i64 0, .int .u32 0, .int .u32 0, .int .u32 0] 39)
  have hz0 : (((w.alloc (.cells #[.slice A1 n1 k1, .slice A2 n2 k2, .slice A3 n3 k3, .int .i64 (r.first : Int), .int .i64 (r.many : Int), .int .u32 (r.epoch : Int), .int .u32 (r.low : Int), .int .u32 (r.next : Int)] 39)).alloc (.cells #[.int .i64 X.kind, .slice Ab X.rc.length capb, .int .u8 (X.n : Int)] 46)).alloc (.cells #[nilV, nilV, nilV, .int .i64 0, .int .i64 0, .int .u32 0, .int .u32 0, .int .u32 0] 39)).heap.size = w.heap.size + 1 + 1 + 1 := by simp
  have HW := Lib.hid (ring_sync K (HH.out.below K hb0))
  go_enter Try.func15, Try.ntmps15
  go_wp2_with fail
  refine HW.out.mono ?_
  rintro e w1 ⟨rfl, hH1, ht1⟩
  generalize (((w.alloc (.cells #[.slice A1 n1 k1, .slice A2 n2 k2, .slice A3 n3 k3, .int .i64 (r.first : Int), .int .i64 (r.many : Int), .int .u32 (r.epoch : Int), .int .u32 (r.low : Int), .int .u32 (r.next : Int)] 39)).alloc (.cells #[.int .i64 X.kind, .slice Ab X.rc.length capb, .int .u8 (X.n : Int)] 46)).alloc (.cells #[nilV, nilV, nilV, .int .i64 0, .int .i64 0, .int .u32 0, .int .u32 0, .int .u32 0] 39)) = w0 at *
  generalize hp : w.heap.size = p at *
  generalize hq : p + 1 = q at *
  generalize hrr : q + 1 = s at *
  have nP : ¬ F p := fun g => by have := hfl _ g; omega
  have nQ : ¬ F q := fun g => by have := hfl _ g; omega
  have nS : ¬ F s := fun g => by have := hfl _ g; omega
  have hs0 := hb0.size
  have P1 := P0.turn ht1 nP
  have R1 := R0.turn ht1 nS
  have hs1 := ht1.size
  have hR1 := (HR.out.below hb0 hrlt).turn ht1 (fun b g => by have := hrlt b g; omega) hoff
  obtain ⟨_, _, _, e0, hD1⟩ := hR1
  cases e0
  have HRS := Lib.hid (rsync_any _ r.d w1 R (fun b g => by have := hrlt b g; omega) hD1 (by omega) (by omega) (fun x hx => (hfit.1.row x hx).1))
  have HT1 := Lib.hid (Turn.behind (F := F) (by rw [hp]; exact hb0 : Below w.heap.size w w0) ht1)
  have HR1 := Lib.hid R1
  have HP1 := Lib.hid P1
  have HH1 := Lib.hid hH1
  have p0 := P1.cell 0 _ rfl
  have p1 := P1.cell 1 _ rfl
  have p2 := P1.cell 2 _ rfl
  clear P0 Q0 R0 HW P1 R1 hH1 hD1
  go_wp2_with fail
  refine HRS.out.mono ?_
  rintro e w2 ⟨v2, rfl, hR2, hb2⟩
  clear p0 p1 p2
  have hs2 := hb2.size
  obtain ⟨B1, f1, B2, f2, B3, f3, rfl⟩ := hR2.form
  obtain ⟨m1, hm1⟩ : ∃ m1, m1 = r.d.sync.secs.length := ⟨_, rfl⟩
  obtain ⟨m2, hm2⟩ : ∃ m2, m2 = r.d.sync.row.length := ⟨_, rfl⟩
  rw [← hm1, ← hm2] at hR2
  rw [← hm1, ← hm2]
  clear hm1 hm2
  have hpq : ¬ p = s := by omega
  have hqp : ¬ s = p := by omega
  have P2 := HP1.out.step hb2
  have R2 := HR1.out.step hb2
  have P3 := ((P2.set 0 (by simp) (.slice B1 m1 f1)).set 1 (by simp) (.slice B2 m2 f2)).set 2 (by simp) (.slice B3 m2 f3)
  have R3 := ((R2.other (q := p) hpq 0 (.slice B1 m1 f1)).other (q := p) hpq 1 (.slice B2 m2 f2)).other (q := p) hpq 2 (.slice B3 m2 f3)
  have hT3 := (((Turn.refl (fun b => b = p) w2).put (q := p) rfl 0 (.slice B1 m1 f1)).put (q := p) rfl 1 (.slice B2 m2 f2)).put (q := p) rfl 2 (.slice B3 m2 f3)
  have hz3 := set3_size w2 p (.slice B1 m1 f1) (.slice B2 m2 f2) (.slice B3 m2 f3)
  have HX3 := Lib.hid (And.intro P3 (And.intro R3 (And.intro hT3 hz3)))
  have HR2 := Lib.hid hR2
  have p0 := P2.cell 0 _ rfl
  have p1 := P2.cell 1 _ rfl
  have p2 := P2.cell 2 _ rfl
  have p3 := P2.cell 3 _ rfl
  have p4 := P2.cell 4 _ rfl
  have p5 := P2.cell 5 _ rfl
  have p6 := P2.cell 6 _ rfl
  have p7 := P2.cell 7 _ rfl
  have pf0 := P2.fz 0 (by simp)
  have pf1 := P2.fz 1 (by simp)
  have pf2 := P2.fz 2 (by simp)
  have r0 := R2.cell 0 _ rfl
  have r1 := R2.cell 1 _ rfl
  have r2 := R2.cell 2 _ rfl
  have r3 := R2.cell 3 _ rfl
  have r4 := R2.cell 4 _ rfl
  have r5 := R2.cell 5 _ rfl
  have r6 := R2.cell 6 _ rfl
  have r7 := R2.cell 7 _ rfl
  have rf0 := R2.fz 0 (by simp)
  have rf1 := R2.fz 1 (by simp)
  have rf2 := R2.fz 2 (by simp)
  have rf3 := R2.fz 3 (by simp)
  have rf4 := R2.fz 4 (by simp)
  have rf5 := R2.fz 5 (by simp)
  have rf6 := R2.fz 6 (by simp)
  have rf7 := R2.fz 7 (by simp)
  have HR8 := Lib.hid (R3.all8 (.slice B1 m1 f1) (.slice B2 m2 f2) (.slice B3 m2 f3) (.int .i64 (r.first : Int)) (.int .i64 (r.many : Int)) (.int .u32 (r.epoch : Int)) (.int .u32 (r.low : Int)) (.int .u32 (r.next : Int)))
  clear P2 R2 P3 R3 hT3 hz3 hR2 HP1 HR1 HRS
  go_wp2_with fail
  refine bodyPost_ret (results_bk_1 rfl _ rfl HR8.out Try.underlying39 rfl infoRr) rfl ?_
  obtain ⟨P3, R3, hT3, hz3⟩ := HX3.out
  clear HX3 HR8 r0 rf0 r1 rf1 r2 rf2 r3 rf3 r4 rf4 r5 rf5 r6 rf6 r7 rf7 p0 p1 p2 p3 p4 p5 p6 p7 pf0 pf1 pf2
  change Did6 H w F R v vd r.sync _ (set8 (((w2.setCell ⟨p, 0, none⟩ (.slice B1 m1 f1)).setCell ⟨p, 1, none⟩ (.slice B2 m2 f2)).setCell ⟨p, 2, none⟩ (.slice B3 m2 f3)) s (.slice B1 m1 f1) (.slice B2 m2 f2) (.slice B3 m2 f3) (.int .i64 (r.first : Int)) (.int .i64 (r.many : Int)) (.int .u32 (r.epoch : Int)) (.int .u32 (r.low : Int)) (.int .u32 (r.next : Int)))
  generalize ((w2.setCell ⟨p, 0, none⟩ (.slice B1 m1 f1)).setCell ⟨p, 1, none⟩ (.slice B2 m2 f2)).setCell ⟨p, 2, none⟩ (.slice B3 m2 f3) = w3 at *
  have hT8 := set8_turn w3 s (.slice B1 m1 f1) (.slice B2 m2 f2) (.slice B3 m2 f3) (.int .i64 (r.first : Int)) (.int .i64 (r.many : Int)) (.int .u32 (r.epoch : Int)) (.int .u32 (r.low : Int)) (.int .u32 (r.next : Int))
  have hz8 := set8_size w3 s (.slice B1 m1 f1) (.slice B2 m2 f2) (.slice B3 m2 f3) (.int .i64 (r.first : Int)) (.int .i64 (r.many : Int)) (.int .u32 (r.epoch : Int)) (.int .u32 (r.low : Int)) (.int .u32 (r.next : Int))
  generalize set8 w3 s (.slice B1 m1 f1) (.slice B2 m2 f2) (.slice B3 m2 f3) (.int .i64 (r.first : Int)) (.int .i64 (r.many : Int)) (.int .u32 (r.epoch : Int)) (.int .u32 (r.low : Int)) (.int .u32 (r.next : Int)) = w4 at *
  have nP' : ∀ b, More F w0 w1 b → ¬ b = p := fun b g e => g.elim (fun g => nP (e ▸ g)) (fun g => by have := g.1; omega)
  have nS' : ∀ b, More F w0 w1 b → ¬ b = s := fun b g e => g.elim (fun g => nS (e ▸ g)) (fun g => by have := g.1; omega)
  refine ⟨_, More F w0 w1, S.New w1 w2, rfl, ⟨(((HH1.out.below K hb2).turn K hT3 nP').turn K hT8 nS'), ⟨_, _, _, rfl, (HR2.out.turn hT3 (fun b g => g.2) (fun b g e => by have := g.1; omega)).turn hT8 (fun b g => by have := g.2; omega) (fun b g e => by have := g.1; omega)⟩, fun b g => by have := g.2; omega, ?_⟩, ?_, ?_, ((HT1.out.on hb2).more hT3 (fun b hb e => by omega)).more hT8 (fun b hb e => by omega)⟩
  · rintro b g (f | f)
    · have := hfl b f; have := g.1; omega
    · have := g.1; have := f.2; omega
  · rintro b (g | g)
    · exact Or.inl g
    · exact Or.inr ⟨by have := g.1; omega, by have := g.2; omega⟩
  · rintro b g
    exact Or.inr ⟨by have := g.1; omega, by have := g.2; omega⟩

/-- what a deed does -/
def G.Rg.step (r : G.Rg) (X : Dd) : G.Rg := if X.kind = 1 then r.append X.rc else if X.kind = 2 then r.trunc (r.low + X.n) else r.sync

/-- whatever deed -/
theorem do6_any (K : DiskOk H) (KF : FrameOk) (v vd x : Value) (r : G.Rg) (c0 c1 c2 : Value) (X : Dd) (w : World) (F R G' : Nat → Prop) (h : Bo H w F R v vd x r) (hX : DdV w G' c0 c1 c2 X) (hO : X.Ok) (hG : ∀ b, G' b → b < w.heap.size) (hGF : ∀ b, G' b → ¬ F b) (hr : r.d.row.length ≤ 900) (hb : X.rc.length ≤ 1000) :
    Calls Try.prog 15 #[vd, v, x, .agg #[c0, c1, c2]] w (Did6 H w F R v vd (r.step X)) := by
  have e0 := hX.1
  subst e0
  by_cases h1 : X.kind = 1
  · rw [G.Rg.step, if_pos h1]
    rw [h1] at hX ⊢
    exact do6_append K KF v vd x r c1 c2 X w F R G' h hX hG hGF hr hb
  · by_cases h2 : X.kind = 2
    · rw [G.Rg.step, if_neg h1, if_pos h2]
      rw [h2] at hX ⊢
      exact do6_trunc K v vd x r c1 c2 X w F R G' h hX hO.n
    · rw [G.Rg.step, if_neg h1, if_neg h2]
      exact do6_sync K v vd x r c1 c2 X w F R G' h hX hr h1 h2
end

end Go.Proofs.Ytfpojbnidoeohaa
