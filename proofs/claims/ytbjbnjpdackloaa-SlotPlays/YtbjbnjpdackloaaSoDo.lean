/-
  Walks of layer slot's laws: a deed, of the program's disk and of the document's.
-/
import Derived.Test.YtbjbnjpdackloaaSoRef2
namespace Go.Proofs.Ytbjbnjpdackloaa
open Go.RowKit

/-- what a deed makes of a disk -/
def dstep (d : D.Dk) (first size : Int) (X : Dd) : D.Dk := if X.kind = 1 then savD d first size X.gen X.b else if X.kind = 2 then d.sync else if X.kind = 3 then d.crash X.keep else d.write X.at_ X.b

/-- both disks behind a deed -/
def Did (H : World → (Nat → Prop) → Value → D.Dk → Prop) (w : World) (F R : Nat → Prop) (vd : Value) (d' : D.Dk) (e : Ending) (w' : World) : Prop :=
  ∃ x' F' R', e = .returned (.tuple #[x', .bool true]) ∧ H w' F' vd d' ∧ Rd w' R' x' d' ∧ (∀ b, F' b → F b ∨ S.New w w' b) ∧ (∀ b, R' b → R b ∨ S.New w w' b) ∧ (∀ b, R' b → b < w'.heap.size ∧ ¬ F' b) ∧ Turn F w w'

section
variable {H : World → (Nat → Prop) → Value → D.Dk → Prop}

/-- the result stored -/
theorem do_fin (K : DiskOk H) {w wf : World} {F F1 R R1 : Nat → Prop} {vd y1 y2 y3 z1 z2 z3 : Value} {d' : D.Dk} {q : Nat} (hw : w.heap.size ≤ q) (hQ : Bk wf q [z1, z2, z3]) (hH : H wf F1 vd d') (hR : Rd wf R1 (.agg #[y1, y2, y3]) d') (n1 : ¬ F1 q) (n2 : ¬ R1 q)
    (hF1 : ∀ b, F1 b → F b ∨ S.New w wf b) (hR1 : ∀ b, R1 b → R b ∨ S.New w wf b) (hd : ∀ b, R1 b → b < wf.heap.size ∧ ¬ F1 b) (ht : Turn F w wf) {w' : World} (e : w' = ((wf.setCell ⟨q, 0, none⟩ y1).setCell ⟨q, 1, none⟩ y2).setCell ⟨q, 2, none⟩ y3) :
    Bk w' q [y1, y2, y3] ∧ Did H w F R vd d' (.returned (.tuple #[.agg #[y1, y2, y3], .bool true])) w' := by
  have hQ' := hQ.all3 y1 y2 y3
  have hT := turn3 wf q y1 y2 y3
  have hs : (((wf.setCell ⟨q, 0, none⟩ y1).setCell ⟨q, 1, none⟩ y2).setCell ⟨q, 2, none⟩ y3).heap.size = wf.heap.size := by simp [World.setCell]
  rw [← e] at hQ' hT hs
  have hN : ∀ b, S.New w wf b → S.New w w' b := fun b g => ⟨g.1, by rw [hs]; exact g.2⟩
  refine ⟨hQ', _, F1, R1, rfl, K.turn hH hT (fun b g ee => n1 (by rw [← ee]; exact g)), hR.turn hT (fun b g => (hd b g).1) (fun b g ee => n2 (by rw [← ee]; exact g)), fun b g => (hF1 b g).imp id (hN b), fun b g => (hR1 b g).imp id (hN b), fun b g => ⟨by rw [hs]; exact (hd b g).1, (hd b g).2⟩, ?_⟩
  exact ⟨hT.os.trans ht.os, hT.tape.trans ht.tape, hT.output.trans ht.output, by rw [hs]; exact ht.size, fun k hk hn => (hT.block k (Nat.lt_of_lt_of_le hk ht.size) (by omega)).trans (ht.block k hk hn)⟩

set_option maxRecDepth 100000 in
set_option maxHeartbeats 8000000 in
theorem do_any (K : DiskOk H) (KF : FrameOk) {w : World} {F R G : Nat → Prop} {va : Addr} {x vb vk : Value} {d : D.Dk} (h : H w F (.pointer (some va)) d) (hR : Rd w R x d) (hRl : ∀ c, R c → c < w.heap.size ∧ ¬ F c) (hGl : ∀ c, G c → c < w.heap.size ∧ ¬ F c) (first size : Int) (hf0 : -9223372036854775808 ≤ first) (hf1 : first ≤ 9223372036854775807) (hm0 : -9223372036854775808 ≤ size) (hm1 : size ≤ 9223372036854775807) (X : Dd) (hX : X.Ok) (hB : SlB w G vb X.b) (hKp : SlT w G vk X.keep) (h12 : d.secs.length = 12) (hrow : d.row.length ≤ 900) (hbl : X.b.length ≤ 300) :
    Calls Try.prog 13 #[.pointer (some va), x, .agg #[.int .i64 first, .int .i64 size], .agg #[.int .i64 X.kind, .int .u32 (X.gen : Int), .int .i64 X.at_, vb, vk]] w (Did H w F R (.pointer (some va)) (dstep d first size X)) := by
  obtain ⟨kind, gen, at_, b, keep⟩ := X
  obtain ⟨k0, k1, hgen, a0, a1, _, hkl⟩ := hX
  simp only at k0 k1 hgen a0 a1 hkl hbl hB hKp ⊢
  have HFit := Lib.hid (K.fit h).1
  have h12a : d.secs.length ≤ 12 := by omega
  clear h12
  have HH := Lib.hid h
  have HR := Lib.hid hR
  have HB := Lib.hid hB
  have HKp := Lib.hid hKp
  have hFl := K.lt h
  obtain ⟨A1, c1, A2, c2, A3, c3, rfl⟩ := hR.form
  obtain ⟨Ab, capb, rfl, hcb⟩ := Sg_form hB
  obtain ⟨Ak, capk, rfl, hck⟩ := Sg_form hKp
  clear h hR hB hKp
  have hb0 : Below w.heap.size w ((((w.alloc (.cells #[.slice A1 d.secs.length c1, .slice A2 d.row.length c2, .slice A3 d.row.length c3] 32)).alloc (.cells #[.int .i64 first, .int .i64 size] 23)).alloc (.cells #[.int .i64 kind, .int .u32 (gen : Int), .int .i64 at_, .slice Ab b.length capb, .slice Ak keep.length capk] 40)).alloc (.cells #[nilV, nilV, nilV] 32)) := ((((Below.refl _ w).alloc (Nat.le_refl _) _).alloc (by simp) _).alloc (by simp; omega) _).alloc (by simp; omega) _
  have hz0 : ((((w.alloc (.cells #[.slice A1 d.secs.length c1, .slice A2 d.row.length c2, .slice A3 d.row.length c3] 32)).alloc (.cells #[.int .i64 first, .int .i64 size] 23)).alloc (.cells #[.int .i64 kind, .int .u32 (gen : Int), .int .i64 at_, .slice Ab b.length capb, .slice Ak keep.length capk] 40)).alloc (.cells #[nilV, nilV, nilV] 32)).heap.size = w.heap.size + 4 := by simp
  have X0 : Bk ((((w.alloc (.cells #[.slice A1 d.secs.length c1, .slice A2 d.row.length c2, .slice A3 d.row.length c3] 32)).alloc (.cells #[.int .i64 first, .int .i64 size] 23)).alloc (.cells #[.int .i64 kind, .int .u32 (gen : Int), .int .i64 at_, .slice Ab b.length capb, .slice Ak keep.length capk] 40)).alloc (.cells #[nilV, nilV, nilV] 32)) w.heap.size [.slice A1 d.secs.length c1, .slice A2 d.row.length c2, .slice A3 d.row.length c3] := (((Bk.new w [.slice A1 d.secs.length c1, .slice A2 d.row.length c2, .slice A3 d.row.length c3] 32 rfl).alloc _).alloc _).alloc _
  have A0 : Bk ((((w.alloc (.cells #[.slice A1 d.secs.length c1, .slice A2 d.row.length c2, .slice A3 d.row.length c3] 32)).alloc (.cells #[.int .i64 first, .int .i64 size] 23)).alloc (.cells #[.int .i64 kind, .int .u32 (gen : Int), .int .i64 at_, .slice Ab b.length capb, .slice Ak keep.length capk] 40)).alloc (.cells #[nilV, nilV, nilV] 32)) (w.heap.size + 1) [.int .i64 first, .int .i64 size] := ((Bk.new (w.alloc (.cells #[.slice A1 d.secs.length c1, .slice A2 d.row.length c2, .slice A3 d.row.length c3] 32)) [.int .i64 first, .int .i64 size] 23 (g := w.heap.size + 1) (by simp)).alloc _).alloc _
  have C0 : Bk ((((w.alloc (.cells #[.slice A1 d.secs.length c1, .slice A2 d.row.length c2, .slice A3 d.row.length c3] 32)).alloc (.cells #[.int .i64 first, .int .i64 size] 23)).alloc (.cells #[.int .i64 kind, .int .u32 (gen : Int), .int .i64 at_, .slice Ab b.length capb, .slice Ak keep.length capk] 40)).alloc (.cells #[nilV, nilV, nilV] 32)) (w.heap.size + 2) [.int .i64 kind, .int .u32 (gen : Int), .int .i64 at_, .slice Ab b.length capb, .slice Ak keep.length capk] := (Bk.new ((w.alloc (.cells #[.slice A1 d.secs.length c1, .slice A2 d.row.length c2, .slice A3 d.row.length c3] 32)).alloc (.cells #[.int .i64 first, .int .i64 size] 23)) [.int .i64 kind, .int .u32 (gen : Int), .int .i64 at_, .slice Ab b.length capb, .slice Ak keep.length capk] 40 (g := w.heap.size + 2) (by simp)).alloc _
  have Z0 : Bk ((((w.alloc (.cells #[.slice A1 d.secs.length c1, .slice A2 d.row.length c2, .slice A3 d.row.length c3] 32)).alloc (.cells #[.int .i64 first, .int .i64 size] 23)).alloc (.cells #[.int .i64 kind, .int .u32 (gen : Int), .int .i64 at_, .slice Ab b.length capb, .slice Ak keep.length capk] 40)).alloc (.cells #[nilV, nilV, nilV] 32)) (w.heap.size + 3) [nilV, nilV, nilV] := Bk.new (((w.alloc (.cells #[.slice A1 d.secs.length c1, .slice A2 d.row.length c2, .slice A3 d.row.length c3] 32)).alloc (.cells #[.int .i64 first, .int .i64 size] 23)).alloc (.cells #[.int .i64 kind, .int .u32 (gen : Int), .int .i64 at_, .slice Ab b.length capb, .slice Ak keep.length capk] 40)) [nilV, nilV, nilV] 32 (g := w.heap.size + 3) (by simp)
  have C1 : Bk (((w.alloc (.cells #[.slice A1 d.secs.length c1, .slice A2 d.row.length c2, .slice A3 d.row.length c3] 32)).alloc (.cells #[.int .i64 first, .int .i64 size] 23)).alloc (.cells #[.int .i64 kind, .int .u32 (gen : Int), .int .i64 at_, .slice Ab b.length capb, .slice Ak keep.length capk] 40)) (w.heap.size + 2) [.int .i64 kind, .int .u32 (gen : Int), .int .i64 at_, .slice Ab b.length capb, .slice Ak keep.length capk] := Bk.new ((w.alloc (.cells #[.slice A1 d.secs.length c1, .slice A2 d.row.length c2, .slice A3 d.row.length c3] 32)).alloc (.cells #[.int .i64 first, .int .i64 size] 23)) [.int .i64 kind, .int .u32 (gen : Int), .int .i64 at_, .slice Ab b.length capb, .slice Ak keep.length capk] 40 (g := w.heap.size + 2) (by simp)
  have HX0 := Lib.hid X0
  have HA0 := Lib.hid A0
  have HC0 := Lib.hid C0
  have HZ0 := Lib.hid Z0
  clear X0 A0 C0 Z0 C1
  -- behind a call that turns the program's disk, and one of the document's
  have HP : Hid (∀ w1, Turn F ((((w.alloc (.cells #[.slice A1 d.secs.length c1, .slice A2 d.row.length c2, .slice A3 d.row.length c3] 32)).alloc (.cells #[.int .i64 first, .int .i64 size] 23)).alloc (.cells #[.int .i64 kind, .int .u32 (gen : Int), .int .i64 at_, .slice Ab b.length capb, .slice Ak keep.length capk] 40)).alloc (.cells #[nilV, nilV, nilV] 32)) w1 → Bk w1 w.heap.size [.slice A1 d.secs.length c1, .slice A2 d.row.length c2, .slice A3 d.row.length c3] ∧ Bk w1 (w.heap.size + 1) [.int .i64 first, .int .i64 size] ∧ Bk w1 (w.heap.size + 2) [.int .i64 kind, .int .u32 (gen : Int), .int .i64 at_, .slice Ab b.length capb, .slice Ak keep.length capk] ∧ Bk w1 (w.heap.size + 3) [nilV, nilV, nilV] ∧ Rd w1 R (.agg #[.slice A1 d.secs.length c1, .slice A2 d.row.length c2, .slice A3 d.row.length c3]) d ∧ SlB w1 G (.slice Ab b.length capb) b ∧ SlT w1 G (.slice Ak keep.length capk) keep ∧ Turn F w w1) := Lib.hid (fun w1 ht =>
    ⟨HX0.out.turn ht (fun g => by have := hFl _ g; omega), HA0.out.turn ht (fun g => by have := hFl _ g; omega), HC0.out.turn ht (fun g => by have := hFl _ g; omega), HZ0.out.turn ht (fun g => by have := hFl _ g; omega),
      (HR.out.below hb0 (fun c g => (hRl c g).1)).turn ht (fun c g => by have := (hRl c g).1; omega) (fun c g => (hRl c g).2),
      (HB.out.below hb0 (fun c g => (hGl c g).1)).keep (fun p hp => ht.cell (by have := (hGl _ hp).1; omega) (hGl _ hp).2), (HKp.out.below hb0 (fun c g => (hGl c g).1)).keep (fun p hp => ht.cell (by have := (hGl _ hp).1; omega) (hGl _ hp).2), Turn.behind hb0 ht⟩)
  have HHW := Lib.hid (K.below HH.out hb0)
  have HBW := Lib.hid (HB.out.below hb0 (fun c g => (hGl c g).1))
  have HKW := Lib.hid (HKp.out.below hb0 (fun c g => (hGl c g).1))
  have hGW : ∀ c, G c → c < ((((w.alloc (.cells #[.slice A1 d.secs.length c1, .slice A2 d.row.length c2, .slice A3 d.row.length c3] 32)).alloc (.cells #[.int .i64 first, .int .i64 size] 23)).alloc (.cells #[.int .i64 kind, .int .u32 (gen : Int), .int .i64 at_, .slice Ab b.length capb, .slice Ak keep.length capk] 40)).alloc (.cells #[nilV, nilV, nilV] 32)).heap.size := fun c g => by have := (hGl c g).1; omega
  unfold dstep
  simp only
  by_cases hk1 : kind = 1
  · subst hk1
    rw [if_pos rfl]
    have HS := Lib.hid (save_any K KF HHW.out (gen := gen) hf0 hf1 hm0 hm1 HBW.out hGW (by omega) hgen (by omega))
    go_enter Try.func13, Try.ntmps13
    go_wp2_with fail
    refine HS.out.mono ?_
    rintro e w1 ⟨rfl, ⟨F1, hH1, hF1⟩, hP1⟩
    have ht1 := hP1
    obtain ⟨X1, A1', C1, Z1, hR1, hB1, hK1, hT1⟩ := HP.out w1 hP1
    have hs1 := hP1.size
    have x0 := X1.cell 0 _ rfl
    have x1 := X1.cell 1 _ rfl
    have x2 := X1.cell 2 _ rfl
    have y0 := A1'.cell 0 _ rfl
    have y1 := A1'.cell 1 _ rfl
    have c0 := C1.cell 0 _ rfl
    have d1 := C1.cell 1 _ rfl
    have d2 := C1.cell 2 _ rfl
    have d3 := C1.cell 3 _ rfl
    have d4 := C1.cell 4 _ rfl
    have HZ1 := Lib.hid Z1
    have HR1 := Lib.hid hR1
    have HT1 := Lib.hid hT1
    have HRs := Lib.hid (rsave8 _ d w1 R (fun c g => by have := (hRl c g).1; omega) hR1 (by omega) (by omega) first size gen b (by omega) hgen hf0 hf1 hm0 hm1)
    have hcv := conv_sg hB1
    have HH1 := Lib.hid hH1
    have hlt1 := K.lt hH1
    generalize savE d first size gen b = E at *
    generalize savD d first size gen b = d' at *
    clear HS X1 A1' C1 Z1 hR1 hB1 hK1 hT1 hH1
    go_wp2_with fail
    refine HRs.out.mono ?_
    rintro e w2 ⟨v2, rfl, hRf, hb2⟩
    have hs2 := hb2.size
    have WFQ0 := HZ1.out.step hb2
    clear x0 x1 x2 y0 y1 c0 d1 d2 d3 d4 hcv HRs
    obtain ⟨D1, g1, D2, g2, D3, g3, rfl⟩ := hRf.form
    have HRf := Lib.hid hRf
    generalize d'.secs.length = n4 at *
    generalize d'.row.length = n5 at *
    have hba : Below w2.heap.size w2 (w2.alloc (.cells #[.slice D1 n4 g1, .slice D2 n5 g2, .slice D3 n5 g3] 32)) := (Below.refl _ _).alloc (Nat.le_refl _) _
    have hza : (w2.alloc (.cells #[.slice D1 n4 g1, .slice D2 n5 g2, .slice D3 n5 g3] 32)).heap.size = w2.heap.size + 1 := by simp
    have WFQ := WFQ0.step hba
    have HDo := Lib.hid (do_fin K (w := w) (F := F) (R := R) (q := w.heap.size + 3) (by omega) WFQ (K.below (K.below HH1.out hb2) hba) (HRf.out.below hba (fun c g => g.elim (fun g => by have := (hRl c g).1; omega) (fun g => g.2))) (fun g => (hF1 _ g).elim (fun g => by have := hFl _ g; omega) (fun g => by have := g.1; omega)) (fun g => g.elim (fun g => by have := (hRl _ g).1; omega) (fun g => by have := g.1; omega)) (fun c g => (hF1 c g).imp id (fun g => ⟨by have := g.1; omega, by have := g.2; omega⟩)) (fun c g => g.imp id (fun g => ⟨by have := g.1; omega, by have := g.2; omega⟩)) (fun c g => ⟨g.elim (fun g => by have := (hRl c g).1; omega) (fun g => by have := g.2; omega), fun f => g.elim (fun g => (hF1 c f).elim (hRl c g).2 (fun f => by have := (hRl c g).1; have := f.1; omega)) (fun g => by have := hlt1 c f; have := g.1; omega)⟩) ((HT1.out.on hb2).on hba) rfl)
    have q0 := WFQ.cell 0 _ rfl
    have q1 := WFQ.cell 1 _ rfl
    have q2 := WFQ.cell 2 _ rfl
    have z0 := WFQ.fz 0 (by simp)
    have z1 := WFQ.fz 1 (by simp)
    have z2 := WFQ.fz 2 (by simp)
    have nq : ¬ w2.heap.size = w.heap.size + 3 := by omega
    have nq' : ¬ w.heap.size + 3 = w2.heap.size := by omega
    clear WFQ WFQ0 hRf
    go_wp2_with fail
    obtain ⟨f1, x', F', R', f2, f3⟩ := HDo.out
    refine bodyPost_ret (results_bk_1 rfl _ rfl f1 Try.underlying32 rfl infoRd) rfl ?_
    exact ⟨x', F', R', (ret_v rfl).trans f2, f3⟩
  rw [if_neg hk1]
  have hk1' : (kind == 1) = false := by simpa using hk1
  by_cases hk2 : kind = 2
  · subst hk2
    rw [if_pos rfl]
    have HS := Lib.hid (K.sync HHW.out)
    go_enter Try.func13, Try.ntmps13
    go_wp2_with fail
    refine HS.out.mono ?_
    rintro e w1 ⟨rfl, hH1, hP1⟩
    have hF1 : ∀ c, More F ((((w.alloc (.cells #[.slice A1 d.secs.length c1, .slice A2 d.row.length c2, .slice A3 d.row.length c3] 32)).alloc (.cells #[.int .i64 first, .int .i64 size] 23)).alloc (.cells #[.int .i64 2, .int .u32 (gen : Int), .int .i64 at_, .slice Ab b.length capb, .slice Ak keep.length capk] 40)).alloc (.cells #[nilV, nilV, nilV] 32)) w1 c → F c ∨ S.New ((((w.alloc (.cells #[.slice A1 d.secs.length c1, .slice A2 d.row.length c2, .slice A3 d.row.length c3] 32)).alloc (.cells #[.int .i64 first, .int .i64 size] 23)).alloc (.cells #[.int .i64 2, .int .u32 (gen : Int), .int .i64 at_, .slice Ab b.length capb, .slice Ak keep.length capk] 40)).alloc (.cells #[nilV, nilV, nilV] 32)) w1 c := fun c g => g
    generalize More F ((((w.alloc (.cells #[.slice A1 d.secs.length c1, .slice A2 d.row.length c2, .slice A3 d.row.length c3] 32)).alloc (.cells #[.int .i64 first, .int .i64 size] 23)).alloc (.cells #[.int .i64 2, .int .u32 (gen : Int), .int .i64 at_, .slice Ab b.length capb, .slice Ak keep.length capk] 40)).alloc (.cells #[nilV, nilV, nilV] 32)) w1 = F1 at *
    have ht1 := hP1
    obtain ⟨X1, A1', C1, Z1, hR1, hB1, hK1, hT1⟩ := HP.out w1 hP1
    have hs1 := hP1.size
    have x0 := X1.cell 0 _ rfl
    have x1 := X1.cell 1 _ rfl
    have x2 := X1.cell 2 _ rfl
    have y0 := A1'.cell 0 _ rfl
    have y1 := A1'.cell 1 _ rfl
    have c0 := C1.cell 0 _ rfl
    have d1 := C1.cell 1 _ rfl
    have d2 := C1.cell 2 _ rfl
    have d3 := C1.cell 3 _ rfl
    have d4 := C1.cell 4 _ rfl
    have HZ1 := Lib.hid Z1
    have HR1 := Lib.hid hR1
    have HT1 := Lib.hid hT1
    have HRs := Lib.hid (rsync_any _ d w1 R (fun c g => by have := (hRl c g).1; omega) hR1 (by omega) (by omega) (fun y hy => (HFit.out.row y hy).1))
    have HH1 := Lib.hid hH1
    have hlt1 := K.lt hH1
    clear HS X1 A1' C1 Z1 hR1 hB1 hK1 hT1 hH1
    go_wp2_with fail
    refine HRs.out.mono ?_
    rintro e w2 ⟨v2, rfl, hRf, hb2⟩
    have hs2 := hb2.size
    have WFQ := HZ1.out.step hb2
    clear x0 x1 x2 y0 y1 c0 d1 d2 d3 d4 HRs
    obtain ⟨D1, g1, D2, g2, D3, g3, rfl⟩ := hRf.form
    have HRf := Lib.hid hRf
    generalize d.sync.secs.length = n4 at *
    generalize d.sync.row.length = n5 at *
    have HDo := Lib.hid (do_fin K (w := w) (F := F) (R := R) (q := w.heap.size + 3) (by omega) WFQ (K.below HH1.out hb2) HRf.out (fun g => (hF1 _ g).elim (fun g => by have := hFl _ g; omega) (fun g => by have := g.1; omega)) (fun g => by have := g.1; omega) (fun c g => (hF1 c g).imp id (fun g => ⟨by have := g.1; omega, by have := g.2; omega⟩)) (fun c g => Or.inr ⟨by have := g.1; omega, g.2⟩) (fun c g => ⟨g.2, fun f => by have := hlt1 c f; have := g.1; omega⟩) (HT1.out.on hb2) rfl)
    have q0 := WFQ.cell 0 _ rfl
    have q1 := WFQ.cell 1 _ rfl
    have q2 := WFQ.cell 2 _ rfl
    have z0 := WFQ.fz 0 (by simp)
    have z1 := WFQ.fz 1 (by simp)
    have z2 := WFQ.fz 2 (by simp)
    clear WFQ hRf
    go_wp2_with fail
    obtain ⟨f1, x', F', R', f2, f3⟩ := HDo.out
    refine bodyPost_ret (results_bk_1 rfl _ rfl f1 Try.underlying32 rfl infoRd) rfl ?_
    exact ⟨x', F', R', (ret_v rfl).trans f2, f3⟩
  rw [if_neg hk2]
  have hk2' : (kind == 2) = false := by simpa using hk2
  by_cases hk3 : kind = 3
  · subst hk3
    rw [if_pos rfl]
    have HS := Lib.hid (K.crash G (.slice Ak keep.length capk) keep HHW.out HKW.out hGW (fun c g => (hGl c g).2))
    go_enter Try.func13, Try.ntmps13
    go_wp2_with fail
    refine HS.out.mono ?_
    rintro e w1 ⟨rfl, hH1, hP1⟩
    have hF1 : ∀ c, More F ((((w.alloc (.cells #[.slice A1 d.secs.length c1, .slice A2 d.row.length c2, .slice A3 d.row.length c3] 32)).alloc (.cells #[.int .i64 first, .int .i64 size] 23)).alloc (.cells #[.int .i64 3, .int .u32 (gen : Int), .int .i64 at_, .slice Ab b.length capb, .slice Ak keep.length capk] 40)).alloc (.cells #[nilV, nilV, nilV] 32)) w1 c → F c ∨ S.New ((((w.alloc (.cells #[.slice A1 d.secs.length c1, .slice A2 d.row.length c2, .slice A3 d.row.length c3] 32)).alloc (.cells #[.int .i64 first, .int .i64 size] 23)).alloc (.cells #[.int .i64 3, .int .u32 (gen : Int), .int .i64 at_, .slice Ab b.length capb, .slice Ak keep.length capk] 40)).alloc (.cells #[nilV, nilV, nilV] 32)) w1 c := fun c g => g
    generalize More F ((((w.alloc (.cells #[.slice A1 d.secs.length c1, .slice A2 d.row.length c2, .slice A3 d.row.length c3] 32)).alloc (.cells #[.int .i64 first, .int .i64 size] 23)).alloc (.cells #[.int .i64 3, .int .u32 (gen : Int), .int .i64 at_, .slice Ab b.length capb, .slice Ak keep.length capk] 40)).alloc (.cells #[nilV, nilV, nilV] 32)) w1 = F1 at *
    have ht1 := hP1
    obtain ⟨X1, A1', C1, Z1, hR1, hB1, hK1, hT1⟩ := HP.out w1 hP1
    have hs1 := hP1.size
    have x0 := X1.cell 0 _ rfl
    have x1 := X1.cell 1 _ rfl
    have x2 := X1.cell 2 _ rfl
    have y0 := A1'.cell 0 _ rfl
    have y1 := A1'.cell 1 _ rfl
    have c0 := C1.cell 0 _ rfl
    have d1 := C1.cell 1 _ rfl
    have d2 := C1.cell 2 _ rfl
    have d3 := C1.cell 3 _ rfl
    have d4 := C1.cell 4 _ rfl
    have HZ1 := Lib.hid Z1
    have HR1 := Lib.hid hR1
    have HT1 := Lib.hid hT1
    have HRs := Lib.hid (rcrash_any _ _ d keep w1 R (fun c g => by have := (hRl c g).1; omega) hR1 G (fun c g => by have := (hGl c g).1; omega) hK1 (by omega) (by omega) hkl (fun y hy => (HFit.out.row y hy).1))
    have HH1 := Lib.hid hH1
    have hlt1 := K.lt hH1
    clear HS X1 A1' C1 Z1 hR1 hB1 hK1 hT1 hH1
    go_wp2_with fail
    refine HRs.out.mono ?_
    rintro e w2 ⟨v2, rfl, hRf, hb2⟩
    have hs2 := hb2.size
    have WFQ := HZ1.out.step hb2
    clear x0 x1 x2 y0 y1 c0 d1 d2 d3 d4 HRs
    obtain ⟨D1, g1, D2, g2, D3, g3, rfl⟩ := hRf.form
    have HRf := Lib.hid hRf
    generalize (d.crash keep).secs.length = n4 at *
    generalize (d.crash keep).row.length = n5 at *
    have HDo := Lib.hid (do_fin K (w := w) (F := F) (R := R) (q := w.heap.size + 3) (by omega) WFQ (K.below HH1.out hb2) HRf.out (fun g => (hF1 _ g).elim (fun g => by have := hFl _ g; omega) (fun g => by have := g.1; omega)) (fun g => by have := g.1; omega) (fun c g => (hF1 c g).imp id (fun g => ⟨by have := g.1; omega, by have := g.2; omega⟩)) (fun c g => Or.inr ⟨by have := g.1; omega, g.2⟩) (fun c g => ⟨g.2, fun f => by have := hlt1 c f; have := g.1; omega⟩) (HT1.out.on hb2) rfl)
    have q0 := WFQ.cell 0 _ rfl
    have q1 := WFQ.cell 1 _ rfl
    have q2 := WFQ.cell 2 _ rfl
    have z0 := WFQ.fz 0 (by simp)
    have z1 := WFQ.fz 1 (by simp)
    have z2 := WFQ.fz 2 (by simp)
    clear WFQ hRf
    go_wp2_with fail
    obtain ⟨f1, x', F', R', f2, f3⟩ := HDo.out
    refine bodyPost_ret (results_bk_1 rfl _ rfl f1 Try.underlying32 rfl infoRd) rfl ?_
    exact ⟨x', F', R', (ret_v rfl).trans f2, f3⟩
  rw [if_neg hk3]
  have hk3' : (kind == 3) = false := by simpa using hk3
  have HS := Lib.hid (K.write G (.slice Ab b.length capb) b at_ HHW.out HBW.out hGW (by omega) (by omega) a0 a1)
  go_enter Try.func13, Try.ntmps13
  go_wp2_with fail
  refine HS.out.mono ?_
  rintro e w1 ⟨rfl, hH1, hP1⟩
  have hF1 : ∀ c, More F ((((w.alloc (.cells #[.slice A1 d.secs.length c1, .slice A2 d.row.length c2, .slice A3 d.row.length c3] 32)).alloc (.cells #[.int .i64 first, .int .i64 size] 23)).alloc (.cells #[.int .i64 kind, .int .u32 (gen : Int), .int .i64 at_, .slice Ab b.length capb, .slice Ak keep.length capk] 40)).alloc (.cells #[nilV, nilV, nilV] 32)) w1 c → F c ∨ S.New ((((w.alloc (.cells #[.slice A1 d.secs.length c1, .slice A2 d.row.length c2, .slice A3 d.row.length c3] 32)).alloc (.cells #[.int .i64 first, .int .i64 size] 23)).alloc (.cells #[.int .i64 kind, .int .u32 (gen : Int), .int .i64 at_, .slice Ab b.length capb, .slice Ak keep.length capk] 40)).alloc (.cells #[nilV, nilV, nilV] 32)) w1 c := fun c g => g
  generalize More F ((((w.alloc (.cells #[.slice A1 d.secs.length c1, .slice A2 d.row.length c2, .slice A3 d.row.length c3] 32)).alloc (.cells #[.int .i64 first, .int .i64 size] 23)).alloc (.cells #[.int .i64 kind, .int .u32 (gen : Int), .int .i64 at_, .slice Ab b.length capb, .slice Ak keep.length capk] 40)).alloc (.cells #[nilV, nilV, nilV] 32)) w1 = F1 at *
  have ht1 := hP1
  obtain ⟨X1, A1', C1, Z1, hR1, hB1, hK1, hT1⟩ := HP.out w1 hP1
  have hs1 := hP1.size
  have x0 := X1.cell 0 _ rfl
  have x1 := X1.cell 1 _ rfl
  have x2 := X1.cell 2 _ rfl
  have y0 := A1'.cell 0 _ rfl
  have y1 := A1'.cell 1 _ rfl
  have c0 := C1.cell 0 _ rfl
  have d1 := C1.cell 1 _ rfl
  have d2 := C1.cell 2 _ rfl
  have d3 := C1.cell 3 _ rfl
  have d4 := C1.cell 4 _ rfl
  have HZ1 := Lib.hid Z1
  have HR1 := Lib.hid hR1
  have HT1 := Lib.hid hT1
  have HRs := Lib.hid (rwrite_any _ _ d at_ b w1 R (fun c g => by have := (hRl c g).1; omega) hR1 G (fun c g => by have := (hGl c g).1; omega) hB1 (by omega) (by omega))
  have HH1 := Lib.hid hH1
  have hlt1 := K.lt hH1
  generalize d.bad at_ b = E at *
  generalize d.write at_ b = d' at *
  clear HS X1 A1' C1 Z1 hR1 hB1 hK1 hT1 hH1
  go_wp2_with fail
  refine HRs.out.mono ?_
  rintro e w2 ⟨v2, rfl, hRf, hb2⟩
  have hs2 := hb2.size
  have WFQ0 := HZ1.out.step hb2
  clear x0 x1 x2 y0 y1 c0 d1 d2 d3 d4 HRs
  obtain ⟨D1, g1, D2, g2, D3, g3, rfl⟩ := hRf.form
  have HRf := Lib.hid hRf
  generalize d'.secs.length = n4 at *
  generalize d'.row.length = n5 at *
  have hba : Below w2.heap.size w2 (w2.alloc (.cells #[.slice D1 n4 g1, .slice D2 n5 g2, .slice D3 n5 g3] 32)) := (Below.refl _ _).alloc (Nat.le_refl _) _
  have hza : (w2.alloc (.cells #[.slice D1 n4 g1, .slice D2 n5 g2, .slice D3 n5 g3] 32)).heap.size = w2.heap.size + 1 := by simp
  have WFQ := WFQ0.step hba
  have HDo := Lib.hid (do_fin K (w := w) (F := F) (R := R) (q := w.heap.size + 3) (by omega) WFQ (K.below (K.below HH1.out hb2) hba) (HRf.out.below hba (fun c g => g.elim (fun g => by have := (hRl c g).1; omega) (fun g => g.2))) (fun g => (hF1 _ g).elim (fun g => by have := hFl _ g; omega) (fun g => by have := g.1; omega)) (fun g => g.elim (fun g => by have := (hRl _ g).1; omega) (fun g => by have := g.1; omega)) (fun c g => (hF1 c g).imp id (fun g => ⟨by have := g.1; omega, by have := g.2; omega⟩)) (fun c g => g.imp id (fun g => ⟨by have := g.1; omega, by have := g.2; omega⟩)) (fun c g => ⟨g.elim (fun g => by have := (hRl c g).1; omega) (fun g => by have := g.2; omega), fun f => g.elim (fun g => (hF1 c f).elim (hRl c g).2 (fun f => by have := (hRl c g).1; have := f.1; omega)) (fun g => by have := hlt1 c f; have := g.1; omega)⟩) ((HT1.out.on hb2).on hba) rfl)
  have q0 := WFQ.cell 0 _ rfl
  have q1 := WFQ.cell 1 _ rfl
  have q2 := WFQ.cell 2 _ rfl
  have z0 := WFQ.fz 0 (by simp)
  have z1 := WFQ.fz 1 (by simp)
  have z2 := WFQ.fz 2 (by simp)
  have nq : ¬ w2.heap.size = w.heap.size + 3 := by omega
  have nq' : ¬ w.heap.size + 3 = w2.heap.size := by omega
  clear WFQ WFQ0 hRf
  go_wp2_with fail
  obtain ⟨f1, x', F', R', f2, f3⟩ := HDo.out
  refine bodyPost_ret (results_bk_1 rfl _ rfl f1 Try.underlying32 rfl infoRd) rfl ?_
  exact ⟨x', F', R', (ret_v rfl).trans f2, f3⟩
end

end Go.Proofs.Ytbjbnjpdackloaa
