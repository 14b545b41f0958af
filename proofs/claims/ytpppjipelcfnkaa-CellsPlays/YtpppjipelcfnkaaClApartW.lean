/-
  Layer cells' laws: CellsApart.
-/
import Derived.Test.YtpppjipelcfnkaaClAwake
namespace Go.Proofs.Ytpppjipelcfnkaa.Cl
theorem apart {X : Cs} {k k' : Ky} (ts : Int) (val : ByteArray) (c : Cn.Ch) (h : k' ≠ k) : chain (setX (writeX (readX X k ts) k ts val) k c) k' = chain X k' := by
  rw [chain_other _ _ h]
  have h1 : chain (writeX (readX X k ts) k ts val) k' = chain (readX X k ts) k' := by
    unfold writeX
    split
    · rfl
    · rw [chain_other _ _ h]
  rw [h1]
  unfold readX
  split
  · rfl
  · rw [chain_other _ _ h]
end Go.Proofs.Ytpppjipelcfnkaa.Cl
namespace Go.Proofs.Ytpppjipelcfnkaa
open Go.RowKit

section
variable {H : World → (Nat → Prop) → Value → Cl.Cs → Prop}

theorem run_aw (K : CellsOk H) {w wr : World} {vd : Value} {ld : List Dd11} {G0 : Nat → Prop} (hD : Dds11 w G0 vd ld) (hG0 : ∀ b, G0 b → b < w.heap.size) (hfew : Few ld) (hb : Below w.heap.size w wr) :
    Calls Try.prog 20 #[vd] wr fun e w' => ∃ a, e = .returned (.pointer (some a)) ∧ Aw H wr w' (.pointer (some a)) (Cl.runX ld) [] ∧ Below wr.heap.size wr w' := by
  refine (run11_any K (hD.below hb hG0) (fun b q => Nat.lt_of_lt_of_le (hG0 b q) hb.size) hfew).mono (fun e w' hh => ?_)
  obtain ⟨v, rfl, ⟨F, h1, h2⟩, _, h4⟩ := hh
  obtain ⟨a, rfl⟩ := K.ptr h1
  exact ⟨a, rfl, ⟨F, h1, h2, fun r hr => by cases hr⟩, h4⟩
theorem run_fit {ld : List Dd11} (h : Few ld) : Cl.Fit 50 (Cl.runX ld) := by
  have : ∀ n, n ≤ ld.length → Cl.Fit n (Cl.runX (ld.take n)) := by
    intro n
    induction n with
    | zero => intro _; exact Cl.Fit.nil 0
    | succ n ih =>
      intro hn
      rw [List.take_succ_eq_append_getElem (show n < ld.length by omega), Cl.runX_snoc]
      exact (ih (by omega)).deed _ (h.ch _ (List.getElem_mem _))
  have := this ld.length (Nat.le_refl _)
  rw [List.take_length] at this
  exact this.more h.len

set_option maxRecDepth 100000 in
set_option maxHeartbeats 4000000 in
theorem CellsApart_walk (K : CellsOk H) (w : World) (vd vl : Value) (ld : List Dd11) (d : Dd11) (k : Cl.Ky) (G0 G1 : Nat → Prop) (hD : Dds11 w G0 vd ld) (hG0 : ∀ b, G0 b → b < w.heap.size) (hd : d.Ok) (hl : SlC w G1 vl d.l) (hG1 : ∀ b, G1 b → b < w.heap.size) :
    Calls Try.prog 4 #[vd, .agg #[.int .i64 d.kind, .int .i64 d.k.kind, .int .i64 d.k.a, .int .i64 d.k.b, .int .i64 d.ts, .string d.val, vl], keyA k] w fun e w' => e = .returned (.bool true) ∧ Below w.heap.size w w' := by
  obtain ⟨kd, kk, ts, val, l⟩ := d
  obtain ⟨_, _, t0, t1⟩ := hd
  dsimp only at *
  obtain ⟨A, cl, rfl, _⟩ := SlC.form hl
  have hb1 : Below w.heap.size w ((w.alloc (.cells #[.int .i64 kd, .int .i64 kk.kind, .int .i64 kk.a, .int .i64 kk.b, .int .i64 ts, .string val, .slice A l.length cl] 34)).alloc (.cells #[.int .i64 k.kind, .int .i64 k.a, .int .i64 k.b] 31)) := ((Below.refl _ _).alloc (Nat.le_refl _) _).alloc (by simp) _
  have HP := Lib.hid ((Bk.new w [.int .i64 kd, .int .i64 kk.kind, .int .i64 kk.a, .int .i64 kk.b, .int .i64 ts, .string val, .slice A l.length cl] 34 rfl).alloc (.cells #[.int .i64 k.kind, .int .i64 k.a, .int .i64 k.b] 31))
  have HQ := Lib.hid (Bk.new (w.alloc (.cells #[.int .i64 kd, .int .i64 kk.kind, .int .i64 kk.a, .int .i64 kk.b, .int .i64 ts, .string val, .slice A l.length cl] 34)) [.int .i64 k.kind, .int .i64 k.a, .int .i64 k.b] 31 (g := w.heap.size + 1) (by simp))
  have HB1 := Lib.hid hb1
  have HA := Lib.hid (awake11_any K)
  have HD := Lib.hid hD
  have HG := Lib.hid hG0
  have HL := Lib.hid (And.intro hl hG1)
  have HK := Lib.hid K
  obtain ⟨Ad, capd, rfl, hcd⟩ := hD.form
  clear hb1 hl hD hG0 hG1
  unfold keyA
  by_cases hfew : Few ld
  · have HFw := Lib.hid hfew
    have HFe : Hid (∀ W, Below w.heap.size w W → Calls Try.prog 11 #[.slice Ad ld.length capd] W fun e w' => e = .returned (.bool true) ∧ Below W.heap.size W w') := Lib.hid (fun W hb => few11_yes (HD.out.below hb HG.out) (fun b q => Nat.lt_of_lt_of_le (HG.out b q) hb.size) hfew)
    clear hfew
    by_cases h20 : l.length ≤ 20
    · have h20' : ¬ ((l.length : Int) > 20) := by omega
      have HL20 := Lib.hid h20
      clear h20
      have q := eqlK kk k
      by_cases hk : kk = k
      · have q1 : Cl.same kk k = true := (Cl.same_iff _ _).2 hk
        clear hk
        go_enter Try.func4, Try.ntmps4
        go_wp2_with (first
          | (go_at_call 9; refine (HA.out _).mono ?_; rintro e w1 ⟨rfl, hb1⟩
             have HB := Lib.hid (HB1.out.trans (hb1.mono HB1.out.size))
             have HP1 := Lib.hid (HP.out.step hb1)
             have HQ1 := Lib.hid (HQ.out.step hb1)
             clear hb1)
          | (go_at_call 11; refine (HFe.out _ HB.out).mono ?_; rintro e w2 ⟨rfl, hb2⟩
             replace HB := Lib.hid (below_two HB.out hb2)
             replace HP1 := Lib.hid (HP1.out.step hb2)
             replace HQ1 := Lib.hid (HQ1.out.step hb2)
             have p1 := HP1.out.cell 1 _ rfl
             have p2 := HP1.out.cell 2 _ rfl
             have p3 := HP1.out.cell 3 _ rfl
             have p6 := HP1.out.cell 6 _ rfl
             have r0 := HQ1.out.cell 0 _ rfl
             have r1 := HQ1.out.cell 1 _ rfl
             have r2 := HQ1.out.cell 2 _ rfl
             clear hb2))
        go_ret
        exact ⟨rfl, HB.out⟩
      · have q1 : Cl.same kk k = false := Cl.same_no hk
        have HNe : Hid (k ≠ kk) := Lib.hid (fun e => hk e.symm)
        clear hk
        have HRun : Hid (∀ W, Below w.heap.size w W → Calls Try.prog 20 #[.slice Ad ld.length capd] W fun e w' => ∃ a, e = .returned (.pointer (some a)) ∧ Aw H W w' (.pointer (some a)) (Cl.runX ld) [] ∧ Below W.heap.size W w') := Lib.hid (fun W hb => run_aw K HD.out HG.out HFw.out hb)
        have HFit := Lib.hid (run_fit HFw.out)
        generalize Cl.runX ld = X at *
        have HF1 := Lib.hid (HFit.out.read kk ts)
        have HF2 := Lib.hid (HF1.out.write kk ts val)
        have HF3 := Lib.hid (HF2.out.set kk (c := l) (by have := HL20.out; omega))
        have HAp := Lib.hid (Cl.apart (X := X) ts val l HNe.out)
        have HChl : Hid ((Cl.chain X k).length ≤ 1000) := Lib.hid (by have := HFit.out.chain k; omega)
        have HCh : Hid (∀ (wb W : World) v X R, Aw H wb W v X R → Below wb.heap.size wb W → Cl.Fit 200 X → Calls Try.prog 19 #[v, .agg #[.int .i64 k.kind, .int .i64 k.a, .int .i64 k.b]] W fun e w' => ∃ v', e = .returned v' ∧ Aw H wb w' v X (chR v' (Cl.chain X k) :: R) ∧ Below wb.heap.size wb w') := Lib.hid (fun wb W v X R h hb hf => h.chain K hb hf k)
        have HRd : Hid (∀ (wb W : World) v X R, Aw H wb W v X R → Below wb.heap.size wb W → Cl.Fit 200 X → Calls Try.prog 21 #[v, .agg #[.int .i64 kk.kind, .int .i64 kk.a, .int .i64 kk.b], .int .i64 ts] W fun e w' => e = .returned (verA (Cl.readW X kk ts)) ∧ Aw H wb w' v (Cl.readX X kk ts) R ∧ Below wb.heap.size wb w') := Lib.hid (fun wb W v X R h hb hf => h.read K hb hf kk ts t0 t1)
        have HWr : Hid (∀ (wb W : World) v X R, Aw H wb W v X R → Below wb.heap.size wb W → Cl.Fit 200 X → Calls Try.prog 22 #[v, .agg #[.int .i64 kk.kind, .int .i64 kk.a, .int .i64 kk.b], .int .i64 ts, .string val] W fun e w' => e = .returned (.int .i64 (Cl.writeF X kk ts)) ∧ Aw H wb w' v (Cl.writeX X kk ts val) R ∧ Below wb.heap.size wb w') := Lib.hid (fun wb W v X R h hb hf => h.write K hb hf kk ts val t0 t1)
        have HSt : Hid (∀ (wb W : World) v X R vc, Aw H wb W v X R → chR vc l ∈ R → Below wb.heap.size wb W → Cl.Fit 200 X → Calls Try.prog 23 #[v, .agg #[.int .i64 kk.kind, .int .i64 kk.a, .int .i64 kk.b], vc] W fun e w' => e = .returned (.tuple #[]) ∧ Aw H wb w' v (Cl.setX X kk l) R ∧ Below wb.heap.size wb w') := Lib.hid (fun wb W v X R vc h hr hb hf => h.set K hr hb hf (by have := HL20.out; omega) kk)
        go_enter Try.func4, Try.ntmps4
        go_wp2_with (first
          | (go_at_call 9; refine (HA.out _).mono ?_; rintro e w1 ⟨rfl, hb1⟩
             have HB := Lib.hid (HB1.out.trans (hb1.mono HB1.out.size))
             have HP1 := Lib.hid (HP.out.step hb1)
             have HQ1 := Lib.hid (HQ.out.step hb1)
             clear hb1)
          | (go_at_call 11; refine (HFe.out _ HB.out).mono ?_; rintro e w2 ⟨rfl, hb2⟩
             replace HB := Lib.hid (below_two HB.out hb2)
             replace HP1 := Lib.hid (HP1.out.step hb2)
             replace HQ1 := Lib.hid (HQ1.out.step hb2)
             have HC1 : Hid (∀ w', Below w2.heap.size w2 w' → (w'.cell? ⟨w.heap.size, 1, none⟩ = some (.int .i64 kk.kind) ∧ w'.cell? ⟨w.heap.size, 2, none⟩ = some (.int .i64 kk.a) ∧ w'.cell? ⟨w.heap.size, 3, none⟩ = some (.int .i64 kk.b) ∧ w'.cell? ⟨w.heap.size, 4, none⟩ = some (.int .i64 ts) ∧ w'.cell? ⟨w.heap.size, 5, none⟩ = some (.string val) ∧ w'.cell? ⟨w.heap.size, 6, none⟩ = some (.slice A l.length cl)) ∧ (w'.cell? ⟨w.heap.size + 1, 0, none⟩ = some (.int .i64 k.kind) ∧ w'.cell? ⟨w.heap.size + 1, 1, none⟩ = some (.int .i64 k.a) ∧ w'.cell? ⟨w.heap.size + 1, 2, none⟩ = some (.int .i64 k.b))) := Lib.hid (fun w' hb =>
               ⟨⟨(HP1.out.step hb).cell 1 _ rfl, (HP1.out.step hb).cell 2 _ rfl, (HP1.out.step hb).cell 3 _ rfl, (HP1.out.step hb).cell 4 _ rfl, (HP1.out.step hb).cell 5 _ rfl, (HP1.out.step hb).cell 6 _ rfl⟩, (HQ1.out.step hb).cell 0 _ rfl, (HQ1.out.step hb).cell 1 _ rfl, (HQ1.out.step hb).cell 2 _ rfl⟩)
             obtain ⟨⟨p1, p2, p3, p4, p5, p6⟩, r0, r1, r2⟩ := HC1.out _ (Below.refl _ _)
             clear hb2)
          | (go_at_call 20; refine (HRun.out _ HB.out).mono ?_; rintro e w3 ⟨av, rfl, h3⟩
             have HW := Lib.hid h3
             clear p1 p2 p3 p4 p5 p6 r0 r1 r2
             obtain ⟨_, r0, r1, r2⟩ := HC1.out _ HW.out.2
             clear h3)
          | (go_at_call 19; refine (HCh.out _ _ _ _ _ HW.out.1 HW.out.2 (HFit.out.more (by omega))).mono ?_; rintro e w4 ⟨v4, rfl, h4⟩
             replace HW := Lib.hid h4
             clear r0 r1 r2
             clear h4)
          | (go_at_call 18; refine (HW.out.1.real K (List.mem_cons_self ..) HW.out.2 HChl.out).mono ?_; rintro e w5 ⟨v5, rfl, h5⟩
             replace HW := Lib.hid (And.intro (h5.1.less (R' := [chR v5 (Cl.chain X k)]) (fun r q => by simp at q; simp [q])) h5.2)
             obtain ⟨⟨p1, p2, p3, p4, p5, p6⟩, _⟩ := HC1.out _ HW.out.2
             clear h5)
          | (go_at_call 21; refine (HRd.out _ _ _ _ _ HW.out.1 HW.out.2 (HFit.out.more (by omega))).mono ?_; rintro e w6 ⟨rfl, h6⟩
             replace HW := Lib.hid h6
             clear p1 p2 p3 p4 p5 p6
             obtain ⟨⟨p1, p2, p3, p4, p5, p6⟩, _⟩ := HC1.out _ HW.out.2
             clear h6)
          | (go_at_call 22; refine (HWr.out _ _ _ _ _ HW.out.1 HW.out.2 (HF1.out.more (by omega))).mono ?_; rintro e w7 ⟨rfl, h7⟩
             replace HW := Lib.hid h7
             clear p1 p2 p3 p4 p5 p6
             obtain ⟨⟨p1, p2, p3, p4, p5, p6⟩, _⟩ := HC1.out _ HW.out.2
             clear h7))
        have HD7 : Hid (Aw H w2 w7.drew (.pointer (some av)) (Cl.writeX (Cl.readX X kk ts) kk ts val) [chR (.slice A l.length cl) l, chR v5 (Cl.chain X k)] ∧ Below w2.heap.size w2 w7.drew) := Lib.hid ⟨((HW.out.1.low K (Below.drew (Below.refl _ _))).arg HW.out.2.drew (chR (.slice A l.length cl) l) (S.Sg.below HL.out.1 ((HB.out.trans (HW.out.2.mono HB.out.size)).drew) HL.out.2) (fun b q => Nat.lt_of_lt_of_le (HL.out.2 b q) HB.out.size)), HW.out.2.drew⟩
        clear p1 p2 p3 p4 p5 p6 HW HWr HRd
        obtain ⟨⟨p1, p2, p3, p4, p5, p6⟩, _⟩ := HC1.out _ HD7.out.2
        have hSd := And.intro p1 (And.intro p2 (And.intro p3 p6))
        clear p1 p2 p3 p4 p5 p6
        go_region_held3 (fun w' => w'.cell? ⟨w.heap.size, 1, none⟩ = some (.int .i64 kk.kind) ∧ w'.cell? ⟨w.heap.size, 2, none⟩ = some (.int .i64 kk.a) ∧ w'.cell? ⟨w.heap.size, 3, none⟩ = some (.int .i64 kk.b) ∧ w'.cell? ⟨w.heap.size, 6, none⟩ = some (.slice A l.length cl))
          (first | with_reducible assumption | go_keep)
          (first
            | (go_at_call 24
               (with_reducible refine (HD7.out.1.made K (List.mem_cons_self ..) HD7.out.2 (by have := HL20.out; omega)).mono ?_)
               rintro e w8 ⟨v8, rfl, h8⟩
               have HW8 := Lib.hid h8
               obtain ⟨A8, c8, e8, _⟩ := h8.1.form (List.mem_cons_self ..)
               have e8 : v8 = .slice A8 l.length c8 := e8
               subst e8
               obtain ⟨⟨p1, p2, p3, p4, p5, p6⟩, _⟩ := HC1.out _ h8.2
               have hS8 := And.intro p1 (And.intro p2 (And.intro p3 p6)))
            | (go_at_call 23
               (with_reducible refine (HSt.out _ _ _ _ _ _ HW8.out.1 (List.mem_cons_self ..) HW8.out.2 (HF2.out.more (by omega))).mono ?_)
               rintro e w9 ⟨rfl, h9⟩
               have HW9 := Lib.hid h9
               obtain ⟨⟨p1, p2, p3, p4, p5, p6⟩, _⟩ := HC1.out _ h9.2
               have hS9 := And.intro p1 (And.intro p2 (And.intro p3 p6))))
        obtain ⟨_, r0, r1, r2⟩ := HC1.out _ HW9.out.2
        go_wp2_with (first
          | (go_at_call 19; refine (HCh.out _ _ _ _ _ HW9.out.1 HW9.out.2 (HF3.out.more (by omega))).mono ?_; rintro e w10 ⟨v10, rfl, h10⟩
             rw [HAp.out] at h10
             have HW10 := Lib.hid h10
             clear h10)
          | (go_at_call 18; refine (HW10.out.1.real K (List.mem_cons_self ..) HW10.out.2 HChl.out).mono ?_; rintro e w11 ⟨v11, rfl, h11⟩
             have HW11 := Lib.hid h11
             clear h11)
          | (go_at_call 17; refine (HW11.out.1.same K (List.mem_cons_self ..) (by simp) HW11.out.2 HChl.out).mono ?_; rintro e w12 ⟨rfl, h12⟩
             have HW12 := Lib.hid h12
             clear h12))
        go_ret
        exact ⟨rfl, HB.out.trans (HW12.out.2.mono HB.out.size)⟩
    · have h20' : (l.length : Int) > 20 := by omega
      clear h20
      go_enter Try.func4, Try.ntmps4
      go_wp2_with (first
        | (go_at_call 9; refine (HA.out _).mono ?_; rintro e w1 ⟨rfl, hb1⟩
           have HB := Lib.hid (HB1.out.trans (hb1.mono HB1.out.size))
           have HP1 := Lib.hid (HP.out.step hb1)
           have HQ1 := Lib.hid (HQ.out.step hb1)
           clear hb1)
        | (go_at_call 11; refine (HFe.out _ HB.out).mono ?_; rintro e w2 ⟨rfl, hb2⟩
           replace HB := Lib.hid (below_two HB.out hb2)
           replace HP1 := Lib.hid (HP1.out.step hb2)
           replace HQ1 := Lib.hid (HQ1.out.step hb2)
           have p6 := HP1.out.cell 6 _ rfl
           clear hb2))
      go_ret
      exact ⟨rfl, HB.out⟩
  · have HFe : Hid (∀ W, Below w.heap.size w W → Calls Try.prog 11 #[.slice Ad ld.length capd] W fun e w' => e = .returned (.bool false) ∧ Below W.heap.size W w') := Lib.hid (fun W hb => few11_no (HD.out.below hb HG.out) (fun b q => Nat.lt_of_lt_of_le (HG.out b q) hb.size) hfew)
    clear hfew
    go_enter Try.func4, Try.ntmps4
    go_wp2_with (first
      | (go_at_call 9; refine (HA.out _).mono ?_; rintro e w1 ⟨rfl, hb1⟩
         have HB := Lib.hid (HB1.out.trans (hb1.mono HB1.out.size))
         have HP1 := Lib.hid (HP.out.step hb1)
         have HQ1 := Lib.hid (HQ.out.step hb1)
         clear hb1)
      | (go_at_call 11; refine (HFe.out _ HB.out).mono ?_; rintro e w2 ⟨rfl, hb2⟩
         replace HB := Lib.hid (below_two HB.out hb2)
         replace HP1 := Lib.hid (HP1.out.step hb2)
         replace HQ1 := Lib.hid (HQ1.out.step hb2)
         clear hb2))
    go_ret
    exact ⟨rfl, HB.out⟩
end
end Go.Proofs.Ytpppjipelcfnkaa
