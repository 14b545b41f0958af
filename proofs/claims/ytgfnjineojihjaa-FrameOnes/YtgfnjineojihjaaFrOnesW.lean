/-
  The law FrameOnes, walked: two frames have one sector just if they are the same.
-/
import Derived.Test.YtgfnjineojihjaaFrTellsW
namespace Go.Proofs.Ytgfnjineojihjaa
open Go.RowKit

set_option linter.unusedSimpArgs false in
set_option maxRecDepth 100000 in
set_option maxHeartbeats 2000000 in
theorem ones_any (K : FrameOk) {w : World} {G : Nat → Prop} {vf vg : Value} {f g : R.Fr} (hf : FrV w G vf f) (hg : FrV w G vg g) (hG : ∀ b, G b → b < w.heap.size) (hn : f.Num) (hm : g.Num) :
    Calls Try.prog 8 #[vf, vg] w fun r w' => r = .returned (.bool true) ∧ Below w.heap.size w w' := by
  have HF := Lib.hid hf
  have HG := Lib.hid hg
  obtain ⟨A, cap, rfl, hc⟩ := hf.form
  obtain ⟨A', cap', rfl, hc'⟩ := hg.form
  have P0 := (Bk.new w (pfC f A cap) 25 rfl).alloc (.cells (pfC g A' cap').toArray 25)
  have Q0 := Bk.new (w.alloc (.cells (pfC f A cap).toArray 25)) (pfC g A' cap') 25 (g := w.heap.size + 1) (by simp)
  have hb0 : Below w.heap.size w ((w.alloc (.cells (pfC f A cap).toArray 25)).alloc (.cells (pfC g A' cap').toArray 25)) := ((Below.refl _ _).alloc (Nat.le_refl _) _).alloc (by simp) _
  have HA := Lib.hid (fawake_any K ((w.alloc (.cells (pfC f A cap).toArray 25)).alloc (.cells (pfC g A' cap').toArray 25)))
  clear hf hg
  by_cases h50 : f.body.length ≤ 50 ∧ g.body.length ≤ 50
  · have t1 : ¬ (50 : Int) < (f.body.length : Int) := by omega
    have t2 : ¬ (50 : Int) < (g.body.length : Int) := by omega
    have HX : Hid (packB f = R.sector f ∧ packB g = R.sector g) := Lib.hid ⟨if_pos h50.1, if_pos h50.2⟩
    have lX : (packB f).length = 64 := by rw [HX.out.1]; exact R.sector_len h50.1
    have lY : (packB g).length = 64 := by rw [HX.out.2]; exact R.sector_len h50.2
    go_enter Try.func8, Try.ntmps8
    go_wp2_with fail
    refine HA.out.mono ?_
    rintro r w1 ⟨rfl, hb1⟩
    have P1 := P0.step hb1
    have Q1 := Q0.step hb1
    have hb1' := below_two hb0 hb1
    have HP := Lib.hid (K.pack (HF.out.below hb1' hG) (fun b g => Nat.lt_of_lt_of_le (hG b g) hb1'.size) hn (by omega))
    clear P0 Q0 hb0 HA hb1
    generalize hpp : w.heap.size = p at P1 Q1
    have c0 := P1.cell 0 _ rfl
    have c1 := P1.cell 1 _ rfl
    have c2 := P1.cell 2 _ rfl
    have c3 := P1.cell 3 _ rfl
    have d3 := Q1.cell 3 _ rfl
    go_wp2_with fail
    refine HP.out.mono ?_
    rintro r w2 ⟨vx, rfl, hs2, hb2⟩
    have P2 := P1.step hb2
    have Q2 := Q1.step hb2
    have hb2' := below_two hb1' hb2
    obtain ⟨Ax, capx, rfl, hcx⟩ : ∃ A cap, vx = .slice A 64 cap ∧ 64 ≤ cap := by obtain ⟨A, cap, e, hc⟩ := slB_form hs2; rw [lX] at e hc; exact ⟨A, cap, e, hc⟩
    have HP2 := Lib.hid (K.pack (HG.out.below hb2' hG) (fun b g => Nat.lt_of_lt_of_le (hG b g) hb2'.size) hm (by omega))
    clear HP c0 c1 c2 c3 d3 P1 Q1
    have d0 := Q2.cell 0 _ rfl
    have d1 := Q2.cell 1 _ rfl
    have d2 := Q2.cell 2 _ rfl
    have d3 := Q2.cell 3 _ rfl
    go_wp2_with fail
    refine HP2.out.mono ?_
    rintro r w3 ⟨vy, rfl, hs3, hb3⟩
    have P3 := Lib.hid (P2.step hb3)
    have Q3 := Lib.hid (Q2.step hb3)
    have hb3' := below_two hb2' hb3
    obtain ⟨Ay, capy, rfl, hcy⟩ : ∃ A cap, vy = .slice A 64 cap ∧ 64 ≤ cap := by obtain ⟨A, cap, e, hc⟩ := slB_form hs3; rw [lY] at e hc; exact ⟨A, cap, e, hc⟩
    obtain ⟨XS, hXS⟩ : ∃ XS : ByteArray, XS = ⟨(packB f).toArray⟩ := ⟨_, rfl⟩
    obtain ⟨YS, hYS⟩ : ∃ YS : ByteArray, YS = ⟨(packB g).toArray⟩ := ⟨_, rfl⟩
    have X3 := Lib.hid (hs2.below hb3 (fun b hb => hb.2))
    have Y3 := Lib.hid hs3
    have hl2 := hb3.size
    have HS : Hid (∀ w', Below w3.heap.size w3 w' → w'.cell? ⟨p, 0, none⟩ = some (.int .u32 (f.epoch : Int)) ∧ w'.cell? ⟨p, 1, none⟩ = some (.int .u32 (f.seq : Int)) ∧ w'.cell? ⟨p, 2, none⟩ = some (.int .u8 (f.flag.toNat : Int)) ∧ w'.cell? ⟨p, 3, none⟩ = some (.slice A f.body.length cap) ∧ w'.cell? ⟨p + 1, 0, none⟩ = some (.int .u32 (g.epoch : Int)) ∧ w'.cell? ⟨p + 1, 1, none⟩ = some (.int .u32 (g.seq : Int)) ∧ w'.cell? ⟨p + 1, 2, none⟩ = some (.int .u8 (g.flag.toNat : Int)) ∧ w'.cell? ⟨p + 1, 3, none⟩ = some (.slice A' g.body.length cap') ∧ (convert 23 9 (.slice Ax 64 capx)).run Try.prog w' = .ok (.string XS) w' ∧ (convert 23 9 (.slice Ay 64 capy)).run Try.prog w' = .ok (.string YS) w' ∧ Below w3.heap.size w3 w') := Lib.hid fun w' hb =>
      ⟨(P3.out.step hb).cell 0 _ rfl, (P3.out.step hb).cell 1 _ rfl, (P3.out.step hb).cell 2 _ rfl, (P3.out.step hb).cell 3 _ rfl, (Q3.out.step hb).cell 0 _ rfl, (Q3.out.step hb).cell 1 _ rfl, (Q3.out.step hb).cell 2 _ rfl, (Q3.out.step hb).cell 3 _ rfl, by rw [hXS]; exact conv_sg (X3.out.below hb (fun b h => Nat.lt_of_lt_of_le h.2 hl2)), by rw [hYS]; exact conv_sg (Y3.out.below hb (fun b h => h.2)), hb⟩
    have HC1 : Hid (∀ w', (w'.cell? ⟨p, 0, none⟩ = some (.int .u32 (f.epoch : Int)) ∧ w'.cell? ⟨p, 1, none⟩ = some (.int .u32 (f.seq : Int)) ∧ w'.cell? ⟨p, 2, none⟩ = some (.int .u8 (f.flag.toNat : Int)) ∧ w'.cell? ⟨p, 3, none⟩ = some (.slice A f.body.length cap) ∧ w'.cell? ⟨p + 1, 0, none⟩ = some (.int .u32 (g.epoch : Int)) ∧ w'.cell? ⟨p + 1, 1, none⟩ = some (.int .u32 (g.seq : Int)) ∧ w'.cell? ⟨p + 1, 2, none⟩ = some (.int .u8 (g.flag.toNat : Int)) ∧ w'.cell? ⟨p + 1, 3, none⟩ = some (.slice A' g.body.length cap') ∧ (convert 23 9 (.slice Ax 64 capx)).run Try.prog w' = .ok (.string XS) w' ∧ (convert 23 9 (.slice Ay 64 capy)).run Try.prog w' = .ok (.string YS) w' ∧ Below w3.heap.size w3 w') → Calls Try.prog 12 #[.agg #[.int .u32 (f.epoch : Int), .int .u32 (f.seq : Int), .int .u8 (f.flag.toNat : Int), .slice A f.body.length cap]] w' fun r w'' => r = .returned (frA f) ∧ w''.cell? ⟨p, 0, none⟩ = some (.int .u32 (f.epoch : Int)) ∧ w''.cell? ⟨p, 1, none⟩ = some (.int .u32 (f.seq : Int)) ∧ w''.cell? ⟨p, 2, none⟩ = some (.int .u8 (f.flag.toNat : Int)) ∧ w''.cell? ⟨p, 3, none⟩ = some (.slice A f.body.length cap) ∧ w''.cell? ⟨p + 1, 0, none⟩ = some (.int .u32 (g.epoch : Int)) ∧ w''.cell? ⟨p + 1, 1, none⟩ = some (.int .u32 (g.seq : Int)) ∧ w''.cell? ⟨p + 1, 2, none⟩ = some (.int .u8 (g.flag.toNat : Int)) ∧ w''.cell? ⟨p + 1, 3, none⟩ = some (.slice A' g.body.length cap') ∧ (convert 23 9 (.slice Ax 64 capx)).run Try.prog w'' = .ok (.string XS) w'' ∧ (convert 23 9 (.slice Ay 64 capy)).run Try.prog w'' = .ok (.string YS) w'' ∧ Below w3.heap.size w3 w'') :=
      Lib.hid fun w' hS => (real_any (HF.out.below (hb3'.trans (hS.2.2.2.2.2.2.2.2.2.2.mono hb3'.size)) hG) (fun b g => Nat.lt_of_lt_of_le (hG b g) (hb3'.trans (hS.2.2.2.2.2.2.2.2.2.2.mono hb3'.size)).size)).mono (fun r w'' ⟨hr, hb⟩ => ⟨hr, HS.out _ (hS.2.2.2.2.2.2.2.2.2.2.trans (hb.mono hS.2.2.2.2.2.2.2.2.2.2.size))⟩)
    have HC2 : Hid (∀ w', (w'.cell? ⟨p, 0, none⟩ = some (.int .u32 (f.epoch : Int)) ∧ w'.cell? ⟨p, 1, none⟩ = some (.int .u32 (f.seq : Int)) ∧ w'.cell? ⟨p, 2, none⟩ = some (.int .u8 (f.flag.toNat : Int)) ∧ w'.cell? ⟨p, 3, none⟩ = some (.slice A f.body.length cap) ∧ w'.cell? ⟨p + 1, 0, none⟩ = some (.int .u32 (g.epoch : Int)) ∧ w'.cell? ⟨p + 1, 1, none⟩ = some (.int .u32 (g.seq : Int)) ∧ w'.cell? ⟨p + 1, 2, none⟩ = some (.int .u8 (g.flag.toNat : Int)) ∧ w'.cell? ⟨p + 1, 3, none⟩ = some (.slice A' g.body.length cap') ∧ (convert 23 9 (.slice Ax 64 capx)).run Try.prog w' = .ok (.string XS) w' ∧ (convert 23 9 (.slice Ay 64 capy)).run Try.prog w' = .ok (.string YS) w' ∧ Below w3.heap.size w3 w') → Calls Try.prog 12 #[.agg #[.int .u32 (g.epoch : Int), .int .u32 (g.seq : Int), .int .u8 (g.flag.toNat : Int), .slice A' g.body.length cap']] w' fun r w'' => r = .returned (frA g) ∧ w''.cell? ⟨p, 0, none⟩ = some (.int .u32 (f.epoch : Int)) ∧ w''.cell? ⟨p, 1, none⟩ = some (.int .u32 (f.seq : Int)) ∧ w''.cell? ⟨p, 2, none⟩ = some (.int .u8 (f.flag.toNat : Int)) ∧ w''.cell? ⟨p, 3, none⟩ = some (.slice A f.body.length cap) ∧ w''.cell? ⟨p + 1, 0, none⟩ = some (.int .u32 (g.epoch : Int)) ∧ w''.cell? ⟨p + 1, 1, none⟩ = some (.int .u32 (g.seq : Int)) ∧ w''.cell? ⟨p + 1, 2, none⟩ = some (.int .u8 (g.flag.toNat : Int)) ∧ w''.cell? ⟨p + 1, 3, none⟩ = some (.slice A' g.body.length cap') ∧ (convert 23 9 (.slice Ax 64 capx)).run Try.prog w'' = .ok (.string XS) w'' ∧ (convert 23 9 (.slice Ay 64 capy)).run Try.prog w'' = .ok (.string YS) w'' ∧ Below w3.heap.size w3 w'') :=
      Lib.hid fun w' hS => (real_any (HG.out.below (hb3'.trans (hS.2.2.2.2.2.2.2.2.2.2.mono hb3'.size)) hG) (fun b g => Nat.lt_of_lt_of_le (hG b g) (hb3'.trans (hS.2.2.2.2.2.2.2.2.2.2.mono hb3'.size)).size)).mono (fun r w'' ⟨hr, hb⟩ => ⟨hr, HS.out _ (hS.2.2.2.2.2.2.2.2.2.2.trans (hb.mono hS.2.2.2.2.2.2.2.2.2.2.size))⟩)
    obtain ⟨sm, hsm⟩ : ∃ sm, sm = sameF f g := ⟨_, rfl⟩
    have heq : ∀ w', (binOp .eql 33 (frA f) (frA g)).run Try.prog w' = .ok (.bool sm) w' := fun w' => by rw [eql_fr, hsm]
    have hst : (XS.toList == YS.toList) = sm := by
      rw [hsm, Bool.eq_iff_iff, sameF_iff, beq_iff_eq, ByteArray.toList_eq, ByteArray.toList_eq, hXS, hYS, HX.out.1, HX.out.2]
      constructor
      · intro e
        exact R.sector_inj hn hm h50.1 h50.2 (by simpa using e)
      · rintro rfl
        rfl
    have hbd : Below w3.heap.size w3 w3.drew := (Below.refl _ _).drew
    have hb9 := Lib.hid hb3'
    clear HP2 hs2 hs3 hb1' hb2 hb2' hb3 d0 d1 d2 d3 P2 Q2 hXS hYS hsm hb3' hl2
    cases sm
    all_goals go_wp2_with fail
    all_goals
      go_region_held3 (fun w' => w'.cell? ⟨p, 0, none⟩ = some (.int .u32 (f.epoch : Int)) ∧ w'.cell? ⟨p, 1, none⟩ = some (.int .u32 (f.seq : Int)) ∧ w'.cell? ⟨p, 2, none⟩ = some (.int .u8 (f.flag.toNat : Int)) ∧ w'.cell? ⟨p, 3, none⟩ = some (.slice A f.body.length cap) ∧ w'.cell? ⟨p + 1, 0, none⟩ = some (.int .u32 (g.epoch : Int)) ∧ w'.cell? ⟨p + 1, 1, none⟩ = some (.int .u32 (g.seq : Int)) ∧ w'.cell? ⟨p + 1, 2, none⟩ = some (.int .u8 (g.flag.toNat : Int)) ∧ w'.cell? ⟨p + 1, 3, none⟩ = some (.slice A' g.body.length cap') ∧ (convert 23 9 (.slice Ax 64 capx)).run Try.prog w' = .ok (.string XS) w' ∧ (convert 23 9 (.slice Ay 64 capy)).run Try.prog w' = .ok (.string YS) w' ∧ Below w3.heap.size w3 w')
        (first | exact HS.out _ hbd | assumption)
        (first
          | (go_at_call 12
             with_reducible refine (HC1.out _ (by assumption)).mono ?_
             rintro r w9 ⟨rfl, hS9⟩)
          | (go_at_call 12
             with_reducible refine (HC2.out _ (by assumption)).mono ?_
             rintro r w9 ⟨rfl, hS9⟩))
    all_goals (try go_wp2)
    all_goals go_ret
    all_goals exact ⟨rfl, hb9.out.trans (hS9.2.2.2.2.2.2.2.2.2.2.mono hb9.out.size)⟩
  · by_cases h1 : f.body.length ≤ 50
    · have t1 : ¬ (50 : Int) < (f.body.length : Int) := by omega
      have t2 : (50 : Int) < (g.body.length : Int) := by omega
      have t3 := hb0.size
      go_enter Try.func8, Try.ntmps8
      go_wp2_with fail
      refine HA.out.mono ?_
      rintro r w1 ⟨rfl, hb1⟩
      have c3 := (P0.step hb1).cell 3 _ rfl
      have d3 := (Q0.step hb1).cell 3 _ rfl
      have hb1' := below_two hb0 hb1
      go_wp2
      go_ret
      exact ⟨rfl, hb1'⟩
    · have t1 : (50 : Int) < (f.body.length : Int) := by omega
      have t3 := hb0.size
      have t4 := hc
      go_enter Try.func8, Try.ntmps8
      go_wp2_with fail
      refine HA.out.mono ?_
      rintro r w1 ⟨rfl, hb1⟩
      have c3 := (P0.step hb1).cell 3 _ rfl
      have d3 := (Q0.step hb1).cell 3 _ rfl
      have hb1' := below_two hb0 hb1
      go_wp2
      go_ret
      exact ⟨rfl, hb1'⟩

end Go.Proofs.Ytgfnjineojihjaa
