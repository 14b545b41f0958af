/-
  The law FrameBack, walked: a frame whose body fits is told there and back; what is told has the very bytes.
-/
import Derived.Test.YtgfnjineojihjaaFrCutsW
namespace Go.Proofs.Ytgfnjineojihjaa
open Go.RowKit

theorem parseE_sector {f : R.Fr} (hn : f.Num) (h : f.body.length ≤ 50) : parseE (R.sector f) = 0 ∧ parseF (R.sector f) = f := by
  unfold parseE parseF
  rw [R.parse_sector hn h]
  exact ⟨rfl, rfl⟩
theorem parseE_nil : parseE [] = 2 := parseE_none (R.parse_len (by simp))

/-- what is told has the very bytes -/
theorem told_very (l : List UInt8) : (parseE l = 2 ∧ R.parse l = none) ∨ (parseE l = 0 ∧ packE (parseF l) = 0 ∧ packB (parseF l) = l) := by
  unfold parseE parseF
  cases h : R.parse l with
  | none => exact Or.inl ⟨rfl, rfl⟩
  | some g =>
    obtain ⟨h1, h2, h3⟩ := R.parse_some h
    exact Or.inr ⟨rfl, if_pos h3, (if_pos h3).trans h1⟩

set_option linter.unusedSimpArgs false in
set_option maxRecDepth 100000 in
set_option maxHeartbeats 2000000 in
theorem back_any (K : FrameOk) {w : World} {G : Nat → Prop} {vf vb : Value} {f : R.Fr} {l : List UInt8} (hf : FrV w G vf f) (hb : SlB w G vb l) (hG : ∀ b, G b → b < w.heap.size) (hn : f.Num) :
    Calls Try.prog 5 #[vf, vb] w fun r w' => r = .returned (.bool true) ∧ Below w.heap.size w w' := by
  have HF := Lib.hid hf
  have HB := Lib.hid hb
  obtain ⟨A, cap, rfl, hc⟩ := hf.form
  obtain ⟨Ab, capb, rfl, hcb⟩ := slB_form hb
  have P0 := Bk.new w (pfC f A cap) 25 rfl
  have hb0 : Below w.heap.size w (w.alloc (.cells (pfC f A cap).toArray 25)) := (Below.refl _ _).alloc (Nat.le_refl _) _
  have HA := Lib.hid (fawake_any K (w.alloc (.cells (pfC f A cap).toArray 25)))
  clear hf hb
  by_cases h200 : f.body.length ≤ 200 ∧ l.length ≤ 200
  · have t1 : ¬ (200 : Int) < (f.body.length : Int) := by omega
    have t2 : ¬ (200 : Int) < (l.length : Int) := by omega
    go_enter Try.func5, Try.ntmps5
    go_wp2_with fail
    refine HA.out.mono ?_
    rintro r w1 ⟨rfl, hb1⟩
    have P1 := P0.step hb1
    have hb1' := below_two hb0 hb1
    have HP := Lib.hid (K.pack (HF.out.below hb1' hG) (fun b g => Nat.lt_of_lt_of_le (hG b g) hb1'.size) hn (by omega))
    clear P0 hb0 HA hb1
    generalize hpp : w.heap.size = p at P1
    have c0 := P1.cell 0 _ rfl
    have c1 := P1.cell 1 _ rfl
    have c2 := P1.cell 2 _ rfl
    have c3 := P1.cell 3 _ rfl
    go_wp2_with fail
    refine HP.out.mono ?_
    rintro r w2 ⟨vx, rfl, hs2, hb2⟩
    have P2 := P1.step hb2
    have hb2' := below_two hb1' hb2
    obtain ⟨Ax, capx, rfl, hcx⟩ := slB_form hs2
    have hlx := packB_len f
    have HQ := Lib.hid (K.parse hs2 (fun b h => h.2) (by omega))
    clear HP c0 c1 c2 c3 P1
    go_wp2_with fail
    refine HQ.out.mono ?_
    rintro r w3 ⟨vg, rfl, hs3, hb3⟩
    have hb3' := below_two hb2' hb3
    have P3 := P2.step hb3
    obtain ⟨A3, cap3, rfl, hc3⟩ := hs3.form
    have hb4 : Below w.heap.size w (w3.alloc (.cells (pfC (parseF (packB f)) A3 cap3).toArray 25)) := hb3'.alloc hb3'.size _
    have P4 := P3.alloc (.cells (pfC (parseF (packB f)) A3 cap3).toArray 25)
    have Q4 := Bk.new w3 (pfC (parseF (packB f)) A3 cap3) 25 rfl
    have H4 := hs3.below ((Below.refl w3.heap.size w3).alloc (Nat.le_refl _) (.cells (pfC (parseF (packB f)) A3 cap3).toArray 25)) (fun b h => h.2)
    have hle4 : w3.heap.size < (w3.alloc (.cells (pfC (parseF (packB f)) A3 cap3).toArray 25)).heap.size := by simp
    clear HQ P2 P3 hs2 hs3 hb2 hb2' hb3 hb3' hb1'
    by_cases h50 : f.body.length ≤ 50
    · have e0 : packE f = 0 := if_pos h50
      have e1 : packB f = R.sector f := if_pos h50
      rw [e1, (parseE_sector hn h50).2] at H4 P4 Q4 hb4 hle4
      rw [e0, e1, (parseE_sector hn h50).1, (parseE_sector hn h50).2]
      have l1 : (f.body.length : Int) ≤ 50 := by omega
      have lS := R.sector_len h50
      rw [lS]
      clear e0 e1 lS hlx hcx
      go_wp2_with fail
      generalize w3.alloc (.cells (pfC f A3 cap3).toArray 25) = w4 at *
      have H4 := Lib.hid H4
      have P4 := Lib.hid P4
      have Q4 := Lib.hid Q4
      generalize hq3 : w3.heap.size = q at *
      have HS : Hid (∀ w', Below w4.heap.size w4 w' → w'.cell? ⟨p, 0, none⟩ = some (.int .u32 (f.epoch : Int)) ∧ w'.cell? ⟨p, 1, none⟩ = some (.int .u32 (f.seq : Int)) ∧ w'.cell? ⟨p, 2, none⟩ = some (.int .u8 (f.flag.toNat : Int)) ∧ w'.cell? ⟨p, 3, none⟩ = some (.slice A f.body.length cap) ∧ w'.cell? ⟨q, 0, none⟩ = some (.int .u32 (f.epoch : Int)) ∧ w'.cell? ⟨q, 1, none⟩ = some (.int .u32 (f.seq : Int)) ∧ w'.cell? ⟨q, 2, none⟩ = some (.int .u8 (f.flag.toNat : Int)) ∧ w'.cell? ⟨q, 3, none⟩ = some (.slice A3 f.body.length cap3) ∧ Below w4.heap.size w4 w') := Lib.hid fun w' hb =>
        ⟨(P4.out.step hb).cell 0 _ rfl, (P4.out.step hb).cell 1 _ rfl, (P4.out.step hb).cell 2 _ rfl, (P4.out.step hb).cell 3 _ rfl, (Q4.out.step hb).cell 0 _ rfl, (Q4.out.step hb).cell 1 _ rfl, (Q4.out.step hb).cell 2 _ rfl, (Q4.out.step hb).cell 3 _ rfl, hb⟩
      have HC1 : Hid (∀ w', (w'.cell? ⟨p, 0, none⟩ = some (.int .u32 (f.epoch : Int)) ∧ w'.cell? ⟨p, 1, none⟩ = some (.int .u32 (f.seq : Int)) ∧ w'.cell? ⟨p, 2, none⟩ = some (.int .u8 (f.flag.toNat : Int)) ∧ w'.cell? ⟨p, 3, none⟩ = some (.slice A f.body.length cap) ∧ w'.cell? ⟨q, 0, none⟩ = some (.int .u32 (f.epoch : Int)) ∧ w'.cell? ⟨q, 1, none⟩ = some (.int .u32 (f.seq : Int)) ∧ w'.cell? ⟨q, 2, none⟩ = some (.int .u8 (f.flag.toNat : Int)) ∧ w'.cell? ⟨q, 3, none⟩ = some (.slice A3 f.body.length cap3) ∧ Below w4.heap.size w4 w') → Calls Try.prog 12 #[.agg #[.int .u32 (f.epoch : Int), .int .u32 (f.seq : Int), .int .u8 (f.flag.toNat : Int), .slice A f.body.length cap]] w' fun r w'' => r = .returned (frA f) ∧ w''.cell? ⟨p, 0, none⟩ = some (.int .u32 (f.epoch : Int)) ∧ w''.cell? ⟨p, 1, none⟩ = some (.int .u32 (f.seq : Int)) ∧ w''.cell? ⟨p, 2, none⟩ = some (.int .u8 (f.flag.toNat : Int)) ∧ w''.cell? ⟨p, 3, none⟩ = some (.slice A f.body.length cap) ∧ w''.cell? ⟨q, 0, none⟩ = some (.int .u32 (f.epoch : Int)) ∧ w''.cell? ⟨q, 1, none⟩ = some (.int .u32 (f.seq : Int)) ∧ w''.cell? ⟨q, 2, none⟩ = some (.int .u8 (f.flag.toNat : Int)) ∧ w''.cell? ⟨q, 3, none⟩ = some (.slice A3 f.body.length cap3) ∧ Below w4.heap.size w4 w'') :=
        Lib.hid fun w' hS => (real_any (HF.out.below (hb4.trans (hS.2.2.2.2.2.2.2.2.mono hb4.size)) hG) (fun b g => Nat.lt_of_lt_of_le (hG b g) (hb4.trans (hS.2.2.2.2.2.2.2.2.mono hb4.size)).size)).mono (fun r w'' ⟨hr, hb⟩ => ⟨hr, HS.out _ (hS.2.2.2.2.2.2.2.2.trans (hb.mono hS.2.2.2.2.2.2.2.2.size))⟩)
      have HC2 : Hid (∀ w', (w'.cell? ⟨p, 0, none⟩ = some (.int .u32 (f.epoch : Int)) ∧ w'.cell? ⟨p, 1, none⟩ = some (.int .u32 (f.seq : Int)) ∧ w'.cell? ⟨p, 2, none⟩ = some (.int .u8 (f.flag.toNat : Int)) ∧ w'.cell? ⟨p, 3, none⟩ = some (.slice A f.body.length cap) ∧ w'.cell? ⟨q, 0, none⟩ = some (.int .u32 (f.epoch : Int)) ∧ w'.cell? ⟨q, 1, none⟩ = some (.int .u32 (f.seq : Int)) ∧ w'.cell? ⟨q, 2, none⟩ = some (.int .u8 (f.flag.toNat : Int)) ∧ w'.cell? ⟨q, 3, none⟩ = some (.slice A3 f.body.length cap3) ∧ Below w4.heap.size w4 w') → Calls Try.prog 12 #[.agg #[.int .u32 (f.epoch : Int), .int .u32 (f.seq : Int), .int .u8 (f.flag.toNat : Int), .slice A3 f.body.length cap3]] w' fun r w'' => r = .returned (frA f) ∧ w''.cell? ⟨p, 0, none⟩ = some (.int .u32 (f.epoch : Int)) ∧ w''.cell? ⟨p, 1, none⟩ = some (.int .u32 (f.seq : Int)) ∧ w''.cell? ⟨p, 2, none⟩ = some (.int .u8 (f.flag.toNat : Int)) ∧ w''.cell? ⟨p, 3, none⟩ = some (.slice A f.body.length cap) ∧ w''.cell? ⟨q, 0, none⟩ = some (.int .u32 (f.epoch : Int)) ∧ w''.cell? ⟨q, 1, none⟩ = some (.int .u32 (f.seq : Int)) ∧ w''.cell? ⟨q, 2, none⟩ = some (.int .u8 (f.flag.toNat : Int)) ∧ w''.cell? ⟨q, 3, none⟩ = some (.slice A3 f.body.length cap3) ∧ Below w4.heap.size w4 w'') :=
        Lib.hid fun w' hS => (real_any (H4.out.below hS.2.2.2.2.2.2.2.2 (fun b h => Nat.lt_of_lt_of_le h.2 (by omega))) (fun b h => Nat.lt_of_lt_of_le h.2 (Nat.le_trans (by omega) hS.2.2.2.2.2.2.2.2.size))).mono (fun r w'' ⟨hr, hb⟩ => ⟨hr, HS.out _ (hS.2.2.2.2.2.2.2.2.trans (hb.mono hS.2.2.2.2.2.2.2.2.size))⟩)
      have hne : ∀ w', (binOp .neq 33 (frA f) (frA f)).run Try.prog w' = .ok (.bool false) w' := fun w' => by rw [neq_fr, sameF_self]; rfl
      have hbd : Below w4.heap.size w4 w4.drew := (Below.refl _ _).drew
      go_region_held3 (fun w' => w'.cell? ⟨p, 0, none⟩ = some (.int .u32 (f.epoch : Int)) ∧ w'.cell? ⟨p, 1, none⟩ = some (.int .u32 (f.seq : Int)) ∧ w'.cell? ⟨p, 2, none⟩ = some (.int .u8 (f.flag.toNat : Int)) ∧ w'.cell? ⟨p, 3, none⟩ = some (.slice A f.body.length cap) ∧ w'.cell? ⟨q, 0, none⟩ = some (.int .u32 (f.epoch : Int)) ∧ w'.cell? ⟨q, 1, none⟩ = some (.int .u32 (f.seq : Int)) ∧ w'.cell? ⟨q, 2, none⟩ = some (.int .u8 (f.flag.toNat : Int)) ∧ w'.cell? ⟨q, 3, none⟩ = some (.slice A3 f.body.length cap3) ∧ Below w4.heap.size w4 w')
        (first | exact HS.out _ hbd | assumption)
        (first
          | (go_at_call 12
             with_reducible refine (HC1.out _ (by assumption)).mono ?_
             rintro r w9 ⟨rfl, hS9⟩)
          | (go_at_call 12
             with_reducible refine (HC2.out _ (by assumption)).mono ?_
             rintro r w9 ⟨rfl, hS9⟩))
      have hbz : Below w.heap.size w w9 := hb4.trans (hS9.2.2.2.2.2.2.2.2.mono hb4.size)
      clear hS9 HS HC1 HC2 H4 P4 Q4 hb4 hbd hne
      have HQ2 := Lib.hid (K.parse (HB.out.below hbz hG) (fun b g => Nat.lt_of_lt_of_le (hG b g) hbz.size) (by omega))
      go_wp2_with fail
      refine HQ2.out.mono ?_
      rintro r w6 ⟨vi, rfl, hs6, hb6⟩
      have hb6' := below_two hbz hb6
      obtain ⟨A6, cap6, rfl, hc6⟩ := hs6.form
      have hal7 := (Below.refl w6.heap.size w6).alloc (Nat.le_refl _) (.cells (pfC (parseF l) A6 cap6).toArray 25)
      have hb7' := below_two hb6' hal7
      have HP2 := Lib.hid (K.pack (hs6.below hal7 (fun b h => h.2)) (fun b h => Nat.lt_of_lt_of_le h.2 hal7.size) (parseF_ok l).1 (by have := (parseF_ok l).2; omega))
      clear HQ2 hs6 hb6 hb6' hal7
      go_wp2_with fail
      refine HP2.out.mono ?_
      rintro r w8 ⟨vy, rfl, hs8, hb8⟩
      have hb8' := below_two hb7' hb8
      have hcv2 := conv_sg (HB.out.below hb8' hG)
      obtain ⟨Ay, capy, rfl, hcy⟩ := slB_form hs8
      have hcv1 := conv_sg hs8
      clear HP2 hs8 hb8 hb7'
      rcases told_very l with ⟨z1, _⟩ | ⟨z1, z2, z3⟩
      · go_wp2
        go_ret
        exact ⟨rfl, hb8'⟩
      · rw [z3] at hcv1 hcy
        rw [z3]
        clear z3
        go_wp2
        go_ret
        exact ⟨rfl, hb8'⟩
    · have e0 : packE f = 3 := if_neg h50
      have e1 : packB f = [] := if_neg h50
      have c3 := P4.cell 3 _ rfl
      rw [e1] at c3 hb4
      rw [e0, e1, parseE_nil]
      have l1 : decide ((f.body.length : Int) ≤ 50) = false := decide_eq_false (by omega)
      clear e0 e1 hlx hcx H4 P4 Q4 hle4
      generalize parseF [] = f0 at *
      go_wp2_with fail
      generalize w3.alloc (.cells (pfC f0 A3 cap3).toArray 25) = w4 at *
      go_region
      have hbz : Below w.heap.size w w4.drew := hb4.drew
      have HQ2 := Lib.hid (K.parse (HB.out.below hbz hG) (fun b g => Nat.lt_of_lt_of_le (hG b g) hbz.size) (by omega))
      go_wp2_with fail
      refine HQ2.out.mono ?_
      rintro r w6 ⟨vi, rfl, hs6, hb6⟩
      have hb6' := below_two hbz hb6
      obtain ⟨A6, cap6, rfl, hc6⟩ := hs6.form
      have hal7 := (Below.refl w6.heap.size w6).alloc (Nat.le_refl _) (.cells (pfC (parseF l) A6 cap6).toArray 25)
      have hb7' := below_two hb6' hal7
      have HP2 := Lib.hid (K.pack (hs6.below hal7 (fun b h => h.2)) (fun b h => Nat.lt_of_lt_of_le h.2 hal7.size) (parseF_ok l).1 (by have := (parseF_ok l).2; omega))
      clear HQ2 hs6 hb6 hb6' hal7
      go_wp2_with fail
      refine HP2.out.mono ?_
      rintro r w8 ⟨vy, rfl, hs8, hb8⟩
      have hb8' := below_two hb7' hb8
      have hcv2 := conv_sg (HB.out.below hb8' hG)
      obtain ⟨Ay, capy, rfl, hcy⟩ := slB_form hs8
      have hcv1 := conv_sg hs8
      clear HP2 hs8 hb8 hb7'
      rcases told_very l with ⟨z1, _⟩ | ⟨z1, z2, z3⟩
      · go_wp2
        go_ret
        exact ⟨rfl, hb8'⟩
      · rw [z3] at hcv1 hcy
        rw [z3]
        clear z3
        go_wp2
        go_ret
        exact ⟨rfl, hb8'⟩
  · by_cases h1 : f.body.length ≤ 200
    · have t1 : ¬ (200 : Int) < (f.body.length : Int) := by omega
      have t2 : (200 : Int) < (l.length : Int) := by omega
      go_enter Try.func5, Try.ntmps5
      go_wp2_with fail
      refine HA.out.mono ?_
      rintro r w1 ⟨rfl, hb1⟩
      have c3 := (P0.step hb1).cell 3 _ rfl
      have hb1' := below_two hb0 hb1
      go_wp2
      go_ret
      exact ⟨rfl, hb1'⟩
    · have t1 : (200 : Int) < (f.body.length : Int) := by omega
      go_enter Try.func5, Try.ntmps5
      go_wp2_with fail
      refine HA.out.mono ?_
      rintro r w1 ⟨rfl, hb1⟩
      have c3 := (P0.step hb1).cell 3 _ rfl
      have hb1' := below_two hb0 hb1
      go_wp2
      go_ret
      exact ⟨rfl, hb1'⟩

end Go.Proofs.Ytgfnjineojihjaa
