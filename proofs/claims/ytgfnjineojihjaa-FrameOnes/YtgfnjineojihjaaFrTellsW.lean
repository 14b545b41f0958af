/-
  The law FrameTells, walked: any frame's sector, and any bytes' frame.
-/
import Derived.Test.YtgfnjineojihjaaFrLaw2
namespace Go.Proofs.Ytgfnjineojihjaa
open Go.RowKit

abbrev pfC (f : R.Fr) (A : Option Addr) (cap : Nat) : List Value := [.int .u32 (f.epoch : Int), .int .u32 (f.seq : Int), .int .u8 (f.flag.toNat : Int), .slice A f.body.length cap]

theorem FrV.form {w : World} {F : Nat → Prop} {v : Value} {f : R.Fr} (h : FrV w F v f) : ∃ A cap, v = .agg #[.int .u32 (f.epoch : Int), .int .u32 (f.seq : Int), .int .u8 (f.flag.toNat : Int), .slice A f.body.length cap] ∧ f.body.length ≤ cap := by
  obtain ⟨vb, rfl, _, A, cap, rfl, hc, _⟩ := h
  exact ⟨A, cap, rfl, hc⟩
theorem slB_form {w : World} {F : Nat → Prop} {v : Value} {l : List UInt8} (h : SlB w F v l) : ∃ A cap, v = .slice A l.length cap ∧ l.length ≤ cap := by
  obtain ⟨_, A, cap, rfl, hc, _⟩ := h
  exact ⟨A, cap, rfl, hc⟩

set_option linter.unusedSimpArgs false in
set_option maxRecDepth 100000 in
set_option maxHeartbeats 2000000 in
theorem tells_any (K : FrameOk) {w : World} {G : Nat → Prop} {vf vb : Value} {f : R.Fr} {l : List UInt8} (hf : FrV w G vf f) (hb : SlB w G vb l) (hG : ∀ b, G b → b < w.heap.size) (hn : f.Num) :
    Calls Try.prog 3 #[vf, vb] w fun r w' => r = .returned (.bool true) ∧ Below w.heap.size w w' := by
  have HF := Lib.hid hf
  have HB := Lib.hid hb
  obtain ⟨A, cap, rfl, hc⟩ := hf.form
  obtain ⟨Ab, capb, rfl, hcb⟩ := slB_form hb
  have P0 := Bk.new w (pfC f A cap) 25 rfl
  have hb0 : Below w.heap.size w (w.alloc (.cells (pfC f A cap).toArray 25)) := (Below.refl _ _).alloc (Nat.le_refl _) _
  have HA := Lib.hid (fawake_any K (w.alloc (.cells (pfC f A cap).toArray 25)))
  clear hf hb
  by_cases h200 : f.body.length ≤ 200 ∧ l.length ≤ 200
  · have t1 : ¬ (200 : Int) < (f.body.length : Int) := by omega
    have t2 : ¬ (200 : Int) < (l.length : Int) := by omega
    go_enter Try.func3, Try.ntmps3
    go_wp2_with fail
    refine HA.out.mono ?_
    rintro r w1 ⟨rfl, hb1⟩
    have P1 := P0.step hb1
    have hb1' := below_two hb0 hb1
    have HP := Lib.hid (K.pack (HF.out.below hb1' hG) (fun b g => Nat.lt_of_lt_of_le (hG b g) hb1'.size) hn (by omega))
    clear P0 hb0 HA hb1
    generalize hpp : w.heap.size = p at P1
    have c0 := P1.cell 0 _ rfl
    have c1 := P1.cell 1 _ rfl
    have c2 := P1.cell 2 _ rfl
    have c3 := P1.cell 3 _ rfl
    go_wp2_with fail
    refine HP.out.mono ?_
    rintro r w2 ⟨vx, rfl, hs2, hb2⟩
    have P2 := P1.step hb2
    have hb2' := below_two hb1' hb2
    obtain ⟨Ax, capx, rfl, hcx⟩ := slB_form hs2
    have HR := Lib.hid (real_any (HF.out.below hb2' hG) (fun b g => Nat.lt_of_lt_of_le (hG b g) hb2'.size))
    clear HP c0 c1 c2 c3 P1
    have c0 := P2.cell 0 _ rfl
    have c1 := P2.cell 1 _ rfl
    have c2 := P2.cell 2 _ rfl
    have c3 := P2.cell 3 _ rfl
    go_wp2_with fail
    refine HR.out.mono ?_
    rintro r w3 ⟨rfl, hb3⟩
    have hb3' := below_two hb2' hb3
    have HK := Lib.hid (rpack_any f w3 hn)
    rw [pkV_eq] at HK
    clear HR c0 c1 c2 c3 P2
    go_wp2_with fail
    refine HK.out.mono ?_
    rintro r w4 ⟨rfl, hb4⟩
    have hb4' := below_two hb3' hb4
    have HQ := Lib.hid (K.parse (HB.out.below hb4' hG) (fun b g => Nat.lt_of_lt_of_le (hG b g) hb4'.size) (by omega))
    clear HK
    go_wp2_with fail
    refine HQ.out.mono ?_
    rintro r w5 ⟨vg, rfl, hs5, hb5⟩
    have hb5' := below_two hb4' hb5
    obtain ⟨g, hg⟩ : ∃ g, g = parseF l := ⟨_, rfl⟩
    rw [← hg] at hs5
    have H5 := Lib.hid hs5
    obtain ⟨A5, cap5, rfl, hc5⟩ := hs5.form
    have hb6 : Below w.heap.size w (w5.alloc (.cells (pfC g A5 cap5).toArray 25)) := hb5'.alloc hb5'.size _
    have hcv := conv_sg (HB.out.below hb6 hG)
    have HZ := Lib.hid (rparse_any ⟨l.toArray⟩ (w5.alloc (.cells (pfC g A5 cap5).toArray 25)) (by simp [ByteArray.size]; omega))
    rw [show (⟨l.toArray⟩ : ByteArray).data.toList = l by simp, psV_eq, ← hg] at HZ
    clear HQ hs5 hg
    go_wp2_with fail
    refine HZ.out.mono ?_
    rintro r w7 ⟨rfl, hb7⟩
    have Q7 := (Bk.new w5 (pfC g A5 cap5) 25 rfl).step hb7
    have hb57 := below_two ((Below.refl _ _).alloc (Nat.le_refl _) (.cells (pfC g A5 cap5).toArray 25)) hb7
    have H7 := H5.out.below hb57 (fun b hb => hb.2)
    have hs27 := ((((hs2.below hb3 (fun b hb => hb.2)).below (hb4.mono hb3.size) (fun b hb => hb.2)).below (hb5.mono (Nat.le_trans hb3.size hb4.size)) (fun b hb => hb.2)).below (hb57.mono (Nat.le_trans hb3.size (Nat.le_trans hb4.size hb5.size))) (fun b hb => hb.2))
    have hl27 : w2.heap.size ≤ w7.heap.size := Nat.le_trans hb3.size (Nat.le_trans hb4.size (Nat.le_trans hb5.size hb57.size))
    have hl57 : w5.heap.size ≤ w7.heap.size := hb57.size
    have Q8 := Q7.alloc (.cells (frC g).toArray 33)
    have O8 := Bk.new w7 (frC g) 33 rfl
    have hal := (Below.refl w7.heap.size w7).alloc (Nat.le_refl _) (.cells (frC g).toArray 33)
    have H8 := Lib.hid (H7.below hal (fun b hb => Nat.lt_of_lt_of_le hb.2 hl57))
    have X8 := Lib.hid (hs27.below hal (fun b hb => Nat.lt_of_lt_of_le hb.2 hl27))
    have hb8 : Below w.heap.size w (w7.alloc (.cells (frC g).toArray 33)) := below_two (below_two hb5' hb57) hal
    obtain ⟨X, hX⟩ : ∃ X, X = packB f := ⟨_, rfl⟩
    rw [← hX] at X8
    rw [← hX]
    have hle8 : w7.heap.size < (w7.alloc (.cells (frC g).toArray 33)).heap.size := by simp
    clear Q7 H7 hs27 hal HZ hb6 hb7 hb57 H5 hs2 hb2 hb3 hb4 hb5 hb1' hb2' hb3' hb4' hb5' hcv hX
    go_wp2_with fail
    generalize w7.alloc (.cells #[.int .u32 (g.epoch : Int), .int .u32 (g.seq : Int), .int .u8 (g.flag.toNat : Int), .string ⟨g.body.toArray⟩] 33) = w8 at *
    have Q8 := Lib.hid Q8
    have O8 := Lib.hid O8
    generalize hq5 : w5.heap.size = q at *
    generalize hq7 : w7.heap.size = o at *
    have HS : Hid (∀ w', Below w8.heap.size w8 w' → w'.cell? ⟨q, 0, none⟩ = some (.int .u32 (g.epoch : Int)) ∧ w'.cell? ⟨q, 1, none⟩ = some (.int .u32 (g.seq : Int)) ∧ w'.cell? ⟨q, 2, none⟩ = some (.int .u8 (g.flag.toNat : Int)) ∧ w'.cell? ⟨q, 3, none⟩ = some (.slice A5 g.body.length cap5) ∧ w'.cell? ⟨o, 0, none⟩ = some (.int .u32 (g.epoch : Int)) ∧ w'.cell? ⟨o, 1, none⟩ = some (.int .u32 (g.seq : Int)) ∧ w'.cell? ⟨o, 2, none⟩ = some (.int .u8 (g.flag.toNat : Int)) ∧ w'.cell? ⟨o, 3, none⟩ = some (.string ⟨g.body.toArray⟩) ∧ (convert 23 9 (.slice Ax X.length capx)).run Try.prog w' = .ok (.string ⟨X.toArray⟩) w' ∧ Below w8.heap.size w8 w') := Lib.hid fun w' hb =>
      ⟨(Q8.out.step hb).cell 0 _ rfl, (Q8.out.step hb).cell 1 _ rfl, (Q8.out.step hb).cell 2 _ rfl, (Q8.out.step hb).cell 3 _ rfl, (O8.out.step hb).cell 0 _ rfl, (O8.out.step hb).cell 1 _ rfl, (O8.out.step hb).cell 2 _ rfl, (O8.out.step hb).cell 3 _ rfl, conv_sg (X8.out.below hb (fun b h => Nat.lt_of_lt_of_le h.2 (by omega))), hb⟩
    have HC : Hid (∀ w', (w'.cell? ⟨q, 0, none⟩ = some (.int .u32 (g.epoch : Int)) ∧ w'.cell? ⟨q, 1, none⟩ = some (.int .u32 (g.seq : Int)) ∧ w'.cell? ⟨q, 2, none⟩ = some (.int .u8 (g.flag.toNat : Int)) ∧ w'.cell? ⟨q, 3, none⟩ = some (.slice A5 g.body.length cap5) ∧ w'.cell? ⟨o, 0, none⟩ = some (.int .u32 (g.epoch : Int)) ∧ w'.cell? ⟨o, 1, none⟩ = some (.int .u32 (g.seq : Int)) ∧ w'.cell? ⟨o, 2, none⟩ = some (.int .u8 (g.flag.toNat : Int)) ∧ w'.cell? ⟨o, 3, none⟩ = some (.string ⟨g.body.toArray⟩) ∧ (convert 23 9 (.slice Ax X.length capx)).run Try.prog w' = .ok (.string ⟨X.toArray⟩) w' ∧ Below w8.heap.size w8 w') → Calls Try.prog 12 #[.agg #[.int .u32 (g.epoch : Int), .int .u32 (g.seq : Int), .int .u8 (g.flag.toNat : Int), .slice A5 g.body.length cap5]] w' fun r w'' => r = .returned (frA g) ∧ w''.cell? ⟨q, 0, none⟩ = some (.int .u32 (g.epoch : Int)) ∧ w''.cell? ⟨q, 1, none⟩ = some (.int .u32 (g.seq : Int)) ∧ w''.cell? ⟨q, 2, none⟩ = some (.int .u8 (g.flag.toNat : Int)) ∧ w''.cell? ⟨q, 3, none⟩ = some (.slice A5 g.body.length cap5) ∧ w''.cell? ⟨o, 0, none⟩ = some (.int .u32 (g.epoch : Int)) ∧ w''.cell? ⟨o, 1, none⟩ = some (.int .u32 (g.seq : Int)) ∧ w''.cell? ⟨o, 2, none⟩ = some (.int .u8 (g.flag.toNat : Int)) ∧ w''.cell? ⟨o, 3, none⟩ = some (.string ⟨g.body.toArray⟩) ∧ (convert 23 9 (.slice Ax X.length capx)).run Try.prog w'' = .ok (.string ⟨X.toArray⟩) w'' ∧ Below w8.heap.size w8 w'') :=
      Lib.hid fun w' hS => (real_any (H8.out.below hS.2.2.2.2.2.2.2.2.2 (fun b h => Nat.lt_of_lt_of_le h.2 (by omega))) (fun b h => Nat.lt_of_lt_of_le h.2 (Nat.le_trans (by omega) hS.2.2.2.2.2.2.2.2.2.size))).mono
        (fun r w'' ⟨hr, hb⟩ => ⟨hr, HS.out _ (hS.2.2.2.2.2.2.2.2.2.trans (hb.mono hS.2.2.2.2.2.2.2.2.2.size))⟩)
    have heq : ∀ w', (binOp .eql 33 (frA g) (frA g)).run Try.prog w' = .ok (.bool true) w' := fun w' => by rw [eql_fr, sameF_self]
    have hbd : Below w8.heap.size w8 w8.drew := (Below.refl _ _).drew
    go_region_held3 (fun w' => w'.cell? ⟨q, 0, none⟩ = some (.int .u32 (g.epoch : Int)) ∧ w'.cell? ⟨q, 1, none⟩ = some (.int .u32 (g.seq : Int)) ∧ w'.cell? ⟨q, 2, none⟩ = some (.int .u8 (g.flag.toNat : Int)) ∧ w'.cell? ⟨q, 3, none⟩ = some (.slice A5 g.body.length cap5) ∧ w'.cell? ⟨o, 0, none⟩ = some (.int .u32 (g.epoch : Int)) ∧ w'.cell? ⟨o, 1, none⟩ = some (.int .u32 (g.seq : Int)) ∧ w'.cell? ⟨o, 2, none⟩ = some (.int .u8 (g.flag.toNat : Int)) ∧ w'.cell? ⟨o, 3, none⟩ = some (.string ⟨g.body.toArray⟩) ∧ (convert 23 9 (.slice Ax X.length capx)).run Try.prog w' = .ok (.string ⟨X.toArray⟩) w' ∧ Below w8.heap.size w8 w')
      (first | exact HS.out _ hbd | assumption)
      (first
        | (go_at_call 12
           refine (HC.out _ (by assumption)).mono ?_
           rintro r w9 ⟨rfl, hS9⟩))
    all_goals (try go_wp2)
    all_goals go_ret
    all_goals exact ⟨rfl, hb8.trans (hS9.2.2.2.2.2.2.2.2.2.mono hb8.size)⟩
  · by_cases h1 : f.body.length ≤ 200
    · have t1 : ¬ (200 : Int) < (f.body.length : Int) := by omega
      have t2 : (200 : Int) < (l.length : Int) := by omega
      go_enter Try.func3, Try.ntmps3
      go_wp2_with fail
      refine HA.out.mono ?_
      rintro r w1 ⟨rfl, hb1⟩
      have c3 := (P0.step hb1).cell 3 _ rfl
      have hb1' := below_two hb0 hb1
      go_wp2
      go_ret
      exact ⟨rfl, hb1'⟩
    · have t1 : (200 : Int) < (f.body.length : Int) := by omega
      go_enter Try.func3, Try.ntmps3
      go_wp2_with fail
      refine HA.out.mono ?_
      rintro r w1 ⟨rfl, hb1⟩
      have c3 := (P0.step hb1).cell 3 _ rfl
      have hb1' := below_two hb0 hb1
      go_wp2
      go_ret
      exact ⟨rfl, hb1'⟩

end Go.Proofs.Ytgfnjineojihjaa
