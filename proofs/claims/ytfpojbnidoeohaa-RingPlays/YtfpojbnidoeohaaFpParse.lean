/-
  The program's frames: the frame of a sector.
-/
import Derived.Test.YtfpojbnidoeohaaFpPack
import Derived.Deep.QuietTactic
import Derived.BigQuiet
namespace Go.Proofs.Ytfpojbnidoeohaa
open Go.RowKit

abbrev pz4 : List Value := [.int .u32 0, .int .u32 0, .int .u8 0, .slice none 0 0]
theorem infoPf : (Try.prog.info? 61).map (·.size) = some 4 := by kernel_rfl

theorem FrV.zero (w : World) (F : Nat → Prop) : FrV w F (.agg #[.int .u32 0, .int .u32 0, .int .u8 0, .slice none 0 0]) fr0 := ⟨_, rfl, S.Sg.nil _ _ _ _ _⟩

theorem parse_none {l : List UInt8} (h : R.parse l = none) : parseE l = 2 ∧ parseF l = fr0 := by
  unfold parseE parseF
  rw [h]
  exact ⟨rfl, rfl⟩
theorem parse_yes {l : List UInt8} {f : R.Fr} (h : R.parse l = some f) : parseE l = 0 ∧ parseF l = f := by
  unfold parseE parseF
  rw [h]
  exact ⟨rfl, rfl⟩

set_option maxRecDepth 100000 in
theorem pparse_len {w : World} {F : Nat → Prop} {v : Value} {l : List UInt8} (h : SlB w F v l) (hl : l.length ≠ 64) (_hl : l.length ≤ 1000) :
    Calls Try.prog 25 #[v] w fun r w' => r = .returned (.tuple #[.agg #[.int .u32 0, .int .u32 0, .int .u8 0, .slice none 0 0], .int .i64 2]) ∧ Below w.heap.size w w' := by
  obtain ⟨_, A, cap, rfl, hc, _⟩ := h
  have h' : ((l.length : Int) != 64) = true := by simp; omega
  have hP := Bk.new w pz4 61 rfl
  have hb0 : Below w.heap.size w (w.alloc (.cells #[.int .u32 0, .int .u32 0, .int .u8 0, .slice none 0 0] 61)) := (Below.refl _ _).alloc (Nat.le_refl _) _
  go_enter Try.func25, Try.ntmps25
  go_wp2
  refine bodyPost_ret (results_bk_1 rfl _ rfl hP Try.underlying61 rfl infoPf) rfl ⟨rfl, hb0⟩

/-- the parts of a sector, as the program takes them -/
theorem sector_parts (l : List UInt8) (h : l.length = 64) : ∃ (e n : Nat) (c d : UInt8) (s1 s2 : ByteArray), s1.size = 60 ∧ s2.size = 56 ∧ e < 4294967296 ∧ n < 4294967296 ∧ (∀ w, Calls Try.prog 39 #[.string ⟨l.toArray⟩] w fun r w' => r = .returned (.tuple #[.int .u32 (e : Int), .string s1, .int .i64 0]) ∧ Below w.heap.size w w') ∧
    (∀ w, Calls Try.prog 39 #[.string s1] w fun r w' => r = .returned (.tuple #[.int .u32 (n : Int), .string s2, .int .i64 0]) ∧ Below w.heap.size w w') ∧ s2.data.toList = l.drop 8 ∧ l.getD 8 0 = d ∧ l.getD 9 0 = c ∧
    R.cand l = ⟨e, n, d, (l.drop 10).take c.toNat⟩ := by
  have hs : (⟨l.toArray⟩ : ByteArray).size = 64 := by simpa [ByteArray.size] using h
  obtain ⟨s, hsd⟩ : ∃ s : ByteArray, s = ⟨l.toArray⟩ := ⟨_, rfl⟩
  have hsl : s.data.toList = l := by rw [hsd]
  rw [← hsd] at hs ⊢
  have h1 : (s.extract 4 s.size).data.toList = l.drop 4 := by
    rw [← hsl]; simp
    rw [List.take_of_length_le (by simp)]
  have z1 : (s.extract 4 s.size).size = 60 := by simp; omega
  obtain ⟨s1, hs1⟩ : ∃ s1, s1 = s.extract 4 s.size := ⟨_, rfl⟩
  rw [← hs1] at h1 z1
  have h2 : (s1.extract 4 s1.size).data.toList = l.drop 8 := by
    have : l.drop 8 = (l.drop 4).drop 4 := by rw [List.drop_drop]
    rw [this, ← h1]; simp
    rw [List.take_of_length_le (by simp)]
  have z2 : (s1.extract 4 s1.size).size = 56 := by simp; omega
  refine ⟨M.num (l.take 4), M.num ((l.drop 4).take 4), l.getD 9 0, l.getD 8 0, s1, s1.extract 4 s1.size, z1, z2, R.num4_lt _, R.num4_lt _, fun w => ?_, fun w => ?_, h2, rfl, rfl, rfl⟩
  · have := takeNum_any s w (by unfold maxLen; omega)
    rw [tnV_yes (by omega), hsl, ← hs1] at this
    exact this
  · have := takeNum_any s1 w (by unfold maxLen; omega)
    rw [tnV_yes (by omega), h1] at this
    exact this

set_option maxRecDepth 100000 in
set_option maxHeartbeats 1000000 in
theorem pparse_more {w : World} {F : Nat → Prop} {v : Value} {l : List UInt8} (h : SlB w F v l) (hF : ∀ b, F b → b < w.heap.size) (hl : l.length = 64) :
    Calls Try.prog 25 #[v] w fun r w' => ∃ vf, r = .returned (.tuple #[vf, .int .i64 (parseE l)]) ∧ FrV w' (S.New w w') vf (parseF l) ∧ Below w.heap.size w w' := by
  have HS := Lib.hid h
  have HF := Lib.hid hF
  obtain ⟨A, cap, rfl, hc⟩ : ∃ A cap, v = .slice A 64 cap ∧ 64 ≤ cap := by obtain ⟨_, A, cap, e, hc, _⟩ := h; rw [hl] at e hc; exact ⟨A, cap, e, hc⟩
  have hP := Lib.hid (Bk.new w pz4 61 rfl)
  have hb0 : Below w.heap.size w (w.alloc (.cells #[.int .u32 0, .int .u32 0, .int .u8 0, .slice none 0 0] 61)) := (Below.refl _ _).alloc (Nat.le_refl _) _
  obtain ⟨e, n, c, d, s1, s2, z1, z2, he, hn, ht1, ht2, h2, h8, h9, hcand⟩ := sector_parts l hl
  have hcv := conv_sg (h.below hb0 hF)
  have HT1 := Lib.hid ht1
  have HT2 := Lib.hid ht2
  have H2 := Lib.hid h2
  have HC := Lib.hid hcand
  have H9 := Lib.hid h9
  have i0 : s2[0]'(by omega) = d := by
    rw [← getD_byte s2 0 (by omega), h2, ← h8]; simp
  have i1 : s2[1]'(by omega) = c := by
    rw [← getD_byte s2 1 (by omega), h2, ← h9]; simp
  have HL := Lib.hid hl
  clear h hF ht1 ht2 h2 h8 h9 hcand hl
  go_enter Try.func25, Try.ntmps25
  go_wp2_with fail
  refine (HT1.out _).mono ?_
  rintro r w1 ⟨rfl, hb1⟩
  go_wp2_with fail
  refine (HT2.out _).mono ?_
  rintro r w2 ⟨rfl, hb2⟩
  have hb2' := below_two (below_two hb0 hb1) hb2
  have P2 := Lib.hid ((hP.out.step hb1).step hb2)
  clear hP hb0 hb1 hb2 hcv HT1 HT2
  go_wp2_with fail
  go_quiet (fail)
  rename_i nq
  obtain ⟨W, hW⟩ : ∃ W, w2.drewN nq = W := ⟨_, rfl⟩
  have hbW : Below w.heap.size w W := by rw [← hW]; exact below_drewN hb2' nq
  have PW : Bk W w.heap.size pz4 := by rw [← hW]; exact P2.out.keep rfl (Nat.le_refl _)
  rw [hW]
  clear hW P2 hb2'
  obtain ⟨p, hp⟩ : ∃ p, p = w.heap.size := ⟨_, rfl⟩
  rw [← hp] at PW
  rw [← hp]
  have hpw : w.heap.size ≤ p := by omega
  have HP := Lib.hid hp
  clear hp
  have hwc : wrap64 (c.toNat : Int) = (c.toNat : Int) := by have := c.toNat_lt; unfold wrap64; omega
  obtain ⟨s3, hs3⟩ : ∃ s3, s3 = s2.extract 2 56 := ⟨_, rfl⟩
  have z3 : s3.size = 54 := by rw [hs3]; simp; omega
  have HX : Hid (s3.extract 0 c.toNat = ⟨((l.drop 10).take c.toNat).toArray⟩) := Lib.hid (by
    apply ByteArray.ext
    apply Array.toList_inj.1
    rw [hs3, show l.drop 10 = (l.drop 8).drop 2 by rw [List.drop_drop], ← H2.out]
    simp
    omega)
  rw [← hs3]
  clear hs3 i0 i1 z1 z2
  by_cases h9 : 50 < c.toNat
  · have h9' : (50 : Int) < (c.toNat : Int) := by omega
    have c0 := PW.cell 0 _ rfl
    have c1 := PW.cell 1 _ rfl
    have c2 := PW.cell 2 _ rfl
    have c3 := PW.cell 3 _ rfl
    have f0 := PW.fz 0 (by simp)
    have f1 := PW.fz 1 (by simp)
    have f2 := PW.fz 2 (by simp)
    have f3 := PW.fz 3 (by simp)
    have P4 := Lib.hid (PW.all4 (.int .u32 0) (.int .u32 0) (.int .u8 0) (.slice none 0 0))
    have hb4 := (((hbW.setCell (p := ⟨p, 0, none⟩) hpw (.int .u32 0)).setCell (p := ⟨p, 1, none⟩) hpw (.int .u32 0)).setCell (p := ⟨p, 2, none⟩) hpw (.int .u8 0)).setCell (p := ⟨p, 3, none⟩) hpw (.slice none 0 0)
    have hnone : R.parse l = none := by rw [R.parse, if_neg (fun g => by have := g.2.1; rw [H9.out] at this; omega)]
    have HN := Lib.hid (parse_none hnone)
    clear PW hbW hnone
    go_wp2
    refine bodyPost_ret (results_bk_1 rfl _ rfl P4.out Try.underlying61 rfl infoPf) rfl ⟨_, by rw [HN.out.1]; rfl, by rw [HN.out.2]; exact FrV.zero _ _, hb4⟩
  · have h9' : ¬ (50 : Int) < (c.toNat : Int) := by omega
    have hlen : ((l.drop 10).take c.toNat).length = c.toNat := by rw [List.length_take, List.length_drop, HL.out]; omega
    obtain ⟨cp, w3, hcv3, hsb, hb3⟩ := conv_bytes W ((l.drop 10).take c.toNat)
    rw [← HX.out, hlen] at hcv3
    obtain ⟨g, hg⟩ : ∃ g, g = W.heap.size := ⟨_, rfl⟩
    rw [← hg] at hcv3 hsb
    have hgw : w.heap.size ≤ g := by have := hbW.size; omega
    clear hg
    have hpW := PW.lt
    obtain ⟨bl, hbl⟩ : ∃ bl, bl = (l.drop 10).take c.toNat := ⟨_, rfl⟩
    rw [← hbl] at hsb hlen
    have hcand := HC.out
    rw [← hbl] at hcand
    have hsb1 : SlB w3 (S.New W w3) (.slice (some ⟨g, 0, none⟩) c.toNat cp) bl := by
      have := hsb
      rw [show Value.slice (some ⟨g, 0, none⟩) bl.length cp = .slice (some ⟨g, 0, none⟩) c.toNat cp by rw [hlen]] at this
      exact this
    have hba : Below w3.heap.size w3 (w3.alloc (.cells #[.int .u32 (e : Int), .int .u32 (n : Int), .int .u8 (d.toNat : Int), .slice (some ⟨g, 0, none⟩) c.toNat cp] 61)) := (Below.refl _ _).alloc (Nat.le_refl _) _
    have hV : FrV (w3.alloc (.cells #[.int .u32 (e : Int), .int .u32 (n : Int), .int .u8 (d.toNat : Int), .slice (some ⟨g, 0, none⟩) c.toNat cp] 61)) (S.New W w3) (.agg #[.int .u32 (e : Int), .int .u32 (n : Int), .int .u8 (d.toNat : Int), .slice (some ⟨g, 0, none⟩) c.toNat cp]) ⟨e, n, d, bl⟩ :=
      ⟨_, rfl, hsb1.below hba (fun b hb => hb.2)⟩
    have HK := Lib.hid (pack_fits hV (fun b hb => by have := hb.2; simp; omega) ⟨he, hn⟩ (by show bl.length ≤ 50; omega))
    have G4 := Lib.hid (Bk.new w3 [.int .u32 (e : Int), .int .u32 (n : Int), .int .u8 (d.toNat : Int), .slice (some ⟨g, 0, none⟩) c.toNat cp] 61 rfl)
    have hb3' := below_two hbW hb3
    have hb4' := below_two hb3' hba
    have P4 := Lib.hid ((PW.step hb3).step hba)
    have HB := Lib.hid hsb1
    have HBA := Lib.hid hba
    have hw3 := hb3.size
    have HLn := Lib.hid hlen
    have HCD := Lib.hid hcand
    clear hsb hV PW hb3 hbl hcand hsb1 hba hlen hbW
    go_wp2_with fail
    refine HK.out.mono ?_
    rintro r w5 ⟨vs, rfl, hs5, hb5⟩
    have hl64 : (R.sector ⟨e, n, d, bl⟩).length = 64 := R.sector_len (by show bl.length ≤ 50; have := HLn.out; omega)
    obtain ⟨A5, cp5, rfl, hc5⟩ : ∃ A cap, vs = .slice A 64 cap ∧ 64 ≤ cap := by obtain ⟨_, A, cap, e, hc, _⟩ := hs5; rw [hl64] at e hc; exact ⟨A, cap, e, hc⟩
    have hb5' := below_two hb4' hb5
    have HE := Lib.hid (equal_any hs5 (HS.out.below hb5' HF.out))
    have G5 := G4.out.step hb5
    have P5 := P4.out.step hb5
    have HB5 := Lib.hid ((HB.out.below HBA.out (fun b hb => hb.2)).below hb5 (fun b hb => Nat.lt_of_lt_of_le hb.2 HBA.out.size))
    obtain ⟨g2, hg2⟩ : ∃ g2, g2 = w3.heap.size := ⟨_, rfl⟩
    have h3g : w3.heap.size ≤ g2 := by omega
    rw [← hg2] at G5
    rw [← hg2]
    have hsz5 : w3.heap.size ≤ w5.heap.size := Nat.le_trans HBA.out.size hb5.size
    have c0 := P5.cell 0 _ rfl
    have c1 := P5.cell 1 _ rfl
    have c2 := P5.cell 2 _ rfl
    have c3 := P5.cell 3 _ rfl
    have f0 := P5.fz 0 (by simp)
    have f1 := P5.fz 1 (by simp)
    have f2 := P5.fz 2 (by simp)
    have f3 := P5.fz 3 (by simp)
    clear HK hs5 hb4' hb5 G4 P4 hl64 hg2 hb3' HB HBA
    by_cases heq : R.sector ⟨e, n, d, bl⟩ = l
    · rw [show decide (R.sector ⟨e, n, d, bl⟩ = l) = true from decide_eq_true heq] at HE
      have hyes : R.parse l = some ⟨e, n, d, bl⟩ := by
        rw [R.parse, HCD.out, if_pos ⟨HL.out, by rw [H9.out]; omega, heq⟩]
      have HY := Lib.hid (parse_yes hyes)
      have d0 := G5.cell 0 _ rfl
      have d1 := G5.cell 1 _ rfl
      have d2 := G5.cell 2 _ rfl
      have d3 := G5.cell 3 _ rfl
      have P6 := Lib.hid (P5.all4 (.int .u32 (e : Int)) (.int .u32 (n : Int)) (.int .u8 (d.toNat : Int)) (.slice (some ⟨g, 0, none⟩) c.toNat cp))
      have hb6 := (((hb5'.setCell (p := ⟨p, 0, none⟩) hpw (.int .u32 (e : Int))).setCell (p := ⟨p, 1, none⟩) hpw (.int .u32 (n : Int))).setCell (p := ⟨p, 2, none⟩) hpw (.int .u8 (d.toNat : Int))).setCell (p := ⟨p, 3, none⟩) hpw (.slice (some ⟨g, 0, none⟩) c.toNat cp)
      have hnp : ¬ S.New W w3 p := fun h => by have := h.1; omega
      have HB6 := Lib.hid ((((HB5.out.set hnp 0 (.int .u32 (e : Int))).set hnp 1 (.int .u32 (n : Int))).set hnp 2 (.int .u8 (d.toNat : Int))).set hnp 3 (.slice (some ⟨g, 0, none⟩) c.toNat cp))
      have hszW : w.heap.size ≤ W.heap.size := by have := HP.out; omega
      have HSZ : Hid (w3.heap.size ≤ ((((w5.setCell ⟨p, 0, none⟩ (.int .u32 (e : Int))).setCell ⟨p, 1, none⟩ (.int .u32 (n : Int))).setCell ⟨p, 2, none⟩ (.int .u8 (d.toNat : Int))).setCell ⟨p, 3, none⟩ (.slice (some ⟨g, 0, none⟩) c.toNat cp)).heap.size) := Lib.hid (by simpa [World.setCell] using hsz5)
      clear heq hyes P5 G5 HB5 hb5'
      go_wp2_with fail
      refine HE.out.mono ?_
      rintro r w6 ⟨rfl, hw6⟩
      have hw6' := hw6.symm
      subst hw6'
      clear HE
      go_wp2
      refine bodyPost_ret (results_bk_1 rfl _ rfl P6.out Try.underlying61 rfl infoPf) rfl ⟨_, by rw [HY.out.1]; rfl, ?_, hb6⟩
      rw [HY.out.2]
      exact ⟨_, rfl, HB6.out.wider (fun b hb => ⟨Nat.le_trans hszW hb.1, Nat.lt_of_lt_of_le hb.2 HSZ.out⟩)⟩
    · rw [show decide (R.sector ⟨e, n, d, bl⟩ = l) = false from decide_eq_false heq] at HE
      have hnone : R.parse l = none := by
        rw [R.parse, HCD.out, if_neg (fun g => heq g.2.2)]
      have HN := Lib.hid (parse_none hnone)
      have P6 := Lib.hid (P5.all4 (.int .u32 0) (.int .u32 0) (.int .u8 0) (.slice none 0 0))
      have hb6 := (((hb5'.setCell (p := ⟨p, 0, none⟩) hpw (.int .u32 0)).setCell (p := ⟨p, 1, none⟩) hpw (.int .u32 0)).setCell (p := ⟨p, 2, none⟩) hpw (.int .u8 0)).setCell (p := ⟨p, 3, none⟩) hpw (.slice none 0 0)
      clear heq hnone P5 G5 HB5 hb5'
      go_wp2_with fail
      refine HE.out.mono ?_
      rintro r w6 ⟨rfl, hw6⟩
      have hw6' := hw6.symm
      subst hw6'
      clear HE
      go_wp2
      refine bodyPost_ret (results_bk_1 rfl _ rfl P6.out Try.underlying61 rfl infoPf) rfl ⟨_, by rw [HN.out.1]; rfl, by rw [HN.out.2]; exact FrV.zero _ _, hb6⟩

theorem pparse_any {w : World} {F : Nat → Prop} {v : Value} {l : List UInt8} (h : SlB w F v l) (hF : ∀ b, F b → b < w.heap.size) (hl : l.length ≤ 1000) :
    Calls Try.prog 25 #[v] w fun r w' => ∃ vf, r = .returned (.tuple #[vf, .int .i64 (parseE l)]) ∧ FrV w' (S.New w w') vf (parseF l) ∧ Below w.heap.size w w' := by
  by_cases h64 : l.length = 64
  · exact pparse_more h hF h64
  · refine (pparse_len h h64 hl).mono ?_
    rintro r w' ⟨rfl, hb⟩
    have hn := parse_none (R.parse_len h64)
    rw [hn.1, hn.2]
    exact ⟨_, rfl, FrV.zero _ _, hb⟩

theorem ppack_any {w : World} {F : Nat → Prop} {v : Value} {f : R.Fr} (h : FrV w F v f) (hF : ∀ b, F b → b < w.heap.size) (hn : f.Num) (hl : f.body.length ≤ 1000) :
    Calls Try.prog 40 #[v] w fun r w' => ∃ vb, r = .returned (.tuple #[vb, .int .i64 (packE f)]) ∧ SlB w' (S.New w w') vb (packB f) ∧ Below w.heap.size w w' := by
  unfold packE packB
  by_cases h50 : f.body.length ≤ 50
  · rw [if_pos h50, if_pos h50]
    exact pack_fits h hF hn h50
  · rw [if_neg h50, if_neg h50]
    refine (pack_long h (by omega) hl).mono ?_
    rintro r w' ⟨rfl, hb⟩
    exact ⟨_, rfl, S.Sg.nil _ _ _ _ _, hb⟩

end Go.Proofs.Ytfpojbnidoeohaa
