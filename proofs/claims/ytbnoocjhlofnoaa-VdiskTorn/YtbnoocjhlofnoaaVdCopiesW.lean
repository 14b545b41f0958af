/-
  The law VdiskCopies, walked: a copy has the same sectors, and the same row; what is done to it isn't done to the other one.
-/
import Derived.Test.YtbnoocjhlofnoaaVdStaysX
import Derived.Test.YtbnoocjhlofnoaaVdLawA
namespace Go.Proofs.Ytbnoocjhlofnoaa
open Go.RowKit

section
variable {H : World → (Nat → Prop) → Value → D.Dk → Prop}

set_option maxRecDepth 100000 in
set_option maxHeartbeats 4000000 in
theorem copies_yes (K : DiskOk H) (v : Value) (l : List Deed) (c0 c1 c2 c3 : Value) (X : Deed) (w : World) (G : Nat → Prop) (hd : Deeds w G v l) (hv : DeedV w G c0 c1 c2 c3 X) (hok : X.Ok) (hG : ∀ b, G b → b < w.heap.size) (hf : fewM l = true) (hXb : X.b.length ≤ 100) :
    Calls Try.prog 7 #[v, .agg #[c0, c1, c2, c3]] w fun e w' => e = .returned (.bool true) ∧ Below w.heap.size w w' := by
  have hl60 := (few_of hf).1
  have HD := Lib.hid hd
  obtain ⟨A, cap, rfl, hc, _⟩ := hd
  obtain ⟨rfl, rfl, hv2, hv3⟩ := hv
  obtain ⟨Ab, capb, rfl, hcb⟩ := Sg_form hv2
  obtain ⟨Ak, capk, rfl, hck⟩ := Sg_form hv3
  have HV2 := Lib.hid hv2
  have HV3 := Lib.hid hv3
  clear hv2 hv3
  have hba : Below w.heap.size w (w.alloc (.cells #[.int .i64 X.kind, .int .i64 X.at_, .slice Ab X.b.length capb, .slice Ak X.keep.length capk] 37)) := (Below.refl _ _).alloc (Nat.le_refl _) _
  have Q0 := B4.new w (.int .i64 X.kind) (.int .i64 X.at_) (.slice Ab X.b.length capb) (.slice Ak X.keep.length capk) 37 rfl
  go_enter Try.func7, Try.ntmps7
  go_wp2_with fail
  refine (vawake_any K _).mono ?_
  rintro e w1 ⟨rfl, hb1⟩
  have hb1' := below_two hba hb1
  have Q1 := Q0.step hb1
  have HF1 := Lib.hid (by have := few_any (.slice A l.length cap) l w1 G (HD.out.below hb1' hG) (by omega); rw [hf] at this; exact this)
  obtain ⟨_, q0, q1, q2, q3⟩ := id Q1
  go_wp2_with fail
  refine HF1.out.mono ?_
  rintro e w1' ⟨rfl, rfl⟩
  have HR := Lib.hid (run_any K (.slice A l.length cap) l w1 G (HD.out.below hb1' hG) (fun b h => Nat.lt_of_lt_of_le (hG b h) hb1'.size) hf)
  have hbl : decide ((100 : Int) < (X.b.length : Int)) = false := decide_eq_false (by omega)
  clear HF1
  go_wp2_with fail
  refine HR.out.mono ?_
  rintro e w2 ⟨p, F2, rfl, hH2, hF2, hb2⟩
  obtain ⟨pa, rfl⟩ := K.ptr hH2
  have hdl : (steps (newD 8) l).secs.length = 8 := by rw [steps_len]; rfl
  have hdr : (steps (newD 8) l).row.length ≤ 60 := by have := steps_row l (newD 8); simp [newD] at this ⊢; omega
  generalize steps (newD 8) l = d at *
  have hb2' := below_two hb1' hb2
  have Q2 := Q1.step hb2
  have HC := Lib.hid (K.copy hH2)
  clear HR Q0 Q1 q0 q1 q2 q3 hba
  go_wp2_with fail
  refine HC.out.mono ?_
  rintro e w3 ⟨px, rfl, hX3, hb3⟩
  obtain ⟨xa, rfl⟩ := K.ptr hX3
  have hH3 := K.below hH2 hb3
  have hb3' := below_two hb2' hb3
  have Q3 := Q2.step hb3
  have HC := Lib.hid (K.copy hH3)
  go_wp2_with fail
  refine HC.out.mono ?_
  rintro e w4 ⟨py, rfl, hY4, hb4⟩
  obtain ⟨ya, rfl⟩ := K.ptr hY4
  have hH4 := K.below hH3 hb4
  have hX4 := K.below hX3 hb4
  have hb4' := below_two hb3' hb4
  have Q4 := Q3.step hb4
  have hs1 := hb1.size
  have hs2 := hb2.size
  have hs3 := hb3.size
  have hs4 := hb4.size
  have hw1 := hb1'.size
  have HF2 := Lib.hid hF2
  have HF2l := Lib.hid (K.lt hH2)
  clear HC hH2 hH3 hX3 Q2 Q3
  obtain ⟨_, q0, q1, q2, q3⟩ := id Q4
  have HN : Hid (Calls Try.prog 12 #[.int .i64 8] w4.drew fun e w' => ∃ v, e = .returned v ∧ Rd w' (S.New w4.drew w') v (newD 8) ∧ Below w4.drew.heap.size w4.drew w') := Lib.hid (rnew_any 8 w4.drew (by omega))
  have HW : Hid (∀ (w5 : World) (xr : Value), Rd w5 (S.New w4.drew w5) xr (newD 8) → Below w4.heap.size w4.drew w5 → Calls Try.prog 13 #[.pointer (some xa), xr, .agg #[.int .i64 1, .int .i64 X.at_, .slice Ab X.b.length capb, .slice none 0 0]] w5 fun e w' => ∃ y bb F', e = .returned (.tuple #[y, .bool bb]) ∧ H w' F' (.pointer (some xa)) (d.write X.at_ X.b) ∧ (∀ b, F' b → S.New w2 w3 b ∨ S.New w5 w' b) ∧ Turn (S.New w2 w3) w5 w') := Lib.hid (fun w5 xr hR5 hb5 => by
    have hb45 : Below w4.heap.size w4 w5 := (Below.refl _ _).drew.trans hb5
    have hb5' := below_two hb4' hb45
    refine do_write' K (.pointer (some xa)) xr d (newD 8) _ _ _ _ ⟨1, X.at_, X.b, []⟩ w5 (S.New w2 w3) (S.New w4.drew w5) G (K.below hX4 hb45) hR5 (fun b h => h.2) (fun b h g => ?_) ⟨rfl, rfl, HV2.out.below hb5' hG, S.Sg.nil ..⟩ ⟨by show (-9223372036854775808 : Int) ≤ 1; omega, by show (1 : Int) ≤ 9223372036854775807; omega, hok.a0, hok.a1, by simp, hok.bl⟩ (fun b h => Nat.lt_of_lt_of_le (hG b h) hb5'.size) (fun b h g => ?_) (by omega) (by simp [newD]) (by show X.b.length ≤ 1000000; omega) rfl
    · have h1 : w4.heap.size ≤ b := h.1
      have := g.2; omega
    · have := hG b h; have := g.1; omega)
  have HT : Hid (∀ w5 w6, Below w4.heap.size w4.drew w5 → Turn (S.New w2 w3) w5 w6 → H w6 F2 (.pointer (some pa)) d ∧ H w6 (S.New w3 w4) (.pointer (some ya)) d ∧ B4 w6 w.heap.size (.int .i64 X.kind) (.int .i64 X.at_) (.slice Ab X.b.length capb) (.slice Ak X.keep.length capk) ∧ Below w.heap.size w w6) := Lib.hid (fun w5 w6 hb5 ht => by
    have hb45 : Below w4.heap.size w4 w5 := (Below.refl _ _).drew.trans hb5
    have hb5' := below_two hb4' hb45
    refine ⟨K.turn (K.below hH4 hb45) ht (fun b g f => ?_), K.turn (K.below hY4 hb45) ht (fun b g f => ?_), (Q4.step hb45).turn ht (fun g => ?_), hb5'.trans (ht.below hb5'.size (fun b g => ?_))⟩
    · have := HF2l.out b g; have := f.1; omega
    · have := g.1; have := f.2; omega
    · have := g.1; have := Q4.lt; have h0 : w.heap.size < w2.heap.size := by have := hb1.size; simp at this; omega
      omega
    · have := g.1; omega)
  have HQ5 : Hid (∀ w5, Below w4.heap.size w4.drew w5 → w5.cell? ⟨w.heap.size, 1, none⟩ = some (.int .i64 X.at_) ∧ w5.cell? ⟨w.heap.size, 2, none⟩ = some (.slice Ab X.b.length capb)) := Lib.hid (fun w5 hb5 => by
    have q := Q4.step ((Below.refl _ _).drew.trans hb5)
    exact ⟨q.c1, q.c2⟩)
  clear hH4 hX4 hY4 Q4 HF2
  go_wp2_with fail
  go_region_held3 (fun w' => w'.cell? ⟨w.heap.size, 1, none⟩ = some (.int .i64 X.at_) ∧ w'.cell? ⟨w.heap.size, 2, none⟩ = some (.slice Ab X.b.length capb))
    (first | assumption | go_keep)
    (first
      | (go_at_call 12
         (with_reducible refine HN.out.mono ?_)
         rintro e w5 ⟨xr, rfl, hR5, hb5d⟩
         have hb5 : Below w4.heap.size w4.drew w5 := hb5d
         have hA := HQ5.out w5 hb5)
      | (go_at_call 13
         (with_reducible refine (HW.out w5 xr hR5 hb5).mono ?_)
         rintro e w6 ⟨y, bb, F', rfl, hX6, hF6, ht6⟩
         obtain ⟨hH6, hY6, Q6, hb6⟩ := HT.out w5 w6 hb5 ht6
         have hA := And.intro Q6.c1 Q6.c2))
  have hs5 : w4.heap.size ≤ w5.heap.size := hb5.size
  have hs6 := ht6.size
  have HC := Lib.hid (K.crash G (.slice Ak X.keep.length capk) X.keep hX6 (HV3.out.below hb6 hG) (fun b h => Nat.lt_of_lt_of_le (hG b h) hb6.size) (fun b h g => by
    have := hG b h
    rcases hF6 b g with g | g
    · have := g.1; omega
    · have := g.1; omega))
  obtain ⟨hql, q0', q1', q2', q3'⟩ := id Q6
  have hFd : ∀ b, F2 b → ¬ F' b := fun b g f => by
    have := HF2l.out b g
    rcases hF6 b f with f | f
    · have := f.1; omega
    · have := f.1; omega
  have hFy : ∀ b, S.New w3 w4 b → ¬ F' b := fun b g f => by
    have := g.1; have := g.2
    rcases hF6 b f with f | f
    · have := f.2; omega
    · have := f.1; omega
  have hFw : ∀ b, F' b → w.heap.size ≤ b := fun b f => by
    rcases hF6 b f with f | f
    · have := f.1; omega
    · have := f.1; omega
  clear HN HW HT HQ5 hA hF6 hR5 hb5 hb5d ht6 hX6 q0 q1 q2 q3
  go_wp2_with fail
  refine HC.out.mono ?_
  rintro e w7 ⟨rfl, hX7, ht7⟩
  have hH7 := K.turn hH6 ht7 hFd
  have hY7 := K.turn hY6 ht7 hFy
  have hb7 := hb6.trans (ht7.below hb6.size hFw)
  clear HC hH6 hY6 ht7 hFd hFy hFw q0' q1' q2' q3' Q6
  generalize More F' w6 w7 = FX at *
  generalize S.New w3 w4 = FY at *
  go_wp2_with fail
  go_loopw [9] (fun i wr => ∃ k : Nat, k ≤ 8 ∧ i = .int .i64 k ∧ H wr F2 (.pointer (some pa)) d ∧ H wr FY (.pointer (some ya)) d ∧ H wr FX (.pointer (some xa)) ((d.write X.at_ X.b).crash X.keep) ∧ Below w.heap.size w wr) (fun i _ => 8 - (intOf i).toNat)
  case atStart => exact ⟨0, Nat.zero_le _, rfl, hH7, hY7, hX7, hb7⟩
  case round =>
    clear hH7 hY7 hX7 hb7
    obtain ⟨k, hk, rfl, hH, hY, hX, hb⟩ := hrel
    by_cases hlt : k < 8
    · have HR := Lib.hid (K.read_at k hH (by omega))
      go_wp2_with fail
      refine HR.out.mono ?_
      rintro e wa ⟨a1, cp1, rfl, hcp1, hlen, hsa, hba⟩
      have HR2 := Lib.hid (K.read_at k (K.below hY hba) (by omega))
      go_wp2_with fail
      refine HR2.out.mono ?_
      rintro e wb ⟨a2, cp2, rfl, hcp2, _, hsb, hbb⟩
      have hcv1 := conv_sg (hsa.below hbb (fun b h => h.2))
      have hcv2 := conv_sg hsb
      rw [hlen] at hcv1 hcv2
      have hH2 := K.below (K.below hH hba) hbb
      have hY2 := K.below (K.below hY hba) hbb
      have hX2 := K.below (K.below hX hba) hbb
      have hb2x := below_two (below_two hb hba) hbb
      clear HR HR2 hsa hsb hlen
      go_wp2_with fail
      go_roundw
      case rel => exact ⟨k + 1, by omega, by go_num, hH2, hY2, hX2, hb2x⟩
      case measure => simp [intOf]; omega
    · have H1 := Lib.hid (K.pending hY)
      go_wp2_with fail
      refine H1.out.mono ?_
      rintro e wa ⟨rfl, hba⟩
      have H2 := Lib.hid (K.pending (K.below hH hba))
      go_wp2_with fail
      refine H2.out.mono ?_
      rintro e wb ⟨rfl, hbb⟩
      have H3 := Lib.hid (by have := K.len (K.below (K.below hY hba) hbb); rw [hdl] at this; exact this)
      go_wp2_with fail
      refine H3.out.mono ?_
      rintro e wc ⟨rfl, hbc⟩
      have H4 := Lib.hid (by have := K.pending (K.below (K.below (K.below hX hba) hbb) hbc); rw [crash_row] at this; exact this)
      have hbf := below_two (below_two (below_two hb hba) hbb) hbc
      go_wp2_with fail
      refine H4.out.mono ?_
      rintro e wd ⟨rfl, hbd⟩
      have hbf := below_two hbf hbd
      go_wp2_with fail
      go_ret
      exact ⟨rfl, hbf⟩
end

end Go.Proofs.Ytbnoocjhlofnoaa
