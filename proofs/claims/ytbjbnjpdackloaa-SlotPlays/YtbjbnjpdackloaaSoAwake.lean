/-
  Walks of layer slot's laws: awake.
-/
import Derived.Test.YtbjbnjpdackloaaSoLaw1
import Derived.Deep.QuietTactic
namespace Go.Proofs.Ytbjbnjpdackloaa
open Go.RowKit

theorem step_make {P : Program} {ops : Array Oper} {o : Oper} {a : Act} {w : World} {K : Act → World → Prop} {Q : Exit → Act → World → Prop} {E : Prop} (hw : Region.wanted o (yielded ops a.tmps) = true) (l c : Operand) (t : TypeId) (hop : o.op = Op.makeSlice t l c)
    (base : Nat) (e : TypeId) (i : TypeInfo) (z : Value) (size : Nat) (h1 : P.underlying t = some (.slice e)) (h2 : P.info? e = some i) (h3 : i.zero = some z) (h4 : i.size = size)
    (kl kc : IntKind) (L C : Int) (n : Nat) (hl : a.eval l = .int kl L) (hc : a.eval c = .int kc C) (hL : L = (n : Int)) (hC : C = (n : Int)) (b2 : i.bytes * n ≤ 281474976710656) (b3 : n ≤ maxLen) (b4 : base ≤ w.heap.size)
    (hK : ∀ w', w'.ownsRow base e size (.slice (some ⟨w.heap.size, 0, none⟩) n n) n (madeCells z.cells (n * size)).toList → w.grownBy w' none → K (a.put o.dst (.slice (some ⟨w.heap.size, 0, none⟩) n n)) w') :
    if Region.wanted o (yielded ops a.tmps) = true then Oper.wp P o a w K Q else E := by
  rw [if_pos hw]
  obtain ⟨w', hrun, r1, r2⟩ := run_make_full (P := P) w base t e i z size h1 h2 h3 h4 kl kc n b2 b3 b4
  subst hL
  subst hC
  unfold Oper.wp
  simp [execOp, hop, hl, hc, hrun, Result.andThen]
  exact hK w' r1 r2

section
variable {H : World → (Nat → Prop) → Value → D.Dk → Prop}

set_option linter.unusedSimpArgs false in
set_option maxRecDepth 100000 in
set_option maxHeartbeats 4000000 in
theorem awake8_any (K' : DiskOk H) (KF : FrameOk) (w : World) : Calls Try.prog 9 #[] w fun e w' => e = .returned (.bool true) ∧ Below w.heap.size w w' := by
  have HN := Lib.hid (K'.new 12 w (by decide) (by decide))
  obtain ⟨i5, hi5, hz0, hz1, hz2⟩ := info_parts sc_info8
  have HB5 := Lib.hid (show i5.bytes * 60 ≤ 281474976710656 by rw [hz2]; decide)
  clear hz2
  go_enter Try.func9, Try.ntmps9
  go_wp2_with fail
  refine HN.out.mono ?_
  rintro e w1 ⟨vd, rfl, hH1, hb1⟩
  obtain ⟨da, rfl⟩ := K'.ptr hH1
  have hH1 : H w1 (S.New w w1) (.pointer (some da)) newD8 := hH1
  have HH1 := Lib.hid hH1
  have HA := Lib.hid (area_any w1)
  clear HN hH1
  go_wp2_with fail
  refine HA.out.mono ?_
  rintro e wp ⟨rfl, hbp⟩
  have hbwp := below_two hb1 hbp
  have hbo : Below wp.heap.size wp (wp.alloc (.cells #[.int .u8 111, .int .u8 110, .int .u8 101] 5 (3, 4))) := (Below.refl _ _).alloc (Nat.le_refl _) _
  have kc := Lib.run_convert_bytes_const (P := Try.prog) wp 37 5 #[.int .u8 111, .int .u8 110, .int .u8 101] 3 3 Try.underlying37 Try.underlying5
  have HC := Lib.hid (sv8 K' KF (vb := .slice (some ⟨wp.heap.size, 0, none⟩) 3 3) (rec := one) (gen := 1) (K'.below (K'.below HH1.out hbp) hbo) new8_len (by decide) (sl_const wp one (3, 4)) (fun b g => by subst g; simp) (by decide) (by decide) (by decide) 0 sb1 (by decide) (by rw [if_pos (by decide)]; rfl))
  have hbwo := below_two hbwp hbo
  have hF1 : ∀ b, S.New w w1 b → w.heap.size ≤ b := fun b g => g.1
  clear HA HH1 hbp hbo
  go_wp2_with fail
  refine HC.out.mono ?_
  rintro e w3 ⟨rfl, ⟨F3, hH3, hF3'⟩, ht3⟩
  have hbw3 := hbwo.trans (ht3.below hbwo.size hF1)
  have hF3 : ∀ b, F3 b → w.heap.size ≤ b := fun b g => (hF3' b g).elim (hF1 b) (fun g => Nat.le_trans hbwo.size g.1)
  have HS := Lib.hid (K'.sync hH3)
  clear HC hH3 ht3 hF3' hbwo kc
  go_wp2_with fail
  refine HS.out.mono ?_
  rintro e w4 ⟨rfl, hH4, ht4⟩
  have hbw4 := hbw3.trans (ht4.below hbw3.size hF3)
  have hF4 : ∀ b, More F3 w3 w4 b → w.heap.size ≤ b := fun b g => g.elim (hF3 b) (fun g => Nat.le_trans hbw3.size g.1)
  generalize More F3 w3 w4 = F4 at *
  have HH4 := Lib.hid hH4
  clear HS hH4 ht4
  go_wp2_with fail
  have hbd : Below w4.heap.size w4 w4.drew := (Below.refl _ _).drew
  refine wp_region_held_drew (S := fun _ => True) (by kernel_rfl) trivial (fun hHeld => ?_)
  generalize w4.drew = wd at *
  refine takeH (i := 0) (v := ?_) (some 20) rfl (by rfl) (by kernel_rfl) (by kernel_rfl) (by kernel_rfl) (fun _ _ _ h => h) (Or.inl ⟨by rfl, fun w hSw => ?_⟩) (by assumption) ?_
  rotate_left
  · go_simp
    try with_reducible rfl
  try simp only [Act.put, List.setIfInBounds_toArray, List.set_cons_zero, List.set_cons_succ]
  refine wpAnyH_ready (rs := [1, 2]) (by kernel_rfl) (by simp) ?_
  refine (AllReadyH.cons rfl (fun K hK => ?_) (AllReadyH.cons rfl (fun K hK => ?_) AllReadyH.nil))
  · go_simp
    refine (area_any wd).mono ?_
    rintro r wa ⟨rfl, hba⟩
    go_wp2_with fail
    refine hK.out _ _ (trivial) (fun hHeld => ?_)
    clear hK K
    try simp only [Act.put, List.setIfInBounds_toArray, List.set_cons_zero, List.set_cons_succ]
    refine wpAnyH_ready (rs := [2]) (by kernel_rfl) (by simp) ?_
    refine (AllReadyH.cons rfl (fun K hK => ?_) AllReadyH.nil)
    · refine step_make (by rfl) _ _ 37 rfl wa.heap.size 5 i5 (.int .u8 0) 1 Try.underlying37 hi5 hz0 hz1 .i64 .i64 60 60 60 (by rfl) (by rfl) rfl rfl HB5.out (by decide) (Nat.le_refl _) ?_
      intro wm hown hgrow
      have hbm := sc_made hgrow
      have hsm := made60 hown
      clear hown hgrow
      refine hK.out _ _ (trivial) (fun hHeld => ?_)
      clear hK K
      try simp only [Act.put, List.setIfInBounds_toArray, List.set_cons_zero, List.set_cons_succ]
      have hb6 : Below w4.heap.size w4 wm := (hbd.trans (hba.mono hbd.size)).trans (hbm.mono (by have := hbd.size; have := hba.size; omega))
      have hs6 := hsm
      have hG6 : ∀ b, (wa.heap.size ≤ b ∧ b < wm.heap.size) → b < wm.heap.size := fun b g => g.2
      have HC := Lib.hid (sv8 K' KF (gen := 2) (K'.below HH4.out hb6) sb1s_len (by decide) hs6 hG6 (by rw [z60_len]; decide) (by decide) (by decide) 0 sb2 (by rw [z60_many]; rfl) (by rw [z60_many]; rfl))
      have hbw6 := below_two hbw4 hb6
      clear hs6
      refine wpAnyH_ready (rs := [3]) (by kernel_rfl) (by simp) ?_
      refine (AllReadyH.cons rfl (fun K hK => ?_) AllReadyH.nil)
      · go_simp
        refine HC.out.mono ?_
        rintro r w7 ⟨rfl, ⟨F7, hH7, hF7'⟩, ht7⟩
        go_wp2_with fail
        refine hK.out _ _ (trivial) (fun hHeld => ?_)
        clear hK K
        try simp only [Act.put, List.setIfInBounds_toArray, List.set_cons_zero, List.set_cons_succ]
        refine takeH (i := 4) (v := ?_) (some 3) rfl (by rfl) (by kernel_rfl) (by kernel_rfl) (by kernel_rfl) (fun _ _ _ h => h) (Or.inl ⟨by rfl, fun w hSw => ?_⟩) (by assumption) ?_
        rotate_left
        · go_simp
          try with_reducible rfl
        try simp only [Act.put, List.setIfInBounds_toArray, List.set_cons_zero, List.set_cons_succ]
        refine wpAnyH_done (by kernel_rfl) ?_ _
        have hbw7 := hbw6.trans (ht7.below hbw6.size hF4)
        have hF7 : ∀ b, F7 b → w.heap.size ≤ b := fun b g => (hF7' b g).elim (hF4 b) (fun g => Nat.le_trans hbw6.size g.1)
        have HH7 := Lib.hid hH7
        have HA := Lib.hid (area_any w7)
        clear HC hH7 ht7 hF7' hbw6 hHeld
        go_wp2_with fail
        refine HA.out.mono ?_
        rintro e w8 ⟨rfl, hb8⟩
        have HL := Lib.hid (ld8 K' KF (K'.below HH7.out hb8) sb2_len _ sb2_load)
        have hbw8 := below_two hbw7 hb8
        clear HA
        go_wp2_with fail
        refine HL.out.mono ?_
        rintro e w9 ⟨vb, rfl, hB9, hb9⟩
        obtain ⟨A9, cap9, rfl, hc9⟩ := Sg_form hB9
        have hH9 := K'.below (K'.below HH7.out hb8) hb9
        have hbw9 := below_two hbw8 hb9
        have HLZ : Hid ((oB (some (2, z60))).length = 60) := Lib.hid z60_len
        rw [HLZ.out] at hc9 ⊢
        have hbk : Below w9.heap.size w9 (w9.alloc (.cells #[.bool true, .bool false] 4)) := (Below.refl _ _).alloc (Nat.le_refl _) _
        have hlt9 := K'.lt hH9
        have HCr := Lib.hid (K'.crash (fun b => b = w9.heap.size) (.slice (some ⟨w9.heap.size, 0, none⟩) 2 2) [true, false] (K'.below hH9 hbk) (sl_bools w9 [true, false]) (fun b g => by subst g; simp) (fun b g f => by subst g; have := hlt9 _ f; omega))
        have hbwk := below_two hbw9 hbk
        clear HL HH7 hB9 hb9 hb8 hbk hH9 hlt9
        go_wp2_with fail
        refine HCr.out.mono ?_
        rintro e wa ⟨rfl, hHa, hta⟩
        have hbwa := hbwk.trans (hta.below hbwk.size hF7)
        have HHa := Lib.hid hHa
        have HA := Lib.hid (area_any wa)
        clear HCr hHa hta hbwk
        go_wp2_with fail
        refine HA.out.mono ?_
        rintro e wb ⟨rfl, hbb⟩
        have HL := Lib.hid (ld8 K' KF (K'.below HHa.out hbb) ((D.crash_len _ _).trans sb2_len) _ sb2_crash)
        have hbwb := below_two hbwa hbb
        clear HA
        go_wp2_with fail
        refine HL.out.mono ?_
        rintro e wc ⟨vc, rfl, hBc, hbc⟩
        have hBc : SlB wc (S.New wb wc) vc one := hBc
        have hcv := conv_sg hBc
        obtain ⟨Ac, capc, rfl, hcc⟩ := Sg_form hBc
        have hbwc := below_two hbwb hbc
        clear HL HHa hBc hbb hbc
        rw [show one.length = 3 from rfl] at hcv hcc ⊢
        rw [show (⟨one.toArray⟩ : ByteArray) = ⟨#[111, 110, 101]⟩ from rfl] at hcv
        rw [show (some (1, one)).isSome = true from rfl]
        rw [show ((oG (some (2, z60)) : Nat) : Int) = 2 from rfl, show ((oG (some (1, one)) : Nat) : Int) = 1 from rfl]
        go_wp2
        go_ret
        exact ⟨rfl, hbwc⟩

  · refine step_make (by rfl) _ _ 37 rfl wd.heap.size 5 i5 (.int .u8 0) 1 Try.underlying37 hi5 hz0 hz1 .i64 .i64 60 60 60 (by rfl) (by rfl) rfl rfl HB5.out (by decide) (Nat.le_refl _) ?_
    intro wm hown hgrow
    have hbm := sc_made hgrow
    have hsm := made60 hown
    clear hown hgrow
    refine hK.out _ _ (trivial) (fun hHeld => ?_)
    clear hK K
    try simp only [Act.put, List.setIfInBounds_toArray, List.set_cons_zero, List.set_cons_succ]
    refine wpAnyH_ready (rs := [1]) (by kernel_rfl) (by simp) ?_
    refine (AllReadyH.cons rfl (fun K hK => ?_) AllReadyH.nil)
    · go_simp
      refine (area_any wm).mono ?_
      rintro r wa ⟨rfl, hba⟩
      go_wp2_with fail
      refine hK.out _ _ (trivial) (fun hHeld => ?_)
      clear hK K
      try simp only [Act.put, List.setIfInBounds_toArray, List.set_cons_zero, List.set_cons_succ]
      have hb6 : Below w4.heap.size w4 wa := (hbd.trans (hbm.mono hbd.size)).trans (hba.mono (by have := hbd.size; have := hbm.size; omega))
      have hs6 := hsm.below hba (fun b g => g.2)
      have hG6 : ∀ b, (wd.heap.size ≤ b ∧ b < wm.heap.size) → b < wa.heap.size := fun b g => by have := g.2; have := hba.size; omega
      have HC := Lib.hid (sv8 K' KF (gen := 2) (K'.below HH4.out hb6) sb1s_len (by decide) hs6 hG6 (by rw [z60_len]; decide) (by decide) (by decide) 0 sb2 (by rw [z60_many]; rfl) (by rw [z60_many]; rfl))
      have hbw6 := below_two hbw4 hb6
      clear hs6
      refine wpAnyH_ready (rs := [3]) (by kernel_rfl) (by simp) ?_
      refine (AllReadyH.cons rfl (fun K hK => ?_) AllReadyH.nil)
      · go_simp
        refine HC.out.mono ?_
        rintro r w7 ⟨rfl, ⟨F7, hH7, hF7'⟩, ht7⟩
        go_wp2_with fail
        refine hK.out _ _ (trivial) (fun hHeld => ?_)
        clear hK K
        try simp only [Act.put, List.setIfInBounds_toArray, List.set_cons_zero, List.set_cons_succ]
        refine takeH (i := 4) (v := ?_) (some 3) rfl (by rfl) (by kernel_rfl) (by kernel_rfl) (by kernel_rfl) (fun _ _ _ h => h) (Or.inl ⟨by rfl, fun w hSw => ?_⟩) (by assumption) ?_
        rotate_left
        · go_simp
          try with_reducible rfl
        try simp only [Act.put, List.setIfInBounds_toArray, List.set_cons_zero, List.set_cons_succ]
        refine wpAnyH_done (by kernel_rfl) ?_ _
        have hbw7 := hbw6.trans (ht7.below hbw6.size hF4)
        have hF7 : ∀ b, F7 b → w.heap.size ≤ b := fun b g => (hF7' b g).elim (hF4 b) (fun g => Nat.le_trans hbw6.size g.1)
        have HH7 := Lib.hid hH7
        have HA := Lib.hid (area_any w7)
        clear HC hH7 ht7 hF7' hbw6 hHeld
        go_wp2_with fail
        refine HA.out.mono ?_
        rintro e w8 ⟨rfl, hb8⟩
        have HL := Lib.hid (ld8 K' KF (K'.below HH7.out hb8) sb2_len _ sb2_load)
        have hbw8 := below_two hbw7 hb8
        clear HA
        go_wp2_with fail
        refine HL.out.mono ?_
        rintro e w9 ⟨vb, rfl, hB9, hb9⟩
        obtain ⟨A9, cap9, rfl, hc9⟩ := Sg_form hB9
        have hH9 := K'.below (K'.below HH7.out hb8) hb9
        have hbw9 := below_two hbw8 hb9
        have HLZ : Hid ((oB (some (2, z60))).length = 60) := Lib.hid z60_len
        rw [HLZ.out] at hc9 ⊢
        have hbk : Below w9.heap.size w9 (w9.alloc (.cells #[.bool true, .bool false] 4)) := (Below.refl _ _).alloc (Nat.le_refl _) _
        have hlt9 := K'.lt hH9
        have HCr := Lib.hid (K'.crash (fun b => b = w9.heap.size) (.slice (some ⟨w9.heap.size, 0, none⟩) 2 2) [true, false] (K'.below hH9 hbk) (sl_bools w9 [true, false]) (fun b g => by subst g; simp) (fun b g f => by subst g; have := hlt9 _ f; omega))
        have hbwk := below_two hbw9 hbk
        clear HL HH7 hB9 hb9 hb8 hbk hH9 hlt9
        go_wp2_with fail
        refine HCr.out.mono ?_
        rintro e wa ⟨rfl, hHa, hta⟩
        have hbwa := hbwk.trans (hta.below hbwk.size hF7)
        have HHa := Lib.hid hHa
        have HA := Lib.hid (area_any wa)
        clear HCr hHa hta hbwk
        go_wp2_with fail
        refine HA.out.mono ?_
        rintro e wb ⟨rfl, hbb⟩
        have HL := Lib.hid (ld8 K' KF (K'.below HHa.out hbb) ((D.crash_len _ _).trans sb2_len) _ sb2_crash)
        have hbwb := below_two hbwa hbb
        clear HA
        go_wp2_with fail
        refine HL.out.mono ?_
        rintro e wc ⟨vc, rfl, hBc, hbc⟩
        have hBc : SlB wc (S.New wb wc) vc one := hBc
        have hcv := conv_sg hBc
        obtain ⟨Ac, capc, rfl, hcc⟩ := Sg_form hBc
        have hbwc := below_two hbwb hbc
        clear HL HHa hBc hbb hbc
        rw [show one.length = 3 from rfl] at hcv hcc ⊢
        rw [show (⟨one.toArray⟩ : ByteArray) = ⟨#[111, 110, 101]⟩ from rfl] at hcv
        rw [show (some (1, one)).isSome = true from rfl]
        rw [show ((oG (some (2, z60)) : Nat) : Int) = 2 from rfl, show ((oG (some (1, one)) : Nat) : Int) = 1 from rfl]
        go_wp2
        go_ret
        exact ⟨rfl, hbwc⟩


end

end Go.Proofs.Ytbjbnjpdackloaa
