/-
  Walks of layer scan's laws: run: a ring behind deeds, and what it keeps.
-/
import Derived.Test.YtnjhbmjhldfdpaaScRunM
namespace Go.Proofs.Ytnjhbmjhldfdpaa
open Go.RowKit

section
variable {H : World → (Nat → Prop) → Value → D.Dk → Prop}

set_option maxRecDepth 100000 in
set_option maxHeartbeats 8000000 in
theorem run7_any (K : DiskOk H) (KF : FrameOk) (v : Value) (l : List Dd) (w : World) (Gd : Nat → Prop) (hd : Dds w Gd v l) (hG : ∀ b, Gd b → b < w.heap.size) (hf : few6 l = true) :
    Calls Try.prog 17 #[v] w (Ran H w) := by
  obtain ⟨hl30, hl400⟩ := few6_of hf
  have HD := Lib.hid hd
  obtain ⟨Ad, capd, rfl, hcd⟩ : ∃ A cap, v = .slice A l.length cap ∧ l.length ≤ cap := by
    obtain ⟨A, cap, e, hc, _⟩ := hd
    exact ⟨A, cap, e, hc⟩
  clear hd hf
  have Y0 := Bk.new w [.pointer none, .pointer none, .slice none 0 0, .slice none 0 0, .int .i64 0] 55 rfl
  have hb0 : Below w.heap.size w (w.alloc (.cells #[.pointer none, .pointer none, .slice none 0 0, .slice none 0 0, .int .i64 0] 55)) := (Below.refl _ _).alloc (Nat.le_refl _) _
  have hz0 : (w.alloc (.cells #[.pointer none, .pointer none, .slice none 0 0, .slice none 0 0, .int .i64 0] 55)).heap.size = w.heap.size + 1 := by simp
  have hz0a := Nat.le_of_eq hz0
  have hz0b := Nat.le_of_eq hz0.symm
  have HN := Lib.hid (K.new 12 (w.alloc (.cells #[.pointer none, .pointer none, .slice none 0 0, .slice none 0 0, .int .i64 0] 55)) (by decide) (by decide))
  clear hz0
  go_enter Try.func17, Try.ntmps17
  go_wp2_with fail
  refine HN.out.mono ?_
  rintro e w1 ⟨vd, rfl, hH1, hb1⟩
  obtain ⟨da, rfl⟩ := K.ptr hH1
  generalize w.alloc (.cells #[.pointer none, .pointer none, .slice none 0 0, .slice none 0 0, .int .i64 0] 55) = w0 at *
  have hs1 := hb1.size
  have B2 := Bk.new w1 [.pointer (some da), .pointer none, .slice none 0 0, .slice none 0 0, .int .i64 0] 55 rfl
  have hb2 : Below w1.heap.size w1 (w1.alloc (.cells #[.pointer (some da), .pointer none, .slice none 0 0, .slice none 0 0, .int .i64 0] 55)) := (Below.refl _ _).alloc (Nat.le_refl _) _
  have hz2 : (w1.alloc (.cells #[.pointer (some da), .pointer none, .slice none 0 0, .slice none 0 0, .int .i64 0] 55)).heap.size = w1.heap.size + 1 := by simp
  have hz2a := Nat.le_of_eq hz2
  have hz2b := Nat.le_of_eq hz2.symm
  have hH2 := K.below hH1 hb2
  have hlt1 := K.lt hH1
  clear HN hz2 hH1
  go_wp2_with fail
  generalize w1.alloc (.cells #[.pointer (some da), .pointer none, .slice none 0 0, .slice none 0 0, .int .i64 0] 55) = w2 at *
  have HH2 := Lib.hid hH2
  have HB1 := Lib.hid hb1
  have HB2 := Lib.hid hb2
  clear hH2 hb1 hb2
  generalize hX : w1.heap.size = X at *
  have hbd : Below w2.heap.size w2 w2.drew := (Below.refl _ _).drew
  have HPl := Lib.hid (place7_any w2.drew)
  have HNw : Hid (∀ wd, Below w2.heap.size w2 wd → Calls Try.prog 30 #[.pointer (some da), .agg #[.int .i64 2, .int .i64 8, .int .u32 3], .int .u32 0, .int .u32 0] wd fun e w' => ∃ pa, e = .returned (.pointer (some pa)) ∧ Rp H w' (More (S.New w0 w1) wd w') (.pointer (some pa)) (.pointer (some da)) rb0 ∧ Below wd.heap.size wd w') := Lib.hid (fun wd hb => (ring_new K (K.below HH2.out hb) 2 8 3 0 0 (by decide) (by decide) (by decide) (by decide) (by decide) (by decide) (by decide)).mono (fun e w' ⟨hb', h2⟩ => by
    rcases h2 with ⟨h, _⟩ | ⟨_, v, e1, hP⟩
    · exact absurd h (by decide)
    · obtain ⟨pa, rfl⟩ := hP.ptr
      exact ⟨pa, e1, hP, hb'⟩))
  have HKs : Hid (∀ (w' : World) (u : Value), w'.cell? ⟨X, 0, none⟩ = some (.pointer (some da)) → (w'.setCell ⟨X, 1, none⟩ u).cell? ⟨X, 0, none⟩ = some (.pointer (some da))) := Lib.hid (fun w' u h => (World.cell?_setCell_other w' _ _ u (fun g => by cases g)).trans h)
  have HS0 : Hid (w2.drew.cell? ⟨X, 0, none⟩ = some (.pointer (some da))) := Lib.hid (B2.cell 0 _ rfl)
  go_region_held3 (fun w' => w'.cell? ⟨X, 0, none⟩ = some (.pointer (some da)))
    (first | with_reducible exact HS0.out | with_reducible assumption | with_reducible exact HKs.out _ _ (by assumption))
    (first
      | (go_at_call 18
         with_reducible refine HPl.out.mono ?_
         rintro e5 w5 ⟨rfl, hb5⟩
         have hA5 := (B2.step (hbd.trans (hb5.mono (Nat.le_refl _)))).cell 0 _ rfl)
      | (go_at_call 30
         with_reducible refine (HNw.out _ (hbd.trans (hb5.mono (Nat.le_refl _)))).mono ?_
         rintro e6 w6 ⟨pa, rfl, hP6, hb6⟩
         have hA6 := ((B2.step (hbd.trans (hb5.mono (Nat.le_refl _)))).step hb6).cell 0 _ rfl
         have hx1 := ((B2.step (hbd.trans (hb5.mono (Nat.le_refl _)))).step hb6).cell 1 _ rfl
         have hf1 := ((B2.step (hbd.trans (hb5.mono (Nat.le_refl _)))).step hb6).fz 1 (by simp)))
  have hb5' : Below w2.heap.size w2 w5 := hbd.trans (hb5.mono (Nat.le_refl _))
  have hb26 := below_two hb5' hb6
  have hs5 := hb5'.size
  have hs6 := hb6.size
  have B6 := (B2.step hb26).set 1 (by simp) (.pointer (some pa))
  have hb06 : Below w0.heap.size w0 w6 := below_two (below_two HB1.out (by rw [hX]; exact HB2.out)) hb26
  have nX : ¬ More (S.New w0 w1) w5 w6 X := fun g => g.elim (fun g => by have := g.2; omega) (fun g => by have := g.1; omega)
  have HL0 : Hid (Lr H w0 (w6.setCell ⟨X, 1, none⟩ (.pointer (some pa))) X (.pointer (some da)) (.pointer (some pa)) (.slice none 0 0) (.slice none 0 0) rb0 [] [] 0 0 (More (S.New w0 w1) w5 w6) (fun _ => False)) := Lib.hid
    ⟨⟨hP6.turn K ((Turn.refl (fun b => b = X) w6).put (q := X) rfl 1 _) (fun b g e => nX (e ▸ g)), fun b g => g.elim (fun g => g.1) (fun g => by have := g.1; omega), S.Sg.nil _ _ _ _ _, S.Sg.nil _ _ _ _ _, fun b g => g.elim, hb06.setCell (p := ⟨X, 1, none⟩) (by show _ ≤ X; omega) _⟩, Pm.new, B6, nX, id, by omega⟩
  clear hA5 hA6 hx1 hf1 HKs HS0 HPl HNw B2 B6 hP6 hb6 hb5 hb26 hb06 hb5' nX HH2
  go_wp2_with fail
  generalize w6.setCell ⟨X, 1, none⟩ (.pointer (some pa)) = w7 at *
  have hX0 : w0.heap.size ≤ X := by omega
  clear hs6 hs5 hz2a hz2b hlt1 HB1 HB2 hs1
  go_loopw [4] (fun i wr => ∃ k vs ve r L kept syn F Fs, k ≤ l.length ∧ i = .int .i64 ((k : Nat) : Int) ∧ Lr H w0 wr X (.pointer (some da)) (.pointer (some pa)) vs ve r L kept syn k F Fs) (fun i _ => l.length - (intOf i).toNat)
  case atStart => exact ⟨0, _, _, _, _, _, _, _, _, Nat.zero_le _, rfl, HL0.out⟩
  case round =>
    obtain ⟨k, vs, ve, r, L, kept, syn, F, Fs, hk, rfl, hL⟩ := hrel
    have HL := Lib.hid hL
    obtain ⟨A1, c1, rfl, hc1⟩ := Sg_form hL.md.ss
    obtain ⟨A2, c2, rfl, hc2⟩ := Sg_form hL.md.es
    have hb7 := hL.md.low
    have hbw : Below w.heap.size w wr := hb0.trans (hb7.mono (by omega))
    have hB := hL.box
    have hkl := hL.pm.len
    have hsl := hL.pm.kp.le
    have hsr := hb7.size
    have x1 : wr.cell? ⟨X, 1, none⟩ = some (.pointer (some pa)) := hB.cell 1 _ rfl
    clear HL0
    by_cases hlt : k < l.length
    · have hlt' : (k : Int) < (l.length : Int) := by omega
      obtain ⟨a, cap', vb, ea, _, hga, hok, dk, d1, d2, hvb⟩ := (HD.out.below hbw hG).nth k hlt
      cases ea
      obtain ⟨Ab, capb, rfl, hcb⟩ := Sg_form hvb
      have HVB := Lib.hid hvb
      have hb400 := hl400 l[k] (List.getElem_mem hlt)
      have hn8 := hok.n
      have hlt3 : k * 3 < 9223372036854775807 := by omega
      have hab : (a.add (k * 3)).block = a.block := S.add_block a (k * 3)
      have hgl := hG _ hga
      have nga : ¬ F a.block := fun g => by have := hL.md.hF _ g; omega
      have hrow : r.d.row.length ≤ 900 := by have := hL.pm.row; omega
      have nFX := hL.nX.1
      have hk0 := hok.k0
      have hk9 := hok.k1
      clear hvb hok hL
      by_cases hk1 : l[k].kind = 1
      · have d0 : wr.cell? (a.add (k * 3)) = some (.int .i64 1) := by rw [dk, hk1]
        clear hk1 dk
        have HAp : Hid (∀ wd, Below wr.heap.size wr wd → Calls Try.prog 24 #[.pointer (some pa), .slice Ab l[k].rc.length capb] wd fun e w' => e = .returned (.tuple #[.int .u32 (r.told l[k].rc : Nat), .int .i64 (r.err l[k].rc)]) ∧ Rp H w' (More F wd w') (.pointer (some pa)) (.pointer (some da)) (r.append l[k].rc) ∧ Turn F wd w') := Lib.hid fun wd hb => ring_append K KF (HL.out.md.rp.below K hb) (HVB.out.below hb (fun b g => by have := hG b g; omega)) (fun b g => by have := hG b g; have := hb.size; omega) (by omega) hrow
        obtain ⟨told, htold⟩ : ∃ t : Nat, t = r.told l[k].rc := ⟨_, rfl⟩
        obtain ⟨err, herr⟩ : ∃ e : Int, e = r.err l[k].rc := ⟨_, rfl⟩
        rw [← htold, ← herr] at HAp
        have HTE := Lib.hid (And.intro htold herr)
        clear htold herr
        have HKp : Hid (∀ wd w', Below wr.heap.size wr wd → Turn F wd w' → w'.cell? ⟨X, 1, none⟩ = some (.pointer (some pa)) ∧ w'.cell? ⟨(a.add (k * 3)).block, (a.add (k * 3)).off + 1, none⟩ = some (.slice Ab l[k].rc.length capb)) := Lib.hid fun wd w' hb ht =>
          ⟨((hB.step hb).turn ht nFX).cell 1 _ rfl, (ht.cell (p := ⟨(a.add (k * 3)).block, (a.add (k * 3)).off + 1, none⟩) (by show (a.add (k * 3)).block < _; have := hb.size; omega) (by show ¬ F (a.add (k * 3)).block; rw [hab]; exact nga)).trans ((hb.cell (p := ⟨(a.add (k * 3)).block, (a.add (k * 3)).off + 1, none⟩) (by show (a.add (k * 3)).block < _; omega)).trans d1)⟩
        have hbd : Below wr.heap.size wr wr.drew := (Below.refl _ _).drew
        have HS0 := Lib.hid (HKp.out wr.drew wr.drew hbd (Turn.refl _ _))
        have HAB := Lib.hid hab
        clear hab
        go_wp2_with fail
        go_region_held3 (fun w' => w'.cell? ⟨X, 1, none⟩ = some (.pointer (some pa)) ∧ w'.cell? ⟨(a.add (k * 3)).block, (a.add (k * 3)).off + 1, none⟩ = some (.slice Ab l[k].rc.length capb))
          (first | with_reducible exact HS0.out | with_reducible assumption)
          (first
            | (go_at_call 24
               with_reducible refine (HAp.out _ hbd).mono ?_
               rintro e3 w3 ⟨rfl, hR3, ht3⟩
               have hA3 := HKp.out _ w3 hbd ht3))
        have hs3 := ht3.size
        have hsd := hbd.size
        have HM3 := Lib.hid ((HL.out.md.below K hbd).turned hR3 ht3)
        have B3 := (hB.step hbd).turn ht3 nFX
        have nX3 : ¬ More F wr.drew w3 X := fun g => g.elim nFX (fun g => by have := g.1; have := hB.lt; omega)
        have d1 := hA3.2
        clear HAp HKp HS0 hbd hA3 hR3 x1
        by_cases hz : err = 0
        · subst hz
          have HZ : Hid (r.err l[k].rc = 0) := Lib.hid HTE.out.2.symm
          have HTo : Hid (told = r.next + R.many l[k].rc.length) := Lib.hid (by rw [HTE.out.1, told_ok HZ.out])
          have hvb3 : SlB w3 Gd (.slice Ab l[k].rc.length capb) l[k].rc := HVB.out.keep (fun q hq => ht3.cell (w := wr.drew) (by have := hG _ hq; omega) (fun g => by have := HL.out.md.hF _ g; have := hG _ hq; omega))
          have HB3 := Lib.hid B3
          have hd1 := d1
          have HSS0 : Hid (∀ w', Below w0.heap.size w3 w' → (w'.cell? ⟨(a.add (k * 3)).block, (a.add (k * 3)).off + 1, none⟩ = some (.slice Ab l[k].rc.length capb) ∧ (convert 36 9 (.slice Ab l[k].rc.length capb)).run Try.prog w' = .ok (.string ⟨l[k].rc.toArray⟩) w')) := Lib.hid (fun w' hb =>
            ⟨(hb.cell (p := ⟨(a.add (k * 3)).block, (a.add (k * 3)).off + 1, none⟩) (by show (a.add (k * 3)).block < _; rw [HAB.out]; omega)).trans hd1, conv_sg (hvb3.below hb (fun b g => by have := hG b g; omega))⟩)
          have HZ3 := Lib.hid (show w0.heap.size ≤ w3.heap.size by omega)
          have HSS : Hid (∀ w', Below w3.heap.size w3 w' → (w'.cell? ⟨(a.add (k * 3)).block, (a.add (k * 3)).off + 1, none⟩ = some (.slice Ab l[k].rc.length capb) ∧ (convert 36 9 (.slice Ab l[k].rc.length capb)).run Try.prog w' = .ok (.string ⟨l[k].rc.toArray⟩) w')) := Lib.hid (fun w' hb => HSS0.out w' (hb.mono HZ3.out))
          have HX2 : Hid (∀ w', Below w3.heap.size w3 w' → w'.cell? ⟨X, 2, none⟩ = some (.slice A1 kept.length c1)) := Lib.hid (fun w' hb => (HB3.out.step hb).cell 2 _ rfl)
          have HSl : Hid (∀ w', Below w3.heap.size w3 w' → SlR w' Fs (.slice A1 kept.length c1) kept) := Lib.hid (fun w' hb => HM3.out.ss.below hb (fun b g => (HM3.out.hFs b g).2.1))
          have HBs : Hid (Below w3.heap.size w3 w3.drew) := Lib.hid (Below.refl _ _).drew
          clear hvb3 B3 d1
          go_wp2_with fail
          refine wp_region_held_drew (S := fun w' => (w'.cell? ⟨(a.add (k * 3)).block, (a.add (k * 3)).off + 1, none⟩ = some (.slice Ab l[k].rc.length capb) ∧ (convert 36 9 (.slice Ab l[k].rc.length capb)).run Try.prog w' = .ok (.string ⟨l[k].rc.toArray⟩) w')) (by kernel_rfl) (HSS.out _ HBs.out) (fun hHeld => ?_)
          generalize w3.drew = wd at *
          refine takeH (i := 1) (v := ?_) (some 53) rfl (by rfl) (by kernel_rfl) (by kernel_rfl) (by kernel_rfl) (fun _ _ _ h => h) (Or.inl ⟨by rfl, fun w hSw => ?_⟩) (by assumption) ?_
          rotate_left
          · go_simp
            try with_reducible rfl
          try simp only [Act.put, List.setIfInBounds_toArray, List.set_cons_zero, List.set_cons_succ]
          refine takeH (i := 4) (v := ?_) (some 56) rfl (by rfl) (by kernel_rfl) (by kernel_rfl) (by kernel_rfl) (fun _ _ _ h => h) (Or.inl ⟨by rfl, fun w hSw => ?_⟩) (by assumption) ?_
          rotate_left
          · go_simp
            try with_reducible rfl
          try simp only [Act.put, List.setIfInBounds_toArray, List.set_cons_zero, List.set_cons_succ]
          refine takeH (i := 5) (v := ?_) (some 57) rfl (by rfl) (by kernel_rfl) (by kernel_rfl) (by kernel_rfl) (fun _ _ _ h => h) (Or.inl ⟨by rfl, fun w hSw => ?_⟩) (by assumption) ?_
          rotate_left
          · go_simp
            try with_reducible rfl
          try simp only [Act.put, List.setIfInBounds_toArray, List.set_cons_zero, List.set_cons_succ]
          refine takeH (i := 6) (v := ?_) (some 58) rfl (by rfl) (by kernel_rfl) (by kernel_rfl) (by kernel_rfl) (fun _ _ _ h => h) (Or.inl ⟨by rfl, fun w hSw => ?_⟩) (by assumption) ?_
          rotate_left
          · go_simp
            try with_reducible rfl
          try simp only [Act.put, List.setIfInBounds_toArray, List.set_cons_zero, List.set_cons_succ]
          refine takeH (i := 7) (v := ?_) (some 59) rfl (by rfl) (by kernel_rfl) (by kernel_rfl) (by kernel_rfl) (fun _ _ _ h => h) (Or.inl ⟨by rfl, fun w hSw => ?_⟩) (by assumption) ?_
          rotate_left
          · go_simp
            try with_reducible rfl
          try simp only [Act.put, List.setIfInBounds_toArray, List.set_cons_zero, List.set_cons_succ]
          refine takeH (i := 8) (v := ?_) (some 60) rfl (by rfl) (by kernel_rfl) (by kernel_rfl) (by kernel_rfl) (fun _ _ _ h => h) (Or.inl ⟨by rfl, fun w hSw => ?_⟩) (by assumption) ?_
          rotate_left
          · go_simp
            try with_reducible rfl
          try simp only [Act.put, List.setIfInBounds_toArray, List.set_cons_zero, List.set_cons_succ]
          refine takeH (i := 9) (v := ?_) (some 61) rfl (by rfl) (by kernel_rfl) (by kernel_rfl) (by kernel_rfl) (fun _ _ _ h => h) (Or.inl ⟨by rfl, fun w hSw => ?_⟩) (by assumption) ?_
          rotate_left
          · go_simp
            try with_reducible rfl
          try simp only [Act.put, List.setIfInBounds_toArray, List.set_cons_zero, List.set_cons_succ]
          refine wpAnyH_ready (rs := [0, 2, 10]) (by kernel_rfl) (by simp) ?_
          refine (AllReadyH.cons rfl (fun K hK => ?_) (AllReadyH.cons rfl (fun K hK => ?_) (AllReadyH.cons rfl (fun K hK => ?_) AllReadyH.nil)))
          · go_simp
            refine hK.out _ _ (HSS.out _ (HBs.out.alloc HBs.out.size _)) (fun hHeld => ?_)
            clear hK K
            try simp only [Act.put, List.setIfInBounds_toArray, List.set_cons_zero, List.set_cons_succ]
            have hbn := HBs.out.alloc HBs.out.size (.cells #[] 9)
            have hon : (wd.alloc (.cells #[] 9)).ownsRow w3.heap.size 9 1 (.slice (some ⟨wd.heap.size, 0, none⟩) 0 0) 0 [] := S.own_none (w := wd) _ _ rfl HBs.out.size
            have hbx : Below wd.heap.size wd (wd.alloc (.cells #[] 9)) := (Below.refl _ _).alloc (Nat.le_refl _) _
            clear hHeld
            generalize wd.alloc (.cells #[] 9) = wB at *
            have HBB := Lib.hid hbn
            have HOB := Lib.hid hon
            clear hbn hon hbx
            refine wpAnyH_ready (rs := [2, 10]) (by kernel_rfl) (by simp) ?_
            refine (AllReadyH.cons rfl (fun K hK => ?_) (AllReadyH.cons rfl (fun K hK => ?_) AllReadyH.nil))
            · have hx2 := HX2.out wB HBB.out
              go_simp
              go_wp2_with fail
              refine hK.out _ _ (HSS.out _ HBB.out) (fun hHeld => ?_)
              clear hK K
              try simp only [Act.put, List.setIfInBounds_toArray, List.set_cons_zero, List.set_cons_succ]
              clear hx2 hHeld
              refine wpAnyH_ready (rs := [3, 10]) (by kernel_rfl) (by simp) ?_
              refine (AllReadyH.cons rfl (fun K hK => ?_) (AllReadyH.cons rfl (fun K hK => ?_) AllReadyH.nil))
              · have hsl := HSl.out wB HBB.out
                refine S.step_append_sg elS (by rfl) _ _ (by rfl) (base := w3.heap.size) (n := 0) (m := kept.length) (xs := []) (cs := recV kept) (by rfl) (by rfl) HOB.out hsl (recV_one _) (by omega) (by omega) HBB.out.size ?_
                intro v2 w2 hown2 hgrow2 _
                have hbn : Below w3.heap.size w3 w2 := HBB.out.trans (S.below_base HOB.out HBB.out.size hgrow2)
                have hown2 : w2.ownsRow w3.heap.size 9 1 v2 kept.length (recV kept) := by simpa using hown2
                obtain ⟨A6, c6, rfl, hc6⟩ : ∃ A cap, v2 = .slice A kept.length cap ∧ kept.length ≤ cap := by
                  obtain ⟨_, A, cap, e, hc, _⟩ := S.Sg.of_own hown2
                  exact ⟨A, cap, e, hc⟩
                have HB2 := Lib.hid hbn
                have HO2 := Lib.hid hown2
                clear hbn hown2 hgrow2 hsl
                go_simp
                refine hK.out _ _ (HSS.out _ HB2.out) (fun hHeld => ?_)
                clear hK K
                try simp only [Act.put, List.setIfInBounds_toArray, List.set_cons_zero, List.set_cons_succ]
                clear hHeld
                refine wpAnyH_ready (rs := [10]) (by kernel_rfl) (by simp) ?_
                refine (AllReadyH.cons rfl (fun K hK => ?_) AllReadyH.nil)
                · go_simp
                  refine hK.out _ _ (HSS.out _ (HB2.out.alloc HB2.out.size _)) (fun hHeld => ?_)
                  clear hK K
                  try simp only [Act.put, List.setIfInBounds_toArray, List.set_cons_zero, List.set_cons_succ]
                  have hbn := HB2.out.alloc HB2.out.size (.cells #[.string ⟨l[k].rc.toArray⟩] 9)
                  have htn : S.Sg (w2.alloc (.cells #[.string ⟨l[k].rc.toArray⟩] 9)) (fun b => b = w2.heap.size) 1 (.slice (some ⟨w2.heap.size, 0, none⟩) 1 1) 1 [.string ⟨l[k].rc.toArray⟩] := sg_row1' w2 9 #[.string ⟨l[k].rc.toArray⟩] rfl (g := w2.heap.size) rfl
                  have hbx : Below w2.heap.size w2 (w2.alloc (.cells #[.string ⟨l[k].rc.toArray⟩] 9)) := (Below.refl _ _).alloc (Nat.le_refl _) _
                  have hgt : w2.heap.size < (w2.alloc (.cells #[.string ⟨l[k].rc.toArray⟩] 9)).heap.size := by rw [World.size_alloc]; exact Nat.lt_succ_self _
                  clear hHeld
                  generalize w2.alloc (.cells #[.string ⟨l[k].rc.toArray⟩] 9) = wT at *
                  have HBT := Lib.hid hbn
                  have HT := Lib.hid htn
                  have HGT := Lib.hid hgt
                  have HO2 := Lib.hid (S.own_below HO2.out hbx)
                  clear hbn htn hbx hgt
                  refine wpAnyH_ready (rs := [11]) (by kernel_rfl) (by simp) ?_
                  refine (AllReadyH.cons rfl (fun K hK => ?_) AllReadyH.nil)
                  · refine S.step_append_sg elS (by rfl) _ _ (by rfl) (base := w3.heap.size) (n := kept.length) (m := 1) (xs := recV kept) (cs := [.string ⟨l[k].rc.toArray⟩]) (by rfl) (by rfl) HO2.out HT.out (by simp [Value.oneCell']) (by omega) (by omega) HBT.out.size ?_
                    intro v4 w4 hown4 hgrow4 _
                    have hbn : Below w3.heap.size w3 w4 := HBT.out.trans (S.below_base HO2.out HBT.out.size hgrow4)
                    obtain ⟨A9, c9, rfl, hc9⟩ : ∃ A cap, v4 = .slice A (kept.length + 1) cap ∧ kept.length + 1 ≤ cap := by
                      obtain ⟨_, A, cap, e, hc, _⟩ := S.Sg.of_own hown4
                      exact ⟨A, cap, e, hc⟩
                    have HB4 := Lib.hid hbn
                    have HO4 := Lib.hid hown4
                    clear hbn hown4 hgrow4
                    go_simp
                    refine hK.out _ _ (HSS.out _ HB4.out) (fun hHeld => ?_)
                    clear hK K
                    try simp only [Act.put, List.setIfInBounds_toArray, List.set_cons_zero, List.set_cons_succ]
                    refine takeH (i := 12) (v := ?_) (some 64) rfl (by rfl) (by kernel_rfl) (by kernel_rfl) (by kernel_rfl) (fun _ _ _ h => h) (Or.inl ⟨by rfl, fun w hSw => ?_⟩) (by assumption) ?_
                    rotate_left
                    · go_simp
                      try with_reducible rfl
                    try simp only [Act.put, List.setIfInBounds_toArray, List.set_cons_zero, List.set_cons_succ]
                    clear hHeld
                    refine wpAnyH_ready (rs := [13]) (by kernel_rfl) (by simp) ?_
                    refine (AllReadyH.cons rfl (fun K hK => ?_) AllReadyH.nil)
                    · have B4 := HB3.out.step HB4.out
                      have x24 := B4.cell 2 _ rfl
                      have f24 := B4.fz 2 (by simp)
                      go_simp
                      refine hK.out _ _ (HSS0.out _ ((HB4.out.mono HZ3.out).setCell (p := ⟨X, 2, none⟩) hX0 _)) (fun hHeld => ?_)
                      clear hK K
                      try simp only [Act.put, List.setIfInBounds_toArray, List.set_cons_zero, List.set_cons_succ]
                      clear hHeld x24 f24
                      refine wpAnyH_done (by kernel_rfl) ?_ _
                      have B5 : Bk (w4.setCell ⟨X, 2, none⟩ (.slice A9 (kept.length + 1) c9)) X [.pointer (some da), .pointer (some pa), .slice A9 (kept.length + 1) c9, .slice A2 kept.length c2, .int .i64 (syn : Int)] := B4.set 2 (by simp) _
                      have hT5 : Turn (fun b => b = X) w4 (w4.setCell ⟨X, 2, none⟩ (.slice A9 (kept.length + 1) c9)) := (Turn.refl (fun b => b = X) w4).put (q := X) rfl 2 _
                      have hM5 := (HM3.out.below K HB4.out).aside K hT5 (fun b e => by subst e; exact ⟨nX3, HL.out.nX.2⟩)
                      have hS5 : S.Sg (w4.setCell ⟨X, 2, none⟩ (.slice A9 (kept.length + 1) c9)) (fun b => w3.heap.size ≤ b ∧ b < w4.heap.size) 1 (.slice A9 (kept.length + 1) c9) (kept.length + 1) (recV kept ++ [.string ⟨l[k].rc.toArray⟩]) := (S.Sg.of_own HO4.out).keep (fun q hq => hT5.cell hq.2 (fun e => by have := hq.1; have := HB3.out.lt; omega))
                      have hz5 := hT5.size
                      have hz34 := HB4.out.size
                      have hXl := HB3.out.lt
                      clear B4 hT5
                      generalize w4.setCell ⟨X, 2, none⟩ (.slice A9 (kept.length + 1) c9) = w5 at *
                      have HM5 := Lib.hid hM5
                      have HS5 := Lib.hid hS5
                      have HB5 := Lib.hid B5
                      have x3 : (w5.alloc (.cells #[] 23)).cell? ⟨X, 3, none⟩ = some (.slice A2 kept.length c2) := (B5.alloc _).cell 3 _ rfl
                      have hes5 : SlE (w5.alloc (.cells #[] 23)) Fs (.slice A2 kept.length c2) kept := hM5.es.below ((Below.refl _ _).alloc (Nat.le_refl _) _) (fun b g => (hM5.hFs b g).2.1)
                      have hoe5 : (w5.alloc (.cells #[] 23)).ownsRow w5.heap.size 23 1 (.slice (some ⟨w5.heap.size, 0, none⟩) 0 0) 0 [] := S.own_none (w := w5) _ _ rfl (Nat.le_refl _)
                      clear hM5 hS5 B5
                      go_wp2_with (at_builtin; refine S.wpList_append_sg elU rfl _ _ rfl (base := w5.heap.size) (n := 0) (m := kept.length) (xs := []) (cs := endV kept) rfl rfl hoe5 hes5 (endV_one _) (by omega) (by omega) (by simp) ?_)
                      intro v7 w7 hown7 hgrow7 _
                      have hb7 : Below w5.heap.size w5 w7 := ((Below.refl _ _).alloc (Nat.le_refl _) _).trans (S.below_base hoe5 (by simp) hgrow7)
                      have hown7 : w7.ownsRow w5.heap.size 23 1 v7 kept.length (endV kept) := by simpa using hown7
                      obtain ⟨A7, c7, rfl, hc7⟩ : ∃ A cap, v7 = .slice A kept.length cap ∧ kept.length ≤ cap := by
                        obtain ⟨_, A, cap, e, hc, _⟩ := S.Sg.of_own hown7
                        exact ⟨A, cap, e, hc⟩
                      clear hgrow7 hoe5 hes5 x3
                      go_wp2_with (at_builtin; refine S.wpList_append_sg elU rfl _ _ rfl (base := w5.heap.size) (n := kept.length) (m := 1) (xs := endV kept) (cs := [.int .u32 (told : Int)]) rfl rfl (hown7.alloc _) (sg_row1' w7 23 #[.int .u32 (told : Int)] rfl (g := w7.heap.size) rfl) (by simp [Value.oneCell']) (by omega) (by omega) (by have := hb7.size; simp <;> omega) ?_)
                      intro v8 w8 hown8 hgrow8 _
                      have hb8 : Below w5.heap.size w5 w8 := (hb7.alloc hb7.size _).trans (S.below_base (hown7.alloc _) (by have := hb7.size; simp <;> omega) hgrow8)
                      obtain ⟨A8, c8, rfl, hc8⟩ : ∃ A cap, v8 = .slice A (kept.length + 1) cap ∧ kept.length + 1 ≤ cap := by
                        obtain ⟨_, A, cap, e, hc, _⟩ := S.Sg.of_own hown8
                        exact ⟨A, cap, e, hc⟩
                      have hs8 := hb8.size
                      have B8 := HB5.out.step hb8
                      have x38 := B8.cell 3 _ rfl
                      have f38 := B8.fz 3 (by simp)
                      have hT9 : Turn (fun b => b = X) w8 (w8.setCell ⟨X, 3, none⟩ (.slice A8 (kept.length + 1) c8)) := (Turn.refl (fun b => b = X) w8).put (q := X) rfl 3 _
                      have hF3 : ∀ b, w3.heap.size ≤ b → ¬ More F wr.drew w3 b := fun b hb f => f.elim (fun f => by have := HL.out.md.rp.lt b f; omega) (fun f => by have := f.2; omega)
                      have HLN : Hid (Lr H w0 (w8.setCell ⟨X, 3, none⟩ (.slice A8 (kept.length + 1) c8)) X (.pointer (some da)) (.pointer (some pa)) (.slice A9 (kept.length + 1) c9) (.slice A8 (kept.length + 1) c8) (r.put l[k].rc) (L ++ [(r.next, l[k].rc)]) (kept ++ [(r.next, l[k].rc)]) syn (k + 1) (More F wr.drew w3) (fun b => w3.heap.size ≤ b ∧ b < w8.heap.size)) := Lib.hid (by
                        have hm := ((HM5.out.below K hb8).other (vs' := .slice A9 (kept.length + 1) c9) (ve' := .slice A8 (kept.length + 1) c8) (kept' := kept ++ [(r.next, l[k].rc)]) (Fs' := fun b => w3.heap.size ≤ b ∧ b < w8.heap.size) (by
                            show S.Sg w8 _ 1 _ (kept ++ [(r.next, l[k].rc)]).length (recV (kept ++ [(r.next, l[k].rc)]))
                            rw [List.length_append, recV_snoc]
                            exact (HS5.out.below hb8 (fun b g => by have := g.2; omega)).wider (fun b g => ⟨g.1, by have := g.2; omega⟩)) (by
                            show S.Sg w8 _ 1 _ (kept ++ [(r.next, l[k].rc)]).length (endV (kept ++ [(r.next, l[k].rc)]))
                            rw [List.length_append, endV_snoc, ← HTo.out]
                            exact (S.Sg.of_own hown8).wider (fun b g => ⟨by have := g.1; omega, g.2⟩)) (fun b g => ⟨by have := g.1; omega, g.2, hF3 b g.1⟩)).aside K hT9 (fun b e => by subst e; exact ⟨nX3, (fun g => by have := g.1; omega), HL.out.nX.2.2⟩)
                        rw [append_ok HZ.out] at hm
                        exact ⟨hm, HL.out.pm.put HZ.out hb400, B8.set 3 (by simp) _, nX3, (fun g => by have := g.1; omega), HL.out.nX.2.2⟩)
                      clear hown8 hgrow8 hown7 B8 hT9 hb7 hb8 hF3
                      go_wp2_with fail
                      go_roundw
                      case rel => exact ⟨k + 1, _, _, _, _, _, _, _, _, by omega, by go_num, HLN.out⟩
                      case measure => simp [intOf]; omega
              · go_simp
                refine hK.out _ _ (HSS.out _ (HBB.out.alloc HBB.out.size _)) (fun hHeld => ?_)
                clear hK K
                try simp only [Act.put, List.setIfInBounds_toArray, List.set_cons_zero, List.set_cons_succ]
                have hbn := HBB.out.alloc HBB.out.size (.cells #[.string ⟨l[k].rc.toArray⟩] 9)
                have htn : S.Sg (wB.alloc (.cells #[.string ⟨l[k].rc.toArray⟩] 9)) (fun b => b = wB.heap.size) 1 (.slice (some ⟨wB.heap.size, 0, none⟩) 1 1) 1 [.string ⟨l[k].rc.toArray⟩] := sg_row1' wB 9 #[.string ⟨l[k].rc.toArray⟩] rfl (g := wB.heap.size) rfl
                have hbx : Below wB.heap.size wB (wB.alloc (.cells #[.string ⟨l[k].rc.toArray⟩] 9)) := (Below.refl _ _).alloc (Nat.le_refl _) _
                have hgt : wB.heap.size < (wB.alloc (.cells #[.string ⟨l[k].rc.toArray⟩] 9)).heap.size := by rw [World.size_alloc]; exact Nat.lt_succ_self _
                clear hHeld
                generalize wB.alloc (.cells #[.string ⟨l[k].rc.toArray⟩] 9) = wT at *
                have HBT := Lib.hid hbn
                have HT := Lib.hid htn
                have HGT := Lib.hid hgt
                have HNE := Lib.hid (show wd.heap.size ≠ wB.heap.size by have := (World.ownsRow.lt HOB.out wd.heap.size rfl).2; omega)
                have HOB := Lib.hid (S.own_below HOB.out hbx)
                clear hbn htn hbx hgt
                refine wpAnyH_ready (rs := [3]) (by kernel_rfl) (by simp) ?_
                refine (AllReadyH.cons rfl (fun K hK => ?_) AllReadyH.nil)
                · have hsl := HSl.out wT HBT.out
                  refine S.step_append_sg elS (by rfl) _ _ (by rfl) (base := w3.heap.size) (n := 0) (m := kept.length) (xs := []) (cs := recV kept) (by rfl) (by rfl) HOB.out hsl (recV_one _) (by omega) (by omega) HBT.out.size ?_
                  intro v2 w2 hown2 hgrow2 _
                  have hbn : Below w3.heap.size w3 w2 := HBT.out.trans (S.below_base HOB.out HBT.out.size hgrow2)
                  have hown2 : w2.ownsRow w3.heap.size 9 1 v2 kept.length (recV kept) := by simpa using hown2
                  have HT := Lib.hid (HT.out.keep (fun q hq => World.cell?_of_block (hgrow2.block q.block (by have e1 : q.block = _ := hq; rw [e1]; exact (Nat.lt_of_lt_of_le HGT.out (Nat.le_refl _))) (fun e => HNE.out (by have e1 : q.block = wB.heap.size := hq; rw [e1] at e; exact (Option.some.inj e).symm)))))
                  obtain ⟨A6, c6, rfl, hc6⟩ : ∃ A cap, v2 = .slice A kept.length cap ∧ kept.length ≤ cap := by
                    obtain ⟨_, A, cap, e, hc, _⟩ := S.Sg.of_own hown2
                    exact ⟨A, cap, e, hc⟩
                  have HB2 := Lib.hid hbn
                  have HO2 := Lib.hid hown2
                  clear hbn hown2 hgrow2 hsl
                  go_simp
                  refine hK.out _ _ (HSS.out _ HB2.out) (fun hHeld => ?_)
                  clear hK K
                  try simp only [Act.put, List.setIfInBounds_toArray, List.set_cons_zero, List.set_cons_succ]
                  clear hHeld
                  refine wpAnyH_ready (rs := [11]) (by kernel_rfl) (by simp) ?_
                  refine (AllReadyH.cons rfl (fun K hK => ?_) AllReadyH.nil)
                  · refine S.step_append_sg elS (by rfl) _ _ (by rfl) (base := w3.heap.size) (n := kept.length) (m := 1) (xs := recV kept) (cs := [.string ⟨l[k].rc.toArray⟩]) (by rfl) (by rfl) HO2.out HT.out (by simp [Value.oneCell']) (by omega) (by omega) HB2.out.size ?_
                    intro v4 w4 hown4 hgrow4 _
                    have hbn : Below w3.heap.size w3 w4 := HB2.out.trans (S.below_base HO2.out HB2.out.size hgrow4)
                    obtain ⟨A9, c9, rfl, hc9⟩ : ∃ A cap, v4 = .slice A (kept.length + 1) cap ∧ kept.length + 1 ≤ cap := by
                      obtain ⟨_, A, cap, e, hc, _⟩ := S.Sg.of_own hown4
                      exact ⟨A, cap, e, hc⟩
                    have HB4 := Lib.hid hbn
                    have HO4 := Lib.hid hown4
                    clear hbn hown4 hgrow4
                    go_simp
                    refine hK.out _ _ (HSS.out _ HB4.out) (fun hHeld => ?_)
                    clear hK K
                    try simp only [Act.put, List.setIfInBounds_toArray, List.set_cons_zero, List.set_cons_succ]
                    refine takeH (i := 12) (v := ?_) (some 64) rfl (by rfl) (by kernel_rfl) (by kernel_rfl) (by kernel_rfl) (fun _ _ _ h => h) (Or.inl ⟨by rfl, fun w hSw => ?_⟩) (by assumption) ?_
                    rotate_left
                    · go_simp
                      try with_reducible rfl
                    try simp only [Act.put, List.setIfInBounds_toArray, List.set_cons_zero, List.set_cons_succ]
                    clear hHeld
                    refine wpAnyH_ready (rs := [13]) (by kernel_rfl) (by simp) ?_
                    refine (AllReadyH.cons rfl (fun K hK => ?_) AllReadyH.nil)
                    · have B4 := HB3.out.step HB4.out
                      have x24 := B4.cell 2 _ rfl
                      have f24 := B4.fz 2 (by simp)
                      go_simp
                      refine hK.out _ _ (HSS0.out _ ((HB4.out.mono HZ3.out).setCell (p := ⟨X, 2, none⟩) hX0 _)) (fun hHeld => ?_)
                      clear hK K
                      try simp only [Act.put, List.setIfInBounds_toArray, List.set_cons_zero, List.set_cons_succ]
                      clear hHeld x24 f24
                      refine wpAnyH_done (by kernel_rfl) ?_ _
                      have B5 : Bk (w4.setCell ⟨X, 2, none⟩ (.slice A9 (kept.length + 1) c9)) X [.pointer (some da), .pointer (some pa), .slice A9 (kept.length + 1) c9, .slice A2 kept.length c2, .int .i64 (syn : Int)] := B4.set 2 (by simp) _
                      have hT5 : Turn (fun b => b = X) w4 (w4.setCell ⟨X, 2, none⟩ (.slice A9 (kept.length + 1) c9)) := (Turn.refl (fun b => b = X) w4).put (q := X) rfl 2 _
                      have hM5 := (HM3.out.below K HB4.out).aside K hT5 (fun b e => by subst e; exact ⟨nX3, HL.out.nX.2⟩)
                      have hS5 : S.Sg (w4.setCell ⟨X, 2, none⟩ (.slice A9 (kept.length + 1) c9)) (fun b => w3.heap.size ≤ b ∧ b < w4.heap.size) 1 (.slice A9 (kept.length + 1) c9) (kept.length + 1) (recV kept ++ [.string ⟨l[k].rc.toArray⟩]) := (S.Sg.of_own HO4.out).keep (fun q hq => hT5.cell hq.2 (fun e => by have := hq.1; have := HB3.out.lt; omega))
                      have hz5 := hT5.size
                      have hz34 := HB4.out.size
                      have hXl := HB3.out.lt
                      clear B4 hT5
                      generalize w4.setCell ⟨X, 2, none⟩ (.slice A9 (kept.length + 1) c9) = w5 at *
                      have HM5 := Lib.hid hM5
                      have HS5 := Lib.hid hS5
                      have HB5 := Lib.hid B5
                      have x3 : (w5.alloc (.cells #[] 23)).cell? ⟨X, 3, none⟩ = some (.slice A2 kept.length c2) := (B5.alloc _).cell 3 _ rfl
                      have hes5 : SlE (w5.alloc (.cells #[] 23)) Fs (.slice A2 kept.length c2) kept := hM5.es.below ((Below.refl _ _).alloc (Nat.le_refl _) _) (fun b g => (hM5.hFs b g).2.1)
                      have hoe5 : (w5.alloc (.cells #[] 23)).ownsRow w5.heap.size 23 1 (.slice (some ⟨w5.heap.size, 0, none⟩) 0 0) 0 [] := S.own_none (w := w5) _ _ rfl (Nat.le_refl _)
                      clear hM5 hS5 B5
                      go_wp2_with (at_builtin; refine S.wpList_append_sg elU rfl _ _ rfl (base := w5.heap.size) (n := 0) (m := kept.length) (xs := []) (cs := endV kept) rfl rfl hoe5 hes5 (endV_one _) (by omega) (by omega) (by simp) ?_)
                      intro v7 w7 hown7 hgrow7 _
                      have hb7 : Below w5.heap.size w5 w7 := ((Below.refl _ _).alloc (Nat.le_refl _) _).trans (S.below_base hoe5 (by simp) hgrow7)
                      have hown7 : w7.ownsRow w5.heap.size 23 1 v7 kept.length (endV kept) := by simpa using hown7
                      obtain ⟨A7, c7, rfl, hc7⟩ : ∃ A cap, v7 = .slice A kept.length cap ∧ kept.length ≤ cap := by
                        obtain ⟨_, A, cap, e, hc, _⟩ := S.Sg.of_own hown7
                        exact ⟨A, cap, e, hc⟩
                      clear hgrow7 hoe5 hes5 x3
                      go_wp2_with (at_builtin; refine S.wpList_append_sg elU rfl _ _ rfl (base := w5.heap.size) (n := kept.length) (m := 1) (xs := endV kept) (cs := [.int .u32 (told : Int)]) rfl rfl (hown7.alloc _) (sg_row1' w7 23 #[.int .u32 (told : Int)] rfl (g := w7.heap.size) rfl) (by simp [Value.oneCell']) (by omega) (by omega) (by have := hb7.size; simp <;> omega) ?_)
                      intro v8 w8 hown8 hgrow8 _
                      have hb8 : Below w5.heap.size w5 w8 := (hb7.alloc hb7.size _).trans (S.below_base (hown7.alloc _) (by have := hb7.size; simp <;> omega) hgrow8)
                      obtain ⟨A8, c8, rfl, hc8⟩ : ∃ A cap, v8 = .slice A (kept.length + 1) cap ∧ kept.length + 1 ≤ cap := by
                        obtain ⟨_, A, cap, e, hc, _⟩ := S.Sg.of_own hown8
                        exact ⟨A, cap, e, hc⟩
                      have hs8 := hb8.size
                      have B8 := HB5.out.step hb8
                      have x38 := B8.cell 3 _ rfl
                      have f38 := B8.fz 3 (by simp)
                      have hT9 : Turn (fun b => b = X) w8 (w8.setCell ⟨X, 3, none⟩ (.slice A8 (kept.length + 1) c8)) := (Turn.refl (fun b => b = X) w8).put (q := X) rfl 3 _
                      have hF3 : ∀ b, w3.heap.size ≤ b → ¬ More F wr.drew w3 b := fun b hb f => f.elim (fun f => by have := HL.out.md.rp.lt b f; omega) (fun f => by have := f.2; omega)
                      have HLN : Hid (Lr H w0 (w8.setCell ⟨X, 3, none⟩ (.slice A8 (kept.length + 1) c8)) X (.pointer (some da)) (.pointer (some pa)) (.slice A9 (kept.length + 1) c9) (.slice A8 (kept.length + 1) c8) (r.put l[k].rc) (L ++ [(r.next, l[k].rc)]) (kept ++ [(r.next, l[k].rc)]) syn (k + 1) (More F wr.drew w3) (fun b => w3.heap.size ≤ b ∧ b < w8.heap.size)) := Lib.hid (by
                        have hm := ((HM5.out.below K hb8).other (vs' := .slice A9 (kept.length + 1) c9) (ve' := .slice A8 (kept.length + 1) c8) (kept' := kept ++ [(r.next, l[k].rc)]) (Fs' := fun b => w3.heap.size ≤ b ∧ b < w8.heap.size) (by
                            show S.Sg w8 _ 1 _ (kept ++ [(r.next, l[k].rc)]).length (recV (kept ++ [(r.next, l[k].rc)]))
                            rw [List.length_append, recV_snoc]
                            exact (HS5.out.below hb8 (fun b g => by have := g.2; omega)).wider (fun b g => ⟨g.1, by have := g.2; omega⟩)) (by
                            show S.Sg w8 _ 1 _ (kept ++ [(r.next, l[k].rc)]).length (endV (kept ++ [(r.next, l[k].rc)]))
                            rw [List.length_append, endV_snoc, ← HTo.out]
                            exact (S.Sg.of_own hown8).wider (fun b g => ⟨by have := g.1; omega, g.2⟩)) (fun b g => ⟨by have := g.1; omega, g.2, hF3 b g.1⟩)).aside K hT9 (fun b e => by subst e; exact ⟨nX3, (fun g => by have := g.1; omega), HL.out.nX.2.2⟩)
                        rw [append_ok HZ.out] at hm
                        exact ⟨hm, HL.out.pm.put HZ.out hb400, B8.set 3 (by simp) _, nX3, (fun g => by have := g.1; omega), HL.out.nX.2.2⟩)
                      clear hown8 hgrow8 hown7 B8 hT9 hb7 hb8 hF3
                      go_wp2_with fail
                      go_roundw
                      case rel => exact ⟨k + 1, _, _, _, _, _, _, _, _, by omega, by go_num, HLN.out⟩
                      case measure => simp [intOf]; omega
            · go_simp
              refine hK.out _ _ (HSS.out _ (HBB.out.alloc HBB.out.size _)) (fun hHeld => ?_)
              clear hK K
              try simp only [Act.put, List.setIfInBounds_toArray, List.set_cons_zero, List.set_cons_succ]
              have hbn := HBB.out.alloc HBB.out.size (.cells #[.string ⟨l[k].rc.toArray⟩] 9)
              have htn : S.Sg (wB.alloc (.cells #[.string ⟨l[k].rc.toArray⟩] 9)) (fun b => b = wB.heap.size) 1 (.slice (some ⟨wB.heap.size, 0, none⟩) 1 1) 1 [.string ⟨l[k].rc.toArray⟩] := sg_row1' wB 9 #[.string ⟨l[k].rc.toArray⟩] rfl (g := wB.heap.size) rfl
              have hbx : Below wB.heap.size wB (wB.alloc (.cells #[.string ⟨l[k].rc.toArray⟩] 9)) := (Below.refl _ _).alloc (Nat.le_refl _) _
              have hgt : wB.heap.size < (wB.alloc (.cells #[.string ⟨l[k].rc.toArray⟩] 9)).heap.size := by rw [World.size_alloc]; exact Nat.lt_succ_self _
              clear hHeld
              generalize wB.alloc (.cells #[.string ⟨l[k].rc.toArray⟩] 9) = wT at *
              have HBT := Lib.hid hbn
              have HT := Lib.hid htn
              have HGT := Lib.hid hgt
              have HNE := Lib.hid (show wd.heap.size ≠ wB.heap.size by have := (World.ownsRow.lt HOB.out wd.heap.size rfl).2; omega)
              have HOB := Lib.hid (S.own_below HOB.out hbx)
              clear hbn htn hbx hgt
              refine wpAnyH_ready (rs := [2]) (by kernel_rfl) (by simp) ?_
              refine (AllReadyH.cons rfl (fun K hK => ?_) AllReadyH.nil)
              · have hx2 := HX2.out wT HBT.out
                go_simp
                go_wp2_with fail
                refine hK.out _ _ (HSS.out _ HBT.out) (fun hHeld => ?_)
                clear hK K
                try simp only [Act.put, List.setIfInBounds_toArray, List.set_cons_zero, List.set_cons_succ]
                clear hx2 hHeld
                refine wpAnyH_ready (rs := [3]) (by kernel_rfl) (by simp) ?_
                refine (AllReadyH.cons rfl (fun K hK => ?_) AllReadyH.nil)
                · have hsl := HSl.out wT HBT.out
                  refine S.step_append_sg elS (by rfl) _ _ (by rfl) (base := w3.heap.size) (n := 0) (m := kept.length) (xs := []) (cs := recV kept) (by rfl) (by rfl) HOB.out hsl (recV_one _) (by omega) (by omega) HBT.out.size ?_
                  intro v2 w2 hown2 hgrow2 _
                  have hbn : Below w3.heap.size w3 w2 := HBT.out.trans (S.below_base HOB.out HBT.out.size hgrow2)
                  have hown2 : w2.ownsRow w3.heap.size 9 1 v2 kept.length (recV kept) := by simpa using hown2
                  have HT := Lib.hid (HT.out.keep (fun q hq => World.cell?_of_block (hgrow2.block q.block (by have e1 : q.block = _ := hq; rw [e1]; exact (Nat.lt_of_lt_of_le HGT.out (Nat.le_refl _))) (fun e => HNE.out (by have e1 : q.block = wB.heap.size := hq; rw [e1] at e; exact (Option.some.inj e).symm)))))
                  obtain ⟨A6, c6, rfl, hc6⟩ : ∃ A cap, v2 = .slice A kept.length cap ∧ kept.length ≤ cap := by
                    obtain ⟨_, A, cap, e, hc, _⟩ := S.Sg.of_own hown2
                    exact ⟨A, cap, e, hc⟩
                  have HB2 := Lib.hid hbn
                  have HO2 := Lib.hid hown2
                  clear hbn hown2 hgrow2 hsl
                  go_simp
                  refine hK.out _ _ (HSS.out _ HB2.out) (fun hHeld => ?_)
                  clear hK K
                  try simp only [Act.put, List.setIfInBounds_toArray, List.set_cons_zero, List.set_cons_succ]
                  clear hHeld
                  refine wpAnyH_ready (rs := [11]) (by kernel_rfl) (by simp) ?_
                  refine (AllReadyH.cons rfl (fun K hK => ?_) AllReadyH.nil)
                  · refine S.step_append_sg elS (by rfl) _ _ (by rfl) (base := w3.heap.size) (n := kept.length) (m := 1) (xs := recV kept) (cs := [.string ⟨l[k].rc.toArray⟩]) (by rfl) (by rfl) HO2.out HT.out (by simp [Value.oneCell']) (by omega) (by omega) HB2.out.size ?_
                    intro v4 w4 hown4 hgrow4 _
                    have hbn : Below w3.heap.size w3 w4 := HB2.out.trans (S.below_base HO2.out HB2.out.size hgrow4)
                    obtain ⟨A9, c9, rfl, hc9⟩ : ∃ A cap, v4 = .slice A (kept.length + 1) cap ∧ kept.length + 1 ≤ cap := by
                      obtain ⟨_, A, cap, e, hc, _⟩ := S.Sg.of_own hown4
                      exact ⟨A, cap, e, hc⟩
                    have HB4 := Lib.hid hbn
                    have HO4 := Lib.hid hown4
                    clear hbn hown4 hgrow4
                    go_simp
                    refine hK.out _ _ (HSS.out _ HB4.out) (fun hHeld => ?_)
                    clear hK K
                    try simp only [Act.put, List.setIfInBounds_toArray, List.set_cons_zero, List.set_cons_succ]
                    refine takeH (i := 12) (v := ?_) (some 64) rfl (by rfl) (by kernel_rfl) (by kernel_rfl) (by kernel_rfl) (fun _ _ _ h => h) (Or.inl ⟨by rfl, fun w hSw => ?_⟩) (by assumption) ?_
                    rotate_left
                    · go_simp
                      try with_reducible rfl
                    try simp only [Act.put, List.setIfInBounds_toArray, List.set_cons_zero, List.set_cons_succ]
                    clear hHeld
                    refine wpAnyH_ready (rs := [13]) (by kernel_rfl) (by simp) ?_
                    refine (AllReadyH.cons rfl (fun K hK => ?_) AllReadyH.nil)
                    · have B4 := HB3.out.step HB4.out
                      have x24 := B4.cell 2 _ rfl
                      have f24 := B4.fz 2 (by simp)
                      go_simp
                      refine hK.out _ _ (HSS0.out _ ((HB4.out.mono HZ3.out).setCell (p := ⟨X, 2, none⟩) hX0 _)) (fun hHeld => ?_)
                      clear hK K
                      try simp only [Act.put, List.setIfInBounds_toArray, List.set_cons_zero, List.set_cons_succ]
                      clear hHeld x24 f24
                      refine wpAnyH_done (by kernel_rfl) ?_ _
                      have B5 : Bk (w4.setCell ⟨X, 2, none⟩ (.slice A9 (kept.length + 1) c9)) X [.pointer (some da), .pointer (some pa), .slice A9 (kept.length + 1) c9, .slice A2 kept.length c2, .int .i64 (syn : Int)] := B4.set 2 (by simp) _
                      have hT5 : Turn (fun b => b = X) w4 (w4.setCell ⟨X, 2, none⟩ (.slice A9 (kept.length + 1) c9)) := (Turn.refl (fun b => b = X) w4).put (q := X) rfl 2 _
                      have hM5 := (HM3.out.below K HB4.out).aside K hT5 (fun b e => by subst e; exact ⟨nX3, HL.out.nX.2⟩)
                      have hS5 : S.Sg (w4.setCell ⟨X, 2, none⟩ (.slice A9 (kept.length + 1) c9)) (fun b => w3.heap.size ≤ b ∧ b < w4.heap.size) 1 (.slice A9 (kept.length + 1) c9) (kept.length + 1) (recV kept ++ [.string ⟨l[k].rc.toArray⟩]) := (S.Sg.of_own HO4.out).keep (fun q hq => hT5.cell hq.2 (fun e => by have := hq.1; have := HB3.out.lt; omega))
                      have hz5 := hT5.size
                      have hz34 := HB4.out.size
                      have hXl := HB3.out.lt
                      clear B4 hT5
                      generalize w4.setCell ⟨X, 2, none⟩ (.slice A9 (kept.length + 1) c9) = w5 at *
                      have HM5 := Lib.hid hM5
                      have HS5 := Lib.hid hS5
                      have HB5 := Lib.hid B5
                      have x3 : (w5.alloc (.cells #[] 23)).cell? ⟨X, 3, none⟩ = some (.slice A2 kept.length c2) := (B5.alloc _).cell 3 _ rfl
                      have hes5 : SlE (w5.alloc (.cells #[] 23)) Fs (.slice A2 kept.length c2) kept := hM5.es.below ((Below.refl _ _).alloc (Nat.le_refl _) _) (fun b g => (hM5.hFs b g).2.1)
                      have hoe5 : (w5.alloc (.cells #[] 23)).ownsRow w5.heap.size 23 1 (.slice (some ⟨w5.heap.size, 0, none⟩) 0 0) 0 [] := S.own_none (w := w5) _ _ rfl (Nat.le_refl _)
                      clear hM5 hS5 B5
                      go_wp2_with (at_builtin; refine S.wpList_append_sg elU rfl _ _ rfl (base := w5.heap.size) (n := 0) (m := kept.length) (xs := []) (cs := endV kept) rfl rfl hoe5 hes5 (endV_one _) (by omega) (by omega) (by simp) ?_)
                      intro v7 w7 hown7 hgrow7 _
                      have hb7 : Below w5.heap.size w5 w7 := ((Below.refl _ _).alloc (Nat.le_refl _) _).trans (S.below_base hoe5 (by simp) hgrow7)
                      have hown7 : w7.ownsRow w5.heap.size 23 1 v7 kept.length (endV kept) := by simpa using hown7
                      obtain ⟨A7, c7, rfl, hc7⟩ : ∃ A cap, v7 = .slice A kept.length cap ∧ kept.length ≤ cap := by
                        obtain ⟨_, A, cap, e, hc, _⟩ := S.Sg.of_own hown7
                        exact ⟨A, cap, e, hc⟩
                      clear hgrow7 hoe5 hes5 x3
                      go_wp2_with (at_builtin; refine S.wpList_append_sg elU rfl _ _ rfl (base := w5.heap.size) (n := kept.length) (m := 1) (xs := endV kept) (cs := [.int .u32 (told : Int)]) rfl rfl (hown7.alloc _) (sg_row1' w7 23 #[.int .u32 (told : Int)] rfl (g := w7.heap.size) rfl) (by simp [Value.oneCell']) (by omega) (by omega) (by have := hb7.size; simp <;> omega) ?_)
                      intro v8 w8 hown8 hgrow8 _
                      have hb8 : Below w5.heap.size w5 w8 := (hb7.alloc hb7.size _).trans (S.below_base (hown7.alloc _) (by have := hb7.size; simp <;> omega) hgrow8)
                      obtain ⟨A8, c8, rfl, hc8⟩ : ∃ A cap, v8 = .slice A (kept.length + 1) cap ∧ kept.length + 1 ≤ cap := by
                        obtain ⟨_, A, cap, e, hc, _⟩ := S.Sg.of_own hown8
                        exact ⟨A, cap, e, hc⟩
                      have hs8 := hb8.size
                      have B8 := HB5.out.step hb8
                      have x38 := B8.cell 3 _ rfl
                      have f38 := B8.fz 3 (by simp)
                      have hT9 : Turn (fun b => b = X) w8 (w8.setCell ⟨X, 3, none⟩ (.slice A8 (kept.length + 1) c8)) := (Turn.refl (fun b => b = X) w8).put (q := X) rfl 3 _
                      have hF3 : ∀ b, w3.heap.size ≤ b → ¬ More F wr.drew w3 b := fun b hb f => f.elim (fun f => by have := HL.out.md.rp.lt b f; omega) (fun f => by have := f.2; omega)
                      have HLN : Hid (Lr H w0 (w8.setCell ⟨X, 3, none⟩ (.slice A8 (kept.length + 1) c8)) X (.pointer (some da)) (.pointer (some pa)) (.slice A9 (kept.length + 1) c9) (.slice A8 (kept.length + 1) c8) (r.put l[k].rc) (L ++ [(r.next, l[k].rc)]) (kept ++ [(r.next, l[k].rc)]) syn (k + 1) (More F wr.drew w3) (fun b => w3.heap.size ≤ b ∧ b < w8.heap.size)) := Lib.hid (by
                        have hm := ((HM5.out.below K hb8).other (vs' := .slice A9 (kept.length + 1) c9) (ve' := .slice A8 (kept.length + 1) c8) (kept' := kept ++ [(r.next, l[k].rc)]) (Fs' := fun b => w3.heap.size ≤ b ∧ b < w8.heap.size) (by
                            show S.Sg w8 _ 1 _ (kept ++ [(r.next, l[k].rc)]).length (recV (kept ++ [(r.next, l[k].rc)]))
                            rw [List.length_append, recV_snoc]
                            exact (HS5.out.below hb8 (fun b g => by have := g.2; omega)).wider (fun b g => ⟨g.1, by have := g.2; omega⟩)) (by
                            show S.Sg w8 _ 1 _ (kept ++ [(r.next, l[k].rc)]).length (endV (kept ++ [(r.next, l[k].rc)]))
                            rw [List.length_append, endV_snoc, ← HTo.out]
                            exact (S.Sg.of_own hown8).wider (fun b g => ⟨by have := g.1; omega, g.2⟩)) (fun b g => ⟨by have := g.1; omega, g.2, hF3 b g.1⟩)).aside K hT9 (fun b e => by subst e; exact ⟨nX3, (fun g => by have := g.1; omega), HL.out.nX.2.2⟩)
                        rw [append_ok HZ.out] at hm
                        exact ⟨hm, HL.out.pm.put HZ.out hb400, B8.set 3 (by simp) _, nX3, (fun g => by have := g.1; omega), HL.out.nX.2.2⟩)
                      clear hown8 hgrow8 hown7 B8 hT9 hb7 hb8 hF3
                      go_wp2_with fail
                      go_roundw
                      case rel => exact ⟨k + 1, _, _, _, _, _, _, _, _, by omega, by go_num, HLN.out⟩
                      case measure => simp [intOf]; omega
          · have hx2 := HX2.out wd HBs.out
            go_simp
            go_wp2_with fail
            refine hK.out _ _ (HSS.out _ HBs.out) (fun hHeld => ?_)
            clear hK K
            try simp only [Act.put, List.setIfInBounds_toArray, List.set_cons_zero, List.set_cons_succ]
            clear hx2 hHeld
            refine wpAnyH_ready (rs := [0, 10]) (by kernel_rfl) (by simp) ?_
            refine (AllReadyH.cons rfl (fun K hK => ?_) (AllReadyH.cons rfl (fun K hK => ?_) AllReadyH.nil))
            · go_simp
              refine hK.out _ _ (HSS.out _ (HBs.out.alloc HBs.out.size _)) (fun hHeld => ?_)
              clear hK K
              try simp only [Act.put, List.setIfInBounds_toArray, List.set_cons_zero, List.set_cons_succ]
              have hbn := HBs.out.alloc HBs.out.size (.cells #[] 9)
              have hon : (wd.alloc (.cells #[] 9)).ownsRow w3.heap.size 9 1 (.slice (some ⟨wd.heap.size, 0, none⟩) 0 0) 0 [] := S.own_none (w := wd) _ _ rfl HBs.out.size
              have hbx : Below wd.heap.size wd (wd.alloc (.cells #[] 9)) := (Below.refl _ _).alloc (Nat.le_refl _) _
              clear hHeld
              generalize wd.alloc (.cells #[] 9) = wB at *
              have HBB := Lib.hid hbn
              have HOB := Lib.hid hon
              clear hbn hon hbx
              refine wpAnyH_ready (rs := [3, 10]) (by kernel_rfl) (by simp) ?_
              refine (AllReadyH.cons rfl (fun K hK => ?_) (AllReadyH.cons rfl (fun K hK => ?_) AllReadyH.nil))
              · have hsl := HSl.out wB HBB.out
                refine S.step_append_sg elS (by rfl) _ _ (by rfl) (base := w3.heap.size) (n := 0) (m := kept.length) (xs := []) (cs := recV kept) (by rfl) (by rfl) HOB.out hsl (recV_one _) (by omega) (by omega) HBB.out.size ?_
                intro v2 w2 hown2 hgrow2 _
                have hbn : Below w3.heap.size w3 w2 := HBB.out.trans (S.below_base HOB.out HBB.out.size hgrow2)
                have hown2 : w2.ownsRow w3.heap.size 9 1 v2 kept.length (recV kept) := by simpa using hown2
                obtain ⟨A6, c6, rfl, hc6⟩ : ∃ A cap, v2 = .slice A kept.length cap ∧ kept.length ≤ cap := by
                  obtain ⟨_, A, cap, e, hc, _⟩ := S.Sg.of_own hown2
                  exact ⟨A, cap, e, hc⟩
                have HB2 := Lib.hid hbn
                have HO2 := Lib.hid hown2
                clear hbn hown2 hgrow2 hsl
                go_simp
                refine hK.out _ _ (HSS.out _ HB2.out) (fun hHeld => ?_)
                clear hK K
                try simp only [Act.put, List.setIfInBounds_toArray, List.set_cons_zero, List.set_cons_succ]
                clear hHeld
                refine wpAnyH_ready (rs := [10]) (by kernel_rfl) (by simp) ?_
                refine (AllReadyH.cons rfl (fun K hK => ?_) AllReadyH.nil)
                · go_simp
                  refine hK.out _ _ (HSS.out _ (HB2.out.alloc HB2.out.size _)) (fun hHeld => ?_)
                  clear hK K
                  try simp only [Act.put, List.setIfInBounds_toArray, List.set_cons_zero, List.set_cons_succ]
                  have hbn := HB2.out.alloc HB2.out.size (.cells #[.string ⟨l[k].rc.toArray⟩] 9)
                  have htn : S.Sg (w2.alloc (.cells #[.string ⟨l[k].rc.toArray⟩] 9)) (fun b => b = w2.heap.size) 1 (.slice (some ⟨w2.heap.size, 0, none⟩) 1 1) 1 [.string ⟨l[k].rc.toArray⟩] := sg_row1' w2 9 #[.string ⟨l[k].rc.toArray⟩] rfl (g := w2.heap.size) rfl
                  have hbx : Below w2.heap.size w2 (w2.alloc (.cells #[.string ⟨l[k].rc.toArray⟩] 9)) := (Below.refl _ _).alloc (Nat.le_refl _) _
                  have hgt : w2.heap.size < (w2.alloc (.cells #[.string ⟨l[k].rc.toArray⟩] 9)).heap.size := by rw [World.size_alloc]; exact Nat.lt_succ_self _
                  clear hHeld
                  generalize w2.alloc (.cells #[.string ⟨l[k].rc.toArray⟩] 9) = wT at *
                  have HBT := Lib.hid hbn
                  have HT := Lib.hid htn
                  have HGT := Lib.hid hgt
                  have HO2 := Lib.hid (S.own_below HO2.out hbx)
                  clear hbn htn hbx hgt
                  refine wpAnyH_ready (rs := [11]) (by kernel_rfl) (by simp) ?_
                  refine (AllReadyH.cons rfl (fun K hK => ?_) AllReadyH.nil)
                  · refine S.step_append_sg elS (by rfl) _ _ (by rfl) (base := w3.heap.size) (n := kept.length) (m := 1) (xs := recV kept) (cs := [.string ⟨l[k].rc.toArray⟩]) (by rfl) (by rfl) HO2.out HT.out (by simp [Value.oneCell']) (by omega) (by omega) HBT.out.size ?_
                    intro v4 w4 hown4 hgrow4 _
                    have hbn : Below w3.heap.size w3 w4 := HBT.out.trans (S.below_base HO2.out HBT.out.size hgrow4)
                    obtain ⟨A9, c9, rfl, hc9⟩ : ∃ A cap, v4 = .slice A (kept.length + 1) cap ∧ kept.length + 1 ≤ cap := by
                      obtain ⟨_, A, cap, e, hc, _⟩ := S.Sg.of_own hown4
                      exact ⟨A, cap, e, hc⟩
                    have HB4 := Lib.hid hbn
                    have HO4 := Lib.hid hown4
                    clear hbn hown4 hgrow4
                    go_simp
                    refine hK.out _ _ (HSS.out _ HB4.out) (fun hHeld => ?_)
                    clear hK K
                    try simp only [Act.put, List.setIfInBounds_toArray, List.set_cons_zero, List.set_cons_succ]
                    refine takeH (i := 12) (v := ?_) (some 64) rfl (by rfl) (by kernel_rfl) (by kernel_rfl) (by kernel_rfl) (fun _ _ _ h => h) (Or.inl ⟨by rfl, fun w hSw => ?_⟩) (by assumption) ?_
                    rotate_left
                    · go_simp
                      try with_reducible rfl
                    try simp only [Act.put, List.setIfInBounds_toArray, List.set_cons_zero, List.set_cons_succ]
                    clear hHeld
                    refine wpAnyH_ready (rs := [13]) (by kernel_rfl) (by simp) ?_
                    refine (AllReadyH.cons rfl (fun K hK => ?_) AllReadyH.nil)
                    · have B4 := HB3.out.step HB4.out
                      have x24 := B4.cell 2 _ rfl
                      have f24 := B4.fz 2 (by simp)
                      go_simp
                      refine hK.out _ _ (HSS0.out _ ((HB4.out.mono HZ3.out).setCell (p := ⟨X, 2, none⟩) hX0 _)) (fun hHeld => ?_)
                      clear hK K
                      try simp only [Act.put, List.setIfInBounds_toArray, List.set_cons_zero, List.set_cons_succ]
                      clear hHeld x24 f24
                      refine wpAnyH_done (by kernel_rfl) ?_ _
                      have B5 : Bk (w4.setCell ⟨X, 2, none⟩ (.slice A9 (kept.length + 1) c9)) X [.pointer (some da), .pointer (some pa), .slice A9 (kept.length + 1) c9, .slice A2 kept.length c2, .int .i64 (syn : Int)] := B4.set 2 (by simp) _
                      have hT5 : Turn (fun b => b = X) w4 (w4.setCell ⟨X, 2, none⟩ (.slice A9 (kept.length + 1) c9)) := (Turn.refl (fun b => b = X) w4).put (q := X) rfl 2 _
                      have hM5 := (HM3.out.below K HB4.out).aside K hT5 (fun b e => by subst e; exact ⟨nX3, HL.out.nX.2⟩)
                      have hS5 : S.Sg (w4.setCell ⟨X, 2, none⟩ (.slice A9 (kept.length + 1) c9)) (fun b => w3.heap.size ≤ b ∧ b < w4.heap.size) 1 (.slice A9 (kept.length + 1) c9) (kept.length + 1) (recV kept ++ [.string ⟨l[k].rc.toArray⟩]) := (S.Sg.of_own HO4.out).keep (fun q hq => hT5.cell hq.2 (fun e => by have := hq.1; have := HB3.out.lt; omega))
                      have hz5 := hT5.size
                      have hz34 := HB4.out.size
                      have hXl := HB3.out.lt
                      clear B4 hT5
                      generalize w4.setCell ⟨X, 2, none⟩ (.slice A9 (kept.length + 1) c9) = w5 at *
                      have HM5 := Lib.hid hM5
                      have HS5 := Lib.hid hS5
                      have HB5 := Lib.hid B5
                      have x3 : (w5.alloc (.cells #[] 23)).cell? ⟨X, 3, none⟩ = some (.slice A2 kept.length c2) := (B5.alloc _).cell 3 _ rfl
                      have hes5 : SlE (w5.alloc (.cells #[] 23)) Fs (.slice A2 kept.length c2) kept := hM5.es.below ((Below.refl _ _).alloc (Nat.le_refl _) _) (fun b g => (hM5.hFs b g).2.1)
                      have hoe5 : (w5.alloc (.cells #[] 23)).ownsRow w5.heap.size 23 1 (.slice (some ⟨w5.heap.size, 0, none⟩) 0 0) 0 [] := S.own_none (w := w5) _ _ rfl (Nat.le_refl _)
                      clear hM5 hS5 B5
                      go_wp2_with (at_builtin; refine S.wpList_append_sg elU rfl _ _ rfl (base := w5.heap.size) (n := 0) (m := kept.length) (xs := []) (cs := endV kept) rfl rfl hoe5 hes5 (endV_one _) (by omega) (by omega) (by simp) ?_)
                      intro v7 w7 hown7 hgrow7 _
                      have hb7 : Below w5.heap.size w5 w7 := ((Below.refl _ _).alloc (Nat.le_refl _) _).trans (S.below_base hoe5 (by simp) hgrow7)
                      have hown7 : w7.ownsRow w5.heap.size 23 1 v7 kept.length (endV kept) := by simpa using hown7
                      obtain ⟨A7, c7, rfl, hc7⟩ : ∃ A cap, v7 = .slice A kept.length cap ∧ kept.length ≤ cap := by
                        obtain ⟨_, A, cap, e, hc, _⟩ := S.Sg.of_own hown7
                        exact ⟨A, cap, e, hc⟩
                      clear hgrow7 hoe5 hes5 x3
                      go_wp2_with (at_builtin; refine S.wpList_append_sg elU rfl _ _ rfl (base := w5.heap.size) (n := kept.length) (m := 1) (xs := endV kept) (cs := [.int .u32 (told : Int)]) rfl rfl (hown7.alloc _) (sg_row1' w7 23 #[.int .u32 (told : Int)] rfl (g := w7.heap.size) rfl) (by simp [Value.oneCell']) (by omega) (by omega) (by have := hb7.size; simp <;> omega) ?_)
                      intro v8 w8 hown8 hgrow8 _
                      have hb8 : Below w5.heap.size w5 w8 := (hb7.alloc hb7.size _).trans (S.below_base (hown7.alloc _) (by have := hb7.size; simp <;> omega) hgrow8)
                      obtain ⟨A8, c8, rfl, hc8⟩ : ∃ A cap, v8 = .slice A (kept.length + 1) cap ∧ kept.length + 1 ≤ cap := by
                        obtain ⟨_, A, cap, e, hc, _⟩ := S.Sg.of_own hown8
                        exact ⟨A, cap, e, hc⟩
                      have hs8 := hb8.size
                      have B8 := HB5.out.step hb8
                      have x38 := B8.cell 3 _ rfl
                      have f38 := B8.fz 3 (by simp)
                      have hT9 : Turn (fun b => b = X) w8 (w8.setCell ⟨X, 3, none⟩ (.slice A8 (kept.length + 1) c8)) := (Turn.refl (fun b => b = X) w8).put (q := X) rfl 3 _
                      have hF3 : ∀ b, w3.heap.size ≤ b → ¬ More F wr.drew w3 b := fun b hb f => f.elim (fun f => by have := HL.out.md.rp.lt b f; omega) (fun f => by have := f.2; omega)
                      have HLN : Hid (Lr H w0 (w8.setCell ⟨X, 3, none⟩ (.slice A8 (kept.length + 1) c8)) X (.pointer (some da)) (.pointer (some pa)) (.slice A9 (kept.length + 1) c9) (.slice A8 (kept.length + 1) c8) (r.put l[k].rc) (L ++ [(r.next, l[k].rc)]) (kept ++ [(r.next, l[k].rc)]) syn (k + 1) (More F wr.drew w3) (fun b => w3.heap.size ≤ b ∧ b < w8.heap.size)) := Lib.hid (by
                        have hm := ((HM5.out.below K hb8).other (vs' := .slice A9 (kept.length + 1) c9) (ve' := .slice A8 (kept.length + 1) c8) (kept' := kept ++ [(r.next, l[k].rc)]) (Fs' := fun b => w3.heap.size ≤ b ∧ b < w8.heap.size) (by
                            show S.Sg w8 _ 1 _ (kept ++ [(r.next, l[k].rc)]).length (recV (kept ++ [(r.next, l[k].rc)]))
                            rw [List.length_append, recV_snoc]
                            exact (HS5.out.below hb8 (fun b g => by have := g.2; omega)).wider (fun b g => ⟨g.1, by have := g.2; omega⟩)) (by
                            show S.Sg w8 _ 1 _ (kept ++ [(r.next, l[k].rc)]).length (endV (kept ++ [(r.next, l[k].rc)]))
                            rw [List.length_append, endV_snoc, ← HTo.out]
                            exact (S.Sg.of_own hown8).wider (fun b g => ⟨by have := g.1; omega, g.2⟩)) (fun b g => ⟨by have := g.1; omega, g.2, hF3 b g.1⟩)).aside K hT9 (fun b e => by subst e; exact ⟨nX3, (fun g => by have := g.1; omega), HL.out.nX.2.2⟩)
                        rw [append_ok HZ.out] at hm
                        exact ⟨hm, HL.out.pm.put HZ.out hb400, B8.set 3 (by simp) _, nX3, (fun g => by have := g.1; omega), HL.out.nX.2.2⟩)
                      clear hown8 hgrow8 hown7 B8 hT9 hb7 hb8 hF3
                      go_wp2_with fail
                      go_roundw
                      case rel => exact ⟨k + 1, _, _, _, _, _, _, _, _, by omega, by go_num, HLN.out⟩
                      case measure => simp [intOf]; omega
              · go_simp
                refine hK.out _ _ (HSS.out _ (HBB.out.alloc HBB.out.size _)) (fun hHeld => ?_)
                clear hK K
                try simp only [Act.put, List.setIfInBounds_toArray, List.set_cons_zero, List.set_cons_succ]
                have hbn := HBB.out.alloc HBB.out.size (.cells #[.string ⟨l[k].rc.toArray⟩] 9)
                have htn : S.Sg (wB.alloc (.cells #[.string ⟨l[k].rc.toArray⟩] 9)) (fun b => b = wB.heap.size) 1 (.slice (some ⟨wB.heap.size, 0, none⟩) 1 1) 1 [.string ⟨l[k].rc.toArray⟩] := sg_row1' wB 9 #[.string ⟨l[k].rc.toArray⟩] rfl (g := wB.heap.size) rfl
                have hbx : Below wB.heap.size wB (wB.alloc (.cells #[.string ⟨l[k].rc.toArray⟩] 9)) := (Below.refl _ _).alloc (Nat.le_refl _) _
                have hgt : wB.heap.size < (wB.alloc (.cells #[.string ⟨l[k].rc.toArray⟩] 9)).heap.size := by rw [World.size_alloc]; exact Nat.lt_succ_self _
                clear hHeld
                generalize wB.alloc (.cells #[.string ⟨l[k].rc.toArray⟩] 9) = wT at *
                have HBT := Lib.hid hbn
                have HT := Lib.hid htn
                have HGT := Lib.hid hgt
                have HNE := Lib.hid (show wd.heap.size ≠ wB.heap.size by have := (World.ownsRow.lt HOB.out wd.heap.size rfl).2; omega)
                have HOB := Lib.hid (S.own_below HOB.out hbx)
                clear hbn htn hbx hgt
                refine wpAnyH_ready (rs := [3]) (by kernel_rfl) (by simp) ?_
                refine (AllReadyH.cons rfl (fun K hK => ?_) AllReadyH.nil)
                · have hsl := HSl.out wT HBT.out
                  refine S.step_append_sg elS (by rfl) _ _ (by rfl) (base := w3.heap.size) (n := 0) (m := kept.length) (xs := []) (cs := recV kept) (by rfl) (by rfl) HOB.out hsl (recV_one _) (by omega) (by omega) HBT.out.size ?_
                  intro v2 w2 hown2 hgrow2 _
                  have hbn : Below w3.heap.size w3 w2 := HBT.out.trans (S.below_base HOB.out HBT.out.size hgrow2)
                  have hown2 : w2.ownsRow w3.heap.size 9 1 v2 kept.length (recV kept) := by simpa using hown2
                  have HT := Lib.hid (HT.out.keep (fun q hq => World.cell?_of_block (hgrow2.block q.block (by have e1 : q.block = _ := hq; rw [e1]; exact (Nat.lt_of_lt_of_le HGT.out (Nat.le_refl _))) (fun e => HNE.out (by have e1 : q.block = wB.heap.size := hq; rw [e1] at e; exact (Option.some.inj e).symm)))))
                  obtain ⟨A6, c6, rfl, hc6⟩ : ∃ A cap, v2 = .slice A kept.length cap ∧ kept.length ≤ cap := by
                    obtain ⟨_, A, cap, e, hc, _⟩ := S.Sg.of_own hown2
                    exact ⟨A, cap, e, hc⟩
                  have HB2 := Lib.hid hbn
                  have HO2 := Lib.hid hown2
                  clear hbn hown2 hgrow2 hsl
                  go_simp
                  refine hK.out _ _ (HSS.out _ HB2.out) (fun hHeld => ?_)
                  clear hK K
                  try simp only [Act.put, List.setIfInBounds_toArray, List.set_cons_zero, List.set_cons_succ]
                  clear hHeld
                  refine wpAnyH_ready (rs := [11]) (by kernel_rfl) (by simp) ?_
                  refine (AllReadyH.cons rfl (fun K hK => ?_) AllReadyH.nil)
                  · refine S.step_append_sg elS (by rfl) _ _ (by rfl) (base := w3.heap.size) (n := kept.length) (m := 1) (xs := recV kept) (cs := [.string ⟨l[k].rc.toArray⟩]) (by rfl) (by rfl) HO2.out HT.out (by simp [Value.oneCell']) (by omega) (by omega) HB2.out.size ?_
                    intro v4 w4 hown4 hgrow4 _
                    have hbn : Below w3.heap.size w3 w4 := HB2.out.trans (S.below_base HO2.out HB2.out.size hgrow4)
                    obtain ⟨A9, c9, rfl, hc9⟩ : ∃ A cap, v4 = .slice A (kept.length + 1) cap ∧ kept.length + 1 ≤ cap := by
                      obtain ⟨_, A, cap, e, hc, _⟩ := S.Sg.of_own hown4
                      exact ⟨A, cap, e, hc⟩
                    have HB4 := Lib.hid hbn
                    have HO4 := Lib.hid hown4
                    clear hbn hown4 hgrow4
                    go_simp
                    refine hK.out _ _ (HSS.out _ HB4.out) (fun hHeld => ?_)
                    clear hK K
                    try simp only [Act.put, List.setIfInBounds_toArray, List.set_cons_zero, List.set_cons_succ]
                    refine takeH (i := 12) (v := ?_) (some 64) rfl (by rfl) (by kernel_rfl) (by kernel_rfl) (by kernel_rfl) (fun _ _ _ h => h) (Or.inl ⟨by rfl, fun w hSw => ?_⟩) (by assumption) ?_
                    rotate_left
                    · go_simp
                      try with_reducible rfl
                    try simp only [Act.put, List.setIfInBounds_toArray, List.set_cons_zero, List.set_cons_succ]
                    clear hHeld
                    refine wpAnyH_ready (rs := [13]) (by kernel_rfl) (by simp) ?_
                    refine (AllReadyH.cons rfl (fun K hK => ?_) AllReadyH.nil)
                    · have B4 := HB3.out.step HB4.out
                      have x24 := B4.cell 2 _ rfl
                      have f24 := B4.fz 2 (by simp)
                      go_simp
                      refine hK.out _ _ (HSS0.out _ ((HB4.out.mono HZ3.out).setCell (p := ⟨X, 2, none⟩) hX0 _)) (fun hHeld => ?_)
                      clear hK K
                      try simp only [Act.put, List.setIfInBounds_toArray, List.set_cons_zero, List.set_cons_succ]
                      clear hHeld x24 f24
                      refine wpAnyH_done (by kernel_rfl) ?_ _
                      have B5 : Bk (w4.setCell ⟨X, 2, none⟩ (.slice A9 (kept.length + 1) c9)) X [.pointer (some da), .pointer (some pa), .slice A9 (kept.length + 1) c9, .slice A2 kept.length c2, .int .i64 (syn : Int)] := B4.set 2 (by simp) _
                      have hT5 : Turn (fun b => b = X) w4 (w4.setCell ⟨X, 2, none⟩ (.slice A9 (kept.length + 1) c9)) := (Turn.refl (fun b => b = X) w4).put (q := X) rfl 2 _
                      have hM5 := (HM3.out.below K HB4.out).aside K hT5 (fun b e => by subst e; exact ⟨nX3, HL.out.nX.2⟩)
                      have hS5 : S.Sg (w4.setCell ⟨X, 2, none⟩ (.slice A9 (kept.length + 1) c9)) (fun b => w3.heap.size ≤ b ∧ b < w4.heap.size) 1 (.slice A9 (kept.length + 1) c9) (kept.length + 1) (recV kept ++ [.string ⟨l[k].rc.toArray⟩]) := (S.Sg.of_own HO4.out).keep (fun q hq => hT5.cell hq.2 (fun e => by have := hq.1; have := HB3.out.lt; omega))
                      have hz5 := hT5.size
                      have hz34 := HB4.out.size
                      have hXl := HB3.out.lt
                      clear B4 hT5
                      generalize w4.setCell ⟨X, 2, none⟩ (.slice A9 (kept.length + 1) c9) = w5 at *
                      have HM5 := Lib.hid hM5
                      have HS5 := Lib.hid hS5
                      have HB5 := Lib.hid B5
                      have x3 : (w5.alloc (.cells #[] 23)).cell? ⟨X, 3, none⟩ = some (.slice A2 kept.length c2) := (B5.alloc _).cell 3 _ rfl
                      have hes5 : SlE (w5.alloc (.cells #[] 23)) Fs (.slice A2 kept.length c2) kept := hM5.es.below ((Below.refl _ _).alloc (Nat.le_refl _) _) (fun b g => (hM5.hFs b g).2.1)
                      have hoe5 : (w5.alloc (.cells #[] 23)).ownsRow w5.heap.size 23 1 (.slice (some ⟨w5.heap.size, 0, none⟩) 0 0) 0 [] := S.own_none (w := w5) _ _ rfl (Nat.le_refl _)
                      clear hM5 hS5 B5
                      go_wp2_with (at_builtin; refine S.wpList_append_sg elU rfl _ _ rfl (base := w5.heap.size) (n := 0) (m := kept.length) (xs := []) (cs := endV kept) rfl rfl hoe5 hes5 (endV_one _) (by omega) (by omega) (by simp) ?_)
                      intro v7 w7 hown7 hgrow7 _
                      have hb7 : Below w5.heap.size w5 w7 := ((Below.refl _ _).alloc (Nat.le_refl _) _).trans (S.below_base hoe5 (by simp) hgrow7)
                      have hown7 : w7.ownsRow w5.heap.size 23 1 v7 kept.length (endV kept) := by simpa using hown7
                      obtain ⟨A7, c7, rfl, hc7⟩ : ∃ A cap, v7 = .slice A kept.length cap ∧ kept.length ≤ cap := by
                        obtain ⟨_, A, cap, e, hc, _⟩ := S.Sg.of_own hown7
                        exact ⟨A, cap, e, hc⟩
                      clear hgrow7 hoe5 hes5 x3
                      go_wp2_with (at_builtin; refine S.wpList_append_sg elU rfl _ _ rfl (base := w5.heap.size) (n := kept.length) (m := 1) (xs := endV kept) (cs := [.int .u32 (told : Int)]) rfl rfl (hown7.alloc _) (sg_row1' w7 23 #[.int .u32 (told : Int)] rfl (g := w7.heap.size) rfl) (by simp [Value.oneCell']) (by omega) (by omega) (by have := hb7.size; simp <;> omega) ?_)
                      intro v8 w8 hown8 hgrow8 _
                      have hb8 : Below w5.heap.size w5 w8 := (hb7.alloc hb7.size _).trans (S.below_base (hown7.alloc _) (by have := hb7.size; simp <;> omega) hgrow8)
                      obtain ⟨A8, c8, rfl, hc8⟩ : ∃ A cap, v8 = .slice A (kept.length + 1) cap ∧ kept.length + 1 ≤ cap := by
                        obtain ⟨_, A, cap, e, hc, _⟩ := S.Sg.of_own hown8
                        exact ⟨A, cap, e, hc⟩
                      have hs8 := hb8.size
                      have B8 := HB5.out.step hb8
                      have x38 := B8.cell 3 _ rfl
                      have f38 := B8.fz 3 (by simp)
                      have hT9 : Turn (fun b => b = X) w8 (w8.setCell ⟨X, 3, none⟩ (.slice A8 (kept.length + 1) c8)) := (Turn.refl (fun b => b = X) w8).put (q := X) rfl 3 _
                      have hF3 : ∀ b, w3.heap.size ≤ b → ¬ More F wr.drew w3 b := fun b hb f => f.elim (fun f => by have := HL.out.md.rp.lt b f; omega) (fun f => by have := f.2; omega)
                      have HLN : Hid (Lr H w0 (w8.setCell ⟨X, 3, none⟩ (.slice A8 (kept.length + 1) c8)) X (.pointer (some da)) (.pointer (some pa)) (.slice A9 (kept.length + 1) c9) (.slice A8 (kept.length + 1) c8) (r.put l[k].rc) (L ++ [(r.next, l[k].rc)]) (kept ++ [(r.next, l[k].rc)]) syn (k + 1) (More F wr.drew w3) (fun b => w3.heap.size ≤ b ∧ b < w8.heap.size)) := Lib.hid (by
                        have hm := ((HM5.out.below K hb8).other (vs' := .slice A9 (kept.length + 1) c9) (ve' := .slice A8 (kept.length + 1) c8) (kept' := kept ++ [(r.next, l[k].rc)]) (Fs' := fun b => w3.heap.size ≤ b ∧ b < w8.heap.size) (by
                            show S.Sg w8 _ 1 _ (kept ++ [(r.next, l[k].rc)]).length (recV (kept ++ [(r.next, l[k].rc)]))
                            rw [List.length_append, recV_snoc]
                            exact (HS5.out.below hb8 (fun b g => by have := g.2; omega)).wider (fun b g => ⟨g.1, by have := g.2; omega⟩)) (by
                            show S.Sg w8 _ 1 _ (kept ++ [(r.next, l[k].rc)]).length (endV (kept ++ [(r.next, l[k].rc)]))
                            rw [List.length_append, endV_snoc, ← HTo.out]
                            exact (S.Sg.of_own hown8).wider (fun b g => ⟨by have := g.1; omega, g.2⟩)) (fun b g => ⟨by have := g.1; omega, g.2, hF3 b g.1⟩)).aside K hT9 (fun b e => by subst e; exact ⟨nX3, (fun g => by have := g.1; omega), HL.out.nX.2.2⟩)
                        rw [append_ok HZ.out] at hm
                        exact ⟨hm, HL.out.pm.put HZ.out hb400, B8.set 3 (by simp) _, nX3, (fun g => by have := g.1; omega), HL.out.nX.2.2⟩)
                      clear hown8 hgrow8 hown7 B8 hT9 hb7 hb8 hF3
                      go_wp2_with fail
                      go_roundw
                      case rel => exact ⟨k + 1, _, _, _, _, _, _, _, _, by omega, by go_num, HLN.out⟩
                      case measure => simp [intOf]; omega
            · go_simp
              refine hK.out _ _ (HSS.out _ (HBs.out.alloc HBs.out.size _)) (fun hHeld => ?_)
              clear hK K
              try simp only [Act.put, List.setIfInBounds_toArray, List.set_cons_zero, List.set_cons_succ]
              have hbn := HBs.out.alloc HBs.out.size (.cells #[.string ⟨l[k].rc.toArray⟩] 9)
              have htn : S.Sg (wd.alloc (.cells #[.string ⟨l[k].rc.toArray⟩] 9)) (fun b => b = wd.heap.size) 1 (.slice (some ⟨wd.heap.size, 0, none⟩) 1 1) 1 [.string ⟨l[k].rc.toArray⟩] := sg_row1' wd 9 #[.string ⟨l[k].rc.toArray⟩] rfl (g := wd.heap.size) rfl
              have hbx : Below wd.heap.size wd (wd.alloc (.cells #[.string ⟨l[k].rc.toArray⟩] 9)) := (Below.refl _ _).alloc (Nat.le_refl _) _
              have hgt : wd.heap.size < (wd.alloc (.cells #[.string ⟨l[k].rc.toArray⟩] 9)).heap.size := by rw [World.size_alloc]; exact Nat.lt_succ_self _
              clear hHeld
              generalize wd.alloc (.cells #[.string ⟨l[k].rc.toArray⟩] 9) = wT at *
              have HBT := Lib.hid hbn
              have HT := Lib.hid htn
              have HGT := Lib.hid hgt
              clear hbn htn hbx hgt
              refine wpAnyH_ready (rs := [0]) (by kernel_rfl) (by simp) ?_
              refine (AllReadyH.cons rfl (fun K hK => ?_) AllReadyH.nil)
              · go_simp
                refine hK.out _ _ (HSS.out _ (HBT.out.alloc HBT.out.size _)) (fun hHeld => ?_)
                clear hK K
                try simp only [Act.put, List.setIfInBounds_toArray, List.set_cons_zero, List.set_cons_succ]
                have hbn := HBT.out.alloc HBT.out.size (.cells #[] 9)
                have hon : (wT.alloc (.cells #[] 9)).ownsRow w3.heap.size 9 1 (.slice (some ⟨wT.heap.size, 0, none⟩) 0 0) 0 [] := S.own_none (w := wT) _ _ rfl HBT.out.size
                have hbx : Below wT.heap.size wT (wT.alloc (.cells #[] 9)) := (Below.refl _ _).alloc (Nat.le_refl _) _
                clear hHeld
                generalize wT.alloc (.cells #[] 9) = wB at *
                have HBB := Lib.hid hbn
                have HOB := Lib.hid hon
                have HxB := Lib.hid hbx.size
                have HT := Lib.hid (HT.out.below hbx (fun b g => by have := HGT.out; omega))
                have HNE := Lib.hid (show wT.heap.size ≠ wd.heap.size by have := HGT.out; omega)
                clear hbn hon hbx
                refine wpAnyH_ready (rs := [3]) (by kernel_rfl) (by simp) ?_
                refine (AllReadyH.cons rfl (fun K hK => ?_) AllReadyH.nil)
                · have hsl := HSl.out wB HBB.out
                  refine S.step_append_sg elS (by rfl) _ _ (by rfl) (base := w3.heap.size) (n := 0) (m := kept.length) (xs := []) (cs := recV kept) (by rfl) (by rfl) HOB.out hsl (recV_one _) (by omega) (by omega) HBB.out.size ?_
                  intro v2 w2 hown2 hgrow2 _
                  have hbn : Below w3.heap.size w3 w2 := HBB.out.trans (S.below_base HOB.out HBB.out.size hgrow2)
                  have hown2 : w2.ownsRow w3.heap.size 9 1 v2 kept.length (recV kept) := by simpa using hown2
                  have HT := Lib.hid (HT.out.keep (fun q hq => World.cell?_of_block (hgrow2.block q.block (by have e1 : q.block = _ := hq; rw [e1]; exact (Nat.lt_of_lt_of_le HGT.out HxB.out)) (fun e => HNE.out (by have e1 : q.block = wd.heap.size := hq; rw [e1] at e; exact (Option.some.inj e).symm)))))
                  obtain ⟨A6, c6, rfl, hc6⟩ : ∃ A cap, v2 = .slice A kept.length cap ∧ kept.length ≤ cap := by
                    obtain ⟨_, A, cap, e, hc, _⟩ := S.Sg.of_own hown2
                    exact ⟨A, cap, e, hc⟩
                  have HB2 := Lib.hid hbn
                  have HO2 := Lib.hid hown2
                  clear hbn hown2 hgrow2 hsl
                  go_simp
                  refine hK.out _ _ (HSS.out _ HB2.out) (fun hHeld => ?_)
                  clear hK K
                  try simp only [Act.put, List.setIfInBounds_toArray, List.set_cons_zero, List.set_cons_succ]
                  clear hHeld
                  refine wpAnyH_ready (rs := [11]) (by kernel_rfl) (by simp) ?_
                  refine (AllReadyH.cons rfl (fun K hK => ?_) AllReadyH.nil)
                  · refine S.step_append_sg elS (by rfl) _ _ (by rfl) (base := w3.heap.size) (n := kept.length) (m := 1) (xs := recV kept) (cs := [.string ⟨l[k].rc.toArray⟩]) (by rfl) (by rfl) HO2.out HT.out (by simp [Value.oneCell']) (by omega) (by omega) HB2.out.size ?_
                    intro v4 w4 hown4 hgrow4 _
                    have hbn : Below w3.heap.size w3 w4 := HB2.out.trans (S.below_base HO2.out HB2.out.size hgrow4)
                    obtain ⟨A9, c9, rfl, hc9⟩ : ∃ A cap, v4 = .slice A (kept.length + 1) cap ∧ kept.length + 1 ≤ cap := by
                      obtain ⟨_, A, cap, e, hc, _⟩ := S.Sg.of_own hown4
                      exact ⟨A, cap, e, hc⟩
                    have HB4 := Lib.hid hbn
                    have HO4 := Lib.hid hown4
                    clear hbn hown4 hgrow4
                    go_simp
                    refine hK.out _ _ (HSS.out _ HB4.out) (fun hHeld => ?_)
                    clear hK K
                    try simp only [Act.put, List.setIfInBounds_toArray, List.set_cons_zero, List.set_cons_succ]
                    refine takeH (i := 12) (v := ?_) (some 64) rfl (by rfl) (by kernel_rfl) (by kernel_rfl) (by kernel_rfl) (fun _ _ _ h => h) (Or.inl ⟨by rfl, fun w hSw => ?_⟩) (by assumption) ?_
                    rotate_left
                    · go_simp
                      try with_reducible rfl
                    try simp only [Act.put, List.setIfInBounds_toArray, List.set_cons_zero, List.set_cons_succ]
                    clear hHeld
                    refine wpAnyH_ready (rs := [13]) (by kernel_rfl) (by simp) ?_
                    refine (AllReadyH.cons rfl (fun K hK => ?_) AllReadyH.nil)
                    · have B4 := HB3.out.step HB4.out
                      have x24 := B4.cell 2 _ rfl
                      have f24 := B4.fz 2 (by simp)
                      go_simp
                      refine hK.out _ _ (HSS0.out _ ((HB4.out.mono HZ3.out).setCell (p := ⟨X, 2, none⟩) hX0 _)) (fun hHeld => ?_)
                      clear hK K
                      try simp only [Act.put, List.setIfInBounds_toArray, List.set_cons_zero, List.set_cons_succ]
                      clear hHeld x24 f24
                      refine wpAnyH_done (by kernel_rfl) ?_ _
                      have B5 : Bk (w4.setCell ⟨X, 2, none⟩ (.slice A9 (kept.length + 1) c9)) X [.pointer (some da), .pointer (some pa), .slice A9 (kept.length + 1) c9, .slice A2 kept.length c2, .int .i64 (syn : Int)] := B4.set 2 (by simp) _
                      have hT5 : Turn (fun b => b = X) w4 (w4.setCell ⟨X, 2, none⟩ (.slice A9 (kept.length + 1) c9)) := (Turn.refl (fun b => b = X) w4).put (q := X) rfl 2 _
                      have hM5 := (HM3.out.below K HB4.out).aside K hT5 (fun b e => by subst e; exact ⟨nX3, HL.out.nX.2⟩)
                      have hS5 : S.Sg (w4.setCell ⟨X, 2, none⟩ (.slice A9 (kept.length + 1) c9)) (fun b => w3.heap.size ≤ b ∧ b < w4.heap.size) 1 (.slice A9 (kept.length + 1) c9) (kept.length + 1) (recV kept ++ [.string ⟨l[k].rc.toArray⟩]) := (S.Sg.of_own HO4.out).keep (fun q hq => hT5.cell hq.2 (fun e => by have := hq.1; have := HB3.out.lt; omega))
                      have hz5 := hT5.size
                      have hz34 := HB4.out.size
                      have hXl := HB3.out.lt
                      clear B4 hT5
                      generalize w4.setCell ⟨X, 2, none⟩ (.slice A9 (kept.length + 1) c9) = w5 at *
                      have HM5 := Lib.hid hM5
                      have HS5 := Lib.hid hS5
                      have HB5 := Lib.hid B5
                      have x3 : (w5.alloc (.cells #[] 23)).cell? ⟨X, 3, none⟩ = some (.slice A2 kept.length c2) := (B5.alloc _).cell 3 _ rfl
                      have hes5 : SlE (w5.alloc (.cells #[] 23)) Fs (.slice A2 kept.length c2) kept := hM5.es.below ((Below.refl _ _).alloc (Nat.le_refl _) _) (fun b g => (hM5.hFs b g).2.1)
                      have hoe5 : (w5.alloc (.cells #[] 23)).ownsRow w5.heap.size 23 1 (.slice (some ⟨w5.heap.size, 0, none⟩) 0 0) 0 [] := S.own_none (w := w5) _ _ rfl (Nat.le_refl _)
                      clear hM5 hS5 B5
                      go_wp2_with (at_builtin; refine S.wpList_append_sg elU rfl _ _ rfl (base := w5.heap.size) (n := 0) (m := kept.length) (xs := []) (cs := endV kept) rfl rfl hoe5 hes5 (endV_one _) (by omega) (by omega) (by simp) ?_)
                      intro v7 w7 hown7 hgrow7 _
                      have hb7 : Below w5.heap.size w5 w7 := ((Below.refl _ _).alloc (Nat.le_refl _) _).trans (S.below_base hoe5 (by simp) hgrow7)
                      have hown7 : w7.ownsRow w5.heap.size 23 1 v7 kept.length (endV kept) := by simpa using hown7
                      obtain ⟨A7, c7, rfl, hc7⟩ : ∃ A cap, v7 = .slice A kept.length cap ∧ kept.length ≤ cap := by
                        obtain ⟨_, A, cap, e, hc, _⟩ := S.Sg.of_own hown7
                        exact ⟨A, cap, e, hc⟩
                      clear hgrow7 hoe5 hes5 x3
                      go_wp2_with (at_builtin; refine S.wpList_append_sg elU rfl _ _ rfl (base := w5.heap.size) (n := kept.length) (m := 1) (xs := endV kept) (cs := [.int .u32 (told : Int)]) rfl rfl (hown7.alloc _) (sg_row1' w7 23 #[.int .u32 (told : Int)] rfl (g := w7.heap.size) rfl) (by simp [Value.oneCell']) (by omega) (by omega) (by have := hb7.size; simp <;> omega) ?_)
                      intro v8 w8 hown8 hgrow8 _
                      have hb8 : Below w5.heap.size w5 w8 := (hb7.alloc hb7.size _).trans (S.below_base (hown7.alloc _) (by have := hb7.size; simp <;> omega) hgrow8)
                      obtain ⟨A8, c8, rfl, hc8⟩ : ∃ A cap, v8 = .slice A (kept.length + 1) cap ∧ kept.length + 1 ≤ cap := by
                        obtain ⟨_, A, cap, e, hc, _⟩ := S.Sg.of_own hown8
                        exact ⟨A, cap, e, hc⟩
                      have hs8 := hb8.size
                      have B8 := HB5.out.step hb8
                      have x38 := B8.cell 3 _ rfl
                      have f38 := B8.fz 3 (by simp)
                      have hT9 : Turn (fun b => b = X) w8 (w8.setCell ⟨X, 3, none⟩ (.slice A8 (kept.length + 1) c8)) := (Turn.refl (fun b => b = X) w8).put (q := X) rfl 3 _
                      have hF3 : ∀ b, w3.heap.size ≤ b → ¬ More F wr.drew w3 b := fun b hb f => f.elim (fun f => by have := HL.out.md.rp.lt b f; omega) (fun f => by have := f.2; omega)
                      have HLN : Hid (Lr H w0 (w8.setCell ⟨X, 3, none⟩ (.slice A8 (kept.length + 1) c8)) X (.pointer (some da)) (.pointer (some pa)) (.slice A9 (kept.length + 1) c9) (.slice A8 (kept.length + 1) c8) (r.put l[k].rc) (L ++ [(r.next, l[k].rc)]) (kept ++ [(r.next, l[k].rc)]) syn (k + 1) (More F wr.drew w3) (fun b => w3.heap.size ≤ b ∧ b < w8.heap.size)) := Lib.hid (by
                        have hm := ((HM5.out.below K hb8).other (vs' := .slice A9 (kept.length + 1) c9) (ve' := .slice A8 (kept.length + 1) c8) (kept' := kept ++ [(r.next, l[k].rc)]) (Fs' := fun b => w3.heap.size ≤ b ∧ b < w8.heap.size) (by
                            show S.Sg w8 _ 1 _ (kept ++ [(r.next, l[k].rc)]).length (recV (kept ++ [(r.next, l[k].rc)]))
                            rw [List.length_append, recV_snoc]
                            exact (HS5.out.below hb8 (fun b g => by have := g.2; omega)).wider (fun b g => ⟨g.1, by have := g.2; omega⟩)) (by
                            show S.Sg w8 _ 1 _ (kept ++ [(r.next, l[k].rc)]).length (endV (kept ++ [(r.next, l[k].rc)]))
                            rw [List.length_append, endV_snoc, ← HTo.out]
                            exact (S.Sg.of_own hown8).wider (fun b g => ⟨by have := g.1; omega, g.2⟩)) (fun b g => ⟨by have := g.1; omega, g.2, hF3 b g.1⟩)).aside K hT9 (fun b e => by subst e; exact ⟨nX3, (fun g => by have := g.1; omega), HL.out.nX.2.2⟩)
                        rw [append_ok HZ.out] at hm
                        exact ⟨hm, HL.out.pm.put HZ.out hb400, B8.set 3 (by simp) _, nX3, (fun g => by have := g.1; omega), HL.out.nX.2.2⟩)
                      clear hown8 hgrow8 hown7 B8 hT9 hb7 hb8 hF3
                      go_wp2_with fail
                      go_roundw
                      case rel => exact ⟨k + 1, _, _, _, _, _, _, _, _, by omega, by go_num, HLN.out⟩
                      case measure => simp [intOf]; omega
          · go_simp
            refine hK.out _ _ (HSS.out _ (HBs.out.alloc HBs.out.size _)) (fun hHeld => ?_)
            clear hK K
            try simp only [Act.put, List.setIfInBounds_toArray, List.set_cons_zero, List.set_cons_succ]
            have hbn := HBs.out.alloc HBs.out.size (.cells #[.string ⟨l[k].rc.toArray⟩] 9)
            have htn : S.Sg (wd.alloc (.cells #[.string ⟨l[k].rc.toArray⟩] 9)) (fun b => b = wd.heap.size) 1 (.slice (some ⟨wd.heap.size, 0, none⟩) 1 1) 1 [.string ⟨l[k].rc.toArray⟩] := sg_row1' wd 9 #[.string ⟨l[k].rc.toArray⟩] rfl (g := wd.heap.size) rfl
            have hbx : Below wd.heap.size wd (wd.alloc (.cells #[.string ⟨l[k].rc.toArray⟩] 9)) := (Below.refl _ _).alloc (Nat.le_refl _) _
            have hgt : wd.heap.size < (wd.alloc (.cells #[.string ⟨l[k].rc.toArray⟩] 9)).heap.size := by rw [World.size_alloc]; exact Nat.lt_succ_self _
            clear hHeld
            generalize wd.alloc (.cells #[.string ⟨l[k].rc.toArray⟩] 9) = wT at *
            have HBT := Lib.hid hbn
            have HT := Lib.hid htn
            have HGT := Lib.hid hgt
            clear hbn htn hbx hgt
            refine wpAnyH_ready (rs := [0, 2]) (by kernel_rfl) (by simp) ?_
            refine (AllReadyH.cons rfl (fun K hK => ?_) (AllReadyH.cons rfl (fun K hK => ?_) AllReadyH.nil))
            · go_simp
              refine hK.out _ _ (HSS.out _ (HBT.out.alloc HBT.out.size _)) (fun hHeld => ?_)
              clear hK K
              try simp only [Act.put, List.setIfInBounds_toArray, List.set_cons_zero, List.set_cons_succ]
              have hbn := HBT.out.alloc HBT.out.size (.cells #[] 9)
              have hon : (wT.alloc (.cells #[] 9)).ownsRow w3.heap.size 9 1 (.slice (some ⟨wT.heap.size, 0, none⟩) 0 0) 0 [] := S.own_none (w := wT) _ _ rfl HBT.out.size
              have hbx : Below wT.heap.size wT (wT.alloc (.cells #[] 9)) := (Below.refl _ _).alloc (Nat.le_refl _) _
              clear hHeld
              generalize wT.alloc (.cells #[] 9) = wB at *
              have HBB := Lib.hid hbn
              have HOB := Lib.hid hon
              have HxB := Lib.hid hbx.size
              have HT := Lib.hid (HT.out.below hbx (fun b g => by have := HGT.out; omega))
              have HNE := Lib.hid (show wT.heap.size ≠ wd.heap.size by have := HGT.out; omega)
              clear hbn hon hbx
              refine wpAnyH_ready (rs := [2]) (by kernel_rfl) (by simp) ?_
              refine (AllReadyH.cons rfl (fun K hK => ?_) AllReadyH.nil)
              · have hx2 := HX2.out wB HBB.out
                go_simp
                go_wp2_with fail
                refine hK.out _ _ (HSS.out _ HBB.out) (fun hHeld => ?_)
                clear hK K
                try simp only [Act.put, List.setIfInBounds_toArray, List.set_cons_zero, List.set_cons_succ]
                clear hx2 hHeld
                refine wpAnyH_ready (rs := [3]) (by kernel_rfl) (by simp) ?_
                refine (AllReadyH.cons rfl (fun K hK => ?_) AllReadyH.nil)
                · have hsl := HSl.out wB HBB.out
                  refine S.step_append_sg elS (by rfl) _ _ (by rfl) (base := w3.heap.size) (n := 0) (m := kept.length) (xs := []) (cs := recV kept) (by rfl) (by rfl) HOB.out hsl (recV_one _) (by omega) (by omega) HBB.out.size ?_
                  intro v2 w2 hown2 hgrow2 _
                  have hbn : Below w3.heap.size w3 w2 := HBB.out.trans (S.below_base HOB.out HBB.out.size hgrow2)
                  have hown2 : w2.ownsRow w3.heap.size 9 1 v2 kept.length (recV kept) := by simpa using hown2
                  have HT := Lib.hid (HT.out.keep (fun q hq => World.cell?_of_block (hgrow2.block q.block (by have e1 : q.block = _ := hq; rw [e1]; exact (Nat.lt_of_lt_of_le HGT.out HxB.out)) (fun e => HNE.out (by have e1 : q.block = wd.heap.size := hq; rw [e1] at e; exact (Option.some.inj e).symm)))))
                  obtain ⟨A6, c6, rfl, hc6⟩ : ∃ A cap, v2 = .slice A kept.length cap ∧ kept.length ≤ cap := by
                    obtain ⟨_, A, cap, e, hc, _⟩ := S.Sg.of_own hown2
                    exact ⟨A, cap, e, hc⟩
                  have HB2 := Lib.hid hbn
                  have HO2 := Lib.hid hown2
                  clear hbn hown2 hgrow2 hsl
                  go_simp
                  refine hK.out _ _ (HSS.out _ HB2.out) (fun hHeld => ?_)
                  clear hK K
                  try simp only [Act.put, List.setIfInBounds_toArray, List.set_cons_zero, List.set_cons_succ]
                  clear hHeld
                  refine wpAnyH_ready (rs := [11]) (by kernel_rfl) (by simp) ?_
                  refine (AllReadyH.cons rfl (fun K hK => ?_) AllReadyH.nil)
                  · refine S.step_append_sg elS (by rfl) _ _ (by rfl) (base := w3.heap.size) (n := kept.length) (m := 1) (xs := recV kept) (cs := [.string ⟨l[k].rc.toArray⟩]) (by rfl) (by rfl) HO2.out HT.out (by simp [Value.oneCell']) (by omega) (by omega) HB2.out.size ?_
                    intro v4 w4 hown4 hgrow4 _
                    have hbn : Below w3.heap.size w3 w4 := HB2.out.trans (S.below_base HO2.out HB2.out.size hgrow4)
                    obtain ⟨A9, c9, rfl, hc9⟩ : ∃ A cap, v4 = .slice A (kept.length + 1) cap ∧ kept.length + 1 ≤ cap := by
                      obtain ⟨_, A, cap, e, hc, _⟩ := S.Sg.of_own hown4
                      exact ⟨A, cap, e, hc⟩
                    have HB4 := Lib.hid hbn
                    have HO4 := Lib.hid hown4
                    clear hbn hown4 hgrow4
                    go_simp
                    refine hK.out _ _ (HSS.out _ HB4.out) (fun hHeld => ?_)
                    clear hK K
                    try simp only [Act.put, List.setIfInBounds_toArray, List.set_cons_zero, List.set_cons_succ]
                    refine takeH (i := 12) (v := ?_) (some 64) rfl (by rfl) (by kernel_rfl) (by kernel_rfl) (by kernel_rfl) (fun _ _ _ h => h) (Or.inl ⟨by rfl, fun w hSw => ?_⟩) (by assumption) ?_
                    rotate_left
                    · go_simp
                      try with_reducible rfl
                    try simp only [Act.put, List.setIfInBounds_toArray, List.set_cons_zero, List.set_cons_succ]
                    clear hHeld
                    refine wpAnyH_ready (rs := [13]) (by kernel_rfl) (by simp) ?_
                    refine (AllReadyH.cons rfl (fun K hK => ?_) AllReadyH.nil)
                    · have B4 := HB3.out.step HB4.out
                      have x24 := B4.cell 2 _ rfl
                      have f24 := B4.fz 2 (by simp)
                      go_simp
                      refine hK.out _ _ (HSS0.out _ ((HB4.out.mono HZ3.out).setCell (p := ⟨X, 2, none⟩) hX0 _)) (fun hHeld => ?_)
                      clear hK K
                      try simp only [Act.put, List.setIfInBounds_toArray, List.set_cons_zero, List.set_cons_succ]
                      clear hHeld x24 f24
                      refine wpAnyH_done (by kernel_rfl) ?_ _
                      have B5 : Bk (w4.setCell ⟨X, 2, none⟩ (.slice A9 (kept.length + 1) c9)) X [.pointer (some da), .pointer (some pa), .slice A9 (kept.length + 1) c9, .slice A2 kept.length c2, .int .i64 (syn : Int)] := B4.set 2 (by simp) _
                      have hT5 : Turn (fun b => b = X) w4 (w4.setCell ⟨X, 2, none⟩ (.slice A9 (kept.length + 1) c9)) := (Turn.refl (fun b => b = X) w4).put (q := X) rfl 2 _
                      have hM5 := (HM3.out.below K HB4.out).aside K hT5 (fun b e => by subst e; exact ⟨nX3, HL.out.nX.2⟩)
                      have hS5 : S.Sg (w4.setCell ⟨X, 2, none⟩ (.slice A9 (kept.length + 1) c9)) (fun b => w3.heap.size ≤ b ∧ b < w4.heap.size) 1 (.slice A9 (kept.length + 1) c9) (kept.length + 1) (recV kept ++ [.string ⟨l[k].rc.toArray⟩]) := (S.Sg.of_own HO4.out).keep (fun q hq => hT5.cell hq.2 (fun e => by have := hq.1; have := HB3.out.lt; omega))
                      have hz5 := hT5.size
                      have hz34 := HB4.out.size
                      have hXl := HB3.out.lt
                      clear B4 hT5
                      generalize w4.setCell ⟨X, 2, none⟩ (.slice A9 (kept.length + 1) c9) = w5 at *
                      have HM5 := Lib.hid hM5
                      have HS5 := Lib.hid hS5
                      have HB5 := Lib.hid B5
                      have x3 : (w5.alloc (.cells #[] 23)).cell? ⟨X, 3, none⟩ = some (.slice A2 kept.length c2) := (B5.alloc _).cell 3 _ rfl
                      have hes5 : SlE (w5.alloc (.cells #[] 23)) Fs (.slice A2 kept.length c2) kept := hM5.es.below ((Below.refl _ _).alloc (Nat.le_refl _) _) (fun b g => (hM5.hFs b g).2.1)
                      have hoe5 : (w5.alloc (.cells #[] 23)).ownsRow w5.heap.size 23 1 (.slice (some ⟨w5.heap.size, 0, none⟩) 0 0) 0 [] := S.own_none (w := w5) _ _ rfl (Nat.le_refl _)
                      clear hM5 hS5 B5
                      go_wp2_with (at_builtin; refine S.wpList_append_sg elU rfl _ _ rfl (base := w5.heap.size) (n := 0) (m := kept.length) (xs := []) (cs := endV kept) rfl rfl hoe5 hes5 (endV_one _) (by omega) (by omega) (by simp) ?_)
                      intro v7 w7 hown7 hgrow7 _
                      have hb7 : Below w5.heap.size w5 w7 := ((Below.refl _ _).alloc (Nat.le_refl _) _).trans (S.below_base hoe5 (by simp) hgrow7)
                      have hown7 : w7.ownsRow w5.heap.size 23 1 v7 kept.length (endV kept) := by simpa using hown7
                      obtain ⟨A7, c7, rfl, hc7⟩ : ∃ A cap, v7 = .slice A kept.length cap ∧ kept.length ≤ cap := by
                        obtain ⟨_, A, cap, e, hc, _⟩ := S.Sg.of_own hown7
                        exact ⟨A, cap, e, hc⟩
                      clear hgrow7 hoe5 hes5 x3
                      go_wp2_with (at_builtin; refine S.wpList_append_sg elU rfl _ _ rfl (base := w5.heap.size) (n := kept.length) (m := 1) (xs := endV kept) (cs := [.int .u32 (told : Int)]) rfl rfl (hown7.alloc _) (sg_row1' w7 23 #[.int .u32 (told : Int)] rfl (g := w7.heap.size) rfl) (by simp [Value.oneCell']) (by omega) (by omega) (by have := hb7.size; simp <;> omega) ?_)
                      intro v8 w8 hown8 hgrow8 _
                      have hb8 : Below w5.heap.size w5 w8 := (hb7.alloc hb7.size _).trans (S.below_base (hown7.alloc _) (by have := hb7.size; simp <;> omega) hgrow8)
                      obtain ⟨A8, c8, rfl, hc8⟩ : ∃ A cap, v8 = .slice A (kept.length + 1) cap ∧ kept.length + 1 ≤ cap := by
                        obtain ⟨_, A, cap, e, hc, _⟩ := S.Sg.of_own hown8
                        exact ⟨A, cap, e, hc⟩
                      have hs8 := hb8.size
                      have B8 := HB5.out.step hb8
                      have x38 := B8.cell 3 _ rfl
                      have f38 := B8.fz 3 (by simp)
                      have hT9 : Turn (fun b => b = X) w8 (w8.setCell ⟨X, 3, none⟩ (.slice A8 (kept.length + 1) c8)) := (Turn.refl (fun b => b = X) w8).put (q := X) rfl 3 _
                      have hF3 : ∀ b, w3.heap.size ≤ b → ¬ More F wr.drew w3 b := fun b hb f => f.elim (fun f => by have := HL.out.md.rp.lt b f; omega) (fun f => by have := f.2; omega)
                      have HLN : Hid (Lr H w0 (w8.setCell ⟨X, 3, none⟩ (.slice A8 (kept.length + 1) c8)) X (.pointer (some da)) (.pointer (some pa)) (.slice A9 (kept.length + 1) c9) (.slice A8 (kept.length + 1) c8) (r.put l[k].rc) (L ++ [(r.next, l[k].rc)]) (kept ++ [(r.next, l[k].rc)]) syn (k + 1) (More F wr.drew w3) (fun b => w3.heap.size ≤ b ∧ b < w8.heap.size)) := Lib.hid (by
                        have hm := ((HM5.out.below K hb8).other (vs' := .slice A9 (kept.length + 1) c9) (ve' := .slice A8 (kept.length + 1) c8) (kept' := kept ++ [(r.next, l[k].rc)]) (Fs' := fun b => w3.heap.size ≤ b ∧ b < w8.heap.size) (by
                            show S.Sg w8 _ 1 _ (kept ++ [(r.next, l[k].rc)]).length (recV (kept ++ [(r.next, l[k].rc)]))
                            rw [List.length_append, recV_snoc]
                            exact (HS5.out.below hb8 (fun b g => by have := g.2; omega)).wider (fun b g => ⟨g.1, by have := g.2; omega⟩)) (by
                            show S.Sg w8 _ 1 _ (kept ++ [(r.next, l[k].rc)]).length (endV (kept ++ [(r.next, l[k].rc)]))
                            rw [List.length_append, endV_snoc, ← HTo.out]
                            exact (S.Sg.of_own hown8).wider (fun b g => ⟨by have := g.1; omega, g.2⟩)) (fun b g => ⟨by have := g.1; omega, g.2, hF3 b g.1⟩)).aside K hT9 (fun b e => by subst e; exact ⟨nX3, (fun g => by have := g.1; omega), HL.out.nX.2.2⟩)
                        rw [append_ok HZ.out] at hm
                        exact ⟨hm, HL.out.pm.put HZ.out hb400, B8.set 3 (by simp) _, nX3, (fun g => by have := g.1; omega), HL.out.nX.2.2⟩)
                      clear hown8 hgrow8 hown7 B8 hT9 hb7 hb8 hF3
                      go_wp2_with fail
                      go_roundw
                      case rel => exact ⟨k + 1, _, _, _, _, _, _, _, _, by omega, by go_num, HLN.out⟩
                      case measure => simp [intOf]; omega
            · have hx2 := HX2.out wT HBT.out
              go_simp
              go_wp2_with fail
              refine hK.out _ _ (HSS.out _ HBT.out) (fun hHeld => ?_)
              clear hK K
              try simp only [Act.put, List.setIfInBounds_toArray, List.set_cons_zero, List.set_cons_succ]
              clear hx2 hHeld
              refine wpAnyH_ready (rs := [0]) (by kernel_rfl) (by simp) ?_
              refine (AllReadyH.cons rfl (fun K hK => ?_) AllReadyH.nil)
              · go_simp
                refine hK.out _ _ (HSS.out _ (HBT.out.alloc HBT.out.size _)) (fun hHeld => ?_)
                clear hK K
                try simp only [Act.put, List.setIfInBounds_toArray, List.set_cons_zero, List.set_cons_succ]
                have hbn := HBT.out.alloc HBT.out.size (.cells #[] 9)
                have hon : (wT.alloc (.cells #[] 9)).ownsRow w3.heap.size 9 1 (.slice (some ⟨wT.heap.size, 0, none⟩) 0 0) 0 [] := S.own_none (w := wT) _ _ rfl HBT.out.size
                have hbx : Below wT.heap.size wT (wT.alloc (.cells #[] 9)) := (Below.refl _ _).alloc (Nat.le_refl _) _
                clear hHeld
                generalize wT.alloc (.cells #[] 9) = wB at *
                have HBB := Lib.hid hbn
                have HOB := Lib.hid hon
                have HxB := Lib.hid hbx.size
                have HT := Lib.hid (HT.out.below hbx (fun b g => by have := HGT.out; omega))
                have HNE := Lib.hid (show wT.heap.size ≠ wd.heap.size by have := HGT.out; omega)
                clear hbn hon hbx
                refine wpAnyH_ready (rs := [3]) (by kernel_rfl) (by simp) ?_
                refine (AllReadyH.cons rfl (fun K hK => ?_) AllReadyH.nil)
                · have hsl := HSl.out wB HBB.out
                  refine S.step_append_sg elS (by rfl) _ _ (by rfl) (base := w3.heap.size) (n := 0) (m := kept.length) (xs := []) (cs := recV kept) (by rfl) (by rfl) HOB.out hsl (recV_one _) (by omega) (by omega) HBB.out.size ?_
                  intro v2 w2 hown2 hgrow2 _
                  have hbn : Below w3.heap.size w3 w2 := HBB.out.trans (S.below_base HOB.out HBB.out.size hgrow2)
                  have hown2 : w2.ownsRow w3.heap.size 9 1 v2 kept.length (recV kept) := by simpa using hown2
                  have HT := Lib.hid (HT.out.keep (fun q hq => World.cell?_of_block (hgrow2.block q.block (by have e1 : q.block = _ := hq; rw [e1]; exact (Nat.lt_of_lt_of_le HGT.out HxB.out)) (fun e => HNE.out (by have e1 : q.block = wd.heap.size := hq; rw [e1] at e; exact (Option.some.inj e).symm)))))
                  obtain ⟨A6, c6, rfl, hc6⟩ : ∃ A cap, v2 = .slice A kept.length cap ∧ kept.length ≤ cap := by
                    obtain ⟨_, A, cap, e, hc, _⟩ := S.Sg.of_own hown2
                    exact ⟨A, cap, e, hc⟩
                  have HB2 := Lib.hid hbn
                  have HO2 := Lib.hid hown2
                  clear hbn hown2 hgrow2 hsl
                  go_simp
                  refine hK.out _ _ (HSS.out _ HB2.out) (fun hHeld => ?_)
                  clear hK K
                  try simp only [Act.put, List.setIfInBounds_toArray, List.set_cons_zero, List.set_cons_succ]
                  clear hHeld
                  refine wpAnyH_ready (rs := [11]) (by kernel_rfl) (by simp) ?_
                  refine (AllReadyH.cons rfl (fun K hK => ?_) AllReadyH.nil)
                  · refine S.step_append_sg elS (by rfl) _ _ (by rfl) (base := w3.heap.size) (n := kept.length) (m := 1) (xs := recV kept) (cs := [.string ⟨l[k].rc.toArray⟩]) (by rfl) (by rfl) HO2.out HT.out (by simp [Value.oneCell']) (by omega) (by omega) HB2.out.size ?_
                    intro v4 w4 hown4 hgrow4 _
                    have hbn : Below w3.heap.size w3 w4 := HB2.out.trans (S.below_base HO2.out HB2.out.size hgrow4)
                    obtain ⟨A9, c9, rfl, hc9⟩ : ∃ A cap, v4 = .slice A (kept.length + 1) cap ∧ kept.length + 1 ≤ cap := by
                      obtain ⟨_, A, cap, e, hc, _⟩ := S.Sg.of_own hown4
                      exact ⟨A, cap, e, hc⟩
                    have HB4 := Lib.hid hbn
                    have HO4 := Lib.hid hown4
                    clear hbn hown4 hgrow4
                    go_simp
                    refine hK.out _ _ (HSS.out _ HB4.out) (fun hHeld => ?_)
                    clear hK K
                    try simp only [Act.put, List.setIfInBounds_toArray, List.set_cons_zero, List.set_cons_succ]
                    refine takeH (i := 12) (v := ?_) (some 64) rfl (by rfl) (by kernel_rfl) (by kernel_rfl) (by kernel_rfl) (fun _ _ _ h => h) (Or.inl ⟨by rfl, fun w hSw => ?_⟩) (by assumption) ?_
                    rotate_left
                    · go_simp
                      try with_reducible rfl
                    try simp only [Act.put, List.setIfInBounds_toArray, List.set_cons_zero, List.set_cons_succ]
                    clear hHeld
                    refine wpAnyH_ready (rs := [13]) (by kernel_rfl) (by simp) ?_
                    refine (AllReadyH.cons rfl (fun K hK => ?_) AllReadyH.nil)
                    · have B4 := HB3.out.step HB4.out
                      have x24 := B4.cell 2 _ rfl
                      have f24 := B4.fz 2 (by simp)
                      go_simp
                      refine hK.out _ _ (HSS0.out _ ((HB4.out.mono HZ3.out).setCell (p := ⟨X, 2, none⟩) hX0 _)) (fun hHeld => ?_)
                      clear hK K
                      try simp only [Act.put, List.setIfInBounds_toArray, List.set_cons_zero, List.set_cons_succ]
                      clear hHeld x24 f24
                      refine wpAnyH_done (by kernel_rfl) ?_ _
                      have B5 : Bk (w4.setCell ⟨X, 2, none⟩ (.slice A9 (kept.length + 1) c9)) X [.pointer (some da), .pointer (some pa), .slice A9 (kept.length + 1) c9, .slice A2 kept.length c2, .int .i64 (syn : Int)] := B4.set 2 (by simp) _
                      have hT5 : Turn (fun b => b = X) w4 (w4.setCell ⟨X, 2, none⟩ (.slice A9 (kept.length + 1) c9)) := (Turn.refl (fun b => b = X) w4).put (q := X) rfl 2 _
                      have hM5 := (HM3.out.below K HB4.out).aside K hT5 (fun b e => by subst e; exact ⟨nX3, HL.out.nX.2⟩)
                      have hS5 : S.Sg (w4.setCell ⟨X, 2, none⟩ (.slice A9 (kept.length + 1) c9)) (fun b => w3.heap.size ≤ b ∧ b < w4.heap.size) 1 (.slice A9 (kept.length + 1) c9) (kept.length + 1) (recV kept ++ [.string ⟨l[k].rc.toArray⟩]) := (S.Sg.of_own HO4.out).keep (fun q hq => hT5.cell hq.2 (fun e => by have := hq.1; have := HB3.out.lt; omega))
                      have hz5 := hT5.size
                      have hz34 := HB4.out.size
                      have hXl := HB3.out.lt
                      clear B4 hT5
                      generalize w4.setCell ⟨X, 2, none⟩ (.slice A9 (kept.length + 1) c9) = w5 at *
                      have HM5 := Lib.hid hM5
                      have HS5 := Lib.hid hS5
                      have HB5 := Lib.hid B5
                      have x3 : (w5.alloc (.cells #[] 23)).cell? ⟨X, 3, none⟩ = some (.slice A2 kept.length c2) := (B5.alloc _).cell 3 _ rfl
                      have hes5 : SlE (w5.alloc (.cells #[] 23)) Fs (.slice A2 kept.length c2) kept := hM5.es.below ((Below.refl _ _).alloc (Nat.le_refl _) _) (fun b g => (hM5.hFs b g).2.1)
                      have hoe5 : (w5.alloc (.cells #[] 23)).ownsRow w5.heap.size 23 1 (.slice (some ⟨w5.heap.size, 0, none⟩) 0 0) 0 [] := S.own_none (w := w5) _ _ rfl (Nat.le_refl _)
                      clear hM5 hS5 B5
                      go_wp2_with (at_builtin; refine S.wpList_append_sg elU rfl _ _ rfl (base := w5.heap.size) (n := 0) (m := kept.length) (xs := []) (cs := endV kept) rfl rfl hoe5 hes5 (endV_one _) (by omega) (by omega) (by simp) ?_)
                      intro v7 w7 hown7 hgrow7 _
                      have hb7 : Below w5.heap.size w5 w7 := ((Below.refl _ _).alloc (Nat.le_refl _) _).trans (S.below_base hoe5 (by simp) hgrow7)
                      have hown7 : w7.ownsRow w5.heap.size 23 1 v7 kept.length (endV kept) := by simpa using hown7
                      obtain ⟨A7, c7, rfl, hc7⟩ : ∃ A cap, v7 = .slice A kept.length cap ∧ kept.length ≤ cap := by
                        obtain ⟨_, A, cap, e, hc, _⟩ := S.Sg.of_own hown7
                        exact ⟨A, cap, e, hc⟩
                      clear hgrow7 hoe5 hes5 x3
                      go_wp2_with (at_builtin; refine S.wpList_append_sg elU rfl _ _ rfl (base := w5.heap.size) (n := kept.length) (m := 1) (xs := endV kept) (cs := [.int .u32 (told : Int)]) rfl rfl (hown7.alloc _) (sg_row1' w7 23 #[.int .u32 (told : Int)] rfl (g := w7.heap.size) rfl) (by simp [Value.oneCell']) (by omega) (by omega) (by have := hb7.size; simp <;> omega) ?_)
                      intro v8 w8 hown8 hgrow8 _
                      have hb8 : Below w5.heap.size w5 w8 := (hb7.alloc hb7.size _).trans (S.below_base (hown7.alloc _) (by have := hb7.size; simp <;> omega) hgrow8)
                      obtain ⟨A8, c8, rfl, hc8⟩ : ∃ A cap, v8 = .slice A (kept.length + 1) cap ∧ kept.length + 1 ≤ cap := by
                        obtain ⟨_, A, cap, e, hc, _⟩ := S.Sg.of_own hown8
                        exact ⟨A, cap, e, hc⟩
                      have hs8 := hb8.size
                      have B8 := HB5.out.step hb8
                      have x38 := B8.cell 3 _ rfl
                      have f38 := B8.fz 3 (by simp)
                      have hT9 : Turn (fun b => b = X) w8 (w8.setCell ⟨X, 3, none⟩ (.slice A8 (kept.length + 1) c8)) := (Turn.refl (fun b => b = X) w8).put (q := X) rfl 3 _
                      have hF3 : ∀ b, w3.heap.size ≤ b → ¬ More F wr.drew w3 b := fun b hb f => f.elim (fun f => by have := HL.out.md.rp.lt b f; omega) (fun f => by have := f.2; omega)
                      have HLN : Hid (Lr H w0 (w8.setCell ⟨X, 3, none⟩ (.slice A8 (kept.length + 1) c8)) X (.pointer (some da)) (.pointer (some pa)) (.slice A9 (kept.length + 1) c9) (.slice A8 (kept.length + 1) c8) (r.put l[k].rc) (L ++ [(r.next, l[k].rc)]) (kept ++ [(r.next, l[k].rc)]) syn (k + 1) (More F wr.drew w3) (fun b => w3.heap.size ≤ b ∧ b < w8.heap.size)) := Lib.hid (by
                        have hm := ((HM5.out.below K hb8).other (vs' := .slice A9 (kept.length + 1) c9) (ve' := .slice A8 (kept.length + 1) c8) (kept' := kept ++ [(r.next, l[k].rc)]) (Fs' := fun b => w3.heap.size ≤ b ∧ b < w8.heap.size) (by
                            show S.Sg w8 _ 1 _ (kept ++ [(r.next, l[k].rc)]).length (recV (kept ++ [(r.next, l[k].rc)]))
                            rw [List.length_append, recV_snoc]
                            exact (HS5.out.below hb8 (fun b g => by have := g.2; omega)).wider (fun b g => ⟨g.1, by have := g.2; omega⟩)) (by
                            show S.Sg w8 _ 1 _ (kept ++ [(r.next, l[k].rc)]).length (endV (kept ++ [(r.next, l[k].rc)]))
                            rw [List.length_append, endV_snoc, ← HTo.out]
                            exact (S.Sg.of_own hown8).wider (fun b g => ⟨by have := g.1; omega, g.2⟩)) (fun b g => ⟨by have := g.1; omega, g.2, hF3 b g.1⟩)).aside K hT9 (fun b e => by subst e; exact ⟨nX3, (fun g => by have := g.1; omega), HL.out.nX.2.2⟩)
                        rw [append_ok HZ.out] at hm
                        exact ⟨hm, HL.out.pm.put HZ.out hb400, B8.set 3 (by simp) _, nX3, (fun g => by have := g.1; omega), HL.out.nX.2.2⟩)
                      clear hown8 hgrow8 hown7 B8 hT9 hb7 hb8 hF3
                      go_wp2_with fail
                      go_roundw
                      case rel => exact ⟨k + 1, _, _, _, _, _, _, _, _, by omega, by go_num, HLN.out⟩
                      case measure => simp [intOf]; omega
        · have hz' : (err == 0) = false := by simpa using hz
          have HAN := Lib.hid (append_no (show r.err l[k].rc ≠ 0 by rw [← HTE.out.2]; exact hz))
          have HLN : Hid (Lr H w0 w3 X (.pointer (some da)) (.pointer (some pa)) (.slice A1 kept.length c1) (.slice A2 kept.length c2) r L kept syn (k + 1) (More F wr.drew w3) Fs) := Lib.hid ⟨by have := HM3.out; rw [HAN.out] at this; exact this, HL.out.pm.more, B3, nX3, HL.out.nX.2⟩
          clear hz B3
          go_wp2_with fail
          go_roundw
          case rel => exact ⟨k + 1, _, _, _, _, _, _, _, _, by omega, by go_num, HLN.out⟩
          case measure => simp [intOf]; omega
      · by_cases hk2 : l[k].kind = 2
        · have d0 : wr.cell? (a.add (k * 3)) = some (.int .i64 2) := by rw [dk, hk2]
          clear hk1 hk2 dk
          clear hab
          have hbd : Below wr.heap.size wr wr.drew := (Below.refl _ _).drew
          obtain ⟨kk, hkk⟩ : ∃ kk : Nat, kk = if kept.length < l[k].n then kept.length else l[k].n := ⟨_, rfl⟩
          have hkl' : kk ≤ kept.length := by rw [hkk]; split <;> omega
          have hV : (if kept.length < l[k].n then (kept.length : Int) else (l[k].n : Int)) = (kk : Int) := by rw [hkk]; split <;> rfl
          clear hkk
          have hww : IntKind.i64.wrap (l[k].n : Int) = (l[k].n : Int) := by rw [IntKind.wrap_i64]; omega
          have HCu := Lib.hid (cut7_any K ((HL.out.md.below K hbd).rp) ((HL.out.md.below K hbd).ss) ((HL.out.md.below K hbd).es) (fun b g => ⟨((HL.out.md.below K hbd).hFs b g).2.1, (HL.out.md.hFs b g).2.2⟩) kk hkl' (by omega) (syn := syn) (by omega) HL.out.pm.ends)
          rw [← hV] at HCu
          clear hV
          have HPm := Lib.hid (HL.out.pm.cut kk hkl')
          have b0 : wr.cell? ⟨X, 0, none⟩ = some (.pointer (some da)) := hB.cell 0 _ rfl
          have b2 : wr.cell? ⟨X, 2, none⟩ = some (.slice A1 kept.length c1) := hB.cell 2 _ rfl
          have b3 : wr.cell? ⟨X, 3, none⟩ = some (.slice A2 kept.length c2) := hB.cell 3 _ rfl
          have b4 : wr.cell? ⟨X, 4, none⟩ = some (.int .i64 (syn : Int)) := hB.cell 4 _ rfl
          obtain ⟨kd, hkd⟩ : ∃ kd, kd = kept.drop kk := ⟨_, rfl⟩
          obtain ⟨sd, hsd⟩ : ∃ sd, sd = syn - kk := ⟨_, rfl⟩
          obtain ⟨rd, hrd⟩ : ∃ rd, rd = cutR r kept kk := ⟨_, rfl⟩
          rw [← hkd, ← hsd, ← hrd] at HCu HPm
          clear hkd hsd hrd
          go_wp2_with fail
          go_region_law
            (first
              | (go_simp
                 go_at_call 38
                 with_reducible refine HCu.out.mono ?_
                 rintro e3 w3 ⟨vs', ve', rfl, hs3, he3, hR3, ht3⟩
                 have B3 := (hB.step hbd).turn ht3 nFX
                 have HS3 := Lib.hid hs3
                 have HE3 := Lib.hid he3
                 obtain ⟨A3, c3, rfl, hc3⟩ := Sg_form hs3
                 obtain ⟨A4, c4, rfl, hc4⟩ := Sg_form he3
                 clear hs3 he3
                 have g0 := B3.cell 0 _ rfl
                 have g1 := B3.cell 1 _ rfl
                 have g2 := B3.cell 2 _ rfl
                 have g3 := B3.cell 3 _ rfl
                 have g4 := B3.cell 4 _ rfl
                 have z0 := B3.fz 0 (by simp)
                 have z1 := B3.fz 1 (by simp)
                 have z2 := B3.fz 2 (by simp)
                 have z3 := B3.fz 3 (by simp)
                 have z4 := B3.fz 4 (by simp)
                 go_simp))
          all_goals (
            have hs3 := ht3.size
            have hsdz := hbd.size
            have HM3 : Hid (Mk H w0 w3 (.pointer (some da)) (.pointer (some pa)) (.slice A3 kd.length c3) (.slice A4 kd.length c4) rd kd F Fs) := Lib.hid ⟨hR3, HL.out.md.hF, HS3.out, HE3.out, fun b g => ⟨(HL.out.md.hFs b g).1, by have := (HL.out.md.hFs b g).2.1; omega, (HL.out.md.hFs b g).2.2⟩, (HL.out.md.below K hbd).low.trans (ht3.below (HL.out.md.below K hbd).low.size HL.out.md.hF)⟩
            have HLN := Lib.hid (show Lr H w0 _ X (.pointer (some da)) (.pointer (some pa)) (.slice A3 kd.length c3) (.slice A4 kd.length c4) rd L kd sd (k + 1) F Fs from ⟨HM3.out.aside K (turn5 w3 X (.pointer (some da)) (.pointer (some pa)) (.slice A3 kd.length c3) (.slice A4 kd.length c4) (.int .i64 (sd : Int))) (fun b e => by subst e; exact HL.out.nX), HPm.out, B3.all5 _ _ _ _ _, HL.out.nX⟩)
            clear g0 g1 g2 g3 g4 z0 z1 z2 z3 z4 B3 HCu
            go_wp2_with fail)
          all_goals go_roundw
          all_goals first
            | exact ⟨k + 1, _, _, _, _, _, _, _, _, by omega, by go_num, HLN.out⟩
            | (simp [intOf]; omega)
        · have hk1' : (l[k].kind == 1) = false := by simpa using hk1
          have hk2' : (l[k].kind == 2) = false := by simpa using hk2
          clear hk1 hk2
          have x0 : wr.cell? ⟨X, 0, none⟩ = some (.pointer (some da)) := hB.cell 0 _ rfl
          have HSy := Lib.hid (ring_sync K HL.out.md.rp)
          go_wp2_with fail
          refine HSy.out.mono ?_
          rintro e w3 ⟨rfl, hR3, ht3⟩
          have hs3 := ht3.size
          have HM3 := Lib.hid (HL.out.md.turned hR3 ht3)
          have B3 := hB.turn ht3 nFX
          have nX3 : ¬ More F wr w3 X := fun g => g.elim nFX (fun g => by have := g.1; have := hB.lt; omega)
          have x2 : w3.cell? ⟨X, 2, none⟩ = some (.slice A1 kept.length c1) := B3.cell 2 _ rfl
          have x4 : w3.cell? ⟨X, 4, none⟩ = some (.int .i64 (syn : Int)) := B3.cell 4 _ rfl
          have f4 := B3.fz 4 (by simp)
          have HLN : Hid (Lr H w0 (w3.setCell ⟨X, 4, none⟩ (.int .i64 (kept.length : Int))) X (.pointer (some da)) (.pointer (some pa)) (.slice A1 kept.length c1) (.slice A2 kept.length c2) r.sync L kept kept.length (k + 1) (More F wr w3) Fs) := Lib.hid
            ⟨HM3.out.aside K ((Turn.refl (fun b => b = X) w3).put (q := X) rfl 4 _) (fun b e => by subst e; exact ⟨nX3, HL.out.nX.2⟩), HL.out.pm.sync, B3.set 4 (by simp) _, nX3, HL.out.nX.2⟩
          clear HSy x0 B3 hR3 ht3
          go_wp2_with fail
          go_roundw
          case rel => exact ⟨k + 1, _, _, _, _, _, _, _, _, by omega, by go_num, HLN.out⟩
          case measure => simp [intOf]; omega
    · obtain rfl : k = l.length := by omega
      have hlt' : ¬ ((l.length : Nat) : Int) < (l.length : Int) := by omega
      have Y1 : Bk wr w.heap.size [.pointer none, .pointer none, .slice none 0 0, .slice none 0 0, .int .i64 0] := Y0.step hb7
      have b0 : wr.cell? ⟨X, 0, none⟩ = some (.pointer (some da)) := hB.cell 0 _ rfl
      have b2 : wr.cell? ⟨X, 2, none⟩ = some (.slice A1 kept.length c1) := hB.cell 2 _ rfl
      have b3 : wr.cell? ⟨X, 3, none⟩ = some (.slice A2 kept.length c2) := hB.cell 3 _ rfl
      have b4 : wr.cell? ⟨X, 4, none⟩ = some (.int .i64 (syn : Int)) := hB.cell 4 _ rfl
      have y0 := Y1.cell 0 _ rfl
      have y1 := Y1.cell 1 _ rfl
      have y2 := Y1.cell 2 _ rfl
      have y3 := Y1.cell 3 _ rfl
      have y4 := Y1.cell 4 _ rfl
      have yf0 := Y1.fz 0 (by simp)
      have yf1 := Y1.fz 1 (by simp)
      have yf2 := Y1.fz 2 (by simp)
      have yf3 := Y1.fz 3 (by simp)
      have yf4 := Y1.fz 4 (by simp)
      have HY9 := Lib.hid (Y1.all5 (.pointer (some da)) (.pointer (some pa)) (.slice A1 kept.length c1) (.slice A2 kept.length c2) (.int .i64 (syn : Int)))
      have hT9 := turn5 wr w.heap.size (.pointer (some da)) (.pointer (some pa)) (.slice A1 kept.length c1) (.slice A2 kept.length c2) (.int .i64 (syn : Int))
      have hlow := HL.out.md.hF
      have hlow2 := HL.out.md.hFs
      have HM9 : Hid (Mk H w _ (.pointer (some da)) (.pointer (some pa)) (.slice A1 kept.length c1) (.slice A2 kept.length c2) r kept F Fs) := Lib.hid (Mk.aside K (w := w) (⟨HL.out.md.rp, fun b g => by have := hlow b g; omega, HL.out.md.ss, HL.out.md.es, fun b g => ⟨by have := (hlow2 b g).1; omega, (hlow2 b g).2⟩, hbw⟩) hT9 (fun b e => by subst e; exact ⟨fun g => by have := hlow _ g; omega, fun g => by have := (hlow2 _ g).1; omega, Nat.le_refl _⟩))
      clear hL Y1 hB hT9 hlow hlow2
      go_wp2_with fail
      refine bodyPost_ret (results_bk rfl _ rfl HY9.out Try.underlying55 rfl infoMd) rfl ?_
      exact ⟨_, _, _, _, _, _, _, _, _, _, _, rfl, hl30, HL.out.pm, HM9.out⟩
end

end Go.Proofs.Ytnjhbmjhldfdpaa
