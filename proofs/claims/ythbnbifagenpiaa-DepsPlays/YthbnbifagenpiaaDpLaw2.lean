/-
  Walks of layer deps' laws' helpers: do (its other kinds), run.
-/
import Derived.Test.YthbnbifagenpiaaDpLaw1
namespace Go.Proofs.Ythbnbifagenpiaa
open Go.RowKit
section
variable {H : World → (Nat → Prop) → Value → List Dp.Wt → Prop}

set_option maxRecDepth 100000 in
set_option maxHeartbeats 4000000 in
theorem do12_settle (K : DepsOk H) {w : World} {F : Nat → Prop} {v vx : Value} {d : List Dp.Wt} (h : H w F v d) (hx : SlW w (Out F w) vx d) (hl : d.length ≤ 150) (a b : Int) (ha : I64 a) :
    Calls Try.prog 11 #[v, vx, .agg #[.int .i64 2, .int .i64 a, .int .i64 b]] w (Did12 H w F v (Dp.without d [a])) := by
  have hb1 : Below w.heap.size w (w.alloc (.cells #[.int .i64 2, .int .i64 a, .int .i64 b] 30)) := (Below.refl _ _).alloc (Nat.le_refl _) _
  have HP := Lib.hid (Bk.new w [.int .i64 2, .int .i64 a, .int .i64 b] 30 rfl)
  have h1 := K.below h hb1
  have HX1 : Hid (SlW (w.alloc (.cells #[.int .i64 2, .int .i64 a, .int .i64 b] 30)) (Out F _) vx d) := Lib.hid ((S.Sg.below hx hb1 (fun b hb => hb.1)).wider (fun b hb => ⟨Nat.lt_of_lt_of_le hb.1 hb1.size, hb.2⟩))
  have HR := Lib.hid (K.settle h1 (by omega) a ha)
  have HB1 := Lib.hid hb1
  have hFlt := K.lt h
  have HNP : Hid (¬ F w.heap.size) := Lib.hid (fun q => by have := hFlt _ q; omega)
  have HRR : Hid (∀ w1 G, SlW w1 G vx d → (∀ b, G b → b < w1.heap.size) → Calls Try.prog 24 #[vx, .slice (some ⟨w1.heap.size, 0, none⟩) 1 1] (w1.alloc (.cells #[.int .i64 a] 2)) fun e w' => ∃ v', e = .returned v' ∧ SlW w' (S.New w1 w') v' (Dp.without d [a]) ∧ Below w1.heap.size w1 w') := Lib.hid (fun w1 G hc hG => by
    have hb : Below w1.heap.size w1 (w1.alloc (.cells #[.int .i64 a] 2)) := (Below.refl _ _).alloc (Nat.le_refl _) _
    have h2 : SlN (w1.alloc (.cells #[.int .i64 a] 2)) (fun b => b = w1.heap.size) (.slice (some ⟨w1.heap.size, 0, none⟩) 1 1) [a] := S.Sg.one w1 2 (.int .i64 a)
    refine (rwithout12_any ((S.Sg.below hc hb hG).wider (G := fun b => G b ∨ b = w1.heap.size) (fun _ q => Or.inl q)) (h2.wider (fun _ q => Or.inr q)) (fun b q => q.elim (fun q => Nat.lt_of_lt_of_le (hG b q) hb.size) (fun q => by subst q; simp)) (by omega) (by simp)).mono (fun e w' hh => ?_)
    obtain ⟨v', e, h3, h4⟩ := hh
    exact ⟨v', e, h3.wider (fun b q => ⟨Nat.le_trans hb.size q.1, q.2⟩), hb.trans (h4.mono hb.size)⟩)
  obtain ⟨A0, c0, rfl, _⟩ := wt_form hx
  clear h1 hx hb1 h hFlt
  have p0 := HP.out.cell 0 _ rfl
  have p1 := HP.out.cell 1 _ rfl
  go_enter Try.func11, Try.ntmps11
  go_wp2_with (first
    | (go_at_call 20; refine HR.out.mono ?_; rintro e w2 ⟨rfl, hh2, ht2⟩
       have HH2 := Lib.hid hh2
       have HT2 := Lib.hid ht2
       have HX2 := Lib.hid (SlW.turn HX1.out ht2 (fun b hb => hb))
       have P3 := HP.out.keep (ht2.block _ HP.out.lt HNP.out) ht2.size
       have p1 := P3.cell 1 _ rfl
       clear hh2 ht2 P3)
    | (go_at_call 24
       refine (HRR.out _ _ HX2.out (fun b hb => hb.1)).mono ?_
       rintro e w3 ⟨v3, rfl, hx3, hb3⟩
       have HX3 := Lib.hid hx3
       have HB3 := Lib.hid hb3
       clear hx3 hb3))
  go_ret2
  exact Did12.fin K HB1.out HH2.out (fun b q => q) HT2.out HX3.out (fun b q => Or.inr q) HB3.out rfl

set_option maxRecDepth 100000 in
set_option maxHeartbeats 4000000 in
theorem do12_drop (K : DepsOk H) {w : World} {F : Nat → Prop} {v vx : Value} {d : List Dp.Wt} (h : H w F v d) (hx : SlW w (Out F w) vx d) (hl : d.length ≤ 150) (a b : Int) (ha : I64 a) :
    Calls Try.prog 11 #[v, vx, .agg #[.int .i64 3, .int .i64 a, .int .i64 b]] w (Did12 H w F v (Dp.dropD d a)) := by
  have hb1 : Below w.heap.size w (w.alloc (.cells #[.int .i64 3, .int .i64 a, .int .i64 b] 30)) := (Below.refl _ _).alloc (Nat.le_refl _) _
  have HP := Lib.hid (Bk.new w [.int .i64 3, .int .i64 a, .int .i64 b] 30 rfl)
  have h1 := K.below h hb1
  have HX1 : Hid (SlW (w.alloc (.cells #[.int .i64 3, .int .i64 a, .int .i64 b] 30)) (Out F _) vx d) := Lib.hid ((S.Sg.below hx hb1 (fun b hb => hb.1)).wider (fun b hb => ⟨Nat.lt_of_lt_of_le hb.1 hb1.size, hb.2⟩))
  have HR := Lib.hid (K.drop h1 (by omega) a ha)
  have HB1 := Lib.hid hb1
  have hFlt := K.lt h
  have HNP : Hid (¬ F w.heap.size) := Lib.hid (fun q => by have := hFlt _ q; omega)
  have HRR : Hid (∀ w1 G, SlW w1 G vx d → (∀ b, G b → b < w1.heap.size) → Calls Try.prog 25 #[vx, .int .i64 a] w1 fun e w' => ∃ v' vl, e = .returned (.tuple #[v', vl]) ∧ SlW w' (fun b => G b ∨ S.New w1 w' b) v' (Dp.dropD d a) ∧ SlN w' (S.New w1 w') vl (Dp.dropL d a) ∧ Below w1.heap.size w1 w') := Lib.hid (fun w1 G hc hG => rdrop12_any hc hG (by omega) a)
  have HLn : Hid ((Dp.dropL d a).length ≤ 1000) := Lib.hid (Nat.le_trans Dp.drop_len (by omega))
  obtain ⟨L, eL⟩ : ∃ L, L = Dp.dropL d a := ⟨_, rfl⟩
  rw [← eL] at HR HRR HLn
  have HS : Hid (∀ w1 va vb, (∃ F, SlN w1 F va L) → (∃ F, SlN w1 F vb L) → Calls Try.prog 13 #[va, vb] w1 fun e w' => e = .returned (.bool true) ∧ Below w1.heap.size w1 w') := Lib.hid (fun w1 va vb hA hB => by
    obtain ⟨F1, hA⟩ := hA
    obtain ⟨F2, hB⟩ := hB
    have := rsame12_any (hA.wider (G := fun _ => True) (fun _ _ => trivial)) (hB.wider (fun _ _ => trivial)) (by have := HLn.out; omega) (by have := HLn.out; omega)
    simpa using this)
  obtain ⟨A0, c0, rfl, _⟩ := wt_form hx
  clear h1 hx hb1 h hFlt eL HLn
  have p0 := HP.out.cell 0 _ rfl
  have p1 := HP.out.cell 1 _ rfl
  go_enter Try.func11, Try.ntmps11
  go_wp2_with (first
    | (go_at_call 18; refine HR.out.mono ?_; rintro e w2 ⟨v2, F2, T2, rfl, hh2, hl2, hF2, hT2, ht2⟩
       have HH2 := Lib.hid hh2
       have HT2 := Lib.hid ht2
       have HF2 := Lib.hid hF2
       have HTT := Lib.hid hT2
       have HL2 := Lib.hid hl2
       obtain ⟨A2, c2, rfl, _⟩ := num_form hl2
       have HX2 := Lib.hid (SlW.turn HX1.out ht2 hF2)
       have P3 := HP.out.keep (ht2.block _ HP.out.lt HNP.out) ht2.size
       have p1 := P3.cell 1 _ rfl
       clear hh2 ht2 P3 hF2 hT2 hl2)
    | (go_at_call 25
       refine (HRR.out _ _ HX2.out (fun b hb => hb.1)).mono ?_
       rintro e w3 ⟨v3, vl3, rfl, hx3, hl3, hb3⟩
       have HX3 := Lib.hid hx3
       have HL3 := Lib.hid hl3
       have HB3 := Lib.hid hb3
       have HL23 := Lib.hid (S.Sg.below HL2.out hb3 (fun b q => (HTT.out b q).1.2))
       obtain ⟨A3, c3, rfl, _⟩ := wt_form hx3
       obtain ⟨A4, c4, rfl, _⟩ := num_form hl3
       clear hx3 hb3 hl3)
    | (go_at_call 13
       refine (HS.out _ _ _ ⟨_, HL23.out⟩ ⟨_, HL3.out⟩).mono ?_
       rintro e w4 ⟨rfl, hb4⟩
       have HB4 := Lib.hid hb4
       clear hb4))
  go_ret2
  exact Did12.fin K HB1.out HH2.out HF2.out HT2.out (S.Sg.below HX3.out HB4.out (fun b q => q.elim (fun q => Nat.lt_of_lt_of_le q.1 HB3.out.size) (fun q => q.2))) (fun b q => q.imp id (fun q => ⟨q.1, Nat.lt_of_lt_of_le q.2 HB4.out.size⟩)) (HB3.out.trans (HB4.out.mono HB3.out.size)) rfl

set_option maxRecDepth 100000 in
set_option maxHeartbeats 4000000 in
theorem do12_none (K : DepsOk H) {w : World} {F : Nat → Prop} {v vx : Value} {d : List Dp.Wt} (h : H w F v d) (hx : SlW w (Out F w) vx d) (kd a b : Int) (h1 : kd ≠ 1) (h2 : kd ≠ 2) (h3 : kd ≠ 3) :
    Calls Try.prog 11 #[v, vx, .agg #[.int .i64 kd, .int .i64 a, .int .i64 b]] w (Did12 H w F v d) := by
  have HB1 : Hid (Below w.heap.size w (w.alloc (.cells #[.int .i64 kd, .int .i64 a, .int .i64 b] 30))) := Lib.hid ((Below.refl _ _).alloc (Nat.le_refl _) _)
  have HP := Lib.hid (Bk.new w [.int .i64 kd, .int .i64 a, .int .i64 b] 30 rfl)
  have HH := Lib.hid h
  have HX := Lib.hid hx
  obtain ⟨A0, c0, rfl, _⟩ := wt_form hx
  have p0 := HP.out.cell 0 _ rfl
  have d1 : (kd == 1) = false := by simpa using h1
  have d2 : (kd == 2) = false := by simpa using h2
  have d3 : (kd == 3) = false := by simpa using h3
  clear h hx h1 h2 h3
  go_enter Try.func11, Try.ntmps11
  go_wp2
  go_ret2
  exact Did12.fin K (Below.refl _ _) HH.out (fun b q => Or.inl q) (Turn.refl F w) (S.Sg.below HX.out HB1.out (fun b q => q.1)) (fun b q => Or.inl q) HB1.out rfl

theorem do12_any (K : DepsOk H) {w : World} {F : Nat → Prop} {v vx : Value} {d : List Dp.Wt} (x : Dd12) (h : H w F v d) (hx : SlW w (Out F w) vx d) (hl : d.length ≤ 150) (ho : x.Ok) :
    Calls Try.prog 11 #[v, vx, .agg #[.int .i64 x.kind, .int .i64 x.a, .int .i64 x.b]] w (Did12 H w F v (Dp.deedD d x)) := by
  obtain ⟨kd, a, b⟩ := x
  obtain ⟨_, oa, ob⟩ := ho
  dsimp only at *
  unfold Dp.deedD
  dsimp only
  by_cases h1 : kd = 1
  · subst h1
    rw [if_pos rfl]
    exact do12_add K h hx hl a b oa ob
  · rw [if_neg h1]
    by_cases h2 : kd = 2
    · subst h2
      rw [if_pos rfl]
      exact do12_settle K h hx hl a b oa
    · rw [if_neg h2]
      by_cases h3 : kd = 3
      · subst h3
        rw [if_pos rfl]
        exact do12_drop K h hx hl a b oa
      · rw [if_neg h3]
        exact do12_none K h hx kd a b h1 h2 h3

/-- the object v holds d, in blocks that were made since w -/
def Ob (H : World → (Nat → Prop) → Value → List Dp.Wt → Prop) (w wr : World) (v : Value) (d : List Dp.Wt) : Prop := ∃ F, H wr F v d ∧ ∀ b, F b → w.heap.size ≤ b
/-- .. and vx the document's waits d, apart from it -/
def Ob2 (H : World → (Nat → Prop) → Value → List Dp.Wt → Prop) (w wr : World) (v vx : Value) (d : List Dp.Wt) : Prop := ∃ F, H wr F v d ∧ (∀ b, F b → w.heap.size ≤ b) ∧ SlW wr (Out F wr) vx d

theorem Ob2.did (K : DepsOk H) {w wr : World} {v vx : Value} {d : List Dp.Wt} (h : Ob2 H w wr v vx d) (hb : Below w.heap.size w wr) (x : Dd12) (hd : x.Ok) (hl : d.length ≤ 150) :
    Calls Try.prog 11 #[v, vx, .agg #[.int .i64 x.kind, .int .i64 x.a, .int .i64 x.b]] wr fun e w' => ∃ vx', e = .returned (.tuple #[vx', .bool true]) ∧ Ob2 H w w' v vx' (Dp.deedD d x) ∧ Below w.heap.size w w' := by
  obtain ⟨F, hh, hF, hx⟩ := h
  refine (do12_any K x hh hx hl hd).mono (fun e w' hd => ?_)
  obtain ⟨vx', F', rfl, h1, h2, h3, h4⟩ := hd
  exact ⟨vx', rfl, ⟨F', h1, fun b q => (h3 b q).elim (hF b) (fun g => Nat.le_trans hb.size g.1), h2⟩, hb.trans (h4.below hb.size hF)⟩

set_option maxRecDepth 100000 in
set_option maxHeartbeats 4000000 in
theorem run12_any (K : DepsOk H) {w : World} {vd : Value} {ld : List Dd12} {G0 : Nat → Prop} (hD : Dds12 w G0 vd ld) (hG0 : ∀ b, G0 b → b < w.heap.size) :
    Calls Try.prog 17 #[vd] w fun e w' => ∃ v, e = .returned v ∧ Ob H w w' v (Dp.runD (ld.take 60)) ∧ (Dp.runD (ld.take 60)).length ≤ 60 ∧ Below w.heap.size w w' := by
  have HD := Lib.hid hD
  have HG := Lib.hid hG0
  have HK := Lib.hid K
  obtain ⟨Ad, capd, rfl, hcd⟩ := hD.form
  clear hD hG0
  have H0 := Lib.hid (K.new w)
  go_enter Try.func17, Try.ntmps17
  go_wp2_with (first
    | (go_at_call 10; refine H0.out.mono ?_; rintro e w1 ⟨v1, rfl, hs1, b1⟩))
  have HL1 : Hid (Ob2 H w w1 v1 (.slice none 0 0) []) := Lib.hid ⟨_, hs1, fun b q => q.1, S.Sg.nil ..⟩
  have HB1 := Lib.hid b1
  clear hs1 b1 H0
  go_loopw [4, 5] (fun vx v wr => ∃ (i : Nat) (d : List Dp.Wt), i ≤ ld.length ∧ i ≤ 60 ∧ v = .int .i64 (i : Int) ∧ Hid (Ob2 H w wr v1 vx d) ∧ Hid (d = Dp.runD (ld.take i) ∧ d.length ≤ i) ∧ Hid (Below w.heap.size w wr)) (fun _ v _ => ld.length - (intOf v).toNat)
  case atStart => exact ⟨0, [], by omega, by omega, rfl, HL1, Lib.hid ⟨rfl, Nat.le_refl _⟩, HB1⟩
  case round =>
    clear HL1 HB1
    obtain ⟨i, d, hi, hi60, rfl, HC, HX, HB⟩ := hrel
    by_cases hil : i < ld.length ∧ i < 60
    · obtain ⟨hil, hi6⟩ := hil
      have hil' : (i : Int) < (ld.length : Int) := by omega
      have hi6' : (i : Int) < 60 := by omega
      have hi0' : (0 : Int) ≤ (i : Int) := by omega
      obtain ⟨ad, _, ed, _, hGd, hok, y0, y1, y2⟩ := (HD.out.below HB.out HG.out).nth i hil
      cases ed
      have HN : Hid (Dp.deedD d ld[i] = Dp.runD (ld.take (i + 1)) ∧ (Dp.deedD d ld[i]).length ≤ i + 1) := Lib.hid ⟨by rw [List.take_succ_eq_append_getElem hil, Dp.runD_snoc, HX.out.1], Nat.le_trans (Dp.deed_len _ _) (Nat.succ_le_succ HX.out.2)⟩
      generalize ld[i] = Z at *
      have HO := Lib.hid (HC.out.did K HB.out Z hok (by have := HX.out.2; omega))
      generalize Dp.deedD d Z = Y at *
      clear HC HX hok
      go_wp2_with (first
        | (go_at_call 11; refine HO.out.mono ?_; rintro e w2 ⟨v2, rfl, hs2, b2⟩))
      have HB2 := Lib.hid b2
      have HL2 := Lib.hid hs2
      clear hs2 b2 HO
      go_wp2_with fail
      go_roundw
      case rel => exact ⟨i + 1, Y, by omega, by omega, by go_num, HL2, HN, HB2⟩
      case measure => simp [intOf]; omega
    · have HE : Hid (d = Dp.runD (ld.take 60) ∧ d.length ≤ 60) := Lib.hid ⟨by
        rw [HX.out.1]
        rcases Nat.lt_or_ge i 60 with q | q
        · obtain rfl : i = ld.length := by omega
          rw [List.take_length, List.take_of_length_le (by omega)]
        · obtain rfl : i = 60 := by omega
          rfl, Nat.le_trans HX.out.2 hi60⟩
      by_cases hl2 : i < ld.length
      · obtain rfl : i = 60 := by omega
        have hYes : ((60 : Nat) : Int) < (ld.length : Int) := by omega
        go_wp2
        go_ret
        obtain ⟨F, h1, h2, _⟩ := HC.out
        rw [← HE.out.1]
        exact ⟨_, rfl, ⟨F, h1, h2⟩, HE.out.2, HB.out⟩
      · obtain rfl : i = ld.length := by omega
        have hNo : ¬ ((ld.length : Int) < (ld.length : Int)) := by omega
        go_wp2
        go_ret
        obtain ⟨F, h1, h2, _⟩ := HC.out
        rw [← HE.out.1]
        exact ⟨_, rfl, ⟨F, h1, h2⟩, HE.out.2, HB.out⟩
end
end Go.Proofs.Ythbnbifagenpiaa
