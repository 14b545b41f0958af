/-
  The landed chain: Write; and all calls together (ChainOk).
-/
import Derived.Test.YtmlocdfjjgbnjaaChP4
namespace Go.Proofs.Ytmlocdfjjgbnjaa
open Go.RowKit

set_option maxRecDepth 100000 in
set_option maxHeartbeats 4000000 in
theorem write10 {w : World} {F : Nat → Prop} {v : Value} {c : Cn.Ch} (h : SlC w F v c) (hF : ∀ b, F b → b < w.heap.size) (hl : c.length ≤ 1000) (ts : Int) (val : ByteArray) :
    Calls Try.prog 22 #[v, .int .i64 ts, .string val] w fun e w' => ∃ v', e = .returned (.tuple #[v', .int .i64 (Cn.writeE c ts)]) ∧ SlC w' (fun b => F b ∨ S.New w w' b) v' (Cn.writeC c ts val) ∧ Below w.heap.size w w' := by
  have HS := Lib.hid h
  have HL := Lib.hid (look10 h hF hl ts)
  have HC : Hid (∀ w', Below w.heap.size w w' → Calls Try.prog 40 #[v] w' fun e w2 => ∃ v', e = .returned v' ∧ w2.ownsRow w'.heap.size 40 4 v' c.length (verV c) ∧ Below w'.heap.size w' w2) := Lib.hid (fun w' hb => clone10 (h.below hb hF) (fun b q => Nat.lt_of_lt_of_le (hF b q) hb.size) (by omega))
  obtain ⟨A, cap, rfl, hcap⟩ := SlC.form h
  clear h
  cases hat : Cn.at? c ts with
  | none =>
    rw [Cn.look_none hat] at HL
    have HV : Hid (Cn.writeC c ts val = c ∧ Cn.writeE c ts = 8) := Lib.hid ⟨Cn.writeC_none hat, Cn.writeE_none hat⟩
    clear hat
    go_enter Try.func22, Try.ntmps22
    go_wp2_with (first
      | (go_at_call 20; refine HL.out.mono ?_; rintro e w1 ⟨rfl, hb1⟩; have HB1 := Lib.hid hb1; clear hb1)
      | (go_at_call 40; refine (HC.out _ HB1.out).mono ?_; rintro e w2 ⟨v2, rfl, ho2, hb2⟩; have HO2 := Lib.hid ho2; have HB2 := Lib.hid (below_two HB1.out hb2); clear ho2 hb2))
    go_ret2
    refine ⟨_, ret_v (by rw [HV.out.2]; rfl), ?_, HB2.out⟩
    rw [HV.out.1]
    exact row_slc HO2.out HB1.out.size rfl
  | some k =>
    have hk := Cn.at_lt hat
    rw [Cn.look_some hat] at HL
    have hk0 : (0 : Int) ≤ (k : Int) := by omega
    have hk1 : (k : Int) < (c.length : Int) := by omega
    have hkn : ¬ (k : Int) < 0 := by omega
    have hc0 : 0 < c.length := by omega
    obtain ⟨ad, _, ea, _, hFa, y0, y1, y2, y3⟩ := HS.out.nth k hk
    cases ea
    have had : (ad.add (k * 4)).block < w.heap.size := by rw [S.add_block]; exact hF _ hFa
    have HY : Hid (∀ w', Below w.heap.size w w' → w'.cell? (ad.add (k * 4)) = some (.int .i64 c[k].ts) ∧ w'.cell? ⟨(ad.add (k * 4)).block, (ad.add (k * 4)).off + 1, none⟩ = some (.int .i64 c[k].rd) ∧ w'.cell? ⟨(ad.add (k * 4)).block, (ad.add (k * 4)).off + 2, none⟩ = some (.string c[k].val) ∧ w'.cell? ⟨(ad.add (k * 4)).block, (ad.add (k * 4)).off + 3, none⟩ = some (.bool c[k].done)) := Lib.hid (fun w' hb => four_keep hb had ⟨y0, y1, y2, y3⟩)
    clear y0 y1 y2 y3
    have HLt : Hid (∀ w', Calls Try.prog 41 #[.agg #[.int .i64 c[k].ts, .int .i64 c[k].rd, .string c[k].val, .bool c[k].done], .int .i64 ts] w' fun e w2 => e = .returned (.bool (Cn.lateV c[k] ts)) ∧ Below w'.heap.size w' w2) := Lib.hid (fun w' => late10 c[k] ts w')
    have HC2 : Hid (∀ w', Below w.heap.size w w' → Calls Try.prog 40 #[.slice (some ad) c.length cap] w' fun e w2 => ∃ g cap, e = .returned (.slice (some ⟨g, 0, none⟩) c.length cap) ∧ w2.ownsRow w'.heap.size 40 4 (.slice (some ⟨g, 0, none⟩) c.length cap) c.length (verV c) ∧ Below w'.heap.size w' w2) := Lib.hid (fun w' hb => (HC.out w' hb).mono (fun e w' hh => by
      obtain ⟨v', rfl, ho, hb⟩ := hh
      obtain ⟨g, cap, _, rfl, _⟩ := V.own_form ho hc0
      exact ⟨g, cap, rfl, ho, hb⟩))
    cases hlt : Cn.lateV c[k] ts with
    | true =>
      have HV := Lib.hid (Cn.write_late (val := val) hat hk hlt)
      rw [hlt] at HLt
      clear hat hlt
      generalize c[k] = u at *
      go_enter Try.func22, Try.ntmps22
      go_wp2_with (first
        | (go_at_call 20; refine HL.out.mono ?_; rintro e w1 ⟨rfl, hb1⟩; obtain ⟨y0, y1, y2, y3⟩ := HY.out w1 hb1; have HB1 := Lib.hid hb1; clear hb1)
        | (go_at_call 41; refine (HLt.out _).mono ?_; rintro e w2 ⟨rfl, hb2⟩; have HB2 := Lib.hid (below_two HB1.out hb2); clear hb2 y0 y1 y2 y3)
        | (go_at_call 40; refine (HC.out _ HB2.out).mono ?_; rintro e w3 ⟨v3, rfl, ho3, hb3⟩; have HO3 := Lib.hid ho3; have HB3 := Lib.hid (below_two HB2.out hb3); clear ho3 hb3))
      go_ret2
      refine ⟨_, ret_v (by rw [HV.out.2]; rfl), ?_, HB3.out⟩
      rw [HV.out.1]
      exact row_slc HO3.out HB2.out.size rfl
    | false =>
      rw [hlt] at HLt
      by_cases ho : c[k].ts = ts
      · have HV := Lib.hid (Cn.write_own (val := val) hat hk hlt ho)
        obtain ⟨x, hx⟩ : ∃ x : Cn.Vr, x = ⟨c[k].ts, c[k].rd, val, c[k].done⟩ := ⟨_, rfl⟩
        rw [← hx] at HV
        have HSE : Hid (∀ (w' : World) B g cap, w'.ownsRow B 40 4 (.slice (some ⟨g, 0, none⟩) c.length cap) c.length (verV c) → (w'.setCell ⟨g, k * 4 + 2, none⟩ (.string val)).ownsRow B 40 4 (.slice (some ⟨g, 0, none⟩) c.length cap) c.length (verV (c.set k x))) := Lib.hid (fun w' B g cap ho => by
          have h9 := S.own_set1 Try.prog ho (o := k * 4 + 2) (by omega) (.string val) rfl
          rw [verV_set c k hk 2 (.string val) x (by decide) (by rw [hx]; rfl)] at h9
          exact h9)
        have HZ : Hid (∀ (w' : World) B g cap, w'.ownsRow B 40 4 (.slice (some ⟨g, 0, none⟩) c.length cap) c.length (verV c) → (∃ u, w'.cell? ⟨g, k * 4 + 2, none⟩ = some u) ∧ w'.frozen? ⟨g, k * 4 + 2, none⟩ = false) := Lib.hid (fun w' B g cap ho => ⟨⟨_, V.own_cell ho (List.getElem?_eq_getElem (by rw [verV_length]; omega))⟩, V.own_frozen ho _⟩)
        have ho' : (c[k].ts == ts) = true := by simpa using ho
        clear hat hlt ho hx
        generalize c[k] = u at *
        go_enter Try.func22, Try.ntmps22
        go_wp2_with (first
          | (go_at_call 20; refine HL.out.mono ?_; rintro e w1 ⟨rfl, hb1⟩; obtain ⟨y0, y1, y2, y3⟩ := HY.out w1 hb1; have HB1 := Lib.hid hb1; clear hb1)
          | (go_at_call 41; refine (HLt.out _).mono ?_; rintro e w2 ⟨rfl, hb2⟩; have HB2 := Lib.hid (below_two HB1.out hb2); clear hb2 y0 y1 y2 y3; obtain ⟨y0, y1, y2, y3⟩ := HY.out w2 HB2.out)
          | (go_at_call 40; refine (HC2.out _ HB2.out).mono ?_; rintro e w3 ⟨g, cp, rfl, ho3, hb3⟩; have HO3 := Lib.hid ho3; have HB3 := Lib.hid (below_two HB2.out hb3); clear ho3 hb3 y0 y1 y2 y3; obtain ⟨⟨z, y2⟩, z2⟩ := HZ.out w3 _ g cp HO3.out))
        go_ret2
        have hgb : w.heap.size ≤ g := Nat.le_trans HB2.out.size (World.ownsRow.lt HO3.out g rfl).1
        refine ⟨_, ret_v (by rw [HV.out.2]; rfl), ?_, HB3.out.setCell (p := ⟨g, k * 4 + 2, none⟩) hgb _⟩
        rw [HV.out.1]
        exact row_slc (HSE.out _ _ _ _ HO3.out) HB2.out.size List.length_set.symm
      · have HV := Lib.hid (Cn.write_new (val := val) hat hk hlt ho)
        have ho' : (c[k].ts == ts) = false := by simpa using ho
        clear hat hlt ho
        generalize c[k] = u at *
        have hkw : IntKind.i64.wrap ((k : Int) + 1) = (k : Int) + 1 := IntWalk.i64_in _ (by omega)
        have hk2 : (0 : Int) ≤ (k : Int) + 1 := by omega
        have hk3 : (k : Int) + 1 ≤ (cap : Int) := by omega
        have hk4 : (k : Int) + 1 ≤ (c.length : Int) := by omega
        have hk5 : k + 1 ≤ c.length := by omega
        have HTK : Hid (∀ w', Below w.heap.size w w' → S.Sg w' F 4 (.slice (some ad) (k + 1) (k + 1)) (k + 1) (verV (c.take (k + 1)))) := Lib.hid (fun w' hb => by
          obtain ⟨h1, A, cp, e, hc, hx⟩ := SlC.take (HS.out.below hb hF) hk5 (by omega)
          cases e
          exact ⟨h1, _, _, rfl, Nat.le_refl _, hx⟩)
        -- behind the first append
        have HAp : Hid (∀ (w2 : World), Below w.heap.size w w2 → ∀ v5 w5, w5.ownsRow (w2.heap.size + 1) 40 4 v5 (k + 1 + 1) (verV (c.take (k + 1)) ++ verC (⟨ts, ts, val, false⟩ : Cn.Vr)) → Below (w2.heap.size + 1) (w2.alloc (.cells #[.int .i64 ts, .int .i64 ts, .string val, .bool false] 40)) w5 →
            Hid (Below w.heap.size w w5) ∧ ∃ A5 c5, v5 = .slice A5 (k + 2) c5 ∧ Hid (w5.ownsRow w.heap.size 40 4 (.slice A5 (k + 2) c5) (k + 2) (verV (c.take (k + 1) ++ [(⟨ts, ts, val, false⟩ : Cn.Vr)])))) := Lib.hid (fun w2 hb v5 w5 ho5 hb5 => by
          have hb6 : Below w.heap.size w w5 := (hb.alloc hb.size _).trans (hb5.mono (by have := hb.size; omega))
          have ho6 : w5.ownsRow w.heap.size 40 4 v5 (k + 2) (verV (c.take (k + 1) ++ [(⟨ts, ts, val, false⟩ : Cn.Vr)])) := by
            rw [verV_snoc]
            exact V.own_raise ho5 (fun j hj => by have := hb.size; have := (World.ownsRow.lt ho5 j hj).1; omega)
          obtain ⟨A5, c5, rfl⟩ := own_slice ho6
          exact ⟨Lib.hid hb6, A5, c5, rfl, Lib.hid ho6⟩)
        have HFin : Hid (((c.take (k + 1) ++ [(⟨ts, ts, val, false⟩ : Cn.Vr)]) ++ c.drop (k + 1)).length = k + 2 + (c.length - (k + 1))) := Lib.hid (by
          simp only [List.length_append, List.length_take, List.length_drop, List.length_cons, List.length_nil]
          omega)
        by_cases hce : cap = k + 1
        · subst hce
          have HDR : Hid (verV (c.drop (k + 1)) = []) := Lib.hid (by rw [List.drop_of_length_le (by omega)]; rfl)
          go_enter Try.func22, Try.ntmps22
          go_wp2_with (first
            | (go_at_call 20; refine HL.out.mono ?_; rintro e w1 ⟨rfl, hb1⟩; obtain ⟨y0, y1, y2, y3⟩ := HY.out w1 hb1; have HB1 := Lib.hid hb1; clear hb1)
            | (go_at_call 41; refine (HLt.out _).mono ?_; rintro e w2 ⟨rfl, hb2⟩; have HB2 := Lib.hid (below_two HB1.out hb2); clear hb2 y0 y1 y2 y3; obtain ⟨y0, y1, y2, y3⟩ := HY.out w2 HB2.out)
            | (at_builtin; refine S.wpList_append_full elCv rfl _ _ rfl (n := k + 1) (m := 1) (xs := verV (c.take (k + 1))) (cs := verC (⟨ts, ts, val, false⟩ : Cn.Vr)) rfl rfl (HTK.out _ (HB2.out.alloc HB2.out.size _)) (fun A c e => by cases e; omega) (by omega) (by omega) (sg_row4 w2 40 #[.int .i64 ts, .int .i64 ts, .string val, .bool false] rfl) (by omega) (by omega) ?_))
          intro v5 w5 ho5 hb5
          obtain ⟨HB5, A5, c5, rfl, HO5⟩ := HAp.out w2 HB2.out _ _ ho5 hb5
          obtain ⟨g5, c6, cur5, e5, _, hc6, _, _, _⟩ := V.own_form HO5.out (by omega)
          injection e5 with e6 _ e7
          subst e6
          subst e7
          have HFN : Hid (k + 2 = ((c.take (k + 1) ++ [(⟨ts, ts, val, false⟩ : Cn.Vr)]) ++ c.drop (k + 1)).length) := Lib.hid (by rw [HFin.out]; omega)
          clear ho5 hb5 y0 y1 y2 y3
          go_wp2_with fail
          go_ret2
          refine ⟨_, ret_v (by rw [HV.out.2]; rfl), ?_, HB5.out⟩
          rw [HV.out.1]
          have h9 := HO5.out
          have e9 : verV (c.take (k + 1) ++ [(⟨ts, ts, val, false⟩ : Cn.Vr)]) = verV ((c.take (k + 1) ++ [(⟨ts, ts, val, false⟩ : Cn.Vr)]) ++ c.drop (k + 1)) := by rw [verV_append _ (c.drop (k + 1)), HDR.out, List.append_nil]
          rw [e9] at h9
          exact row_slc h9 (Nat.le_refl _) HFN.out
        · have hce2 : ¬ cap ≤ k + 1 := by omega
          have HDR : Hid (∀ w', Below w.heap.size w w' → S.Sg w' F 4 (.slice (some (ad.add ((k + 1) * 4))) (c.length - (k + 1)) (cap - (k + 1))) (c.length - (k + 1)) (verV (c.drop (k + 1)))) := Lib.hid (fun w' hb => SlC.drop (HS.out.below hb hF) hk5 _ (by omega))
          go_enter Try.func22, Try.ntmps22
          go_wp2_with (first
            | (go_at_call 20; refine HL.out.mono ?_; rintro e w1 ⟨rfl, hb1⟩; obtain ⟨y0, y1, y2, y3⟩ := HY.out w1 hb1; have HB1 := Lib.hid hb1; clear hb1)
            | (go_at_call 41; refine (HLt.out _).mono ?_; rintro e w2 ⟨rfl, hb2⟩; have HB2 := Lib.hid (below_two HB1.out hb2); clear hb2 y0 y1 y2 y3; obtain ⟨y0, y1, y2, y3⟩ := HY.out w2 HB2.out)
            | (at_builtin; refine S.wpList_append_full elCv rfl _ _ rfl (n := k + 1) (m := 1) (xs := verV (c.take (k + 1))) (cs := verC (⟨ts, ts, val, false⟩ : Cn.Vr)) rfl rfl (HTK.out _ (HB2.out.alloc HB2.out.size _)) (fun A c e => by cases e; omega) (by omega) (by omega) (sg_row4 w2 40 #[.int .i64 ts, .int .i64 ts, .string val, .bool false] rfl) (by omega) (by omega) ?_))
          intro v5 w5 ho5 hb5
          obtain ⟨HB5, A5, c5, rfl, HO5⟩ := HAp.out w2 HB2.out _ _ ho5 hb5
          have HD5 := Lib.hid (HDR.out w5 HB5.out)
          clear ho5 hb5 y0 y1 y2 y3
          go_wp2_with (at_builtin; refine S.wpList_append_sg elCv rfl _ _ rfl (base := w.heap.size) (n := k + 2) (m := (c.length - (k + 1))) (xs := verV (c.take (k + 1) ++ [(⟨ts, ts, val, false⟩ : Cn.Vr)])) (cs := verV (c.drop (k + 1))) rfl rfl HO5.out HD5.out (verV_one _) (by omega) (by omega) HB5.out.size ?_)
          intro v6 w6 hown6 hgrow6 _
          have HB6 := Lib.hid (HB5.out.trans (S.below_base HO5.out HB5.out.size hgrow6))
          have HO6 := Lib.hid hown6
          clear hown6 hgrow6 HO5 HB5
          go_wp2_with fail
          go_ret2
          refine ⟨_, ret_v (by rw [HV.out.2]; rfl), ?_, HB6.out⟩
          rw [HV.out.1]
          have h9 := HO6.out
          rw [← verV_append] at h9
          exact row_slc h9 (Nat.le_refl _) HFin.out.symm

theorem ok10 : ChainOk where
  fresh := fresh10
  may := fun h hF hl => may10 h hF hl
  look := fun h hF hl ts _ _ => look10 h hF hl ts
  read := fun h hF hl ts _ _ => read10 h hF hl ts
  write := fun h hF hl ts val _ _ => write10 h hF hl ts val
end Go.Proofs.Ytmlocdfjjgbnjaa
