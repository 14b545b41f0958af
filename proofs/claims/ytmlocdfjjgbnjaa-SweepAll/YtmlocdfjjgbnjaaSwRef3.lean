/-
  Walks of the document's sweep: Prune.
-/
import Derived.Test.YtmlocdfjjgbnjaaSwRef2
namespace Go.Proofs.Ytmlocdfjjgbnjaa.Sw
open Cn
def keptT (c : Ch) (act : List Int) (i : Nat) : Ch := (c.take i).filter (needB c act)
theorem keptT_end (c : Ch) (act : List Int) : keptT c act c.length = keptC c act := by unfold keptT keptC; rw [List.take_length]
theorem keptT_snoc (c : Ch) (act : List Int) {i : Nat} (hi : i < c.length) : keptT c act (i + 1) = if needB c act c[i] = true then keptT c act i ++ [c[i]] else keptT c act i := by
  unfold keptT
  rw [List.take_succ_eq_append_getElem hi, List.filter_append]
  cases h : needB c act c[i] <;> simp [h]
theorem keptT_len (c : Ch) (act : List Int) (i : Nat) : (keptT c act i).length ≤ i := by
  unfold keptT
  refine Nat.le_trans (List.length_filter_le ..) ?_
  rw [List.length_take]
  omega
theorem prune_of (c : Ch) (act : List Int) (h : bareB (keptC c act) act = false) : pruneC c act = keptC c act := by unfold pruneC; rw [h, if_neg Bool.false_ne_true]
theorem prune_bare (c : Ch) (act : List Int) (h : bareB (keptC c act) act = true) : pruneC c act = [] := by unfold pruneC; rw [if_pos h]
theorem bare_len {y : Ch} {act : List Int} (h : y.length ≠ 1) : bareB y act = false := by
  unfold bareB
  match y with
  | [_] => exact absurd rfl h
  | [] => rfl
  | _ :: _ :: _ => rfl
theorem bare_val {u : Vr} {act : List Int} (h : u.val ≠ ByteArray.empty) : bareB [u] act = false := by
  show (decide (u.val = ByteArray.empty) && act.all fun a => decide (u.rd < a)) = false
  rw [decide_eq_false h, Bool.false_and]
theorem bare_at {u : Vr} {act : List Int} {k : Nat} (hk : k < act.length) (h : act[k] ≤ u.rd) : bareB [u] act = false := by
  cases e : bareB [u] act with
  | false => rfl
  | true =>
    obtain ⟨v, ev, _, h2⟩ := bare_iff e
    cases ev
    have := h2 _ (List.getElem_mem hk)
    omega
theorem bare_yes {u : Vr} {act : List Int} (h : u.val = ByteArray.empty) (h2 : ∀ j (hj : j < act.length), u.rd < act[j]) : bareB [u] act = true := by
  show (decide (u.val = ByteArray.empty) && act.all fun a => decide (u.rd < a)) = true
  rw [decide_eq_true h, Bool.true_and, List.all_eq_true]
  intro a ha
  obtain ⟨j, hj, rfl⟩ := List.getElem_of_mem ha
  exact decide_eq_true (h2 j hj)
end Go.Proofs.Ytmlocdfjjgbnjaa.Sw

namespace Go.Proofs.Ytmlocdfjjgbnjaa
open Go.RowKit

theorem not_empty {sv : ByteArray} (he : sv ≠ ByteArray.empty) : (sv.toList == []) = false ∧ (sv.toList != []) = true := by
  have he2 : sv.toList ≠ [] := fun e => he (by
    have h2 : sv.data.toList = [] := by rw [← ByteArray.toList_eq]; exact e
    have h3 : sv.data = #[] := by simpa using h2
    cases sv
    simp only at h3
    rw [h3]
    rfl)
  exact ⟨by simpa using he2, by simpa using he2⟩

set_option maxRecDepth 100000 in
set_option maxHeartbeats 8000000 in
theorem rprune13_any {w : World} {F G : Nat → Prop} {v va : Value} {c : Cn.Ch} {act : List Int} (h : SlC w F v c) (hF : ∀ b, F b → b < w.heap.size) (hl : c.length ≤ 1000) (ha : SlN w G va act) (hG : ∀ b, G b → b < w.heap.size) (hla : act.length ≤ 1000) :
    Calls Try.prog 17 #[v, va] w fun e w' => ∃ v', e = .returned v' ∧ SlC w' (S.New w w') v' (Sw.pruneC c act) ∧ Below w.heap.size w w' := by
  have HS := Lib.hid h
  have HA := Lib.hid ha
  have HN := Lib.hid (rneeded13_any h hF hl ha hG hla)
  obtain ⟨A, cap, rfl, hcap⟩ := SlC.form h
  obtain ⟨B, capb, rfl, hcapb⟩ := num_form ha
  have HNl : Hid ((Sw.needs c act).length = c.length) := Lib.hid (by unfold Sw.needs; rw [List.length_map])
  clear h ha
  go_enter Try.func17, Try.ntmps17
  go_wp2_with (go_at_call 13; refine HN.out.mono ?_; rintro e w1 ⟨v1, rfl, h1, hb1⟩; have H1 := Lib.hid h1; have HB1 := Lib.hid hb1; obtain ⟨A1, c1, rfl, hc1⟩ := boo_form h1; clear h1 hb1 HN)
  obtain ⟨n, hn⟩ : ∃ n, n = (Sw.needs c act).length := ⟨_, rfl⟩
  have HNn : Hid (n = c.length) := Lib.hid (by rw [hn, HNl.out])
  rw [← hn] at hc1 ⊢
  have H1 : Hid (∀ W, Below w1.heap.size w1 W → ∀ i (hi : i < c.length), ∃ a, A1 = some a ∧ W.cell? (a.add i) = some (.bool (Sw.needB c act c[i]))) := Lib.hid (fun W hb i hi => by
    obtain ⟨a, _, ea, _, _, hx⟩ := boo_nth (H1.out.below hb (fun b q => q.2)) i (by rw [HNl.out]; exact hi)
    refine ⟨a, (Value.slice.inj ea).1, ?_⟩
    rw [hx]
    unfold Sw.needs
    rw [List.getElem_map])
  clear hn
  go_loopw [6, 7] (fun r iv wr => ∃ (i m : Nat), i ≤ c.length ∧ m ≤ i ∧ iv = .int .i64 (i : Int) ∧ Hid ((Sw.keptT c act i).length = m) ∧ Hid (wr.ownsRow w1.heap.size 38 4 r m (verV (Sw.keptT c act i))) ∧ Hid (Below w1.heap.size w1 wr)) (fun _ iv _ => c.length - (intOf iv).toNat)
  case atStart => exact ⟨0, 0, Nat.zero_le _, Nat.le_refl _, rfl, Lib.hid (by simp [Sw.keptT]), Lib.hid (by simpa [Sw.keptT, verV] using S.own_nil ..), Lib.hid (Below.refl _ _)⟩
  case round =>
    obtain ⟨i, m, hi, hmi, rfl, HM, HO, HB⟩ := hrel
    obtain ⟨Ar, cr, rfl⟩ := own_slice HO.out
    have HBw := Lib.hid (HB1.out.trans (HB.out.mono HB1.out.size))
    by_cases hlt : i < c.length
    · have hlt' : (i : Int) < (c.length : Int) := by omega
      have hi0 : (0 : Int) ≤ (i : Int) := by omega
      have hltn : (i : Int) < (n : Int) := by have := HNn.out; omega
      obtain ⟨an, ean, xn⟩ := H1.out wr HB.out i hlt
      subst ean
      obtain ⟨a, _, ea, _, _, y0, y1, y2, y3⟩ := SlC.nth (HS.out.below HBw.out hF) i hlt
      cases ea
      have HT := Lib.hid (Sw.keptT_snoc c act hlt)
      cases hnb : Sw.needB c act c[i] with
      | false =>
        rw [hnb] at xn
        have HT2 : Hid (Sw.keptT c act (i + 1) = Sw.keptT c act i) := Lib.hid (by rw [HT.out, hnb, if_neg Bool.false_ne_true])
        clear hnb HT y0 y1 y2 y3
        go_wp2_with fail
        go_roundw
        case rel => exact ⟨i + 1, m, by omega, by omega, by go_num, Lib.hid (by rw [HT2.out]; exact HM.out), Lib.hid (by rw [HT2.out]; exact HO.out), HB⟩
        case measure => simp [intOf]; omega
      | true =>
        rw [hnb] at xn
        have HT2 : Hid (Sw.keptT c act (i + 1) = Sw.keptT c act i ++ [c[i]]) := Lib.hid (by rw [HT.out, hnb, if_pos rfl])
        clear hnb HT
        generalize c[i] = u at *
        go_wp2_with (at_builtin; refine S.wpList_append_sg elVr rfl _ _ rfl (base := w1.heap.size) (n := m) (m := 1) (xs := verV (Sw.keptT c act i)) (cs := verC u) rfl rfl (HO.out.alloc _) (sg_row4 wr 38 #[.int .i64 u.ts, .int .i64 u.rd, .string u.val, .bool u.done] rfl) (verC_one u) (by omega) (by omega) (Nat.le_trans HB.out.size (by simp)) ?_)
        intro v5 w5 hown5 hgrow5 _
        have HB5 : Hid (Below w1.heap.size w1 w5) := Lib.hid ((HB.out.alloc HB.out.size (.cells #[.int .i64 u.ts, .int .i64 u.rd, .string u.val, .bool u.done] 38)).trans (S.below_base (HO.out.alloc _) (Nat.le_trans HB.out.size (by simp)) hgrow5))
        have HO5 : Hid (w5.ownsRow w1.heap.size 38 4 v5 (m + 1) (verV (Sw.keptT c act (i + 1)))) := Lib.hid (by
          rw [HT2.out, verV_snoc]
          exact hown5)
        have HM5 : Hid ((Sw.keptT c act (i + 1)).length = m + 1) := Lib.hid (by rw [HT2.out, List.length_append, HM.out]; rfl)
        clear hown5 hgrow5
        go_wp2_with fail
        go_roundw
        case rel => exact ⟨i + 1, m + 1, by omega, by omega, by go_num, HM5, HO5, HB5⟩
        case measure => simp [intOf]; omega
    · obtain rfl : i = c.length := by omega
      have hlt' : ¬ (c.length : Int) < (c.length : Int) := by omega
      have HY : Hid (SlC wr (S.New w1 wr) (.slice Ar m cr) (Sw.keptC c act)) := Lib.hid (by
        have h9 := S.Sg.of_own HO.out
        have hm := HM.out
        rw [Sw.keptT_end] at h9 hm
        show S.Sg _ _ 4 _ (Sw.keptC c act).length _
        rw [hm]
        exact h9.wider (fun b q => q))
      have HYl : Hid ((Sw.keptC c act).length = m) := Lib.hid (by rw [← Sw.keptT_end]; exact HM.out)
      have HPo := Lib.hid (Sw.prune_of c act)
      have HPb := Lib.hid (Sw.prune_bare c act)
      clear HM HO H1
      generalize Sw.keptC c act = y at *
      by_cases hm1 : m = 1
      · subst hm1
        obtain ⟨u, rfl⟩ := List.length_eq_one_iff.1 HYl.out
        obtain ⟨a, _, ea, _, _, y0, y1, y2, y3⟩ := SlC.nth HY.out 0 (by simp)
        obtain rfl : Ar = some a := (Value.slice.inj ea).1
        clear ea
        have e0 : a.add (0 * 4) = a := by simp [Addr.add]
        rw [e0] at y1 y2
        simp only [List.getElem_cons_zero] at y1 y2
        clear y0 y3 e0
        by_cases hv : u.val = ByteArray.empty
        · have HV := Lib.hid hv
          have he' : (ByteArray.empty != ByteArray.mk #[]) = false := by decide
          rw [hv] at y2
          have HU := Lib.hid y1
          clear hv
          go_wp2_with fail
          clear y1 y2
          obtain ⟨w9, hw9⟩ : ∃ w9, w9 = wr := ⟨_, rfl⟩
          rw [← hw9] at HY HB HBw HU ⊢
          clear hw9
          go_loopw [8] (fun kv wr => ∃ k : Nat, k ≤ act.length ∧ kv = .int .i64 (k : Int) ∧ Hid (Still w9 wr) ∧ Hid (∀ j (hj : j < act.length), j < k → u.rd < act[j])) (fun kv _ => act.length - (intOf kv).toNat)
          case atStart => exact ⟨0, Nat.zero_le _, rfl, Lib.hid (Still.refl _), Lib.hid (fun j _ h => absurd h (Nat.not_lt_zero _))⟩
          case round =>
            obtain ⟨k, hk, rfl, HW, HI⟩ := hrel
            by_cases hkl : k < act.length
            · have hkl' : (k : Int) < (act.length : Int) := by omega
              have hk0 : (0 : Int) ≤ (k : Int) := by omega
              obtain ⟨ab, _, eab, _, _, xb⟩ := num_nth (S.Sg.below HA.out (HBw.out.trans (HW.out.low.mono HBw.out.size)) hG) k hkl
              cases eab
              have xu := (HW.out.cell _).trans HU.out
              by_cases hc : act[k] ≤ u.rd
              · have hc1 : decide (act[k] ≤ u.rd) = true := decide_eq_true hc
                have HP : Hid (Sw.pruneC c act = [u]) := Lib.hid (HPo.out (Sw.bare_at hkl hc))
                clear hc HPo HPb
                generalize act[k] = ak at *
                go_wp2_with fail
                go_quiet (fail)
                rename_i nq
                go_wp2_with fail
                go_ret
                have hs := (HW.out.drewN nq).low
                refine ⟨_, rfl, ?_, HBw.out.trans (hs.mono HBw.out.size)⟩
                rw [HP.out]
                exact (HY.out.below hs (fun b q => q.2)).wider (fun b q => ⟨Nat.le_trans HB1.out.size q.1, Nat.lt_of_lt_of_le q.2 hs.size⟩)
              · have hc1 : decide (act[k] ≤ u.rd) = false := decide_eq_false hc
                have HI2 : Hid (∀ j (hj : j < act.length), j < k + 1 → u.rd < act[j]) := Lib.hid (fun j hj hjk => by
                  by_cases e : j = k
                  · subst e; omega
                  · exact HI.out j hj (by omega))
                clear hc
                generalize act[k] = ak at *
                go_wp2_with fail
                go_quiet (fail)
                rename_i nq
                go_wp2_with fail
                go_roundw
                case rel => exact ⟨k + 1, by omega, by go_num, Lib.hid (HW.out.drewN nq), HI2⟩
                case measure => simp [intOf]; omega
            · obtain rfl : k = act.length := by omega
              have hkl' : ¬ (act.length : Int) < (act.length : Int) := by omega
              have HP : Hid (Sw.pruneC c act = []) := Lib.hid (HPb.out (Sw.bare_yes HV.out (fun j hj => HI.out j hj hj)))
              have HBf := Lib.hid (HBw.out.trans (HW.out.low.mono HBw.out.size))
              go_wp2_with fail
              go_ret
              refine ⟨_, rfl, ?_, HBf.out⟩
              rw [HP.out]
              exact S.Sg.nil ..
        · obtain ⟨he1, he2⟩ := not_empty hv
          have HP : Hid (Sw.pruneC c act = [u]) := Lib.hid (HPo.out (Sw.bare_val hv))
          clear hv HPo HPb y1
          generalize u.val = sv at *
          go_wp2_with fail
          go_ret
          refine ⟨_, rfl, ?_, HBw.out⟩
          rw [HP.out]
          exact HY.out.wider (fun b q => ⟨Nat.le_trans HB1.out.size q.1, q.2⟩)
      · have hm2 : ((m : Int) != 1) = true := by simp; omega
        have HP : Hid (Sw.pruneC c act = y) := Lib.hid (HPo.out (Sw.bare_len (by rw [HYl.out]; exact hm1)))
        clear hm1 HPo HPb
        go_wp2_with fail
        go_ret
        refine ⟨_, rfl, ?_, HBw.out⟩
        rw [HP.out]
        exact HY.out.wider (fun b q => ⟨Nat.le_trans HB1.out.size q.1, q.2⟩)
end Go.Proofs.Ytmlocdfjjgbnjaa
