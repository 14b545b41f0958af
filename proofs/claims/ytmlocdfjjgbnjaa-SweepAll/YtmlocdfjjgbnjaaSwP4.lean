/-
  Prune, over Needed and blank.
-/
import Derived.Test.YtmlocdfjjgbnjaaSwP2
import Derived.Test.YtmlocdfjjgbnjaaSwRef3
namespace Go.Proofs.Ytmlocdfjjgbnjaa
open Go.RowKit

theorem bare_any (u : Cn.Vr) (act : List Int) : Sw.bareB [u] act = (decide (u.val = ByteArray.empty) && !act.any (fun a => decide (a ≤ u.rd))) := by
  show (decide (u.val = ByteArray.empty) && act.all fun a => decide (u.rd < a)) = _
  congr 1
  rw [List.all_eq_not_any_not]
  congr 1
  congr 1
  funext a
  rw [← decide_not]
  congr 1
  exact propext (by omega)

set_option maxRecDepth 100000 in
set_option maxHeartbeats 4000000 in
theorem below_rd13 {w : World} {q : Nat} {rd ts : Int} (h : w.cell? ⟨q, 1, none⟩ = some (.int .i64 rd)) :
    Calls Try.prog 53 #[.int .i64 ts, .pointer (some ⟨q, 0, none⟩)] w fun e w' => e = .returned (.bool (decide (ts ≤ rd))) ∧ Below w.heap.size w w' := by
  go_enter Try.func53, Try.ntmps53
  go_wp2
  go_ret
  exact ⟨rfl, Below.refl _ _⟩

set_option maxRecDepth 100000 in
set_option maxHeartbeats 4000000 in
theorem blank13 {w : World} {G : Nat → Prop} {va : Value} {u : Cn.Vr} {act : List Int} (ha : SlN w G va act) (hG : ∀ b, G b → b < w.heap.size) (hla : act.length ≤ 200) :
    Calls Try.prog 38 #[.agg #[.int .i64 u.ts, .int .i64 u.rd, .string u.val, .bool u.done], va] w fun e w' => e = .returned (.bool (Sw.bareB [u] act)) ∧ Below w.heap.size w w' := by
  obtain ⟨B, capb, rfl, hcapb⟩ := num_form ha
  have hb1 : Below w.heap.size w (w.alloc (.cells #[.int .i64 u.ts, .int .i64 u.rd, .string u.val, .bool u.done] 40)) := (Below.refl _ _).alloc (Nat.le_refl _) _
  have HB1 := Lib.hid hb1
  have HCo : Hid (Calls Try.prog 52 #[.slice B act.length capb, .func (.func 53) #[] #[.pointer (some ⟨w.heap.size, 0, none⟩)]] (w.alloc (.cells #[.int .i64 u.ts, .int .i64 u.rd, .string u.val, .bool u.done] 40)) fun e w' => e = .returned (.bool (act.any (fun a => decide (a ≤ u.rd)))) ∧ Below (w.alloc (.cells #[.int .i64 u.ts, .int .i64 u.rd, .string u.val, .bool u.done] 40)).heap.size (w.alloc (.cells #[.int .i64 u.ts, .int .i64 u.rd, .string u.val, .bool u.done] 40)) w') := Lib.hid (by
    refine contains13 (p := fun a => decide (a ≤ u.rd)) (S.Sg.below ha hb1 hG) (fun b q => Nat.lt_of_lt_of_le (hG b q) hb1.size) (by omega) (enters_of Try.func53 (by kernel_rfl) rfl) (fun W x hb => ?_)
    exact below_rd13 (((Bk.new w [.int .i64 u.ts, .int .i64 u.rd, .string u.val, .bool u.done] 40 rfl).step hb).cell 1 _ rfl))
  rw [bare_any]
  clear ha hG hb1
  by_cases hv : u.val = ByteArray.empty
  · have he' : (ByteArray.empty == ByteArray.mk #[]) = true := by decide
    rw [decide_eq_true hv]
    rw [hv] at HCo HB1 ⊢
    clear hv
    generalize u.ts = ut at *
    generalize u.rd = ur at *
    generalize u.done = ud at *
    go_enter Try.func38, Try.ntmps38
    go_wp2_with (go_at_call 52; refine HCo.out.mono ?_; rintro e w2 ⟨rfl, hb2⟩; have HB2 := Lib.hid (HB1.out.trans (hb2.mono HB1.out.size)); clear hb2 HCo)
    go_ret
    exact ⟨by simp, HB2.out⟩
  · obtain ⟨he1, he2⟩ := not_empty hv
    rw [decide_eq_false hv]
    clear hv HCo
    generalize u.ts = ut at *
    generalize u.rd = ur at *
    generalize u.done = ud at *
    generalize u.val = sv at *
    go_enter Try.func38, Try.ntmps38
    go_wp2_with fail
    go_ret
    exact ⟨by simp, HB1.out⟩

set_option maxRecDepth 100000 in
set_option maxHeartbeats 8000000 in
theorem prune13 (KC : ChainOk) {w : World} {F G : Nat → Prop} {v va : Value} {c : Cn.Ch} {act : List Int} (h : SlC w F v c) (hF : ∀ b, F b → b < w.heap.size) (hl : c.length ≤ 200) (ha : SlN w G va act) (hG : ∀ b, G b → b < w.heap.size) (hla : act.length ≤ 200) :
    Calls Try.prog 16 #[v, va] w fun e w' => ∃ v', e = .returned v' ∧ SlC w' (S.New w w') v' (Sw.pruneC c act) ∧ Below w.heap.size w w' := by
  have HS := Lib.hid h
  have HA := Lib.hid ha
  have HN := Lib.hid (needed13 KC h hF hl ha hG hla)
  obtain ⟨A, cap, rfl, hcap⟩ := SlC.form h
  obtain ⟨B, capb, rfl, hcapb⟩ := num_form ha
  have HNl : Hid ((Sw.needs c act).length = c.length) := Lib.hid (by unfold Sw.needs; rw [List.length_map])
  clear h ha
  go_enter Try.func16, Try.ntmps16
  go_wp2_with (go_at_call 12; refine HN.out.mono ?_; rintro e w1 ⟨v1, rfl, h1, hb1⟩; have H1 := Lib.hid h1; have HB1 := Lib.hid hb1; obtain ⟨A1, c1, rfl, hc1⟩ := boo_form h1; clear h1 hb1 HN)
  obtain ⟨n, hn⟩ : ∃ n, n = (Sw.needs c act).length := ⟨_, rfl⟩
  have HNn : Hid (n = c.length) := Lib.hid (by rw [hn, HNl.out])
  rw [← hn] at hc1 ⊢
  have H1 : Hid (∀ W, Below w1.heap.size w1 W → ∀ i (hi : i < c.length), ∃ a, A1 = some a ∧ W.cell? (a.add i) = some (.bool (Sw.needB c act c[i]))) := Lib.hid (fun W hb i hi => by
    obtain ⟨a, _, ea, _, _, hx⟩ := boo_nth (H1.out.below hb (fun b q => q.2)) i (by rw [HNl.out]; exact hi)
    refine ⟨a, (Value.slice.inj ea).1, ?_⟩
    rw [hx]
    unfold Sw.needs
    rw [List.getElem_map])
  clear hn
  go_loopw [5, 12] (fun r iv wr => ∃ (i m : Nat), i ≤ c.length ∧ m ≤ i ∧ iv = .int .i64 (i : Int) ∧ Hid ((Sw.keptT c act i).length = m) ∧ Hid (wr.ownsRow w1.heap.size 40 4 r m (verV (Sw.keptT c act i))) ∧ Hid (Below w1.heap.size w1 wr)) (fun _ iv _ => c.length - (intOf iv).toNat)
  case atStart => exact ⟨0, 0, Nat.zero_le _, Nat.le_refl _, rfl, Lib.hid (by simp [Sw.keptT]), Lib.hid (by simpa [Sw.keptT, verV] using S.own_nil ..), Lib.hid (Below.refl _ _)⟩
  case round =>
    obtain ⟨i, m, hi, hmi, rfl, HM, HO, HB⟩ := hrel
    obtain ⟨Ar, cr, rfl⟩ := own_slice HO.out
    have HBw := Lib.hid (HB1.out.trans (HB.out.mono HB1.out.size))
    by_cases hlt : i < c.length
    · have hlt' : (i : Int) < (c.length : Int) := by omega
      have hi0 : (0 : Int) ≤ (i : Int) := by omega
      have hltn : (i : Int) < (n : Int) := by have := HNn.out; omega
      obtain ⟨an, ean, xn⟩ := H1.out wr HB.out i hlt
      subst ean
      obtain ⟨a, _, ea, _, _, y0, y1, y2, y3⟩ := SlC.nth (HS.out.below HBw.out hF) i hlt
      cases ea
      have HT := Lib.hid (Sw.keptT_snoc c act hlt)
      cases hnb : Sw.needB c act c[i] with
      | false =>
        rw [hnb] at xn
        have HT2 : Hid (Sw.keptT c act (i + 1) = Sw.keptT c act i) := Lib.hid (by rw [HT.out, hnb, if_neg Bool.false_ne_true])
        clear hnb HT y0 y1 y2 y3
        go_wp2_with fail
        go_roundw
        case rel => exact ⟨i + 1, m, by omega, by omega, by go_num, Lib.hid (by rw [HT2.out]; exact HM.out), Lib.hid (by rw [HT2.out]; exact HO.out), HB⟩
        case measure => simp [intOf]; omega
      | true =>
        rw [hnb] at xn
        have HT2 : Hid (Sw.keptT c act (i + 1) = Sw.keptT c act i ++ [c[i]]) := Lib.hid (by rw [HT.out, hnb, if_pos rfl])
        clear hnb HT
        generalize c[i] = u at *
        go_wp2_with (at_builtin; refine S.wpList_append_sg elCv rfl _ _ rfl (base := w1.heap.size) (n := m) (m := 1) (xs := verV (Sw.keptT c act i)) (cs := verC u) rfl rfl (HO.out.alloc _) (sg_row4 wr 40 #[.int .i64 u.ts, .int .i64 u.rd, .string u.val, .bool u.done] rfl) (verC_one u) (by omega) (by omega) (Nat.le_trans HB.out.size (by simp)) ?_)
        intro v5 w5 hown5 hgrow5 _
        have HB5 : Hid (Below w1.heap.size w1 w5) := Lib.hid ((HB.out.alloc HB.out.size (.cells #[.int .i64 u.ts, .int .i64 u.rd, .string u.val, .bool u.done] 40)).trans (S.below_base (HO.out.alloc _) (Nat.le_trans HB.out.size (by simp)) hgrow5))
        have HO5 : Hid (w5.ownsRow w1.heap.size 40 4 v5 (m + 1) (verV (Sw.keptT c act (i + 1)))) := Lib.hid (by
          rw [HT2.out, verV_snoc]
          exact hown5)
        have HM5 : Hid ((Sw.keptT c act (i + 1)).length = m + 1) := Lib.hid (by rw [HT2.out, List.length_append, HM.out]; rfl)
        clear hown5 hgrow5
        go_wp2_with fail
        go_roundw
        case rel => exact ⟨i + 1, m + 1, by omega, by omega, by go_num, HM5, HO5, HB5⟩
        case measure => simp [intOf]; omega
    · obtain rfl : i = c.length := by omega
      have hltn : ¬ (c.length : Int) < (n : Int) := by have := HNn.out; omega
      have HY : Hid (SlC wr (S.New w1 wr) (.slice Ar m cr) (Sw.keptC c act)) := Lib.hid (by
        have h9 := S.Sg.of_own HO.out
        have hm := HM.out
        rw [Sw.keptT_end] at h9 hm
        show S.Sg _ _ 4 _ (Sw.keptC c act).length _
        rw [hm]
        exact h9.wider (fun b q => q))
      have HYl : Hid ((Sw.keptC c act).length = m) := Lib.hid (by rw [← Sw.keptT_end]; exact HM.out)
      have HPo := Lib.hid (Sw.prune_of c act)
      have HPb := Lib.hid (Sw.prune_bare c act)
      clear HM HO H1
      generalize Sw.keptC c act = y at *
      by_cases hm1 : m = 1
      · subst hm1
        obtain ⟨u, rfl⟩ := List.length_eq_one_iff.1 HYl.out
        obtain ⟨a, _, ea, _, _, y0, y1, y2, y3⟩ := SlC.nth HY.out 0 (by simp)
        obtain rfl : Ar = some a := (Value.slice.inj ea).1
        clear ea
        have e0 : a.add (0 * 4) = a := by simp [Addr.add]
        rw [e0] at y0 y1 y2 y3
        simp only [List.getElem_cons_zero] at y0 y1 y2 y3
        clear e0
        have HBl := Lib.hid (blank13 (u := u) (S.Sg.below HA.out HBw.out hG) (fun b q => Nat.lt_of_lt_of_le (hG b q) HBw.out.size) hla)
        cases hbb : Sw.bareB [u] act with
        | true =>
          rw [hbb] at HBl
          have HP : Hid (Sw.pruneC c act = []) := Lib.hid (HPb.out hbb)
          clear hbb HPo HPb
          generalize u.ts = u0 at *
          generalize u.rd = u1 at *
          generalize u.val = u2 at *
          generalize u.done = u3 at *
          go_wp2_with (go_at_call 38; refine HBl.out.mono ?_; rintro e w2 ⟨rfl, hb2⟩; have HB2 := Lib.hid (HBw.out.trans (hb2.mono HBw.out.size)); clear hb2 HBl)
          go_ret
          refine ⟨_, rfl, ?_, HB2.out⟩
          rw [HP.out]
          exact S.Sg.nil ..
        | false =>
          rw [hbb] at HBl
          have HP : Hid (Sw.pruneC c act = [u]) := Lib.hid (HPo.out hbb)
          clear hbb HPo HPb
          generalize u.ts = u0 at *
          generalize u.rd = u1 at *
          generalize u.val = u2 at *
          generalize u.done = u3 at *
          go_wp2_with (go_at_call 38; refine HBl.out.mono ?_; rintro e w2 ⟨rfl, hb2⟩; have HB2 := Lib.hid hb2; clear hb2 HBl)
          go_ret
          have hs := HB2.out
          refine ⟨_, rfl, ?_, HBw.out.trans (hs.mono HBw.out.size)⟩
          rw [HP.out]
          exact (HY.out.below hs (fun b q => q.2)).wider (fun b q => ⟨Nat.le_trans HB1.out.size q.1, Nat.lt_of_lt_of_le q.2 hs.size⟩)
      · have hm2 : ((m : Int) == 1) = false := by simp; omega
        have HP : Hid (Sw.pruneC c act = y) := Lib.hid (HPo.out (Sw.bare_len (by rw [HYl.out]; exact hm1)))
        clear hm1 HPo HPb
        go_wp2_with fail
        go_ret
        refine ⟨_, rfl, ?_, HBw.out⟩
        rw [HP.out]
        exact HY.out.wider (fun b q => ⟨Nat.le_trans HB1.out.size q.1, q.2⟩)
end Go.Proofs.Ytmlocdfjjgbnjaa
