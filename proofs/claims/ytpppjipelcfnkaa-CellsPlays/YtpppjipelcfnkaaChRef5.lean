/-
  Walks of the document's chain: Write.
-/
import Derived.Test.YtpppjipelcfnkaaChRef4
namespace Go.Proofs.Ytpppjipelcfnkaa.Cn

theorem write_late {c : Ch} {ts : Int} {val : ByteArray} {k : Nat} (h : at? c ts = some k) (hk : k < c.length) (hl : lateV c[k] ts = true) : writeC c ts val = c ∧ writeE c ts = 8 := by
  unfold writeC writeE
  rw [h]
  dsimp only
  rw [getV_eq hk, hl, if_pos rfl, if_pos rfl]
  exact ⟨rfl, rfl⟩
theorem write_own {c : Ch} {ts : Int} {val : ByteArray} {k : Nat} (h : at? c ts = some k) (hk : k < c.length) (hl : lateV c[k] ts = false) (ho : c[k].ts = ts) : writeC c ts val = c.set k ⟨c[k].ts, c[k].rd, val, c[k].done⟩ ∧ writeE c ts = 0 := by
  unfold writeC writeE
  rw [h]
  dsimp only
  rw [getV_eq hk, hl, if_neg Bool.false_ne_true, if_neg Bool.false_ne_true, if_pos ho]
  exact ⟨rfl, rfl⟩
theorem write_new {c : Ch} {ts : Int} {val : ByteArray} {k : Nat} (h : at? c ts = some k) (hk : k < c.length) (hl : lateV c[k] ts = false) (ho : c[k].ts ≠ ts) : writeC c ts val = (c.take (k + 1) ++ [⟨ts, ts, val, false⟩]) ++ c.drop (k + 1) ∧ writeE c ts = 0 := by
  unfold writeC writeE
  rw [h]
  dsimp only
  rw [getV_eq hk, hl, if_neg Bool.false_ne_true, if_neg Bool.false_ne_true, if_neg ho]
  exact ⟨by simp, rfl⟩
end Go.Proofs.Ytpppjipelcfnkaa.Cn

namespace Go.Proofs.Ytpppjipelcfnkaa
open Go.RowKit

theorem sg_row4 (w : World) (e : TypeId) (X : Array Value) {k : Nat} (hX : X.size = k) : S.Sg (w.alloc (.cells X e)) (fun b => b = w.heap.size) k (.slice (some ⟨w.heap.size, 0, none⟩) 1 1) 1 X.toList :=
  ⟨by simp [hX], _, 1, rfl, Nat.le_refl _, fun _ => ⟨_, rfl, rfl, fun j x hj => by
    have hadd : (⟨w.heap.size, 0, none⟩ : Addr).add j = ⟨w.heap.size, j, none⟩ := by cases j <;> simp [Addr.add]
    rw [hadd]
    have hjl := (List.getElem?_eq_some_iff.1 hj).1
    have := (Bk.new w X.toList e rfl).cell j x (by simpa using hj)
    simpa using this⟩⟩
theorem own_slice {w : World} {base n k : Nat} {e : TypeId} {v : Value} {xs : List Value} (h : w.ownsRow base e k v n xs) : ∃ A cap, v = .slice A n cap := by
  obtain ⟨_, A, cap, e, _, _⟩ := S.Sg.of_own h
  exact ⟨A, cap, e⟩
theorem verV_parts (c : Cn.Ch) (m : Nat) (hm : m ≤ c.length) : verV c = verV (c.take m) ++ verV (c.drop m) ∧ (verV (c.take m)).length = m * 4 :=
  ⟨by rw [← verV_append, List.take_append_drop], by rw [verV_length, List.length_take, Nat.min_eq_left hm]⟩
theorem verV_take (c : Cn.Ch) (m : Nat) (hm : m ≤ c.length) : verV (c.take m) = (verV c).take (m * 4) := by
  obtain ⟨h, hl⟩ := verV_parts c m hm
  rw [h, ← hl, List.take_left]
theorem verV_drop (c : Cn.Ch) (m : Nat) (hm : m ≤ c.length) : verV (c.drop m) = (verV c).drop (m * 4) := by
  obtain ⟨h, hl⟩ := verV_parts c m hm
  rw [h, ← hl, List.drop_left]
theorem SlC.take {w : World} {F : Nat → Prop} {a : Addr} {cap : Nat} {c : Cn.Ch} (h : SlC w F (.slice (some a) c.length cap) c) {m : Nat} (hm : m ≤ c.length) (h0 : 0 < m) : S.Sg w F 4 (.slice (some a) m cap) m (verV (c.take m)) := by
  obtain ⟨hl, A, cap', e, hc, hx⟩ := h
  cases e
  obtain ⟨a', e', hF, hx⟩ := hx (by omega)
  cases e'
  refine ⟨by rw [verV_length, List.length_take]; congr 1; omega, _, cap, rfl, by omega, fun _ => ⟨_, rfl, hF, fun j u hj => hx j u ?_⟩⟩
  rw [verV_take c m hm] at hj
  rw [← hj, List.getElem?_take_of_lt (by have := (List.getElem?_eq_some_iff.1 hj).1; simp at this; omega)]
theorem SlC.drop {w : World} {F : Nat → Prop} {a : Addr} {cap : Nat} {c : Cn.Ch} (h : SlC w F (.slice (some a) c.length cap) c) {m : Nat} (hm : m ≤ c.length) (cap2 : Nat) (hc2 : c.length - m ≤ cap2) : S.Sg w F 4 (.slice (some (a.add (m * 4))) (c.length - m) cap2) (c.length - m) (verV (c.drop m)) := by
  obtain ⟨hl, A, cap', e, hc, hx⟩ := h
  cases e
  refine ⟨by rw [verV_length, List.length_drop], _, cap2, rfl, hc2, fun hn => ?_⟩
  obtain ⟨a', e', hF, hx⟩ := hx (by omega)
  cases e'
  refine ⟨_, rfl, by rw [S.add_block]; exact hF, fun j u hj => ?_⟩
  rw [S.add_add]
  refine hx _ u ?_
  rw [verV_drop c m hm, List.getElem?_drop] at hj
  exact hj

set_option maxRecDepth 100000 in
set_option maxHeartbeats 4000000 in
theorem rwrite10_any {w : World} {F : Nat → Prop} {v : Value} {c : Cn.Ch} (h : SlC w F v c) (hF : ∀ b, F b → b < w.heap.size) (hl : c.length ≤ 1000000) (ts : Int) (val : ByteArray) :
    Calls Try.prog 52 #[v, .int .i64 ts, .string val] w fun e w' => ∃ v', e = .returned (.tuple #[v', .int .i64 (Cn.writeE c ts)]) ∧ SlC w' (fun b => F b ∨ S.New w w' b) v' (Cn.writeC c ts val) ∧ Below w.heap.size w w' := by
  have HS := Lib.hid h
  obtain ⟨A, cap, rfl, hcap⟩ := SlC.form h
  clear h
  have HL := Lib.hid (rlook10_any HS.out hl ts)
  cases hat : Cn.at? c ts with
  | none =>
    rw [Cn.look_none hat] at HL
    have HV : Hid (Cn.writeC c ts val = c ∧ Cn.writeE c ts = 8) := Lib.hid ⟨Cn.writeC_none hat, Cn.writeE_none hat⟩
    clear hat
    go_enter Try.func52, Try.ntmps52
    go_wp2_with (first
      | (go_at_call 62; refine HL.out.mono ?_; rintro e w1 ⟨rfl, hs⟩))
    go_ret2
    refine ⟨_, ret_v (by rw [HV.out.2]; rfl), ?_, hs.low⟩
    rw [HV.out.1]
    exact (HS.out.keep (fun p _ => hs.cell p)).wider (fun b q => Or.inl q)
  | some k =>
    have hk := Cn.at_lt hat
    rw [Cn.look_some hat] at HL
    have hk0 : (0 : Int) ≤ (k : Int) := by omega
    have hk1 : (k : Int) < (c.length : Int) := by omega
    have hkn : ¬ (k : Int) < 0 := by omega
    obtain ⟨ad, _, ea, _, hFa, y0, y1, y2, y3⟩ := HS.out.nth k hk
    cases ea
    have HY := Lib.hid (And.intro y0 (And.intro y1 (And.intro y2 y3)))
    clear y0 y1 y2 y3
    by_cases hr : ts < c[k].rd
    · have HV := Lib.hid (Cn.write_late (val := val) hat hk (by unfold Cn.lateV; simp [hr]))
      clear hat
      generalize c[k] = u at *
      go_enter Try.func52, Try.ntmps52
      go_wp2_with (first
        | (go_at_call 62; refine HL.out.mono ?_; rintro e w1 ⟨rfl, hs⟩; obtain ⟨y0, y1, y2, y3⟩ := four_same hs.cell HY.out; have HS1 := Lib.hid hs; clear hs))
      go_ret2
      refine ⟨_, ret_v (by rw [HV.out.2]; rfl), ?_, HS1.out.low⟩
      rw [HV.out.1]
      exact (HS.out.keep (fun p _ => HS1.out.cell p)).wider (fun b q => Or.inl q)
    · by_cases ho : c[k].ts = ts
      · cases hd : c[k].done with
        | true =>
          have HV := Lib.hid (Cn.write_late (val := val) hat hk (by unfold Cn.lateV; simp [hd, ho]))
          clear hat
          generalize c[k] = u at *
          have ho' : (u.ts == ts) = true := by simpa using ho
          rw [hd] at HY
          clear hd ho
          go_enter Try.func52, Try.ntmps52
          go_wp2_with (first
            | (go_at_call 62; refine HL.out.mono ?_; rintro e w1 ⟨rfl, hs⟩; obtain ⟨y0, y1, y2, y3⟩ := four_same hs.cell HY.out; have HS1 := Lib.hid hs; clear hs))
          go_ret2
          refine ⟨_, ret_v (by rw [HV.out.2]; rfl), ?_, HS1.out.low⟩
          rw [HV.out.1]
          exact (HS.out.keep (fun p _ => HS1.out.cell p)).wider (fun b q => Or.inl q)
        | false =>
          have HV := Lib.hid (Cn.write_own (val := val) hat hk (by unfold Cn.lateV; simp [hd, hr]) ho)
          clear hat
          obtain ⟨x, hx⟩ : ∃ x : Cn.Vr, x = ⟨c[k].ts, c[k].rd, val, c[k].done⟩ := ⟨_, rfl⟩
          rw [← hx] at HV
          have XE : Hid (verA x = .agg #[.int .i64 c[k].ts, .int .i64 c[k].rd, .string val, .bool false]) := Lib.hid (by rw [hx, hd]; rfl)
          clear hx
          generalize c[k] = u at *
          have ho' : (u.ts == ts) = true := by simpa using ho
          rw [hd] at HY
          clear hd ho
          have HWi : Hid (∀ wd, Below w.heap.size w wd → Calls Try.prog 63 #[.slice (some ad) c.length cap, .int .i64 (k : Int), .agg #[.int .i64 u.ts, .int .i64 u.rd, .string val, .bool false]] wd fun e w' => ∃ v', e = .returned v' ∧ SlC w' (S.New wd w') v' (c.set k x) ∧ Below wd.heap.size wd w') := Lib.hid (fun wd hb => by
            rw [← XE.out]
            exact rwith10_any (HS.out.below hb hF) (fun b q => Nat.lt_of_lt_of_le (hF b q) hb.size) hl hk x)
          go_enter Try.func52, Try.ntmps52
          go_wp2_with (first
            | (go_at_call 62; refine HL.out.mono ?_; rintro e w1 ⟨rfl, hs⟩; obtain ⟨y0, y1, y2, y3⟩ := four_same hs.cell HY.out; have HS1 := Lib.hid hs; clear hs)
            | (go_at_call 63; refine (HWi.out _ (HS1.out.low.alloc HS1.out.low.size _)).mono ?_; rintro e w2 ⟨v', rfl, hs2, b2⟩))
          go_ret2
          have hb := below_two (HS1.out.low.alloc HS1.out.low.size _) b2
          refine ⟨_, ret_v (by rw [HV.out.2]; rfl), ?_, hb⟩
          rw [HV.out.1]
          exact hs2.wider (fun b q => Or.inr ⟨Nat.le_trans (HS1.out.low.alloc HS1.out.low.size _).size q.1, q.2⟩)
      · have HV := Lib.hid (Cn.write_new (val := val) hat hk (by unfold Cn.lateV; simp [hr, ho]) ho)
        clear hat
        generalize c[k] = u at *
        have ho' : (u.ts == ts) = false := by simpa using ho
        clear ho
        have hkw : IntKind.i64.wrap ((k : Int) + 1) = (k : Int) + 1 := IntWalk.i64_in _ (by omega)
        have hk2 : (0 : Int) ≤ (k : Int) + 1 := by omega
        have hk3 : (k : Int) + 1 ≤ (cap : Int) := by omega
        have hk4 : (k : Int) + 1 ≤ (c.length : Int) := by omega
        have hk5 : k + 1 ≤ c.length := by omega
        have d1 : decide ((k : Int) < 0) = false := decide_eq_false hkn
        have d2 : decide (ts < u.rd) = false := decide_eq_false hr
        have HTK : Hid (∀ w', Below w.heap.size w w' → S.Sg w' F 4 (.slice (some ad) (k + 1) cap) (k + 1) (verV (c.take (k + 1)))) := Lib.hid (fun w' hb => SlC.take (HS.out.below hb hF) hk5 (by omega))
        by_cases hce : cap = k + 1
        · subst hce
          have HDR : Hid (∀ w', Below w.heap.size w w' → S.Sg w' F 4 (.slice (some ad) 0 0) 0 (verV (c.drop (k + 1)))) := Lib.hid (fun w' _ => by
            rw [List.drop_of_length_le (by omega)]
            exact S.Sg.nil ..)
          cases hd : u.done with
          | true =>
            rw [hd] at HY
            clear hd
            go_enter Try.func52, Try.ntmps52
            go_wp2_with (first
              | (go_at_call 62; refine HL.out.mono ?_; rintro e w1 ⟨rfl, hs⟩; obtain ⟨y0, y1, y2, y3⟩ := four_same hs.cell HY.out; have HA := Lib.hid (And.intro (S.own_none (w := w1) 76 4 rfl (Nat.le_refl _)) ((HTK.out w1 hs.low).below ((Below.refl w1.heap.size w1).alloc (Nat.le_refl _) (.cells #[] 76)) (fun b q => Nat.lt_of_lt_of_le (hF b q) hs.low.size))); have HS1 := Lib.hid hs; clear hs)
              | (at_builtin; refine S.wpList_append_sg elVr rfl _ _ rfl (base := w1.heap.size) (n := 0) (m := k + 1) (xs := []) (cs := verV (c.take (k + 1))) rfl rfl HA.out.1 HA.out.2 (verV_one _) (by omega) (by omega) (by simp) ?_))
            intro v4 w4 hown4 hgrow4 _
            have HB4 := Lib.hid (((Below.refl w1.heap.size w1).alloc (Nat.le_refl _) (.cells #[] 76)).trans (S.below_base HA.out.1 (by simp) hgrow4))
            have hown4 : w4.ownsRow w1.heap.size 76 4 v4 (k + 1) (verV (c.take (k + 1))) := by simpa using hown4
            have HO4 := Lib.hid hown4
            obtain ⟨A4, c4, rfl⟩ := own_slice hown4
            clear hown4 hgrow4 HA y0 y1 y2 y3 HY
            go_wp2_with (at_builtin; refine S.wpList_append_sg elVr rfl _ _ rfl (base := w1.heap.size) (n := k + 1) (m := 1) (xs := verV (c.take (k + 1))) (cs := verC (⟨ts, ts, val, false⟩ : Cn.Vr)) rfl rfl (HO4.out.alloc _) (sg_row4 w4 76 #[.int .i64 ts, .int .i64 ts, .string val, .bool false] rfl) (verC_one (⟨ts, ts, val, false⟩ : Cn.Vr)) (by omega) (by omega) (Nat.le_trans HB4.out.size (by simp)) ?_)
            intro v5 w5 hown5 hgrow5 _
            have HB5 := Lib.hid (HB4.out.trans ((((Below.refl w4.heap.size w4).alloc (Nat.le_refl _) (.cells #[.int .i64 ts, .int .i64 ts, .string val, .bool false] 76)).mono HB4.out.size).trans (S.below_base (HO4.out.alloc _) (Nat.le_trans HB4.out.size (by simp)) hgrow5)))
            have hown5 : w5.ownsRow w1.heap.size 76 4 v5 (k + 2) (verV (c.take (k + 1) ++ [(⟨ts, ts, val, false⟩ : Cn.Vr)])) := by rw [verV_append]; exact hown5
            have HO5 := Lib.hid hown5
            have HD5 := Lib.hid (HDR.out w5 (below_two HS1.out.low HB5.out))
            obtain ⟨g5, c5, cur5, rfl, _, _, _, _, _⟩ := V.own_form hown5 (by omega)
            have HB6 := HB5
            have HO6 : Hid (w5.ownsRow w1.heap.size 76 4 (.slice (some ⟨g5, 0, none⟩) (k + 2) c5) (k + 2 + 0) (verV (c.take (k + 1) ++ [(⟨ts, ts, val, false⟩ : Cn.Vr)]) ++ verV (c.drop (k + 1)))) := Lib.hid (by
              rw [show verV (c.drop (k + 1)) = [] by rw [List.drop_of_length_le (by omega)]; rfl, List.append_nil]
              exact hown5)
            clear hown5 hgrow5 HO4 HB4 HO5 HD5
            go_wp2_with fail
            go_ret2
            have hb := below_two HS1.out.low HB6.out
            refine ⟨_, ret_v (by rw [HV.out.2]; rfl), ?_, hb⟩
            rw [HV.out.1]
            have h9 := S.Sg.of_own HO6.out
            show S.Sg _ _ 4 _ ((c.take (k + 1) ++ [(⟨ts, ts, val, false⟩ : Cn.Vr)]) ++ c.drop (k + 1)).length (verV _)
            rw [verV_append]
            have hlen : ((c.take (k + 1) ++ [(⟨ts, ts, val, false⟩ : Cn.Vr)]) ++ c.drop (k + 1)).length = k + 2 + 0 := by
              simp only [List.length_append, List.length_take, List.length_drop, List.length_cons, List.length_nil]
              omega
            rw [hlen]
            exact h9.wider (fun b q => Or.inr ⟨Nat.le_trans HS1.out.low.size q.1, q.2⟩)
          | false =>
            rw [hd] at HY
            clear hd
            go_enter Try.func52, Try.ntmps52
            go_wp2_with (first
              | (go_at_call 62; refine HL.out.mono ?_; rintro e w1 ⟨rfl, hs⟩; obtain ⟨y0, y1, y2, y3⟩ := four_same hs.cell HY.out; have HA := Lib.hid (And.intro (S.own_none (w := w1) 76 4 rfl (Nat.le_refl _)) ((HTK.out w1 hs.low).below ((Below.refl w1.heap.size w1).alloc (Nat.le_refl _) (.cells #[] 76)) (fun b q => Nat.lt_of_lt_of_le (hF b q) hs.low.size))); have HS1 := Lib.hid hs; clear hs)
              | (at_builtin; refine S.wpList_append_sg elVr rfl _ _ rfl (base := w1.heap.size) (n := 0) (m := k + 1) (xs := []) (cs := verV (c.take (k + 1))) rfl rfl HA.out.1 HA.out.2 (verV_one _) (by omega) (by omega) (by simp) ?_))
            intro v4 w4 hown4 hgrow4 _
            have HB4 := Lib.hid (((Below.refl w1.heap.size w1).alloc (Nat.le_refl _) (.cells #[] 76)).trans (S.below_base HA.out.1 (by simp) hgrow4))
            have hown4 : w4.ownsRow w1.heap.size 76 4 v4 (k + 1) (verV (c.take (k + 1))) := by simpa using hown4
            have HO4 := Lib.hid hown4
            obtain ⟨A4, c4, rfl⟩ := own_slice hown4
            clear hown4 hgrow4 HA y0 y1 y2 y3 HY
            go_wp2_with (at_builtin; refine S.wpList_append_sg elVr rfl _ _ rfl (base := w1.heap.size) (n := k + 1) (m := 1) (xs := verV (c.take (k + 1))) (cs := verC (⟨ts, ts, val, false⟩ : Cn.Vr)) rfl rfl (HO4.out.alloc _) (sg_row4 w4 76 #[.int .i64 ts, .int .i64 ts, .string val, .bool false] rfl) (verC_one (⟨ts, ts, val, false⟩ : Cn.Vr)) (by omega) (by omega) (Nat.le_trans HB4.out.size (by simp)) ?_)
            intro v5 w5 hown5 hgrow5 _
            have HB5 := Lib.hid (HB4.out.trans ((((Below.refl w4.heap.size w4).alloc (Nat.le_refl _) (.cells #[.int .i64 ts, .int .i64 ts, .string val, .bool false] 76)).mono HB4.out.size).trans (S.below_base (HO4.out.alloc _) (Nat.le_trans HB4.out.size (by simp)) hgrow5)))
            have hown5 : w5.ownsRow w1.heap.size 76 4 v5 (k + 2) (verV (c.take (k + 1) ++ [(⟨ts, ts, val, false⟩ : Cn.Vr)])) := by rw [verV_append]; exact hown5
            have HO5 := Lib.hid hown5
            have HD5 := Lib.hid (HDR.out w5 (below_two HS1.out.low HB5.out))
            obtain ⟨g5, c5, cur5, rfl, _, _, _, _, _⟩ := V.own_form hown5 (by omega)
            have HB6 := HB5
            have HO6 : Hid (w5.ownsRow w1.heap.size 76 4 (.slice (some ⟨g5, 0, none⟩) (k + 2) c5) (k + 2 + 0) (verV (c.take (k + 1) ++ [(⟨ts, ts, val, false⟩ : Cn.Vr)]) ++ verV (c.drop (k + 1)))) := Lib.hid (by
              rw [show verV (c.drop (k + 1)) = [] by rw [List.drop_of_length_le (by omega)]; rfl, List.append_nil]
              exact hown5)
            clear hown5 hgrow5 HO4 HB4 HO5 HD5
            go_wp2_with fail
            go_ret2
            have hb := below_two HS1.out.low HB6.out
            refine ⟨_, ret_v (by rw [HV.out.2]; rfl), ?_, hb⟩
            rw [HV.out.1]
            have h9 := S.Sg.of_own HO6.out
            show S.Sg _ _ 4 _ ((c.take (k + 1) ++ [(⟨ts, ts, val, false⟩ : Cn.Vr)]) ++ c.drop (k + 1)).length (verV _)
            rw [verV_append]
            have hlen : ((c.take (k + 1) ++ [(⟨ts, ts, val, false⟩ : Cn.Vr)]) ++ c.drop (k + 1)).length = k + 2 + 0 := by
              simp only [List.length_append, List.length_take, List.length_drop, List.length_cons, List.length_nil]
              omega
            rw [hlen]
            exact h9.wider (fun b q => Or.inr ⟨Nat.le_trans HS1.out.low.size q.1, q.2⟩)
        · have hce2 : ¬ cap ≤ k + 1 := by omega
          have HDR : Hid (∀ w', Below w.heap.size w w' → S.Sg w' F 4 (.slice (some (ad.add ((k + 1) * 4))) (c.length - (k + 1)) (cap - (k + 1))) (c.length - (k + 1)) (verV (c.drop (k + 1)))) := Lib.hid (fun w' hb => SlC.drop (HS.out.below hb hF) hk5 _ (by omega))
          cases hd : u.done with
          | true =>
            rw [hd] at HY
            clear hd
            go_enter Try.func52, Try.ntmps52
            go_wp2_with (first
              | (go_at_call 62; refine HL.out.mono ?_; rintro e w1 ⟨rfl, hs⟩; obtain ⟨y0, y1, y2, y3⟩ := four_same hs.cell HY.out; have HA := Lib.hid (And.intro (S.own_none (w := w1) 76 4 rfl (Nat.le_refl _)) ((HTK.out w1 hs.low).below ((Below.refl w1.heap.size w1).alloc (Nat.le_refl _) (.cells #[] 76)) (fun b q => Nat.lt_of_lt_of_le (hF b q) hs.low.size))); have HS1 := Lib.hid hs; clear hs)
              | (at_builtin; refine S.wpList_append_sg elVr rfl _ _ rfl (base := w1.heap.size) (n := 0) (m := k + 1) (xs := []) (cs := verV (c.take (k + 1))) rfl rfl HA.out.1 HA.out.2 (verV_one _) (by omega) (by omega) (by simp) ?_))
            intro v4 w4 hown4 hgrow4 _
            have HB4 := Lib.hid (((Below.refl w1.heap.size w1).alloc (Nat.le_refl _) (.cells #[] 76)).trans (S.below_base HA.out.1 (by simp) hgrow4))
            have hown4 : w4.ownsRow w1.heap.size 76 4 v4 (k + 1) (verV (c.take (k + 1))) := by simpa using hown4
            have HO4 := Lib.hid hown4
            obtain ⟨A4, c4, rfl⟩ := own_slice hown4
            clear hown4 hgrow4 HA y0 y1 y2 y3 HY
            go_wp2_with (at_builtin; refine S.wpList_append_sg elVr rfl _ _ rfl (base := w1.heap.size) (n := k + 1) (m := 1) (xs := verV (c.take (k + 1))) (cs := verC (⟨ts, ts, val, false⟩ : Cn.Vr)) rfl rfl (HO4.out.alloc _) (sg_row4 w4 76 #[.int .i64 ts, .int .i64 ts, .string val, .bool false] rfl) (verC_one (⟨ts, ts, val, false⟩ : Cn.Vr)) (by omega) (by omega) (Nat.le_trans HB4.out.size (by simp)) ?_)
            intro v5 w5 hown5 hgrow5 _
            have HB5 := Lib.hid (HB4.out.trans ((((Below.refl w4.heap.size w4).alloc (Nat.le_refl _) (.cells #[.int .i64 ts, .int .i64 ts, .string val, .bool false] 76)).mono HB4.out.size).trans (S.below_base (HO4.out.alloc _) (Nat.le_trans HB4.out.size (by simp)) hgrow5)))
            have hown5 : w5.ownsRow w1.heap.size 76 4 v5 (k + 2) (verV (c.take (k + 1) ++ [(⟨ts, ts, val, false⟩ : Cn.Vr)])) := by rw [verV_append]; exact hown5
            have HO5 := Lib.hid hown5
            have HD5 := Lib.hid (HDR.out w5 (below_two HS1.out.low HB5.out))
            obtain ⟨A5, c5, rfl⟩ := own_slice hown5
            clear hown5 hgrow5 HO4 HB4
            go_wp2_with (at_builtin; refine S.wpList_append_sg elVr rfl _ _ rfl (base := w1.heap.size) (n := k + 2) (m := (c.length - (k + 1))) (xs := verV (c.take (k + 1) ++ [(⟨ts, ts, val, false⟩ : Cn.Vr)])) (cs := verV (c.drop (k + 1))) rfl rfl HO5.out HD5.out (verV_one _) (by omega) (by omega) HB5.out.size ?_)
            intro v6 w6 hown6 hgrow6 _
            have HB6 := Lib.hid (HB5.out.trans (S.below_base HO5.out HB5.out.size hgrow6))
            have HO6 := Lib.hid hown6
            clear hown6 hgrow6 HO5 HB5
            go_wp2_with fail
            go_ret2
            have hb := below_two HS1.out.low HB6.out
            refine ⟨_, ret_v (by rw [HV.out.2]; rfl), ?_, hb⟩
            rw [HV.out.1]
            have h9 := S.Sg.of_own HO6.out
            show S.Sg _ _ 4 _ ((c.take (k + 1) ++ [(⟨ts, ts, val, false⟩ : Cn.Vr)]) ++ c.drop (k + 1)).length (verV _)
            rw [verV_append]
            have hlen : ((c.take (k + 1) ++ [(⟨ts, ts, val, false⟩ : Cn.Vr)]) ++ c.drop (k + 1)).length = k + 2 + (c.length - (k + 1)) := by
              simp only [List.length_append, List.length_take, List.length_drop, List.length_cons, List.length_nil]
              omega
            rw [hlen]
            exact h9.wider (fun b q => Or.inr ⟨Nat.le_trans HS1.out.low.size q.1, q.2⟩)
          | false =>
            rw [hd] at HY
            clear hd
            go_enter Try.func52, Try.ntmps52
            go_wp2_with (first
              | (go_at_call 62; refine HL.out.mono ?_; rintro e w1 ⟨rfl, hs⟩; obtain ⟨y0, y1, y2, y3⟩ := four_same hs.cell HY.out; have HA := Lib.hid (And.intro (S.own_none (w := w1) 76 4 rfl (Nat.le_refl _)) ((HTK.out w1 hs.low).below ((Below.refl w1.heap.size w1).alloc (Nat.le_refl _) (.cells #[] 76)) (fun b q => Nat.lt_of_lt_of_le (hF b q) hs.low.size))); have HS1 := Lib.hid hs; clear hs)
              | (at_builtin; refine S.wpList_append_sg elVr rfl _ _ rfl (base := w1.heap.size) (n := 0) (m := k + 1) (xs := []) (cs := verV (c.take (k + 1))) rfl rfl HA.out.1 HA.out.2 (verV_one _) (by omega) (by omega) (by simp) ?_))
            intro v4 w4 hown4 hgrow4 _
            have HB4 := Lib.hid (((Below.refl w1.heap.size w1).alloc (Nat.le_refl _) (.cells #[] 76)).trans (S.below_base HA.out.1 (by simp) hgrow4))
            have hown4 : w4.ownsRow w1.heap.size 76 4 v4 (k + 1) (verV (c.take (k + 1))) := by simpa using hown4
            have HO4 := Lib.hid hown4
            obtain ⟨A4, c4, rfl⟩ := own_slice hown4
            clear hown4 hgrow4 HA y0 y1 y2 y3 HY
            go_wp2_with (at_builtin; refine S.wpList_append_sg elVr rfl _ _ rfl (base := w1.heap.size) (n := k + 1) (m := 1) (xs := verV (c.take (k + 1))) (cs := verC (⟨ts, ts, val, false⟩ : Cn.Vr)) rfl rfl (HO4.out.alloc _) (sg_row4 w4 76 #[.int .i64 ts, .int .i64 ts, .string val, .bool false] rfl) (verC_one (⟨ts, ts, val, false⟩ : Cn.Vr)) (by omega) (by omega) (Nat.le_trans HB4.out.size (by simp)) ?_)
            intro v5 w5 hown5 hgrow5 _
            have HB5 := Lib.hid (HB4.out.trans ((((Below.refl w4.heap.size w4).alloc (Nat.le_refl _) (.cells #[.int .i64 ts, .int .i64 ts, .string val, .bool false] 76)).mono HB4.out.size).trans (S.below_base (HO4.out.alloc _) (Nat.le_trans HB4.out.size (by simp)) hgrow5)))
            have hown5 : w5.ownsRow w1.heap.size 76 4 v5 (k + 2) (verV (c.take (k + 1) ++ [(⟨ts, ts, val, false⟩ : Cn.Vr)])) := by rw [verV_append]; exact hown5
            have HO5 := Lib.hid hown5
            have HD5 := Lib.hid (HDR.out w5 (below_two HS1.out.low HB5.out))
            obtain ⟨A5, c5, rfl⟩ := own_slice hown5
            clear hown5 hgrow5 HO4 HB4
            go_wp2_with (at_builtin; refine S.wpList_append_sg elVr rfl _ _ rfl (base := w1.heap.size) (n := k + 2) (m := (c.length - (k + 1))) (xs := verV (c.take (k + 1) ++ [(⟨ts, ts, val, false⟩ : Cn.Vr)])) (cs := verV (c.drop (k + 1))) rfl rfl HO5.out HD5.out (verV_one _) (by omega) (by omega) HB5.out.size ?_)
            intro v6 w6 hown6 hgrow6 _
            have HB6 := Lib.hid (HB5.out.trans (S.below_base HO5.out HB5.out.size hgrow6))
            have HO6 := Lib.hid hown6
            clear hown6 hgrow6 HO5 HB5
            go_wp2_with fail
            go_ret2
            have hb := below_two HS1.out.low HB6.out
            refine ⟨_, ret_v (by rw [HV.out.2]; rfl), ?_, hb⟩
            rw [HV.out.1]
            have h9 := S.Sg.of_own HO6.out
            show S.Sg _ _ 4 _ ((c.take (k + 1) ++ [(⟨ts, ts, val, false⟩ : Cn.Vr)]) ++ c.drop (k + 1)).length (verV _)
            rw [verV_append]
            have hlen : ((c.take (k + 1) ++ [(⟨ts, ts, val, false⟩ : Cn.Vr)]) ++ c.drop (k + 1)).length = k + 2 + (c.length - (k + 1)) := by
              simp only [List.length_append, List.length_take, List.length_drop, List.length_cons, List.length_nil]
              omega
            rw [hlen]
            exact h9.wider (fun b q => Or.inr ⟨Nat.le_trans HS1.out.low.size q.1, q.2⟩)

end Go.Proofs.Ytpppjipelcfnkaa
