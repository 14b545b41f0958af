/-
  Layer sweep's laws, of cells: filled.
-/
import Derived.Test.YtmlocdfjjgbnjaaSwLaw3
namespace Go.Proofs.Ytmlocdfjjgbnjaa.Sw
open Cn Cl
/-- cells of the first k chains -/
def fillK (l : Cs) (k : Nat) : Cs := (l.take k).foldl (fun X p => setX X p.1 p.2) []
theorem fillK_snoc (l : Cs) {k : Nat} (hk : k < l.length) : fillK l (k + 1) = setX (fillK l k) l[k].1 l[k].2 := by
  unfold fillK
  rw [List.take_succ_eq_append_getElem hk, List.foldl_append]
  rfl
theorem fillK_end (l : Cs) {k : Nat} (hk : l.length ≤ k) : fillK l k = fillK l l.length := by unfold fillK; rw [List.take_of_length_le hk, List.take_length]
theorem fillK_fit (l : Cs) (h : ∀ p ∈ l.take 20, p.2.length ≤ 20) : ∀ k, k ≤ l.length → k ≤ 20 → Fit k (fillK l k)
  | 0, _, _ => Fit.nil 0
  | k + 1, hk, hk2 => by
    rw [fillK_snoc l (by omega)]
    exact (fillK_fit l h k (by omega) (by omega)).set _ (by have := h l[k] (by rw [List.mem_take_iff_getElem]; exact ⟨k, by omega, rfl⟩); omega)
theorem fillK_ch (l : Cs) (h : ∀ p ∈ l.take 20, p.2.length ≤ 20) : ∀ k, k ≤ l.length → k ≤ 20 → ∀ q ∈ fillK l k, q.2.length ≤ 20
  | 0, _, _ => fun q hq => by cases hq
  | k + 1, hk, hk2 => fun q hq => by
    rw [fillK_snoc l (by omega)] at hq
    rcases mem_set hq with ⟨hq, _⟩ | ⟨rfl, _⟩
    · exact fillK_ch l h k (by omega) (by omega) q hq
    · exact h l[k] (by rw [List.mem_take_iff_getElem]; exact ⟨k, by omega, rfl⟩)
theorem fillK_ord (l : Cs) : ∀ k, k ≤ l.length → Ord (fillK l k)
  | 0, _ => Ord.nil
  | k + 1, hk => by
    rw [fillK_snoc l (by omega)]
    exact (fillK_ord l k (by omega)).set _ _
theorem fillK_all {P : Ch → Prop} (l : Cs) (h : ∀ p ∈ l, P p.2) : ∀ k, k ≤ l.length → ∀ q ∈ fillK l k, P q.2
  | 0, _ => fun q hq => by cases hq
  | k + 1, hk => fun q hq => by
    rw [fillK_snoc l (by omega)] at hq
    rcases mem_set hq with ⟨hq, _⟩ | ⟨rfl, _⟩
    · exact fillK_all l h k (by omega) q hq
    · exact h _ (List.getElem_mem _)
end Go.Proofs.Ytmlocdfjjgbnjaa.Sw

namespace Go.Proofs.Ytmlocdfjjgbnjaa
open Go.RowKit
section
variable {H : World → (Nat → Prop) → Value → Cl.Cs → Prop}
set_option maxRecDepth 100000 in
set_option maxHeartbeats 8000000 in
theorem filled13_any (K : CellsOk H) {w : World} {G : Nat → Prop} {vl : Value} {l : Cl.Cs} (h : Cla w G vl l) (hG : ∀ b, G b → b < w.heap.size) (hf : Few13 l) :
    Calls Try.prog 25 #[vl] w fun e w' => ∃ v vx, e = .returned (.tuple #[v, vx]) ∧ Bw H w w' v (Sw.fillK l (min l.length 20)) vx (Sw.fillK l (min l.length 20)) [] ∧ Below w.heap.size w w' := by
  have HS := Lib.hid h
  have HG := Lib.hid hG
  have HFw := Lib.hid hf
  have HK := Lib.hid K
  have H0 := Lib.hid (K.new w)
  obtain ⟨A, cap, rfl, hcap⟩ := h.form
  clear h hG hf
  go_enter Try.func25, Try.ntmps25
  go_wp2_with (first
    | (go_at_call 42; refine H0.out.mono ?_; rintro e w1 ⟨v1, rfl, hs1, b1⟩))
  have HL1 : Hid (Bw H w w1 v1 (Sw.fillK l 0) (.slice none 0 0) (Sw.fillK l 0) []) := Lib.hid ⟨_, hs1, fun b q => q.1, Cls.nil .., fun r hr => by cases hr⟩
  have HB1 := Lib.hid b1
  clear hs1 b1 H0
  go_loopw [5, 6] (fun xv0 iv wr => ∃ (k : Nat) (xv : Value), k ≤ l.length ∧ k ≤ 20 ∧ xv0 = xv ∧ iv = .int .i64 (k : Int) ∧ Hid (Bw H w wr v1 (Sw.fillK l k) xv (Sw.fillK l k) []) ∧ Hid (Below w.heap.size w wr)) (fun _ iv _ => l.length - (intOf iv).toNat)
  case atStart => exact ⟨0, _, Nat.zero_le _, by omega, rfl, rfl, HL1, HB1⟩
  case round =>
    clear HL1 HB1
    obtain ⟨k, xv, hk, hk20, rfl, rfl, HL, HB⟩ := hrel
    by_cases hlt : k < l.length ∧ k < 20
    · obtain ⟨hlt, h20⟩ := hlt
      have hlt' : (k : Int) < (l.length : Int) := by omega
      have h20' : (k : Int) < 20 := by omega
      have hk0 : (0 : Int) ≤ (k : Int) := by omega
      obtain ⟨a, _, A', c', ea, _, hFa, y0, y1, y2, y3, hv⟩ := HS.out.nth k hlt
      cases ea
      have HV := Lib.hid hv
      have HAd : Hid ((a.add (k * 4)).block < w.heap.size) := Lib.hid (by rw [S.add_block]; exact HG.out _ hFa)
      have hfit := Sw.fillK_fit l HFw.out k hk hk20
      have HF200 : Hid (Cl.Fit 200 (Sw.fillK l k)) := Lib.hid (hfit.more (by omega))
      have HYl : Hid ((Sw.fillK l k).length ≤ 1000) := Lib.hid (by have := hfit.len; omega)
      have HCl : Hid (l[k].2.length ≤ 20) := Lib.hid (HFw.out _ (by rw [List.mem_take_iff_getElem]; exact ⟨k, by omega, rfl⟩))
      have HSn := Lib.hid (Sw.fillK_snoc l hlt)
      generalize Sw.fillK l k = X at *
      generalize l[k].1 = kk at *
      generalize l[k].2 = cc at *
      have HA4 : Hid (∀ w', Below w.heap.size w w' → w'.cell? (a.add (k * 4)) = some (.int .i64 kk.kind) ∧ w'.cell? ⟨(a.add (k * 4)).block, (a.add (k * 4)).off + 1, none⟩ = some (.int .i64 kk.a) ∧ w'.cell? ⟨(a.add (k * 4)).block, (a.add (k * 4)).off + 2, none⟩ = some (.int .i64 kk.b) ∧ w'.cell? ⟨(a.add (k * 4)).block, (a.add (k * 4)).off + 3, none⟩ = some (.slice A' cc.length c')) := Lib.hid (fun w' hb => four_keep hb HAd.out ⟨y0, y1, y2, y3⟩)
      obtain ⟨Gx, hGx, _⟩ := HL.out.cls
      obtain ⟨A0, c0, e0, _⟩ := Cls.form hGx
      subst e0
      have HLr : Hid (Bw H w wr v1 X (.slice A0 X.length c0) X [chR (.slice A' cc.length c') cc]) := Lib.hid (HL.out.arg HB.out (chR (.slice A' cc.length c') cc) (S.Sg.below HV.out HB.out HG.out) HG.out)
      clear hFa y0 y1 y2 y3 hv hGx hfit HL
      have HMd : Hid (∀ wd, Below w.heap.size w wd → Calls Try.prog 10 #[.slice A' cc.length c'] wd fun e w' => ∃ A2, ∃ c2, e = .returned (.slice A2 cc.length c2) ∧ SlC w' (S.New wd w') (.slice A2 cc.length c2) cc ∧ Below wd.heap.size wd w') := Lib.hid (fun wd hb => (made13_any (S.Sg.below HV.out hb HG.out) (fun b q => Nat.lt_of_lt_of_le (HG.out b q) hb.size) (by have := HCl.out; omega)).mono (fun e w' hh => by
        obtain ⟨v', e, hs, hb⟩ := hh
        obtain ⟨A', c', rfl, _⟩ := SlC.form hs
        exact ⟨A', c', e, hs, hb⟩))
      go_wp2_with fail
      have hbd := Lib.hid (Below.drew (Below.refl wr.heap.size wr))
      have HBd : Hid (Below w.heap.size w wr.drew) := Lib.hid (HB.out.trans (hbd.out.mono HB.out.size))
      have HLd : Hid (Bw H w wr.drew v1 X (.slice A0 X.length c0) X [chR (.slice A' cc.length c') cc]) := Lib.hid (HLr.out.low HK.out hbd.out)
      have hSd := HA4.out _ HBd.out
      have HSet : Hid (∀ w2 A2 c2, Bw H w w2 v1 X (.slice A0 X.length c0) X (chR (.slice A2 cc.length c2) cc :: [chR (.slice A' cc.length c') cc]) → Below w.heap.size w w2 → Calls Try.prog 43 #[v1, .agg #[.int .i64 kk.kind, .int .i64 kk.a, .int .i64 kk.b], .slice A2 cc.length c2] w2 fun e w' => e = .returned (.tuple #[]) ∧ Bw H w w' v1 (Cl.setX X kk cc) (.slice A0 X.length c0) X (chR (.slice A2 cc.length c2) cc :: [chR (.slice A' cc.length c') cc]) ∧ Below w.heap.size w w') := Lib.hid (fun w2 A2 c2 h hb => h.set HK.out (List.mem_cons_self ..) hb HF200.out (Nat.le_trans HCl.out (by decide)) kk)
      have HSetD : Hid (∀ w2 A2 c2, Bw H w w2 v1 (Cl.setX X kk cc) (.slice A0 X.length c0) X (chR (.slice A2 cc.length c2) cc :: [chR (.slice A' cc.length c') cc]) → Below w.heap.size w w2 → Calls Try.prog 44 #[.slice A0 X.length c0, .agg #[.int .i64 kk.kind, .int .i64 kk.a, .int .i64 kk.b], .slice A' cc.length c'] w2 fun e w' => ∃ vx', e = .returned vx' ∧ Bw H w w' v1 (Cl.setX X kk cc) vx' (Cl.setX X kk cc) (chR (.slice A2 cc.length c2) cc :: [chR (.slice A' cc.length c') cc]) ∧ Below w.heap.size w w') := Lib.hid (fun w2 A2 c2 h hb => h.setD HK.out (vc := .slice A' cc.length c') (List.mem_cons_of_mem _ (List.mem_cons_self ..)) hb HYl.out (Nat.le_trans HCl.out (by decide)) kk)
      go_region_held3 (fun w' => w'.cell? (a.add (k * 4)) = some (.int .i64 kk.kind) ∧ w'.cell? ⟨(a.add (k * 4)).block, (a.add (k * 4)).off + 1, none⟩ = some (.int .i64 kk.a) ∧ w'.cell? ⟨(a.add (k * 4)).block, (a.add (k * 4)).off + 2, none⟩ = some (.int .i64 kk.b) ∧ w'.cell? ⟨(a.add (k * 4)).block, (a.add (k * 4)).off + 3, none⟩ = some (.slice A' cc.length c'))
        (first | with_reducible assumption | go_keep)
        (first
          | (go_at_call 10
             (with_reducible refine (HMd.out _ HBd.out).mono ?_)
             rintro e w2 ⟨A2, c2, rfl, hs2, b2⟩
             have HB2 := Lib.hid (below_two HBd.out b2)
             have HL2 := Lib.hid (HLd.out.add HK.out b2 (chR (.slice A2 cc.length c2) cc) hs2)
             have hA2 := HA4.out _ HB2.out)
          | (go_at_call 43
             (with_reducible refine (HSet.out _ _ _ HL2.out HB2.out).mono ?_)
             rintro e w3 ⟨rfl, hl3, hb3⟩
             have HL3 := Lib.hid hl3
             have HB3 := Lib.hid hb3
             have hA3 := HA4.out _ HB3.out))
      clear HL2 HB2 HLd HBd hSd HSet HMd hA2 hbd hA3
      go_wp2_with fail
      have hbe := Lib.hid (Below.drew (Below.refl w3.heap.size w3))
      have HBe : Hid (Below w.heap.size w w3.drew) := Lib.hid (HB3.out.trans (hbe.out.mono HB3.out.size))
      have HLe := Lib.hid (HL3.out.low HK.out hbe.out)
      have hSe := HA4.out _ HBe.out
      go_region_held3 (fun w' => w'.cell? (a.add (k * 4)) = some (.int .i64 kk.kind) ∧ w'.cell? ⟨(a.add (k * 4)).block, (a.add (k * 4)).off + 1, none⟩ = some (.int .i64 kk.a) ∧ w'.cell? ⟨(a.add (k * 4)).block, (a.add (k * 4)).off + 2, none⟩ = some (.int .i64 kk.b) ∧ w'.cell? ⟨(a.add (k * 4)).block, (a.add (k * 4)).off + 3, none⟩ = some (.slice A' cc.length c'))
        (first | with_reducible assumption | go_keep)
        (first
          | (go_at_call 44
             (with_reducible refine (HSetD.out _ _ _ HLe.out HBe.out).mono ?_)
             rintro e w4 ⟨v4, rfl, hl4, hb4⟩
             have HL4 := Lib.hid hl4
             have HB4 := Lib.hid hb4
             have hA4 := HA4.out _ HB4.out))
      clear hA4 hSe
      go_wp2_with fail
      go_roundw
      case rel => exact ⟨k + 1, _, by omega, by omega, rfl, by go_num, Lib.hid (by rw [HSn.out]; exact HL4.out.less (fun r hr => by cases hr)), HB4⟩
      case measure => simp [intOf]; omega
    · have hNo : ¬ ((k : Int) < (l.length : Int)) ∨ ((k : Int) < (l.length : Int) ∧ ¬ ((k : Int) < 20)) := by omega
      have hmin : k = min l.length 20 := by omega
      clear hlt
      rcases hNo with hNo | ⟨hNo1, hNo⟩
      · go_wp2
        refine bodyPost_ret (results_tmp2 rfl _ _ _) rfl ?_
        rw [← hmin]
        exact ⟨_, _, rfl, HL.out, HB.out⟩
      · go_wp2
        refine bodyPost_ret (results_tmp2 rfl _ _ _) rfl ?_
        rw [← hmin]
        exact ⟨_, _, rfl, HL.out, HB.out⟩
end
end Go.Proofs.Ytmlocdfjjgbnjaa
