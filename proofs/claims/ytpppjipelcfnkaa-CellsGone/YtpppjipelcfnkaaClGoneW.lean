/-
  Layer cells' laws: CellsGone.
-/
import Derived.Test.YtpppjipelcfnkaaClOrderW
import Derived.Test.YtpppjipelcfnkaaJD
namespace Go.Proofs.Ytpppjipelcfnkaa
open Go.RowKit

section
variable {H : World → (Nat → Prop) → Value → Cl.Cs → Prop}

/-- two objects beside each other, in blocks that were made since w0 -/
def Two (H : World → (Nat → Prop) → Value → Cl.Cs → Prop) (w0 w : World) (vc vd : Value) (X Y : Cl.Cs) : Prop :=
  ∃ Fc Fd, H w Fc vc X ∧ H w Fd vd Y ∧ (∀ b, Fc b → ¬ Fd b) ∧ ∀ b, Fc b → w0.heap.size ≤ b
theorem Two.start (K : CellsOk H) {w2 w3 w4 : World} {vc vd : Value} {X Y : Cl.Cs} {R S : List Row11} (h : Aw H w2 w3 vc X R) (k : Aw H w3 w4 vd Y S) (hb : Below w3.heap.size w3 w4) : Two H w2 w4 vc vd X Y := by
  obtain ⟨Fc, h1, h2, _⟩ := h
  obtain ⟨Fd, k1, k2, _⟩ := k
  exact ⟨Fc, Fd, K.below h1 hb, k1, fun b q g => by have := K.lt h1 b q; have := k2 b g; omega, h2⟩
theorem Two.low (K : CellsOk H) {w0 w w' : World} {vc vd : Value} {X Y : Cl.Cs} (h : Two H w0 w vc vd X Y) (hb : Below w.heap.size w w') : Two H w0 w' vc vd X Y := by
  obtain ⟨Fc, Fd, h1, h2, h3, h4⟩ := h
  exact ⟨Fc, Fd, K.below h1 hb, K.below h2 hb, h3, h4⟩
theorem Two.abort (K : CellsOk H) {w0 w : World} {vc vd : Value} {X Y : Cl.Cs} (h : Two H w0 w vc vd X Y) (hb : Below w0.heap.size w0 w) (hf : Cl.Fit 200 X) (ts : Int) (t0 : -9223372036854775808 ≤ ts) (t1 : ts ≤ 9223372036854775807) :
    Calls Try.prog 27 #[vc, .int .i64 ts] w fun e w' => e = .returned (.tuple #[]) ∧ Two H w0 w' vc vd (Cl.abortX X ts) Y ∧ Below w0.heap.size w0 w' := by
  obtain ⟨Fc, Fd, h1, h2, h3, h4⟩ := h
  refine (K.abort h1 hf ts t0 t1).mono (fun e w' hh => ?_)
  obtain ⟨e, g1, g2⟩ := hh
  refine ⟨e, ⟨More Fc w w', Fd, g1, K.turn h2 g2 (fun b q g => h3 b g q), fun b q g => q.elim (fun q => h3 b q g) (fun q => by have := q.1; have := K.lt h2 b g; omega), fun b q => q.elim (h4 b) (fun q => Nat.le_trans hb.size q.1)⟩, hb.trans (g2.below hb.size h4)⟩
theorem Two.one {w0 w : World} {vc vd : Value} {X Y : Cl.Cs} (h : Two H w0 w vc vd X Y) : (∃ F, H w F vc X) ∧ ∃ F, H w F vd Y := by
  obtain ⟨Fc, Fd, h1, h2, _⟩ := h
  exact ⟨⟨Fc, h1⟩, Fd, h2⟩
theorem chain_of (K : CellsOk H) {w : World} {v : Value} {X : Cl.Cs} (h : ∃ F, H w F v X) (hf : Cl.Fit 200 X) (k : Cl.Ky) {c : Cn.Ch} (hc : Cl.chain X k = c) :
    Calls Try.prog 19 #[v, keyA k] w fun e w' => ∃ A n, e = .returned (.slice A c.length n) ∧ SlC w' (S.New w w') (.slice A c.length n) c ∧ Below w.heap.size w w' := by
  obtain ⟨F, h⟩ := h
  refine (K.chain h hf k).mono (fun e w' hh => ?_)
  obtain ⟨v', e, hs, hb⟩ := hh
  rw [hc] at hs
  obtain ⟨A, n, rfl, _⟩ := SlC.form hs
  exact ⟨A, n, e, hs, hb⟩

set_option maxRecDepth 100000 in
set_option maxHeartbeats 4000000 in
theorem CellsGone_walk (K : CellsOk H) (w : World) (vd : Value) (ld : List Dd11) (ts : Int) (G0 : Nat → Prop) (hD : Dds11 w G0 vd ld) (hG0 : ∀ b, G0 b → b < w.heap.size) (t0 : -9223372036854775808 ≤ ts) (t1 : ts ≤ 9223372036854775807) :
    Calls Try.prog 6 #[vd, .int .i64 ts] w fun e w' => e = .returned (.bool true) ∧ Below w.heap.size w w' := by
  have HA := Lib.hid (awake11_any K w)
  have HD := Lib.hid hD
  have HG := Lib.hid hG0
  have HK := Lib.hid K
  have HT := Lib.hid (And.intro t0 t1)
  obtain ⟨Ad, capd, rfl, hcd⟩ := hD.form
  clear hD hG0 t0 t1
  by_cases hfew : Few ld
  · have HFw := Lib.hid hfew
    have HFe : Hid (∀ W, Below w.heap.size w W → Calls Try.prog 11 #[.slice Ad ld.length capd] W fun e w' => e = .returned (.bool true) ∧ Below W.heap.size W w') := Lib.hid (fun W hb => few11_yes (HD.out.below hb HG.out) (fun b q => Nat.lt_of_lt_of_le (HG.out b q) hb.size) hfew)
    clear hfew
    have HRun : Hid (∀ W, Below w.heap.size w W → Calls Try.prog 20 #[.slice Ad ld.length capd] W fun e w' => ∃ a, e = .returned (.pointer (some a)) ∧ Aw H W w' (.pointer (some a)) (Cl.runX ld) [] ∧ Below W.heap.size W w') := Lib.hid (fun W hb => run_aw K HD.out HG.out HFw.out hb)
    have HFit := Lib.hid (run_fit HFw.out)
    generalize Cl.runX ld = X at *
    have hn50 := HFit.out.len
    go_enter Try.func6, Try.ntmps6
    go_wp2_with (first
      | (go_at_call 9; refine HA.out.mono ?_; rintro e w1 ⟨rfl, hb1⟩; have HB := Lib.hid hb1; clear hb1)
      | (go_at_call 11; refine (HFe.out _ HB.out).mono ?_; rintro e w2 ⟨rfl, hb2⟩; replace HB := Lib.hid (below_two HB.out hb2); clear hb2)
      | (go_at_call 20; refine (HRun.out w2 HB.out).mono ?_; rintro e w3 ⟨ac, rfl, h3⟩
         have HC3 := Lib.hid h3.1
         have HBo := HB
         have hb23 := h3.2
         have HB3 := Lib.hid (below_two HB.out h3.2)
         clear h3)
      | (go_at_call 20; refine (HRun.out w3 HB3.out).mono ?_; rintro e w4 ⟨ad, rfl, h4⟩
         have HW := Lib.hid (And.intro (Two.start K HC3.out h4.1 h4.2) (hb23.trans (h4.2.mono hb23.size)))
         have HOr := Lib.hid (h4.1.ord K)
         clear h4 HRun)
      | (go_at_call 27; refine (HW.out.1.abort K HW.out.2 (HFit.out.more (by omega)) ts HT.out.1 HT.out.2).mono ?_; rintro e w5 ⟨rfl, h5⟩
         replace HW := Lib.hid h5
         clear h5)
      | (go_at_call 13
         obtain ⟨_, Fd, hd5⟩ := HW.out.1.one
         refine (K.keys hd5 (HFit.out.more (by omega))).mono ?_; rintro e w6 ⟨vk, rfl, hk6, hb6⟩
         obtain ⟨A3, c3, rfl, _⟩ : ∃ A c, vk = .slice A X.length c ∧ True := by
           obtain ⟨_, A, c, e, _⟩ := hk6
           exact ⟨A, c, e, trivial⟩
         have HK6 := Lib.hid hk6
         replace HW := Lib.hid (And.intro (HW.out.1.low K hb6) (HW.out.2.trans (hb6.mono HW.out.2.size)))
         clear hd5 hk6 hb6))
    have HTw : Hid (∀ w', Below w6.heap.size w6 w' → Two H w2 w' (.pointer (some ac)) (.pointer (some ad)) (Cl.abortX X ts) X) := Lib.hid (fun w' hb => HW.out.1.low K hb)
    have HKw : Hid (∀ w', Below w6.heap.size w6 w' → S.Sg w' (S.New w5 w6) 3 (.slice A3 X.length c3) X.length (X.flatMap keyC)) := Lib.hid (fun w' hb => S.Sg.below HK6.out hb (fun b q => q.2))
    have HBw := Lib.hid (HB.out.trans (HW.out.2.mono HB.out.size))
    have HBz := Lib.hid HW.out.2
    have HFa := Lib.hid (HFit.out.abort ts)
    clear HW HK6 HB HFe
    go_loopw [9] (fun u wq => ∃ j : Nat, j ≤ X.length ∧ u = .int .i64 (j : Int) ∧ Hid (Below w6.heap.size w6 wq)) (fun u _ => X.length - (intOf u).toNat)
    case atStart => exact ⟨0, Nat.zero_le _, rfl, Lib.hid (Below.refl _ _)⟩
    case round =>
      obtain ⟨j, hj, rfl, HQ⟩ := hrel
      by_cases hlt : j < X.length
      · have i4 : (0 : Int) ≤ (j : Int) := by omega
        have i5 : (j : Int) < (X.length : Int) := by omega
        obtain ⟨a3, _, e3, _, hf3, k0, k1, k2⟩ := ky_nth (HKw.out w6 (Below.refl _ _)) j hlt
        cases e3
        have hp3 : (a3.add (j * 3)).block < w6.heap.size := by rw [S.add_block]; exact hf3.2
        have HCm : Hid (Cl.chain X X[j].1 = X[j].2 ∧ Cl.chain (Cl.abortX X ts) X[j].1 = Cn.abortC X[j].2 ts) := Lib.hid ⟨HOr.out.chain_mem (List.getElem_mem hlt), by rw [Cl.chain_abort HOr.out ts (List.getElem_mem hlt), HOr.out.chain_mem (List.getElem_mem hlt)]⟩
        have HMy : Hid (Cn.May X[j].2) := Lib.hid (HOr.out.may _ (List.getElem_mem hlt))
        have HCl : Hid (X[j].2.length ≤ 100) := Lib.hid (by have := HFit.out.ch _ (List.getElem_mem hlt); omega)
        generalize X[j].1 = kk at *
        generalize X[j].2 = cc at *
        have HAl : Hid ((Cn.abortC cc ts).length ≤ 100) := Lib.hid (Nat.le_trans (Cl.alen cc ts) HCl.out)
        have HS : Hid (∀ w', Below w6.heap.size w6 w' → w'.cell? (a3.add (j * 3)) = some (.int .i64 kk.kind) ∧ w'.cell? ⟨(a3.add (j * 3)).block, (a3.add (j * 3)).off + 1, none⟩ = some (.int .i64 kk.a) ∧ w'.cell? ⟨(a3.add (j * 3)).block, (a3.add (j * 3)).off + 2, none⟩ = some (.int .i64 kk.b)) := Lib.hid (fun w' hb =>
          ⟨(hb.cell hp3).trans k0, (hb.cell (p := ⟨(a3.add (j * 3)).block, (a3.add (j * 3)).off + 1, none⟩) hp3).trans k1, (hb.cell (p := ⟨(a3.add (j * 3)).block, (a3.add (j * 3)).off + 2, none⟩) hp3).trans k2⟩)
        have HNo : Hid (∀ i (hi : i < (Cn.abortC cc ts).length), ¬ ((Cn.abortC cc ts)[i].ts = ts ∧ (Cn.abortC cc ts)[i].done = false)) := Lib.hid (fun i hi => Cl.abort_none HMy.out (List.getElem_mem hi))
        have HR10 : Hid (∀ w v F, SlC w F v cc → (∀ b, F b → b < w.heap.size) → Calls Try.prog 28 #[v, .int .i64 ts] w fun e w' => ∃ v', e = .returned v' ∧ SlC w' (S.New w w') v' (Cn.abortC cc ts) ∧ Below w.heap.size w w') := Lib.hid (fun w v F h hF => rabort10_any h hF (by have := HCl.out; omega) ts)
        generalize Cn.abortC cc ts = ab at *
        have HCc : Hid (∀ w', Below w6.heap.size w6 w' → Calls Try.prog 19 #[.pointer (some ac), .agg #[.int .i64 kk.kind, .int .i64 kk.a, .int .i64 kk.b]] w' fun e w'' => ∃ A n, e = .returned (.slice A ab.length n) ∧ SlC w'' (S.New w' w'') (.slice A ab.length n) ab ∧ Below w'.heap.size w' w'') := Lib.hid (fun w' hb => chain_of K (HTw.out w' hb).one.1 (HFa.out.more (by omega)) kk HCm.out.2)
        have HCd : Hid (∀ w', Below w6.heap.size w6 w' → Calls Try.prog 19 #[.pointer (some ad), .agg #[.int .i64 kk.kind, .int .i64 kk.a, .int .i64 kk.b]] w' fun e w'' => ∃ A n, e = .returned (.slice A cc.length n) ∧ SlC w'' (S.New w' w'') (.slice A cc.length n) cc ∧ Below w'.heap.size w' w'') := Lib.hid (fun w' hb => chain_of K (HTw.out w' hb).one.2 (HFit.out.more (by omega)) kk HCm.out.1)
        have hSd := HS.out wr.drew HQ.out.drew
        have HQd := Lib.hid HQ.out.drew
        clear hp3 k0 k1 k2 hf3
        go_wp2_with fail
        go_region_held3 (fun w' => w'.cell? (a3.add (j * 3)) = some (.int .i64 kk.kind) ∧ w'.cell? ⟨(a3.add (j * 3)).block, (a3.add (j * 3)).off + 1, none⟩ = some (.int .i64 kk.a) ∧ w'.cell? ⟨(a3.add (j * 3)).block, (a3.add (j * 3)).off + 2, none⟩ = some (.int .i64 kk.b))
          (first | with_reducible assumption | go_keep)
          (first
            | (go_at_call 19
               (with_reducible refine (HCc.out _ HQd.out).mono ?_)
               rintro e w7 ⟨A7, c7, rfl, hs7, b7⟩
               have HB7 := Lib.hid (below_two HQd.out b7)
               have HR7 := Lib.hid (real11_any hs7 (fun b q => q.2) (by have := HAl.out; omega))
               have hS7 := HS.out _ HB7.out)
            | (go_at_call 18
               (with_reducible refine HR7.out.mono ?_)
               rintro e w8 ⟨v8, rfl, hs8, b8⟩
               have HB8 := Lib.hid (below_two HB7.out b8)
               have HS8 := Lib.hid hs8
               have hS8 := HS.out _ HB8.out)
            | (go_at_call 19
               (with_reducible refine (HCd.out _ HB8.out).mono ?_)
               rintro e w9 ⟨A9, c9, rfl, hs9, b9⟩
               have HB9 := Lib.hid (below_two HB8.out b9)
               have HR9 := Lib.hid (real11_any hs9 (fun b q => q.2) (by have := HCl.out; omega))
               have HL9 := Lib.hid b9
               have hS9 := HS.out _ HB9.out)
            | (go_at_call 18
               (with_reducible refine HR9.out.mono ?_)
               rintro e w10 ⟨v10, rfl, hs10, b10⟩
               have HB10 := Lib.hid (below_two HB9.out b10)
               have HR10' := Lib.hid (HR10.out _ _ _ hs10 (fun b q => q.2))
               have HL10 := Lib.hid (below_two HL9.out b10)
               have hS10 := HS.out _ HB10.out)
            | (go_at_call 28
               (with_reducible refine HR10'.out.mono ?_)
               rintro e w11 ⟨v11, rfl, hs11, b11⟩
               have HB11 := Lib.hid (below_two HB10.out b11)
               have HL11 := below_two HL10.out b11
               have HM11 := Lib.hid (rsame10_any (S.Sg.below HS8.out HL11 (fun b q => q.2)) hs11 (by have := HAl.out; omega))
               have hS11 := HS.out _ HB11.out)
            | (go_at_call 17
               (with_reducible refine HM11.out.mono ?_)
               rintro e w12 ⟨rfl, hs12⟩
               have HB12 := Lib.hid (below_two HB11.out hs12.low)
               have hS12 := HS.out _ HB12.out))
        obtain ⟨k0, k1, k2⟩ := hS12
        go_wp2_with (first
          | (go_at_call 19; refine (HCc.out _ HB12.out).mono ?_; rintro e w13 ⟨A13, c13, rfl, hs13, b13⟩
             have HB13 := Lib.hid (below_two HB12.out b13)
             have HS13 := Lib.hid hs13
             clear hs13 b13))
        go_loopw [11] (fun u wq => ∃ m : Nat, m ≤ ab.length ∧ u = .int .i64 (m : Int) ∧ Hid (Below w13.heap.size w13 wq)) (fun u _ => ab.length - (intOf u).toNat)
        case atStart => exact ⟨0, Nat.zero_le _, rfl, Lib.hid (Below.refl _ _)⟩
        case round =>
          obtain ⟨m, hm, rfl, HQ2⟩ := hrel
          by_cases hmt : m < ab.length
          · have j4 : (0 : Int) ≤ (m : Int) := by omega
            have j5 : (m : Int) < (ab.length : Int) := by omega
            have j6 := HAl.out
            obtain ⟨a5, _, e5, _, _, z0, _, _, z3⟩ := SlC.nth (S.Sg.below HS13.out HQ2.out (fun b q => q.2)) m hmt
            cases e5
            have hno := HNo.out m hmt
            generalize ab[m].ts = us at *
            generalize ab[m].done = ud at *
            by_cases hu : us = ts
            · have hd : ud = true := by
                cases ud with
                | true => rfl
                | false => exact absurd ⟨hu, rfl⟩ hno
              have hu' : (us == ts) = true := by simpa using hu
              subst hd
              clear hu hno
              go_wp2_with fail
              go_roundw
              case rel => exact ⟨m + 1, by omega, by go_num, HQ2⟩
              case measure => simp [intOf]; omega
            · have hu' : (us == ts) = false := by simpa using hu
              clear hu hno
              go_wp2_with fail
              go_roundw
              case rel => exact ⟨m + 1, by omega, by go_num, HQ2⟩
              case measure => simp [intOf]; omega
          · have j5 : ¬ ((m : Int) < (ab.length : Int)) := by omega
            have HN := Lib.hid (below_two HB13.out HQ2.out)
            go_wp2_with fail
            go_roundw
            case rel => exact ⟨j + 1, by omega, by go_num, HN⟩
            case measure => simp [intOf]; omega
      · have i5 : ¬ ((j : Int) < (X.length : Int)) := by omega
        have hAl : (Cl.abortX X ts).length = X.length := by unfold Cl.abortX; rw [List.length_map]
        have HKc : Hid (∃ F, H wr F (.pointer (some ac)) (Cl.abortX X ts)) := Lib.hid (HTw.out wr HQ.out).one.1
        have HKy : Hid (Calls Try.prog 13 #[.pointer (some ac)] wr fun e w' => ∃ A c, e = .returned (.slice A X.length c) ∧ Below wr.heap.size wr w') := Lib.hid (by
          obtain ⟨F, h⟩ := HKc.out
          refine (K.keys h (HFa.out.more (by omega))).mono (fun e w' hh => ?_)
          obtain ⟨v', e, ⟨_, A, c, e2, _⟩, hb⟩ := hh
          rw [hAl] at e2
          exact ⟨A, c, by rw [e, e2], hb⟩)
        have HCo : Hid (∀ w', Below wr.heap.size wr w' → Calls Try.prog 25 #[.pointer (some ac), .int .i64 ts] w' fun e w'' => (∃ A c, e = .returned (.slice A 0 c)) ∧ Below w2.heap.size w2 w'') := Lib.hid (fun w' hb => by
          obtain ⟨Fc, Fd, h1, _, _, h4⟩ := HTw.out w' (below_two HQ.out hb)
          refine (K.commit h1 (HFa.out.more (by omega)) ts HT.out.1 HT.out.2).mono (fun e w'' hh => ?_)
          obtain ⟨v', F', T, e, _, ⟨_, A, c, e2, _⟩, _, _, ht⟩ := hh
          have hb2 : Below w2.heap.size w2 w' := HBz.out.trans ((below_two HQ.out hb).mono HBz.out.size)
          have hl : (Cl.commitW (Cl.abortX X ts) ts).length = 0 := by rw [Cl.again_abort HOr.out ts]; rfl
          rw [hl] at e2
          exact ⟨⟨A, c, by rw [e, e2]⟩, hb2.trans (ht.below hb2.size h4)⟩)
        clear hAl
        have HB2 : Hid (Below w.heap.size w w2) := HBo
        go_wp2_with (first
          | (go_at_call 13; refine HKy.out.mono ?_; rintro e w14 ⟨A14, c14, rfl, hb14⟩; have HB14 := Lib.hid hb14; clear hb14)
          | (go_at_call 25; refine (HCo.out _ HB14.out).mono ?_; rintro e w15 ⟨⟨A15, c15, rfl⟩, hb15⟩; have HB15 := Lib.hid hb15; clear hb15))
        go_ret
        exact ⟨rfl, HB2.out.trans (HB15.out.mono HB2.out.size)⟩
  · have HFe : Hid (∀ W, Below w.heap.size w W → Calls Try.prog 11 #[.slice Ad ld.length capd] W fun e w' => e = .returned (.bool false) ∧ Below W.heap.size W w') := Lib.hid (fun W hb => few11_no (HD.out.below hb HG.out) (fun b q => Nat.lt_of_lt_of_le (HG.out b q) hb.size) hfew)
    clear hfew
    go_enter Try.func6, Try.ntmps6
    go_wp2_with (first
      | (go_at_call 9; refine HA.out.mono ?_; rintro e w1 ⟨rfl, hb1⟩; have HB := Lib.hid hb1; clear hb1)
      | (go_at_call 11; refine (HFe.out _ HB.out).mono ?_; rintro e w3 ⟨rfl, hb3⟩; replace HB := Lib.hid (below_two HB.out hb3); clear hb3))
    go_ret
    exact ⟨rfl, HB.out⟩
end
end Go.Proofs.Ytpppjipelcfnkaa
