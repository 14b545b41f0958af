/-
  Layer cells' laws: CellsPlays.
-/
import Derived.Test.YtpppjipelcfnkaaClOrderW
namespace Go.Proofs.Ytpppjipelcfnkaa
open Go.RowKit

theorem newest_len {n : Nat} {X : Cl.Cs} (h : Cl.Fit n X) (hn : n ≤ 1000) : (Cl.newest X).length ≤ 10000000 := by
  have : (Cl.newest X).length ≤ X.length := by
    clear h
    unfold Cl.newest
    induction X with
    | nil => simp
    | cons p X ih =>
      rw [List.flatMap_cons, List.length_append, List.length_cons]
      have : (if Cl.lastV ByteArray.empty p.2 = ByteArray.empty then ([] : List (Cl.Ky × ByteArray)) else [(p.1, Cl.lastV ByteArray.empty p.2)]).length ≤ 1 := by split <;> simp
      omega
  have := h.len
  omega

section
variable {H : World → (Nat → Prop) → Value → Cl.Cs → Prop}

set_option maxRecDepth 100000 in
set_option maxHeartbeats 4000000 in
theorem CellsPlays_walk (K : CellsOk H) (w : World) (vd : Value) (ld : List Dd11) (G0 : Nat → Prop) (hD : Dds11 w G0 vd ld) (hG0 : ∀ b, G0 b → b < w.heap.size) :
    Calls Try.prog 3 #[vd] w fun e w' => e = .returned (.bool true) ∧ Below w.heap.size w w' := by
  have HA := Lib.hid (awake11_any K w)
  have HD := Lib.hid hD
  have HG := Lib.hid hG0
  have HK := Lib.hid K
  have HN := Lib.hid K.new
  obtain ⟨Ad, capd, rfl, hcd⟩ := hD.form
  clear hD hG0
  by_cases hfew : Few ld
  · have HFw := Lib.hid hfew
    have hl50 := hfew.len
    have HFe : Hid (∀ W, Below w.heap.size w W → Calls Try.prog 11 #[.slice Ad ld.length capd] W fun e w' => e = .returned (.bool true) ∧ Below W.heap.size W w') := Lib.hid (fun W hb => few11_yes (HD.out.below hb HG.out) (fun b q => Nat.lt_of_lt_of_le (HG.out b q) hb.size) hfew)
    clear hfew
    go_enter Try.func3, Try.ntmps3
    go_wp2_with (first
      | (go_at_call 9; refine HA.out.mono ?_; rintro e w1 ⟨rfl, hb1⟩; have HB := Lib.hid hb1; clear hb1)
      | (go_at_call 10; refine (HN.out _).mono ?_; rintro e w2 ⟨v2, rfl, hs2, hb2⟩
         have HL1 : Hid (Ob2 H w w2 v2 (.slice none 0 0) []) := Lib.hid ⟨_, hs2, fun b q => Nat.le_trans HB.out.size q.1, Cls.nil ..⟩
         replace HB := Lib.hid (below_two HB.out hb2)
         obtain ⟨av, rfl⟩ := HK.out.ptr hs2
         clear hs2 hb2)
      | (go_at_call 11; refine (HFe.out _ HB.out).mono ?_; rintro e w3 ⟨rfl, hb3⟩
         replace HL1 : Hid (Ob2 H w w3 (.pointer (some av)) (.slice none 0 0) []) := Lib.hid (by
           obtain ⟨F, h1, h2, _⟩ := HL1.out
           exact ⟨F, HK.out.below h1 hb3, h2, Cls.nil ..⟩)
         replace HB := Lib.hid (below_two HB.out hb3)
         clear hb3))
    go_loopw [5, 6] (fun vx v wr => ∃ (i : Nat) (X : Cl.Cs), i ≤ ld.length ∧ v = .int .i64 (i : Int) ∧ Hid (Ob2 H w wr (.pointer (some av)) vx X) ∧ Hid (Cl.Fit i X) ∧ Hid (Below w.heap.size w wr)) (fun _ v _ => ld.length - (intOf v).toNat)
    case atStart => exact ⟨0, [], by omega, rfl, HL1, Lib.hid (Cl.Fit.nil 0), HB⟩
    case round =>
      clear HL1 HB HA HN HFe
      obtain ⟨i, X, hi, rfl, HC, HX, HB⟩ := hrel
      by_cases hil : i < ld.length
      · have hil' : (i : Int) < (ld.length : Int) := by omega
        have hi0' : (0 : Int) ≤ (i : Int) := by omega
        obtain ⟨ad, _, ed, _, hGd, hok, hdc⟩ := (HD.out.below HB.out HG.out).nth i hil
        cases ed
        have h20 := HFw.out.ch _ (List.getElem_mem hil)
        have HNx : Hid (Cl.Fit (i + 1) (Cl.deedX X ld[i])) := Lib.hid (HX.out.deed _ h20)
        generalize ld[i] = Z at *
        obtain ⟨Al, cl, y6, hsl⟩ := hdc.last
        have HO := Lib.hid (HC.out.did K HB.out Z hok (HX.out.more (by omega)) hsl HG.out h20)
        obtain ⟨y0, y1, y2, y3, y4, y5, _⟩ := hdc
        generalize Cl.deedX X Z = Y at *
        clear HC HX h20 hok hsl
        have hY50 := HNx.out.len
        go_wp2_with (first
          | (go_at_call 12; refine HO.out.mono ?_; rintro e w2 ⟨vx2, rfl, hs2, b2⟩
             have HB2 := Lib.hid b2
             obtain ⟨F, h1, hF, hx⟩ := hs2
             obtain ⟨A2, c2, rfl, _⟩ := hx.form
             have HOr := Lib.hid (HK.out.ord h1)
             have HHw : Hid (∀ w', Below w2.heap.size w2 w' → H w' F (.pointer (some av)) Y ∧ Cls w' (Out F w2) (.slice A2 Y.length c2) Y) := Lib.hid (fun w' hb => ⟨HK.out.below h1 hb, hx.below hb (fun b q => q.1)⟩)
             have HF := Lib.hid hF
             clear b2 h1 hF hx y0 y1 y2 y3 y4 y5 y6 HO)
          | (go_at_call 13; refine (HK.out.keys (HHw.out _ (Below.refl _ _)).1 (HNx.out.more (by omega))).mono ?_; rintro e w3 ⟨vk, rfl, hk3, b3⟩
             obtain ⟨A3, c3, rfl, _⟩ : ∃ A c, vk = .slice A Y.length c ∧ True := by
               obtain ⟨_, A, c, e, _⟩ := hk3
               exact ⟨A, c, e, trivial⟩
             have HB3 := Lib.hid b3
             have HK3 := Lib.hid hk3
             clear b3 hk3)
          | (go_at_call 15; refine (HK.out.newest (HHw.out _ HB3.out).1 (HNx.out.more (by omega))).mono ?_; rintro e w4 ⟨vn, rfl, hn4, b4⟩
             have HB4 := Lib.hid (below_two HB3.out b4)
             have HBk := Lib.hid b4
             have HN4 := Lib.hid hn4
             clear b4 hn4)
          | (go_at_call 16; refine (rnewest11_any (HHw.out _ HB4.out).2 (fun b q => Nat.lt_of_lt_of_le q.1 HB4.out.size) (by omega)).mono ?_; rintro e w5 ⟨vn5, rfl, hn5, b5⟩
             have HB5 := Lib.hid (below_two HB4.out b5)
             replace HBk := Lib.hid (below_two HBk.out b5)
             have HN5 := Lib.hid hn5
             replace HN4 := Lib.hid (S.Sg.below HN4.out b5 (fun b q => q.2))
             clear b5 hn5)
          | (go_at_call 14; refine (rwrites11_any HN4.out HN5.out (newest_len HNx.out (by omega))).mono ?_; rintro e w6 ⟨rfl, hs6⟩
             have HB6 := Lib.hid (below_two HB5.out hs6.low)
             replace HBk := Lib.hid (below_two HBk.out hs6.low)
             clear hs6 HN4 HN5))
        have HKw : Hid (∀ w', Below w6.heap.size w6 w' → S.Sg w' (S.New w2 w3) 3 (.slice A3 Y.length c3) Y.length (Y.flatMap keyC)) := Lib.hid (fun w' hb => S.Sg.below HK3.out (below_two HBk.out hb) (fun b q => q.2))
        have HHx : Hid (∀ w', Below w6.heap.size w6 w' → H w' F (.pointer (some av)) Y ∧ Cls w' (Out F w2) (.slice A2 Y.length c2) Y) := Lib.hid (fun w' hb => HHw.out _ (below_two HB6.out hb))
        have HLt : Hid (w2.heap.size ≤ w6.heap.size ∧ w3.heap.size ≤ w6.heap.size) := Lib.hid ⟨HB6.out.size, HBk.out.size⟩
        have HBw := Lib.hid (HB2.out.trans (HB6.out.mono HB2.out.size))
        clear HHw HBk HB3 HB4 HB5 HK3
        go_loopw [10] (fun u wq => ∃ j : Nat, j ≤ Y.length ∧ u = .int .i64 (j : Int) ∧ Hid (Below w6.heap.size w6 wq)) (fun u _ => Y.length - (intOf u).toNat)
        case atStart => exact ⟨0, Nat.zero_le _, rfl, Lib.hid (Below.refl _ _)⟩
        case round =>
          obtain ⟨j, hj, rfl, HQ⟩ := hrel
          by_cases hlt : j < Y.length
          · have i4 : (0 : Int) ≤ (j : Int) := by omega
            have i5 : (j : Int) < (Y.length : Int) := by omega
            obtain ⟨a3, _, e3, _, hf3, k0, k1, k2⟩ := ky_nth (HKw.out w6 (Below.refl _ _)) j hlt
            cases e3
            obtain ⟨a2, _, Aj, cj, e2, _, hf2, z0, z1, z2, z3, zs⟩ := (HHx.out w6 (Below.refl _ _)).2.nth j hlt
            cases e2
            have hp3 : (a3.add (j * 3)).block < w6.heap.size := by rw [S.add_block]; exact Nat.lt_of_lt_of_le hf3.2 HLt.out.2
            have hp2 : (a2.add (j * 4)).block < w6.heap.size := by rw [S.add_block]; exact Nat.lt_of_lt_of_le hf2.1 HLt.out.1
            have HCm : Hid (Cl.chain Y Y[j].1 = Y[j].2) := Lib.hid (HOr.out.chain_mem (List.getElem_mem hlt))
            have HCl : Hid (Y[j].2.length ≤ 1000) := Lib.hid ((HHx.out w6 (Below.refl _ _)).2.len hlt)
            generalize Y[j].1 = kk at *
            generalize Y[j].2 = cc at *
            have HS : Hid (∀ w', Below w6.heap.size w6 w' → w'.cell? (a3.add (j * 3)) = some (.int .i64 kk.kind) ∧ w'.cell? ⟨(a3.add (j * 3)).block, (a3.add (j * 3)).off + 1, none⟩ = some (.int .i64 kk.a) ∧ w'.cell? ⟨(a3.add (j * 3)).block, (a3.add (j * 3)).off + 2, none⟩ = some (.int .i64 kk.b) ∧ w'.cell? (a2.add (j * 4)) = some (.int .i64 kk.kind) ∧ w'.cell? ⟨(a2.add (j * 4)).block, (a2.add (j * 4)).off + 1, none⟩ = some (.int .i64 kk.a) ∧ w'.cell? ⟨(a2.add (j * 4)).block, (a2.add (j * 4)).off + 2, none⟩ = some (.int .i64 kk.b) ∧ w'.cell? ⟨(a2.add (j * 4)).block, (a2.add (j * 4)).off + 3, none⟩ = some (.slice Aj cc.length cj)) := Lib.hid (fun w' hb =>
              ⟨(hb.cell hp3).trans k0, (hb.cell (p := ⟨(a3.add (j * 3)).block, (a3.add (j * 3)).off + 1, none⟩) hp3).trans k1, (hb.cell (p := ⟨(a3.add (j * 3)).block, (a3.add (j * 3)).off + 2, none⟩) hp3).trans k2, four_keep hb hp2 ⟨z0, z1, z2, z3⟩⟩)
            have HSl := Lib.hid zs
            have qn := neqK kk kk
            rw [Cl.same_self] at qn
            have HCh : Hid (∀ w', Below w6.heap.size w6 w' → Calls Try.prog 19 #[.pointer (some av), .agg #[.int .i64 kk.kind, .int .i64 kk.a, .int .i64 kk.b]] w' fun e w'' => ∃ A c, e = .returned (.slice A cc.length c) ∧ SlC w'' (S.New w' w'') (.slice A cc.length c) cc ∧ Below w'.heap.size w' w'') := Lib.hid (fun w' hb => (HK.out.chain (HHx.out w' hb).1 (HNx.out.more (by omega)) kk).mono (fun e w'' hh => by
              obtain ⟨v', e, hs, hb⟩ := hh
              rw [HCm.out] at hs
              obtain ⟨A, c, rfl, _⟩ := SlC.form hs
              exact ⟨A, c, e, hs, hb⟩))
            have hSd := HS.out wr.drew HQ.out.drew
            clear hp3 hp2 k0 k1 k2 z0 z1 z2 z3 zs hf2 hf3
            go_wp2_with fail
            go_region_held3 (fun w' => w'.cell? (a3.add (j * 3)) = some (.int .i64 kk.kind) ∧ w'.cell? ⟨(a3.add (j * 3)).block, (a3.add (j * 3)).off + 1, none⟩ = some (.int .i64 kk.a) ∧ w'.cell? ⟨(a3.add (j * 3)).block, (a3.add (j * 3)).off + 2, none⟩ = some (.int .i64 kk.b) ∧ w'.cell? (a2.add (j * 4)) = some (.int .i64 kk.kind) ∧ w'.cell? ⟨(a2.add (j * 4)).block, (a2.add (j * 4)).off + 1, none⟩ = some (.int .i64 kk.a) ∧ w'.cell? ⟨(a2.add (j * 4)).block, (a2.add (j * 4)).off + 2, none⟩ = some (.int .i64 kk.b) ∧ w'.cell? ⟨(a2.add (j * 4)).block, (a2.add (j * 4)).off + 3, none⟩ = some (.slice Aj cc.length cj))
              (first | with_reducible assumption | go_keep)
              (first
                | (go_at_call 19
                   (with_reducible refine (HCh.out _ HQ.out.drew).mono ?_)
                   rintro e w7 ⟨A7, c7, rfl, hs7, b7⟩
                   have HB7 := Lib.hid (below_two HQ.out.drew b7)
                   have HR7 := Lib.hid (real11_any hs7 (fun b q => q.2) (by have := HCl.out; omega))
                   have hS7 := HS.out _ HB7.out)
                | (go_at_call 18
                   (with_reducible refine HR7.out.mono ?_)
                   rintro e w8 ⟨v8, rfl, hs8, b8⟩
                   have HB8 := Lib.hid (below_two HB7.out b8)
                   have HM8 := Lib.hid (rsame10_any hs8 (S.Sg.below HSl.out HB8.out (fun b q => Nat.lt_of_lt_of_le q.1 HLt.out.1)) (by have := HCl.out; omega))
                   have hS8 := HS.out _ HB8.out)
                | (go_at_call 17
                   (with_reducible refine HM8.out.mono ?_)
                   rintro e w9 ⟨rfl, hs9⟩
                   have HB9 := Lib.hid (below_two HB8.out hs9.low)
                   have hS9 := HS.out _ HB9.out))
            all_goals (try go_wp2_with fail)
            go_roundw
            case rel => exact ⟨j + 1, by omega, by go_num, HB9⟩
            case measure => simp [intOf]; omega
          · have i5 : ¬ ((j : Int) < (Y.length : Int)) := by omega
            have HOb : Hid (Ob2 H w wr (.pointer (some av)) (.slice A2 Y.length c2) Y) := Lib.hid ⟨F, (HHx.out wr HQ.out).1, HF.out, (HHx.out wr HQ.out).2.wider (fun b q => ⟨Nat.lt_of_lt_of_le q.1 (Nat.le_trans HLt.out.1 HQ.out.size), q.2⟩)⟩
            have HBq := Lib.hid (HBw.out.trans (HQ.out.mono HBw.out.size))
            go_wp2_with fail
            go_roundw
            case rel => exact ⟨i + 1, Y, by omega, by go_num, HOb, HNx, HBq⟩
            case measure => simp [intOf]; omega
      · have hNo : ¬ ((i : Int) < (ld.length : Int)) := by omega
        go_wp2
        go_ret
        exact ⟨rfl, HB.out⟩
  · have HFe : Hid (∀ W, Below w.heap.size w W → Calls Try.prog 11 #[.slice Ad ld.length capd] W fun e w' => e = .returned (.bool false) ∧ Below W.heap.size W w') := Lib.hid (fun W hb => few11_no (HD.out.below hb HG.out) (fun b q => Nat.lt_of_lt_of_le (HG.out b q) hb.size) hfew)
    clear hfew
    go_enter Try.func3, Try.ntmps3
    go_wp2_with (first
      | (go_at_call 9; refine HA.out.mono ?_; rintro e w1 ⟨rfl, hb1⟩; have HB := Lib.hid hb1; clear hb1)
      | (go_at_call 10; refine (HN.out _).mono ?_; rintro e w2 ⟨v2, rfl, hs2, hb2⟩; replace HB := Lib.hid (below_two HB.out hb2); clear hb2 hs2)
      | (go_at_call 11; refine (HFe.out _ HB.out).mono ?_; rintro e w3 ⟨rfl, hb3⟩; replace HB := Lib.hid (below_two HB.out hb3); clear hb3))
    go_ret
    exact ⟨rfl, HB.out⟩
end
end Go.Proofs.Ytpppjipelcfnkaa
