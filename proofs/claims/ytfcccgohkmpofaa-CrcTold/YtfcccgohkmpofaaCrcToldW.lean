/-
  The law CrcTold, walked: one byte that is another one is told; so are two bytes that change places next to each other, and are unlike.
-/
import Derived.Test.YtfcccgohkmpofaaCrcW5
import Derived.Test.YtfcccgohkmpofaaCrcTableW
namespace Go.Proofs.Ytfcccgohkmpofaa
open Go.RowKit

theorem add_succ (a : Addr) (k : Nat) : a.add (k + 1) = ⟨a.block, a.off + (k + 1), none⟩ := by simp [Addr.add]
theorem split_at (l : List UInt8) (k : Nat) (h : k < l.length) : l = l.take k ++ l[k] :: l.drop (k + 1) := by
  rw [← List.drop_eq_getElem_cons h, List.take_append_drop]
theorem set_at (l : List UInt8) (k : Nat) (h : k < l.length) (x : UInt8) : l.set k x = l.take k ++ x :: l.drop (k + 1) := by
  rw [List.set_eq_take_append_cons_drop, if_pos h]

theorem told_set (l : List UInt8) (k : Nat) (h : k < l.length) (x : UInt8) (hx : x ≠ l[k]) : C.sum (l.set k x) ≠ C.sum l := by
  intro e
  rw [set_at l k h] at e
  have e2 : C.sum l = C.sum (l.take k ++ l[k] :: l.drop (k + 1)) := congrArg C.sum (split_at l k h)
  rw [e2] at e
  exact hx (C.told_one _ _ e)

theorem swap_at (l : List UInt8) (k : Nat) (h : k + 1 < l.length) : (l.set k l[k + 1]).set (k + 1) l[k] = l.take k ++ l[k + 1] :: l[k] :: l.drop (k + 2) := by
  rw [set_at (l.set k l[k + 1]) (k + 1) (by simp; omega), List.take_set, List.drop_set]
  rw [if_pos (by omega)]
  have hm : min k l.length = k := by omega
  have h1 : l.take (k + 1) = l.take k ++ [l[k]] := List.take_succ_eq_append_getElem (by omega)
  rw [h1, List.set_append_right _ _ (by rw [List.length_take, hm]; exact Nat.le_refl _), List.length_take, hm]
  simp

theorem two_at (l : List UInt8) (k : Nat) (h : k + 1 < l.length) : l = l.take k ++ l[k] :: l[k + 1] :: l.drop (k + 2) := by
  have h1 := split_at l k (by omega)
  have h2 : l.drop (k + 1) = l[k + 1] :: l.drop (k + 2) := List.drop_eq_getElem_cons h
  rw [h2] at h1
  exact h1

theorem told_swap (l : List UInt8) (k : Nat) (h : k + 1 < l.length) (hx : l[k] ≠ l[k + 1]) : C.sum ((l.set k l[k + 1]).set (k + 1) l[k]) ≠ C.sum l := by
  intro e
  rw [swap_at l k h] at e
  have e2 : C.sum l = C.sum (l.take k ++ l[k] :: l[k + 1] :: l.drop (k + 2)) := congrArg C.sum (two_at l k h)
  rw [e2] at e
  exact hx (C.told_two _ _ e.symm)

theorem same_swap (l : List UInt8) (k : Nat) (h : k + 1 < l.length) (hx : l[k] = l[k + 1]) : (l.set k l[k + 1]).set (k + 1) l[k] = l := by
  rw [swap_at l k h, hx]
  conv => rhs; rw [two_at l k h, hx]

/-- the byte that is another one -/
theorem turned (x : UInt8) (n : Nat) (hn : n < 256) : ∃ y : UInt8, y ≠ x ∧ (y.toNat : Int) = bits .xor .u8 (x.toNat : Int) (bits .or .u8 (n : Int) 1) := by
  have hx := x.toNat_lt
  have h1 : bits .or .u8 (n : Int) 1 = ((n ||| 1 : Nat) : Int) := u8_or_nat n 1 hn (by decide)
  have h2 : n ||| 1 < 256 := Nat.or_lt_two_pow (n := 8) hn (by decide)
  have h3 : x.toNat ^^^ (n ||| 1) < 256 := Nat.xor_lt_two_pow (n := 8) hx h2
  have h4 : (UInt8.ofNat (x.toNat ^^^ (n ||| 1))).toNat = x.toNat ^^^ (n ||| 1) := by rw [UInt8.toNat_ofNat']; exact Nat.mod_eq_of_lt h3
  refine ⟨UInt8.ofNat (x.toNat ^^^ (n ||| 1)), fun e => ?_, ?_⟩
  · have h5 : x.toNat ^^^ (n ||| 1) = x.toNat ^^^ 0 := by rw [← h4, e, Nat.xor_zero]
    have h6 := C.xor_left_eq h5
    have h7 : (n ||| 1).testBit 0 = true := by simp
    rw [h6] at h7
    simp at h7
  · rw [h1, u8_xor_nat _ _ hx h2, h4]

theorem Own.set {w : World} {base g cap k : Nat} {l : List UInt8} (h : Own w base (.slice (some ⟨g, 0, none⟩) l.length cap) l) (x : UInt8) :
    Own (w.setCell ⟨g, k, none⟩ (.int .u8 (x.toNat : Int))) base (.slice (some ⟨g, 0, none⟩) l.length cap) (l.set k x) := by
  have h1 := (World.ownsRow.stored h k (.int .u8 (x.toNat : Int))).1
  have e : C.bytesV (l.set k x) = (C.bytesV l).set k (.int .u8 (x.toNat : Int)) := by simp [C.bytesV, List.map_set]
  rw [Own, e, List.length_set]
  exact h1

theorem Sl.at_ {w : World} {B cap k : Nat} {A : Option Addr} {l : List UInt8} (h : Sl w B (.slice A l.length cap) l) (hk : k < l.length) : ∃ a, A = some a ∧ a.block < B ∧ ∀ j (h : j < l.length), w.cell? (a.add j) = some (.int .u8 (l[j].toNat : Int)) := by
  obtain ⟨A', cap', e, hc, hx⟩ := h
  injection e with e1
  subst e1
  exact hx (fun e => by subst e; simp at hk)

set_option maxRecDepth 1000000 in
set_option maxHeartbeats 2000000 in
theorem crcTold_walk (v : Value) (l : List UInt8) (c n : Nat) (w : World) (h : Sl w w.heap.size v l) (hl : l.length ≤ maxLen) (hc : c < 65536) (hn : n < 256) :
    Calls Try.prog 5 #[v, .int .u16 c, .int .u8 n] w fun e w' => e = .returned (.bool true) ∧ Below w.heap.size w w' := by
  have HS := Lib.hid h
  have HL := Lib.hid hl
  unfold maxLen at hl
  obtain ⟨A, cap, rfl, hcap, _⟩ := h
  by_cases hlen : 20000 < l.length ∨ l.length = 0
  · by_cases h2 : 20000 < l.length
    · clear hlen
      go_enter Try.func5, Try.ntmps5
      go_wp2_with fail
      refine (awake_any _).mono ?_
      rintro e w1 ⟨rfl, hb1⟩
      go_wp2
      go_ret
      exact ⟨rfl, hb1⟩
    · have h0 : l.length = 0 := by omega
      obtain rfl : l = [] := List.length_eq_zero_iff.1 h0
      clear hlen h2 h0
      go_enter Try.func5, Try.ntmps5
      go_wp2_with fail
      refine (awake_any _).mono ?_
      rintro e w1 ⟨rfl, hb1⟩
      go_wp2
      go_ret
      exact ⟨rfl, hb1⟩
  · have hl1 : ¬ 20000 < l.length := by omega
    have hl0 : 0 < l.length := by omega
    clear hlen
    obtain ⟨a, rfl, hab, hcell⟩ := HS.out.at_ hl0
    have HC := Lib.hid hcell
    clear hcell
    have hld : decide ((20000 : Int) < (l.length : Int)) = false := decide_eq_false (by omega)
    have hle : ((l.length : Int) == 0) = false := by rw [beq_eq_false_iff_ne]; omega
    go_enter Try.func5, Try.ntmps5
    go_wp2_with fail
    refine (awake_any _).mono ?_
    rintro e w1 ⟨rfl, hb1⟩
    have hz1 := hb1.size
    have hb2 := hb1.alloc hz1 (.cells #[] 5)
    go_wp2_with (at_builtin; refine wpList_append_sl rfl _ _ rfl (base := w.heap.size) (xs := []) (l := l) rfl rfl (Own.none_ hz1) (HS.out.below hb2) (by simp; omega) (by simp; omega) ?_)
    intro vc w2 hown hgrow _
    have hb3 : Below w.heap.size w w2 := hb2.grown hgrow (by simp; omega) (fun j hj => by simp [Value.ownBlock] at hj; omega)
    clear hgrow hb2 hb1
    obtain ⟨gc, capc, rfl⟩ := Joins.ownsRow_form hown hl0
    have hgc := (World.ownsRow.lt hown gc rfl)
    obtain ⟨k, hk, hkl⟩ : ∃ k : Nat, (c : Int) % (l.length : Int) = k ∧ k < l.length := ⟨c % l.length, by simp, Nat.mod_lt c hl0⟩
    rw [hk]
    clear hk
    have hck : w2.cell? ⟨gc, k, none⟩ = some (.int .u8 (l[k].toNat : Int)) := by
      rw [World.ownsRow.cellAt hown k (by omega)]; exact C.bytesV_at l k hkl
    have hfk := World.ownsRow.frozenAt hown k
    obtain ⟨y, hy, hye⟩ := turned l[k] n hn
    have hown2 := Own.set (k := k) hown y
    have hgrow2 := (World.ownsRow.stored hown k (.int .u8 (y.toNat : Int))).2
    have hb4 : Below w.heap.size w (w2.setCell ⟨gc, k, none⟩ (.int .u8 (y.toNat : Int))) := hb3.grown hgrow2 hb3.size (fun j hj => by simp at hj; omega)
    have HO := Lib.hid hown2.sl
    have HT := Lib.hid (told_set l k hkl y hy)
    clear hown hgrow2 hown2 hb3
    replace hye := hye.symm
    have hz2 := hb4.size
    have hb5 := hb4.alloc hz2 (.cells #[] 5)
    go_wp2_with (at_builtin; refine wpList_append_sl rfl _ _ rfl (base := w2.heap.size) (xs := []) (l := l) rfl rfl (Own.none_at (by simp) (Nat.le_refl _)) (HS.out.below hb5) (by simp; omega) (by simp) ?_)
    clear hb5 hye hck hfk
    have hzs : (w2.setCell ⟨gc, k, none⟩ (.int .u8 (y.toNat : Int))).heap.size = w2.heap.size := by simp
    generalize w2.setCell ⟨gc, k, none⟩ (.int .u8 (y.toNat : Int)) = w3 at hb4 HO hz2 hzs
    intro vd w4 hown hgrow _
    have hb6 : Below w3.heap.size w3 w4 := ((Below.refl _ _).alloc (Nat.le_refl _) _).grown hgrow (by simp) (fun j hj => by simp [Value.ownBlock] at hj; omega)
    have hbw : Below w.heap.size w w4 := hb4.trans (hb6.mono hz2)
    clear hgrow
    obtain ⟨gd, capd, rfl⟩ := Joins.ownsRow_form hown hl0
    have hgd := (World.ownsRow.lt hown gd rfl)
    have hz4 := hb6.size
    have hd0 : ∀ W : World, Below w.heap.size w W → ∀ j (h : j < l.length), W.cell? (a.add j) = some (.int .u8 (l[j].toNat : Int)) := fun W hW j hj => by
      rw [hW.cell (by rw [add_block]; exact hab)]; exact HC.out j hj
    have HD0 := Lib.hid hd0
    clear hd0
    by_cases hk1 : k + 1 < l.length
    · have hdk : w4.cell? ⟨gd, k, none⟩ = some (.int .u8 (l[k].toNat : Int)) := by
        rw [World.ownsRow.cellAt hown k (by omega)]; exact C.bytesV_at l k hkl
      have hdk1 : w4.cell? ⟨gd, k + 1, none⟩ = some (.int .u8 (l[k + 1].toNat : Int)) := by
        rw [World.ownsRow.cellAt hown (k + 1) (by omega)]; exact C.bytesV_at l (k + 1) hk1
      have hf0 := World.ownsRow.frozenAt hown k
      have hf1 := World.ownsRow.frozenAt hown (k + 1)
      have hg1 := (World.ownsRow.stored hown k (.int .u8 (l[k + 1].toNat : Int))).2
      have hown1 := Own.set (k := k) hown l[k + 1]
      have hlen : (l.set k l[k + 1]).length = l.length := List.length_set
      have hb7 : Below w3.heap.size w3 (w4.setCell ⟨gd, k, none⟩ (.int .u8 (l[k + 1].toNat : Int))) := hb6.grown hg1 hz4 (fun j hj => by simp at hj; omega)
      have hown1' : Own (w4.setCell ⟨gd, k, none⟩ (.int .u8 (l[k + 1].toNat : Int))) w2.heap.size (.slice (some ⟨gd, 0, none⟩) (l.set k l[k + 1]).length capd) (l.set k l[k + 1]) := by rw [hlen]; exact hown1
      have hg2 := (World.ownsRow.stored hown1' (k + 1) (.int .u8 (l[k].toNat : Int))).2
      have hown2 := Own.set (k := k + 1) hown1' l[k]
      have hb8 : Below w3.heap.size w3 ((w4.setCell ⟨gd, k, none⟩ (.int .u8 (l[k + 1].toNat : Int))).setCell ⟨gd, k + 1, none⟩ (.int .u8 (l[k].toNat : Int))) := hb7.grown hg2 hb7.size (fun j hj => by simp at hj; omega)
      have hr0 := HD0.out _ hbw (k + 1) hk1
      have hr1 := HD0.out _ (hb4.trans (hb7.mono hz2)) k hkl
      have hr2 := HD0.out _ (hb4.trans (hb8.mono hz2)) k hkl
      have hr3 := HD0.out _ (hb4.trans (hb8.mono hz2)) (k + 1) hk1
      rw [add_succ] at hr0 hr3
      have HO2 := Lib.hid hown2.sl
      have HB8 := Lib.hid hb8
      clear hown hown1 hown1' hown2 hg1 hg2 hb7 hb8 hlen
      have hdl : decide ((k : Int) + 1 < (l.length : Int)) = true := decide_eq_true (by omega)
      have htn : ((k : Int) + 1).toNat = k + 1 := by omega
      go_wp2_with fail
      rw [List.length_set] at HO2
      have hzn := HB8.out.size
      clear hr0 hr1 hdk hdk1 hf0 hf1 hgd
      generalize (w4.setCell ⟨gd, k, none⟩ (.int .u8 (l[k + 1].toNat : Int))).setCell ⟨gd, k + 1, none⟩ (.int .u8 (l[k].toNat : Int)) = w6 at hr2 hr3 HO2 HB8 hzn
      clear hb6 hbw hz4 hdl
      have hdg : decide ((l.length : Int) ≤ (k : Int) + 1) = false := decide_eq_false (by omega)
      have hwr : IntKind.i64.wrap ((k : Int) + 1) = (k : Int) + 1 := IntWalk.i64_in _ (by omega)
      have h0k : (0 : Int) ≤ (k : Int) + 1 := by omega
      have hkk : (k : Int) + 1 < (l.length : Int) := by omega
      by_cases hs : l[k] = l[k + 1]
      · have hbe : ((l[k].toNat : Int) == (l[k + 1].toNat : Int)) = true := by rw [hs]; simp
        have HO3 := Lib.hid (by have := HO2.out; rw [same_swap l k hk1 hs] at this; exact this)
        clear hs HO2
        have hdm := HL.out
        go_quiet (fail)
        rename_i nq
        have hset : (l.set k y).length ≤ maxLen := by rw [List.length_set]; exact HL.out
        have hn1 : (((C.sum (l.set k y) : Nat) : Int) != ((C.sum l : Nat) : Int)) = true := by rw [bne_iff_ne]; intro e; exact HT.out (by omega)
        go_wp2_with fail
        have hq0 := below_drewN (Below.refl w6.heap.size w6) nq
        refine (of_any _ (l.set k y) _ w3.heap.size (Nat.le_trans hzn hq0.size) (HO.out.below (HB8.out.trans (hq0.mono hzn))) hset).mono ?_
        rintro e w8 ⟨rfl, hbn⟩
        have hq8 := hq0.trans (hbn.mono hq0.size)
        clear hbn
        go_wp2_with fail
        refine (of_any _ l _ w.heap.size (Nat.le_trans hz2 (Nat.le_trans hzn hq8.size)) (HS.out.below (hb4.trans ((HB8.out.trans (hq8.mono hzn)).mono hz2))) HL.out).mono ?_
        rintro e w9 ⟨rfl, hbn⟩
        have hq9 := hq8.trans (hbn.mono hq8.size)
        clear hbn
        go_wp2_with fail
        refine (of_any _ l _ w6.heap.size hq9.size (HO3.out.below hq9) hdm).mono ?_
        rintro e w10 ⟨rfl, hbn⟩
        have hq10 := hq9.trans (hbn.mono hq9.size)
        clear hbn
        go_wp2_with fail
        refine (of_any _ l _ w.heap.size (Nat.le_trans hz2 (Nat.le_trans hzn hq10.size)) (HS.out.below (hb4.trans ((HB8.out.trans (hq10.mono hzn)).mono hz2))) HL.out).mono ?_
        rintro e w11 ⟨rfl, hbn⟩
        have hq11 := hq10.trans (hbn.mono hq10.size)
        clear hbn
        go_wp2
        go_ret
        exact ⟨rfl, hb4.trans ((HB8.out.trans (hq11.mono hzn)).mono hz2)⟩
      · have hbe : ((l[k].toNat : Int) == (l[k + 1].toNat : Int)) = false := by
          rw [beq_eq_false_iff_ne]; intro e; exact hs (UInt8.toNat_inj.1 (by omega))
        have HW := Lib.hid (told_swap l k hk1 hs)
        clear hs
        have hdm : ((l.set k l[k + 1]).set (k + 1) l[k]).length ≤ maxLen := by rw [List.length_set, List.length_set]; exact HL.out
        go_quiet (fail)
        rename_i nq
        have hset : (l.set k y).length ≤ maxLen := by rw [List.length_set]; exact HL.out
        have hn1 : (((C.sum (l.set k y) : Nat) : Int) != ((C.sum l : Nat) : Int)) = true := by rw [bne_iff_ne]; intro e; exact HT.out (by omega)
        have hn3 : (((C.sum ((l.set k l[k + 1]).set (k + 1) l[k]) : Nat) : Int) == ((C.sum l : Nat) : Int)) = false := by rw [beq_eq_false_iff_ne]; intro e; exact HW.out (by omega)
        go_wp2_with fail
        have hq0 := below_drewN (Below.refl w6.heap.size w6) nq
        refine (of_any _ (l.set k y) _ w3.heap.size (Nat.le_trans hzn hq0.size) (HO.out.below (HB8.out.trans (hq0.mono hzn))) hset).mono ?_
        rintro e w8 ⟨rfl, hbn⟩
        have hq8 := hq0.trans (hbn.mono hq0.size)
        clear hbn
        go_wp2_with fail
        refine (of_any _ l _ w.heap.size (Nat.le_trans hz2 (Nat.le_trans hzn hq8.size)) (HS.out.below (hb4.trans ((HB8.out.trans (hq8.mono hzn)).mono hz2))) HL.out).mono ?_
        rintro e w9 ⟨rfl, hbn⟩
        have hq9 := hq8.trans (hbn.mono hq8.size)
        clear hbn
        go_wp2_with fail
        refine (of_any _ ((l.set k l[k + 1]).set (k + 1) l[k]) _ w6.heap.size hq9.size (HO2.out.below hq9) hdm).mono ?_
        rintro e w10 ⟨rfl, hbn⟩
        have hq10 := hq9.trans (hbn.mono hq9.size)
        clear hbn
        go_wp2_with fail
        refine (of_any _ l _ w.heap.size (Nat.le_trans hz2 (Nat.le_trans hzn hq10.size)) (HS.out.below (hb4.trans ((HB8.out.trans (hq10.mono hzn)).mono hz2))) HL.out).mono ?_
        rintro e w11 ⟨rfl, hbn⟩
        have hq11 := hq10.trans (hbn.mono hq10.size)
        clear hbn
        go_wp2
        go_ret
        exact ⟨rfl, hb4.trans ((HB8.out.trans (hq11.mono hzn)).mono hz2)⟩
    · have HO3 := Lib.hid hown.sl
      have hzn := hz4
      have HB8 := Lib.hid hb6
      have hdm := HL.out
      clear hown hbw
      have hdl : decide ((k : Int) + 1 < (l.length : Int)) = false := decide_eq_false (by omega)
      have hdg : decide ((l.length : Int) ≤ (k : Int) + 1) = true := decide_eq_true (by omega)
      have hwr : IntKind.i64.wrap ((k : Int) + 1) = (k : Int) + 1 := IntWalk.i64_in _ (by omega)
      go_wp2_with fail
      go_quiet (fail)
      rename_i nq
      have hset : (l.set k y).length ≤ maxLen := by rw [List.length_set]; exact HL.out
      have hn1 : (((C.sum (l.set k y) : Nat) : Int) != ((C.sum l : Nat) : Int)) = true := by rw [bne_iff_ne]; intro e; exact HT.out (by omega)
      go_wp2_with fail
      have hq0 := below_drewN (Below.refl w4.heap.size w4) nq
      refine (of_any _ (l.set k y) _ w3.heap.size (Nat.le_trans hzn hq0.size) (HO.out.below (HB8.out.trans (hq0.mono hzn))) hset).mono ?_
      rintro e w8 ⟨rfl, hbn⟩
      have hq8 := hq0.trans (hbn.mono hq0.size)
      clear hbn
      go_wp2_with fail
      refine (of_any _ l _ w.heap.size (Nat.le_trans hz2 (Nat.le_trans hzn hq8.size)) (HS.out.below (hb4.trans ((HB8.out.trans (hq8.mono hzn)).mono hz2))) HL.out).mono ?_
      rintro e w9 ⟨rfl, hbn⟩
      have hq9 := hq8.trans (hbn.mono hq8.size)
      clear hbn
      go_wp2_with fail
      refine (of_any _ l _ w4.heap.size hq9.size (HO3.out.below hq9) hdm).mono ?_
      rintro e w10 ⟨rfl, hbn⟩
      have hq10 := hq9.trans (hbn.mono hq9.size)
      clear hbn
      go_wp2_with fail
      refine (of_any _ l _ w.heap.size (Nat.le_trans hz2 (Nat.le_trans hzn hq10.size)) (HS.out.below (hb4.trans ((HB8.out.trans (hq10.mono hzn)).mono hz2))) HL.out).mono ?_
      rintro e w11 ⟨rfl, hbn⟩
      have hq11 := hq10.trans (hbn.mono hq10.size)
      clear hbn
      go_wp2
      go_ret
      exact ⟨rfl, hb4.trans ((HB8.out.trans (hq11.mono hzn)).mono hz2)⟩

end Go.Proofs.Ytfcccgohkmpofaa
