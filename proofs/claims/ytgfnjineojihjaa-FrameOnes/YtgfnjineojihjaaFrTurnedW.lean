/-
  The law FrameTurned, walked: a sector with one byte that is another one is no frame; nor is one of zeros, or one with a byte more, or less.
-/
import Derived.Test.YtgfnjineojihjaaFrOnesW
namespace Go.Proofs.Ytgfnjineojihjaa
open Go.RowKit

theorem byte_turned (x : UInt8) (n : Nat) (hn : n < 256) : ∃ y : UInt8, y ≠ x ∧ bits .xor .u8 (x.toNat : Int) (bits .or .u8 (n : Int) 1) = (y.toNat : Int) := by
  have hx := x.toNat_lt
  have h1 : bits .or .u8 (n : Int) 1 = ((n ||| 1 : Nat) : Int) := u8_or_nat n 1 hn (by decide)
  have h2 : n ||| 1 < 256 := Nat.or_lt_two_pow (n := 8) hn (by decide)
  have h3 : x.toNat ^^^ (n ||| 1) < 256 := Nat.xor_lt_two_pow (n := 8) hx h2
  have h4 : (UInt8.ofNat (x.toNat ^^^ (n ||| 1))).toNat = x.toNat ^^^ (n ||| 1) := by rw [UInt8.toNat_ofNat']; exact Nat.mod_eq_of_lt h3
  refine ⟨UInt8.ofNat (x.toNat ^^^ (n ||| 1)), fun e => ?_, ?_⟩
  · have h5 : x.toNat ^^^ (n ||| 1) = x.toNat ^^^ 0 := by rw [← h4, e, Nat.xor_zero]
    have h6 := C.xor_left_eq h5
    have h7 : (n ||| 1) % 2 = 1 := by rw [Nat.or_mod_two_eq_one]; exact Or.inr (by decide)
    omega
  · rw [h1, u8_xor_nat x.toNat (n ||| 1) hx h2, h4]

theorem parseE_none {l : List UInt8} (h : R.parse l = none) : parseE l = 2 := by unfold parseE; rw [h]

theorem bytesV_set (l : List UInt8) (k : Nat) (y : UInt8) : bytesV (l.set k y) = (bytesV l).set k (.int .u8 (y.toNat : Int)) := by rw [bytesV, List.map_set]; rfl

theorem slB_take {w : World} {F : Nat → Prop} {A : Option Addr} {n cap : Nat} {l : List UInt8} (h : SlB w F (.slice A n cap) l) (k : Nat) (hk : k ≤ n) (hn : n = l.length) : SlB w F (.slice A k cap) (l.take k) := by
  obtain ⟨h0, A', cap', e, hc, hx⟩ := h
  cases e
  have hl : (l.take k).length = k := by rw [List.length_take]; omega
  refine ⟨by rw [bytesV_length]; simp, A, cap, by rw [hl], by rw [hl]; omega, fun hne => ?_⟩
  obtain ⟨a, e2, hF, hx⟩ := hx (by omega)
  refine ⟨a, e2, hF, fun j u hj => hx j u ?_⟩
  rw [bytesV, List.map_take, List.getElem?_take] at hj
  split at hj
  · exact hj
  · cases hj

set_option linter.unusedSimpArgs false in
set_option maxRecDepth 100000 in
set_option maxHeartbeats 1000000 in
theorem turned_any (K : FrameOk) {w : World} {G : Nat → Prop} {vf : Value} {f : R.Fr} (hf : FrV w G vf f) (hG : ∀ b, G b → b < w.heap.size) (hn : f.Num) (a b : Nat) (ha : a < 256) (hbb : b < 256) :
    Calls Try.prog 6 #[vf, .int .u8 a, .int .u8 b] w fun r w' => r = .returned (.bool true) ∧ Below w.heap.size w w' := by
  have HF := Lib.hid hf
  obtain ⟨A, cap, rfl, hc⟩ := hf.form
  have P0 := Bk.new w (pfC f A cap) 25 rfl
  have hb0 : Below w.heap.size w (w.alloc (.cells (pfC f A cap).toArray 25)) := (Below.refl _ _).alloc (Nat.le_refl _) _
  have HA := Lib.hid (fawake_any K (w.alloc (.cells (pfC f A cap).toArray 25)))
  clear hf
  by_cases h50 : f.body.length ≤ 50
  · have t1 : ¬ (50 : Int) < (f.body.length : Int) := by omega
    obtain ⟨k, hk⟩ : ∃ k, k = a % 64 := ⟨_, rfl⟩
    have hkl : k < 64 := by omega
    have hka : (a : Int).tmod 64 = (k : Int) := by rw [Int.tmod_eq_emod_of_nonneg (by omega)]; omega
    have hkb : (a : Int) % 64 = (k : Int) := by omega
    clear hk
    obtain ⟨X, hX⟩ : ∃ X, X = R.sector f := ⟨_, rfl⟩
    have lX : X.length = 64 := by rw [hX]; exact R.sector_len h50
    have HX := Lib.hid hX
    clear hX
    obtain ⟨x, hx⟩ : ∃ x, X[k]? = some x := ⟨_, List.getElem?_eq_getElem (by omega)⟩
    obtain ⟨y, hy, hxy⟩ := byte_turned x b hbb
    have HN1 : Hid (parseE (X.set k y) = 2) := Lib.hid (parseE_none (by rw [HX.out]; exact R.turned h50 k hkl y (by rw [← HX.out, hx]; exact fun e => hy (Option.some.inj e).symm)))
    have HN2 : Hid (parseE (List.replicate 64 0) = 2) := Lib.hid (parseE_none R.zeros_none)
    have HN3 : Hid (parseE (X.take 63) = 2) := Lib.hid (parseE_none (R.parse_len (by rw [List.length_take]; omega)))
    have HN4 : Hid (parseE (X ++ [UInt8.ofNat b]) = 2) := Lib.hid (parseE_none (R.parse_len (by simp; omega)))
    have LX := Lib.hid lX
    have HXk := Lib.hid hx
    clear hx hy
    go_enter Try.func6, Try.ntmps6
    go_wp2_with fail
    refine HA.out.mono ?_
    rintro r w1 ⟨rfl, hb1⟩
    have P1 := P0.step hb1
    have hb1' := below_two hb0 hb1
    have HP := Lib.hid (K.pack (HF.out.below hb1' hG) (fun b g => Nat.lt_of_lt_of_le (hG b g) hb1'.size) hn (by omega))
    rw [show packE f = 0 from if_pos h50, show packB f = X from (if_pos h50).trans HX.out.symm] at HP
    have c0 := P1.cell 0 _ rfl
    have c1 := P1.cell 1 _ rfl
    have c2 := P1.cell 2 _ rfl
    have c3 := P1.cell 3 _ rfl
    clear P0 hb0 HA hb1 P1
    go_wp2_with fail
    refine HP.out.mono ?_
    rintro r w2 ⟨vx, rfl, hs2, hb2⟩
    have hb2' := below_two hb1' hb2
    obtain ⟨Ax, capx, rfl, hcx⟩ : ∃ A cap, vx = .slice A 64 cap ∧ 64 ≤ cap := by obtain ⟨A, cap, e, hc⟩ := slB_form hs2; rw [lX] at e hc; exact ⟨A, cap, e, hc⟩
    have X2 := Lib.hid hs2
    have hw2 := Lib.hid (show w1.heap.size ≤ w2.heap.size from hb2.size)
    clear HP c0 c1 c2 c3 lX hs2
    have hal2 : Below w2.heap.size w2 (w2.alloc (.cells #[] 5)) := (Below.refl _ _).alloc (Nat.le_refl _) _
    have S2 : Hid (S.Sg (w2.alloc (.cells #[] 5)) (S.New w1 w2) 1 (.slice Ax 64 capx) 64 (bytesV X)) := Lib.hid (by have : S.Sg _ _ 1 _ X.length (bytesV X) := X2.out.below hal2 (fun b h => h.2); rw [LX.out] at this; exact this)
    go_wp2_with (at_builtin; refine S.wpList_append_sg elB rfl _ _ rfl (base := w2.heap.size) (xs := []) (cs := bytesV X) rfl rfl (S.own_none 5 1 rfl (Nat.le_refl _)) S2.out (bytesV_one _) (by omega) (by omega) (by simp) ?_)
    intro v3 w3 hown3 hgrow3 _
    have hb3 : Below w2.heap.size w2 w3 := hal2.grown hgrow3 hal2.size (fun j hj => by simp [Value.ownBlock] at hj; omega)
    obtain ⟨g, cap3, _, rfl, hg3, hc3, _⟩ := V.own_form hown3 (by omega)
    have hgb := (World.ownsRow.lt hown3 g rfl).1
    have hcell : w3.cell? ⟨g, k, none⟩ = some (.int .u8 (x.toNat : Int)) := V.own_cell hown3 (by rw [bytesV, List.getElem?_map, HXk.out]; rfl)
    have hfz := V.own_frozen hown3 k
    have hst := (World.ownsRow.stored hown3 k (.int .u8 (y.toNat : Int))).1
    rw [← bytesV_set] at hst
    have hbs := hb3.setCell (p := ⟨g, k, none⟩) hgb (.int .u8 (y.toNat : Int))
    have k0 : (0 : Int) ≤ (k : Int) := by omega
    have k1 : (k : Int) < 64 := by omega
    have HP4 := Lib.hid (K.parse (w := w3.setCell ⟨g, k, none⟩ (.int .u8 (y.toNat : Int))) (F := fun b => w2.heap.size ≤ b ∧ b < (w3.setCell ⟨g, k, none⟩ (.int .u8 (y.toNat : Int))).heap.size) (v := .slice (some ⟨g, 0, none⟩) 64 cap3) (l := X.set k y) (by
      have := S.Sg.of_own hst
      show S.Sg _ _ 1 _ (X.set k y).length (bytesV (X.set k y))
      rw [List.length_set, LX.out]
      exact this) (fun b h => h.2) (by rw [List.length_set, LX.out]; omega))
    rw [HN1.out] at HP4
    clear S2 hown3 hgrow3 hst hal2
    go_wp2_with fail
    refine HP4.out.mono ?_
    rintro r w5 ⟨v5, rfl, hs5, hb5⟩
    obtain ⟨A5, cap5, rfl, hc5⟩ := hs5.form
    generalize parseF (X.set k y) = g5 at *
    have hb5' : Below w2.heap.size w2 w5 := hbs.trans (hb5.mono hbs.size)
    have hb6 := hb5'.alloc hb5'.size (.cells (pfC g5 A5 cap5).toArray 25)
    obtain ⟨i5, hi5, hz0, hz1, hz2⟩ := info_parts info5
    have HB5 := Lib.hid (show i5.bytes * 64 ≤ 281474976710656 by rw [hz2]; decide)
    clear HP4 hs5 hb5 hbs hb3 hcell hfz hxy hc5
    go_wp2_with (at_make; refine wpList_make_full _ rfl _ _ 23 rfl w2.heap.size 5 i5 (.int .u8 0) 1 Try.underlying23 hi5 hz0 hz1 .i64 .i64 64 64 64 rfl rfl rfl rfl HB5.out (by decide) hb6.size ?_)
    intro w7 hown hgrow
    have hs7 : SlB w7 (fun b => w2.heap.size ≤ b ∧ b < w7.heap.size) (.slice (some ⟨w5.heap.size + 1, 0, none⟩) 64 64) (List.replicate 64 0) := by
      have := S.Sg.of_own hown
      have e : (madeCells #[Value.int .u8 0] 64).toList = bytesV (List.replicate 64 0) := by rw [toList_madeCells_one]; simp [bytesV]
      rw [e] at this
      exact this
    have hb7 : Below w2.heap.size w2 w7 := hb6.grown hgrow hb6.size (fun j hj => by cases hj)
    have HP7 := Lib.hid (K.parse hs7 (fun b h => h.2) (by decide))
    rw [HN2.out] at HP7
    clear hown hgrow hs7 hb5' hb6
    go_wp2_with fail
    refine HP7.out.mono ?_
    rintro r w8 ⟨v8, rfl, hs8, hb8⟩
    obtain ⟨A8, cap8, rfl, hc8⟩ := hs8.form
    generalize parseF (List.replicate 64 0) = g8 at *
    have hb8' : Below w2.heap.size w2 w8 := hb7.trans (hb8.mono hb7.size)
    have hb9 := hb8'.alloc hb8'.size (.cells (pfC g8 A8 cap8).toArray 25)
    have HP9 := Lib.hid (K.parse (slB_take (k := 63) (n := 64) (X2.out.below hb9 (fun b h => h.2)) (by omega) LX.out.symm) (fun b h => Nat.lt_of_lt_of_le h.2 hb9.size) (by rw [List.length_take]; omega))
    rw [HN3.out] at HP9
    clear HP7 hs8 hb8 hb7 hb8' hc8
    go_wp2_with fail
    refine HP9.out.mono ?_
    rintro r w10 ⟨v10, rfl, hs10, hb10⟩
    obtain ⟨A10, cap10, rfl, hc10⟩ := hs10.form
    generalize parseF (X.take 63) = g10 at *
    have hb10' : Below w2.heap.size w2 w10 := hb9.trans (hb10.mono hb9.size)
    have hb11 := hb10'.alloc hb10'.size (.cells (pfC g10 A10 cap10).toArray 25)
    clear HP9 hs10 hb10 hb9 hb10' hc10
    have hb11e := hb11.alloc hb11.size (.cells #[] 5)
    have S11 : Hid (S.Sg ((w10.alloc (.cells (pfC g10 A10 cap10).toArray 25)).alloc (.cells #[] 5)) (S.New w1 w2) 1 (.slice Ax 64 capx) 64 (bytesV X)) := Lib.hid (by have : S.Sg _ _ 1 _ X.length (bytesV X) := X2.out.below hb11e (fun b h => h.2); rw [LX.out] at this; exact this)
    have hO11 : Hid (((w10.alloc (.cells (pfC g10 A10 cap10).toArray 25)).alloc (.cells #[] 5)).ownsRow w2.heap.size 5 1 (.slice (some ⟨w10.heap.size + 1, 0, none⟩) 0 0) 0 []) := Lib.hid (S.own_none 5 1 (by simp) (Nat.le_trans hb11.size (by simp)))
    have hle11 := hb11e.size
    go_wp2_with (at_builtin; refine S.wpList_append_sg elB rfl _ _ rfl (base := w2.heap.size) (xs := []) (cs := bytesV X) rfl rfl hO11.out S11.out (bytesV_one _) (by omega) (by omega) hle11 ?_)
    intro v12 w12 hown12 hgrow12 _
    have hb12 : Below w2.heap.size w2 w12 := hb11e.grown hgrow12 hb11e.size (fun j hj => by simp [Value.ownBlock] at hj; have := hb11.size; simp at this; omega)
    clear S11 hO11 hle11 hgrow12 hb11e hb11
    have eb : [Value.int .u8 (b : Int)] = bytesV [UInt8.ofNat b] := by
      have : (UInt8.ofNat b).toNat = b := by simp; omega
      simp [bytesV, this]
    have EB := Lib.hid eb
    clear eb
    have hle12 := hb12.size
    go_wp2_with (at_builtin; refine S.wpList_append_sg elB rfl _ _ rfl (base := w2.heap.size) (xs := bytesV X) (cs := [.int .u8 (b : Int)]) rfl rfl (hown12.alloc _) (S.Sg.one w12 5 (.int .u8 (b : Int))) (by rw [EB.out]; exact bytesV_one _) (by omega) (by omega) (Nat.le_trans hle12 (by simp)) ?_)
    intro v13 w13 hown13 hgrow13 _
    have hb13 : Below w2.heap.size w2 w13 := (hb12.alloc hb12.size _).grown hgrow13 (Nat.le_trans hle12 (by simp)) (fun j hj => (World.ownsRow.lt hown12 j hj).1)
    rw [EB.out, ← bytesV_append] at hown13
    have hs13 := S.Sg.of_own hown13
    obtain ⟨_, A13, cap13, rfl, hc13, _⟩ := hs13
    have HP13 := Lib.hid (K.parse (w := w13) (F := fun b => w2.heap.size ≤ b ∧ b < w13.heap.size) (v := .slice A13 65 cap13) (l := X ++ [UInt8.ofNat b]) (by
      have := S.Sg.of_own hown13
      show S.Sg _ _ 1 _ (X ++ [UInt8.ofNat b]).length (bytesV (X ++ [UInt8.ofNat b]))
      rw [List.length_append, LX.out]
      exact this) (fun b h => h.2) (by rw [List.length_append, LX.out]; simp))
    rw [HN4.out] at HP13
    clear hown12 hgrow13 hown13 hb12 hle12
    go_wp2_with fail
    refine HP13.out.mono ?_
    rintro r w14 ⟨v14, rfl, hs14, hb14⟩
    obtain ⟨A14, cap14, rfl, hc14⟩ := hs14.form
    generalize parseF (X ++ [UInt8.ofNat b]) = g14 at *
    have hb14' : Below w2.heap.size w2 w14 := hb13.trans (hb14.mono hb13.size)
    have hb15 := hb14'.alloc hb14'.size (.cells (pfC g14 A14 cap14).toArray 25)
    have hb16 := hb2'.trans (hb15.mono hb2'.size)
    clear HP13 hs14 hb14 hb13 hb14' hb15 hc14
    go_wp2
    go_ret
    exact ⟨rfl, hb16⟩
  · have t1 : (50 : Int) < (f.body.length : Int) := by omega
    go_enter Try.func6, Try.ntmps6
    go_wp2_with fail
    refine HA.out.mono ?_
    rintro r w1 ⟨rfl, hb1⟩
    have c3 := (P0.step hb1).cell 3 _ rfl
    have hb1' := below_two hb0 hb1
    go_wp2
    go_ret
    exact ⟨rfl, hb1'⟩

end Go.Proofs.Ytgfnjineojihjaa
