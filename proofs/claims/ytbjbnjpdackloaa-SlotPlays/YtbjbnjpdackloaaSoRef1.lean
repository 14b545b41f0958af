/-
  Walks of the document's slots: May, One, Load.
-/
import Derived.Test.YtbjbnjpdackloaaSoDds
import Derived.Test.YtbjbnjpdackloaaJD
namespace Go.Proofs.Ytbjbnjpdackloaa
open Go.RowKit

set_option maxRecDepth 100000 in
set_option maxHeartbeats 2000000 in
theorem rmay8 (w : World) (A B C : Option Addr) (n a m b k c : Nat) (first size : Int) (hn : n ≤ 1024) (hf0 : -9223372036854775808 ≤ first) (hf1 : first ≤ 9223372036854775807) (hm0 : -9223372036854775808 ≤ size) (hm1 : size ≤ 9223372036854775807) :
    Calls Try.prog 35 #[.agg #[.slice A n a, .slice B m b, .slice C k c], .int .i64 first, .int .i64 size] w fun e w' => e = .returned (.bool (fitsB n first size)) ∧ Below w.heap.size w w' := by
  have hb : Below w.heap.size w (w.alloc (.cells #[.slice A n a, .slice B m b, .slice C k c] 32)) := (Below.refl _ _).alloc (Nat.le_refl _) _
  by_cases h1 : 0 ≤ first
  · by_cases h2 : 1 ≤ size
    · by_cases h3 : first ≤ 1024
      · by_cases h4 : size ≤ 1024
        · have HR := Lib.hid (show fitsB n first size = decide (first + 2 * size ≤ (n : Int)) by unfold fitsB; rw [decide_eq_decide]; omega)
          go_enter Try.func35, Try.ntmps35
          go_wp2
          go_ret
          exact ⟨ret_v (by rw [HR.out]; rfl), hb⟩
        · have HR := Lib.hid (show fitsB n first size = false from decide_eq_false (by omega))
          go_enter Try.func35, Try.ntmps35
          go_wp2
          go_ret
          exact ⟨ret_v (by rw [HR.out]; rfl), hb⟩
      · have HR := Lib.hid (show fitsB n first size = false from decide_eq_false (by omega))
        go_enter Try.func35, Try.ntmps35
        go_wp2
        go_ret
        exact ⟨ret_v (by rw [HR.out]; rfl), hb⟩
    · have HR := Lib.hid (show fitsB n first size = false from decide_eq_false (by omega))
      go_enter Try.func35, Try.ntmps35
      go_wp2
      go_ret
      exact ⟨ret_v (by rw [HR.out]; rfl), hb⟩
  · have HR := Lib.hid (show fitsB n first size = false from decide_eq_false (by omega))
    go_enter Try.func35, Try.ntmps35
    go_wp2
    go_ret
    exact ⟨ret_v (by rw [HR.out]; rfl), hb⟩

def rTell (o : Option (Nat × List UInt8)) : Value := .tuple #[.int .u32 (oG o : Int), .string ⟨(oB o).toArray⟩, .bool o.isSome]

set_option maxRecDepth 100000 in
set_option maxHeartbeats 2000000 in
theorem rone_out (x : Value) (d : D.Dk) (w : World) (F : Nat → Prop) (h : Rd w F x d) (hd : d.secs.length ≤ 1024) (first size which : Int) (hf0 : -9223372036854775808 ≤ first) (hf1 : first ≤ 9223372036854775807) (hm0 : -9223372036854775808 ≤ size) (hm1 : size ≤ 9223372036854775807) (hno : fitsB d.secs.length first size = false) :
    Calls Try.prog 17 #[x, .int .i64 first, .int .i64 size, .int .i64 which] w fun e w' => e = .returned (rTell none) ∧ Below w.heap.size w w' := by
  obtain ⟨A1, c1, A2, c2, A3, c3, rfl⟩ := h.form
  clear h
  have P0 := Bk.new w [.slice A1 d.secs.length c1, .slice A2 d.row.length c2, .slice A3 d.row.length c3] 32 rfl
  have hb0 : Below w.heap.size w (w.alloc (.cells #[.slice A1 d.secs.length c1, .slice A2 d.row.length c2, .slice A3 d.row.length c3] 32)) := (Below.refl _ _).alloc (Nat.le_refl _) _
  have hz0 : (w.alloc (.cells #[.slice A1 d.secs.length c1, .slice A2 d.row.length c2, .slice A3 d.row.length c3] 32)).heap.size = w.heap.size + 1 := by simp
  have HM := Lib.hid (rmay8 (w.alloc (.cells #[.slice A1 d.secs.length c1, .slice A2 d.row.length c2, .slice A3 d.row.length c3] 32)) A1 A2 A3 d.secs.length c1 d.row.length c2 d.row.length c3 first size hd hf0 hf1 hm0 hm1)
  rw [hno] at HM
  clear hno
  go_enter Try.func17, Try.ntmps17
  go_wp2_with fail
  refine HM.out.mono ?_
  rintro e w1 ⟨rfl, hb1⟩
  go_wp2
  go_ret3
  exact ⟨rfl, hb0.trans (hb1.mono (by omega))⟩

set_option maxRecDepth 100000 in
set_option maxHeartbeats 2000000 in
theorem rone_neg (x : Value) (d : D.Dk) (w : World) (F : Nat → Prop) (h : Rd w F x d) (hd : d.secs.length ≤ 1024) (first size which : Int) (hf0 : -9223372036854775808 ≤ first) (hf1 : first ≤ 9223372036854775807) (hm0 : -9223372036854775808 ≤ size) (hm1 : size ≤ 9223372036854775807) (hno : fitsB d.secs.length first size = true) (hw : which < 0) :
    Calls Try.prog 17 #[x, .int .i64 first, .int .i64 size, .int .i64 which] w fun e w' => e = .returned (rTell none) ∧ Below w.heap.size w w' := by
  obtain ⟨A1, c1, A2, c2, A3, c3, rfl⟩ := h.form
  clear h
  have P0 := Bk.new w [.slice A1 d.secs.length c1, .slice A2 d.row.length c2, .slice A3 d.row.length c3] 32 rfl
  have hb0 : Below w.heap.size w (w.alloc (.cells #[.slice A1 d.secs.length c1, .slice A2 d.row.length c2, .slice A3 d.row.length c3] 32)) := (Below.refl _ _).alloc (Nat.le_refl _) _
  have hz0 : (w.alloc (.cells #[.slice A1 d.secs.length c1, .slice A2 d.row.length c2, .slice A3 d.row.length c3] 32)).heap.size = w.heap.size + 1 := by simp
  have HM := Lib.hid (rmay8 (w.alloc (.cells #[.slice A1 d.secs.length c1, .slice A2 d.row.length c2, .slice A3 d.row.length c3] 32)) A1 A2 A3 d.secs.length c1 d.row.length c2 d.row.length c3 first size hd hf0 hf1 hm0 hm1)
  rw [hno] at HM
  clear hno
  go_enter Try.func17, Try.ntmps17
  go_wp2_with fail
  refine HM.out.mono ?_
  rintro e w1 ⟨rfl, hb1⟩
  go_wp2
  go_ret3
  exact ⟨rfl, hb0.trans (hb1.mono (by omega))⟩

set_option maxRecDepth 100000 in
set_option maxHeartbeats 2000000 in
theorem rone_big (x : Value) (d : D.Dk) (w : World) (F : Nat → Prop) (h : Rd w F x d) (hd : d.secs.length ≤ 1024) (first size which : Int) (hf0 : -9223372036854775808 ≤ first) (hf1 : first ≤ 9223372036854775807) (hm0 : -9223372036854775808 ≤ size) (hm1 : size ≤ 9223372036854775807) (hno : fitsB d.secs.length first size = true) (hw : 1 < which) :
    Calls Try.prog 17 #[x, .int .i64 first, .int .i64 size, .int .i64 which] w fun e w' => e = .returned (rTell none) ∧ Below w.heap.size w w' := by
  obtain ⟨A1, c1, A2, c2, A3, c3, rfl⟩ := h.form
  clear h
  have P0 := Bk.new w [.slice A1 d.secs.length c1, .slice A2 d.row.length c2, .slice A3 d.row.length c3] 32 rfl
  have hb0 : Below w.heap.size w (w.alloc (.cells #[.slice A1 d.secs.length c1, .slice A2 d.row.length c2, .slice A3 d.row.length c3] 32)) := (Below.refl _ _).alloc (Nat.le_refl _) _
  have hz0 : (w.alloc (.cells #[.slice A1 d.secs.length c1, .slice A2 d.row.length c2, .slice A3 d.row.length c3] 32)).heap.size = w.heap.size + 1 := by simp
  have HM := Lib.hid (rmay8 (w.alloc (.cells #[.slice A1 d.secs.length c1, .slice A2 d.row.length c2, .slice A3 d.row.length c3] 32)) A1 A2 A3 d.secs.length c1 d.row.length c2 d.row.length c3 first size hd hf0 hf1 hm0 hm1)
  rw [hno] at HM
  clear hno
  have hw0 : ¬ which < 0 := by omega
  go_enter Try.func17, Try.ntmps17
  go_wp2_with fail
  refine HM.out.mono ?_
  rintro e w1 ⟨rfl, hb1⟩
  go_wp2
  go_ret3
  exact ⟨rfl, hb0.trans (hb1.mono (by omega))⟩

set_option maxRecDepth 100000 in
set_option maxHeartbeats 8000000 in
theorem rone_yes (x : Value) (d : D.Dk) (w : World) (F : Nat → Prop) (hF : ∀ b, F b → b < w.heap.size) (h : Rd w F x d) (hfit : d.Fit) (hd : d.secs.length ≤ 1024) (hrow : d.row.length ≤ 1000000) {firstN sizeN which : Nat} (hm : Z.May d firstN sizeN) (hfn : firstN ≤ 1024) (hw : which < 2) :
    Calls Try.prog 17 #[x, .int .i64 (firstN : Int), .int .i64 (sizeN : Int), .int .i64 (which : Int)] w fun e w' => e = .returned (rTell (Z.one d firstN sizeN which)) ∧ Below w.heap.size w w' := by
  have hs1 := hm.s1
  have hs2 := hm.s2
  have hslot := hm.slot hw
  have hfe := fits_may hm
  have HMay := Lib.hid hm
  have hf0 : -9223372036854775808 ≤ (firstN : Int) := by omega
  have hf1 : (firstN : Int) ≤ 9223372036854775807 := by omega
  have hm0 : -9223372036854775808 ≤ (sizeN : Int) := by omega
  have hm1 : (sizeN : Int) ≤ 9223372036854775807 := by omega
  have hw0 : ¬ (which : Int) < 0 := by omega
  have hw1 : ¬ (1 : Int) < (which : Int) := by omega
  clear hm
  obtain ⟨A1, c1, A2, c2, A3, c3, rfl⟩ := h.form
  have HX := Lib.hid h
  clear h
  have P0 := Bk.new w [.slice A1 d.secs.length c1, .slice A2 d.row.length c2, .slice A3 d.row.length c3] 32 rfl
  have hb0 : Below w.heap.size w (w.alloc (.cells #[.slice A1 d.secs.length c1, .slice A2 d.row.length c2, .slice A3 d.row.length c3] 32)) := (Below.refl _ _).alloc (Nat.le_refl _) _
  have hz0 : (w.alloc (.cells #[.slice A1 d.secs.length c1, .slice A2 d.row.length c2, .slice A3 d.row.length c3] 32)).heap.size = w.heap.size + 1 := by simp
  have HM := Lib.hid (rmay8 (w.alloc (.cells #[.slice A1 d.secs.length c1, .slice A2 d.row.length c2, .slice A3 d.row.length c3] 32)) A1 A2 A3 d.secs.length c1 d.row.length c2 d.row.length c3 (firstN : Int) (sizeN : Int) hd hf0 hf1 hm0 hm1)
  rw [hfe] at HM
  obtain ⟨all, hall⟩ : ∃ all, all = Z.one d firstN sizeN which := ⟨_, rfl⟩
  rw [← hall]
  have HAll := Lib.hid hall
  obtain ⟨bs, hbs⟩ : ∃ bs, bs = Z.at_ firstN sizeN which := ⟨_, rfl⟩
  have hbs2 : bs ≤ 2048 := by rw [hbs]; unfold Z.at_; rcases (show which = 0 ∨ which = 1 by omega) with rfl | rfl <;> omega
  have hmul : (sizeN : Int) * (which : Int) + (firstN : Int) = (bs : Int) := by rw [hbs]; unfold Z.at_; rcases (show which = 0 ∨ which = 1 by omega) with rfl | rfl <;> omega
  obtain ⟨q, hq⟩ : ∃ q : Int, q = (sizeN : Int) * (which : Int) := ⟨_, rfl⟩
  have hq' : (sizeN : Int) * (which : Int) = q := hq.symm
  rw [← hq] at hmul
  have hsum : (firstN : Int) + q = (bs : Int) := by omega
  have hqb0 : 0 ≤ q := by rw [← hq']; exact Int.mul_nonneg (by omega) (by omega)
  have hqb1 : q ≤ 2048 := by omega
  have HBS := Lib.hid hbs
  rw [← hbs] at hslot
  clear hall hbs hfe hq hmul
  go_enter Try.func17, Try.ntmps17
  go_wp2_with fail
  refine HM.out.mono ?_
  rintro e w1 ⟨rfl, hb1⟩
  have P1 := P0.step hb1
  have hbw1 := hb0.trans (hb1.mono (by omega))
  clear HM P0 hb0 hb1 hz0
  go_wp2_with fail
  go_loopw [11, 12, 13] (fun bd ge i wr => ∃ (k e : Nat) (body : List UInt8), k ≤ sizeN ∧ i = .int .i64 (k : Int) ∧ ge = .int .u32 (e : Int) ∧ bd = .string ⟨body.toArray⟩ ∧ body.length ≤ 50 * k ∧ Below w.heap.size w wr ∧ Bk wr w.heap.size [.slice A1 d.secs.length c1, .slice A2 d.row.length c2, .slice A3 d.row.length c3] ∧ (k = 0 → body = [] ∧ e = 0) ∧ (k ≠ 0 → (e ≠ 0 ∧ e % 2 = which) ∧ e < 4294967296 ∧ (Z.rest d bs e (sizeN - k) k body).map (fun b => (e, b)) = all)) (fun _ _ i _ => sizeN - (intOf i).toNat)
  case atStart => exact ⟨0, 0, [], by omega, rfl, rfl, rfl, by simp, hbw1, P1, fun _ => ⟨rfl, rfl⟩, fun g => absurd rfl g⟩
  case round =>
    clear P1 hbw1
    obtain ⟨k, e, body, hk, rfl, rfl, rfl, hbl, hbw, P, h0, hn0⟩ := hrel
    have H0 := Lib.hid h0
    have HN0 := Lib.hid hn0
    clear h0 hn0
    by_cases hlt : k < sizeN
    · have hlt' : (k : Int) < (sizeN : Int) := by omega
      obtain ⟨ix, hix⟩ : ∃ ix, ix = bs + k := ⟨_, rfl⟩
      have hix' : (bs : Int) + (k : Int) = (ix : Int) := by omega
      have hixl : ix < d.secs.length := by omega
      have hixb : (ix : Int) ≤ 4096 := by omega
      have hixb' : (bs : Int) + (k : Int) ≤ 4096 := by omega
      have hixb'' : (0 : Int) ≤ (bs : Int) + (k : Int) := by omega
      have p0 := P.cell 0 _ rfl
      have p1 := P.cell 1 _ rfl
      have p2 := P.cell 2 _ rfl
      have hRd := rread_any _ d (ix : Int) wr F (fun b g => Nat.lt_of_lt_of_le (hF b g) hbw.size) (HX.out.below hbw hF) (by omega) (by omega)
      rw [rdV, if_pos ⟨by omega, by omega⟩, Int.toNat_natCast] at hRd
      have HRd := Lib.hid hRd
      obtain ⟨l, hl⟩ : ∃ l, l = d.read ix := ⟨_, rfl⟩
      rw [← hl] at HRd
      have hll : l.length ≤ 64 := by rw [hl]; exact Nat.le_of_eq (hfit.read_len hixl)
      have HOK0 : Hid (nxOk d bs which k e = okB (parseE l) (parseF l) (nxE d bs k e) which k) := Lib.hid (by unfold nxOk; rw [hl, hix])
      have HNE : Hid (nxE d bs k e = if k = 0 then (parseF l).epoch else e) := Lib.hid (by unfold nxE; rw [hl, hix])
      have hpok := parseF_ok l
      have HG0 : Hid (nxOk d bs which k e = true → Q.good d ((bs + k : Nat) : Int) (nxE d bs k e) k (decide (k = 0)) = some (parseF l)) := Lib.hid (fun g => by have := (ok_good (by omega) g).1; rw [← hix, ← hl] at this; rw [← hix]; exact this)
      have HP := Lib.hid P
      clear hRd hl P hix
      go_wp2_with fail
      refine HRd.out.mono ?_
      rintro e1 w2 ⟨rfl, hb2⟩
      clear p0 p1 p2
      have hPs := rparse_any ⟨l.toArray⟩ w2 (by show l.length ≤ 1000000; omega)
      rw [show (⟨l.toArray⟩ : ByteArray).data.toList = l from rfl, psV_eq] at hPs
      have hbw2 := below_two hbw hb2
      have HP2 := Lib.hid (HP.out.step hb2)
      obtain ⟨f, hf⟩ : ∃ f, f = parseF l := ⟨_, rfl⟩
      obtain ⟨E, hE⟩ : ∃ E, E = parseE l := ⟨_, rfl⟩
      rw [← hf, ← hE] at hPs
      rw [← hf] at hpok HG0 HNE
      rw [← hf, ← hE] at HOK0
      obtain ⟨ep, sq, fl, bd⟩ := f
      have hne : ep < 4294967296 := hpok.1.e
      have hns : sq < 4294967296 := hpok.1.s
      have hfl : bd.length ≤ 50 := hpok.2
      have hPs : Calls Try.prog 37 #[.string ⟨l.toArray⟩] w2 fun e w' => e = .returned (.tuple #[.agg #[.int .u32 (ep : Int), .int .u32 (sq : Int), .int .u8 (fl.toNat : Int), .string ⟨bd.toArray⟩], .int .i64 E]) ∧ Below w2.heap.size w2 w' := hPs
      have HNE : Hid (nxE d bs k e = if k = 0 then ep else e) := HNE
      have HPs := Lib.hid hPs
      clear HRd hPs hf hE hb2 HP hpok
      go_wp2_with fail
      refine HPs.out.mono ?_
      rintro e1 w3 ⟨rfl, hb3⟩
      have hbw3 := below_two hbw2 hb3
      have hba : Below w3.heap.size w3 (w3.alloc (.cells #[.int .u32 (ep : Int), .int .u32 (sq : Int), .int .u8 (fl.toNat : Int), .string ⟨bd.toArray⟩] 84)) := (Below.refl _ _).alloc (Nat.le_refl _) _
      have hbw4 := below_two hbw3 hba
      have P4 := (HP2.out.step hb3).step hba
      clear HPs HP2 hb3 hba
      obtain ⟨c, hc⟩ : ∃ c, c = (fl.toNat % 2 == 1) := ⟨_, rfl⟩
      have hc' : (((fl.toNat : Int) % 2) == 1) = c := by rw [hc, Bool.eq_iff_iff]; simp; omega
      have HC := Lib.hid hc
      obtain ⟨g, hg⟩ : ∃ g, g = (fl.toNat / 2 % 2 == 1) := ⟨_, rfl⟩
      have hg' : ((fl.toNat : Int) / 2 % 2 == 1) = g := by rw [hg, Bool.eq_iff_iff]; simp; omega
      have HGG := Lib.hid hg
      have HFl := Lib.hid fl.toNat_lt
      clear hc hg
      by_cases hk0 : k = 0
      · obtain ⟨hb0, he0⟩ := H0.out hk0
        subst hb0 he0 hk0
        have HNE2 : Hid (nxE d bs 0 0 = ep) := Lib.hid (by rw [HNE.out, if_pos rfl])
        have HOK : Hid (okB E ⟨ep, sq, fl, bd⟩ ep which 0 = true → Q.good d ((bs + 0 : Nat) : Int) ep 0 (decide (0 = 0)) = some ⟨ep, sq, fl, bd⟩ ∧ ((ep ≠ 0 ∧ ep % 2 = which) ∧ ep < 4294967296) ∧ (Z.rest d bs ep (sizeN - 0) 0 []).map (fun b => (ep, b)) = all) := Lib.hid (fun gg => by
          have g0 : nxOk d bs which 0 0 = true := by rw [HOK0.out, HNE2.out]; exact gg
          have g1 := HG0.out g0
          rw [HNE2.out] at g1
          have g3 := of_decide_eq_true gg
          refine ⟨g1, ⟨g3.2.2.1, hne⟩, ?_⟩
          have g2 := one_begin HMay.out hw (e := 0) (by rw [← HBS.out]; exact g0)
          rw [← HBS.out, HNE2.out, ← HAll.out] at g2
          exact g2)
        have HNO : Hid (okB E ⟨ep, sq, fl, bd⟩ ep which 0 = false → all = none) := Lib.hid (fun gg => by
          rw [HAll.out]
          refine one_none HMay.out hw (e := 0) ?_
          rw [← HBS.out, HOK0.out, HNE2.out]
          exact gg)
        rw [show ((0 : Nat) : Int) = 0 from rfl] at *
        by_cases hE0 : E = 0
        · subst hE0
          by_cases he0 : ep = 0
          · subst he0
            have HNo := Lib.hid (HNO.out (decide_eq_false (fun g => g.2.2.1.1 rfl)))
            go_wp2_with fail
            go_ret3
            exact ⟨ret_v (by rw [HNo.out]; rfl), hbw4⟩
          · have he0' : ((ep : Int) == 0) = false := by simp; omega
            have he02 : ¬ (ep : Int) = 0 := by omega
            obtain ⟨r, hr⟩ : ∃ r, r = ep % 2 := ⟨_, rfl⟩
            have m1 : (ep : Int).tmod 2 = (r : Int) := by rw [Int.tmod_eq_emod_of_nonneg (by omega)]; omega
            have m2 : (ep : Int) % 2 = (r : Int) := by omega
            by_cases hrw : r = which
            · have hrw' : (r : Int) = (which : Int) := by omega
              have HRW : Hid (ep % 2 = which) := Lib.hid (by rw [← hr]; exact hrw)
              clear hr hrw
              have HCE : Hid (ep = ep) := Lib.hid rfl
              by_cases hcs : sq = 0
              · subst hcs
                have HCS : Hid (0 = 0) := Lib.hid rfl
                cases c with
                | false =>
                  have HNo := Lib.hid (HNO.out (decide_eq_false (fun g => by have := HC.out.trans g.2.2.2.2; revert this; decide)))
                  go_wp2_with fail
                  go_ret3
                  exact ⟨ret_v (by rw [HNo.out]; rfl), hbw4⟩
                | true =>
                  have HOk := Lib.hid (HOK.out (decide_eq_true ⟨rfl, HCE.out, ⟨he0, HRW.out⟩, HCS.out, HC.out.symm.trans (by rfl)⟩))
                  cases g with
                  | true =>
                    have HAl := Lib.hid (one_last HOk.out.2.2 hlt HOk.out.1 (beq_last HGG.out.symm))
                    go_wp2_with fail
                    go_ret3
                    refine ⟨ret_v ?_, hbw4⟩
                    rw [HAl.out]
                    show Value.tuple #[_, .string (⟨([] : List UInt8).toArray⟩ ++ ⟨bd.toArray⟩), _] = rTell (some (ep, [] ++ bd))
                    rw [ba_append]
                    rfl
                  | false =>
                    have HMo := Lib.hid (one_more HOk.out.2.2 hlt HOk.out.1 (beq_more HGG.out.symm))
                    go_wp2_with fail
                    go_roundw
                    case rel => exact ⟨0 + 1, ep, [] ++ bd, by omega, by go_num, rfl, by rw [← ba_append], by simp; omega, hbw4, P4, fun g => absurd g (by omega), fun _ => ⟨HOk.out.2.1.1, HOk.out.2.1.2, HMo.out⟩⟩
                    case measure => simp [intOf]; omega
              · have hcs' : ((sq : Int) == 0) = false := by simp; omega
                have hcs2 : ¬ (sq : Int) = 0 := by omega
                have HNo := Lib.hid (HNO.out (decide_eq_false (fun g => hcs g.2.2.2.1)))
                go_wp2_with fail
                go_ret3
                exact ⟨ret_v (by rw [HNo.out]; rfl), hbw4⟩
            · have hrw' : ((r : Int) == (which : Int)) = false := by simp; omega
              have hrw2 : ¬ (r : Int) = (which : Int) := by omega
              have HNo := Lib.hid (HNO.out (decide_eq_false (fun g => hrw (by rw [hr]; exact g.2.2.1.2))))
              clear hr hrw
              go_wp2_with fail
              go_ret3
              exact ⟨ret_v (by rw [HNo.out]; rfl), hbw4⟩
        · have hE' : (E == 0) = false := by simpa using hE0
          have HNo := Lib.hid (HNO.out (decide_eq_false (fun g => hE0 g.1)))
          go_wp2_with fail
          go_ret3
          exact ⟨ret_v (by rw [HNo.out]; rfl), hbw4⟩
      · have hk0' : ((k : Int) == 0) = false := by simp; omega
        have hk0'' : ¬ (k : Int) = 0 := by omega
        obtain ⟨hbel, he32, heq⟩ := HN0.out hk0
        have HNE2 : Hid (nxE d bs k e = e) := Lib.hid (by rw [HNE.out, if_neg hk0])
        have HOK : Hid (okB E ⟨ep, sq, fl, bd⟩ e which k = true → Q.good d ((bs + k : Nat) : Int) e k (decide (k = 0)) = some ⟨ep, sq, fl, bd⟩ ∧ ((e ≠ 0 ∧ e % 2 = which) ∧ e < 4294967296) ∧ (Z.rest d bs e (sizeN - k) k body).map (fun b => (e, b)) = all) := Lib.hid (fun gg => by
          have g0 : nxOk d bs which k e = true := by rw [HOK0.out, HNE2.out]; exact gg
          have g1 := HG0.out g0
          rw [HNE2.out] at g1
          exact ⟨g1, ⟨hbel, he32⟩, heq⟩)
        have HNO : Hid (okB E ⟨ep, sq, fl, bd⟩ e which k = false → all = none) := Lib.hid (fun gg => by
          refine one_stop heq ?_
          have g0 : nxOk d bs which k e = false := by rw [HOK0.out, HNE2.out]; exact gg
          have := not_good g0 (by rw [HNE2.out]; exact hbel)
          rw [HNE2.out] at this
          exact this)
        clear heq hbel
        by_cases hE0 : E = 0
        · subst hE0
          by_cases he0 : e = 0
          · subst he0
            have HNo := Lib.hid (HNO.out (decide_eq_false (fun g => g.2.2.1.1 rfl)))
            go_wp2_with fail
            go_ret3
            exact ⟨ret_v (by rw [HNo.out]; rfl), hbw4⟩
          · have he0' : ((e : Int) == 0) = false := by simp; omega
            have he02 : ¬ (e : Int) = 0 := by omega
            obtain ⟨r, hr⟩ : ∃ r, r = e % 2 := ⟨_, rfl⟩
            have m1 : (e : Int).tmod 2 = (r : Int) := by rw [Int.tmod_eq_emod_of_nonneg (by omega)]; omega
            have m2 : (e : Int) % 2 = (r : Int) := by omega
            by_cases hrw : r = which
            · have hrw' : (r : Int) = (which : Int) := by omega
              have HRW : Hid (e % 2 = which) := Lib.hid (by rw [← hr]; exact hrw)
              clear hr hrw
              by_cases hce : ep = e
              · obtain rfl : e = ep := hce.symm
                have HCE : Hid (e = e) := Lib.hid rfl
                by_cases hcs : sq = k
                · obtain rfl : k = sq := hcs.symm
                  have HCS : Hid (k = k) := Lib.hid rfl
                  cases c with
                  | false =>
                    have HOk := Lib.hid (HOK.out (decide_eq_true ⟨rfl, HCE.out, ⟨he0, HRW.out⟩, HCS.out, HC.out.symm.trans (by symm; exact decide_eq_false hk0)⟩))
                    cases g with
                    | true =>
                      have HAl := Lib.hid (one_last HOk.out.2.2 hlt HOk.out.1 (beq_last HGG.out.symm))
                      go_wp2_with fail
                      go_ret3
                      refine ⟨ret_v ?_, hbw4⟩
                      rw [HAl.out]
                      show Value.tuple #[_, .string (⟨body.toArray⟩ ++ ⟨bd.toArray⟩), _] = rTell (some (e, body ++ bd))
                      rw [ba_append]
                      rfl
                    | false =>
                      have HMo := Lib.hid (one_more HOk.out.2.2 hlt HOk.out.1 (beq_more HGG.out.symm))
                      go_wp2_with fail
                      go_roundw
                      case rel => exact ⟨k + 1, e, body ++ bd, by omega, by go_num, rfl, by rw [← ba_append], by simp; omega, hbw4, P4, fun g => absurd g (by omega), fun _ => ⟨HOk.out.2.1.1, HOk.out.2.1.2, HMo.out⟩⟩
                      case measure => simp [intOf]; omega
                  | true =>
                    have HNo := Lib.hid (HNO.out (decide_eq_false (fun g => by have := HC.out.trans g.2.2.2.2; rw [decide_eq_false hk0] at this; cases this)))
                    go_wp2_with fail
                    go_ret3
                    exact ⟨ret_v (by rw [HNo.out]; rfl), hbw4⟩
                · have hcs' : ((sq : Int) == (k : Int)) = false := by simp; omega
                  have hcs2 : ¬ (sq : Int) = (k : Int) := by omega
                  have HNo := Lib.hid (HNO.out (decide_eq_false (fun g => hcs g.2.2.2.1)))
                  go_wp2_with fail
                  go_ret3
                  exact ⟨ret_v (by rw [HNo.out]; rfl), hbw4⟩
              · have hce' : ((ep : Int) == (e : Int)) = false := by simp; omega
                have hce2 : ¬ (ep : Int) = (e : Int) := by omega
                have HNo := Lib.hid (HNO.out (decide_eq_false (fun g => hce g.2.1)))
                go_wp2_with fail
                go_ret3
                exact ⟨ret_v (by rw [HNo.out]; rfl), hbw4⟩
            · have hrw' : ((r : Int) == (which : Int)) = false := by simp; omega
              have hrw2 : ¬ (r : Int) = (which : Int) := by omega
              have HNo := Lib.hid (HNO.out (decide_eq_false (fun g => hrw (by rw [hr]; exact g.2.2.1.2))))
              clear hr hrw
              go_wp2_with fail
              go_ret3
              exact ⟨ret_v (by rw [HNo.out]; rfl), hbw4⟩
        · have hE' : (E == 0) = false := by simpa using hE0
          have HNo := Lib.hid (HNO.out (decide_eq_false (fun g => hE0 g.1)))
          go_wp2_with fail
          go_ret3
          exact ⟨ret_v (by rw [HNo.out]; rfl), hbw4⟩
    · obtain rfl : k = sizeN := by omega
      have hlt' : ¬ (k : Int) < (k : Int) := by omega
      have HNo : Hid (all = none) := Lib.hid (one_out (HN0.out (by omega)).2.2 (Nat.le_refl _))
      go_wp2_with fail
      go_ret3
      exact ⟨ret_v (by rw [HNo.out]; rfl), hbw⟩

theorem rone8 (x : Value) (d : D.Dk) (w : World) (F : Nat → Prop) (hF : ∀ b, F b → b < w.heap.size) (h : Rd w F x d) (hfit : d.Fit) (hd : d.secs.length ≤ 1024) (hrow : d.row.length ≤ 1000000) (first size which : Int) (hf0 : -9223372036854775808 ≤ first) (hf1 : first ≤ 9223372036854775807) (hm0 : -9223372036854775808 ≤ size) (hm1 : size ≤ 9223372036854775807) :
    Calls Try.prog 17 #[x, .int .i64 first, .int .i64 size, .int .i64 which] w fun e w' => e = .returned (rTell (oneI d first size which)) ∧ Below w.heap.size w w' := by
  by_cases hf : fitsB d.secs.length first size = true
  · by_cases h0 : which < 0
    · rw [oneI, if_neg (by omega)]
      exact rone_neg x d w F h hd first size which hf0 hf1 hm0 hm1 hf h0
    · by_cases h1 : 1 < which
      · rw [oneI, if_neg (by omega)]
        exact rone_big x d w F h hd first size which hf0 hf1 hm0 hm1 hf h1
      · obtain ⟨f, s, rfl, rfl, hM, hf10⟩ := may_of hd hf
        obtain ⟨k, rfl⟩ := Int.eq_ofNat_of_zero_le (show 0 ≤ which by omega)
        rw [oneI_may hM (by omega)]
        exact rone_yes x d w F hF h hfit hd hrow hM hf10 (by omega)
  · rw [oneI, if_neg (fun g => hf g.1)]
    exact rone_out x d w F h hd first size which hf0 hf1 hm0 hm1 (by simpa using hf)

end Go.Proofs.Ytbjbnjpdackloaa
