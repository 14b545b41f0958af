/-
  Walks of layer deps' laws: DepsPlays.
-/
import Derived.Test.YthbnbifagenpiaaDpBelowW
namespace Go.Proofs.Ythbnbifagenpiaa
open Go.RowKit
section
variable {H : World → (Nat → Prop) → Value → List Dp.Wt → Prop}

/-- the object, the document's waits apart from it, and rows of numbers -/
structure PL (H : World → (Nat → Prop) → Value → List Dp.Wt → Prop) (w wr : World) (v vx : Value) (d : List Dp.Wt) (R : List Row12) : Prop where
  ob : Ob2 H w wr v vx d
  row : ∀ r ∈ R, ∃ G : Nat → Prop, SlN wr G r.1 r.2 ∧ ∀ b, G b → b < wr.heap.size
  bel : Below w.heap.size w wr

variable {w wr w2 : World} {v vx : Value} {d : List Dp.Wt} {R : List Row12}
theorem PL.low (K : DepsOk H) (h : PL H w wr v vx d R) (hb : Below wr.heap.size wr w2) : PL H w w2 v vx d R := by
  obtain ⟨⟨F, h1, h2, h3⟩, hr, hl⟩ := h
  exact ⟨⟨F, K.below h1 hb, h2, (S.Sg.below h3 hb (fun b g => g.1)).wider (fun b g => ⟨Nat.lt_of_lt_of_le g.1 hb.size, g.2⟩)⟩, fun r q => by
    obtain ⟨G, g1, g2⟩ := hr r q
    exact ⟨G, S.Sg.below g1 hb g2, fun b g => Nat.lt_of_lt_of_le (g2 b g) hb.size⟩, hl.trans (hb.mono hl.size)⟩
theorem PL.push (h : PL H w wr v vx d R) (r : Row12) {G : Nat → Prop} (hr : SlN wr G r.1 r.2) (hG : ∀ b, G b → b < wr.heap.size) : PL H w wr v vx d (r :: R) :=
  ⟨h.ob, fun r' q => by
    rcases List.mem_cons.1 q with rfl | q
    · exact ⟨G, hr, hG⟩
    · exact h.row r' q, h.bel⟩
theorem PL.less (h : PL H w wr v vx d R) {R' : List Row12} (hR : ∀ r ∈ R', r ∈ R) : PL H w wr v vx d R' := ⟨h.ob, fun r q => h.row r (hR r q), h.bel⟩
theorem PL.tail {r : Row12} (h : PL H w wr v vx d (r :: R)) : PL H w wr v vx d R := h.less (fun _ q => List.mem_cons_of_mem _ q)
theorem PL.form {vr : Value} {l : List Int} (h : PL H w wr v vx d ((vr, l) :: R)) : ∃ A c, vr = .slice A l.length c := by
  obtain ⟨G, hs, _⟩ := h.row _ (List.mem_cons_self ..)
  obtain ⟨A, c, e, _⟩ := num_form hs
  exact ⟨A, c, e⟩
theorem PL.at {a : Addr} {c : Nat} {l : List Int} (i : Nat) (hi : i < l.length) (h : PL H w wr v vx d R) (hr : (.slice (some a) l.length c, l) ∈ R) : wr.cell? (a.add i) = some (.int .i64 l[i]) := by
  obtain ⟨G, hs, _⟩ := h.row _ hr
  obtain ⟨a', c', e', _, _, hx⟩ := num_nth hs i hi
  cases e'
  exact hx
theorem PL.nth {A : Option Addr} {c : Nat} {l : List Int} (i : Nat) (hi : i < l.length) (h : PL H w wr v vx d R) (hr : (.slice A l.length c, l) ∈ R) : ∃ a, A = some a := by
  obtain ⟨G, hs, _⟩ := h.row _ hr
  obtain ⟨a', c', e', _⟩ := num_nth hs i hi
  cases e'
  exact ⟨_, rfl⟩
theorem PL.all (K : DepsOk H) (h : PL H w wr v vx d R) (hl : d.length ≤ 100) :
    Calls Try.prog 14 #[v] wr fun e w' => ∃ v', e = .returned v' ∧ PL H w w' v vx d ((v', Dp.all d) :: R) := by
  obtain ⟨F, h1, _⟩ := h.ob
  refine (K.all h1 (by omega)).mono (fun e w' hh => ?_)
  obtain ⟨v', e, g1, g2⟩ := hh
  exact ⟨v', e, (h.low K g2).push _ g1 (fun b q => q.2)⟩
theorem PL.waits (K : DepsOk H) (h : PL H w wr v vx d R) (hl : d.length ≤ 100) (o : Int) (hi : I64 o) :
    Calls Try.prog 15 #[v, .int .i64 o] wr fun e w' => ∃ v', e = .returned v' ∧ PL H w w' v vx d ((v', Dp.waits d o) :: R) := by
  obtain ⟨F, h1, _⟩ := h.ob
  refine (K.waits h1 (by omega) o hi).mono (fun e w' hh => ?_)
  obtain ⟨v', e, g1, g2⟩ := hh
  exact ⟨v', e, (h.low K g2).push _ g1 (fun b q => q.2)⟩
theorem PL.rall (K : DepsOk H) (h : PL H w wr v vx d R) (hl : d.length ≤ 100) :
    Calls Try.prog 12 #[vx] wr fun e w' => ∃ v', e = .returned v' ∧ PL H w w' v vx d ((v', Dp.all d) :: R) := by
  obtain ⟨F, _, _, h3⟩ := h.ob
  refine (rall12_any h3 (fun b q => q.1) (by omega)).mono (fun e w' hh => ?_)
  obtain ⟨v', e, g1, g2⟩ := hh
  exact ⟨v', e, (h.low K g2).push _ g1 (fun b q => q.2)⟩
theorem PL.rwaits (K : DepsOk H) (h : PL H w wr v vx d R) (hl : d.length ≤ 100) (o : Int) :
    Calls Try.prog 16 #[vx, .int .i64 o] wr fun e w' => ∃ v', e = .returned v' ∧ PL H w w' v vx d ((v', Dp.waits d o) :: R) := by
  obtain ⟨F, _, _, h3⟩ := h.ob
  refine (rwaits12_any h3 (fun b q => q.1) (by omega) o).mono (fun e w' hh => ?_)
  obtain ⟨v', e, g1, g2⟩ := hh
  exact ⟨v', e, (h.low K g2).push _ g1 (fun b q => q.2)⟩
theorem PL.same (K : DepsOk H) {va vb : Value} {l : List Int} (h : PL H w wr v vx d R) (ha : (va, l) ∈ R) (hm : (vb, l) ∈ R) (hl : l.length ≤ 1000) :
    Calls Try.prog 13 #[va, vb] wr fun e w' => e = .returned (.bool true) ∧ PL H w w' v vx d R := by
  obtain ⟨G, hs, hG⟩ := h.row _ ha
  obtain ⟨G', hs', hG'⟩ := h.row _ hm
  have := rsame12_any (hs.wider (G := fun _ => True) (fun _ _ => trivial)) (hs'.wider (fun _ _ => trivial)) (Nat.le_trans hl (by omega)) (Nat.le_trans hl (by omega))
  refine this.mono (fun e w' hh => ⟨?_, h.low K hh.2⟩)
  rw [hh.1]
  simp

set_option maxRecDepth 100000 in
set_option maxHeartbeats 4000000 in
theorem DepsPlays_walk (K : DepsOk H) (w : World) (vd : Value) (ld : List Dd12) (G0 : Nat → Prop) (hD : Dds12 w G0 vd ld) (hG0 : ∀ b, G0 b → b < w.heap.size) :
    Calls Try.prog 3 #[vd] w fun e w' => e = .returned (.bool true) ∧ Below w.heap.size w w' := by
  have HK := Lib.hid K
  have HAw := Lib.hid (awake12_any K w)
  have HD := Lib.hid hD
  have HG := Lib.hid hG0
  have HNw := Lib.hid (fun W => K.new W)
  obtain ⟨Ad, capd, rfl, hcd⟩ := hD.form
  clear hD hcd hG0
  go_enter Try.func3, Try.ntmps3
  go_wp2_with (first
    | (go_at_call 9; refine HAw.out.mono ?_; rintro e w1 ⟨rfl, b1⟩; have HB1 := Lib.hid b1; clear b1)
    | (go_at_call 10; refine (HNw.out _).mono ?_; rintro e w2 ⟨v, rfl, hs2, b2⟩
       have HP2 : Hid (PL H w w2 v (.slice none 0 0) [] []) := Lib.hid ⟨⟨_, hs2, fun b q => Nat.le_trans HB1.out.size q.1, S.Sg.nil ..⟩, (fun r q => by cases q), HB1.out.trans (b2.mono HB1.out.size)⟩
       clear hs2 b2))
  go_loopw [5, 6] (fun vx vi wr => ∃ (i : Nat) (d : List Dp.Wt), i ≤ ld.length ∧ i ≤ 60 ∧ vi = .int .i64 (i : Int) ∧ Hid (d.length ≤ i) ∧ Hid (PL H w wr v vx d [])) (fun _ vi _ => ld.length - (intOf vi).toNat)
  case atStart => exact ⟨0, [], by omega, by omega, rfl, Lib.hid (Nat.le_refl _), HP2⟩
  case round =>
    clear HP2 HB1
    obtain ⟨i, d, hi, hi60, rfl, HL, HP⟩ := hrel
    by_cases hil : i < ld.length ∧ i < 60
    · obtain ⟨hil, hi6⟩ := hil
      have hil' : (i : Int) < (ld.length : Int) := by omega
      have hi6' : (i : Int) < 60 := by omega
      have hi0' : (0 : Int) ≤ (i : Int) := by omega
      obtain ⟨ad, _, ed, _, hGd, hok, y0, y1, y2⟩ := (HD.out.below HP.out.bel HG.out).nth i hil
      cases ed
      have HXa : Hid (∀ W, Below w.heap.size w W → W.cell? ⟨(ad.add (i * 3)).block, (ad.add (i * 3)).off + 1, none⟩ = some (.int .i64 ld[i].a)) := Lib.hid (fun W hb => by
        obtain ⟨a', _, e', _, _, _, _, q, _⟩ := (HD.out.below hb HG.out).nth i hil
        cases e'
        exact q)
      have HLd : Hid ((Dp.deedD d ld[i]).length ≤ i + 1) := Lib.hid (Nat.le_trans (Dp.deed_len _ _) (Nat.succ_le_succ HL.out))
      have HO := Lib.hid (HP.out.ob.did K HP.out.bel ld[i] hok (by have := HL.out; omega))
      have HIa := Lib.hid hok.a
      generalize ld[i] = Z at *
      obtain ⟨zk, za, zb⟩ := Z
      dsimp only at *
      generalize Dp.deedD d ⟨zk, za, zb⟩ = Y at *
      have HLa : Hid ((Dp.all Y).length ≤ 61) := Lib.hid (Nat.le_trans (Dp.all_len Y) (Nat.le_trans HLd.out (by omega)))
      have HLw : Hid (∀ x, (Dp.waits Y x).length ≤ 61) := Lib.hid (fun x => Nat.le_trans (Dp.waits_len Y x) (Nat.le_trans HLd.out (by omega)))
      clear HP HL hok
      have hy100 : Y.length ≤ 100 := by have := HLd.out; omega
      go_wp2_with (first
        | (go_at_call 11; refine HO.out.mono ?_; rintro e w3 ⟨vx3, rfl, h3, b3⟩
           have HP3 : Hid (PL H w w3 v vx3 Y []) := Lib.hid ⟨h3, (fun r q => by cases q), b3⟩
           have HI3 : Hid (∀ x ∈ Dp.all Y, I64 x) := Lib.hid (fun x hx => by
             obtain ⟨F, q1, _⟩ := h3
             exact Dp.all_i64 (HK.out.ok q1) (HK.out.rng q1) hx)
           clear h3 b3)
        | (go_at_call 12; refine (HP3.out.rall HK.out hy100).mono ?_; rintro e w4 ⟨v4, rfl, h4⟩
           have HP4 := Lib.hid h4
           obtain ⟨A4, c4, e4⟩ := h4.form
           subst e4
           clear h4))
      have HPd : Hid (PL H w w4.drew v vx3 Y [(.slice A4 (Dp.all Y).length c4, Dp.all Y)]) := Lib.hid (HP4.out.low HK.out (Below.drew (Below.refl _ _)))
      have HAl := Lib.hid (HPd.out.all HK.out hy100)
      have hSd := HXa.out _ HPd.out.bel
      go_region_held3 (fun w' => w'.cell? ⟨(ad.add (i * 3)).block, (ad.add (i * 3)).off + 1, none⟩ = some (.int .i64 za))
        (first | with_reducible assumption | go_keep)
        (first
          | (go_at_call 14
             (with_reducible refine HAl.out.mono ?_)
             rintro e w5 ⟨v5, rfl, h5⟩
             have HSm := Lib.hid (h5.same HK.out (List.mem_cons_self ..) (List.mem_cons_of_mem _ (List.mem_cons_self ..)) (Nat.le_trans HLa.out (by omega)))
             have hS5 := HXa.out _ h5.bel
             obtain ⟨A5, c5, e5⟩ := h5.form
             subst e5
             clear h5)
          | (go_at_call 13
             (with_reducible refine HSm.out.mono ?_)
             rintro e w6 ⟨rfl, h6⟩
             have hS6 := HXa.out _ h6.bel
             have HW6 := Lib.hid (h6.tail.waits HK.out hy100 za HIa.out)
             clear h6 HSm)
          | (go_at_call 15
             (with_reducible refine HW6.out.mono ?_)
             rintro e w7 ⟨v7, rfl, h7⟩
             have hS7 := HXa.out _ h7.bel
             have HW7 := Lib.hid (h7.rwaits HK.out hy100 za)
             obtain ⟨A7, c7, e7⟩ := h7.form
             subst e7
             clear h7)
          | (go_at_call 16
             (with_reducible refine HW7.out.mono ?_)
             rintro e w8 ⟨v8, rfl, h8⟩
             have hS8 := HXa.out _ h8.bel
             have HSn := Lib.hid (h8.same HK.out (List.mem_cons_of_mem _ (List.mem_cons_self ..)) (List.mem_cons_self ..) (Nat.le_trans (HLw.out za) (by omega)))
             obtain ⟨A8, c8, e8⟩ := h8.form
             subst e8
             clear h8)
          | (go_at_call 13
             (with_reducible refine HSn.out.mono ?_)
             rintro e w9 ⟨rfl, h9⟩
             have hS9 := HXa.out _ h9.bel
             have HP9 := Lib.hid h9.tail.tail
             clear h9 HSn))
      all_goals (go_wp2_with fail)
      clear HPd HAl hSd HP4 HP3 HO
      have hl61 := HLa.out
      generalize Dp.all Y = L at *
      go_loopw [10] (fun vk wr => ∃ k : Nat, k ≤ L.length ∧ vk = .int .i64 (k : Int) ∧ Hid (PL H w wr v vx3 Y [(.slice A4 L.length c4, L)])) (fun vk _ => L.length - (intOf vk).toNat)
      case atStart => exact ⟨0, by omega, rfl, HP9⟩
      case round =>
        clear HP9
        obtain ⟨k, hk, rfl, HPk⟩ := hrel
        by_cases hkl : k < L.length
        · have hkl' : (k : Int) < (L.length : Int) := by omega
          have hk0 : (0 : Int) ≤ (k : Int) := by omega
          obtain ⟨a4, rfl⟩ := HPk.out.nth k hkl (List.mem_cons_self ..)
          have HXk : Hid (∀ W R, PL H w W v vx3 Y R → (.slice (some a4) L.length c4, L) ∈ R → W.cell? (a4.add k) = some (.int .i64 L[k])) := Lib.hid (fun W R h hr => h.at k hkl hr)
          have HIk := Lib.hid (HI3.out _ (List.getElem_mem hkl))
          generalize L[k] = x at *
          go_wp2_with fail
          have HPd := Lib.hid (HPk.out.low HK.out (Below.drew (Below.refl wr.heap.size wr)))
          have HW6 := Lib.hid (HPd.out.waits HK.out hy100 x HIk.out)
          have hSd := HXk.out _ _ HPd.out (List.mem_cons_self ..)
          go_region_held3 (fun w' => w'.cell? (a4.add k) = some (.int .i64 x))
            (first | with_reducible assumption | go_keep)
            (first
              | (go_at_call 15
                 (with_reducible refine HW6.out.mono ?_)
                 rintro e w7 ⟨v7, rfl, h7⟩
                 have hS7 := HXk.out _ _ h7 (by simp)
                 have HW7 := Lib.hid (h7.rwaits HK.out hy100 x)
                 obtain ⟨A7, c7, e7⟩ := h7.form
                 subst e7
                 clear h7)
              | (go_at_call 16
                 (with_reducible refine HW7.out.mono ?_)
                 rintro e w8 ⟨v8, rfl, h8⟩
                 have hS8 := HXk.out _ _ h8 (by simp)
                 have HSn := Lib.hid (h8.same HK.out (List.mem_cons_of_mem _ (List.mem_cons_self ..)) (List.mem_cons_self ..) (Nat.le_trans (HLw.out x) (by omega)))
                 obtain ⟨A8, c8, e8⟩ := h8.form
                 subst e8
                 clear h8)
              | (go_at_call 13
                 (with_reducible refine HSn.out.mono ?_)
                 rintro e w9 ⟨rfl, h9⟩
                 have hS9 := HXk.out _ _ h9 (by simp)
                 have HP9 := Lib.hid h9.tail.tail
                 clear h9 HSn))
          all_goals (go_wp2_with fail)
          go_roundw
          case rel => exact ⟨k + 1, by omega, by go_num, HP9⟩
          case measure => simp [intOf]; omega
        · obtain rfl : k = L.length := by omega
          have hkl' : ¬ (L.length : Int) < (L.length : Int) := by omega
          go_wp2_with fail
          go_roundw
          case rel => exact ⟨i + 1, Y, by omega, by omega, by go_num, HLd, Lib.hid HPk.out.tail⟩
          case measure => simp [intOf]; omega
    · by_cases hl2 : i < ld.length
      · obtain rfl : i = 60 := by omega
        have hYes : ((60 : Nat) : Int) < (ld.length : Int) := by omega
        go_wp2
        go_ret
        exact ⟨rfl, HP.out.bel⟩
      · obtain rfl : i = ld.length := by omega
        have hNo : ¬ ((ld.length : Int) < (ld.length : Int)) := by omega
        go_wp2
        go_ret
        exact ⟨rfl, HP.out.bel⟩
end
end Go.Proofs.Ythbnbifagenpiaa
