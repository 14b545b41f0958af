/-
  Layer cells' laws: CellsOrder.
-/
import Derived.Test.YtpppjipelcfnkaaClApartW
namespace Go.Proofs.Ytpppjipelcfnkaa
open Go.RowKit

/-- the three cells of a key in a row -/
theorem ky_nth {w : World} {F : Nat → Prop} {v : Value} {X : Cl.Cs} (h : S.Sg w F 3 v X.length (X.flatMap keyC)) (i : Nat) (hi : i < X.length) : ∃ a cap, v = .slice (some a) X.length cap ∧ X.length ≤ cap ∧ F a.block ∧
    w.cell? (a.add (i * 3)) = some (.int .i64 X[i].1.kind) ∧ w.cell? ⟨(a.add (i * 3)).block, (a.add (i * 3)).off + 1, none⟩ = some (.int .i64 X[i].1.a) ∧ w.cell? ⟨(a.add (i * 3)).block, (a.add (i * 3)).off + 2, none⟩ = some (.int .i64 X[i].1.b) := by
  obtain ⟨hl0, A, cap, e, hc, hx⟩ := h
  obtain ⟨a, rfl, hF, hx⟩ := hx (by intro e; rw [e] at hi; simp at hi)
  have q (j : Nat) (hj : j < 3) : w.cell? (a.add (i * 3 + j)) = (keyC X[i])[j]? := by
    have := V.flat_at (f := keyC) (m := 3) X (fun _ _ => rfl) i hi j hj
    rw [← this]
    have hl : i * 3 + j < (X.flatMap keyC).length := by rw [hl0]; omega
    rw [hx (i * 3 + j) _ (List.getElem?_eq_getElem hl)]
    exact (List.getElem?_eq_getElem hl).symm
  have e1 : ∀ (p : Addr) (j : Nat), (⟨p.block, p.off + (j + 1), none⟩ : Addr) = p.add (j + 1) := fun p j => by simp [Addr.add]
  refine ⟨a, cap, e, hc, hF, q 0 (by decide), ?_, ?_⟩
  · rw [e1 _ 0, S.add_add]; exact q 1 (by decide)
  · rw [e1 _ 1, S.add_add]; exact q 2 (by decide)

/-- cells of a key at a place -/
def Ky3 (w : World) (p : Addr) (k : Cl.Ky) : Prop := w.cell? p = some (.int .i64 k.kind) ∧ w.cell? ⟨p.block, p.off + 1, none⟩ = some (.int .i64 k.a) ∧ w.cell? ⟨p.block, p.off + 2, none⟩ = some (.int .i64 k.b)

section
variable {H : World → (Nat → Prop) → Value → Cl.Cs → Prop}

set_option maxRecDepth 100000 in
set_option maxHeartbeats 4000000 in
theorem CellsOrder_walk (K : CellsOk H) (w : World) (vd : Value) (ld : List Dd11) (x y : Cl.Ky) (G0 : Nat → Prop) (hD : Dds11 w G0 vd ld) (hG0 : ∀ b, G0 b → b < w.heap.size) :
    Calls Try.prog 7 #[vd, keyA x, keyA y] w fun e w' => e = .returned (.bool true) ∧ Below w.heap.size w w' := by
  have hb1 : Below w.heap.size w ((w.alloc (.cells #[.int .i64 x.kind, .int .i64 x.a, .int .i64 x.b] 31)).alloc (.cells #[.int .i64 y.kind, .int .i64 y.a, .int .i64 y.b] 31)) := ((Below.refl _ _).alloc (Nat.le_refl _) _).alloc (by simp) _
  have HP := Lib.hid ((Bk.new w [.int .i64 x.kind, .int .i64 x.a, .int .i64 x.b] 31 rfl).alloc (.cells #[.int .i64 y.kind, .int .i64 y.a, .int .i64 y.b] 31))
  have HQ := Lib.hid (Bk.new (w.alloc (.cells #[.int .i64 x.kind, .int .i64 x.a, .int .i64 x.b] 31)) [.int .i64 y.kind, .int .i64 y.a, .int .i64 y.b] 31 (g := w.heap.size + 1) (by simp))
  have HB1 := Lib.hid hb1
  have HA := Lib.hid (awake11_any K)
  have HD := Lib.hid hD
  have HG := Lib.hid hG0
  have HK := Lib.hid K
  obtain ⟨Ad, capd, rfl, hcd⟩ := hD.form
  clear hb1 hD hG0
  unfold keyA
  by_cases hfew : Few ld
  · have HFw := Lib.hid hfew
    have HFe : Hid (∀ W, Below w.heap.size w W → Calls Try.prog 11 #[.slice Ad ld.length capd] W fun e w' => e = .returned (.bool true) ∧ Below W.heap.size W w') := Lib.hid (fun W hb => few11_yes (HD.out.below hb HG.out) (fun b q => Nat.lt_of_lt_of_le (HG.out b q) hb.size) hfew)
    clear hfew
    have HRun : Hid (∀ W, Below w.heap.size w W → Calls Try.prog 20 #[.slice Ad ld.length capd] W fun e w' => ∃ a, e = .returned (.pointer (some a)) ∧ Aw H W w' (.pointer (some a)) (Cl.runX ld) [] ∧ Below W.heap.size W w') := Lib.hid (fun W hb => run_aw K HD.out HG.out HFw.out hb)
    have HFit := Lib.hid (run_fit HFw.out)
    generalize Cl.runX ld = X at *
    have hn50 := HFit.out.len
    go_enter Try.func7, Try.ntmps7
    go_wp2_with (first
      | (go_at_call 9; refine (HA.out _).mono ?_; rintro e w1 ⟨rfl, hb1⟩
         have HB := Lib.hid (HB1.out.trans (hb1.mono HB1.out.size))
         have HP1 := Lib.hid (HP.out.step hb1)
         have HQ1 := Lib.hid (HQ.out.step hb1)
         clear hb1)
      | (go_at_call 11; refine (HFe.out _ HB.out).mono ?_; rintro e w2 ⟨rfl, hb2⟩
         replace HB := Lib.hid (below_two HB.out hb2)
         replace HP1 := Lib.hid (HP1.out.step hb2)
         replace HQ1 := Lib.hid (HQ1.out.step hb2)
         clear hb2)
      | (go_at_call 20; refine (HRun.out _ HB.out).mono ?_; rintro e w3 ⟨av, rfl, h3⟩
         have HW := Lib.hid h3
         clear h3)
      | (go_at_call 13; refine (HW.out.1.keys K HW.out.2 (HFit.out.more (by omega))).mono ?_; rintro e w4 ⟨v4, rfl, h4⟩
         have HO := Lib.hid (h4.1.ord K)
         have HR := Lib.hid (h4.1.row (List.mem_cons_self ..))
         obtain ⟨A4, c4, e4, hc4⟩ := h4.1.form (List.mem_cons_self ..)
         have e4 : v4 = .slice A4 X.length c4 := e4
         subst e4
         replace HP1 := Lib.hid (HP1.out.step h4.2)
         replace HQ1 := Lib.hid (HQ1.out.step h4.2)
         replace HB := Lib.hid (below_two HB.out h4.2)
         clear h4 HW hc4))
    have HX : Hid (∀ w', Below w4.heap.size w4 w' → Ky3 w' ⟨w.heap.size, 0, none⟩ x) := Lib.hid (fun w' hb => ⟨(HP1.out.step hb).cell 0 _ rfl, (HP1.out.step hb).cell 1 _ rfl, (HP1.out.step hb).cell 2 _ rfl⟩)
    have HY : Hid (∀ w', Below w4.heap.size w4 w' → Ky3 w' ⟨w.heap.size + 1, 0, none⟩ y) := Lib.hid (fun w' hb => ⟨(HQ1.out.step hb).cell 0 _ rfl, (HQ1.out.step hb).cell 1 _ rfl, (HQ1.out.step hb).cell 2 _ rfl⟩)
    have HKy : Hid (∀ w', Below w4.heap.size w4 w' → ∀ i (hi : i < X.length), ∃ a, A4 = some a ∧ Ky3 w' (a.add (i * 3)) X[i].1) := Lib.hid (fun w' hb i hi => by
      obtain ⟨G, hs, hG⟩ := HR.out
      obtain ⟨a, cap, e, _, _, y0, y1, y2⟩ := ky_nth (X := X) (S.Sg.below hs hb hG) i hi
      injection e with e1
      exact ⟨a, e1, y0, y1, y2⟩)
    have HLs : Hid (∀ (p q : Cl.Ky) (W : World), Calls Try.prog 29 #[.agg #[.int .i64 p.kind, .int .i64 p.a, .int .i64 p.b], .agg #[.int .i64 q.kind, .int .i64 q.a, .int .i64 q.b]] W fun e w' => e = .returned (.bool (Cl.less p q)) ∧ Below W.heap.size W w') := Lib.hid (fun p q W => K.less p q W)
    clear HP1 HQ1 HR HRun HFe
    go_loopw [9] (fun i wr => ∃ n : Nat, 1 ≤ n ∧ n ≤ 60 ∧ i = .int .i64 (n : Int) ∧ Hid (Below w4.heap.size w4 wr)) (fun i _ => 60 - (intOf i).toNat)
    case atStart => exact ⟨1, by omega, by omega, rfl, Lib.hid (Below.refl _ _)⟩
    case round =>
      obtain ⟨n, hn1, hn6, rfl, HB4⟩ := hrel
      by_cases hlt : n < X.length
      · obtain ⟨j, rfl⟩ : ∃ j, n = j + 1 := ⟨n - 1, by omega⟩
        have i0 : ((j + 1 : Nat) : Int) < (X.length : Int) := by omega
        have i1 : ((j + 1 : Nat) : Int) - 1 = (j : Int) := by omega
        have i2 : (j : Int) + 1 - 1 = (j : Int) := by omega
        have i3 : IntKind.i64.wrap (j : Int) = (j : Int) := by rw [IntKind.wrap_i64]; omega
        have i4 : (0 : Int) ≤ (j : Int) := by omega
        have i5 : (j : Int) < (X.length : Int) := by omega
        have i6 : (0 : Int) ≤ (j : Int) + 1 := by omega
        have i7 : (j : Int) + 1 < (X.length : Int) := by omega
        obtain ⟨a4, rfl, _⟩ := HKy.out w4 (Below.refl _ _) j (by omega)
        have HK0 : Hid (∀ w', Below w4.heap.size w4 w' → Ky3 w' (a4.add (j * 3)) X[j].1) := Lib.hid (fun w' hb => by
          obtain ⟨a, e, h⟩ := HKy.out w' hb j (by omega)
          cases e
          exact h)
        have HK1 : Hid (∀ w', Below w4.heap.size w4 w' → Ky3 w' (a4.add ((j + 1) * 3)) X[j + 1].1) := Lib.hid (fun w' hb => by
          obtain ⟨a, e, h⟩ := HKy.out w' hb (j + 1) hlt
          cases e
          exact h)
        have HTr : Hid (Cl.less X[j].1 X[j + 1].1 = true) := Lib.hid (List.pairwise_iff_getElem.1 HO.out.up j (j + 1) (by omega) hlt (by omega))
        generalize X[j].1 = k0 at *
        generalize X[j + 1].1 = k1 at *
        obtain ⟨C, hC⟩ : ∃ C : World → Prop, C = fun w' => Below w4.heap.size w4 w' := ⟨_, rfl⟩
        have HCb : Hid (∀ w', C w' → Below w4.heap.size w4 w') := Lib.hid fun w' hb => by rw [hC] at hb; exact hb
        have HCm : Hid (∀ w', Below w4.heap.size w4 w' → C w') := Lib.hid fun w' hb => by rw [hC]; exact hb
        have HC0 : Hid (∀ w', C w' → Ky3 w' (a4.add (j * 3)) k0) := Lib.hid fun w' hb => HK0.out _ (HCb.out _ hb)
        have HC1 : Hid (∀ w', C w' → Ky3 w' (a4.add ((j + 1) * 3)) k1) := Lib.hid fun w' hb => HK1.out _ (HCb.out _ hb)
        have HL : Hid (∀ w', C w' → Calls Try.prog 29 #[.agg #[.int .i64 k0.kind, .int .i64 k0.a, .int .i64 k0.b], .agg #[.int .i64 k1.kind, .int .i64 k1.a, .int .i64 k1.b]] w' fun e w'' => e = .returned (.bool true) ∧ C w'') := Lib.hid fun w' hS => (HLs.out k0 k1 w').mono (fun e w'' ⟨he, hb⟩ => ⟨by rw [he, HTr.out], HCm.out _ ((HCb.out w' hS).trans (hb.mono (HCb.out w' hS).size))⟩)
        clear hC
        have HCd : Hid (C { wr with drawn := wr.drawn + 1 }) := Lib.hid (HCm.out _ HB4.out.drew)
        go_wp2_with fail
        refine wp_region_quiet (C := C) (by kernel_rfl) (by kernel_rfl) HCd.out ?_
        show wpQuiet _ _ _ _ [_, _, _, _, _, _, _, _, _, _, _] _
        refine wpQuiet_step (fun K hK => ?_)
        go_simp
        first
          | (refine hK _ ?_; clear hK K)
          | (refine ⟨_, fun w hw => (by first | exact rfl | exact ⟨rfl, rfl⟩), hK _ ?_⟩; clear hK K)
        refine wpQuiet_step (fun K hK => ?_)
        go_simp
        first
          | (refine hK _ ?_; clear hK K)
          | (refine ⟨_, fun w hw => (by first | exact rfl | exact ⟨rfl, rfl⟩), hK _ ?_⟩; clear hK K)
        refine wpQuiet_step (fun K hK => ?_)
        go_simp
        first
          | (refine hK _ ?_; clear hK K)
          | (refine ⟨_, fun w hw => (by first | exact rfl | exact ⟨rfl, rfl⟩), hK _ ?_⟩; clear hK K)
        refine wpQuiet_step (fun K hK => ?_)
        go_simp
        first
          | (refine hK _ ?_; clear hK K)
          | (refine ⟨_, fun w hw => (by first | exact rfl | exact ⟨rfl, rfl⟩), hK _ ?_⟩; clear hK K)
        refine wpQuiet_step (fun K hK => ?_)
        go_simp
        refine ⟨.agg #[.int .i64 k0.kind, .int .i64 k0.a, .int .i64 k0.b], fun w hw => (by obtain ⟨c0, c1, c2⟩ := HC0.out w hw; go_simp), hK _ ?_⟩; clear hK K
        refine wpQuiet_step (fun K hK => ?_)
        go_simp
        first
          | (refine hK _ ?_; clear hK K)
          | (refine ⟨_, fun w hw => (by first | exact rfl | exact ⟨rfl, rfl⟩), hK _ ?_⟩; clear hK K)
        refine wpQuiet_step (fun K hK => ?_)
        go_simp
        first
          | (refine hK _ ?_; clear hK K)
          | (refine ⟨_, fun w hw => (by first | exact rfl | exact ⟨rfl, rfl⟩), hK _ ?_⟩; clear hK K)
        refine wpQuiet_step (fun K hK => ?_)
        go_simp
        first
          | (refine hK _ ?_; clear hK K)
          | (refine ⟨_, fun w hw => (by first | exact rfl | exact ⟨rfl, rfl⟩), hK _ ?_⟩; clear hK K)
        refine wpQuiet_step (fun K hK => ?_)
        go_simp
        refine ⟨.agg #[.int .i64 k1.kind, .int .i64 k1.a, .int .i64 k1.b], fun w hw => (by obtain ⟨c0, c1, c2⟩ := HC1.out w hw; go_simp), hK _ ?_⟩; clear hK K
        refine wpQuiet_step (fun K hK => ?_)
        go_simp
        refine ⟨_, fun w hw => HL.out w hw, hK _ ?_⟩; clear hK K
        refine wpQuiet_step (fun K hK => ?_)
        go_simp
        first
          | (refine hK _ ?_; clear hK K)
          | (refine ⟨_, fun w hw => (by first | exact rfl | exact ⟨rfl, rfl⟩), hK _ ?_⟩; clear hK K)
        refine wpQuiet_nil (fun w5 hw5 => ?_)
        have HB5 := Lib.hid (HCb.out w5 hw5)
        clear HL HCd HCb HCm HC0 HC1 HK0 HK1 hw5
        go_wp2_with fail
        go_roundw
        case rel => exact ⟨j + 1 + 1, by omega, by omega, by go_num, HB5⟩
        case measure => simp [intOf]; omega
      · have i0 : ¬ ((n : Int) < (X.length : Int)) := by omega
        go_wp2_with fail
        have HB5 := HB4
        clear HB4 i0 hlt
        go_loopw [10] (fun i wr => ∃ n : Nat, n ≤ X.length ∧ i = .int .i64 (n : Int) ∧ Hid (Below w4.heap.size w4 wr)) (fun i _ => X.length - (intOf i).toNat)
        case atStart => exact ⟨0, Nat.zero_le _, rfl, HB5⟩
        case round =>
          obtain ⟨j, hj, rfl, HB4⟩ := hrel
          by_cases hlt : j < X.length
          · have i5 : (j : Int) < (X.length : Int) := by omega
            have i4 : (0 : Int) ≤ (j : Int) := by omega
            obtain ⟨a4, rfl, _⟩ := HKy.out w4 (Below.refl _ _) j (by omega)
            have HK0 : Hid (∀ w', Below w4.heap.size w4 w' → Ky3 w' (a4.add (j * 3)) X[j].1) := Lib.hid (fun w' hb => by
              obtain ⟨a, e, h⟩ := HKy.out w' hb j (by omega)
              cases e
              exact h)
            generalize X[j].1 = k0 at *
            obtain ⟨C, hC⟩ : ∃ C : World → Prop, C = fun w' => Below w4.heap.size w4 w' := ⟨_, rfl⟩
            have HCb : Hid (∀ w', C w' → Below w4.heap.size w4 w') := Lib.hid fun w' hb => by rw [hC] at hb; exact hb
            have HCm : Hid (∀ w', Below w4.heap.size w4 w' → C w') := Lib.hid fun w' hb => by rw [hC]; exact hb
            have HC0 : Hid (∀ w', C w' → Ky3 w' (a4.add (j * 3)) k0) := Lib.hid fun w' hb => HK0.out _ (HCb.out _ hb)
            have HCx : Hid (∀ w', C w' → Ky3 w' ⟨w.heap.size, 0, none⟩ x) := Lib.hid fun w' hb => HX.out _ (HCb.out _ hb)
            have HCy : Hid (∀ w', C w' → Ky3 w' ⟨w.heap.size + 1, 0, none⟩ y) := Lib.hid fun w' hb => HY.out _ (HCb.out _ hb)
            have HL : Hid (∀ (p q : Cl.Ky) (t : Bool), Cl.less p q = t → ∀ w', C w' → Calls Try.prog 29 #[.agg #[.int .i64 p.kind, .int .i64 p.a, .int .i64 p.b], .agg #[.int .i64 q.kind, .int .i64 q.a, .int .i64 q.b]] w' fun e w'' => e = .returned (.bool t) ∧ C w'') := Lib.hid fun p q t ht w' hS => (HLs.out p q w').mono (fun e w'' ⟨he, hb⟩ => ⟨by rw [he, ht], HCm.out _ ((HCb.out w' hS).trans (hb.mono (HCb.out w' hS).size))⟩)
            clear hC
            have HCd : Hid (C { wr with drawn := wr.drawn + 1 }) := Lib.hid (HCm.out _ HB4.out.drew)
            have HE : Hid (∀ w5, C w5 → Hid (Below w4.heap.size w4 w5)) := Lib.hid (fun w5 hw5 => Lib.hid (HCb.out w5 hw5))
            cases hA : Cl.less x y with
            | false =>
              have HLa := Lib.hid (HL.out x y false hA)
              clear hA
              go_wp2_with fail
              refine wp_region_quiet (C := C) (by kernel_rfl) (by kernel_rfl) HCd.out ?_
              show wpQuiet _ _ _ _ [_, _, _, _, _, _, _, _, _, _, _, _, _, _, _, _, _, _, _, _] _
              refine wpQuiet_step (fun K hK => ?_)
              go_simp
              refine ⟨.agg #[.int .i64 x.kind, .int .i64 x.a, .int .i64 x.b], fun w hw => (by obtain ⟨c0, c1, c2⟩ := HCx.out w hw; go_simp), hK _ ?_⟩; clear hK K
              refine wpQuiet_step (fun K hK => ?_)
              go_simp
              refine ⟨.agg #[.int .i64 y.kind, .int .i64 y.a, .int .i64 y.b], fun w hw => (by obtain ⟨c0, c1, c2⟩ := HCy.out w hw; go_simp), hK _ ?_⟩; clear hK K
              refine wpQuiet_step (fun K hK => ?_)
              go_simp
              refine ⟨_, fun w hw => HLa.out w hw, hK _ ?_⟩; clear hK K
              refine wpQuiet_step (fun K hK => ?_)
              go_simp
              first
                | (refine hK _ ?_; clear hK K)
                | (refine ⟨_, fun w hw => (by first | exact rfl | exact ⟨rfl, rfl⟩), hK _ ?_⟩; clear hK K)
              refine wpQuiet_step (fun K hK => ?_)
              go_simp
              first
                | (refine hK _ ?_; clear hK K)
                | (refine ⟨_, fun w hw => (by first | exact rfl | exact ⟨rfl, rfl⟩), hK _ ?_⟩; clear hK K)
              refine wpQuiet_step (fun K hK => ?_)
              go_simp
              first
                | (refine hK _ ?_; clear hK K)
                | (refine ⟨_, fun w hw => (by first | exact rfl | exact ⟨rfl, rfl⟩), hK _ ?_⟩; clear hK K)
              refine wpQuiet_step (fun K hK => ?_)
              go_simp
              first
                | (refine hK _ ?_; clear hK K)
                | (refine ⟨_, fun w hw => (by first | exact rfl | exact ⟨rfl, rfl⟩), hK _ ?_⟩; clear hK K)
              refine wpQuiet_step (fun K hK => ?_)
              go_simp
              first
                | (refine hK _ ?_; clear hK K)
                | (refine ⟨_, fun w hw => (by first | exact rfl | exact ⟨rfl, rfl⟩), hK _ ?_⟩; clear hK K)
              refine wpQuiet_step (fun K hK => ?_)
              go_simp
              first
                | (refine hK _ ?_; clear hK K)
                | (refine ⟨_, fun w hw => (by first | exact rfl | exact ⟨rfl, rfl⟩), hK _ ?_⟩; clear hK K)
              refine wpQuiet_step (fun K hK => ?_)
              go_simp
              first
                | (refine hK _ ?_; clear hK K)
                | (refine ⟨_, fun w hw => (by first | exact rfl | exact ⟨rfl, rfl⟩), hK _ ?_⟩; clear hK K)
              refine wpQuiet_step (fun K hK => ?_)
              go_simp
              first
                | (refine hK _ ?_; clear hK K)
                | (refine ⟨_, fun w hw => (by first | exact rfl | exact ⟨rfl, rfl⟩), hK _ ?_⟩; clear hK K)
              refine wpQuiet_step (fun K hK => ?_)
              go_simp
              first
                | (refine hK _ ?_; clear hK K)
                | (refine ⟨_, fun w hw => (by first | exact rfl | exact ⟨rfl, rfl⟩), hK _ ?_⟩; clear hK K)
              refine wpQuiet_step (fun K hK => ?_)
              go_simp
              first
                | (refine hK _ ?_; clear hK K)
                | (refine ⟨_, fun w hw => (by first | exact rfl | exact ⟨rfl, rfl⟩), hK _ ?_⟩; clear hK K)
              refine wpQuiet_step (fun K hK => ?_)
              go_simp
              first
                | (refine hK _ ?_; clear hK K)
                | (refine ⟨_, fun w hw => (by first | exact rfl | exact ⟨rfl, rfl⟩), hK _ ?_⟩; clear hK K)
              refine wpQuiet_step (fun K hK => ?_)
              go_simp
              first
                | (refine hK _ ?_; clear hK K)
                | (refine ⟨_, fun w hw => (by first | exact rfl | exact ⟨rfl, rfl⟩), hK _ ?_⟩; clear hK K)
              refine wpQuiet_step (fun K hK => ?_)
              go_simp
              first
                | (refine hK _ ?_; clear hK K)
                | (refine ⟨_, fun w hw => (by first | exact rfl | exact ⟨rfl, rfl⟩), hK _ ?_⟩; clear hK K)
              refine wpQuiet_step (fun K hK => ?_)
              go_simp
              first
                | (refine hK _ ?_; clear hK K)
                | (refine ⟨_, fun w hw => (by first | exact rfl | exact ⟨rfl, rfl⟩), hK _ ?_⟩; clear hK K)
              refine wpQuiet_step (fun K hK => ?_)
              go_simp
              first
                | (refine hK _ ?_; clear hK K)
                | (refine ⟨_, fun w hw => (by first | exact rfl | exact ⟨rfl, rfl⟩), hK _ ?_⟩; clear hK K)
              refine wpQuiet_step (fun K hK => ?_)
              go_simp
              first
                | (refine hK _ ?_; clear hK K)
                | (refine ⟨_, fun w hw => (by first | exact rfl | exact ⟨rfl, rfl⟩), hK _ ?_⟩; clear hK K)
              refine wpQuiet_step (fun K hK => ?_)
              go_simp
              first
                | (refine hK _ ?_; clear hK K)
                | (refine ⟨_, fun w hw => (by first | exact rfl | exact ⟨rfl, rfl⟩), hK _ ?_⟩; clear hK K)
              refine wpQuiet_nil (fun w5 hw5 => ?_)
              have HB6 := HE.out w5 hw5
              clear HCd HCb HCm HC0 HK0 hw5 HE
              go_wp2_with fail
              go_roundw
              case rel => exact ⟨j + 1, by omega, by go_num, HB6⟩
              case measure => simp [intOf]; omega
            | true =>
              have HLa := Lib.hid (HL.out x y true hA)
              cases hBk : Cl.less y k0 with
              | false =>
                have HLb := Lib.hid (HL.out y k0 false hBk)
                clear hA hBk
                go_wp2_with fail
                refine wp_region_quiet (C := C) (by kernel_rfl) (by kernel_rfl) HCd.out ?_
                show wpQuiet _ _ _ _ [_, _, _, _, _, _, _, _, _, _, _, _, _, _, _, _, _, _, _, _] _
                refine wpQuiet_step (fun K hK => ?_)
                go_simp
                refine ⟨.agg #[.int .i64 x.kind, .int .i64 x.a, .int .i64 x.b], fun w hw => (by obtain ⟨c0, c1, c2⟩ := HCx.out w hw; go_simp), hK _ ?_⟩; clear hK K
                refine wpQuiet_step (fun K hK => ?_)
                go_simp
                refine ⟨.agg #[.int .i64 y.kind, .int .i64 y.a, .int .i64 y.b], fun w hw => (by obtain ⟨c0, c1, c2⟩ := HCy.out w hw; go_simp), hK _ ?_⟩; clear hK K
                refine wpQuiet_step (fun K hK => ?_)
                go_simp
                refine ⟨_, fun w hw => HLa.out w hw, hK _ ?_⟩; clear hK K
                refine wpQuiet_step (fun K hK => ?_)
                go_simp
                first
                  | (refine hK _ ?_; clear hK K)
                  | (refine ⟨_, fun w hw => (by first | exact rfl | exact ⟨rfl, rfl⟩), hK _ ?_⟩; clear hK K)
                refine wpQuiet_step (fun K hK => ?_)
                go_simp
                refine ⟨.agg #[.int .i64 y.kind, .int .i64 y.a, .int .i64 y.b], fun w hw => (by obtain ⟨c0, c1, c2⟩ := HCy.out w hw; go_simp), hK _ ?_⟩; clear hK K
                refine wpQuiet_step (fun K hK => ?_)
                go_simp
                first
                  | (refine hK _ ?_; clear hK K)
                  | (refine ⟨_, fun w hw => (by first | exact rfl | exact ⟨rfl, rfl⟩), hK _ ?_⟩; clear hK K)
                refine wpQuiet_step (fun K hK => ?_)
                go_simp
                first
                  | (refine hK _ ?_; clear hK K)
                  | (refine ⟨_, fun w hw => (by first | exact rfl | exact ⟨rfl, rfl⟩), hK _ ?_⟩; clear hK K)
                refine wpQuiet_step (fun K hK => ?_)
                go_simp
                first
                  | (refine hK _ ?_; clear hK K)
                  | (refine ⟨_, fun w hw => (by first | exact rfl | exact ⟨rfl, rfl⟩), hK _ ?_⟩; clear hK K)
                refine wpQuiet_step (fun K hK => ?_)
                go_simp
                refine ⟨.agg #[.int .i64 k0.kind, .int .i64 k0.a, .int .i64 k0.b], fun w hw => (by obtain ⟨c0, c1, c2⟩ := HC0.out w hw; go_simp), hK _ ?_⟩; clear hK K
                refine wpQuiet_step (fun K hK => ?_)
                go_simp
                refine ⟨_, fun w hw => HLb.out w hw, hK _ ?_⟩; clear hK K
                refine wpQuiet_step (fun K hK => ?_)
                go_simp
                first
                  | (refine hK _ ?_; clear hK K)
                  | (refine ⟨_, fun w hw => (by first | exact rfl | exact ⟨rfl, rfl⟩), hK _ ?_⟩; clear hK K)
                refine wpQuiet_step (fun K hK => ?_)
                go_simp
                first
                  | (refine hK _ ?_; clear hK K)
                  | (refine ⟨_, fun w hw => (by first | exact rfl | exact ⟨rfl, rfl⟩), hK _ ?_⟩; clear hK K)
                refine wpQuiet_step (fun K hK => ?_)
                go_simp
                first
                  | (refine hK _ ?_; clear hK K)
                  | (refine ⟨_, fun w hw => (by first | exact rfl | exact ⟨rfl, rfl⟩), hK _ ?_⟩; clear hK K)
                refine wpQuiet_step (fun K hK => ?_)
                go_simp
                first
                  | (refine hK _ ?_; clear hK K)
                  | (refine ⟨_, fun w hw => (by first | exact rfl | exact ⟨rfl, rfl⟩), hK _ ?_⟩; clear hK K)
                refine wpQuiet_step (fun K hK => ?_)
                go_simp
                first
                  | (refine hK _ ?_; clear hK K)
                  | (refine ⟨_, fun w hw => (by first | exact rfl | exact ⟨rfl, rfl⟩), hK _ ?_⟩; clear hK K)
                refine wpQuiet_step (fun K hK => ?_)
                go_simp
                first
                  | (refine hK _ ?_; clear hK K)
                  | (refine ⟨_, fun w hw => (by first | exact rfl | exact ⟨rfl, rfl⟩), hK _ ?_⟩; clear hK K)
                refine wpQuiet_step (fun K hK => ?_)
                go_simp
                first
                  | (refine hK _ ?_; clear hK K)
                  | (refine ⟨_, fun w hw => (by first | exact rfl | exact ⟨rfl, rfl⟩), hK _ ?_⟩; clear hK K)
                refine wpQuiet_step (fun K hK => ?_)
                go_simp
                first
                  | (refine hK _ ?_; clear hK K)
                  | (refine ⟨_, fun w hw => (by first | exact rfl | exact ⟨rfl, rfl⟩), hK _ ?_⟩; clear hK K)
                refine wpQuiet_step (fun K hK => ?_)
                go_simp
                first
                  | (refine hK _ ?_; clear hK K)
                  | (refine ⟨_, fun w hw => (by first | exact rfl | exact ⟨rfl, rfl⟩), hK _ ?_⟩; clear hK K)
                refine wpQuiet_step (fun K hK => ?_)
                go_simp
                first
                  | (refine hK _ ?_; clear hK K)
                  | (refine ⟨_, fun w hw => (by first | exact rfl | exact ⟨rfl, rfl⟩), hK _ ?_⟩; clear hK K)
                refine wpQuiet_nil (fun w5 hw5 => ?_)
                have HB6 := HE.out w5 hw5
                clear HCd HCb HCm HC0 HK0 hw5 HE
                go_wp2_with fail
                go_roundw
                case rel => exact ⟨j + 1, by omega, by go_num, HB6⟩
                case measure => simp [intOf]; omega
              | true =>
                have HLb := Lib.hid (HL.out y k0 true hBk)
                have HLc := Lib.hid (HL.out x k0 true (Cl.less_trans hA hBk))
                clear hA hBk
                go_wp2_with fail
                refine wp_region_quiet (C := C) (by kernel_rfl) (by kernel_rfl) HCd.out ?_
                show wpQuiet _ _ _ _ [_, _, _, _, _, _, _, _, _, _, _, _, _, _, _, _, _, _, _, _] _
                refine wpQuiet_step (fun K hK => ?_)
                go_simp
                refine ⟨.agg #[.int .i64 x.kind, .int .i64 x.a, .int .i64 x.b], fun w hw => (by obtain ⟨c0, c1, c2⟩ := HCx.out w hw; go_simp), hK _ ?_⟩; clear hK K
                refine wpQuiet_step (fun K hK => ?_)
                go_simp
                refine ⟨.agg #[.int .i64 y.kind, .int .i64 y.a, .int .i64 y.b], fun w hw => (by obtain ⟨c0, c1, c2⟩ := HCy.out w hw; go_simp), hK _ ?_⟩; clear hK K
                refine wpQuiet_step (fun K hK => ?_)
                go_simp
                refine ⟨_, fun w hw => HLa.out w hw, hK _ ?_⟩; clear hK K
                refine wpQuiet_step (fun K hK => ?_)
                go_simp
                first
                  | (refine hK _ ?_; clear hK K)
                  | (refine ⟨_, fun w hw => (by first | exact rfl | exact ⟨rfl, rfl⟩), hK _ ?_⟩; clear hK K)
                refine wpQuiet_step (fun K hK => ?_)
                go_simp
                refine ⟨.agg #[.int .i64 y.kind, .int .i64 y.a, .int .i64 y.b], fun w hw => (by obtain ⟨c0, c1, c2⟩ := HCy.out w hw; go_simp), hK _ ?_⟩; clear hK K
                refine wpQuiet_step (fun K hK => ?_)
                go_simp
                first
                  | (refine hK _ ?_; clear hK K)
                  | (refine ⟨_, fun w hw => (by first | exact rfl | exact ⟨rfl, rfl⟩), hK _ ?_⟩; clear hK K)
                refine wpQuiet_step (fun K hK => ?_)
                go_simp
                first
                  | (refine hK _ ?_; clear hK K)
                  | (refine ⟨_, fun w hw => (by first | exact rfl | exact ⟨rfl, rfl⟩), hK _ ?_⟩; clear hK K)
                refine wpQuiet_step (fun K hK => ?_)
                go_simp
                first
                  | (refine hK _ ?_; clear hK K)
                  | (refine ⟨_, fun w hw => (by first | exact rfl | exact ⟨rfl, rfl⟩), hK _ ?_⟩; clear hK K)
                refine wpQuiet_step (fun K hK => ?_)
                go_simp
                refine ⟨.agg #[.int .i64 k0.kind, .int .i64 k0.a, .int .i64 k0.b], fun w hw => (by obtain ⟨c0, c1, c2⟩ := HC0.out w hw; go_simp), hK _ ?_⟩; clear hK K
                refine wpQuiet_step (fun K hK => ?_)
                go_simp
                refine ⟨_, fun w hw => HLb.out w hw, hK _ ?_⟩; clear hK K
                refine wpQuiet_step (fun K hK => ?_)
                go_simp
                first
                  | (refine hK _ ?_; clear hK K)
                  | (refine ⟨_, fun w hw => (by first | exact rfl | exact ⟨rfl, rfl⟩), hK _ ?_⟩; clear hK K)
                refine wpQuiet_step (fun K hK => ?_)
                go_simp
                first
                  | (refine hK _ ?_; clear hK K)
                  | (refine ⟨_, fun w hw => (by first | exact rfl | exact ⟨rfl, rfl⟩), hK _ ?_⟩; clear hK K)
                refine wpQuiet_step (fun K hK => ?_)
                go_simp
                refine ⟨.agg #[.int .i64 x.kind, .int .i64 x.a, .int .i64 x.b], fun w hw => (by obtain ⟨c0, c1, c2⟩ := HCx.out w hw; go_simp), hK _ ?_⟩; clear hK K
                refine wpQuiet_step (fun K hK => ?_)
                go_simp
                first
                  | (refine hK _ ?_; clear hK K)
                  | (refine ⟨_, fun w hw => (by first | exact rfl | exact ⟨rfl, rfl⟩), hK _ ?_⟩; clear hK K)
                refine wpQuiet_step (fun K hK => ?_)
                go_simp
                first
                  | (refine hK _ ?_; clear hK K)
                  | (refine ⟨_, fun w hw => (by first | exact rfl | exact ⟨rfl, rfl⟩), hK _ ?_⟩; clear hK K)
                refine wpQuiet_step (fun K hK => ?_)
                go_simp
                first
                  | (refine hK _ ?_; clear hK K)
                  | (refine ⟨_, fun w hw => (by first | exact rfl | exact ⟨rfl, rfl⟩), hK _ ?_⟩; clear hK K)
                refine wpQuiet_step (fun K hK => ?_)
                go_simp
                refine ⟨.agg #[.int .i64 k0.kind, .int .i64 k0.a, .int .i64 k0.b], fun w hw => (by obtain ⟨c0, c1, c2⟩ := HC0.out w hw; go_simp), hK _ ?_⟩; clear hK K
                refine wpQuiet_step (fun K hK => ?_)
                go_simp
                refine ⟨_, fun w hw => HLc.out w hw, hK _ ?_⟩; clear hK K
                refine wpQuiet_step (fun K hK => ?_)
                go_simp
                first
                  | (refine hK _ ?_; clear hK K)
                  | (refine ⟨_, fun w hw => (by first | exact rfl | exact ⟨rfl, rfl⟩), hK _ ?_⟩; clear hK K)
                refine wpQuiet_step (fun K hK => ?_)
                go_simp
                first
                  | (refine hK _ ?_; clear hK K)
                  | (refine ⟨_, fun w hw => (by first | exact rfl | exact ⟨rfl, rfl⟩), hK _ ?_⟩; clear hK K)
                refine wpQuiet_nil (fun w5 hw5 => ?_)
                have HB6 := HE.out w5 hw5
                clear HCd HCb HCm HC0 HK0 hw5 HE
                go_wp2_with fail
                go_roundw
                case rel => exact ⟨j + 1, by omega, by go_num, HB6⟩
                case measure => simp [intOf]; omega
          · have i0 : ¬ ((j : Int) < (X.length : Int)) := by omega
            have HLs1 : Hid (∀ W, Below w4.heap.size w4 W → Calls Try.prog 29 #[.agg #[.int .i64 x.kind, .int .i64 x.a, .int .i64 x.b], .agg #[.int .i64 y.kind, .int .i64 y.a, .int .i64 y.b]] W fun e w' => e = .returned (.bool (Cl.less x y)) ∧ Below W.heap.size W w') := Lib.hid (fun W _ => HLs.out x y W)
            have HLs2 : Hid (∀ W, Below w4.heap.size w4 W → Calls Try.prog 29 #[.agg #[.int .i64 y.kind, .int .i64 y.a, .int .i64 y.b], .agg #[.int .i64 x.kind, .int .i64 x.a, .int .i64 x.b]] W fun e w' => e = .returned (.bool (Cl.less y x)) ∧ Below W.heap.size W w') := Lib.hid (fun W _ => HLs.out y x W)
            have HLr : Hid (∀ W, Calls Try.prog 30 #[.agg #[.int .i64 x.kind, .int .i64 x.a, .int .i64 x.b], .agg #[.int .i64 y.kind, .int .i64 y.a, .int .i64 y.b]] W fun e w' => e = .returned (.bool (Cl.less x y)) ∧ Below W.heap.size W w') := Lib.hid (fun W => rless11_any x y W)
            have qn := neqK x y
            have HT : Hid (Cl.same x y = true ∧ Cl.less x y = false ∧ Cl.less y x = false ∨ Cl.same x y = false ∧ Cl.less x y = true ∧ Cl.less y x = false ∨ Cl.same x y = false ∧ Cl.less x y = false ∧ Cl.less y x = true) := Lib.hid (by
              by_cases e : x = y
              · subst e
                exact Or.inl ⟨Cl.same_self _, Cl.less_irrefl _, Cl.less_irrefl _⟩
              · rcases Cl.less_total e with h | h
                · exact Or.inr (Or.inl ⟨Cl.same_no e, h, Cl.less_asymm h⟩)
                · exact Or.inr (Or.inr ⟨Cl.same_no e, Cl.less_asymm h, h⟩))
            obtain ⟨x0, x1, x2⟩ := HX.out _ HB4.out
            obtain ⟨y0, y1, y2⟩ := HY.out _ HB4.out
            rcases HT.out with ⟨s1, s2, s3⟩ | ⟨s1, s2, s3⟩ | ⟨s1, s2, s3⟩
            · rw [s2] at HLs1 HLr
              rw [s3] at HLs2
              rw [s1] at qn
              clear s1 s2 s3 HT
              go_wp2_with (first
                | (go_at_call 29; (with_reducible refine (HLs1.out _ HB4.out).mono ?_); rintro e w6 ⟨rfl, hb⟩; replace HB4 := Lib.hid (HB4.out.trans (hb.mono HB4.out.size)); clear hb x0 x1 x2 y0 y1 y2 HLs1; obtain ⟨x0, x1, x2⟩ := HX.out _ HB4.out; obtain ⟨y0, y1, y2⟩ := HY.out _ HB4.out)
                | (go_at_call 29; (with_reducible refine (HLs2.out _ HB4.out).mono ?_); rintro e w7 ⟨rfl, hb⟩; replace HB4 := Lib.hid (HB4.out.trans (hb.mono HB4.out.size)); clear hb x0 x1 x2 y0 y1 y2 HLs2; obtain ⟨x0, x1, x2⟩ := HX.out _ HB4.out; obtain ⟨y0, y1, y2⟩ := HY.out _ HB4.out)
                | (go_at_call 30; refine (HLr.out _).mono ?_; rintro e w8 ⟨rfl, hb⟩; replace HB4 := Lib.hid (HB4.out.trans (hb.mono HB4.out.size)); clear hb x0 x1 x2 y0 y1 y2; obtain ⟨x0, x1, x2⟩ := HX.out _ HB4.out; obtain ⟨y0, y1, y2⟩ := HY.out _ HB4.out))
              go_ret
              exact ⟨rfl, HB.out.trans (HB4.out.mono HB.out.size)⟩
            · rw [s2] at HLs1 HLr
              rw [s3] at HLs2
              rw [s1] at qn
              clear s1 s2 s3 HT
              go_wp2_with (first
                | (go_at_call 29; (with_reducible refine (HLs1.out _ HB4.out).mono ?_); rintro e w6 ⟨rfl, hb⟩; replace HB4 := Lib.hid (HB4.out.trans (hb.mono HB4.out.size)); clear hb x0 x1 x2 y0 y1 y2 HLs1; obtain ⟨x0, x1, x2⟩ := HX.out _ HB4.out; obtain ⟨y0, y1, y2⟩ := HY.out _ HB4.out)
                | (go_at_call 29; (with_reducible refine (HLs2.out _ HB4.out).mono ?_); rintro e w7 ⟨rfl, hb⟩; replace HB4 := Lib.hid (HB4.out.trans (hb.mono HB4.out.size)); clear hb x0 x1 x2 y0 y1 y2 HLs2; obtain ⟨x0, x1, x2⟩ := HX.out _ HB4.out; obtain ⟨y0, y1, y2⟩ := HY.out _ HB4.out)
                | (go_at_call 30; refine (HLr.out _).mono ?_; rintro e w8 ⟨rfl, hb⟩; replace HB4 := Lib.hid (HB4.out.trans (hb.mono HB4.out.size)); clear hb x0 x1 x2 y0 y1 y2; obtain ⟨x0, x1, x2⟩ := HX.out _ HB4.out; obtain ⟨y0, y1, y2⟩ := HY.out _ HB4.out))
              go_ret
              exact ⟨rfl, HB.out.trans (HB4.out.mono HB.out.size)⟩
            · rw [s2] at HLs1 HLr
              rw [s3] at HLs2
              rw [s1] at qn
              clear s1 s2 s3 HT
              go_wp2_with (first
                | (go_at_call 29; (with_reducible refine (HLs1.out _ HB4.out).mono ?_); rintro e w6 ⟨rfl, hb⟩; replace HB4 := Lib.hid (HB4.out.trans (hb.mono HB4.out.size)); clear hb x0 x1 x2 y0 y1 y2 HLs1; obtain ⟨x0, x1, x2⟩ := HX.out _ HB4.out; obtain ⟨y0, y1, y2⟩ := HY.out _ HB4.out)
                | (go_at_call 29; (with_reducible refine (HLs2.out _ HB4.out).mono ?_); rintro e w7 ⟨rfl, hb⟩; replace HB4 := Lib.hid (HB4.out.trans (hb.mono HB4.out.size)); clear hb x0 x1 x2 y0 y1 y2 HLs2; obtain ⟨x0, x1, x2⟩ := HX.out _ HB4.out; obtain ⟨y0, y1, y2⟩ := HY.out _ HB4.out)
                | (go_at_call 30; refine (HLr.out _).mono ?_; rintro e w8 ⟨rfl, hb⟩; replace HB4 := Lib.hid (HB4.out.trans (hb.mono HB4.out.size)); clear hb x0 x1 x2 y0 y1 y2; obtain ⟨x0, x1, x2⟩ := HX.out _ HB4.out; obtain ⟨y0, y1, y2⟩ := HY.out _ HB4.out))
              go_ret
              exact ⟨rfl, HB.out.trans (HB4.out.mono HB.out.size)⟩
  · have HFe : Hid (∀ W, Below w.heap.size w W → Calls Try.prog 11 #[.slice Ad ld.length capd] W fun e w' => e = .returned (.bool false) ∧ Below W.heap.size W w') := Lib.hid (fun W hb => few11_no (HD.out.below hb HG.out) (fun b q => Nat.lt_of_lt_of_le (HG.out b q) hb.size) hfew)
    clear hfew
    go_enter Try.func7, Try.ntmps7
    go_wp2_with (first
      | (go_at_call 9; refine (HA.out _).mono ?_; rintro e w1 ⟨rfl, hb1⟩
         have HB := Lib.hid (HB1.out.trans (hb1.mono HB1.out.size))
         clear hb1)
      | (go_at_call 11; refine (HFe.out _ HB.out).mono ?_; rintro e w2 ⟨rfl, hb2⟩
         replace HB := Lib.hid (below_two HB.out hb2)
         clear hb2))
    go_ret
    exact ⟨rfl, HB.out⟩
end
end Go.Proofs.Ytpppjipelcfnkaa
