/-
  Layer cells' laws: CellsNobody.
-/
import Derived.Test.YtpppjipelcfnkaaClAwake
namespace Go.Proofs.Ytpppjipelcfnkaa.Cl
theorem undone_set (k : Ky) (val : ByteArray) : setX (writeX [] k 1 val) k [] = [] := by
  have hc : Cn.mayB (Cn.writeC Cn.fresh 1 val) = true := (Cn.mayB_iff _).2 (Cn.may_write Cn.J.fresh.may 1 val)
  have e : writeX [] k 1 val = [(k, Cn.writeC Cn.fresh 1 val)] := by
    unfold writeX
    rw [if_neg (by omega)]
    unfold setX one
    rw [if_pos (show Cn.mayB (Cn.writeC (chain [] k) 1 val) = true from hc)]
    rfl
  rw [e]
  unfold setX one ahead
  simp [less_irrefl, other, same_self, Cn.mayB]
end Go.Proofs.Ytpppjipelcfnkaa.Cl
namespace Go.Proofs.Ytpppjipelcfnkaa
open Go.RowKit

set_option maxRecDepth 100000 in
theorem eqlC_self (a b : Int) (s : ByteArray) (q : Bool) (w : World) : (binOp .eql 49 (.agg #[.int .i64 a, .int .i64 b, .string s, .bool q]) (.agg #[.int .i64 a, .int .i64 b, .string s, .bool q])).run Try.prog w = .ok (.bool true) w := by
  rw [run_eql_struct, equalIn_self undCv heldCv ⟨_, _, _, _, rfl, rfl, rfl, rfl, rfl⟩ 9998]; rfl

section
variable {H : World → (Nat → Prop) → Value → Cl.Cs → Prop}

set_option maxRecDepth 100000 in
set_option maxHeartbeats 4000000 in
theorem CellsNobody_walk (K : CellsOk H) (N : CellsNil) (C : ChainOk) (w : World) (k : Cl.Ky) (ts : Int) (val : ByteArray) :
    Calls Try.prog 8 #[keyA k, .int .i64 ts, .string val] w fun e w' => e = .returned (.bool true) ∧ Below w.heap.size w w' := by
  have HP := Lib.hid (Bk.new w [.int .i64 k.kind, .int .i64 k.a, .int .i64 k.b] 31 rfl)
  have HB0 : Hid (Below w.heap.size w (w.alloc (.cells #[.int .i64 k.kind, .int .i64 k.a, .int .i64 k.b] 31))) := Lib.hid ((Below.refl _ _).alloc (Nat.le_refl _) _)
  have HA := Lib.hid (awake11_any K)
  have HAb := Lib.hid (N.abort ts)
  have HSn : Hid (∀ W v, SlC W (fun b => b < W.heap.size) v Cn.fresh → Calls Try.prog 23 #[.pointer none, .agg #[.int .i64 k.kind, .int .i64 k.a, .int .i64 k.b], v] W fun e w' => e = .returned (.tuple #[]) ∧ Below W.heap.size W w') := Lib.hid (fun W v h => N.set h (fun b q => q) (by decide) k)
  have HFr : Hid (∀ W, Calls Try.prog 31 #[] W fun e w' => ∃ A c, e = .returned (.slice A 1 c) ∧ SlC w' (fun b => b < w'.heap.size) (.slice A 1 c) Cn.fresh ∧ Below W.heap.size W w') := Lib.hid (fun W => (C.fresh W).mono (fun e w' hh => by
    obtain ⟨v', e, hs, hb⟩ := hh
    obtain ⟨A, c, rfl, _⟩ := SlC.form (c := Cn.fresh) hs
    exact ⟨A, c, e, S.Sg.wider hs (fun b q => q.2), hb⟩))
  have HWn : Hid (∀ W, Calls Try.prog 22 #[.pointer none, .agg #[.int .i64 k.kind, .int .i64 k.a, .int .i64 k.b], .int .i64 ts, .string val] W fun e w' => e = .returned (.int .i64 1) ∧ Below W.heap.size W w') := Lib.hid (N.write k ts val)
  have HRn : Hid (∀ W, Calls Try.prog 21 #[.pointer none, .agg #[.int .i64 k.kind, .int .i64 k.a, .int .i64 k.b], .int .i64 ts] W fun e w' => e = .returned (.agg #[.int .i64 0, .int .i64 0, .string ByteArray.empty, .bool false]) ∧ Below W.heap.size W w') := Lib.hid (N.read k ts)
  have HCn := Lib.hid (N.commit ts)
  have HKn := Lib.hid N.keys
  have HNn := Lib.hid N.newest
  have HHn : Hid (∀ W, Calls Try.prog 19 #[.pointer none, .agg #[.int .i64 k.kind, .int .i64 k.a, .int .i64 k.b]] W fun e w' => ∃ A c, e = .returned (.slice A 1 c) ∧ SlC w' (fun b => b < w'.heap.size) (.slice A 1 c) Cn.fresh ∧ Below W.heap.size W w') := Lib.hid (fun W => (N.chain k W).mono (fun e w' hh => by
    obtain ⟨v', e, hs, hb⟩ := hh
    obtain ⟨A, c, rfl, _⟩ := SlC.form (c := Cn.fresh) hs
    exact ⟨A, c, e, S.Sg.wider hs (fun b q => q.2), hb⟩))
  have HRl : Hid (∀ W v, SlC W (fun b => b < W.heap.size) v Cn.fresh → Calls Try.prog 18 #[v] W fun e w' => ∃ A c, e = .returned (.slice A 1 c) ∧ SlC w' (fun b => b < w'.heap.size) (.slice A 1 c) Cn.fresh ∧ Below W.heap.size W w') := Lib.hid (fun W v h => (real11_any h (fun b q => q) (by decide)).mono (fun e w' hh => by
    obtain ⟨v', e, hs, hb⟩ := hh
    obtain ⟨A, c, rfl, _⟩ := SlC.form (c := Cn.fresh) hs
    exact ⟨A, c, e, S.Sg.wider hs (fun b q => q.2), hb⟩))
  have HSm : Hid (∀ W v v', SlC W (fun b => b < W.heap.size) v Cn.fresh → SlC W (fun b => b < W.heap.size) v' Cn.fresh → Calls Try.prog 17 #[v, v'] W fun e w' => e = .returned (.bool true) ∧ Below W.heap.size W w') := Lib.hid (fun W v v' h h' => (rsame10_any h h' (by decide)).mono (fun _ _ hh => ⟨hh.1, hh.2.low⟩))
  have HLow : Hid (∀ (W W' : World) v, SlC W (fun b => b < W.heap.size) v Cn.fresh → Below W.heap.size W W' → SlC W' (fun b => b < W'.heap.size) v Cn.fresh) := Lib.hid (fun W W' v h hb => S.Sg.wider (S.Sg.below h hb (fun b q => q)) (fun b q => Nat.lt_of_lt_of_le q hb.size))
  have HC1 : Hid (∀ w', Below (w.alloc (.cells #[.int .i64 k.kind, .int .i64 k.a, .int .i64 k.b] 31)).heap.size (w.alloc (.cells #[.int .i64 k.kind, .int .i64 k.a, .int .i64 k.b] 31)) w' → w'.cell? ⟨w.heap.size, 0, none⟩ = some (.int .i64 k.kind) ∧ w'.cell? ⟨w.heap.size, 1, none⟩ = some (.int .i64 k.a) ∧ w'.cell? ⟨w.heap.size, 2, none⟩ = some (.int .i64 k.b)) := Lib.hid (fun w' hb => ⟨(HP.out.step hb).cell 0 _ rfl, (HP.out.step hb).cell 1 _ rfl, (HP.out.step hb).cell 2 _ rfl⟩)
  unfold keyA
  have qC := eqlC_self 0 0 ByteArray.empty false
  go_enter Try.func8, Try.ntmps8
  go_wp2_with (first
    | (go_at_call 9; refine (HA.out _).mono ?_; rintro e w1 ⟨rfl, hb1⟩; have HB := Lib.hid hb1; clear hb1)
    | (go_at_call 27; refine (HAb.out _).mono ?_; rintro e w2 ⟨rfl, hb2⟩; replace HB := Lib.hid (below_two HB.out hb2); clear hb2))
  have hbd := Lib.hid (Below.drew (Below.refl w2.heap.size w2))
  have hSd := HC1.out _ HB.out.drew
  go_region_held3 (fun w' => w'.cell? ⟨w.heap.size, 0, none⟩ = some (.int .i64 k.kind) ∧ w'.cell? ⟨w.heap.size, 1, none⟩ = some (.int .i64 k.a) ∧ w'.cell? ⟨w.heap.size, 2, none⟩ = some (.int .i64 k.b))
    (first | with_reducible assumption | go_keep)
    (first
      | (go_at_call 31
         (with_reducible refine (HFr.out w2.drew).mono ?_)
         rintro e w3 ⟨A3, c3, rfl, hs3, hb3⟩
         have HB3 := Lib.hid (below_two HB.out.drew hb3)
         have HS3 := Lib.hid hs3
         have hS3 := HC1.out _ HB3.out)
      | (go_at_call 23
         (with_reducible refine (HSn.out _ _ HS3.out).mono ?_)
         rintro e w4 ⟨rfl, hb4⟩
         have HB4 := Lib.hid (below_two HB3.out hb4)
         have hS4 := HC1.out _ HB4.out))
  obtain ⟨r0, r1, r2⟩ := hS4
  clear hSd HB HB3 HS3 hb4 hbd
  have HB := HB4
  clear HB4
  have HX0 : Hid (∀ (wb W : World) v X R, Aw H wb W v X R → Below wb.heap.size wb W → Cl.Fit 200 X → ∀ (t : Int) (s : ByteArray), -9223372036854775808 ≤ t → t ≤ 9223372036854775807 → Calls Try.prog 22 #[v, .agg #[.int .i64 k.kind, .int .i64 k.a, .int .i64 k.b], .int .i64 t, .string s] W fun e w' => e = .returned (.int .i64 (Cl.writeF X k t)) ∧ Aw H wb w' v (Cl.writeX X k t s) R ∧ Below wb.heap.size wb w') := Lib.hid (fun wb W v X R h hb hf t s q0 q1 => h.write K hb hf k t s q0 q1)
  have HSt : Hid (∀ (wb W : World) v R, Aw H wb W v (Cl.writeX [] k 1 val) R → Below wb.heap.size wb W → Calls Try.prog 23 #[v, .agg #[.int .i64 k.kind, .int .i64 k.a, .int .i64 k.b], .slice none 0 0] W fun e w' => e = .returned (.tuple #[]) ∧ Aw H wb w' v [] R ∧ Below wb.heap.size wb w') := Lib.hid (fun wb W v R h hb => by
    have h2 : Aw H wb W v (Cl.writeX [] k 1 val) (chR (.slice none 0 0) [] :: R) := h.arg hb (G := fun _ => False) (chR (.slice none 0 0) []) (S.Sg.nil ..) (fun b q => q.elim)
    refine (h2.set K (List.mem_cons_self ..) hb (((Cl.Fit.nil 0).write k 1 val).more (by omega)) (by simp) k).mono (fun e w' hh => ?_)
    rw [Cl.undone_set] at hh
    exact ⟨hh.1, hh.2.1.less (fun r q => List.mem_cons_of_mem _ q), hh.2.2⟩)
  have HKs : Hid (∀ (wb W : World) v R, Aw H wb W v [] R → Below wb.heap.size wb W → Calls Try.prog 13 #[v] W fun e w' => (∃ A c, e = .returned (.slice A 0 c)) ∧ Aw H wb w' v [] R ∧ Below wb.heap.size wb w') := Lib.hid (fun wb W v R h hb => (h.keys K hb (Cl.Fit.nil _)).mono (fun e w' hh => by
    obtain ⟨v', e, h1, h2⟩ := hh
    obtain ⟨A, c, e2, _⟩ := h1.form (List.mem_cons_self ..)
    have e2 : v' = .slice A 0 c := e2
    subst e2
    exact ⟨⟨A, c, e⟩, h1.less (fun r q => List.mem_cons_of_mem _ q), h2⟩))
  have HCh : Hid (∀ (wb W : World) v R, Aw H wb W v [] R → Below wb.heap.size wb W → Calls Try.prog 19 #[v, .agg #[.int .i64 k.kind, .int .i64 k.a, .int .i64 k.b]] W fun e w' => ∃ A c, e = .returned (.slice A 1 c) ∧ Aw H wb w' v [] (chR (.slice A 1 c) Cn.fresh :: R) ∧ Below wb.heap.size wb w') := Lib.hid (fun wb W v R h hb => (h.chain K hb (Cl.Fit.nil _) k).mono (fun e w' hh => by
    obtain ⟨v', e, h1, h2⟩ := hh
    obtain ⟨A, c, e2, _⟩ := h1.form (List.mem_cons_self ..)
    have e2 : v' = .slice A 1 c := e2
    subst e2
    exact ⟨A, c, e, h1, h2⟩))
  have HSl : Hid (∀ (wb W : World) v va R, Aw H wb W v [] R → chR va Cn.fresh ∈ R → SlC W (fun b => b < W.heap.size) va Cn.fresh) := Lib.hid (fun wb W v va R h hr => by
    obtain ⟨G, hs, hG⟩ := h.row hr
    exact S.Sg.wider hs hG)
  have HRd : Hid (∀ (wb W : World) v R, Aw H wb W v [] R → Below wb.heap.size wb W → Calls Try.prog 21 #[v, .agg #[.int .i64 k.kind, .int .i64 k.a, .int .i64 k.b], .int .i64 (-1)] W fun e w' => e = .returned (.agg #[.int .i64 0, .int .i64 0, .string ByteArray.empty, .bool false]) ∧ Below wb.heap.size wb w') := Lib.hid (fun wb W v R h hb => (h.read K hb (Cl.Fit.nil _) k (-1) (by decide) (by decide)).mono (fun e w' hh => ⟨hh.1, hh.2.2⟩))
  have HNw := Lib.hid K.new
  have HF1 : Hid (Cl.writeF [] k 0 = 1 ∧ Cl.writeX [] k 0 val = []) := Lib.hid ⟨rfl, rfl⟩
  go_wp2_with (first
    | (go_at_call 22; refine (HWn.out _).mono ?_; rintro e w5 ⟨rfl, hb⟩; clear HWn; replace HB := Lib.hid (below_two HB.out hb); clear r0 r1 r2; obtain ⟨r0, r1, r2⟩ := HC1.out _ HB.out; clear hb)
    | (go_at_call 21; refine (HRn.out _).mono ?_; rintro e w6 ⟨rfl, hb⟩; clear HRn; replace HB := Lib.hid (below_two HB.out hb); clear r0 r1 r2; obtain ⟨r0, r1, r2⟩ := HC1.out _ HB.out; clear hb)
    | (go_at_call 25; refine (HCn.out _).mono ?_; rintro e w7 ⟨⟨A7, c7, rfl⟩, hb⟩; clear HCn; replace HB := Lib.hid (below_two HB.out hb); clear r0 r1 r2; obtain ⟨r0, r1, r2⟩ := HC1.out _ HB.out; clear hb)
    | (go_at_call 13; refine (HKn.out _).mono ?_; rintro e w8 ⟨⟨A8, c8, rfl⟩, hb⟩; clear HKn; replace HB := Lib.hid (below_two HB.out hb); clear r0 r1 r2; obtain ⟨r0, r1, r2⟩ := HC1.out _ HB.out; clear hb)
    | (go_at_call 15; refine (HNn.out _).mono ?_; rintro e w9 ⟨⟨A9, c9, rfl⟩, hb⟩; clear HNn; replace HB := Lib.hid (below_two HB.out hb); clear r0 r1 r2; obtain ⟨r0, r1, r2⟩ := HC1.out _ HB.out; clear hb)
    | (go_at_call 19; refine (HHn.out _).mono ?_; rintro e w10 ⟨A10, c10, rfl, hs10, hb⟩; clear HHn; have HS10 := Lib.hid hs10; clear hs10; replace HB := Lib.hid (below_two HB.out hb); clear r0 r1 r2; obtain ⟨r0, r1, r2⟩ := HC1.out _ HB.out; clear hb)
    | (go_at_call 18; refine (HRl.out _ _ HS10.out).mono ?_; rintro e w11 ⟨A11, c11, rfl, hs11, hb⟩; have HS11 := Lib.hid hs11; clear hs11 HS10; replace HB := Lib.hid (below_two HB.out hb); clear r0 r1 r2; obtain ⟨r0, r1, r2⟩ := HC1.out _ HB.out; clear hb)
    | (go_at_call 31; refine (HFr.out _).mono ?_; rintro e w12 ⟨A12, c12, rfl, hs12, hb⟩; have HS12 := Lib.hid hs12; replace HS11 := Lib.hid (HLow.out _ _ _ HS11.out hb); clear hs12; replace HB := Lib.hid (below_two HB.out hb); clear r0 r1 r2; obtain ⟨r0, r1, r2⟩ := HC1.out _ HB.out; clear hb)
    | (go_at_call 18; refine (HRl.out _ _ HS12.out).mono ?_; rintro e w13 ⟨A13, c13, rfl, hs13, hb⟩; have HS13 := Lib.hid hs13; replace HS11 := Lib.hid (HLow.out _ _ _ HS11.out hb); clear hs13 HS12; replace HB := Lib.hid (below_two HB.out hb); clear r0 r1 r2; obtain ⟨r0, r1, r2⟩ := HC1.out _ HB.out; clear hb)
    | (go_at_call 17; refine (HSm.out _ _ _ HS11.out HS13.out).mono ?_; rintro e w14 ⟨rfl, hb⟩; replace HB := Lib.hid (below_two HB.out hb); clear r0 r1 r2; obtain ⟨r0, r1, r2⟩ := HC1.out _ HB.out; clear hb; clear HS11 HS13)
    | (go_at_call 10; refine (HNw.out _).mono ?_; rintro e w15 ⟨v15, rfl, hs15, hb⟩; have HW : Hid (Aw H w14 w15 v15 [] [] ∧ Below w14.heap.size w14 w15) := Lib.hid ⟨⟨_, hs15, fun b q => q.1, fun r hr => by cases hr⟩, hb⟩; clear hs15 hb; clear r0 r1 r2; obtain ⟨r0, r1, r2⟩ := HC1.out _ (HB.out.trans (HW.out.2.mono HB.out.size)))
    | (go_at_call 22; (with_reducible refine (HX0.out _ _ _ _ _ HW.out.1 HW.out.2 (Cl.Fit.nil _) 1 val (by decide) (by decide)).mono ?_); rintro e w16 ⟨rfl, h16⟩; replace HW := Lib.hid h16; clear h16; clear r0 r1 r2; obtain ⟨r0, r1, r2⟩ := HC1.out _ (HB.out.trans (HW.out.2.mono HB.out.size)))
    | (go_at_call 23; (with_reducible refine (HSt.out _ _ _ _ HW.out.1 HW.out.2).mono ?_); rintro e w17 ⟨rfl, h17⟩; replace HW := Lib.hid h17; clear h17 HSt; clear r0 r1 r2; obtain ⟨r0, r1, r2⟩ := HC1.out _ (HB.out.trans (HW.out.2.mono HB.out.size)))
    | (go_at_call 13; (with_reducible refine (HKs.out _ _ _ _ HW.out.1 HW.out.2).mono ?_); rintro e w18 ⟨⟨A18, c18, rfl⟩, h18⟩; replace HW := Lib.hid h18; clear h18; clear r0 r1 r2; obtain ⟨r0, r1, r2⟩ := HC1.out _ (HB.out.trans (HW.out.2.mono HB.out.size)))
    | (go_at_call 19; (with_reducible refine (HCh.out _ _ _ _ HW.out.1 HW.out.2).mono ?_); rintro e w19 ⟨A19, c19, rfl, h19⟩; have HS20 := Lib.hid (HSl.out _ _ _ _ _ h19.1 (List.mem_cons_self ..)); replace HW := Lib.hid h19; clear h19; clear r0 r1 r2; obtain ⟨r0, r1, r2⟩ := HC1.out _ (HB.out.trans (HW.out.2.mono HB.out.size)))
    | (go_at_call 18; refine (HRl.out _ _ HS20.out).mono ?_; rintro e w21 ⟨A21, c21, rfl, hs21, hb⟩; have HS21 := Lib.hid hs21; clear hs21 HS20; replace HW := Lib.hid (And.intro (HW.out.1.low K hb) (HW.out.2.trans (hb.mono HW.out.2.size))); clear hb; clear r0 r1 r2; obtain ⟨r0, r1, r2⟩ := HC1.out _ (HB.out.trans (HW.out.2.mono HB.out.size)))
    | (go_at_call 31; refine (HFr.out _).mono ?_; rintro e w22 ⟨A22, c22, rfl, hs22, hb⟩; have HS22 := Lib.hid hs22; replace HS21 := Lib.hid (HLow.out _ _ _ HS21.out hb); clear hs22; replace HW := Lib.hid (And.intro (HW.out.1.low K hb) (HW.out.2.trans (hb.mono HW.out.2.size))); clear hb; clear r0 r1 r2; obtain ⟨r0, r1, r2⟩ := HC1.out _ (HB.out.trans (HW.out.2.mono HB.out.size)))
    | (go_at_call 18; refine (HRl.out _ _ HS22.out).mono ?_; rintro e w23 ⟨A23, c23, rfl, hs23, hb⟩; have HS23 := Lib.hid hs23; replace HS21 := Lib.hid (HLow.out _ _ _ HS21.out hb); clear hs23 HS22; replace HW := Lib.hid (And.intro (HW.out.1.low K hb) (HW.out.2.trans (hb.mono HW.out.2.size))); clear hb; clear r0 r1 r2; obtain ⟨r0, r1, r2⟩ := HC1.out _ (HB.out.trans (HW.out.2.mono HB.out.size)))
    | (go_at_call 17; refine (HSm.out _ _ _ HS21.out HS23.out).mono ?_; rintro e w24 ⟨rfl, hb⟩; clear HS21 HS23; replace HW := Lib.hid (And.intro (HW.out.1.low K hb) (HW.out.2.trans (hb.mono HW.out.2.size))); clear hb; clear r0 r1 r2; obtain ⟨r0, r1, r2⟩ := HC1.out _ (HB.out.trans (HW.out.2.mono HB.out.size)))
    | (go_at_call 22; (with_reducible refine (HX0.out _ _ _ _ _ HW.out.1 HW.out.2 (Cl.Fit.nil _) 0 val (by decide) (by decide)).mono ?_); rintro e w25 ⟨rfl, h25⟩; rw [HF1.out.2] at h25; have e25 := HF1.out.1; replace HW := Lib.hid h25; clear h25; clear r0 r1 r2; obtain ⟨r0, r1, r2⟩ := HC1.out _ (HB.out.trans (HW.out.2.mono HB.out.size)))
    | (go_at_call 21; (with_reducible refine (HRd.out _ _ _ _ HW.out.1 HW.out.2).mono ?_); rintro e w26 ⟨rfl, h26⟩; have HW26 := Lib.hid h26; clear h26))
  go_ret
  exact ⟨rfl, HB0.out.trans ((HB.out.trans (HW26.out.mono HB.out.size)).mono HB0.out.size)⟩
end
end Go.Proofs.Ytpppjipelcfnkaa
