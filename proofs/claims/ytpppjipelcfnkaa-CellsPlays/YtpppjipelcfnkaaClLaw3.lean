/-
  Walks of layer cells' laws' helpers: run.
-/
import Derived.Test.YtpppjipelcfnkaaClLaw2
namespace Go.Proofs.Ytpppjipelcfnkaa
open Go.RowKit

section
variable {H : World → (Nat → Prop) → Value → Cl.Cs → Prop}

/-- the object v holds X, in blocks that were made since w -/
def Ob (H : World → (Nat → Prop) → Value → Cl.Cs → Prop) (w wr : World) (v : Value) (X : Cl.Cs) : Prop := ∃ F, H wr F v X ∧ ∀ b, F b → w.heap.size ≤ b
/-- .. and vx the document's cells X, apart from it -/
def Ob2 (H : World → (Nat → Prop) → Value → Cl.Cs → Prop) (w wr : World) (v vx : Value) (X : Cl.Cs) : Prop := ∃ F, H wr F v X ∧ (∀ b, F b → w.heap.size ≤ b) ∧ Cls wr (Out F wr) vx X

theorem Ob2.did (K : CellsOk H) {w wr : World} {v vx vl : Value} {X : Cl.Cs} {G : Nat → Prop} (h : Ob2 H w wr v vx X) (hb : Below w.heap.size w wr) (d : Dd11) (hd : d.Ok) (hf : Cl.Fit 100 X) (hl : SlC wr G vl d.l) (hG : ∀ b, G b → b < w.heap.size) (hll : d.l.length ≤ 20) :
    Calls Try.prog 12 #[v, vx, .agg #[.int .i64 d.kind, .int .i64 d.k.kind, .int .i64 d.k.a, .int .i64 d.k.b, .int .i64 d.ts, .string d.val, vl]] wr fun e w' => ∃ vx', e = .returned (.tuple #[vx', .bool true]) ∧ Ob2 H w w' v vx' (Cl.deedX X d) ∧ Below w.heap.size w w' := by
  obtain ⟨F, hh, hF, hx⟩ := h
  refine (do11_any K d hh hx hf hd (S.Sg.wider hl (fun b q => ⟨Nat.lt_of_lt_of_le (hG b q) hb.size, fun g => by have := hF b g; have := hG b q; omega⟩)) hll).mono (fun e w' hd => ?_)
  obtain ⟨vx', F', rfl, h1, h2, h3, h4⟩ := hd
  exact ⟨vx', rfl, ⟨F', h1, fun b q => (h3 b q).elim (hF b) (fun g => Nat.le_trans hb.size g.1), h2⟩, hb.trans (h4.below hb.size hF)⟩

set_option maxRecDepth 100000 in
set_option maxHeartbeats 4000000 in
theorem run11_any (K : CellsOk H) {w : World} {vd : Value} {ld : List Dd11} {G0 : Nat → Prop} (hD : Dds11 w G0 vd ld) (hG0 : ∀ b, G0 b → b < w.heap.size) (hfew : Few ld) :
    Calls Try.prog 20 #[vd] w fun e w' => ∃ v, e = .returned v ∧ Ob H w w' v (Cl.runX ld) ∧ Cl.Fit 50 (Cl.runX ld) ∧ Below w.heap.size w w' := by
  have HD := Lib.hid hD
  have HFw := Lib.hid hfew
  have HG := Lib.hid hG0
  have HK := Lib.hid K
  obtain ⟨Ad, capd, rfl, hcd⟩ := hD.form
  have hl50 := hfew.len
  clear hD hfew hG0
  have H0 := Lib.hid (K.new w)
  go_enter Try.func20, Try.ntmps20
  go_wp2_with (first
    | (go_at_call 10; refine H0.out.mono ?_; rintro e w1 ⟨v1, rfl, hs1, b1⟩))
  have HL1 : Hid (Ob2 H w w1 v1 (.slice none 0 0) []) := Lib.hid ⟨_, hs1, fun b q => q.1, Cls.nil ..⟩
  have HB1 := Lib.hid b1
  clear hs1 b1 H0
  go_loopw [4, 5] (fun vx v wr => ∃ (i : Nat) (X : Cl.Cs), i ≤ ld.length ∧ v = .int .i64 (i : Int) ∧ Hid (Ob2 H w wr v1 vx X) ∧ Hid (X = Cl.runX (ld.take i) ∧ Cl.Fit i X) ∧ Hid (Below w.heap.size w wr)) (fun _ v _ => ld.length - (intOf v).toNat)
  case atStart => exact ⟨0, [], by omega, rfl, HL1, Lib.hid ⟨rfl, Cl.Fit.nil 0⟩, HB1⟩
  case round =>
    clear HL1 HB1
    obtain ⟨i, X, hi, rfl, HC, HX, HB⟩ := hrel
    by_cases hil : i < ld.length
    · have hil' : (i : Int) < (ld.length : Int) := by omega
      have hi0' : (0 : Int) ≤ (i : Int) := by omega
      obtain ⟨ad, _, ed, _, hGd, hok, hdc⟩ := (HD.out.below HB.out HG.out).nth i hil
      cases ed
      have h20 := HFw.out.ch _ (List.getElem_mem hil)
      have HN : Hid (Cl.deedX X ld[i] = Cl.runX (ld.take (i + 1)) ∧ Cl.Fit (i + 1) (Cl.deedX X ld[i])) := Lib.hid ⟨by rw [List.take_succ_eq_append_getElem hil, Cl.runX_snoc, HX.out.1], HX.out.2.deed _ h20⟩
      generalize ld[i] = Z at *
      obtain ⟨Al, cl, y6, hsl⟩ := hdc.last
      have HO := Lib.hid (HC.out.did K HB.out Z hok (HX.out.2.more (by omega)) hsl HG.out h20)
      obtain ⟨y0, y1, y2, y3, y4, y5, _⟩ := hdc
      generalize Cl.deedX X Z = Y at *
      clear HC HX h20 hok hsl
      go_wp2_with (first
        | (go_at_call 12; refine HO.out.mono ?_; rintro e w2 ⟨v2, rfl, hs2, b2⟩))
      have HB2 := Lib.hid b2
      have HL2 := Lib.hid hs2
      clear hs2 b2 HO
      go_wp2_with fail
      go_roundw
      case rel => exact ⟨i + 1, Y, by omega, by go_num, HL2, HN, HB2⟩
      case measure => simp [intOf]; omega
    · obtain rfl : i = ld.length := by omega
      have hNo : ¬ ((ld.length : Int) < (ld.length : Int)) := by omega
      go_wp2
      go_ret
      obtain ⟨F, h1, h2, _⟩ := HC.out
      have hX := HX.out
      rw [List.take_length] at hX
      obtain ⟨rfl, hF⟩ := hX
      exact ⟨_, rfl, ⟨F, h1, h2⟩, hF.more hl50, HB.out⟩
end
end Go.Proofs.Ytpppjipelcfnkaa
