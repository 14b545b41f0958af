/-
  Layer cells' laws: the document's example.
-/
import Derived.Test.YtpppjipelcfnkaaClLaw4
namespace Go.Proofs.Ytpppjipelcfnkaa.Cl
def exA : Cs := writeX [] (keyN 1) 3 ⟨#[120]⟩
def exB : Cs := writeX exA (keyN 2) 4 ⟨#[121]⟩
def exC : Cs := commitX exB 3
def exD : Cs := abortX exC 4
def exE : Cs := readX exD (keyN 2) 9
theorem ex_facts11 : writeF [] (keyN 1) 3 = 0 ∧ writeF exA (keyN 2) 4 = 0 ∧ commitW exB 3 = [(keyN 1, ⟨#[120]⟩)] ∧ newest exD = [(keyN 1, ⟨#[120]⟩)] ∧ (readW exD (keyN 2) 9).val = ⟨#[]⟩ ∧ exE.length = 2 := by
  refine ⟨?_, ?_, ?_, ?_, ?_, ?_⟩
  · rfl
  · rfl
  · rfl
  · rfl
  · rfl
  · rfl
theorem ex_fit : Fit 200 [] ∧ Fit 200 exA ∧ Fit 200 exB ∧ Fit 200 exC ∧ Fit 200 exD ∧ Fit 200 exE :=
  have a := (Fit.nil 0).write (keyN 1) 3 ⟨#[120]⟩
  have b := a.write (keyN 2) 4 ⟨#[121]⟩
  have c := b.commit 3
  have d := c.abort 4
  have e := d.read (keyN 2) 9
  ⟨Fit.nil _, a.more (by omega), b.more (by omega), c.more (by omega), d.more (by omega), e.more (by omega)⟩
end Go.Proofs.Ytpppjipelcfnkaa.Cl

namespace Go.Proofs.Ytpppjipelcfnkaa
open Go.RowKit

set_option maxRecDepth 100000 in
theorem eqlW_self (x : Cl.Ky) (s : ByteArray) (w : World) : (binOp .eql 64 (.agg #[.int .i64 x.kind, .int .i64 x.a, .int .i64 x.b, .string s]) (.agg #[.int .i64 x.kind, .int .i64 x.a, .int .i64 x.b, .string s])).run Try.prog w = .ok (.bool true) w := by
  have e : (Op.equalIn 10000 64 (.agg #[.int .i64 x.kind, .int .i64 x.a, .int .i64 x.b, .string s]) (.agg #[.int .i64 x.kind, .int .i64 x.a, .int .i64 x.b, .string s])).run Try.prog w = .ok true w := by
    rw [run_equalIn_agg w 9999 _ _ _ undWr heldWr]
    obtain ⟨f0, f1, hf, h0, h1⟩ : ∃ f0 f1 : Field, (Try.prog.fieldsOf 64).toList = [f0, f1] ∧ (f0.name, f0.type, f0.offset) = ("K", 31, 0) ∧ (f1.name, f1.type, f1.offset) = ("V", 9, 3) := ⟨_, _, rfl, rfl, rfl⟩
    rw [hf]
    simp only [Prod.mk.injEq] at h0 h1
    have p0 := fun (w : World) => run_partK x.kind x.a x.b s w
    have p1 := fun (w : World) => run_part10 (P := Try.prog) (t := 9) Try.underlying9 rfl (xs := #[.int .i64 x.kind, .int .i64 x.a, .int .i64 x.b, .string s]) (off := 3) (v := .string s) rfl w
    have e0 := fun (w : World) => equalIn_key 9997 x x w
    have e1 := fun (w : World) => run_equalIn_string (P := Try.prog) w 9998 9 s s Try.underlying9
    have n0 : "K" ≠ "_" := by decide
    have n1 : "V" ≠ "_" := by decide
    simp only [Op.eqFields, h0, h1, if_pos n0, if_pos n1, Sem.run_bind, p0, p1, Result.andThen_ok, e0, e1, Cl.same_self, beq_self_eq_true, Bool.not_true, Bool.false_eq_true, if_false, Sem.run_pure]
  rw [run_eql_struct, e]; rfl

set_option maxRecDepth 100000 in
theorem field_val (a b : Int) (s : ByteArray) (q : Bool) (w : World) : (Instr.field 49 (.agg #[.int .i64 a, .int .i64 b, .string s, .bool q]) 2).run Try.prog w = .ok (.string s) w := by
  obtain ⟨f2, hf, h2⟩ : ∃ f2 : Field, (Try.prog.fieldsOf 49)[2]? = some f2 ∧ (f2.name, f2.type, f2.offset) = ("Val", 9, 2) := ⟨_, rfl, rfl⟩
  simp only [Prod.mk.injEq] at h2
  have p := run_part10 (P := Try.prog) (t := 9) Try.underlying9 rfl (xs := #[.int .i64 a, .int .i64 b, .string s, .bool q]) (off := 2) (v := .string s) rfl w
  simp [Instr.field, run_underlying undCv, hf, h2, asAgg, p]

section
variable {H : World → (Nat → Prop) → Value → Cl.Cs → Prop}

/-- the four cells of the example's write -/
def ExW (w : World) (a : Addr) : Prop := w.cell? a = some (.int .i64 1) ∧ w.cell? ⟨a.block, a.off + 1, none⟩ = some (.int .i64 1) ∧ w.cell? ⟨a.block, a.off + 2, none⟩ = some (.int .i64 0) ∧ w.cell? ⟨a.block, a.off + 3, none⟩ = some (.string ⟨#[120]⟩)
theorem Aw.exw {w wr : World} {v va : Value} {X : Cl.Cs} {R : List Row11} (h : Aw H w wr v X R) (hr : wrR va [(keyN 1, ⟨#[120]⟩)] ∈ R) : ∃ a cap, va = .slice (some a) 1 cap ∧ ExW wr a := by
  obtain ⟨a, cap, e, _, _, y0, y1, y2, y3⟩ := h.nthW hr 0 (by simp)
  rw [show a.add (0 * 4) = a by simp [Addr.add]] at y0 y1 y2 y3
  exact ⟨a, cap, e, y0, y1, y2, y3⟩
theorem Aw.exw_at {w wr : World} {v : Value} {X : Cl.Cs} {R : List Row11} {a : Addr} {cap : Nat} (h : Aw H w wr v X R) (hr : wrR (.slice (some a) 1 cap) [(keyN 1, ⟨#[120]⟩)] ∈ R) : ExW wr a := by
  obtain ⟨a', c', e, h⟩ := h.exw hr
  cases e
  exact h

set_option maxRecDepth 100000 in
set_option maxHeartbeats 4000000 in
theorem awake11_any (K : CellsOk H) (w : World) : Calls Try.prog 9 #[] w fun e w' => e = .returned (.bool true) ∧ Below w.heap.size w w' := by
  obtain ⟨x1, x2, x3, x4, x5, x6⟩ := Cl.ex_facts11
  obtain ⟨f0, f1, f2, f3, f4, f5⟩ := Cl.ex_fit
  have HK := Lib.hid K
  have H0 := Lib.hid (K.new w)
  have HW1 : Hid (∀ W v R, Aw H w W v [] R → Below w.heap.size w W → Calls Try.prog 22 #[v, keyA (keyN 1), .int .i64 3, .string ⟨#[120]⟩] W fun e w' => e = .returned (.int .i64 0) ∧ Aw H w w' v Cl.exA R ∧ Below w.heap.size w w') := Lib.hid (fun W v R h hb => by
    have := h.write K hb f0 (keyN 1) 3 ⟨#[120]⟩ (by decide) (by decide)
    rw [x1] at this
    exact this)
  have HW2 : Hid (∀ W v R, Aw H w W v Cl.exA R → Below w.heap.size w W → Calls Try.prog 22 #[v, keyA (keyN 2), .int .i64 4, .string ⟨#[121]⟩] W fun e w' => e = .returned (.int .i64 0) ∧ Aw H w w' v Cl.exB R ∧ Below w.heap.size w w') := Lib.hid (fun W v R h hb => by
    have := h.write K hb f1 (keyN 2) 4 ⟨#[121]⟩ (by decide) (by decide)
    rw [x2] at this
    exact this)
  have HC : Hid (∀ W v R, Aw H w W v Cl.exB R → Below w.heap.size w W → Calls Try.prog 25 #[v, .int .i64 3] W fun e w' => ∃ a c, e = .returned (.slice (some a) 1 c) ∧ Aw H w w' v Cl.exC (wrR (.slice (some a) 1 c) [(keyN 1, ⟨#[120]⟩)] :: R) ∧ Below w.heap.size w w') := Lib.hid (fun W v R h hb => by
    have := h.commit K hb f2 3 (by decide) (by decide)
    rw [x3] at this
    refine this.mono (fun e w' hh => ?_)
    obtain ⟨v', e, h1, h2⟩ := hh
    obtain ⟨a, c, rfl, _⟩ := h1.exw (List.mem_cons_self ..)
    exact ⟨a, c, e, h1, h2⟩)
  have HA : Hid (∀ W v R, Aw H w W v Cl.exC R → Below w.heap.size w W → Calls Try.prog 27 #[v, .int .i64 4] W fun e w' => e = .returned (.tuple #[]) ∧ Aw H w w' v Cl.exD R ∧ Below w.heap.size w w') := Lib.hid (fun W v R h hb => h.abort K hb f3 4 (by decide) (by decide))
  have HN : Hid (∀ W v R, Aw H w W v Cl.exD R → Below w.heap.size w W → Calls Try.prog 15 #[v] W fun e w' => ∃ a c, e = .returned (.slice (some a) 1 c) ∧ Aw H w w' v Cl.exD (wrR (.slice (some a) 1 c) [(keyN 1, ⟨#[120]⟩)] :: R) ∧ Below w.heap.size w w') := Lib.hid (fun W v R h hb => by
    have := h.newest K hb f4
    rw [x4] at this
    refine this.mono (fun e w' hh => ?_)
    obtain ⟨v', e, h1, h2⟩ := hh
    obtain ⟨a, c, rfl, _⟩ := h1.exw (List.mem_cons_self ..)
    exact ⟨a, c, e, h1, h2⟩)
  have HR : Hid (∀ W v R, Aw H w W v Cl.exD R → Below w.heap.size w W → Calls Try.prog 21 #[v, keyA (keyN 2), .int .i64 9] W fun e w' => (∃ a b q, e = .returned (.agg #[.int .i64 a, .int .i64 b, .string ⟨#[]⟩, .bool q])) ∧ Aw H w w' v Cl.exE R ∧ Below w.heap.size w w') := Lib.hid (fun W v R h hb => by
    refine (h.read K hb f4 (keyN 2) 9 (by decide) (by decide)).mono (fun e w' hh => ?_)
    obtain ⟨e, h1, h2⟩ := hh
    refine ⟨⟨(Cl.readW Cl.exD (keyN 2) 9).ts, (Cl.readW Cl.exD (keyN 2) 9).rd, (Cl.readW Cl.exD (keyN 2) 9).done, ?_⟩, h1, h2⟩
    rw [e]
    unfold verA
    rw [x5])
  have HY : Hid (∀ W v R, Aw H w W v Cl.exE R → Below w.heap.size w W → Calls Try.prog 13 #[v] W fun e w' => ∃ A c, e = .returned (.slice A 2 c) ∧ Aw H w w' v Cl.exE R ∧ Below w.heap.size w w') := Lib.hid (fun W v R h hb => by
    refine (h.keys K hb f5).mono (fun e w' hh => ?_)
    obtain ⟨v', e, h1, h2⟩ := hh
    obtain ⟨A, c, e2, _⟩ := h1.form (List.mem_cons_self ..)
    have e2 : v' = .slice A Cl.exE.length c := e2
    rw [x6] at e2
    subst e2
    exact ⟨A, c, e, h1.less (fun r q => List.mem_cons_of_mem _ q), h2⟩)
  have HKy : Hid (∀ W v X R n, Aw H w W v X R → Below w.heap.size w W → Calls Try.prog 26 #[.int .i64 n] W fun e w' => e = .returned (keyA (keyN n)) ∧ Aw H w w' v X R ∧ Below w.heap.size w w') := Lib.hid (fun W v X R n h hb => h.key K hb n)
  clear x1 x2 x3 x4 x5 x6 f0 f1 f2 f3 f4 f5
  have q := eqlW_self (keyN 1) ⟨#[120]⟩
  have q : ∀ w, (binOp .eql 64 (.agg #[.int .i64 1, .int .i64 1, .int .i64 0, .string ⟨#[120]⟩]) (.agg #[.int .i64 1, .int .i64 1, .int .i64 0, .string ⟨#[120]⟩])).run Try.prog w = .ok (.bool true) w := q
  have qf := fun a b q w => field_val a b ⟨#[]⟩ q w
  go_enter Try.func9, Try.ntmps9
  go_wp2_with (first
    | (go_at_call 10; refine H0.out.mono ?_; rintro e w1 ⟨v1, rfl, hs1, b1⟩; have HW : Hid (Aw H w w1 v1 [] [] ∧ Below w.heap.size w w1) := Lib.hid ⟨⟨_, hs1, fun b q => q.1, fun r hr => by cases hr⟩, b1⟩; clear hs1 b1 H0)
    | (go_at_call 26; refine (HKy.out _ _ _ _ _ HW.out.1 HW.out.2).mono ?_; rintro e w2 ⟨rfl, h2⟩; replace HW := Lib.hid h2; clear h2)
    | (go_at_call 22; refine (HW1.out _ _ _ HW.out.1 HW.out.2).mono ?_; rintro e w3 ⟨rfl, h3⟩; replace HW := Lib.hid h3; clear h3 HW1)
    | (go_at_call 22; refine (HW2.out _ _ _ HW.out.1 HW.out.2).mono ?_; rintro e w3 ⟨rfl, h3⟩; replace HW := Lib.hid h3; clear h3)
    | (go_at_call 25; refine (HC.out _ _ _ HW.out.1 HW.out.2).mono ?_; rintro e w4 ⟨a4, c4, rfl, h4⟩; replace HW := Lib.hid h4; clear h4)
    | (go_at_call 27; refine (HA.out _ _ _ HW.out.1 HW.out.2).mono ?_; rintro e w5 ⟨rfl, h5⟩; replace HW := Lib.hid h5; clear h5)
    | (go_at_call 15; refine (HN.out _ _ _ HW.out.1 HW.out.2).mono ?_; rintro e w6 ⟨a6, c6, rfl, h6⟩; replace HW := Lib.hid h6; clear h6))
  have HX : Hid (∀ w' X, Aw H w w' v1 X [wrR (.slice (some a6) 1 c6) [(keyN 1, ⟨#[120]⟩)], wrR (.slice (some a4) 1 c4) [(keyN 1, ⟨#[120]⟩)]] → w'.cell? a4 = some (.int .i64 1) ∧ w'.cell? ⟨a4.block, a4.off + 1, none⟩ = some (.int .i64 1) ∧ w'.cell? ⟨a4.block, a4.off + 2, none⟩ = some (.int .i64 0) ∧ w'.cell? ⟨a4.block, a4.off + 3, none⟩ = some (.string ⟨#[120]⟩) ∧ w'.cell? a6 = some (.int .i64 1) ∧ w'.cell? ⟨a6.block, a6.off + 1, none⟩ = some (.int .i64 1) ∧ w'.cell? ⟨a6.block, a6.off + 2, none⟩ = some (.int .i64 0) ∧ w'.cell? ⟨a6.block, a6.off + 3, none⟩ = some (.string ⟨#[120]⟩)) := Lib.hid (fun w' X h => by
    obtain ⟨y0, y1, y2, y3⟩ := h.exw_at (List.mem_cons_of_mem _ (List.mem_cons_self ..))
    obtain ⟨z0, z1, z2, z3⟩ := h.exw_at (List.mem_cons_self ..)
    exact ⟨y0, y1, y2, y3, z0, z1, z2, z3⟩)
  have HD : Hid (Aw H w w6.drew v1 Cl.exD [wrR (.slice (some a6) 1 c6) [(keyN 1, ⟨#[120]⟩)], wrR (.slice (some a4) 1 c4) [(keyN 1, ⟨#[120]⟩)]] ∧ Below w.heap.size w w6.drew) := Lib.hid ⟨HW.out.1.low K (Below.drew (Below.refl _ _)), HW.out.2.drew⟩
  have hSd := HX.out _ _ HD.out.1
  clear HW HW2 HC HA HN
  go_region_held3 (fun w' => w'.cell? a4 = some (.int .i64 1) ∧ w'.cell? ⟨a4.block, a4.off + 1, none⟩ = some (.int .i64 1) ∧ w'.cell? ⟨a4.block, a4.off + 2, none⟩ = some (.int .i64 0) ∧ w'.cell? ⟨a4.block, a4.off + 3, none⟩ = some (.string ⟨#[120]⟩) ∧ w'.cell? a6 = some (.int .i64 1) ∧ w'.cell? ⟨a6.block, a6.off + 1, none⟩ = some (.int .i64 1) ∧ w'.cell? ⟨a6.block, a6.off + 2, none⟩ = some (.int .i64 0) ∧ w'.cell? ⟨a6.block, a6.off + 3, none⟩ = some (.string ⟨#[120]⟩))
    (first | with_reducible assumption | go_keep)
    (first
      | (go_at_call 26
         (with_reducible refine (HKy.out _ _ _ _ _ HD.out.1 HD.out.2).mono ?_)
         rintro e w7 ⟨rfl, h7⟩
         have HA7 := Lib.hid h7
         have hS7 := HX.out _ _ HA7.out.1)
      | (go_at_call 21
         (with_reducible refine (HR.out _ _ _ HA7.out.1 HA7.out.2).mono ?_)
         rintro e w8 ⟨⟨ra, rb, rq, rfl⟩, h8⟩
         have HA8 := Lib.hid h8
         have hS8 := HX.out _ _ HA8.out.1)
      | (go_at_call 13
         (with_reducible refine (HY.out _ _ _ HA8.out.1 HA8.out.2).mono ?_)
         rintro e w9 ⟨A9, c9, rfl, h9⟩
         have HA9 := Lib.hid h9
         have hS9 := HX.out _ _ HA9.out.1))
  all_goals (try go_wp2_with fail)
  go_ret
  exact ⟨rfl, HA9.out.2⟩
end
end Go.Proofs.Ytpppjipelcfnkaa
