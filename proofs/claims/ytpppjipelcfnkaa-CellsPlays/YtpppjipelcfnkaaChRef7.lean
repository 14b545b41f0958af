/-
  Walks of the document's chain: Same (of what is the same); versions held against themselves.
-/
import Derived.Test.YtpppjipelcfnkaaChRef6
namespace Go.Proofs.Ytpppjipelcfnkaa
open Go.RowKit

theorem run_part10 {P : Program} {t : TypeId} {d : TypeDesc} (h : P.underlying t = some d) (hd : (match d with | .struct _ | .array _ _ => true | _ => false) = false) {xs : Array Value} {off : Nat} {v : Value} (hv : xs[off]? = some v) (w : World) :
    (part t xs off).run P w = .ok v w := by
  have ha : (isAgg t).run P w = .ok false w := by
    simp only [isAgg, Sem.run_bind, run_underlying h, Result.andThen_ok]
    cases d <;> first | rfl | simp at hd
  simp only [part, Sem.run_bind, ha, Result.andThen_ok, Bool.false_eq_true, if_false, hv]
  rfl

theorem undRv : Try.prog.underlying 76 = some (.struct (Try.prog.fieldsOf 76)) := by kernel_rfl
theorem heldRv : Try.prog.stoodInHeld 76 = false := by kernel_rfl
theorem undCv : Try.prog.underlying 49 = some (.struct (Try.prog.fieldsOf 49)) := by kernel_rfl
theorem heldCv : Try.prog.stoodInHeld 49 = false := by kernel_rfl

theorem equalIn_self {T : TypeId} (hu : Try.prog.underlying T = some (.struct (Try.prog.fieldsOf T))) (hh : Try.prog.stoodInHeld T = false)
    (hf : ∃ f0 f1 f2 f3 : Field, (Try.prog.fieldsOf T).toList = [f0, f1, f2, f3] ∧ (f0.name, f0.type, f0.offset) = ("Ts", 2, 0) ∧ (f1.name, f1.type, f1.offset) = ("Read", 2, 1) ∧ (f2.name, f2.type, f2.offset) = ("Val", 9, 2) ∧ (f3.name, f3.type, f3.offset) = ("Done", 4, 3))
    (d : Nat) (a b : Int) (s : ByteArray) (q : Bool) (w : World) :
    (Op.equalIn (d + 2) T (.agg #[.int .i64 a, .int .i64 b, .string s, .bool q]) (.agg #[.int .i64 a, .int .i64 b, .string s, .bool q])).run Try.prog w = .ok true w := by
  rw [run_equalIn_agg w (d + 1) _ _ _ hu hh]
  obtain ⟨f0, f1, f2, f3, hf, h0, h1, h2, h3⟩ := hf
  rw [hf]
  simp only [Prod.mk.injEq] at h0 h1 h2 h3
  have p0 := fun (w : World) => run_part10 (P := Try.prog) (t := 2) Try.underlying2 rfl (xs := #[.int .i64 a, .int .i64 b, .string s, .bool q]) (off := 0) (v := .int .i64 a) rfl w
  have p1 := fun (w : World) => run_part10 (P := Try.prog) (t := 2) Try.underlying2 rfl (xs := #[.int .i64 a, .int .i64 b, .string s, .bool q]) (off := 1) (v := .int .i64 b) rfl w
  have p2 := fun (w : World) => run_part10 (P := Try.prog) (t := 9) Try.underlying9 rfl (xs := #[.int .i64 a, .int .i64 b, .string s, .bool q]) (off := 2) (v := .string s) rfl w
  have p3 := fun (w : World) => run_part10 (P := Try.prog) (t := 4) Try.underlying4 rfl (xs := #[.int .i64 a, .int .i64 b, .string s, .bool q]) (off := 3) (v := .bool q) rfl w
  have e0 := fun (x : Int) (w : World) => run_equalIn_int (P := Try.prog) w d 2 .i64 .i64 x x Try.underlying2
  have e2 := fun (x : ByteArray) (w : World) => run_equalIn_string (P := Try.prog) w d 9 x x Try.underlying9
  have e3 := fun (x : Bool) (w : World) => run_equalIn_bool' (P := Try.prog) w d 4 x x Try.underlying4
  have n0 : "Ts" ≠ "_" := by decide
  have n1 : "Read" ≠ "_" := by decide
  have n2 : "Val" ≠ "_" := by decide
  have n3 : "Done" ≠ "_" := by decide
  simp only [Op.eqFields, h0, h1, h2, h3, if_pos n0, if_pos n1, if_pos n2, if_pos n3, Sem.run_bind, p0, p1, p2, p3, Result.andThen_ok, e0, e2, e3, beq_self_eq_true, Bool.not_true, Bool.false_eq_true, if_false, Sem.run_pure]

set_option maxRecDepth 100000 in
theorem neqR_self (a b : Int) (s : ByteArray) (q : Bool) (w : World) : (binOp .neq 76 (.agg #[.int .i64 a, .int .i64 b, .string s, .bool q]) (.agg #[.int .i64 a, .int .i64 b, .string s, .bool q])).run Try.prog w = .ok (.bool false) w := by
  rw [run_neq_struct, equalIn_self undRv heldRv ⟨_, _, _, _, rfl, rfl, rfl, rfl, rfl⟩ 9998]; rfl
set_option maxRecDepth 100000 in
theorem neqC_self (a b : Int) (s : ByteArray) (q : Bool) (w : World) : (binOp .neq 49 (.agg #[.int .i64 a, .int .i64 b, .string s, .bool q]) (.agg #[.int .i64 a, .int .i64 b, .string s, .bool q])).run Try.prog w = .ok (.bool false) w := by
  rw [run_neq_struct, equalIn_self undCv heldCv ⟨_, _, _, _, rfl, rfl, rfl, rfl, rfl⟩ 9998]; rfl

set_option maxRecDepth 100000 in
set_option maxHeartbeats 4000000 in
theorem rsame10_any {w : World} {F G : Nat → Prop} {va vb : Value} {c : Cn.Ch} (ha : SlC w F va c) (hb : SlC w G vb c) (hl : c.length ≤ 1000000) : Calls Try.prog 17 #[va, vb] w fun e w' => e = .returned (.bool true) ∧ Still w w' := by
  have HA := Lib.hid ha
  have HB := Lib.hid hb
  obtain ⟨A, capa, rfl, hca⟩ := SlC.form ha
  obtain ⟨B, capb, rfl, hcb⟩ := SlC.form hb
  clear ha hb
  go_enter Try.func17, Try.ntmps17
  go_wp2
  go_loopw [5] (fun i wr => ∃ k : Nat, k ≤ c.length ∧ i = .int .i64 (k : Int) ∧ Hid (Still w wr)) (fun i _ => c.length - (intOf i).toNat)
  case atStart => exact ⟨0, Nat.zero_le _, rfl, Lib.hid (Still.refl _)⟩
  case round =>
    obtain ⟨k, hk, rfl, HW⟩ := hrel
    by_cases hlt : k < c.length
    · have hlt' : (k : Int) < (c.length : Int) := by omega
      have hk0 : (0 : Int) ≤ (k : Int) := by omega
      obtain ⟨a, _, ea, _, _, x⟩ := HA.out.nth k hlt
      obtain ⟨b, _, eb, _, _, y⟩ := HB.out.nth k hlt
      cases ea
      cases eb
      obtain ⟨x0, x1, x2, x3⟩ := four_same HW.out.cell x
      obtain ⟨y0, y1, y2, y3⟩ := four_same HW.out.cell y
      clear x y
      have Q := neqR_self c[k].ts c[k].rd c[k].val c[k].done
      generalize c[k] = u at *
      go_wp2_with fail
      go_quiet (fail)
      rename_i nq
      go_wp2_with fail
      go_roundw
      case rel => exact ⟨k + 1, by omega, by go_num, Lib.hid (HW.out.drewN nq)⟩
      case measure => simp [intOf]; omega
    · have hlt' : ¬ (k : Int) < (c.length : Int) := by omega
      go_wp2
      go_ret
      exact ⟨rfl, HW.out⟩

end Go.Proofs.Ytpppjipelcfnkaa
