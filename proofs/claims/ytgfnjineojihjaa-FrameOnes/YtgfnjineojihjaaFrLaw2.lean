/-
  Frames of the document compared.
-/
import Derived.Test.YtgfnjineojihjaaFrLaw1
namespace Go.Proofs.Ytgfnjineojihjaa
open Go.RowKit

def same4 (a b c : Int) (s : ByteArray) (a' b' c' : Int) (s' : ByteArray) : Bool := (a == a') && ((b == b') && ((c == c') && (s.toList == s'.toList)))

theorem undF : Try.prog.underlying 33 = some (.struct (Try.prog.fieldsOf 33)) := by kernel_rfl
theorem heldF : Try.prog.stoodInHeld 33 = false := by kernel_rfl

theorem run_part {P : Program} {t : TypeId} {d : TypeDesc} (h : P.underlying t = some d) (hd : (match d with | .struct _ | .array _ _ => true | _ => false) = false) {xs : Array Value} {off : Nat} {v : Value} (hv : xs[off]? = some v) (w : World) :
    (part t xs off).run P w = .ok v w := by
  have ha : (isAgg t).run P w = .ok false w := by
    simp only [isAgg, Sem.run_bind, run_underlying h, Result.andThen_ok]
    cases d <;> first | rfl | simp at hd
  simp only [part, Sem.run_bind, ha, Result.andThen_ok, Bool.false_eq_true, if_false, hv]
  rfl

set_option linter.unusedSimpArgs false in
set_option maxHeartbeats 1000000 in
theorem equalIn_fr (d : Nat) (a b c a' b' c' : Int) (s s' : ByteArray) (w : World) :
    (Op.equalIn (d + 2) 33 (.agg #[.int .u32 a, .int .u32 b, .int .u8 c, .string s]) (.agg #[.int .u32 a', .int .u32 b', .int .u8 c', .string s'])).run Try.prog w = .ok (same4 a b c s a' b' c' s') w := by
  rw [run_equalIn_agg w (d + 1) _ _ _ undF heldF]
  obtain ⟨f0, f1, f2, f3, hf, h0, h1, h2, h3⟩ : ∃ f0 f1 f2 f3 : Field, (Try.prog.fieldsOf 33).toList = [f0, f1, f2, f3] ∧ (f0.name, f0.type, f0.offset) = ("Epoch", 22, 0) ∧ (f1.name, f1.type, f1.offset) = ("Seq", 22, 1) ∧ (f2.name, f2.type, f2.offset) = ("Flag", 5, 2) ∧ (f3.name, f3.type, f3.offset) = ("Body", 9, 3) :=
    ⟨_, _, _, _, rfl, rfl, rfl, rfl, rfl⟩
  rw [hf]
  simp only [Prod.mk.injEq] at h0 h1 h2 h3
  have p0 := fun (x y z : Int) (t : ByteArray) (w : World) => run_part (P := Try.prog) (t := 22) Try.underlying22 rfl (xs := #[.int .u32 x, .int .u32 y, .int .u8 z, .string t]) (off := 0) (v := .int .u32 x) rfl w
  have p1 := fun (x y z : Int) (t : ByteArray) (w : World) => run_part (P := Try.prog) (t := 22) Try.underlying22 rfl (xs := #[.int .u32 x, .int .u32 y, .int .u8 z, .string t]) (off := 1) (v := .int .u32 y) rfl w
  have p2 := fun (x y z : Int) (t : ByteArray) (w : World) => run_part (P := Try.prog) (t := 5) Try.underlying5 rfl (xs := #[.int .u32 x, .int .u32 y, .int .u8 z, .string t]) (off := 2) (v := .int .u8 z) rfl w
  have p3 := fun (x y z : Int) (t : ByteArray) (w : World) => run_part (P := Try.prog) (t := 9) Try.underlying9 rfl (xs := #[.int .u32 x, .int .u32 y, .int .u8 z, .string t]) (off := 3) (v := .string t) rfl w
  have e0 := fun (x y : Int) (w : World) => run_equalIn_int (P := Try.prog) w d 22 .u32 .u32 x y Try.underlying22
  have e2 := fun (x y : Int) (w : World) => run_equalIn_int (P := Try.prog) w d 5 .u8 .u8 x y Try.underlying5
  have e3 := fun (x y : ByteArray) (w : World) => run_equalIn_string (P := Try.prog) w d 9 x y Try.underlying9
  have n0 : "Epoch" ≠ "_" := by decide
  have n1 : "Seq" ≠ "_" := by decide
  have n2 : "Flag" ≠ "_" := by decide
  have n3 : "Body" ≠ "_" := by decide
  cases g1 : (a == a') <;> cases g2 : (b == b') <;> cases g3 : (c == c') <;> cases g4 : (s.toList == s'.toList) <;>
    simp only [Op.eqFields, h0, h1, h2, h3, if_pos n0, if_pos n1, if_pos n2, if_pos n3, Sem.run_bind, p0, p1, p2, p3, Result.andThen_ok, e0, e2, e3, g1, g2, g3, g4, same4, Bool.not_true, Bool.not_false, Bool.false_eq_true, if_true, if_false, Sem.run_pure, Bool.and_true, Bool.and_false]

/-- whether two frames are the same -/
def sameF (f g : R.Fr) : Bool := same4 f.epoch f.seq f.flag.toNat ⟨f.body.toArray⟩ g.epoch g.seq g.flag.toNat ⟨g.body.toArray⟩

theorem eql_fr (w : World) (f g : R.Fr) : (binOp .eql 33 (frA f) (frA g)).run Try.prog w = .ok (.bool (sameF f g)) w := by
  rw [run_eql_struct, equalIn_fr 9998]; rfl
theorem neq_fr (w : World) (f g : R.Fr) : (binOp .neq 33 (frA f) (frA g)).run Try.prog w = .ok (.bool (!sameF f g)) w := by
  rw [run_neq_struct, equalIn_fr 9998]; rfl

theorem sameF_iff (f g : R.Fr) : sameF f g = true ↔ f = g := by
  obtain ⟨a, b, c, s⟩ := f
  obtain ⟨a', b', c', s'⟩ := g
  unfold sameF same4
  rw [ByteArray.toList_eq, ByteArray.toList_eq]
  simp only [Bool.and_eq_true, beq_iff_eq, R.Fr.mk.injEq]
  constructor
  · rintro ⟨h1, h2, h3, h4⟩
    exact ⟨by omega, by omega, UInt8.toNat_inj.1 (by omega), by simpa using h4⟩
  · rintro ⟨rfl, rfl, rfl, rfl⟩
    exact ⟨rfl, rfl, rfl, rfl⟩
theorem sameF_self (f : R.Fr) : sameF f f = true := (sameF_iff f f).2 rfl
theorem sameF_no {f g : R.Fr} (h : f ≠ g) : sameF f g = false := by rw [← Bool.not_eq_true, sameF_iff]; exact h

end Go.Proofs.Ytgfnjineojihjaa
