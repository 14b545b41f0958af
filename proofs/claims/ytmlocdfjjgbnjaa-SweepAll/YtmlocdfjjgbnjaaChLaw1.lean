/-
  Layer chain's calls as contracts (ChainOk); walks of its laws' helpers: real, made.
-/
import Derived.Test.YtmlocdfjjgbnjaaJQ
import Derived.Test.YtmlocdfjjgbnjaaJB
namespace Go.Proofs.Ytmlocdfjjgbnjaa
open Go.RowKit

/-- the calls of package chain, over chains in memory -/
structure ChainOk : Prop where
  fresh : ∀ w : World, Calls Try.prog 39 #[] w fun e w' => ∃ v', e = .returned v' ∧ SlC w' (S.New w w') v' Cn.fresh ∧ Below w.heap.size w w'
  may : ∀ {w : World} {F : Nat → Prop} {v : Value} {c : Cn.Ch}, SlC w F v c → (∀ b, F b → b < w.heap.size) → c.length ≤ 1000 →
    Calls Try.prog 23 #[v] w fun e w' => e = .returned (.bool (Cn.mayB c)) ∧ Below w.heap.size w w'
  look : ∀ {w : World} {F : Nat → Prop} {v : Value} {c : Cn.Ch}, SlC w F v c → (∀ b, F b → b < w.heap.size) → c.length ≤ 1000 → ∀ ts : Int, -9223372036854775808 ≤ ts → ts ≤ 9223372036854775807 →
    Calls Try.prog 20 #[v, .int .i64 ts] w fun e w' => e = .returned (.int .i64 (Cn.look c ts)) ∧ Below w.heap.size w w'
  read : ∀ {w : World} {F : Nat → Prop} {v : Value} {c : Cn.Ch}, SlC w F v c → (∀ b, F b → b < w.heap.size) → c.length ≤ 1000 → ∀ ts : Int, -9223372036854775808 ≤ ts → ts ≤ 9223372036854775807 →
    Calls Try.prog 21 #[v, .int .i64 ts] w fun e w' => ∃ v', e = .returned (.tuple #[v', verA (Cn.readV c ts)]) ∧ SlC w' (fun b => F b ∨ S.New w w' b) v' (Cn.readC c ts) ∧ Below w.heap.size w w'
  write : ∀ {w : World} {F : Nat → Prop} {v : Value} {c : Cn.Ch}, SlC w F v c → (∀ b, F b → b < w.heap.size) → c.length ≤ 1000 → ∀ (ts : Int) (val : ByteArray), -9223372036854775808 ≤ ts → ts ≤ 9223372036854775807 →
    Calls Try.prog 22 #[v, .int .i64 ts, .string val] w fun e w' => ∃ v', e = .returned (.tuple #[v', .int .i64 (Cn.writeE c ts)]) ∧ SlC w' (fun b => F b ∨ S.New w w' b) v' (Cn.writeC c ts val) ∧ Below w.heap.size w w'
theorem elCv : S.El Try.prog 25 40 4 40 := by
  obtain ⟨i0, hi, hz0, hz1, hz2⟩ := info_parts (show (Try.prog.info? 40).map (fun i => (i.zero, i.size, i.bytes)) = some (some (.agg #[.int .i64 0, .int .i64 0, .string ⟨#[]⟩, .bool false]), 4, 40) by kernel_rfl)
  exact ⟨Try.underlying25, ⟨i0, _, hi, hz0, hz1, hz2, rfl⟩, by decide⟩

end Go.Proofs.Ytmlocdfjjgbnjaa
