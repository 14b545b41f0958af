/-
  Layer cells' calls as contracts (CellsOk); walks of its laws' helpers: real, made, key, few.
-/
import Derived.Test.YtmlocdfjjgbnjaaClDds
import Derived.Test.YtmlocdfjjgbnjaaChLaw1
import Derived.Test.YtmlocdfjjgbnjaaTn
namespace Go.Proofs.Ytmlocdfjjgbnjaa
open Go.RowKit

/-- the three cells of a key -/
def keyC (p : Cl.Ky × Cn.Ch) : List Value := [.int .i64 p.1.kind, .int .i64 p.1.a, .int .i64 p.1.b]

/-- the calls of package cells; H w F v X: the pointer v holds the cells X, in blocks of which F holds -/
structure CellsOk (H : World → (Nat → Prop) → Value → Cl.Cs → Prop) : Prop where
  lt : ∀ {w F v X}, H w F v X → ∀ b, F b → b < w.heap.size
  keep : ∀ {w F v X w'}, H w F v X → (∀ b, F b → w'.heap[b]? = w.heap[b]?) → w.heap.size ≤ w'.heap.size → H w' F v X
  ord : ∀ {w F v X}, H w F v X → Cl.Ord X
  ptr : ∀ {w F v X}, H w F v X → ∃ a : Addr, v = .pointer (some a)
  less : ∀ (x y : Cl.Ky) (w : World), Calls Try.prog 46 #[keyA x, keyA y] w fun e w' => e = .returned (.bool (Cl.less x y)) ∧ Below w.heap.size w w'
  new : ∀ w : World, Calls Try.prog 42 #[] w fun e w' => ∃ v, e = .returned v ∧ H w' (S.New w w') v [] ∧ Below w.heap.size w w'
  set : ∀ {w F v X} {vc : Value} {c : Cn.Ch}, H w F v X → Cl.Fit 200 X → SlC w (Out F w) vc c → c.length ≤ 200 → ∀ (k : Cl.Ky),
    Calls Try.prog 43 #[v, keyA k, vc] w fun e w' => e = .returned (.tuple #[]) ∧ H w' (More F w w') v (Cl.setX X k c) ∧ Turn F w w'
  chain : ∀ {w F v X}, H w F v X → Cl.Fit 200 X → ∀ (k : Cl.Ky),
    Calls Try.prog 29 #[v, keyA k] w fun e w' => ∃ v', e = .returned v' ∧ SlC w' (S.New w w') v' (Cl.chain X k) ∧ Below w.heap.size w w'
  keys : ∀ {w F v X}, H w F v X → Cl.Fit 200 X →
    Calls Try.prog 27 #[v] w fun e w' => ∃ v', e = .returned v' ∧ S.Sg w' (S.New w w') 3 v' X.length (X.flatMap keyC) ∧ Below w.heap.size w w'
  newest : ∀ {w F v X}, H w F v X → Cl.Fit 200 X →
    Calls Try.prog 30 #[v] w fun e w' => ∃ v', e = .returned v' ∧ S.Sg w' (S.New w w') 4 v' (Cl.newest X).length ((Cl.newest X).flatMap clW) ∧ Below w.heap.size w w'

/-- the calls of a Cells that is nil -/
structure CellsNil : Prop where
  set : ∀ {w G} {vc : Value} {c : Cn.Ch}, SlC w G vc c → (∀ b, G b → b < w.heap.size) → c.length ≤ 200 → ∀ (k : Cl.Ky), Calls Try.prog 43 #[.pointer none, keyA k, vc] w fun e w' => e = .returned (.tuple #[]) ∧ Below w.heap.size w w'
  chain : ∀ (k : Cl.Ky) (w : World), Calls Try.prog 29 #[.pointer none, keyA k] w fun e w' => ∃ v', e = .returned v' ∧ SlC w' (S.New w w') v' Cn.fresh ∧ Below w.heap.size w w'
  keys : ∀ w : World, Calls Try.prog 27 #[.pointer none] w fun e w' => (∃ A c, e = .returned (.slice A 0 c)) ∧ Below w.heap.size w w'
  newest : ∀ w : World, Calls Try.prog 30 #[.pointer none] w fun e w' => (∃ A c, e = .returned (.slice A 0 c)) ∧ Below w.heap.size w w'

section
variable {H : World → (Nat → Prop) → Value → Cl.Cs → Prop} {w w' : World} {F G : Nat → Prop} {v : Value} {X : Cl.Cs}
theorem CellsOk.below (K : CellsOk H) (h : H w F v X) (hb : Below w.heap.size w w') : H w' F v X := K.keep h (fun b hF => hb.block b (K.lt h b hF)) hb.size
theorem CellsOk.turn (K : CellsOk H) (h : H w F v X) (ht : Turn G w w') (hd : ∀ b, F b → ¬ G b) : H w' F v X := K.keep h (fun b hF => ht.block b (K.lt h b hF) (hd b hF)) ht.size
end

theorem infoKy : (Try.prog.info? 50).map (·.size) = some 3 := by kernel_rfl
def keyN (n : Int) : Cl.Ky := ⟨1, n, 0⟩

end Go.Proofs.Ytmlocdfjjgbnjaa
