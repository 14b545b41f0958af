/-
  What a call turns: nothing that was there but the blocks of an object's own. No program's function stands here.
-/
import Derived.Test.YtmlocdfjjgbnjaaJA
namespace Go.Proofs.Ytmlocdfjjgbnjaa
open Go.RowKit

/-- outside of the blocks of which F holds the world w' is as w was -/
structure Turn (F : Nat → Prop) (w w' : World) : Prop where
  os : w'.os = w.os
  tape : w'.tape = w.tape
  output : w'.output = w.output
  size : w.heap.size ≤ w'.heap.size
  block : ∀ k, k < w.heap.size → ¬ F k → w'.heap[k]? = w.heap[k]?

section
variable {F G : Nat → Prop} {B : Nat} {w w1 w' : World}

theorem Turn.below (h : Turn F w w') (hB : B ≤ w.heap.size) (hF : ∀ b, F b → B ≤ b) : Below B w w' :=
  ⟨h.os, h.tape, h.output, h.size, fun k hk => h.block k (by omega) (fun g => by have := hF k g; omega)⟩
theorem Turn.of_below (h : Below w.heap.size w w') : Turn F w w' := ⟨h.os, h.tape, h.output, h.size, fun k hk _ => h.block k hk⟩
theorem Turn.cell (h : Turn F w w') {p : Addr} (hp : p.block < w.heap.size) (hF : ¬ F p.block) : w'.cell? p = w.cell? p := World.cell?_of_block (h.block _ hp hF)
theorem Turn.frozen (h : Turn F w w') {p : Addr} (hp : p.block < w.heap.size) (hF : ¬ F p.block) : w'.frozen? p = w.frozen? p := World.frozen?_of_block (h.block _ hp hF)
end

/-- blocks of F, and those that were made since -/
abbrev More (F : Nat → Prop) (w w' : World) : Nat → Prop := fun b => F b ∨ S.New w w' b

theorem Turn.trans' {F : Nat → Prop} {w w1 w2 : World} (h : Turn F w w1) (hb : Below w1.heap.size w1 w2) : Turn F w w2 :=
  ⟨hb.os.trans h.os, hb.tape.trans h.tape, hb.output.trans h.output, Nat.le_trans h.size hb.size, fun k hk hF => (hb.block k (Nat.lt_of_lt_of_le hk h.size)).trans (h.block k hk hF)⟩
theorem Turn.setCell {F : Nat → Prop} {w w1 : World} (h : Turn F w w1) {p : Nat} (hp : w.heap.size ≤ p) (o : Nat) (u : Value) : Turn F w (w1.setCell ⟨p, o, none⟩ u) :=
  ⟨h.os, h.tape, h.output, by simpa [World.setCell] using h.size, fun k hk hF => (Below.heap_setCell w1 ⟨p, o, none⟩ u k (show k ≠ p by omega)).trans (h.block k hk hF)⟩
/-- ahead of it some blocks were made -/
theorem Turn.after {F : Nat → Prop} {w w1 w2 : World} (hb : Below w.heap.size w w1) (h : Turn F w1 w2) : Turn F w w2 :=
  ⟨h.os.trans hb.os, h.tape.trans hb.tape, h.output.trans hb.output, Nat.le_trans hb.size h.size, fun k hk hF => (h.block k (Nat.lt_of_lt_of_le hk hb.size) hF).trans (hb.block k hk)⟩

section
variable {F G : Nat → Prop} {B : Nat} {w w1 w2 : World}
theorem Turn.refl (F : Nat → Prop) (w : World) : Turn F w w := Turn.of_below (Below.refl _ _)
theorem Turn.wider (h : Turn F w w1) (hF : ∀ b, F b → G b) : Turn G w w1 := ⟨h.os, h.tape, h.output, h.size, fun k hk hn => h.block k hk (fun g => hn (hF k g))⟩
/-- two calls, one behind the other: the second one turns what the first one made, too -/
theorem Turn.trans (h : Turn F w w1) (k : Turn G w1 w2) (hG : ∀ b, G b → More F w w1 b) : Turn F w w2 :=
  ⟨k.os.trans h.os, k.tape.trans h.tape, k.output.trans h.output, Nat.le_trans h.size k.size, fun b hb hF => (k.block b (Nat.lt_of_lt_of_le hb h.size) (fun g => (hG b g).elim hF (fun q => by have := q.1; omega))).trans (h.block b hb hF)⟩
/-- blocks that are no object's of these -/
def Out (F : Nat → Prop) (w : World) (b : Nat) : Prop := b < w.heap.size ∧ ¬ F b
theorem Out.lt {b : Nat} (h : Out F w b) : b < w.heap.size := h.1
theorem Out.next {F' : Nat → Prop} {b : Nat} (h : Out F w b) (hs : w.heap.size ≤ w1.heap.size) (hF : ∀ b, F' b → More F w w1 b) : Out F' w1 b :=
  ⟨Nat.lt_of_lt_of_le h.1 hs, fun g => (hF b g).elim h.2 (fun q => by have := q.1; have := h.1; omega)⟩
theorem Out.made {b : Nat} (h : S.New w w1 b) (hF : ∀ b, F b → b < w.heap.size) : Out F w1 b := ⟨h.2, fun g => by have := hF b g; have := h.1; omega⟩
theorem S.Sg.turn {k n : Nat} {v : Value} {cs : List Value} (h : S.Sg w (Out F w) k v n cs) (ht : Turn F w w1) : S.Sg w1 (Out F w) k v n cs := h.keep fun _ hp => ht.cell hp.1 hp.2
end

end Go.Proofs.Ytmlocdfjjgbnjaa
