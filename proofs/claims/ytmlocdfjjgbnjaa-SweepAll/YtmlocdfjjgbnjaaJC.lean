/-
  Walks of layer cells' laws' helpers: do.
  Walks of layer cells' laws' helpers: run.
  Layer cells' laws: an object, and rows that lie apart from it (Aw): each call; the document's example.
-/
import Derived.Test.YtmlocdfjjgbnjaaClLaw1
namespace Go.Proofs.Ytmlocdfjjgbnjaa
open Go.RowKit

set_option maxRecDepth 100000 in
theorem eqlR_self (a b : Int) (s : ByteArray) (q : Bool) (w : World) : (binOp .eql 38 (.agg #[.int .i64 a, .int .i64 b, .string s, .bool q]) (.agg #[.int .i64 a, .int .i64 b, .string s, .bool q])).run Try.prog w = .ok (.bool true) w := by
  rw [run_eql_struct, equalIn_self undRv heldRv ⟨_, _, _, _, rfl, rfl, rfl, rfl, rfl⟩ 9998]; rfl

/-- the cells of a deed -/
def ddC (d : Dd11) (vl : Value) : List Value := [.int .i64 d.kind, .int .i64 d.k.kind, .int .i64 d.k.a, .int .i64 d.k.b, .int .i64 d.ts, .string d.val, vl]

theorem Bk.turn {w w' : World} {F : Nat → Prop} {p : Nat} {vs : List Value} (h : Bk w p vs) (ht : Turn F w w') (hF : ¬ F p) : Bk w' p vs := h.keep (ht.block p h.lt hF) ht.size

section
variable {H : World → (Nat → Prop) → Value → Cl.Cs → Prop}

/-- what a deed leaves: the object in F', and the document's cells outside of it -/
def Did11 (H : World → (Nat → Prop) → Value → Cl.Cs → Prop) (w : World) (F : Nat → Prop) (v : Value) (Y : Cl.Cs) (e : Ending) (w' : World) : Prop :=
  ∃ vx' F', e = .returned (.tuple #[vx', .bool true]) ∧ H w' F' v Y ∧ Cls w' (Out F' w') vx' Y ∧ (∀ b, F' b → More F w w' b) ∧ Turn F w w'

theorem Cls.turn {w w' : World} {F F' : Nat → Prop} {v : Value} {X : Cl.Cs} (h : Cls w (Out F w) v X) (ht : Turn F w w') (hF : ∀ b, F' b → More F w w' b) : Cls w' (Out F' w') v X :=
  (h.keep (fun _ hp => ht.cell hp.1 hp.2)).wider (fun _ hb => hb.next ht.size hF)
theorem SlC.turn {w w' : World} {F F' : Nat → Prop} {v : Value} {c : Cn.Ch} (h : SlC w (Out F w) v c) (ht : Turn F w w') (hF : ∀ b, F' b → More F w w' b) : SlC w' (Out F' w') v c :=
  (S.Sg.keep h (fun _ hp => ht.cell hp.1 hp.2)).wider (fun _ hb => hb.next ht.size hF)
theorem out_low {w w' : World} {F : Nat → Prop} {b : Nat} (h : Out F w b ∨ S.New w w' b) (hs : w.heap.size ≤ w'.heap.size) (hF : ∀ b, F b → b < w.heap.size) : Out F w' b :=
  h.elim (fun q => ⟨Nat.lt_of_lt_of_le q.1 hs, q.2⟩) (fun q => Out.made q hF)
theorem more_low {w w1 w2 : World} {F : Nat → Prop} {b : Nat} (h : More F w w1 b) (hs : w1.heap.size ≤ w2.heap.size) : More F w w2 b := h.elim Or.inl (fun q => Or.inr ⟨q.1, Nat.lt_of_lt_of_le q.2 hs⟩)

theorem Did11.fin (K : CellsOk H) {w w1 w2 w5 : World} {F : Nat → Prop} {v vx' : Value} {Y : Cl.Cs} {e : Ending} {T F2 : Nat → Prop} (hb1 : Below w.heap.size w w1) (hh : H w2 F2 v Y) (hF2 : ∀ b, F2 b → More F w1 w2 b) (ht : Turn F w1 w2) (hx : Cls w5 T vx' Y) (hT : ∀ b, T b → Out F2 w2 b ∨ S.New w2 w5 b) (hb : Below w2.heap.size w2 w5) (he : e = .returned (.tuple #[vx', .bool true])) : Did11 H w F v Y e w5 := by
  have hl := K.lt hh
  refine ⟨vx', F2, he, K.below hh hb, hx.wider (fun b q => out_low (hT b q) hb.size hl), fun b q => ?_, (Turn.after hb1 ht).trans' hb⟩
  exact (hF2 b q).elim Or.inl (fun g => Or.inr ⟨Nat.le_trans hb1.size g.1, Nat.lt_of_lt_of_le g.2 hb.size⟩)
theorem drewN_below (w : World) (n : Nat) : Below w.heap.size w (w.drewN n) := still_b n

theorem commitW_len {n : Nat} {X : Cl.Cs} (h : Cl.Fit n X) (ts : Int) (hn : n ≤ 1000 := by omega) : (Cl.commitW X ts).length ≤ 10000000 := by
  have : ∀ Y : Cl.Cs, (∀ p ∈ Y, p.2.length ≤ n + 20) → (Cl.commitW Y ts).length ≤ Y.length * (n + 20) := by
    intro Y
    induction Y with
    | nil => intro _; simp [Cl.commitW]
    | cons p Y ih =>
      intro hy
      have h1 := ih (fun q hq => hy q (by simp [hq]))
      have h2 : (Cl.tells ts p).length ≤ n + 20 := by
        unfold Cl.tells
        rw [List.length_map]
        exact Nat.le_trans (List.length_filter_le ..) (hy p (by simp))
      show ((Cl.tells ts p) ++ Cl.commitW Y ts).length ≤ (Y.length + 1) * (n + 20)
      rw [List.length_append, Nat.add_mul]
      omega
  have h1 := this X h.ch
  have h2 : X.length * (n + 20) ≤ 1000 * 1020 := Nat.mul_le_mul (Nat.le_trans h.len hn) (by omega)
  omega

end
end Go.Proofs.Ytmlocdfjjgbnjaa

namespace Go.Proofs.Ytmlocdfjjgbnjaa
open Go.RowKit

section
variable {H : World → (Nat → Prop) → Value → Cl.Cs → Prop}

/-- the object v holds X, in blocks that were made since w -/
def Ob (H : World → (Nat → Prop) → Value → Cl.Cs → Prop) (w wr : World) (v : Value) (X : Cl.Cs) : Prop := ∃ F, H wr F v X ∧ ∀ b, F b → w.heap.size ≤ b
/-- .. and vx the document's cells X, apart from it -/
def Ob2 (H : World → (Nat → Prop) → Value → Cl.Cs → Prop) (w wr : World) (v vx : Value) (X : Cl.Cs) : Prop := ∃ F, H wr F v X ∧ (∀ b, F b → w.heap.size ≤ b) ∧ Cls wr (Out F wr) vx X

end
end Go.Proofs.Ytmlocdfjjgbnjaa

namespace Go.Proofs.Ytmlocdfjjgbnjaa
open Go.RowKit

/-- a row in memory -/
structure Row11 where
  k : Nat
  v : Value
  n : Nat
  cs : List Value

def chR (v : Value) (c : Cn.Ch) : Row11 := ⟨4, v, c.length, verV c⟩
def wrR (v : Value) (L : Cl.Ws) : Row11 := ⟨4, v, L.length, L.flatMap clW⟩
def kyR (v : Value) (X : Cl.Cs) : Row11 := ⟨3, v, X.length, X.flatMap keyC⟩

section
variable {H : World → (Nat → Prop) → Value → Cl.Cs → Prop}

/-- the object v holds X, in blocks that were made since w; the rows R lie apart from it -/
def Aw (H : World → (Nat → Prop) → Value → Cl.Cs → Prop) (w wr : World) (v : Value) (X : Cl.Cs) (R : List Row11) : Prop :=
  ∃ F, H wr F v X ∧ (∀ b, F b → w.heap.size ≤ b) ∧ ∀ r ∈ R, S.Sg wr (Out F wr) r.k r.v r.n r.cs

variable {w wr w2 : World} {v : Value} {X Y : Cl.Cs} {R : List Row11}
theorem Aw.of (h : Ob H w wr v X) : Aw H w wr v X [] := by
  obtain ⟨F, h1, h2⟩ := h
  exact ⟨F, h1, h2, fun r hr => by cases hr⟩
theorem Aw.turn {F : Nat → Prop} {F' : Nat → Prop} (hF : ∀ b, F b → w.heap.size ≤ b) (hr : ∀ r ∈ R, S.Sg wr (Out F wr) r.k r.v r.n r.cs) (hb : Below w.heap.size w wr) (h2 : H w2 F' v Y) (hF' : ∀ b, F' b → More F wr w2 b) (ht : Turn F wr w2) : Aw H w w2 v Y R ∧ Below w.heap.size w w2 :=
  ⟨⟨F', h2, fun b q => (hF' b q).elim (hF b) (fun g => Nat.le_trans hb.size g.1), fun r q => (S.Sg.keep (hr r q) (fun _ hp => ht.cell hp.1 hp.2)).wider (fun _ hb => hb.next ht.size hF')⟩, hb.trans (ht.below hb.size hF)⟩
theorem Aw.low (K : CellsOk H) (h : Aw H w wr v X R) (hb : Below wr.heap.size wr w2) : Aw H w w2 v X R := by
  obtain ⟨F, h1, h2, h3⟩ := h
  exact ⟨F, K.below h1 hb, h2, fun r q => (S.Sg.below (h3 r q) hb (fun b g => g.1)).wider (fun b g => ⟨Nat.lt_of_lt_of_le g.1 hb.size, g.2⟩)⟩
theorem Aw.add (K : CellsOk H) (h : Aw H w wr v X R) (hb : Below wr.heap.size wr w2) (r : Row11) (hr : S.Sg w2 (S.New wr w2) r.k r.v r.n r.cs) : Aw H w w2 v X (r :: R) := by
  obtain ⟨F, h1, h2, h3⟩ := h
  refine ⟨F, K.below h1 hb, h2, fun r' q => ?_⟩
  rcases List.mem_cons.1 q with rfl | q
  · exact hr.wider (fun b g => Out.made g (K.lt h1))
  · exact (S.Sg.below (h3 r' q) hb (fun b g => g.1)).wider (fun b g => ⟨Nat.lt_of_lt_of_le g.1 hb.size, g.2⟩)
theorem Aw.arg (h : Aw H w wr v X R) (hb : Below w.heap.size w wr) {G : Nat → Prop} (r : Row11) (hr : S.Sg wr G r.k r.v r.n r.cs) (hG : ∀ b, G b → b < w.heap.size) : Aw H w wr v X (r :: R) := by
  obtain ⟨F, h1, h2, h3⟩ := h
  refine ⟨F, h1, h2, fun r' q => ?_⟩
  rcases List.mem_cons.1 q with rfl | q
  · exact hr.wider (fun b g => ⟨Nat.lt_of_lt_of_le (hG b g) hb.size, fun f => by have := h2 b f; have := hG b g; omega⟩)
  · exact h3 r' q
theorem Aw.less (h : Aw H w wr v X R) {R' : List Row11} (hR : ∀ r ∈ R', r ∈ R) : Aw H w wr v X R' := by
  obtain ⟨F, h1, h2, h3⟩ := h
  exact ⟨F, h1, h2, fun r q => h3 r (hR r q)⟩
theorem Aw.row (h : Aw H w wr v X R) {r : Row11} (hr : r ∈ R) : ∃ G : Nat → Prop, S.Sg wr G r.k r.v r.n r.cs ∧ ∀ b, G b → b < wr.heap.size := by
  obtain ⟨F, _, _, h3⟩ := h
  exact ⟨_, h3 r hr, fun b q => q.1⟩
theorem Aw.ord (K : CellsOk H) (h : Aw H w wr v X R) : Cl.Ord X := by
  obtain ⟨F, h1, _⟩ := h
  exact K.ord h1

theorem Aw.set (K : CellsOk H) {vc : Value} {c : Cn.Ch} (h : Aw H w wr v X R) (hc : chR vc c ∈ R) (hb : Below w.heap.size w wr) (hf : Cl.Fit 200 X) (hcl : c.length ≤ 200) (k : Cl.Ky) :
    Calls Try.prog 43 #[v, keyA k, vc] wr fun e w' => e = .returned (.tuple #[]) ∧ Aw H w w' v (Cl.setX X k c) R ∧ Below w.heap.size w w' := by
  obtain ⟨F, h1, h2, h3⟩ := h
  exact (K.set h1 hf (h3 _ hc) hcl k).mono (fun e w' hh => ⟨hh.1, Aw.turn h2 h3 hb hh.2.1 (fun b q => q) hh.2.2⟩)
theorem Aw.newest (K : CellsOk H) (h : Aw H w wr v X R) (hb : Below w.heap.size w wr) (hf : Cl.Fit 200 X) :
    Calls Try.prog 30 #[v] wr fun e w' => ∃ v', e = .returned v' ∧ Aw H w w' v X (wrR v' (Cl.newest X) :: R) ∧ Below w.heap.size w w' := by
  obtain ⟨F, h1, h2, h3⟩ := h
  refine (K.newest h1 hf).mono (fun e w' hh => ?_)
  obtain ⟨v', e, g1, g2⟩ := hh
  exact ⟨v', e, Aw.add K ⟨F, h1, h2, h3⟩ g2 _ g1, hb.trans (g2.mono hb.size)⟩
theorem Aw.keys (K : CellsOk H) (h : Aw H w wr v X R) (hb : Below w.heap.size w wr) (hf : Cl.Fit 200 X) :
    Calls Try.prog 27 #[v] wr fun e w' => ∃ v', e = .returned v' ∧ Aw H w w' v X (kyR v' X :: R) ∧ Below w.heap.size w w' := by
  obtain ⟨F, h1, h2, h3⟩ := h
  refine (K.keys h1 hf).mono (fun e w' hh => ?_)
  obtain ⟨v', e, g1, g2⟩ := hh
  exact ⟨v', e, Aw.add K ⟨F, h1, h2, h3⟩ g2 _ g1, hb.trans (g2.mono hb.size)⟩
theorem Aw.chain (K : CellsOk H) (h : Aw H w wr v X R) (hb : Below w.heap.size w wr) (hf : Cl.Fit 200 X) (k : Cl.Ky) :
    Calls Try.prog 29 #[v, keyA k] wr fun e w' => ∃ v', e = .returned v' ∧ Aw H w w' v X (chR v' (Cl.chain X k) :: R) ∧ Below w.heap.size w w' := by
  obtain ⟨F, h1, h2, h3⟩ := h
  refine (K.chain h1 hf k).mono (fun e w' hh => ?_)
  obtain ⟨v', e, g1, g2⟩ := hh
  exact ⟨v', e, Aw.add K ⟨F, h1, h2, h3⟩ g2 _ g1, hb.trans (g2.mono hb.size)⟩
theorem Aw.same (K : CellsOk H) {va vb : Value} {c : Cn.Ch} (h : Aw H w wr v X R) (ha : chR va c ∈ R) (hc : chR vb c ∈ R) (hb : Below w.heap.size w wr) (hcl : c.length ≤ 1000) :
    Calls Try.prog 14 #[va, vb] wr fun e w' => e = .returned (.bool true) ∧ Aw H w w' v X R ∧ Below w.heap.size w w' := by
  obtain ⟨G, hs, hG⟩ := h.row ha
  obtain ⟨G', hs', hG'⟩ := h.row hc
  exact (rsame10_any hs hs' (by omega)).mono (fun e w' hh => ⟨hh.1, h.low K hh.2.low, hb.trans (hh.2.low.mono hb.size)⟩)
theorem Aw.form {r : Row11} (h : Aw H w wr v X R) (hr : r ∈ R) : ∃ A c, r.v = .slice A r.n c ∧ r.n ≤ c := by
  obtain ⟨G, ⟨_, A, c, e, hc, _⟩, _⟩ := h.row hr
  exact ⟨A, c, e, hc⟩
/-- the four cells of a write in a row -/
theorem Aw.nthW {va : Value} {L : Cl.Ws} (h : Aw H w wr v X R) (hr : wrR va L ∈ R) (i : Nat) (hi : i < L.length) : ∃ a cap, va = .slice (some a) L.length cap ∧ L.length ≤ cap ∧ a.block < wr.heap.size ∧
    wr.cell? (a.add (i * 4)) = some (.int .i64 L[i].1.kind) ∧ wr.cell? ⟨(a.add (i * 4)).block, (a.add (i * 4)).off + 1, none⟩ = some (.int .i64 L[i].1.a) ∧ wr.cell? ⟨(a.add (i * 4)).block, (a.add (i * 4)).off + 2, none⟩ = some (.int .i64 L[i].1.b) ∧ wr.cell? ⟨(a.add (i * 4)).block, (a.add (i * 4)).off + 3, none⟩ = some (.string L[i].2) := by
  obtain ⟨G, hs, hG⟩ := h.row hr
  obtain ⟨a, cap, e, hc, hF, x⟩ := wr_nth hs i hi
  exact ⟨a, cap, e, hc, hG _ hF, x⟩
end
end Go.Proofs.Ytmlocdfjjgbnjaa
