/-
  Layer cells' laws: an object, and rows that lie apart from it (Aw): each call; the document's example.
-/
import Derived.Test.YtpppjipelcfnkaaClLaw3
namespace Go.Proofs.Ytpppjipelcfnkaa
open Go.RowKit

/-- a row in memory -/
structure Row11 where
  k : Nat
  v : Value
  n : Nat
  cs : List Value

def chR (v : Value) (c : Cn.Ch) : Row11 := ⟨4, v, c.length, verV c⟩
def wrR (v : Value) (L : Cl.Ws) : Row11 := ⟨4, v, L.length, L.flatMap clW⟩
def kyR (v : Value) (X : Cl.Cs) : Row11 := ⟨3, v, X.length, X.flatMap keyC⟩

section
variable {H : World → (Nat → Prop) → Value → Cl.Cs → Prop}

/-- the object v holds X, in blocks that were made since w; the rows R lie apart from it -/
def Aw (H : World → (Nat → Prop) → Value → Cl.Cs → Prop) (w wr : World) (v : Value) (X : Cl.Cs) (R : List Row11) : Prop :=
  ∃ F, H wr F v X ∧ (∀ b, F b → w.heap.size ≤ b) ∧ ∀ r ∈ R, S.Sg wr (Out F wr) r.k r.v r.n r.cs

variable {w wr w2 : World} {v : Value} {X Y : Cl.Cs} {R : List Row11}
theorem Aw.of (h : Ob H w wr v X) : Aw H w wr v X [] := by
  obtain ⟨F, h1, h2⟩ := h
  exact ⟨F, h1, h2, fun r hr => by cases hr⟩
theorem Aw.turn {F : Nat → Prop} {F' : Nat → Prop} (hF : ∀ b, F b → w.heap.size ≤ b) (hr : ∀ r ∈ R, S.Sg wr (Out F wr) r.k r.v r.n r.cs) (hb : Below w.heap.size w wr) (h2 : H w2 F' v Y) (hF' : ∀ b, F' b → More F wr w2 b) (ht : Turn F wr w2) : Aw H w w2 v Y R ∧ Below w.heap.size w w2 :=
  ⟨⟨F', h2, fun b q => (hF' b q).elim (hF b) (fun g => Nat.le_trans hb.size g.1), fun r q => (S.Sg.keep (hr r q) (fun _ hp => ht.cell hp.1 hp.2)).wider (fun _ hb => hb.next ht.size hF')⟩, hb.trans (ht.below hb.size hF)⟩
theorem Aw.low (K : CellsOk H) (h : Aw H w wr v X R) (hb : Below wr.heap.size wr w2) : Aw H w w2 v X R := by
  obtain ⟨F, h1, h2, h3⟩ := h
  exact ⟨F, K.below h1 hb, h2, fun r q => (S.Sg.below (h3 r q) hb (fun b g => g.1)).wider (fun b g => ⟨Nat.lt_of_lt_of_le g.1 hb.size, g.2⟩)⟩
theorem Aw.add (K : CellsOk H) (h : Aw H w wr v X R) (hb : Below wr.heap.size wr w2) (r : Row11) (hr : S.Sg w2 (S.New wr w2) r.k r.v r.n r.cs) : Aw H w w2 v X (r :: R) := by
  obtain ⟨F, h1, h2, h3⟩ := h
  refine ⟨F, K.below h1 hb, h2, fun r' q => ?_⟩
  rcases List.mem_cons.1 q with rfl | q
  · exact hr.wider (fun b g => Out.made g (K.lt h1))
  · exact (S.Sg.below (h3 r' q) hb (fun b g => g.1)).wider (fun b g => ⟨Nat.lt_of_lt_of_le g.1 hb.size, g.2⟩)
theorem Aw.arg (h : Aw H w wr v X R) (hb : Below w.heap.size w wr) {G : Nat → Prop} (r : Row11) (hr : S.Sg wr G r.k r.v r.n r.cs) (hG : ∀ b, G b → b < w.heap.size) : Aw H w wr v X (r :: R) := by
  obtain ⟨F, h1, h2, h3⟩ := h
  refine ⟨F, h1, h2, fun r' q => ?_⟩
  rcases List.mem_cons.1 q with rfl | q
  · exact hr.wider (fun b g => ⟨Nat.lt_of_lt_of_le (hG b g) hb.size, fun f => by have := h2 b f; have := hG b g; omega⟩)
  · exact h3 r' q
theorem Aw.less (h : Aw H w wr v X R) {R' : List Row11} (hR : ∀ r ∈ R', r ∈ R) : Aw H w wr v X R' := by
  obtain ⟨F, h1, h2, h3⟩ := h
  exact ⟨F, h1, h2, fun r q => h3 r (hR r q)⟩
theorem Aw.row (h : Aw H w wr v X R) {r : Row11} (hr : r ∈ R) : ∃ G : Nat → Prop, S.Sg wr G r.k r.v r.n r.cs ∧ ∀ b, G b → b < wr.heap.size := by
  obtain ⟨F, _, _, h3⟩ := h
  exact ⟨_, h3 r hr, fun b q => q.1⟩
theorem Aw.ord (K : CellsOk H) (h : Aw H w wr v X R) : Cl.Ord X := by
  obtain ⟨F, h1, _⟩ := h
  exact K.ord h1

theorem Aw.read (K : CellsOk H) (h : Aw H w wr v X R) (hb : Below w.heap.size w wr) (hf : Cl.Fit 200 X) (k : Cl.Ky) (ts : Int) (t0 : -9223372036854775808 ≤ ts) (t1 : ts ≤ 9223372036854775807) :
    Calls Try.prog 21 #[v, keyA k, .int .i64 ts] wr fun e w' => e = .returned (verA (Cl.readW X k ts)) ∧ Aw H w w' v (Cl.readX X k ts) R ∧ Below w.heap.size w w' := by
  obtain ⟨F, h1, h2, h3⟩ := h
  exact (K.read h1 hf k ts t0 t1).mono (fun e w' hh => ⟨hh.1, Aw.turn h2 h3 hb hh.2.1 (fun b q => q) hh.2.2⟩)
theorem Aw.write (K : CellsOk H) (h : Aw H w wr v X R) (hb : Below w.heap.size w wr) (hf : Cl.Fit 200 X) (k : Cl.Ky) (ts : Int) (val : ByteArray) (t0 : -9223372036854775808 ≤ ts) (t1 : ts ≤ 9223372036854775807) :
    Calls Try.prog 22 #[v, keyA k, .int .i64 ts, .string val] wr fun e w' => e = .returned (.int .i64 (Cl.writeF X k ts)) ∧ Aw H w w' v (Cl.writeX X k ts val) R ∧ Below w.heap.size w w' := by
  obtain ⟨F, h1, h2, h3⟩ := h
  exact (K.write h1 hf k ts val t0 t1).mono (fun e w' hh => ⟨hh.1, Aw.turn h2 h3 hb hh.2.1 (fun b q => q) hh.2.2⟩)
theorem Aw.abort (K : CellsOk H) (h : Aw H w wr v X R) (hb : Below w.heap.size w wr) (hf : Cl.Fit 200 X) (ts : Int) (t0 : -9223372036854775808 ≤ ts) (t1 : ts ≤ 9223372036854775807) :
    Calls Try.prog 27 #[v, .int .i64 ts] wr fun e w' => e = .returned (.tuple #[]) ∧ Aw H w w' v (Cl.abortX X ts) R ∧ Below w.heap.size w w' := by
  obtain ⟨F, h1, h2, h3⟩ := h
  exact (K.abort h1 hf ts t0 t1).mono (fun e w' hh => ⟨hh.1, Aw.turn h2 h3 hb hh.2.1 (fun b q => q) hh.2.2⟩)
theorem Aw.set (K : CellsOk H) {vc : Value} {c : Cn.Ch} (h : Aw H w wr v X R) (hc : chR vc c ∈ R) (hb : Below w.heap.size w wr) (hf : Cl.Fit 200 X) (hcl : c.length ≤ 200) (k : Cl.Ky) :
    Calls Try.prog 23 #[v, keyA k, vc] wr fun e w' => e = .returned (.tuple #[]) ∧ Aw H w w' v (Cl.setX X k c) R ∧ Below w.heap.size w w' := by
  obtain ⟨F, h1, h2, h3⟩ := h
  exact (K.set h1 hf (h3 _ hc) hcl k).mono (fun e w' hh => ⟨hh.1, Aw.turn h2 h3 hb hh.2.1 (fun b q => q) hh.2.2⟩)
theorem Aw.commit (K : CellsOk H) (h : Aw H w wr v X R) (hb : Below w.heap.size w wr) (hf : Cl.Fit 200 X) (ts : Int) (t0 : -9223372036854775808 ≤ ts) (t1 : ts ≤ 9223372036854775807) :
    Calls Try.prog 25 #[v, .int .i64 ts] wr fun e w' => ∃ v', e = .returned v' ∧ Aw H w w' v (Cl.commitX X ts) (wrR v' (Cl.commitW X ts) :: R) ∧ Below w.heap.size w w' := by
  obtain ⟨F, h1, h2, h3⟩ := h
  refine (K.commit h1 hf ts t0 t1).mono (fun e w' hh => ?_)
  obtain ⟨v', F', T, e, g1, g2, g3, g4, g5⟩ := hh
  obtain ⟨⟨F2, _⟩, hb2⟩ := Aw.turn h2 h3 hb g1 g3 g5
  refine ⟨v', e, ⟨F', g1, fun b q => (g3 b q).elim (h2 b) (fun g => Nat.le_trans hb.size g.1), fun r q => ?_⟩, hb2⟩
  rcases List.mem_cons.1 q with rfl | q
  · exact g2.wider (fun b g => ⟨(g4 b g).1.2, (g4 b g).2⟩)
  · exact (S.Sg.keep (h3 r q) (fun _ hp => g5.cell hp.1 hp.2)).wider (fun _ hb => hb.next g5.size g3)
theorem Aw.newest (K : CellsOk H) (h : Aw H w wr v X R) (hb : Below w.heap.size w wr) (hf : Cl.Fit 200 X) :
    Calls Try.prog 15 #[v] wr fun e w' => ∃ v', e = .returned v' ∧ Aw H w w' v X (wrR v' (Cl.newest X) :: R) ∧ Below w.heap.size w w' := by
  obtain ⟨F, h1, h2, h3⟩ := h
  refine (K.newest h1 hf).mono (fun e w' hh => ?_)
  obtain ⟨v', e, g1, g2⟩ := hh
  exact ⟨v', e, Aw.add K ⟨F, h1, h2, h3⟩ g2 _ g1, hb.trans (g2.mono hb.size)⟩
theorem Aw.keys (K : CellsOk H) (h : Aw H w wr v X R) (hb : Below w.heap.size w wr) (hf : Cl.Fit 200 X) :
    Calls Try.prog 13 #[v] wr fun e w' => ∃ v', e = .returned v' ∧ Aw H w w' v X (kyR v' X :: R) ∧ Below w.heap.size w w' := by
  obtain ⟨F, h1, h2, h3⟩ := h
  refine (K.keys h1 hf).mono (fun e w' hh => ?_)
  obtain ⟨v', e, g1, g2⟩ := hh
  exact ⟨v', e, Aw.add K ⟨F, h1, h2, h3⟩ g2 _ g1, hb.trans (g2.mono hb.size)⟩
theorem Aw.chain (K : CellsOk H) (h : Aw H w wr v X R) (hb : Below w.heap.size w wr) (hf : Cl.Fit 200 X) (k : Cl.Ky) :
    Calls Try.prog 19 #[v, keyA k] wr fun e w' => ∃ v', e = .returned v' ∧ Aw H w w' v X (chR v' (Cl.chain X k) :: R) ∧ Below w.heap.size w w' := by
  obtain ⟨F, h1, h2, h3⟩ := h
  refine (K.chain h1 hf k).mono (fun e w' hh => ?_)
  obtain ⟨v', e, g1, g2⟩ := hh
  exact ⟨v', e, Aw.add K ⟨F, h1, h2, h3⟩ g2 _ g1, hb.trans (g2.mono hb.size)⟩
theorem Aw.real (K : CellsOk H) {vc : Value} {c : Cn.Ch} (h : Aw H w wr v X R) (hc : chR vc c ∈ R) (hb : Below w.heap.size w wr) (hcl : c.length ≤ 1000) :
    Calls Try.prog 18 #[vc] wr fun e w' => ∃ v', e = .returned v' ∧ Aw H w w' v X (chR v' c :: R) ∧ Below w.heap.size w w' := by
  obtain ⟨G, hs, hG⟩ := h.row hc
  refine (real11_any hs hG (by omega)).mono (fun e w' hh => ?_)
  obtain ⟨v', e, g1, g2⟩ := hh
  exact ⟨v', e, Aw.add K h g2 _ g1, hb.trans (g2.mono hb.size)⟩
theorem Aw.made (K : CellsOk H) {vc : Value} {c : Cn.Ch} (h : Aw H w wr v X R) (hc : chR vc c ∈ R) (hb : Below w.heap.size w wr) (hcl : c.length ≤ 1000) :
    Calls Try.prog 24 #[vc] wr fun e w' => ∃ v', e = .returned v' ∧ Aw H w w' v X (chR v' c :: R) ∧ Below w.heap.size w w' := by
  obtain ⟨G, hs, hG⟩ := h.row hc
  refine (made11_any hs hG (by omega)).mono (fun e w' hh => ?_)
  obtain ⟨v', e, g1, g2⟩ := hh
  exact ⟨v', e, Aw.add K h g2 _ g1, hb.trans (g2.mono hb.size)⟩
theorem Aw.same (K : CellsOk H) {va vb : Value} {c : Cn.Ch} (h : Aw H w wr v X R) (ha : chR va c ∈ R) (hc : chR vb c ∈ R) (hb : Below w.heap.size w wr) (hcl : c.length ≤ 1000) :
    Calls Try.prog 17 #[va, vb] wr fun e w' => e = .returned (.bool true) ∧ Aw H w w' v X R ∧ Below w.heap.size w w' := by
  obtain ⟨G, hs, hG⟩ := h.row ha
  obtain ⟨G', hs', hG'⟩ := h.row hc
  exact (rsame10_any hs hs' (by omega)).mono (fun e w' hh => ⟨hh.1, h.low K hh.2.low, hb.trans (hh.2.low.mono hb.size)⟩)
theorem Aw.key (K : CellsOk H) (h : Aw H w wr v X R) (hb : Below w.heap.size w wr) (n : Int) :
    Calls Try.prog 26 #[.int .i64 n] wr fun e w' => e = .returned (keyA (keyN n)) ∧ Aw H w w' v X R ∧ Below w.heap.size w w' :=
  (key11_any n wr).mono (fun _ _ hh => ⟨hh.1, h.low K hh.2, hb.trans (hh.2.mono hb.size)⟩)

theorem Aw.form {r : Row11} (h : Aw H w wr v X R) (hr : r ∈ R) : ∃ A c, r.v = .slice A r.n c ∧ r.n ≤ c := by
  obtain ⟨G, ⟨_, A, c, e, hc, _⟩, _⟩ := h.row hr
  exact ⟨A, c, e, hc⟩
/-- the four cells of a write in a row -/
theorem Aw.nthW {va : Value} {L : Cl.Ws} (h : Aw H w wr v X R) (hr : wrR va L ∈ R) (i : Nat) (hi : i < L.length) : ∃ a cap, va = .slice (some a) L.length cap ∧ L.length ≤ cap ∧ a.block < wr.heap.size ∧
    wr.cell? (a.add (i * 4)) = some (.int .i64 L[i].1.kind) ∧ wr.cell? ⟨(a.add (i * 4)).block, (a.add (i * 4)).off + 1, none⟩ = some (.int .i64 L[i].1.a) ∧ wr.cell? ⟨(a.add (i * 4)).block, (a.add (i * 4)).off + 2, none⟩ = some (.int .i64 L[i].1.b) ∧ wr.cell? ⟨(a.add (i * 4)).block, (a.add (i * 4)).off + 3, none⟩ = some (.string L[i].2) := by
  obtain ⟨G, hs, hG⟩ := h.row hr
  obtain ⟨a, cap, e, hc, hF, x⟩ := wr_nth hs i hi
  exact ⟨a, cap, e, hc, hG _ hF, x⟩
end
end Go.Proofs.Ytpppjipelcfnkaa
