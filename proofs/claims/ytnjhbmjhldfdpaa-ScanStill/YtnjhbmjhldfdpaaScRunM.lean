/-
  Walks of layer scan's laws: what a ring is behind deeds: the records that are kept, and how many of them are synced.
-/
import Derived.Test.YtnjhbmjhldfdpaaScCut
namespace Go.Proofs.Ytnjhbmjhldfdpaa
open Go.RowKit

/-- a ring behind n deeds, what it keeps, how much of it was synced -/
structure Pm (r : G.Rg) (L kept : List (Nat × List UInt8)) (syn n : Nat) : Prop where
  kp : Q.Kp r L kept syn
  pure : Q.Pure r
  f : r.first = 2
  m : r.many = 8
  e : r.epoch = 3
  row : r.d.row.length ≤ 8 * n
  len : kept.length ≤ n

section
variable {r : G.Rg} {L kept : List (Nat × List UInt8)} {syn n : Nat}

theorem Pm.new : Pm rb0 [] [] 0 0 := ⟨Q.kp_new (by decide) (by decide), Q.pure_new, rfl, rfl, rfl, by decide, by decide⟩
theorem Pm.e32 (h : Pm r L kept syn n) : r.epoch < 4294967296 := by rw [h.e]; decide
theorem Pm.ends (h : Pm r L kept syn n) : ∀ x ∈ kept, x.1 + R.many x.2.length < 4294967296 := fun x hx => by
  have := (h.kp.chn.mem x hx).2
  have := h.kp.hist.may.top
  omega
theorem Pm.more (h : Pm r L kept syn n) : Pm r L kept syn (n + 1) := ⟨h.kp, h.pure, h.f, h.m, h.e, by have := h.row; omega, by have := h.len; omega⟩
theorem many_le7 {n : Nat} (h : n ≤ 400) : R.many n ≤ 8 := by unfold R.many; split <;> omega
theorem Pm.put (h : Pm r L kept syn n) {rc : List UInt8} (hz : r.err rc = 0) (hl : rc.length ≤ 400) : Pm (r.put rc) (L ++ [(r.next, rc)]) (kept ++ [(r.next, rc)]) syn (n + 1) :=
  ⟨h.kp.put h.e32 hz, h.pure.put h.e32 rc, h.f, h.m, h.e, by rw [G.put_row h.kp.hist.may]; have := h.row; have := many_le7 hl; omega, by have := h.len; simp; omega⟩
theorem Pm.sync (h : Pm r L kept syn n) : Pm r.sync L kept kept.length (n + 1) :=
  ⟨h.kp.sync, h.pure.sync, h.f, h.m, h.e, by show ([] : List _).length ≤ _; simp, by have := h.len; omega⟩
theorem trunc_is (r : G.Rg) (low : Nat) : (r.trunc low).first = r.first ∧ (r.trunc low).many = r.many ∧ (r.trunc low).epoch = r.epoch ∧ (r.trunc low).d = r.d := by
  unfold G.Rg.trunc
  split <;> exact ⟨rfl, rfl, rfl, rfl⟩
theorem Pm.cut (h : Pm r L kept syn n) (k : Nat) (hk : k ≤ kept.length) : Pm (cutR r kept k) L (kept.drop k) (syn - k) (n + 1) := by
  by_cases h0 : k = 0
  · subst h0
    rw [cutR, if_pos rfl]
    exact h.more
  · obtain ⟨j, rfl⟩ : ∃ j, k = j + 1 := ⟨k - 1, by omega⟩
    have hj : j < kept.length := by omega
    rw [cutR, if_neg h0, Nat.add_sub_cancel, List.getElem?_eq_getElem hj]
    show Pm (r.trunc (kept[j].1 + R.many kept[j].2.length)) _ _ _ _
    obtain ⟨t1, t2, t3, t4⟩ := trunc_is r (kept[j].1 + R.many kept[j].2.length)
    exact ⟨h.kp.cut j hj, h.pure.trunc _, t1.trans h.f, t2.trans h.m, t3.trans h.e, by rw [t4]; have := h.row; omega, by have := h.len; simp; omega⟩
end

/-- what a law holds of a ring behind deeds: the ring, its records, the numbers behind them -/
structure Mk (H : World → (Nat → Prop) → Value → D.Dk → Prop) (w w' : World) (vd vr vs ve : Value) (r : G.Rg) (kept : List (Nat × List UInt8)) (F Fs : Nat → Prop) : Prop where
  rp : Rp H w' F vr vd r
  hF : ∀ b, F b → w.heap.size ≤ b
  ss : SlR w' Fs vs kept
  es : SlE w' Fs ve kept
  hFs : ∀ b, Fs b → w.heap.size ≤ b ∧ b < w'.heap.size ∧ ¬ F b
  low : Below w.heap.size w w'

section
variable {H : World → (Nat → Prop) → Value → D.Dk → Prop} {w w' w2 : World} {vd vr vs ve : Value} {r r' : G.Rg} {kept : List (Nat × List UInt8)} {F Fs : Nat → Prop}

theorem Mk.below (K : DiskOk H) (h : Mk H w w' vd vr vs ve r kept F Fs) (hb : Below w'.heap.size w' w2) : Mk H w w2 vd vr vs ve r kept F Fs :=
  ⟨h.rp.below K hb, h.hF, h.ss.below hb (fun b g => (h.hFs b g).2.1), h.es.below hb (fun b g => (h.hFs b g).2.1), fun b g => ⟨(h.hFs b g).1, Nat.lt_of_lt_of_le (h.hFs b g).2.1 hb.size, (h.hFs b g).2.2⟩, h.low.trans (hb.mono h.low.size)⟩
/-- the ring turned -/
theorem Mk.turned (h : Mk H w w' vd vr vs ve r kept F Fs) (hR : Rp H w2 (More F w' w2) vr vd r') (ht : Turn F w' w2) : Mk H w w2 vd vr vs ve r' kept (More F w' w2) Fs := by
  have hk : ∀ a : Addr, Fs a.block → w2.cell? a = w'.cell? a := fun a ha => ht.cell (h.hFs _ ha).2.1 (h.hFs _ ha).2.2
  exact ⟨hR, fun b g => g.elim (h.hF b) (fun g => Nat.le_trans h.low.size g.1), h.ss.keep hk, h.es.keep hk, fun b g => ⟨(h.hFs b g).1, Nat.lt_of_lt_of_le (h.hFs b g).2.1 ht.size, fun f => f.elim (h.hFs b g).2.2 (fun f => by have := f.1; have := (h.hFs b g).2.1; omega)⟩, h.low.trans (ht.below h.low.size h.hF)⟩
/-- blocks of neither turned -/
theorem Mk.aside (K : DiskOk H) (h : Mk H w w' vd vr vs ve r kept F Fs) {G' : Nat → Prop} (ht : Turn G' w' w2) (h1 : ∀ b, G' b → ¬ F b ∧ ¬ Fs b ∧ w.heap.size ≤ b) : Mk H w w2 vd vr vs ve r kept F Fs := by
  have hk : ∀ a : Addr, Fs a.block → w2.cell? a = w'.cell? a := fun a ha => ht.cell (h.hFs _ ha).2.1 (fun g => (h1 _ g).2.1 ha)
  exact ⟨h.rp.turn K ht (fun b g f => (h1 b f).1 g), h.hF, h.ss.keep hk, h.es.keep hk, fun b g => ⟨(h.hFs b g).1, Nat.lt_of_lt_of_le (h.hFs b g).2.1 ht.size, (h.hFs b g).2.2⟩, h.low.trans (ht.below h.low.size (fun b g => (h1 b g).2.2))⟩
/-- records and numbers made anew -/
theorem Mk.other (h : Mk H w w' vd vr vs ve r kept F Fs) {vs' ve' : Value} {kept' : List (Nat × List UInt8)} {Fs' : Nat → Prop} (h1 : SlR w' Fs' vs' kept') (h2 : SlE w' Fs' ve' kept') (h3 : ∀ b, Fs' b → w.heap.size ≤ b ∧ b < w'.heap.size ∧ ¬ F b) : Mk H w w' vd vr vs' ve' r kept' F Fs' :=
  ⟨h.rp, h.hF, h1, h2, h3, h.low⟩
end

/-- what run tells -/
def Ran (H : World → (Nat → Prop) → Value → D.Dk → Prop) (w : World) (e : Ending) (w' : World) : Prop :=
  ∃ da va vs ve r L kept syn n F Fs, e = .returned (.agg #[.pointer (some da), .pointer (some va), vs, ve, .int .i64 ((syn : Nat) : Int)]) ∧ n ≤ 30 ∧ Pm r L kept syn n ∧ Mk H w w' (.pointer (some da)) (.pointer (some va)) vs ve r kept F Fs

theorem recV_snoc (l : List (Nat × List UInt8)) (x : Nat × List UInt8) : recV (l ++ [x]) = recV l ++ [.string ⟨x.2.toArray⟩] := by simp [recV]
theorem endV_snoc (l : List (Nat × List UInt8)) (x : Nat × List UInt8) : endV (l ++ [x]) = endV l ++ [.int .u32 ((x.1 + R.many x.2.length : Nat) : Int)] := by simp [endV]

/-- the box of a struct of five beside it -/
structure Lr (H : World → (Nat → Prop) → Value → D.Dk → Prop) (w wr : World) (X : Nat) (vd vr vs ve : Value) (r : G.Rg) (L kept : List (Nat × List UInt8)) (syn n : Nat) (F Fs : Nat → Prop) : Prop where
  md : Mk H w wr vd vr vs ve r kept F Fs
  pm : Pm r L kept syn n
  box : Bk wr X [vd, vr, vs, ve, .int .i64 (syn : Int)]
  nX : ¬ F X ∧ ¬ Fs X ∧ w.heap.size ≤ X

end Go.Proofs.Ytnjhbmjhldfdpaa
