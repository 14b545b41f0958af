/-
  Layer sweep's laws, of cells: an object, the document's cells, and rows that lie apart from both (Bw); the arguments' cells; few.
-/
import Derived.Test.YtmlocdfjjgbnjaaSwLaw2
import Derived.Test.YtmlocdfjjgbnjaaJC
import Derived.Test.YtmlocdfjjgbnjaaJZ
namespace Go.Proofs.Ytmlocdfjjgbnjaa
open Go.RowKit

def nmR (v : Value) (l : List Int) : Row11 := ⟨1, v, l.length, numV l⟩

section
variable {H : World → (Nat → Prop) → Value → Cl.Cs → Prop}
/-- the object v holds X, in blocks that were made since w; the document's cells Y lie apart from it, and so do the rows R -/
def Bw (H : World → (Nat → Prop) → Value → Cl.Cs → Prop) (w wr : World) (v : Value) (X : Cl.Cs) (vx : Value) (Y : Cl.Cs) (R : List Row11) : Prop :=
  ∃ F, H wr F v X ∧ (∀ b, F b → w.heap.size ≤ b) ∧ Cls wr (Out F wr) vx Y ∧ ∀ r ∈ R, S.Sg wr (Out F wr) r.k r.v r.n r.cs

variable {w wr w2 : World} {v vx : Value} {X Y Z : Cl.Cs} {R : List Row11}
theorem Bw.low (K : CellsOk H) (h : Bw H w wr v X vx Y R) (hb : Below wr.heap.size wr w2) : Bw H w w2 v X vx Y R := by
  obtain ⟨F, h1, h2, h3, h4⟩ := h
  have e : ∀ b, Out F wr b → Out F w2 b := fun b g => ⟨Nat.lt_of_lt_of_le g.1 hb.size, g.2⟩
  exact ⟨F, K.below h1 hb, h2, (h3.below hb (fun b g => g.1)).wider e, fun r q => (S.Sg.below (h4 r q) hb (fun b g => g.1)).wider e⟩
theorem Bw.add (K : CellsOk H) (h : Bw H w wr v X vx Y R) (hb : Below wr.heap.size wr w2) (r : Row11) (hr : S.Sg w2 (S.New wr w2) r.k r.v r.n r.cs) : Bw H w w2 v X vx Y (r :: R) := by
  obtain ⟨F, h1, h2, h3, h4⟩ := h
  have e : ∀ b, Out F wr b → Out F w2 b := fun b g => ⟨Nat.lt_of_lt_of_le g.1 hb.size, g.2⟩
  refine ⟨F, K.below h1 hb, h2, (h3.below hb (fun b g => g.1)).wider e, fun r' q => ?_⟩
  rcases List.mem_cons.1 q with rfl | q
  · exact hr.wider (fun b g => Out.made g (K.lt h1))
  · exact (S.Sg.below (h4 r' q) hb (fun b g => g.1)).wider e
theorem Bw.arg (h : Bw H w wr v X vx Y R) (hb : Below w.heap.size w wr) {G : Nat → Prop} (r : Row11) (hr : S.Sg wr G r.k r.v r.n r.cs) (hG : ∀ b, G b → b < w.heap.size) : Bw H w wr v X vx Y (r :: R) := by
  obtain ⟨F, h1, h2, h3, h4⟩ := h
  refine ⟨F, h1, h2, h3, fun r' q => ?_⟩
  rcases List.mem_cons.1 q with rfl | q
  · exact hr.wider (fun b g => ⟨Nat.lt_of_lt_of_le (hG b g) hb.size, fun f => by have := h2 b f; have := hG b g; omega⟩)
  · exact h4 r' q
theorem Bw.less (h : Bw H w wr v X vx Y R) {R' : List Row11} (hR : ∀ r ∈ R', r ∈ R) : Bw H w wr v X vx Y R' := by
  obtain ⟨F, h1, h2, h3, h4⟩ := h
  exact ⟨F, h1, h2, h3, fun r q => h4 r (hR r q)⟩
theorem Bw.row (h : Bw H w wr v X vx Y R) {r : Row11} (hr : r ∈ R) : ∃ G : Nat → Prop, S.Sg wr G r.k r.v r.n r.cs ∧ ∀ b, G b → b < wr.heap.size := by
  obtain ⟨F, _, _, _, h4⟩ := h
  exact ⟨_, h4 r hr, fun b q => q.1⟩
theorem Bw.lc (h : Bw H w wr v X vx Y R) {vc : Value} {c : Cn.Ch} (hr : chR vc c ∈ R) : Lc wr vc c := h.row hr
theorem Bw.ln (h : Bw H w wr v X vx Y R) {va : Value} {l : List Int} (hr : nmR va l ∈ R) : Ln wr va l := h.row hr
theorem Bw.ord (K : CellsOk H) (h : Bw H w wr v X vx Y R) : Cl.Ord X := by
  obtain ⟨F, h1, _⟩ := h
  exact K.ord h1
theorem Bw.cls (h : Bw H w wr v X vx Y R) : ∃ G : Nat → Prop, Cls wr G vx Y ∧ ∀ b, G b → b < wr.heap.size := by
  obtain ⟨F, _, _, h3, _⟩ := h
  exact ⟨_, h3, fun b q => q.1⟩
theorem Bw.turn {F F' : Nat → Prop} (hF : ∀ b, F b → w.heap.size ≤ b) (hx : Cls wr (Out F wr) vx Y) (hr : ∀ r ∈ R, S.Sg wr (Out F wr) r.k r.v r.n r.cs) (hb : Below w.heap.size w wr) (h2 : H w2 F' v Z) (hF' : ∀ b, F' b → More F wr w2 b) (ht : Turn F wr w2) : Bw H w w2 v Z vx Y R ∧ Below w.heap.size w w2 :=
  ⟨⟨F', h2, fun b q => (hF' b q).elim (hF b) (fun g => Nat.le_trans hb.size g.1), hx.turn ht hF', fun r q => (S.Sg.keep (hr r q) (fun _ hp => ht.cell hp.1 hp.2)).wider (fun _ hb => hb.next ht.size hF')⟩, hb.trans (ht.below hb.size hF)⟩
theorem Bw.set (K : CellsOk H) {vc : Value} {c : Cn.Ch} (h : Bw H w wr v X vx Y R) (hc : chR vc c ∈ R) (hb : Below w.heap.size w wr) (hf : Cl.Fit 200 X) (hcl : c.length ≤ 200) (k : Cl.Ky) :
    Calls Try.prog 43 #[v, keyA k, vc] wr fun e w' => e = .returned (.tuple #[]) ∧ Bw H w w' v (Cl.setX X k c) vx Y R ∧ Below w.heap.size w w' := by
  obtain ⟨F, h1, h2, h3, h4⟩ := h
  exact (K.set h1 hf (h4 _ hc) hcl k).mono (fun e w' hh => ⟨hh.1, Bw.turn h2 h3 h4 hb hh.2.1 (fun b q => q) hh.2.2⟩)
theorem Bw.sweep (KS : SweepOk H) {va : Value} {act : List Int} (h : Bw H w wr v X vx Y R) (hr : nmR va act ∈ R) (hb : Below w.heap.size w wr) (hf : Cl.Fit 100 X) (hrx : ∀ p ∈ X, RngC p.2) (hl : act.length ≤ 200) (hra : RngN act) (k : Cl.Ky) (batch : Int) (b0 : -9223372036854775808 ≤ batch) (b1 : batch ≤ 9223372036854775807) :
    Calls Try.prog 26 #[v, va, keyA k, .int .i64 batch] wr fun e w' => e = .returned (.tuple #[keyA (Sw.nextK X k (Sw.many X batch)), .int .i64 (Sw.goneI act ((Sw.rot X k).take (Sw.many X batch)))]) ∧ Bw H w w' v (Sw.sweepS X act (Sw.takenK X k (Sw.many X batch))) vx Y R ∧ Below w.heap.size w w' := by
  obtain ⟨F, h1, h2, h3, h4⟩ := h
  exact (KS.sweep h1 hf hrx (h4 _ hr) hl hra k batch b0 b1).mono (fun e w' hh => ⟨hh.1, Bw.turn h2 h3 h4 hb hh.2.1 (fun b q => q) hh.2.2⟩)
theorem Bw.chain (K : CellsOk H) (h : Bw H w wr v X vx Y R) (hb : Below w.heap.size w wr) (hf : Cl.Fit 200 X) (k : Cl.Ky) :
    Calls Try.prog 29 #[v, keyA k] wr fun e w' => ∃ v', e = .returned v' ∧ Bw H w w' v X vx Y (chR v' (Cl.chain X k) :: R) ∧ Below w.heap.size w w' := by
  obtain ⟨F, h1, h2, h3, h4⟩ := h
  refine (K.chain h1 hf k).mono (fun e w' hh => ?_)
  obtain ⟨v', e, g1, g2⟩ := hh
  exact ⟨v', e, Bw.add K ⟨F, h1, h2, h3, h4⟩ g2 _ g1, hb.trans (g2.mono hb.size)⟩
theorem Bw.newest (K : CellsOk H) (h : Bw H w wr v X vx Y R) (hb : Below w.heap.size w wr) (hf : Cl.Fit 200 X) :
    Calls Try.prog 30 #[v] wr fun e w' => ∃ v', e = .returned v' ∧ Bw H w w' v X vx Y (wrR v' (Cl.newest X) :: R) ∧ Below w.heap.size w w' := by
  obtain ⟨F, h1, h2, h3, h4⟩ := h
  refine (K.newest h1 hf).mono (fun e w' hh => ?_)
  obtain ⟨v', e, g1, g2⟩ := hh
  exact ⟨v', e, Bw.add K ⟨F, h1, h2, h3, h4⟩ g2 _ g1, hb.trans (g2.mono hb.size)⟩
theorem Bw.keys (K : CellsOk H) (h : Bw H w wr v X vx Y R) (hb : Below w.heap.size w wr) (hf : Cl.Fit 200 X) :
    Calls Try.prog 27 #[v] wr fun e w' => ∃ v', e = .returned v' ∧ Bw H w w' v X vx Y (kyR v' X :: R) ∧ Below w.heap.size w w' := by
  obtain ⟨F, h1, h2, h3, h4⟩ := h
  refine (K.keys h1 hf).mono (fun e w' hh => ?_)
  obtain ⟨v', e, g1, g2⟩ := hh
  exact ⟨v', e, Bw.add K ⟨F, h1, h2, h3, h4⟩ g2 _ g1, hb.trans (g2.mono hb.size)⟩
/-- the document's cells, with one chain set -/
theorem Bw.setD (K : CellsOk H) {vc : Value} {c : Cn.Ch} (h : Bw H w wr v X vx Y R) (hc : chR vc c ∈ R) (hb : Below w.heap.size w wr) (hl : Y.length ≤ 1000) (hcl : c.length ≤ 1000) (k : Cl.Ky) :
    Calls Try.prog 44 #[vx, keyA k, vc] wr fun e w' => ∃ vx', e = .returned vx' ∧ Bw H w w' v X vx' (Cl.setX Y k c) R ∧ Below w.heap.size w w' := by
  obtain ⟨F, h1, h2, h3, h4⟩ := h
  refine (rset11_any h3 (h4 _ hc) (fun b q => q.1) hl hcl k).mono (fun e w' hh => ?_)
  obtain ⟨v', e, g1, g2⟩ := hh
  have e2 : ∀ b, Out F wr b → Out F w' b := fun b g => ⟨Nat.lt_of_lt_of_le g.1 g2.size, g.2⟩
  exact ⟨v', e, ⟨F, K.below h1 g2, h2, g1.wider (fun b q => q.elim (e2 b) (fun q => Out.made q (K.lt h1))), fun r q => (S.Sg.below (h4 r q) g2 (fun b g => g.1)).wider e2⟩, hb.trans (g2.mono hb.size)⟩
end

/-! ### the arguments' cells -/
/-- the slice v holds the keys and chains l, in blocks of which G holds -/
def Cla (w : World) (F : Nat → Prop) (v : Value) (X : Cl.Cs) : Prop :=
  ∃ A cap, v = .slice A X.length cap ∧ X.length ≤ cap ∧ (X ≠ [] → ∃ a, A = some a ∧ F a.block ∧
    ∀ i (h : i < X.length), ∃ vc, w.cell? (a.add (i * 4)) = some (.int .i64 X[i].1.kind) ∧ w.cell? (a.add (i * 4 + 1)) = some (.int .i64 X[i].1.a) ∧ w.cell? (a.add (i * 4 + 2)) = some (.int .i64 X[i].1.b) ∧ w.cell? (a.add (i * 4 + 3)) = some vc ∧ SlC w F vc X[i].2)
section
variable {w w' : World} {F : Nat → Prop} {B : Nat} {v : Value} {X : Cl.Cs}
theorem Cla.below (h : Cla w F v X) (hb : Below B w w') (hF : ∀ b, F b → b < B) : Cla w' F v X := by
  obtain ⟨A, cap, e, hc, hx⟩ := h
  refine ⟨A, cap, e, hc, fun hn => ?_⟩
  obtain ⟨a, e2, hg, hx⟩ := hx hn
  refine ⟨a, e2, hg, fun i hi => ?_⟩
  obtain ⟨vc, h0, h1, h2, h3, hv⟩ := hx i hi
  have hk : ∀ p : Addr, F p.block → w'.cell? p = w.cell? p := fun _ hp => hb.cell (hF _ hp)
  have hb : ∀ j, w'.cell? (a.add j) = w.cell? (a.add j) := fun j => hk _ (by rw [S.add_block]; exact hg)
  exact ⟨vc, (hb _).trans h0, (hb _).trans h1, (hb _).trans h2, (hb _).trans h3, hv.keep hk⟩
theorem Cla.form (h : Cla w F v X) : ∃ A cap, v = .slice A X.length cap ∧ X.length ≤ cap := by
  obtain ⟨A, cap, e, hc, _⟩ := h
  exact ⟨A, cap, e, hc⟩
theorem Cla.nth (h : Cla w F v X) (i : Nat) (hi : i < X.length) : ∃ a cap A c, v = .slice (some a) X.length cap ∧ X.length ≤ cap ∧ F a.block ∧
    w.cell? (a.add (i * 4)) = some (.int .i64 X[i].1.kind) ∧ w.cell? ⟨(a.add (i * 4)).block, (a.add (i * 4)).off + 1, none⟩ = some (.int .i64 X[i].1.a) ∧ w.cell? ⟨(a.add (i * 4)).block, (a.add (i * 4)).off + 2, none⟩ = some (.int .i64 X[i].1.b) ∧
    w.cell? ⟨(a.add (i * 4)).block, (a.add (i * 4)).off + 3, none⟩ = some (.slice A X[i].2.length c) ∧ SlC w F (.slice A X[i].2.length c) X[i].2 := by
  obtain ⟨A, cap, e, hc, hx⟩ := h
  obtain ⟨a, rfl, hF, hx⟩ := hx (fun e => by subst e; simp at hi)
  obtain ⟨vc, h0, h1, h2, h3, hv⟩ := hx i hi
  obtain ⟨A', c', rfl, _⟩ := SlC.form hv
  have e1 : ∀ (p : Addr) (j : Nat), (⟨p.block, p.off + (j + 1), none⟩ : Addr) = p.add (j + 1) := fun p j => by simp [Addr.add]
  refine ⟨a, cap, A', c', e, hc, hF, h0, ?_, ?_, ?_, hv⟩
  · rw [e1 _ 0, S.add_add]; exact h1
  · rw [e1 _ 1, S.add_add]; exact h2
  · rw [e1 _ 2, S.add_add]; exact h3
end

/-- the first 20 chains have at most 20 versions -/
def Few13 (l : Cl.Cs) : Prop := ∀ p ∈ l.take 20, p.2.length ≤ 20

set_option maxRecDepth 100000 in
set_option maxHeartbeats 4000000 in
theorem few13_any {w : World} {G : Nat → Prop} {v : Value} {l : Cl.Cs} (h : Cla w G v l) (hG : ∀ b, G b → b < w.heap.size) :
    Calls Try.prog 24 #[v] w fun e w' => (e = .returned (.bool false) ∧ ¬ Few13 l ∨ e = .returned (.bool true) ∧ Few13 l) ∧ Below w.heap.size w w' := by
  have HS := Lib.hid h
  obtain ⟨A, cap, rfl, hcap⟩ := h.form
  clear h
  go_enter Try.func24, Try.ntmps24
  go_wp2
  go_loopw [3] (fun i wr => ∃ k : Nat, k ≤ l.length ∧ k ≤ 20 ∧ i = .int .i64 (k : Int) ∧ Hid (∀ j (hj : j < l.length), j < k → l[j].2.length ≤ 20) ∧ Hid (Below w.heap.size w wr)) (fun i _ => l.length - (intOf i).toNat)
  case atStart => exact ⟨0, Nat.zero_le _, by omega, rfl, Lib.hid (fun j _ h => absurd h (Nat.not_lt_zero _)), Lib.hid (Below.refl _ _)⟩
  case round =>
    obtain ⟨k, hk, hk5, rfl, HI, HB⟩ := hrel
    by_cases hlt : k < l.length ∧ k < 20
    · obtain ⟨hlt, h51⟩ := hlt
      have hlt' : (k : Int) < (l.length : Int) := by omega
      have h51' : (k : Int) < 20 := by omega
      have hk0 : (0 : Int) ≤ (k : Int) := by omega
      obtain ⟨a, _, A6, c6, ea, _, _, _, _, _, y6, _⟩ := (HS.out.below HB.out hG).nth k hlt
      cases ea
      by_cases h20 : l[k].2.length ≤ 20
      · have h20' : ¬ ((l[k].2.length : Int) > 20) := by omega
        have HN : Hid (∀ j (hj : j < l.length), j < k + 1 → l[j].2.length ≤ 20) := Lib.hid (fun j hj hjk => by
          by_cases e : j = k
          · subst e; exact h20
          · exact HI.out j hj (by omega))
        clear h20
        generalize l[k].2.length = n at *
        go_wp2
        go_roundw
        case rel => exact ⟨k + 1, by omega, by omega, by go_num, HN, HB⟩
        case measure => simp [intOf]; omega
      · have h20' : (l[k].2.length : Int) > 20 := by omega
        have HN : Hid (¬ Few13 l) := Lib.hid (fun f => h20 (f _ (by rw [List.mem_take_iff_getElem]; exact ⟨k, by omega, rfl⟩)))
        clear h20
        generalize l[k].2.length = n at *
        go_wp2
        go_ret
        exact ⟨Or.inl ⟨rfl, HN.out⟩, HB.out⟩
    · have hNo : ¬ ((k : Int) < (l.length : Int)) ∨ ((k : Int) < (l.length : Int) ∧ ¬ ((k : Int) < 20)) := by omega
      have HF : Hid (Few13 l) := Lib.hid (fun x hx => by
        rw [List.mem_take_iff_getElem] at hx
        obtain ⟨j, hj, rfl⟩ := hx
        exact HI.out j (by omega) (by omega))
      clear hlt
      rcases hNo with hNo | ⟨hNo1, hNo⟩
      · go_wp2
        go_ret
        exact ⟨Or.inr ⟨rfl, HF.out⟩, HB.out⟩
      · go_wp2
        go_ret
        exact ⟨Or.inr ⟨rfl, HF.out⟩, HB.out⟩
theorem few13_yes {w : World} {G : Nat → Prop} {v : Value} {l : Cl.Cs} (h : Cla w G v l) (hG : ∀ b, G b → b < w.heap.size) (hf : Few13 l) :
    Calls Try.prog 24 #[v] w fun e w' => e = .returned (.bool true) ∧ Below w.heap.size w w' :=
  (few13_any h hG).mono (fun _ _ hh => ⟨hh.1.elim (fun q => absurd hf q.2) (fun q => q.1), hh.2⟩)
theorem few13_no {w : World} {G : Nat → Prop} {v : Value} {l : Cl.Cs} (h : Cla w G v l) (hG : ∀ b, G b → b < w.heap.size) (hf : ¬ Few13 l) :
    Calls Try.prog 24 #[v] w fun e w' => e = .returned (.bool false) ∧ Below w.heap.size w w' :=
  (few13_any h hG).mono (fun _ _ hh => ⟨hh.1.elim (fun q => q.1) (fun q => absurd q.2 hf), hh.2⟩)
theorem sweep_fit {n : Nat} {X : Cl.Cs} (h : Cl.Fit n X) {act : List Int} {S : List Cl.Ky} : Cl.Fit n (Sw.sweepS X act S) := ⟨Nat.le_trans Sw.sweep_len h.len, fun q hq => by
  obtain ⟨p, hp, hq⟩ := Sw.sweep_mem.1 hq
  split at hq
  · rw [(Sw.one_sub _ _ q hq).1]
    exact Nat.le_trans Sw.prune_sub.length_le (h.ch p hp)
  · rw [List.mem_singleton] at hq; subst hq; exact h.ch q hp⟩
end Go.Proofs.Ytmlocdfjjgbnjaa
