/-
  Deeds of layer cells' laws in memory: seven cells each, a chain among them.
-/
import Derived.Test.YtmlocdfjjgbnjaaJZ
namespace Go.Proofs.Ytmlocdfjjgbnjaa
open Go.RowKit

/-- a deed -/
structure Dd11 where
  kind : Int
  k : Cl.Ky
  ts : Int
  val : ByteArray
  l : Cn.Ch

structure Dd11.Ok (x : Dd11) : Prop where
  k0 : -9223372036854775808 ≤ x.kind
  k1 : x.kind ≤ 9223372036854775807
  t0 : -9223372036854775808 ≤ x.ts
  t1 : x.ts ≤ 9223372036854775807

/-- the seven cells of a deed at a -/
structure Dc11 (w : World) (G : Nat → Prop) (a : Addr) (x : Dd11) : Prop where
  c0 : w.cell? a = some (.int .i64 x.kind)
  c1 : w.cell? ⟨a.block, a.off + 1, none⟩ = some (.int .i64 x.k.kind)
  c2 : w.cell? ⟨a.block, a.off + 2, none⟩ = some (.int .i64 x.k.a)
  c3 : w.cell? ⟨a.block, a.off + 3, none⟩ = some (.int .i64 x.k.b)
  c4 : w.cell? ⟨a.block, a.off + 4, none⟩ = some (.int .i64 x.ts)
  c5 : w.cell? ⟨a.block, a.off + 5, none⟩ = some (.string x.val)
  c6 : ∃ v, w.cell? ⟨a.block, a.off + 6, none⟩ = some v ∧ SlC w G v x.l

/-- the slice v holds the deeds l, in blocks of which G holds -/
def Dds11 (w : World) (G : Nat → Prop) (v : Value) (l : List Dd11) : Prop :=
  ∃ A cap, v = .slice A l.length cap ∧ l.length ≤ cap ∧ (∀ x ∈ l, x.Ok) ∧ (l ≠ [] → ∃ a, A = some a ∧ G a.block ∧ ∀ i (h : i < l.length), Dc11 w G (a.add (i * 7)) l[i])

theorem Dc11.keep {w w' : World} {G : Nat → Prop} {a : Addr} {x : Dd11} (h : Dc11 w G a x) (ha : G a.block) (hk : ∀ p : Addr, G p.block → w'.cell? p = w.cell? p) : Dc11 w' G a x := by
  obtain ⟨v, hv, hs⟩ := h.c6
  exact ⟨(hk a ha).trans h.c0, (hk ⟨_, _, none⟩ ha).trans h.c1, (hk ⟨_, _, none⟩ ha).trans h.c2, (hk ⟨_, _, none⟩ ha).trans h.c3, (hk ⟨_, _, none⟩ ha).trans h.c4, (hk ⟨_, _, none⟩ ha).trans h.c5, v, (hk ⟨_, _, none⟩ ha).trans hv, S.Sg.keep hs hk⟩
theorem Dds11.keep {w w' : World} {G : Nat → Prop} {v : Value} {l : List Dd11} (h : Dds11 w G v l) (hk : ∀ p : Addr, G p.block → w'.cell? p = w.cell? p) : Dds11 w' G v l := by
  obtain ⟨A, cap, e, hc, ho, hx⟩ := h
  refine ⟨A, cap, e, hc, ho, fun hn => ?_⟩
  obtain ⟨a, e2, hg, hx⟩ := hx hn
  exact ⟨a, e2, hg, fun i hi => (hx i hi).keep (by rw [S.add_block]; exact hg) hk⟩
theorem Dds11.below {w w' : World} {G : Nat → Prop} {B : Nat} {v : Value} {l : List Dd11} (h : Dds11 w G v l) (hb : Below B w w') (hG : ∀ b, G b → b < B) : Dds11 w' G v l := h.keep fun _ hp => hb.cell (hG _ hp)
theorem Dds11.form {w : World} {G : Nat → Prop} {v : Value} {l : List Dd11} (h : Dds11 w G v l) : ∃ A cap, v = .slice A l.length cap ∧ l.length ≤ cap := by
  obtain ⟨A, cap, e, hc, _⟩ := h
  exact ⟨A, cap, e, hc⟩
theorem Dds11.nth {w : World} {G : Nat → Prop} {v : Value} {l : List Dd11} (h : Dds11 w G v l) (i : Nat) (hi : i < l.length) : ∃ a cap, v = .slice (some a) l.length cap ∧ l.length ≤ cap ∧ G a.block ∧ l[i].Ok ∧ Dc11 w G (a.add (i * 7)) l[i] := by
  obtain ⟨A, cap, e1, hc, ho, hx⟩ := h
  obtain ⟨a, rfl, hG, hx⟩ := hx (fun e => by subst e; simp at hi)
  exact ⟨a, cap, e1, hc, hG, ho _ (List.getElem_mem hi), hx i hi⟩
/-- .. as a walk wants it: the last cell's slice in its own form -/
theorem Dc11.last {w : World} {G : Nat → Prop} {a : Addr} {x : Dd11} (h : Dc11 w G a x) : ∃ A c, w.cell? ⟨a.block, a.off + 6, none⟩ = some (.slice A x.l.length c) ∧ SlC w G (.slice A x.l.length c) x.l := by
  obtain ⟨v, hv, hs⟩ := h.c6
  obtain ⟨A, c, rfl, _⟩ := SlC.form hs
  exact ⟨A, c, hv, hs⟩

/-- few deeds, of few versions -/
structure Few (l : List Dd11) : Prop where
  len : l.length ≤ 50
  ch : ∀ x ∈ l, x.l.length ≤ 20

end Go.Proofs.Ytmlocdfjjgbnjaa
namespace Go.Proofs.Ytmlocdfjjgbnjaa.Cl

/-- what a deed leaves -/
def deedX (X : Cs) (d : Dd11) : Cs := if d.kind = 1 then readX X d.k d.ts else if d.kind = 2 then writeX X d.k d.ts d.val else if d.kind = 3 then commitX X d.ts else if d.kind = 4 then abortX X d.ts else if d.kind = 5 then setX X d.k d.l else X
def runX (l : List Dd11) : Cs := l.foldl deedX []
theorem runX_snoc (l : List Dd11) (d : Dd11) : runX (l ++ [d]) = deedX (runX l) d := by unfold runX; rw [List.foldl_append]; rfl

/-- cells few enough -/
structure Fit (n : Nat) (X : Cs) : Prop where
  len : X.length ≤ n
  ch : ∀ p ∈ X, p.2.length ≤ n + 20
theorem Fit.nil (n : Nat) : Fit n [] := ⟨Nat.zero_le _, fun p hp => by cases hp⟩
theorem Fit.chain {n : Nat} {X : Cs} (h : Fit n X) (k : Ky) : (chain X k).length ≤ n + 20 := by
  induction X with
  | nil => show 1 ≤ _; omega
  | cons p X ih =>
    show (if p.1 = k then p.2 else Cl.chain X k).length ≤ _
    split
    · exact h.ch p (by simp)
    · exact ih ⟨by have := h.len; simp at this; omega, fun q hq => h.ch q (by simp [hq])⟩
theorem Fit.more {n m : Nat} {X : Cs} (h : Fit n X) (hm : n ≤ m) : Fit m X := ⟨Nat.le_trans h.len hm, fun p hp => by have := h.ch p hp; omega⟩
theorem Fit.set {n : Nat} {X : Cs} (h : Fit n X) (k : Ky) {c : Cn.Ch} (hc : c.length ≤ n + 21) : Fit (n + 1) (setX X k c) := by
  refine ⟨?_, fun p hp => ?_⟩
  · unfold setX
    rw [List.length_append, List.length_append]
    have h1 : (one k c).length ≤ 1 := by unfold one; split <;> simp
    have h2 : (X.takeWhile (ahead k)).length + (X.dropWhile (ahead k)).length = X.length := by rw [← List.length_append, List.takeWhile_append_dropWhile]
    have h3 := List.length_filter_le (other k) (X.dropWhile (ahead k))
    have := h.len
    omega
  · rcases mem_set hp with ⟨g, _⟩ | ⟨rfl, _⟩
    · have := h.ch p g; omega
    · show c.length ≤ _; omega
theorem Fit.map {n : Nat} {X : Cs} (h : Fit n X) (g : Cn.Ch → Cn.Ch) (hg : ∀ c, (g c).length ≤ c.length) : Fit n (X.map (fun p => (p.1, g p.2))) := by
  refine ⟨by rw [List.length_map]; exact h.len, fun p hp => ?_⟩
  obtain ⟨q, hq, rfl⟩ := List.mem_map.1 hp
  exact Nat.le_trans (hg _) (h.ch q hq)
theorem Fit.read {n : Nat} {X : Cs} (h : Fit n X) (k : Ky) (ts : Int) : Fit (n + 1) (readX X k ts) := by
  unfold readX
  split
  · exact h.more (by omega)
  · exact h.set k (by rw [Cn.read_len]; have := h.chain k; omega)
theorem Fit.write {n : Nat} {X : Cs} (h : Fit n X) (k : Ky) (ts : Int) (val : ByteArray) : Fit (n + 1) (writeX X k ts val) := by
  unfold writeX
  split
  · exact h.more (by omega)
  · exact h.set k (by have := wlen (Cl.chain X k) ts val; have := h.chain k; omega)
theorem Fit.commit {n : Nat} {X : Cs} (h : Fit n X) (ts : Int) : Fit n (commitX X ts) := h.map (fun c => Cn.commitC c ts) (fun c => Nat.le_of_eq (Cn.commit_len c ts))
theorem Fit.abort {n : Nat} {X : Cs} (h : Fit n X) (ts : Int) : Fit n (abortX X ts) := h.map (fun c => Cn.abortC c ts) (fun c => alen c ts)
theorem Fit.deed {n : Nat} {X : Cs} (h : Fit n X) (d : Dd11) (hd : d.l.length ≤ 20) : Fit (n + 1) (deedX X d) := by
  unfold deedX
  split
  · exact h.read _ _
  · split
    · exact h.write _ _ _
    · split
      · exact (h.commit _).more (by omega)
      · split
        · exact (h.abort _).more (by omega)
        · split
          · exact h.set _ (by omega)
          · exact h.more (by omega)
theorem Ord.deed {X : Cs} (h : Ord X) (d : Dd11) : Ord (deedX X d) := by
  unfold deedX
  split
  · exact h.read _ _
  · split
    · exact h.write _ _ _
    · split
      · exact h.commit _
      · split
        · exact h.abort _
        · split
          · exact h.set _ _
          · exact h

end Go.Proofs.Ytmlocdfjjgbnjaa.Cl
