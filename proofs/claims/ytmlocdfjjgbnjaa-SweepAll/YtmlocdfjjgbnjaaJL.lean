/-
  Deeds of layer chain's laws in memory.
  Walks of layer chain's laws' helpers: the document's example, do.
-/
import Derived.Test.YtmlocdfjjgbnjaaJA
import Derived.Test.YtmlocdfjjgbnjaaChLaw1
namespace Go.Proofs.Ytmlocdfjjgbnjaa
open Go.RowKit

/-- a deed -/
structure Dd10 where
  kind : Int
  ts : Int
  val : ByteArray

structure Dd10.Ok (x : Dd10) : Prop where
  k0 : -9223372036854775808 ≤ x.kind
  k1 : x.kind ≤ 9223372036854775807
  t0 : -9223372036854775808 ≤ x.ts
  t1 : x.ts ≤ 9223372036854775807

/-- the slice v holds the deeds l, in blocks of which G holds -/
def Dds10 (w : World) (G : Nat → Prop) (v : Value) (l : List Dd10) : Prop :=
  ∃ A cap, v = .slice A l.length cap ∧ l.length ≤ cap ∧ (∀ x ∈ l, x.Ok) ∧ (l ≠ [] → ∃ a, A = some a ∧ G a.block ∧
    ∀ i (h : i < l.length), w.cell? (a.add (i * 3)) = some (.int .i64 l[i].kind) ∧ w.cell? (a.add (i * 3 + 1)) = some (.int .i64 l[i].ts) ∧ w.cell? (a.add (i * 3 + 2)) = some (.string l[i].val))

theorem Dds10.keep {w w' : World} {G : Nat → Prop} {v : Value} {l : List Dd10} (h : Dds10 w G v l) (hk : ∀ p : Addr, G p.block → w'.cell? p = w.cell? p) : Dds10 w' G v l := by
  obtain ⟨A, cap, e, hc, ho, hx⟩ := h
  refine ⟨A, cap, e, hc, ho, fun hn => ?_⟩
  obtain ⟨a, e2, hg, hx⟩ := hx hn
  refine ⟨a, e2, hg, fun i hi => ?_⟩
  have hb : ∀ j, w'.cell? (a.add j) = w.cell? (a.add j) := fun j => hk _ (by rw [S.add_block]; exact hg)
  exact ⟨(hb _).trans (hx i hi).1, (hb _).trans (hx i hi).2.1, (hb _).trans (hx i hi).2.2⟩
theorem Dds10.below {w w' : World} {G : Nat → Prop} {B : Nat} {v : Value} {l : List Dd10} (h : Dds10 w G v l) (hb : Below B w w') (hG : ∀ b, G b → b < B) : Dds10 w' G v l := h.keep fun _ hp => hb.cell (hG _ hp)
theorem Dds10.form {w : World} {G : Nat → Prop} {v : Value} {l : List Dd10} (h : Dds10 w G v l) : ∃ A cap, v = .slice A l.length cap ∧ l.length ≤ cap := by
  obtain ⟨A, cap, e, hc, _⟩ := h
  exact ⟨A, cap, e, hc⟩

/-- one deed's cells, as a walk writes their places -/
theorem Dds10.nth {w : World} {G : Nat → Prop} {v : Value} {l : List Dd10} (h : Dds10 w G v l) (i : Nat) (hi : i < l.length) : ∃ a cap, v = .slice (some a) l.length cap ∧ l.length ≤ cap ∧ G a.block ∧ l[i].Ok ∧
    w.cell? (a.add (i * 3)) = some (.int .i64 l[i].kind) ∧ w.cell? ⟨(a.add (i * 3)).block, (a.add (i * 3)).off + 1, none⟩ = some (.int .i64 l[i].ts) ∧ w.cell? ⟨(a.add (i * 3)).block, (a.add (i * 3)).off + 2, none⟩ = some (.string l[i].val) := by
  obtain ⟨A, cap, e1, hc, ho, hx⟩ := h
  obtain ⟨a, rfl, hG, hx⟩ := hx (fun e => by subst e; simp at hi)
  obtain ⟨h0, h1, h2⟩ := hx i hi
  have e : ∀ (q : Addr) (j : Nat), (⟨q.block, q.off + (j + 1), none⟩ : Addr) = q.add (j + 1) := fun q j => by simp [Addr.add]
  exact ⟨a, cap, e1, hc, hG, ho _ (List.getElem_mem hi), h0, by rw [e _ 0, S.add_add]; exact h1, by rw [e _ 1, S.add_add]; exact h2⟩

/-- a version of it at a later world -/
theorem three_keep {w w1 : World} {B : Nat} {p : Addr} {u0 u1 u2 : Value} (hb : Below B w w1) (hp : p.block < B) (h : w.cell? p = some u0 ∧ w.cell? ⟨p.block, p.off + 1, none⟩ = some u1 ∧ w.cell? ⟨p.block, p.off + 2, none⟩ = some u2) :
    w1.cell? p = some u0 ∧ w1.cell? ⟨p.block, p.off + 1, none⟩ = some u1 ∧ w1.cell? ⟨p.block, p.off + 2, none⟩ = some u2 :=
  ⟨(hb.cell hp).trans h.1, (hb.cell (p := ⟨p.block, p.off + 1, none⟩) hp).trans h.2.1, (hb.cell (p := ⟨p.block, p.off + 2, none⟩) hp).trans h.2.2⟩

theorem three_back {w w1 : World} {B : Nat} {p : Addr} {u0 u1 u2 : Value} (hb : Below B w w1) (hp : p.block < B) (h : w1.cell? p = some u0 ∧ w1.cell? ⟨p.block, p.off + 1, none⟩ = some u1 ∧ w1.cell? ⟨p.block, p.off + 2, none⟩ = some u2) :
    w.cell? p = some u0 ∧ w.cell? ⟨p.block, p.off + 1, none⟩ = some u1 ∧ w.cell? ⟨p.block, p.off + 2, none⟩ = some u2 :=
  ⟨(hb.cell hp).symm.trans h.1, (hb.cell (p := ⟨p.block, p.off + 1, none⟩) hp).symm.trans h.2.1, (hb.cell (p := ⟨p.block, p.off + 2, none⟩) hp).symm.trans h.2.2⟩

end Go.Proofs.Ytmlocdfjjgbnjaa

namespace Go.Proofs.Ytmlocdfjjgbnjaa.Cn
theorem read_len_le (c : Ch) (ts : Int) : (readC c ts).length = c.length := read_len c ts
theorem write_len_le (c : Ch) (ts : Int) (val : ByteArray) : (writeC c ts val).length ≤ c.length + 1 := by
  unfold writeC
  split
  · omega
  · split
    · omega
    · split
      · rw [List.length_set]; omega
      · simp only [List.length_append, List.length_take, List.length_cons, List.length_drop]
        omega
theorem abort_len_le (c : Ch) (ts : Int) : (abortC c ts).length ≤ c.length := by
  unfold abortC
  split
  · exact List.length_filter_le ..
  · omega
theorem deed_len_le (c : Ch) (kind ts : Int) (val : ByteArray) : (deed c kind ts val).length ≤ c.length + 1 := by
  unfold deed
  split
  · rw [read_len]; omega
  · split
    · exact write_len_le c ts val
    · split
      · rw [commit_len]; omega
      · split
        · have := abort_len_le c ts; omega
        · omega
end Go.Proofs.Ytmlocdfjjgbnjaa.Cn

namespace Go.Proofs.Ytmlocdfjjgbnjaa
open Go.RowKit

/-- a chain in memory, wherever -/
def Lc (w : World) (v : Value) (c : Cn.Ch) : Prop := ∃ F, SlC w F v c ∧ ∀ b, F b → b < w.heap.size

section
variable {w w' : World} {v : Value} {c : Cn.Ch}
theorem Lc.below (h : Lc w v c) (hb : Below w.heap.size w w') : Lc w' v c := by
  obtain ⟨F, hs, hF⟩ := h
  exact ⟨F, hs.below hb hF, fun b q => Nat.lt_of_lt_of_le (hF b q) hb.size⟩
theorem Lc.form (h : Lc w v c) : ∃ A cap, v = .slice A c.length cap ∧ c.length ≤ cap := by
  obtain ⟨F, hs, _⟩ := h
  exact SlC.form hs
theorem Lc.nth (h : Lc w v c) (i : Nat) (hi : i < c.length) : ∃ a cap, v = .slice (some a) c.length cap ∧ c.length ≤ cap ∧ a.block < w.heap.size ∧
    w.cell? (a.add (i * 4)) = some (.int .i64 c[i].ts) ∧ w.cell? ⟨(a.add (i * 4)).block, (a.add (i * 4)).off + 1, none⟩ = some (.int .i64 c[i].rd) ∧ w.cell? ⟨(a.add (i * 4)).block, (a.add (i * 4)).off + 2, none⟩ = some (.string c[i].val) ∧ w.cell? ⟨(a.add (i * 4)).block, (a.add (i * 4)).off + 3, none⟩ = some (.bool c[i].done) := by
  obtain ⟨F, hs, hF⟩ := h
  obtain ⟨a, cap, e, hc, hFa, x⟩ := SlC.nth hs i hi
  exact ⟨a, cap, e, hc, hF _ hFa, x⟩
theorem Lc.of_new (h : SlC w' (S.New w w') v c) : Lc w' v c := ⟨_, h, fun _ q => q.2⟩

theorem ChainOk.freshL (K : ChainOk) (w : World) : Calls Try.prog 39 #[] w fun e w' => ∃ v', e = .returned v' ∧ Lc w' v' Cn.fresh ∧ Below w.heap.size w w' :=
  (K.fresh w).mono (fun _ _ hh => by obtain ⟨v', e, hs, hb⟩ := hh; exact ⟨v', e, Lc.of_new hs, hb⟩)
theorem ChainOk.mayL (K : ChainOk) (h : Lc w v c) (hl : c.length ≤ 1000) : Calls Try.prog 23 #[v] w fun e w' => e = .returned (.bool (Cn.mayB c)) ∧ Below w.heap.size w w' := by
  obtain ⟨F, hs, hF⟩ := h
  exact K.may hs hF hl
theorem ChainOk.lookL (K : ChainOk) (h : Lc w v c) (hl : c.length ≤ 1000) (ts : Int) (t0 : -9223372036854775808 ≤ ts) (t1 : ts ≤ 9223372036854775807) : Calls Try.prog 20 #[v, .int .i64 ts] w fun e w' => e = .returned (.int .i64 (Cn.look c ts)) ∧ Below w.heap.size w w' := by
  obtain ⟨F, hs, hF⟩ := h
  exact K.look hs hF hl ts t0 t1
theorem lc_or {w w' : World} {F : Nat → Prop} {v : Value} {c : Cn.Ch} (h : SlC w' (fun b => F b ∨ S.New w w' b) v c) (hF : ∀ b, F b → b < w.heap.size) (hb : Below w.heap.size w w') : Lc w' v c :=
  ⟨_, h, fun b q => q.elim (fun q => Nat.lt_of_lt_of_le (hF b q) hb.size) (fun q => q.2)⟩
theorem ChainOk.readL (K : ChainOk) (h : Lc w v c) (hl : c.length ≤ 1000) (ts : Int) (t0 : -9223372036854775808 ≤ ts) (t1 : ts ≤ 9223372036854775807) : Calls Try.prog 21 #[v, .int .i64 ts] w fun e w' => ∃ v', e = .returned (.tuple #[v', verA (Cn.readV c ts)]) ∧ Lc w' v' (Cn.readC c ts) ∧ Below w.heap.size w w' := by
  obtain ⟨F, hs, hF⟩ := h
  exact (K.read hs hF hl ts t0 t1).mono (fun _ _ hh => by obtain ⟨v', e, hs, hb⟩ := hh; exact ⟨v', e, lc_or hs hF hb, hb⟩)
theorem ChainOk.writeL (K : ChainOk) (h : Lc w v c) (hl : c.length ≤ 1000) (ts : Int) (val : ByteArray) (t0 : -9223372036854775808 ≤ ts) (t1 : ts ≤ 9223372036854775807) : Calls Try.prog 22 #[v, .int .i64 ts, .string val] w fun e w' => ∃ v', e = .returned (.tuple #[v', .int .i64 (Cn.writeE c ts)]) ∧ Lc w' v' (Cn.writeC c ts val) ∧ Below w.heap.size w w' := by
  obtain ⟨F, hs, hF⟩ := h
  exact (K.write hs hF hl ts val t0 t1).mono (fun _ _ hh => by obtain ⟨v', e, hs, hb⟩ := hh; exact ⟨v', e, lc_or hs hF hb, hb⟩)
theorem sameL {va vb : Value} (ha : Lc w va c) (hb : Lc w vb c) (hl : c.length ≤ 1000000) : Calls Try.prog 14 #[va, vb] w fun e w' => e = .returned (.bool true) ∧ Below w.heap.size w w' := by
  obtain ⟨F, hs, hF⟩ := ha
  obtain ⟨G, hs', hG⟩ := hb
  exact (rsame10_any hs hs' hl).mono (fun _ _ hh => ⟨hh.1, hh.2.low⟩)
end

/-! ### the document's example -/

def ex1 : Cn.Ch := Cn.readC Cn.fresh 9
def ex2 : Cn.Ch := Cn.writeC ex1 12 ⟨#[121]⟩
theorem ex_facts : verA (Cn.readV Cn.fresh 9) = .agg #[.int .i64 0, .int .i64 9, .string ⟨#[]⟩, .bool true] ∧ ex1.length = 1 ∧ Cn.writeE ex1 5 = 8 ∧ Cn.writeE ex1 12 = 0 ∧ ex2.length = 2 ∧ Cn.look ex2 11 = 0 ∧ Cn.look ex2 12 = 1 ∧ Cn.mayB ex2 = true := by
  refine ⟨rfl, rfl, rfl, rfl, rfl, rfl, rfl, rfl⟩

/-! ### do -/

end Go.Proofs.Ytmlocdfjjgbnjaa
