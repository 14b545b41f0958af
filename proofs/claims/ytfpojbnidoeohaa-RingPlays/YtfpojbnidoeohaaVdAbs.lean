/-
  What the laws of layer vdisk ask of the program's calls: each call's contract, over whatever 'the pointer holds this disk' may mean. And deeds.
-/
import Derived.Test.YtfpojbnidoeohaaVdRef6
namespace Go.Proofs.Ytfpojbnidoeohaa
open Go.RowKit

/-- outside of the blocks of which F holds the world w' is as w was -/
structure Turn (F : Nat → Prop) (w w' : World) : Prop where
  os : w'.os = w.os
  tape : w'.tape = w.tape
  output : w'.output = w.output
  size : w.heap.size ≤ w'.heap.size
  block : ∀ k, k < w.heap.size → ¬ F k → w'.heap[k]? = w.heap[k]?

section
variable {F G : Nat → Prop} {B : Nat} {w w1 w' : World}

theorem Turn.below (h : Turn F w w') (hB : B ≤ w.heap.size) (hF : ∀ b, F b → B ≤ b) : Below B w w' :=
  ⟨h.os, h.tape, h.output, h.size, fun k hk => h.block k (by omega) (fun g => by have := hF k g; omega)⟩
theorem Turn.of_below (h : Below w.heap.size w w') : Turn F w w' := ⟨h.os, h.tape, h.output, h.size, fun k hk _ => h.block k hk⟩
theorem Turn.cell (h : Turn F w w') {p : Addr} (hp : p.block < w.heap.size) (hF : ¬ F p.block) : w'.cell? p = w.cell? p := World.cell?_of_block (h.block _ hp hF)
theorem Turn.frozen (h : Turn F w w') {p : Addr} (hp : p.block < w.heap.size) (hF : ¬ F p.block) : w'.frozen? p = w.frozen? p := World.frozen?_of_block (h.block _ hp hF)

theorem Rd.turn {v : Value} {d : D.Dk} (h : Rd w G v d) (ht : Turn F w w') (hlt : ∀ b, G b → b < w.heap.size) (hd : ∀ b, G b → ¬ F b) : Rd w' G v d :=
  h.keep fun _ hp => ht.cell (hlt _ hp) (hd _ hp)
theorem B3.turn {p : Nat} {x y z : Value} (h : B3 w p x y z) (ht : Turn F w w') (hp : ¬ F p) : B3 w' p x y z :=
  have hl := h.lt
  ⟨Nat.lt_of_lt_of_le hl ht.size, (ht.cell hl hp).trans h.c0, (ht.cell hl hp).trans h.c1, (ht.cell hl hp).trans h.c2, (ht.frozen hl hp).trans h.f0, (ht.frozen hl hp).trans h.f1, (ht.frozen hl hp).trans h.f2⟩
end

/-- blocks of F, and those that were made since -/
abbrev More (F : Nat → Prop) (w w' : World) : Nat → Prop := fun b => F b ∨ S.New w w' b

/-- the program's calls do what the document says; H w F v d: the pointer v holds the disk d, in blocks of which F holds -/
structure DiskOk (H : World → (Nat → Prop) → Value → D.Dk → Prop) : Prop where
  ptr : ∀ {w F v d}, H w F v d → ∃ a : Addr, v = .pointer (some a)
  lt : ∀ {w F v d}, H w F v d → ∀ b, F b → b < w.heap.size
  keep : ∀ {w F v d w'}, H w F v d → (∀ b, F b → w'.heap[b]? = w.heap[b]?) → w.heap.size ≤ w'.heap.size → H w' F v d
  fit : ∀ {w F v d}, H w F v d → d.Fit ∧ 1 ≤ d.secs.length ∧ d.secs.length ≤ 1024
  row : ∀ {w F v d}, H w F v d → d.row.length ≤ 9223372036854775807
  no : ∀ (n : Int) (w : World), (n < 1 ∨ 1024 < n) → Calls Try.prog 10 #[.int .i64 n] w fun e w' => e = .returned (.pointer none) ∧ Below w.heap.size w w'
  new : ∀ (n : Nat) (w : World), 1 ≤ n → n ≤ 1024 → Calls Try.prog 10 #[.int .i64 n] w fun e w' => ∃ v, e = .returned v ∧ H w' (S.New w w') v ⟨List.replicate n (D.full []), []⟩ ∧ Below w.heap.size w w'
  write : ∀ {w F v d} (G : Nat → Prop) (vb : Value) (l : List UInt8) (i : Int), H w F v d → SlB w G vb l → (∀ b, G b → b < w.heap.size) → d.row.length ≤ 1000 → l.length ≤ 1000000 → -9223372036854775808 ≤ i → i ≤ 9223372036854775807 →
    Calls Try.prog 45 #[v, .int .i64 i, vb] w fun e w' => e = .returned (.int .i64 (d.bad i l)) ∧ H w' (More F w w') v (d.write i l) ∧ Turn F w w'
  read : ∀ {w F v d} (i : Int), H w F v d → -9223372036854775808 ≤ i → i ≤ 9223372036854775807 →
    Calls Try.prog 20 #[v, .int .i64 i] w fun e w' => ∃ vb l k, e = .returned (.tuple #[vb, .int .i64 k]) ∧ rdV d i = .tuple #[.string ⟨l.toArray⟩, .int .i64 k] ∧ SlB w' (S.New w w') vb l ∧ Below w.heap.size w w'
  sync : ∀ {w F v d}, H w F v d → Calls Try.prog 35 #[v] w fun e w' => e = .returned (.tuple #[]) ∧ H w' (More F w w') v d.sync ∧ Turn F w w'
  len : ∀ {w F v d}, H w F v d → Calls Try.prog 31 #[v] w fun e w' => e = .returned (.int .i64 d.secs.length) ∧ Below w.heap.size w w'
  pending : ∀ {w F v d}, H w F v d → Calls Try.prog 22 #[v] w fun e w' => e = .returned (.int .i64 d.row.length) ∧ Below w.heap.size w w'
  copy : ∀ {w F v d}, H w F v d → Calls Try.prog 26 #[v] w fun e w' => ∃ v', e = .returned v' ∧ H w' (S.New w w') v' d ∧ Below w.heap.size w w'

section
variable {H : World → (Nat → Prop) → Value → D.Dk → Prop} {w w' : World} {F G : Nat → Prop} {v : Value} {d : D.Dk}

theorem DiskOk.below (K : DiskOk H) (h : H w F v d) (hb : Below w.heap.size w w') : H w' F v d := K.keep h (fun b hF => hb.block b (K.lt h b hF)) hb.size
theorem DiskOk.turn (K : DiskOk H) (h : H w F v d) (ht : Turn G w w') (hd : ∀ b, F b → ¬ G b) : H w' F v d := K.keep h (fun b hF => ht.block b (K.lt h b hF) (hd b hF)) ht.size
theorem DiskOk.set (K : DiskOk H) (h : H w F v d) {p : Nat} (hp : ¬ F p) (o : Nat) (u : Value) : H (w.setCell ⟨p, o, none⟩ u) F v d :=
  K.keep h (fun b hF => Below.heap_setCell w ⟨p, o, none⟩ u b (fun e => hp (by have e : b = p := e; rw [← e]; exact hF))) (by simp [World.setCell])
end

/-- a deed -/
structure Deed where
  kind : Int
  at_ : Int
  b : List UInt8
  keep : List Bool

/-- numbers of a Go int -/
structure Deed.Ok (x : Deed) : Prop where
  k0 : -9223372036854775808 ≤ x.kind
  k1 : x.kind ≤ 9223372036854775807
  a0 : -9223372036854775808 ≤ x.at_
  a1 : x.at_ ≤ 9223372036854775807
  kl : x.keep.length ≤ 9223372036854775807
  bl : x.b.length ≤ 9223372036854775807

/-- the four cells of a deed -/
def DeedV (w : World) (G : Nat → Prop) (c0 c1 c2 c3 : Value) (x : Deed) : Prop :=
  c0 = .int .i64 x.kind ∧ c1 = .int .i64 x.at_ ∧ SlB w G c2 x.b ∧ SlT w G c3 x.keep

/-- the slice v holds the deeds l, in blocks of which G holds -/
def Deeds (w : World) (G : Nat → Prop) (v : Value) (l : List Deed) : Prop :=
  ∃ A cap, v = .slice A l.length cap ∧ l.length ≤ cap ∧ (∀ x ∈ l, x.Ok) ∧ (l ≠ [] → ∃ a, A = some a ∧ G a.block ∧
    ∀ i (h : i < l.length), ∃ c0 c1 c2 c3, w.cell? (a.add (i * 4 + 0)) = some c0 ∧ w.cell? (a.add (i * 4 + 1)) = some c1 ∧ w.cell? (a.add (i * 4 + 2)) = some c2 ∧ w.cell? (a.add (i * 4 + 3)) = some c3 ∧ DeedV w G c0 c1 c2 c3 l[i])

theorem DeedV.keep {w w' : World} {G : Nat → Prop} {c0 c1 c2 c3 : Value} {x : Deed} (h : DeedV w G c0 c1 c2 c3 x) (hk : ∀ p : Addr, G p.block → w'.cell? p = w.cell? p) : DeedV w' G c0 c1 c2 c3 x :=
  ⟨h.1, h.2.1, h.2.2.1.keep hk, h.2.2.2.keep hk⟩

theorem Deeds.keep {w w' : World} {G : Nat → Prop} {v : Value} {l : List Deed} (h : Deeds w G v l) (hk : ∀ p : Addr, G p.block → w'.cell? p = w.cell? p) : Deeds w' G v l := by
  obtain ⟨A, cap, e, hc, ho, hx⟩ := h
  refine ⟨A, cap, e, hc, ho, fun hn => ?_⟩
  obtain ⟨a, e2, hg, hx⟩ := hx hn
  refine ⟨a, e2, hg, fun i hi => ?_⟩
  obtain ⟨c0, c1, c2, c3, h0, h1, h2, h3, hv⟩ := hx i hi
  have hb : ∀ j, w'.cell? (a.add j) = w.cell? (a.add j) := fun j => hk _ (by rw [S.add_block]; exact hg)
  exact ⟨c0, c1, c2, c3, (hb _).trans h0, (hb _).trans h1, (hb _).trans h2, (hb _).trans h3, hv.keep hk⟩

theorem Deeds.below {w w' : World} {G : Nat → Prop} {B : Nat} {v : Value} {l : List Deed} (h : Deeds w G v l) (hb : Below B w w') (hG : ∀ b, G b → b < B) : Deeds w' G v l := h.keep fun _ hp => hb.cell (hG _ hp)

def fewM (l : List Deed) : Bool := decide (l.length ≤ 60 ∧ ∀ x ∈ l, x.b.length ≤ 100)

end Go.Proofs.Ytfpojbnidoeohaa
