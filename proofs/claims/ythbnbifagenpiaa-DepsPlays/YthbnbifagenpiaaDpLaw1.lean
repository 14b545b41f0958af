/-
  Layer deps' calls as contracts (DepsOk); deeds of its laws in memory; walks of its laws' helpers: do.
-/
import Derived.Test.YthbnbifagenpiaaDpRef3
import Derived.Test.YthbnbifagenpiaaTn
namespace Go.Proofs.Ythbnbifagenpiaa
open Go.RowKit

/-- a number of 64 bits -/
structure I64 (x : Int) : Prop where
  lo : -9223372036854775808 ≤ x
  hi : x ≤ 9223372036854775807

/-- the calls of package deps; H w F v d: the pointer v holds who waits for whom, in blocks of which F holds -/
structure DepsOk (H : World → (Nat → Prop) → Value → List Dp.Wt → Prop) : Prop where
  lt : ∀ {w F v d}, H w F v d → ∀ b, F b → b < w.heap.size
  keep : ∀ {w F v d w'}, H w F v d → (∀ b, F b → w'.heap[b]? = w.heap[b]?) → w.heap.size ≤ w'.heap.size → H w' F v d
  ok : ∀ {w F v d}, H w F v d → Dp.Ok d
  rng : ∀ {w F v d}, H w F v d → ∀ p ∈ d, p.1 ≤ 9223372036854775807
  ptr : ∀ {w F v d}, H w F v d → ∃ a : Addr, v = .pointer (some a)
  new : ∀ w : World, Calls Try.prog 10 #[] w fun e w' => ∃ v, e = .returned v ∧ H w' (S.New w w') v [] ∧ Below w.heap.size w w'
  add : ∀ {w F v d}, H w F v d → d.length ≤ 200 → ∀ o n : Int, I64 o → I64 n →
    Calls Try.prog 21 #[v, .int .i64 o, .int .i64 n] w fun e w' => e = .returned (.bool (Dp.addB o n)) ∧ H w' (More F w w') v (Dp.addD d o n) ∧ Turn F w w'
  settle : ∀ {w F v d}, H w F v d → d.length ≤ 200 → ∀ n : Int, I64 n →
    Calls Try.prog 20 #[v, .int .i64 n] w fun e w' => e = .returned (.tuple #[]) ∧ H w' (More F w w') v (Dp.without d [n]) ∧ Turn F w w'
  drop : ∀ {w F v d}, H w F v d → d.length ≤ 200 → ∀ ts : Int, I64 ts →
    Calls Try.prog 18 #[v, .int .i64 ts] w fun e w' => ∃ (v' : Value) (F' T : Nat → Prop), e = .returned v' ∧ H w' F' v (Dp.dropD d ts) ∧ SlN w' T v' (Dp.dropL d ts) ∧ (∀ b, F' b → More F w w' b) ∧ (∀ b, T b → S.New w w' b ∧ ¬ F' b) ∧ Turn F w w'
  waits : ∀ {w F v d}, H w F v d → d.length ≤ 200 → ∀ o : Int, I64 o →
    Calls Try.prog 15 #[v, .int .i64 o] w fun e w' => ∃ v', e = .returned v' ∧ SlN w' (S.New w w') v' (Dp.waits d o) ∧ Below w.heap.size w w'
  all : ∀ {w F v d}, H w F v d → d.length ≤ 200 →
    Calls Try.prog 14 #[v] w fun e w' => ∃ v', e = .returned v' ∧ SlN w' (S.New w w') v' (Dp.all d) ∧ Below w.heap.size w w'

/-- the calls of a Deps that is nil -/
structure DepsNil : Prop where
  add : ∀ (o n : Int) (w : World), Calls Try.prog 21 #[.pointer none, .int .i64 o, .int .i64 n] w fun e w' => e = .returned (.bool false) ∧ Below w.heap.size w w'
  settle : ∀ (n : Int) (w : World), Calls Try.prog 20 #[.pointer none, .int .i64 n] w fun e w' => e = .returned (.tuple #[]) ∧ Below w.heap.size w w'
  drop : ∀ (ts : Int) (w : World), Calls Try.prog 18 #[.pointer none, .int .i64 ts] w fun e w' => (∃ A c, e = .returned (.slice A 0 c)) ∧ Below w.heap.size w w'
  waits : ∀ (o : Int) (w : World), Calls Try.prog 15 #[.pointer none, .int .i64 o] w fun e w' => (∃ A c, e = .returned (.slice A 0 c)) ∧ Below w.heap.size w w'
  all : ∀ w : World, Calls Try.prog 14 #[.pointer none] w fun e w' => (∃ A c, e = .returned (.slice A 0 c)) ∧ Below w.heap.size w w'

section
variable {H : World → (Nat → Prop) → Value → List Dp.Wt → Prop} {w w' : World} {F G : Nat → Prop} {v : Value} {d : List Dp.Wt}
theorem DepsOk.below (K : DepsOk H) (h : H w F v d) (hb : Below w.heap.size w w') : H w' F v d := K.keep h (fun b hF => hb.block b (K.lt h b hF)) hb.size
theorem DepsOk.turn (K : DepsOk H) (h : H w F v d) (ht : Turn G w w') (hd : ∀ b, F b → ¬ G b) : H w' F v d := K.keep h (fun b hF => ht.block b (K.lt h b hF) (hd b hF)) ht.size
end

/-- a deed -/
structure Dd12 where
  kind : Int
  a : Int
  b : Int
structure Dd12.Ok (x : Dd12) : Prop where
  k : I64 x.kind
  a : I64 x.a
  b : I64 x.b

/-- the slice v holds the deeds l, in blocks of which G holds -/
def Dds12 (w : World) (G : Nat → Prop) (v : Value) (l : List Dd12) : Prop :=
  ∃ A cap, v = .slice A l.length cap ∧ l.length ≤ cap ∧ (∀ x ∈ l, x.Ok) ∧ (l ≠ [] → ∃ a, A = some a ∧ G a.block ∧
    ∀ i (h : i < l.length), w.cell? (a.add (i * 3)) = some (.int .i64 l[i].kind) ∧ w.cell? (a.add (i * 3 + 1)) = some (.int .i64 l[i].a) ∧ w.cell? (a.add (i * 3 + 2)) = some (.int .i64 l[i].b))
theorem Dds12.keep {w w' : World} {G : Nat → Prop} {v : Value} {l : List Dd12} (h : Dds12 w G v l) (hk : ∀ p : Addr, G p.block → w'.cell? p = w.cell? p) : Dds12 w' G v l := by
  obtain ⟨A, cap, e, hc, ho, hx⟩ := h
  refine ⟨A, cap, e, hc, ho, fun hn => ?_⟩
  obtain ⟨a, e2, hg, hx⟩ := hx hn
  refine ⟨a, e2, hg, fun i hi => ?_⟩
  have hb : ∀ j, w'.cell? (a.add j) = w.cell? (a.add j) := fun j => hk _ (by rw [S.add_block]; exact hg)
  exact ⟨(hb _).trans (hx i hi).1, (hb _).trans (hx i hi).2.1, (hb _).trans (hx i hi).2.2⟩
theorem Dds12.below {w w' : World} {G : Nat → Prop} {B : Nat} {v : Value} {l : List Dd12} (h : Dds12 w G v l) (hb : Below B w w') (hG : ∀ b, G b → b < B) : Dds12 w' G v l := h.keep fun _ hp => hb.cell (hG _ hp)
theorem Dds12.form {w : World} {G : Nat → Prop} {v : Value} {l : List Dd12} (h : Dds12 w G v l) : ∃ A cap, v = .slice A l.length cap ∧ l.length ≤ cap := by
  obtain ⟨A, cap, e, hc, _⟩ := h
  exact ⟨A, cap, e, hc⟩
/-- one deed's cells, as a walk writes their places -/
theorem Dds12.nth {w : World} {G : Nat → Prop} {v : Value} {l : List Dd12} (h : Dds12 w G v l) (i : Nat) (hi : i < l.length) : ∃ a cap, v = .slice (some a) l.length cap ∧ l.length ≤ cap ∧ G a.block ∧ l[i].Ok ∧
    w.cell? (a.add (i * 3)) = some (.int .i64 l[i].kind) ∧ w.cell? ⟨(a.add (i * 3)).block, (a.add (i * 3)).off + 1, none⟩ = some (.int .i64 l[i].a) ∧ w.cell? ⟨(a.add (i * 3)).block, (a.add (i * 3)).off + 2, none⟩ = some (.int .i64 l[i].b) := by
  obtain ⟨A, cap, e, hc, ho, hx⟩ := h
  obtain ⟨a, rfl, hG, hx⟩ := hx (fun e => by subst e; simp at hi)
  obtain ⟨h0, h1, h2⟩ := hx i hi
  have e9 : ∀ (q : Addr) (j : Nat), (⟨q.block, q.off + (j + 1), none⟩ : Addr) = q.add (j + 1) := fun q j => by simp [Addr.add]
  refine ⟨a, cap, e, hc, hG, ho _ (List.getElem_mem hi), h0, ?_, ?_⟩
  · rw [e9 _ 0, S.add_add]; exact h1
  · rw [e9 _ 1, S.add_add]; exact h2
end Go.Proofs.Ythbnbifagenpiaa

namespace Go.Proofs.Ythbnbifagenpiaa.Dp
/-- what a deed leaves -/
def deedD (d : List Wt) (x : Dd12) : List Wt := if x.kind = 1 then addD d x.a x.b else if x.kind = 2 then without d [x.a] else if x.kind = 3 then dropD d x.a else d
def runD (l : List Dd12) : List Wt := l.foldl deedD []
theorem runD_snoc (l : List Dd12) (x : Dd12) : runD (l ++ [x]) = deedD (runD l) x := by unfold runD; rw [List.foldl_append]; rfl
theorem deed_len (d : List Wt) (x : Dd12) : (deedD d x).length ≤ d.length + 1 := by
  unfold deedD
  split
  · exact add_len
  · split
    · exact Nat.le_succ_of_le without_len
    · split
      · exact Nat.le_succ_of_le dropD_len
      · omega
end Go.Proofs.Ythbnbifagenpiaa.Dp

namespace Go.Proofs.Ythbnbifagenpiaa
open Go.RowKit
section
variable {H : World → (Nat → Prop) → Value → List Dp.Wt → Prop}

/-- what a deed leaves: the object in F', and the document's waits outside of it -/
def Did12 (H : World → (Nat → Prop) → Value → List Dp.Wt → Prop) (w : World) (F : Nat → Prop) (v : Value) (Y : List Dp.Wt) (e : Ending) (w' : World) : Prop :=
  ∃ vx' F', e = .returned (.tuple #[vx', .bool true]) ∧ H w' F' v Y ∧ SlW w' (Out F' w') vx' Y ∧ (∀ b, F' b → More F w w' b) ∧ Turn F w w'

theorem SlW.turn {w w' : World} {F F' : Nat → Prop} {v : Value} {c : List Dp.Wt} (h : SlW w (Out F w) v c) (ht : Turn F w w') (hF : ∀ b, F' b → More F w w' b) : SlW w' (Out F' w') v c :=
  (S.Sg.keep h (fun _ hp => ht.cell hp.1 hp.2)).wider (fun _ hb => hb.next ht.size hF)
theorem out_low {w w' : World} {F : Nat → Prop} {b : Nat} (h : Out F w b ∨ S.New w w' b) (hs : w.heap.size ≤ w'.heap.size) (hF : ∀ b, F b → b < w.heap.size) : Out F w' b :=
  h.elim (fun q => ⟨Nat.lt_of_lt_of_le q.1 hs, q.2⟩) (fun q => Out.made q hF)

theorem Did12.fin (K : DepsOk H) {w w1 w2 w5 : World} {F : Nat → Prop} {v vx' : Value} {Y : List Dp.Wt} {e : Ending} {T F2 : Nat → Prop} (hb1 : Below w.heap.size w w1) (hh : H w2 F2 v Y) (hF2 : ∀ b, F2 b → More F w1 w2 b) (ht : Turn F w1 w2) (hx : SlW w5 T vx' Y) (hT : ∀ b, T b → Out F2 w2 b ∨ S.New w2 w5 b) (hb : Below w2.heap.size w2 w5) (he : e = .returned (.tuple #[vx', .bool true])) : Did12 H w F v Y e w5 := by
  have hl := K.lt hh
  refine ⟨vx', F2, he, K.below hh hb, hx.wider (fun b q => out_low (hT b q) hb.size hl), fun b q => ?_, (Turn.after hb1 ht).trans' hb⟩
  exact (hF2 b q).elim Or.inl (fun g => Or.inr ⟨Nat.le_trans hb1.size g.1, Nat.lt_of_lt_of_le g.2 hb.size⟩)

set_option maxRecDepth 100000 in
set_option maxHeartbeats 4000000 in
theorem do12_add (K : DepsOk H) {w : World} {F : Nat → Prop} {v vx : Value} {d : List Dp.Wt} (h : H w F v d) (hx : SlW w (Out F w) vx d) (hl : d.length ≤ 150) (a b : Int) (ha : I64 a) (hb : I64 b) :
    Calls Try.prog 11 #[v, vx, .agg #[.int .i64 1, .int .i64 a, .int .i64 b]] w (Did12 H w F v (Dp.addD d a b)) := by
  have hb1 : Below w.heap.size w (w.alloc (.cells #[.int .i64 1, .int .i64 a, .int .i64 b] 30)) := (Below.refl _ _).alloc (Nat.le_refl _) _
  have HP := Lib.hid (Bk.new w [.int .i64 1, .int .i64 a, .int .i64 b] 30 rfl)
  have h1 := K.below h hb1
  have HX1 : Hid (SlW (w.alloc (.cells #[.int .i64 1, .int .i64 a, .int .i64 b] 30)) (Out F _) vx d) := Lib.hid ((S.Sg.below hx hb1 (fun b hb => hb.1)).wider (fun b hb => ⟨Nat.lt_of_lt_of_le hb.1 hb1.size, hb.2⟩))
  have HR := Lib.hid (K.add h1 (by omega) a b ha hb)
  have HB1 := Lib.hid hb1
  have hFlt := K.lt h
  have HNP : Hid (¬ F w.heap.size) := Lib.hid (fun q => by have := hFlt _ q; omega)
  have HK := Lib.hid K
  obtain ⟨rv, hrv⟩ : ∃ rv, rv = Dp.addB a b := ⟨_, rfl⟩
  have HRR : Hid (∀ w1 G, SlW w1 G vx d → (∀ b, G b → b < w1.heap.size) → Calls Try.prog 23 #[vx, .int .i64 a, .int .i64 b] w1 fun e w' => ∃ v', e = .returned (.tuple #[v', .bool rv]) ∧ SlW w' (fun b => G b ∨ S.New w1 w' b) v' (Dp.addD d a b) ∧ Below w1.heap.size w1 w') := Lib.hid (fun w1 G hc hG => by
    have := radd12_any hc hG (by omega) a b
    rw [← hrv] at this
    exact this)
  rw [← hrv] at HR
  obtain ⟨A0, c0, rfl, _⟩ := wt_form hx
  clear h1 hx hb1 h hrv hFlt
  have q : (rv == rv) = true := beq_self_eq_true rv
  have p0 := HP.out.cell 0 _ rfl
  have p1 := HP.out.cell 1 _ rfl
  have p2 := HP.out.cell 2 _ rfl
  go_enter Try.func11, Try.ntmps11
  go_wp2_with (first
    | (go_at_call 21; refine HR.out.mono ?_; rintro e w2 ⟨rfl, hh2, ht2⟩
       have HH2 := Lib.hid hh2
       have HT2 := Lib.hid ht2
       have HX2 := Lib.hid (SlW.turn HX1.out ht2 (fun b hb => hb))
       have P3 := HP.out.keep (ht2.block _ HP.out.lt HNP.out) ht2.size
       have p1 := P3.cell 1 _ rfl
       have p2 := P3.cell 2 _ rfl
       clear hh2 ht2 P3)
    | (go_at_call 23
       refine (HRR.out _ _ HX2.out (fun b hb => hb.1)).mono ?_
       rintro e w3 ⟨v3, rfl, hx3, hb3⟩
       have HX3 := Lib.hid hx3
       have HB3 := Lib.hid hb3
       clear hx3 hb3))
  go_ret2
  exact Did12.fin K HB1.out HH2.out (fun b q => q) HT2.out HX3.out (fun b q => q) HB3.out rfl
end
end Go.Proofs.Ythbnbifagenpiaa
