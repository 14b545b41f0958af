/-
  The program's disk: what 'the pointer holds the disk d' means; how many sectors, how many writes, whether a sector is there.
-/
import Derived.Test.YtbjbnjpdackloaaJC
import Derived.Test.YtbjbnjpdackloaaJB
namespace Go.Proofs.Ytbjbnjpdackloaa
open Go.RowKit

/-- the cells of a sector; of a write: where it goes, and the sector -/
abbrev secV (l : List D.Sec) : List Value := l.flatMap bytesV
def wrV (x : Nat × D.Sec) : List Value := .int .i64 (x.1 : Int) :: bytesV x.2
abbrev rowV (l : List (Nat × D.Sec)) : List Value := l.flatMap wrV

/-- the block p holds x, y, and may be written -/
structure B2 (w : World) (p : Nat) (x y : Value) : Prop where
  lt : p < w.heap.size
  c0 : w.cell? ⟨p, 0, none⟩ = some x
  c1 : w.cell? ⟨p, 1, none⟩ = some y
  f0 : w.frozen? ⟨p, 0, none⟩ = false
  f1 : w.frozen? ⟨p, 1, none⟩ = false

theorem B2.keep {w w' : World} {p : Nat} {x y : Value} (h : B2 w p x y) (hk : w'.heap[p]? = w.heap[p]?) (hs : w.heap.size ≤ w'.heap.size) : B2 w' p x y :=
  have e (o : Nat) : w'.cell? ⟨p, o, none⟩ = w.cell? ⟨p, o, none⟩ := World.cell?_of_block hk
  have e' (o : Nat) : w'.frozen? ⟨p, o, none⟩ = w.frozen? ⟨p, o, none⟩ := World.frozen?_of_block hk
  ⟨Nat.lt_of_lt_of_le h.lt hs, (e _).trans h.c0, (e _).trans h.c1, (e' _).trans h.f0, (e' _).trans h.f1⟩
theorem B2.new (w : World) (x y : Value) (t : TypeId) : B2 (w.alloc (.cells #[x, y] t)) w.heap.size x y :=
  ⟨by simp, by simp, by simp, by simp, by simp⟩
theorem B2.set1 {w : World} {p : Nat} {x y : Value} (h : B2 w p x y) (v : Value) : B2 (w.setCell ⟨p, 1, none⟩ v) p x v :=
  ⟨by have := h.lt; simpa [World.setCell] using this, (World.cell?_setCell_other w _ _ v (off_ne p (by decide))).trans h.c0, World.cell?_setCell_same w _ v h.c1,
    by rw [World.frozen?_setCell]; exact h.f0, by rw [World.frozen?_setCell]; exact h.f1⟩

/-- the block p is the disk d: its sectors lie in vs, its row in vr, each in a block of its own -/
structure Dw (w : World) (F : Nat → Prop) (p : Nat) (vs vr : Value) (d : D.Dk) : Prop where
  blk : B2 w p vs vr
  fp : F p
  secs : w.ownsRow 0 92 64 vs d.secs.length (secV d.secs)
  row : w.ownsRow 0 94 65 vr d.row.length (rowV d.row)
  fs : ∀ j, vs.ownBlock = some j → F j ∧ j ≠ p
  fr : ∀ j, vr.ownBlock = some j → F j ∧ j ≠ p ∧ vs.ownBlock ≠ some j
  lt : ∀ b, F b → b < w.heap.size
  fit : d.Fit
  n1 : 1 ≤ d.secs.length
  n2 : d.secs.length ≤ 1024
  r1 : d.row.length ≤ 1001

/-- the pointer v holds the disk d, in blocks of which F holds -/
def Hd (w : World) (F : Nat → Prop) (v : Value) (d : D.Dk) : Prop := ∃ p vs vr, v = .pointer (some ⟨p, 0, none⟩) ∧ Dw w F p vs vr d

section
variable {w w' : World} {F : Nat → Prop} {p : Nat} {vs vr v : Value} {d : D.Dk}

theorem Dw.keep (h : Dw w F p vs vr d) (hk : ∀ b, F b → w'.heap[b]? = w.heap[b]?) (hs : w.heap.size ≤ w'.heap.size) : Dw w' F p vs vr d :=
  { h with
    blk := h.blk.keep (hk _ h.fp) hs
    secs := V.own_keep h.secs fun j hj => hk j (h.fs j hj).1
    row := V.own_keep h.row fun j hj => hk j (h.fr j hj).1
    lt := fun b hb => Nat.lt_of_lt_of_le (h.lt b hb) hs }

theorem secV_len (h : d.Fit) : ∀ x ∈ d.secs, (bytesV x).length = 64 := fun x hx => by rw [bytesV_length, h.secs x hx]
theorem wrV_len (h : d.Fit) : ∀ x ∈ d.row, (wrV x).length = 65 := fun x hx => by rw [wrV, List.length_cons, bytesV_length, (h.row x hx).2]
theorem wrV_one (x : Nat × D.Sec) : ∀ u ∈ wrV x, u.oneCell' = true := fun u hu => by
  rcases List.mem_cons.1 hu with rfl | hu
  · rfl
  · exact bytesV_one _ u hu

theorem Dw.sform (h : Dw w F p vs vr d) : ∃ g cap, vs = .slice (some ⟨g, 0, none⟩) d.secs.length cap ∧ F g ∧ g ≠ p ∧ d.secs.length ≤ cap := by
  obtain ⟨g, cap, _, rfl, _, hc, _⟩ := V.own_form h.secs h.n1
  exact ⟨g, cap, rfl, (h.fs g rfl).1, (h.fs g rfl).2, hc⟩
theorem Dw.rform (h : Dw w F p vs vr d) : ∃ A cap, vr = .slice A d.row.length cap ∧ d.row.length ≤ cap := by
  obtain ⟨_, A, cap, e, hc, _⟩ := S.Sg.of_own h.row
  exact ⟨A, cap, e, hc⟩
theorem Dw.rform' (h : Dw w F p vs vr d) (hn : 0 < d.row.length) : ∃ g cap, vr = .slice (some ⟨g, 0, none⟩) d.row.length cap ∧ F g ∧ g ≠ p ∧ vs.ownBlock ≠ some g ∧ d.row.length ≤ cap := by
  obtain ⟨g, cap, _, rfl, _, hc, _⟩ := V.own_form h.row hn
  exact ⟨g, cap, rfl, (h.fr g rfl).1, (h.fr g rfl).2.1, (h.fr g rfl).2.2, hc⟩
end

set_option maxRecDepth 100000 in
theorem len_any {w : World} {F : Nat → Prop} {v : Value} {d : D.Dk} (h : Hd w F v d) : Calls Try.prog 32 #[v] w fun e w' => e = .returned (.int .i64 d.secs.length) ∧ w' = w := by
  obtain ⟨p, vs, vr, rfl, h⟩ := h
  obtain ⟨g, cap, rfl, _, _, hc⟩ := h.sform
  have c0 := h.blk.c0
  have n2 := h.n2
  clear h
  go_enter Try.func32, Try.ntmps32
  go_wp2
  go_ret
  exact ⟨rfl, rfl⟩

set_option maxRecDepth 100000 in
theorem pending_any {w : World} {F : Nat → Prop} {v : Value} {d : D.Dk} (h : Hd w F v d) : Calls Try.prog 18 #[v] w fun e w' => e = .returned (.int .i64 d.row.length) ∧ w' = w := by
  obtain ⟨p, vs, vr, rfl, h⟩ := h
  obtain ⟨A, cap, rfl, hc⟩ := h.rform
  have c1 := h.blk.c1
  have r1 := h.r1
  clear h
  go_enter Try.func18, Try.ntmps18
  go_wp2
  go_ret
  exact ⟨rfl, rfl⟩

theorem len_nil (w : World) : Calls Try.prog 32 #[.pointer none] w fun e w' => e = .returned (.int .i64 0) ∧ w' = w := by
  go_enter Try.func32, Try.ntmps32
  go_wp2
  go_ret
  exact ⟨rfl, rfl⟩
theorem pending_nil (w : World) : Calls Try.prog 18 #[.pointer none] w fun e w' => e = .returned (.int .i64 0) ∧ w' = w := by
  go_enter Try.func18, Try.ntmps18
  go_wp2
  go_ret
  exact ⟨rfl, rfl⟩

/-- whether a sector is there, of whatever disk whose Len is n -/
theorem has_len (v : Value) (n : Nat) (i : Int) (w : World) (hn : Calls Try.prog 32 #[v] w fun e w' => e = .returned (.int .i64 n) ∧ w' = w) :
    Calls Try.prog 43 #[v, .int .i64 i] w fun e w' => e = .returned (.bool (decide (0 ≤ i ∧ i < (n : Int)))) ∧ w' = w := by
  by_cases h0 : 0 ≤ i
  · go_enter Try.func43, Try.ntmps43
    go_wp2_with fail
    refine hn.mono ?_
    rintro e w1 ⟨rfl, rfl⟩
    go_wp2
    go_ret
    exact ⟨ret_v (v_bool (by simp [h0])), rfl⟩
  · go_enter Try.func43, Try.ntmps43
    go_wp2
    go_ret
    exact ⟨ret_v (v_bool (by simp; omega)), rfl⟩

theorem has_any {w : World} {F : Nat → Prop} {v : Value} {d : D.Dk} (h : Hd w F v d) (i : Int) : Calls Try.prog 43 #[v, .int .i64 i] w fun e w' => e = .returned (.bool (decide (d.there i))) ∧ w' = w :=
  has_len v _ i w (len_any h)
theorem has_nil (i : Int) (w : World) : Calls Try.prog 43 #[.pointer none, .int .i64 i] w fun e w' => e = .returned (.bool false) ∧ w' = w := by
  have := has_len (.pointer none) 0 i w (len_nil w)
  rw [show decide (0 ≤ i ∧ i < ((0 : Nat) : Int)) = false from decide_eq_false (fun g => by have := g.1; have := g.2; omega)] at this
  exact this

end Go.Proofs.Ytbjbnjpdackloaa
