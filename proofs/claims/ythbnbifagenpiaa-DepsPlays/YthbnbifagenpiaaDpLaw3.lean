/-
  Layer deps' laws: an object, and rows of numbers that lie apart from it (Aw): each call; the document's example.
-/
import Derived.Test.YthbnbifagenpiaaDpLaw2
namespace Go.Proofs.Ythbnbifagenpiaa
open Go.RowKit

/-- a row of numbers in memory -/
abbrev Row12 := Value × List Int

section
variable {H : World → (Nat → Prop) → Value → List Dp.Wt → Prop}

/-- the object v holds d, in blocks that were made since w; the rows R lie apart from it -/
def Aw (H : World → (Nat → Prop) → Value → List Dp.Wt → Prop) (w wr : World) (v : Value) (d : List Dp.Wt) (R : List Row12) : Prop :=
  ∃ F, H wr F v d ∧ (∀ b, F b → w.heap.size ≤ b) ∧ ∀ r ∈ R, SlN wr (Out F wr) r.1 r.2

variable {w wr w2 : World} {v : Value} {d : List Dp.Wt} {R : List Row12}
theorem Aw.of (h : Ob H w wr v d) : Aw H w wr v d [] := by
  obtain ⟨F, h1, h2⟩ := h
  exact ⟨F, h1, h2, fun r hr => by cases hr⟩
theorem Aw.low (K : DepsOk H) (h : Aw H w wr v d R) (hb : Below wr.heap.size wr w2) : Aw H w w2 v d R := by
  obtain ⟨F, h1, h2, h3⟩ := h
  exact ⟨F, K.below h1 hb, h2, fun r q => (S.Sg.below (h3 r q) hb (fun b g => g.1)).wider (fun b g => ⟨Nat.lt_of_lt_of_le g.1 hb.size, g.2⟩)⟩
theorem Aw.add (K : DepsOk H) (h : Aw H w wr v d R) (hb : Below wr.heap.size wr w2) (r : Row12) (hr : SlN w2 (S.New wr w2) r.1 r.2) : Aw H w w2 v d (r :: R) := by
  obtain ⟨F, h1, h2, h3⟩ := h
  refine ⟨F, K.below h1 hb, h2, fun r' q => ?_⟩
  rcases List.mem_cons.1 q with rfl | q
  · exact hr.wider (fun b g => Out.made g (K.lt h1))
  · exact (S.Sg.below (h3 r' q) hb (fun b g => g.1)).wider (fun b g => ⟨Nat.lt_of_lt_of_le g.1 hb.size, g.2⟩)
theorem Aw.less (h : Aw H w wr v d R) {R' : List Row12} (hR : ∀ r ∈ R', r ∈ R) : Aw H w wr v d R' := by
  obtain ⟨F, h1, h2, h3⟩ := h
  exact ⟨F, h1, h2, fun r q => h3 r (hR r q)⟩
theorem Aw.row (h : Aw H w wr v d R) {r : Row12} (hr : r ∈ R) : ∃ G : Nat → Prop, SlN wr G r.1 r.2 ∧ ∀ b, G b → b < wr.heap.size := by
  obtain ⟨F, _, _, h3⟩ := h
  exact ⟨_, h3 r hr, fun b q => q.1⟩
theorem Aw.turn {F F' : Nat → Prop} {d' : List Dp.Wt} (hF : ∀ b, F b → w.heap.size ≤ b) (hr : ∀ r ∈ R, SlN wr (Out F wr) r.1 r.2) (hb : Below w.heap.size w wr) (h2 : H w2 F' v d') (hF' : ∀ b, F' b → More F wr w2 b) (ht : Turn F wr w2) : Aw H w w2 v d' R ∧ Below w.heap.size w w2 :=
  ⟨⟨F', h2, fun b q => (hF' b q).elim (hF b) (fun g => Nat.le_trans hb.size g.1), fun r q => (S.Sg.keep (hr r q) (fun _ hp => ht.cell hp.1 hp.2)).wider (fun _ hb => hb.next ht.size hF')⟩, hb.trans (ht.below hb.size hF)⟩
theorem Aw.ok (K : DepsOk H) (h : Aw H w wr v d R) : Dp.Ok d := by
  obtain ⟨F, h1, _⟩ := h
  exact K.ok h1
theorem Aw.rng (K : DepsOk H) (h : Aw H w wr v d R) : ∀ p ∈ d, p.1 ≤ 9223372036854775807 := by
  obtain ⟨F, h1, _⟩ := h
  exact K.rng h1
theorem Aw.form {r : Row12} (h : Aw H w wr v d R) (hr : r ∈ R) : ∃ A c, r.1 = .slice A r.2.length c ∧ r.2.length ≤ c := by
  obtain ⟨G, hs, _⟩ := h.row hr
  exact num_form hs
theorem Aw.nth {r : Row12} (h : Aw H w wr v d R) (hr : r ∈ R) (i : Nat) (hi : i < r.2.length) : ∃ a c, r.1 = .slice (some a) r.2.length c ∧ wr.cell? (a.add i) = some (.int .i64 r.2[i]) := by
  obtain ⟨G, hs, _⟩ := h.row hr
  obtain ⟨a, c, e, _, _, hx⟩ := num_nth hs i hi
  exact ⟨a, c, e, hx⟩

theorem Aw.adds (K : DepsOk H) (h : Aw H w wr v d R) (hb : Below w.heap.size w wr) (hl : d.length ≤ 200) (o n : Int) (ho : I64 o) (hn : I64 n) :
    Calls Try.prog 21 #[v, .int .i64 o, .int .i64 n] wr fun e w' => e = .returned (.bool (Dp.addB o n)) ∧ Aw H w w' v (Dp.addD d o n) R ∧ Below w.heap.size w w' := by
  obtain ⟨F, h1, h2, h3⟩ := h
  exact (K.add h1 hl o n ho hn).mono (fun e w' hh => ⟨hh.1, Aw.turn h2 h3 hb hh.2.1 (fun b q => q) hh.2.2⟩)
theorem Aw.settle (K : DepsOk H) (h : Aw H w wr v d R) (hb : Below w.heap.size w wr) (hl : d.length ≤ 200) (n : Int) (hn : I64 n) :
    Calls Try.prog 20 #[v, .int .i64 n] wr fun e w' => e = .returned (.tuple #[]) ∧ Aw H w w' v (Dp.without d [n]) R ∧ Below w.heap.size w w' := by
  obtain ⟨F, h1, h2, h3⟩ := h
  exact (K.settle h1 hl n hn).mono (fun e w' hh => ⟨hh.1, Aw.turn h2 h3 hb hh.2.1 (fun b q => q) hh.2.2⟩)
theorem Aw.drop (K : DepsOk H) (h : Aw H w wr v d R) (hb : Below w.heap.size w wr) (hl : d.length ≤ 200) (ts : Int) (hn : I64 ts) :
    Calls Try.prog 18 #[v, .int .i64 ts] wr fun e w' => ∃ v', e = .returned v' ∧ Aw H w w' v (Dp.dropD d ts) ((v', Dp.dropL d ts) :: R) ∧ Below w.heap.size w w' := by
  obtain ⟨F, h1, h2, h3⟩ := h
  refine (K.drop h1 hl ts hn).mono (fun e w' hh => ?_)
  obtain ⟨v', F', T, e, g1, g2, g3, g4, g5⟩ := hh
  obtain ⟨⟨F2, _⟩, hb2⟩ := Aw.turn h2 h3 hb g1 g3 g5
  refine ⟨v', e, ⟨F', g1, fun b q => (g3 b q).elim (h2 b) (fun g => Nat.le_trans hb.size g.1), fun r q => ?_⟩, hb2⟩
  rcases List.mem_cons.1 q with rfl | q
  · exact g2.wider (fun b g => ⟨(g4 b g).1.2, (g4 b g).2⟩)
  · exact (S.Sg.keep (h3 r q) (fun _ hp => g5.cell hp.1 hp.2)).wider (fun _ hb => hb.next g5.size g3)
theorem Aw.waits (K : DepsOk H) (h : Aw H w wr v d R) (hb : Below w.heap.size w wr) (hl : d.length ≤ 200) (o : Int) (ho : I64 o) :
    Calls Try.prog 15 #[v, .int .i64 o] wr fun e w' => ∃ v', e = .returned v' ∧ Aw H w w' v d ((v', Dp.waits d o) :: R) ∧ Below w.heap.size w w' := by
  obtain ⟨F, h1, h2, h3⟩ := h
  refine (K.waits h1 hl o ho).mono (fun e w' hh => ?_)
  obtain ⟨v', e, g1, g2⟩ := hh
  exact ⟨v', e, Aw.add K ⟨F, h1, h2, h3⟩ g2 _ g1, hb.trans (g2.mono hb.size)⟩
theorem Aw.all (K : DepsOk H) (h : Aw H w wr v d R) (hb : Below w.heap.size w wr) (hl : d.length ≤ 200) :
    Calls Try.prog 14 #[v] wr fun e w' => ∃ v', e = .returned v' ∧ Aw H w w' v d ((v', Dp.all d) :: R) ∧ Below w.heap.size w w' := by
  obtain ⟨F, h1, h2, h3⟩ := h
  refine (K.all h1 hl).mono (fun e w' hh => ?_)
  obtain ⟨v', e, g1, g2⟩ := hh
  exact ⟨v', e, Aw.add K ⟨F, h1, h2, h3⟩ g2 _ g1, hb.trans (g2.mono hb.size)⟩
theorem Aw.same (K : DepsOk H) {va vb : Value} {l m : List Int} (h : Aw H w wr v d R) (ha : (va, l) ∈ R) (hm : (vb, m) ∈ R) (hb : Below w.heap.size w wr) (hl : l.length ≤ 1000) (hml : m.length ≤ 1000) :
    Calls Try.prog 13 #[va, vb] wr fun e w' => e = .returned (.bool (decide (l = m))) ∧ Aw H w w' v d R ∧ Below w.heap.size w w' := by
  obtain ⟨G, hs, hG⟩ := h.row ha
  obtain ⟨G', hs', hG'⟩ := h.row hm
  exact (rsame12_any (hs.wider (G := fun _ => True) (fun _ _ => trivial)) (hs'.wider (fun _ _ => trivial)) (Nat.le_trans hl (by omega)) (Nat.le_trans hml (by omega))).mono (fun e w' hh => ⟨hh.1, h.low K hh.2, hb.trans (hh.2.mono hb.size)⟩)
/-- a literal of numbers -/
theorem Aw.lit3 (K : DepsOk H) (h : Aw H w wr v d R) (x y z : Int) : Aw H w (wr.alloc (.cells #[.int .i64 x, .int .i64 y, .int .i64 z] 2)) v d ((.slice (some ⟨wr.heap.size, 0, none⟩) 3 3, [x, y, z]) :: R) := by
  refine h.add K ((Below.refl _ _).alloc (Nat.le_refl _) _) (_, [x, y, z]) ⟨rfl, _, _, rfl, Nat.le_refl _, fun _ => ⟨_, rfl, ⟨Nat.le_refl _, by simp⟩, fun j u hj => ?_⟩⟩
  rw [Addr.add_mid, cell_of_row _ _ _ _ _ (0, 0) (heap_alloc_new wr _), Nat.zero_add]
  simpa [numV] using hj

end
end Go.Proofs.Ythbnbifagenpiaa

namespace Go.Proofs.Ythbnbifagenpiaa.Dp
def exB : List Wt := [(3, 2), (2, 1)]
theorem ex_facts12 : addB 3 2 = true ∧ addD [] 3 2 = [(3, 2)] ∧ addB 2 1 = true ∧ addD [(3, 2)] 2 1 = exB ∧ addB 1 1 = false ∧ addD exB 1 1 = exB ∧ waits exB 3 = [2] ∧ dropL exB 1 = [1, 2, 3] ∧ dropD exB 1 = [] ∧ all [] = [] := by decide
end Go.Proofs.Ythbnbifagenpiaa.Dp

namespace Go.Proofs.Ythbnbifagenpiaa
open Go.RowKit
section
variable {H : World → (Nat → Prop) → Value → List Dp.Wt → Prop}

theorem cell0 {w wr : World} {v : Value} {d : List Dp.Wt} {R : List Row12} {x : Int} {l : List Int} {a : Addr} {n c : Nat} (h : Aw H w wr v d ((.slice (some a) n c, x :: l) :: R)) : wr.cell? a = some (.int .i64 x) := by
  obtain ⟨a', c', e, hx⟩ := h.nth (List.mem_cons_self ..) 0 (by simp)
  have e : Value.slice (some a) n c = .slice (some a') (x :: l).length c' := e
  injection e with e1
  injection e1 with e1
  subst e1
  rw [show a.add 0 = a by simp [Addr.add]] at hx
  exact hx

set_option maxRecDepth 100000 in
set_option maxHeartbeats 4000000 in
theorem awake12_any (K : DepsOk H) (w : World) : Calls Try.prog 9 #[] w fun e w' => e = .returned (.bool true) ∧ Below w.heap.size w w' := by
  obtain ⟨x1, x2, x3, x4, x5, x6, x7, x8, x9, x10⟩ := Dp.ex_facts12
  have HK := Lib.hid K
  have H0 := Lib.hid (K.new w)
  have i64 : ∀ x : Int, x ∈ [(1 : Int), 2, 3] → I64 x := fun x hx => by
    simp only [List.mem_cons, List.not_mem_nil, or_false] at hx
    rcases hx with rfl | rfl | rfl <;> exact ⟨by decide, by decide⟩
  have HA1 : Hid (∀ W v R, Aw H w W v [] R → Below w.heap.size w W → Calls Try.prog 21 #[v, .int .i64 3, .int .i64 2] W fun e w' => e = .returned (.bool true) ∧ Aw H w w' v [(3, 2)] R ∧ Below w.heap.size w w') := Lib.hid (fun W v R h hb => by
    have := h.adds K hb (by simp) 3 2 (i64 _ (by simp)) (i64 _ (by simp))
    rw [x1, x2] at this
    exact this)
  have HA2 : Hid (∀ W v R, Aw H w W v [(3, 2)] R → Below w.heap.size w W → Calls Try.prog 21 #[v, .int .i64 2, .int .i64 1] W fun e w' => e = .returned (.bool true) ∧ Aw H w w' v Dp.exB R ∧ Below w.heap.size w w') := Lib.hid (fun W v R h hb => by
    have := h.adds K hb (by simp) 2 1 (i64 _ (by simp)) (i64 _ (by simp))
    rw [x3, x4] at this
    exact this)
  have HA3 : Hid (∀ W v R, Aw H w W v Dp.exB R → Below w.heap.size w W → Calls Try.prog 21 #[v, .int .i64 1, .int .i64 1] W fun e w' => e = .returned (.bool false) ∧ Aw H w w' v Dp.exB R ∧ Below w.heap.size w w') := Lib.hid (fun W v R h hb => by
    have := h.adds K hb (by simp [Dp.exB]) 1 1 (i64 _ (by simp)) (i64 _ (by simp))
    rw [x5, x6] at this
    exact this)
  have HWt : Hid (∀ W v R, Aw H w W v Dp.exB R → Below w.heap.size w W → Calls Try.prog 15 #[v, .int .i64 3] W fun e w' => ∃ v', e = .returned v' ∧ Aw H w w' v Dp.exB ((v', [2]) :: R) ∧ Below w.heap.size w w') := Lib.hid (fun W v R h hb => by
    have := h.waits K hb (by simp [Dp.exB]) 3 (i64 _ (by simp))
    rw [x7] at this
    exact this)
  have HD : Hid (∀ W v R, Aw H w W v Dp.exB R → Below w.heap.size w W → Calls Try.prog 18 #[v, .int .i64 1] W fun e w' => ∃ v', e = .returned v' ∧ Aw H w w' v [] ((v', [1, 2, 3]) :: R) ∧ Below w.heap.size w w') := Lib.hid (fun W v R h hb => by
    have := h.drop K hb (by simp [Dp.exB]) 1 (i64 _ (by simp))
    rw [x8, x9] at this
    exact this)
  have HAl : Hid (∀ W v R, Aw H w W v [] R → Below w.heap.size w W → Calls Try.prog 14 #[v] W fun e w' => ∃ A c, e = .returned (.slice A 0 c) ∧ Below w.heap.size w w') := Lib.hid (fun W v R h hb => by
    refine (h.all K hb (by simp)).mono (fun e w' hh => ?_)
    obtain ⟨v', e, h1, h2⟩ := hh
    obtain ⟨A, c, e2, _⟩ := h1.form (List.mem_cons_self ..)
    have e2 : v' = .slice A (Dp.all []).length c := e2
    rw [x10] at e2
    subst e2
    exact ⟨A, c, e, h2⟩)
  have HSm : Hid (∀ W v R va vb, Aw H w W v [] R → (va, [1, 2, 3]) ∈ R → (vb, [1, 2, 3]) ∈ R → Below w.heap.size w W → Calls Try.prog 13 #[va, vb] W fun e w' => e = .returned (.bool true) ∧ Aw H w w' v [] R ∧ Below w.heap.size w w') := Lib.hid (fun W v R va vb h ha hm hb => by
    have := h.same K ha hm hb (by simp) (by simp)
    simpa using this)
  clear x1 x2 x3 x4 x5 x6 x7 x8 x9 x10 i64
  go_enter Try.func9, Try.ntmps9
  go_wp2_with (first
    | (go_at_call 10; refine H0.out.mono ?_; rintro e w1 ⟨v1, rfl, hs1, b1⟩; have HW : Hid (Aw H w w1 v1 [] [] ∧ Below w.heap.size w w1) := Lib.hid ⟨⟨_, hs1, fun b q => q.1, fun r hr => by cases hr⟩, b1⟩; clear hs1 b1 H0)
    | (go_at_call 21; refine (HA1.out _ _ _ HW.out.1 HW.out.2).mono ?_; rintro e w3 ⟨rfl, h3⟩; replace HW := Lib.hid h3; clear h3 HA1)
    | (go_at_call 21; refine (HA2.out _ _ _ HW.out.1 HW.out.2).mono ?_; rintro e w3 ⟨rfl, h3⟩; replace HW := Lib.hid h3; clear h3 HA2)
    | (go_at_call 21; refine (HA3.out _ _ _ HW.out.1 HW.out.2).mono ?_; rintro e w3 ⟨rfl, h3⟩; replace HW := Lib.hid h3; clear h3 HA3)
    | (go_at_call 15; refine (HWt.out _ _ _ HW.out.1 HW.out.2).mono ?_; rintro e w5 ⟨v5, rfl, h5⟩; have HW5 := Lib.hid h5; obtain ⟨a5, c5, e5, _⟩ := h5.1.nth (List.mem_cons_self ..) 0 (by simp); have e5 : v5 = .slice (some a5) 1 c5 := e5; subst e5; clear h5 HWt; have hx5 := cell0 HW5.out.1)
    | (go_at_call 18
       refine (HD.out _ _ _ HW5.out.1 HW5.out.2).mono ?_
       rintro e w6 ⟨v6, rfl, h6⟩
       have HA6 := Lib.hid (h6.1.lit3 HK.out 1 2 3)
       have HB6 := Lib.hid (h6.2.alloc h6.2.size (.cells #[.int .i64 1, .int .i64 2, .int .i64 3] 2))
       obtain ⟨A6, c6, e6, _⟩ := h6.1.form (List.mem_cons_self ..)
       have e6 : v6 = .slice A6 3 c6 := e6
       subst e6
       have HSS := Lib.hid (HSm.out _ _ _ _ _ HA6.out (List.mem_cons_of_mem _ (List.mem_cons_self ..)) (List.mem_cons_self ..) HB6.out)
       clear h6 HD HSm)
    | (go_at_call 13
       (with_reducible refine HSS.out.mono ?_)
       rintro e w7 ⟨rfl, h7⟩
       have HLL := Lib.hid (HAl.out _ _ _ h7.1 h7.2)
       clear h7)
    | (go_at_call 14
       refine HLL.out.mono ?_
       rintro e w8 ⟨A8, c8, rfl, h8⟩
       have HB8 := Lib.hid h8
       clear h8))
  go_ret
  exact ⟨rfl, HB8.out⟩
end
end Go.Proofs.Ythbnbifagenpiaa
