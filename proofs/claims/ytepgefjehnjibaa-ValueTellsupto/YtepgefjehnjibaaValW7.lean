/-
  Walks of layer value: the value with which a string begins, as the program tells it.
-/
import Derived.Test.YtepgefjehnjibaaValW6
import Derived.Deep.MidRow
namespace Go.Proofs.Ytepgefjehnjibaa
open Go.RowKit

theorem head_cases (s : ByteArray) : s = ⟨#[]⟩ ∨ ∃ (c : UInt8) (r : List UInt8), s.data.toList = c :: r := by
  cases s with | mk d =>
  cases d with | mk l =>
  cases l with
  | nil => exact Or.inl rfl
  | cons c r => exact Or.inr ⟨c, r, rfl⟩

/-- three results, the first one a value that lies in a block -/
theorem results_val {fn : Func} {p u v : Tmp} (h : fn.results = #[.cell p 23, .tmp u, .tmp v]) (tmps : Array Value) (w : World) (g : Nat) (x y z : Value)
    (hp : tmps.getD p undef = .pointer (some ⟨g, 0, none⟩)) (c0 : w.cell? ⟨g, 0, none⟩ = some x) (c1 : w.cell? ⟨g, 1, none⟩ = some y) (c2 : w.cell? ⟨g, 2, none⟩ = some z) :
    (results fn tmps).run Try.prog w = .ok (.tuple #[.agg #[x, y, z], tmps.getD u undef, tmps.getD v undef]) w := by
  have hl : (loadVar 23 ⟨g, 0, none⟩).run Try.prog w = .ok (.agg #[x, y, z]) w := by
    refine run_loadVar_mid (P := Try.prog) w g 0 23 [x, y, z] _ ?_ und23 rfl rfl
    intro j v hj
    match j, hj with
    | 0, hj => cases hj; exact c0
    | 1, hj => cases hj; exact c1
    | 2, hj => cases hj; exact c2
  have hp' : tmps[p]?.getD undef = .pointer (some ⟨g, 0, none⟩) := by simpa using hp
  simp [results, h, hp', asAddr, hl]

theorem takeWhole_nil (w : World) :
    Calls Try.prog 28 #[.string ⟨#[]⟩] w fun e w' => e = .returned (.tuple #[.agg #[.int .i64 0, .int .i64 0, .string ⟨#[]⟩], .string ⟨#[]⟩, .int .i64 2]) ∧ Below w.heap.size w w' := by
  go_enter Try.func28, Try.ntmps28
  go_wp2
  refine bodyPost_ret (results_val rfl _ _ w.heap.size _ _ _ rfl (by simp; rfl) (by simp; rfl) (by simp; rfl)) rfl ?_
  exact ⟨rfl, (Below.refl _ _).alloc (Nat.le_refl _) _⟩

theorem first_at {s : ByteArray} {c : UInt8} {r : List UInt8} (h : s.data.toList = c :: r) (h0 : 0 < s.size) : s[0] = c := by
  have : s.data.toList[0]? = some c := by rw [h]; rfl
  have h1 : s.data[0]? = some c := by rw [← Array.getElem?_toList]; exact this
  exact (Array.getElem?_eq_some_iff.1 h1).2

theorem rest_of {s : ByteArray} {c : UInt8} {r : List UInt8} (h : s.data.toList = c :: r) : s.extract 1 s.size = ⟨r.toArray⟩ := by
  rw [extract_end, h]; rfl

theorem wrap_byte (c : UInt8) : wrap64 (c.toNat : Int) = (c.toNat : Int) := by
  have := c.toNat_lt
  unfold wrap64; omega

theorem size_of {s : ByteArray} {c : UInt8} {r : List UInt8} (h : s.data.toList = c :: r) : s.size = r.length + 1 := by
  have e : s.data.toList.length = s.size := by simp
  rw [← e, h]; rfl

set_option maxRecDepth 100000 in
set_option maxHeartbeats 1000000 in
theorem takeWhole_other (s : ByteArray) (c : UInt8) (r : List UInt8) (w : World) (h : s.data.toList = c :: r) (hs : s.size ≤ 140737488351232) (n1 : ¬ c.toNat = 1) (n2 : ¬ c.toNat = 2) (n3 : ¬ c.toNat = 3) :
    Calls Try.prog 28 #[.string s] w fun e w' => e = .returned (.tuple #[.agg #[.int .i64 (c.toNat : Int), .int .i64 0, .string ⟨#[]⟩], .string ⟨r.toArray⟩, .int .i64 0]) ∧ Below w.heap.size w w' := by
  have h0 : 0 < s.size := by have := size_of h; omega
  have hf := first_at h h0
  have hx := rest_of h
  have hne : (s.toList == []) = false := by rw [ByteArray.toList_eq, h]; rfl
  have hw := wrap_byte c
  have b1 : ((c.toNat : Int) == 1) = false := byte_bool' 1 n1
  have b2 : ((c.toNat : Int) == 2) = false := byte_bool' 2 n2
  have b3 : ((c.toNat : Int) == 3) = false := byte_bool' 3 n3
  go_enter Try.func28, Try.ntmps28
  go_wp2_with fail
  go_region
  all_goals (try go_wp2)
  all_goals refine bodyPost_ret (results_val rfl _ _ w.heap.size _ _ _ rfl (by simp; rfl) (by simp; rfl) (by simp; rfl)) rfl ?_
  all_goals exact ⟨rfl, below_box2.drew⟩

/-- the call's own two blocks: the result's and the value's -/
structure Tw (w : World) (p q : Nat) (x : Value) (wr : World) : Prop where
  bel : Below w.heap.size w wr
  p0 : w.heap.size ≤ p
  pq : p < q
  q0 : q < wr.heap.size
  c0 : wr.cell? ⟨p, 0, none⟩ = some (.int .i64 0)
  c1 : wr.cell? ⟨p, 1, none⟩ = some (.int .i64 0)
  c2 : wr.cell? ⟨p, 2, none⟩ = some (.string ⟨#[]⟩)
  d0 : wr.cell? ⟨q, 0, none⟩ = some x
  d1 : wr.cell? ⟨q, 1, none⟩ = some (.int .i64 0)
  d2 : wr.cell? ⟨q, 2, none⟩ = some (.string ⟨#[]⟩)
  f0 : wr.frozen? ⟨p, 0, none⟩ = false
  f1 : wr.frozen? ⟨p, 1, none⟩ = false
  f2 : wr.frozen? ⟨p, 2, none⟩ = false
  g0 : wr.frozen? ⟨q, 0, none⟩ = false
  g1 : wr.frozen? ⟨q, 1, none⟩ = false
  g2 : wr.frozen? ⟨q, 2, none⟩ = false

theorem Tw.start (w : World) (x : Value) : Tw w w.heap.size (w.heap.size + 1) x ((w.alloc (.cells #[.int .i64 0, .int .i64 0, .string ⟨#[]⟩] 23)).alloc (.cells #[x, .int .i64 0, .string ⟨#[]⟩] 23)) :=
  ⟨below_box2, Nat.le_refl _, Nat.lt_succ_self _, by simp, by simp, by simp, by simp, Joins.cell_alloc_mark_at _ _ _ (0, 0) _ 0 (by simp), Joins.cell_alloc_mark_at _ _ _ (0, 0) _ 1 (by simp), Joins.cell_alloc_mark_at _ _ _ (0, 0) _ 2 (by simp),
    by simp, by simp, by simp, by simp, by simp, by simp⟩

theorem Tw.step {w wr w' : World} {p q : Nat} {x : Value} (h : Tw w p q x wr) (hb : Below wr.heap.size wr w') : Tw w p q x w' :=
  have z := h.bel.size
  have y := hb.size
  have hp : p < wr.heap.size := Nat.lt_trans h.pq h.q0
  ⟨h.bel.trans (hb.mono z), h.p0, h.pq, Nat.lt_of_lt_of_le h.q0 y, (hb.cell hp).trans h.c0, (hb.cell hp).trans h.c1, (hb.cell hp).trans h.c2, (hb.cell h.q0).trans h.d0, (hb.cell h.q0).trans h.d1, (hb.cell h.q0).trans h.d2,
    (hb.frozen hp).trans h.f0, (hb.frozen hp).trans h.f1, (hb.frozen hp).trans h.f2, (hb.frozen h.q0).trans h.g0, (hb.frozen h.q0).trans h.g1, (hb.frozen h.q0).trans h.g2⟩

theorem Tw.drew {w wr : World} {p q : Nat} {x : Value} (h : Tw w p q x wr) : Tw w p q x wr.drew :=
  ⟨h.bel.drew, h.p0, h.pq, h.q0, h.c0, h.c1, h.c2, h.d0, h.d1, h.d2, h.f0, h.f1, h.f2, h.g0, h.g1, h.g2⟩

theorem Tw.fin {w w3 : World} {p q : Nat} {x : Value} (h : Tw w p q x w3) (o : Nat) (v y0 y1 y2 : Value) :
    ((((w3.setCell ⟨q, o, none⟩ v).setCell ⟨p, 0, none⟩ y0).setCell ⟨p, 1, none⟩ y1).setCell ⟨p, 2, none⟩ y2).cell? ⟨p, 0, none⟩ = some y0 ∧
    ((((w3.setCell ⟨q, o, none⟩ v).setCell ⟨p, 0, none⟩ y0).setCell ⟨p, 1, none⟩ y1).setCell ⟨p, 2, none⟩ y2).cell? ⟨p, 1, none⟩ = some y1 ∧
    ((((w3.setCell ⟨q, o, none⟩ v).setCell ⟨p, 0, none⟩ y0).setCell ⟨p, 1, none⟩ y1).setCell ⟨p, 2, none⟩ y2).cell? ⟨p, 2, none⟩ = some y2 ∧
    Below w.heap.size w ((((w3.setCell ⟨q, o, none⟩ v).setCell ⟨p, 0, none⟩ y0).setCell ⟨p, 1, none⟩ y1).setCell ⟨p, 2, none⟩ y2) := by
  obtain ⟨bel, p0, pq, q0, c0, c1, c2, _⟩ := h
  have nq : ∀ k, (⟨q, o, none⟩ : Addr) ≠ ⟨p, k, none⟩ := fun k e => by cases e; omega
  have np : ∀ k j, k ≠ j → (⟨p, k, none⟩ : Addr) ≠ ⟨p, j, none⟩ := fun k j h e => by cases e; exact h rfl
  have e0 := (World.cell?_setCell_other w3 _ _ v (nq 0)).trans c0
  have e1 := (World.cell?_setCell_other w3 _ _ v (nq 1)).trans c1
  have e2 := (World.cell?_setCell_other w3 _ _ v (nq 2)).trans c2
  have b4 : Below w.heap.size w (w3.setCell ⟨q, o, none⟩ v) := bel.setCell (by show _ ≤ q; omega) _
  generalize w3.setCell ⟨q, o, none⟩ v = w4 at *
  refine ⟨?_, ?_, ?_, ?_⟩
  · rw [World.cell?_setCell_other _ _ _ _ (np 2 0 (by decide)), World.cell?_setCell_other _ _ _ _ (np 1 0 (by decide)), World.cell?_setCell_same _ _ _ e0]
  · rw [World.cell?_setCell_other _ _ _ _ (np 2 1 (by decide)), World.cell?_setCell_same _ _ _ ((World.cell?_setCell_other _ _ _ _ (np 0 1 (by decide))).trans e1)]
  · rw [World.cell?_setCell_same _ _ _ ((World.cell?_setCell_other _ _ _ _ (np 1 2 (by decide))).trans ((World.cell?_setCell_other _ _ _ _ (np 0 2 (by decide))).trans e2))]
  · exact ((b4.setCell p0 _).setCell p0 _).setCell p0 _

set_option maxRecDepth 100000 in
set_option maxHeartbeats 1000000 in
theorem takeWhole_one (s : ByteArray) (r : List UInt8) (w : World) (h : s.data.toList = 1 :: r) (hs : s.size ≤ 140737488351232) (a : Int) (b : ByteArray) (k : Int) (hi : tiV r = .tuple #[.int .i64 a, .string b, .int .i64 k]) :
    Calls Try.prog 28 #[.string s] w fun e w' => e = .returned (.tuple #[.agg #[.int .i64 1, .int .i64 a, .string ⟨#[]⟩], .string b, .int .i64 k]) ∧ Below w.heap.size w w' := by
  have hz := size_of h
  have h0 : 0 < s.size := by omega
  have HI := Lib.hid (fun w => by
    have := takeInt_any ⟨r.toArray⟩ w (by unfold maxLen; show r.toArray.size ≤ _; simp; omega)
    rw [show (⟨r.toArray⟩ : ByteArray).data.toList = r from rfl, hi] at this; exact this)
  clear hz
  have hf := first_at h h0
  have hx := rest_of h
  have hne : (s.toList == []) = false := by rw [ByteArray.toList_eq, h]; rfl
  have I0 := Tw.start w (.int .i64 1)
  go_enter Try.func28, Try.ntmps28
  go_wp2_with fail
  go_region
  all_goals (try go_wp2_with fail)
  all_goals refine (HI.out _).mono ?_
  all_goals rintro e w3 ⟨rfl, hb⟩
  all_goals
    have I1 := I0.drew.step hb
    clear hb I0
    generalize w.heap.size + 1 = q at I1
    generalize w.heap.size = p at I1
    obtain ⟨_, p0, pq, q0, c0, c1, c2, d0, d1, d2, f0, f1, f2, g0, g1, g2⟩ := id I1
    have n1 : ¬ p = q := by omega
    have n2 : ¬ q = p := by omega
    go_wp2_with fail
  all_goals
    obtain ⟨z0, z1, z2, zb⟩ := I1.fin 1 (.int .i64 a) (.int .i64 1) (.int .i64 a) (.string ⟨#[]⟩)
    refine bodyPost_ret (results_val rfl _ _ p (.int .i64 1) (.int .i64 a) (.string ⟨#[]⟩) rfl z0 z1 z2) rfl ?_
    exact ⟨rfl, zb⟩

set_option maxRecDepth 100000 in
set_option maxHeartbeats 1000000 in
theorem takeWhole_three (s : ByteArray) (r : List UInt8) (w : World) (h : s.data.toList = 3 :: r) (hs : s.size ≤ 140737488351232) (a : Int) (b : ByteArray) (k : Int) (hi : tiV r = .tuple #[.int .i64 a, .string b, .int .i64 k]) :
    Calls Try.prog 28 #[.string s] w fun e w' => e = .returned (.tuple #[.agg #[.int .i64 3, .int .i64 a, .string ⟨#[]⟩], .string b, .int .i64 k]) ∧ Below w.heap.size w w' := by
  have hz := size_of h
  have h0 : 0 < s.size := by omega
  have HI := Lib.hid (fun w => by
    have := takeInt_any ⟨r.toArray⟩ w (by unfold maxLen; show r.toArray.size ≤ _; simp; omega)
    rw [show (⟨r.toArray⟩ : ByteArray).data.toList = r from rfl, hi] at this; exact this)
  clear hz
  have hf := first_at h h0
  have hx := rest_of h
  have hne : (s.toList == []) = false := by rw [ByteArray.toList_eq, h]; rfl
  have I0 := Tw.start w (.int .i64 3)
  go_enter Try.func28, Try.ntmps28
  go_wp2_with fail
  go_region
  all_goals (try go_wp2_with fail)
  all_goals refine (HI.out _).mono ?_
  all_goals rintro e w3 ⟨rfl, hb⟩
  all_goals
    have I1 := I0.drew.step hb
    clear hb I0
    generalize w.heap.size + 1 = q at I1
    generalize w.heap.size = p at I1
    obtain ⟨_, p0, pq, q0, c0, c1, c2, d0, d1, d2, f0, f1, f2, g0, g1, g2⟩ := id I1
    have n1 : ¬ p = q := by omega
    have n2 : ¬ q = p := by omega
    go_wp2_with fail
  all_goals
    obtain ⟨z0, z1, z2, zb⟩ := I1.fin 1 (.int .i64 a) (.int .i64 3) (.int .i64 a) (.string ⟨#[]⟩)
    refine bodyPost_ret (results_val rfl _ _ p (.int .i64 3) (.int .i64 a) (.string ⟨#[]⟩) rfl z0 z1 z2) rfl ?_
    exact ⟨rfl, zb⟩

set_option maxRecDepth 100000 in
set_option maxHeartbeats 1000000 in
theorem takeWhole_two (s : ByteArray) (r : List UInt8) (w : World) (h : s.data.toList = 2 :: r) (hs : s.size ≤ 140737488351232) (a b : ByteArray) (k : Int) (hi : ttV (M.ttake [] false r) = .tuple #[.string a, .string b, .int .i64 k]) :
    Calls Try.prog 28 #[.string s] w fun e w' => e = .returned (.tuple #[.agg #[.int .i64 2, .int .i64 0, .string a], .string b, .int .i64 k]) ∧ Below w.heap.size w w' := by
  have hz := size_of h
  have h0 : 0 < s.size := by omega
  have HI := Lib.hid (fun w => by
    have := takeText_any ⟨r.toArray⟩ w (by show r.toArray.size ≤ _; simp; omega)
    rw [show (⟨r.toArray⟩ : ByteArray).data.toList = r from rfl, hi] at this; exact this)
  clear hz
  have hf := first_at h h0
  have hx := rest_of h
  have hne : (s.toList == []) = false := by rw [ByteArray.toList_eq, h]; rfl
  have I0 := Tw.start w (.int .i64 2)
  go_enter Try.func28, Try.ntmps28
  go_wp2_with fail
  go_region
  all_goals (try go_wp2_with fail)
  all_goals refine (HI.out _).mono ?_
  all_goals rintro e w3 ⟨rfl, hb⟩
  all_goals
    have I1 := I0.drew.step hb
    clear hb I0
    generalize w.heap.size + 1 = q at I1
    generalize w.heap.size = p at I1
    obtain ⟨_, p0, pq, q0, c0, c1, c2, d0, d1, d2, f0, f1, f2, g0, g1, g2⟩ := id I1
    have n1 : ¬ p = q := by omega
    have n2 : ¬ q = p := by omega
    go_wp2_with fail
  all_goals
    obtain ⟨z0, z1, z2, zb⟩ := I1.fin 2 (.string a) (.int .i64 2) (.int .i64 0) (.string a)
    refine bodyPost_ret (results_val rfl _ _ p (.int .i64 2) (.int .i64 0) (.string a) rfl z0 z1 z2) rfl ?_
    exact ⟨rfl, zb⟩

theorem ti_form (l : List UInt8) : ∃ (a : Int) (b : ByteArray) (k : Int), tiV l = .tuple #[.int .i64 a, .string b, .int .i64 k] ∧ ((k = 2 ∧ l.length < 8) ∨ (k = 0 ∧ ¬ l.length < 8 ∧ a = (M.num (l.take 8) : Nat) - 9223372036854775808 ∧ b.data.toList = l.drop 8)) := by
  by_cases h : l.length < 8
  · exact ⟨0, ⟨#[]⟩, 2, by rw [tiV, if_pos h], Or.inl ⟨rfl, h⟩⟩
  · exact ⟨_, ⟨(l.drop 8).toArray⟩, 0, by rw [tiV, if_neg h], Or.inr ⟨rfl, h, rfl, rfl⟩⟩

theorem tt_form (o : Option (List UInt8 × List UInt8)) : ∃ (a b : ByteArray) (k : Int), ttV o = .tuple #[.string a, .string b, .int .i64 k] ∧ ((k = 2 ∧ o = none) ∨ (k = 0 ∧ o = some (a.data.toList, b.data.toList))) := by
  cases o with
  | none => exact ⟨⟨#[]⟩, ⟨#[]⟩, 2, rfl, Or.inl ⟨rfl, rfl⟩⟩
  | some x => exact ⟨⟨x.1.toArray⟩, ⟨x.2.toArray⟩, 0, rfl, Or.inr ⟨rfl, rfl⟩⟩

/-- what the program takes, whether it may be or not -/
theorem takeWhole_any (s : ByteArray) (hs : s.size ≤ 140737488351232) : ∃ (t n : Int) (g h : ByteArray) (k : Int),
    (∀ w, Calls Try.prog 28 #[.string s] w fun e w' => e = .returned (.tuple #[.agg #[.int .i64 t, .int .i64 n, .string g], .string h, .int .i64 k]) ∧ Below w.heap.size w w') ∧
    ((k = 2 ∧ V.raw s.data.toList = none) ∨ (k = 0 ∧ V.raw s.data.toList = some (t, n, g.data.toList, h.data.toList))) := by
  rcases head_cases s with rfl | ⟨c, r, hc⟩
  · exact ⟨_, _, _, _, _, fun w => takeWhole_nil w, Or.inl ⟨rfl, rfl⟩⟩
  · by_cases h1 : c.toNat = 1
    · obtain rfl : c = 1 := UInt8.toNat_inj.1 h1
      obtain ⟨a, b, k, hi, hk⟩ := ti_form r
      refine ⟨1, a, ⟨#[]⟩, b, k, fun w => takeWhole_one s r w hc hs a b k hi, ?_⟩
      rw [hc, V.raw, if_pos (Or.inl rfl)]
      rcases hk with ⟨rfl, hl⟩ | ⟨rfl, hl, rfl, hb⟩
      · exact Or.inl ⟨rfl, if_pos hl⟩
      · rw [if_neg hl, hb]; exact Or.inr ⟨rfl, rfl⟩
    · by_cases h3 : c.toNat = 3
      · obtain rfl : c = 3 := UInt8.toNat_inj.1 h3
        obtain ⟨a, b, k, hi, hk⟩ := ti_form r
        refine ⟨3, a, ⟨#[]⟩, b, k, fun w => takeWhole_three s r w hc hs a b k hi, ?_⟩
        rw [hc, V.raw, if_pos (Or.inr rfl)]
        rcases hk with ⟨rfl, hl⟩ | ⟨rfl, hl, rfl, hb⟩
        · exact Or.inl ⟨rfl, if_pos hl⟩
        · rw [if_neg hl, hb]; exact Or.inr ⟨rfl, rfl⟩
      · have hn : ¬ (c = 1 ∨ c = 3) := by
          rintro (e | e)
          · exact h1 (by rw [e]; rfl)
          · exact h3 (by rw [e]; rfl)
        by_cases h2 : c.toNat = 2
        · obtain rfl : c = 2 := UInt8.toNat_inj.1 h2
          obtain ⟨a, b, k, hi, hk⟩ := tt_form (M.ttake [] false r)
          refine ⟨2, 0, a, b, k, fun w => takeWhole_two s r w hc hs a b k hi, ?_⟩
          rw [hc, V.raw, if_neg hn, if_pos rfl]
          rcases hk with ⟨rfl, hl⟩ | ⟨rfl, hl⟩
          · exact Or.inl ⟨rfl, by rw [hl]⟩
          · exact Or.inr ⟨rfl, by rw [hl]⟩
        · refine ⟨_, _, _, _, _, fun w => takeWhole_other s c r w hc hs h1 h2 h3, Or.inr ⟨rfl, ?_⟩⟩
          rw [hc, V.raw, if_neg hn, if_neg (fun e => h2 (by rw [e]; rfl))]

end Go.Proofs.Ytepgefjehnjibaa
