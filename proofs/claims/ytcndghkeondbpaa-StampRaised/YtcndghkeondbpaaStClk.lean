/-
  Walks of the landed clock: New, Issue, Done, Raise, Next; a clock that is nil.
-/
import Derived.Test.YtcndghkeondbpaaStRef2
import Derived.Maps.OwnSet
import Derived.Maps.RangeWalk
namespace Go.Proofs.Ytcndghkeondbpaa
open Go.RowKit Go.Maps

/-- all that was there stands but the blocks g and b -/
structure Bt (g b : Nat) (w w' : World) : Prop where
  os : w'.os = w.os
  tape : w'.tape = w.tape
  output : w'.output = w.output
  size : w.heap.size ≤ w'.heap.size
  block : ∀ k, k < w.heap.size → k ≠ g → k ≠ b → w'.heap[k]? = w.heap[k]?

theorem Bt.trans {g b : Nat} {w1 w2 w3 : World} (h : Bt g b w1 w2) (k : Bt g b w2 w3) : Bt g b w1 w3 :=
  ⟨k.os.trans h.os, k.tape.trans h.tape, k.output.trans h.output, Nat.le_trans h.size k.size, fun i hi h1 h2 => (k.block i (Nat.lt_of_lt_of_le hi h.size) h1 h2).trans (h.block i hi h1 h2)⟩
theorem Bt.of_below {g b : Nat} {w w' : World} (h : Below w.heap.size w w') : Bt g b w w' := ⟨h.os, h.tape, h.output, h.size, fun k hk _ _ => h.block k hk⟩
theorem Bt.below {g b B : Nat} {w w' : World} (h : Bt g b w w') (hg : B ≤ g) (hb : B ≤ b) (hB : B ≤ w.heap.size) : Below B w w' := ⟨h.os, h.tape, h.output, h.size, fun k hk => h.block k (by omega) (by omega) (by omega)⟩
theorem Bt.set (g b o : Nat) (w : World) (u : Value) : Bt g b w (w.setCell ⟨g, o, none⟩ u) := ⟨rfl, rfl, rfl, by simp [World.setCell], fun k _ h _ => Below.heap_setCell w ⟨g, o, none⟩ u k h⟩
theorem Bt.grown {g b : Nat} {w w' : World} (h : w.grownBy w' (some b)) : Bt g b w w' := ⟨h.os, h.tape, h.output, h.size, fun k hk _ hb => h.block k hk (fun e => hb (by cases e; rfl))⟩
theorem Bt.cell {g b : Nat} {w w' : World} (h : Bt g b w w') {p : Addr} (hp : p.block < w.heap.size) (hg : p.block ≠ g) (hb : p.block ≠ b) : w'.cell? p = w.cell? p := World.cell?_of_block (h.block _ hp hg hb)

theorem keyed9 : Keyed Try.prog 2 := int_keyed Try.underlying2
theorem zero9 (w : World) : (zeroValue 55).run Try.prog w = .ok (.agg #[]) w := by kernel_rfl
theorem wf9 {x : Int} (h0 : -9223372036854775808 ≤ x) (h1 : x ≤ 9223372036854775807) : (Lit.int .i64 x).wf = true := WalkArith.wf_i64 ⟨h0, h1⟩

/-- the landed clock: its own block g, its map's block b, in which at most m stand -/
structure Hc (w : World) (g b m : Nat) (c : T.Ck) : Prop where
  ok : c.Ok
  blk : Bk w g [.int .i64 c.next, .map (some b)]
  own : ∃ D : DataW Unit, w.ownsMap Try.prog 2 unitElem b m D ∧ ∀ x : Int, Maps.has D (.int .i64 x) = decide (x ∈ c.act)

section
variable {w w' : World} {g b m : Nat} {c : T.Ck}

theorem Hc.ne (h : Hc w g b m c) : b ≠ g := by
  rintro rfl
  obtain ⟨D, ⟨es, clock, hb, _⟩, _⟩ := h.own
  have := h.blk.cell 0 _ rfl
  simp [World.cell?, hb] at this
theorem Hc.lt (h : Hc w g b m c) : b < w.heap.size := by obtain ⟨D, ho, _⟩ := h.own; exact ho.lt
theorem Hc.c0 (h : Hc w g b m c) : w.cell? ⟨g, 0, none⟩ = some (.int .i64 c.next) := h.blk.cell 0 _ rfl
theorem Hc.c1 (h : Hc w g b m c) : w.cell? ⟨g, 1, none⟩ = some (.map (some b)) := h.blk.cell 1 _ rfl
theorem Hc.f0 (h : Hc w g b m c) : w.frozen? ⟨g, 0, none⟩ = false := h.blk.fz 0 (by simp)
theorem Hc.step (h : Hc w g b m c) (hb : Below w.heap.size w w') : Hc w' g b m c := by
  obtain ⟨D, ho, hx⟩ := h.own
  refine ⟨h.ok, h.blk.step hb, D, ?_, hx⟩
  have hl := ho.lt
  obtain ⟨es, clock, hm, r⟩ := ho
  exact ⟨es, clock, (hb.block b hl).trans hm, r⟩
theorem Hc.under (h : Hc w g b m c) {B : Nat} (hb : Below B w w') (h1 : g < B) (h2 : b < B) : Hc w' g b m c := by
  obtain ⟨D, ho, hx⟩ := h.own
  refine ⟨h.ok, h.blk.below hb h1, D, ?_, hx⟩
  obtain ⟨es, clock, hm, r⟩ := ho
  exact ⟨es, clock, (hb.block b h2).trans hm, r⟩
theorem Hc.mono (h : Hc w g b m c) {m' : Nat} (hm : m ≤ m') : Hc w g b m' c := by
  obtain ⟨D, ho, hx⟩ := h.own
  exact ⟨h.ok, h.blk, D, ho.mono hm, hx⟩
end

/-! ### New -/
set_option maxRecDepth 100000 in
theorem new_any (n : Int) (h : T.mayB n = true) (w : World) : Calls Try.prog 10 #[.int .i64 n] w fun e w' => e = .returned (.pointer (some ⟨w.heap.size + 1, 0, none⟩)) ∧ Hc w' (w.heap.size + 1) w.heap.size 0 (T.Ck.new n) ∧ Below w.heap.size w w' := by
  have HO := Lib.hid (T.Ck.ok_new h)
  have h := of_decide_eq_true h
  unfold T.most at h
  obtain ⟨h1, h2⟩ := h
  have h1' : ¬ n < 1 := by omega
  have h2' : ¬ n > 1099511627777 := by omega
  have hmm := @run_makeMap Try.prog
  go_enter Try.func10, Try.ntmps10
  go_wp2
  go_ret
  refine ⟨rfl, ⟨HO.out, Bk.new (w.alloc (.map #[] 0)) [.int .i64 n, .map (some w.heap.size)] 54 (by simp), .map [], (World.ownsMap_made w _ _ _).alloc _, fun x => ?_⟩, ((Below.refl _ _).alloc (Nat.le_refl _) _).alloc (by simp) _⟩
  show false = _
  exact (decide_eq_false (by simp [T.Ck.new])).symm

set_option maxRecDepth 100000 in
theorem new_none (n : Int) (h : T.mayB n = false) (w : World) : Calls Try.prog 10 #[.int .i64 n] w fun e w' => e = .returned (.pointer none) ∧ w = w' := by
  have h := of_decide_eq_false h
  unfold T.most at h
  by_cases h1 : n < 1
  · go_enter Try.func10, Try.ntmps10
    go_wp2
    go_ret
    exact ⟨rfl, rfl⟩
  · have h2 : n > 1099511627777 := by omega
    clear h
    go_enter Try.func10, Try.ntmps10
    go_wp2
    go_ret
    exact ⟨rfl, rfl⟩

/-! ### a clock that is nil -/
set_option maxRecDepth 100000 in
theorem issue_nil (w : World) : Calls Try.prog 12 #[.pointer none] w fun e w' => e = .returned (.tuple #[.int .i64 0, .int .i64 1]) ∧ w = w' := by
  go_enter Try.func12, Try.ntmps12
  go_wp2
  go_ret2
  exact ⟨rfl, rfl⟩
set_option maxRecDepth 100000 in
theorem done_nil (x : Int) (w : World) : Calls Try.prog 14 #[.pointer none, .int .i64 x] w fun e w' => e = .returned (.bool false) ∧ w = w' := by
  go_enter Try.func14, Try.ntmps14
  go_wp2
  go_ret
  exact ⟨rfl, rfl⟩
set_option maxRecDepth 100000 in
theorem raise_nil (x : Int) (w : World) : Calls Try.prog 16 #[.pointer none, .int .i64 x] w fun e w' => e = .returned (.tuple #[]) ∧ w = w' := by
  go_enter Try.func16, Try.ntmps16
  go_wp2
  refine bodyPost_ret (results_none rfl _ _ _) rfl ?_
  exact ⟨rfl, rfl⟩
set_option maxRecDepth 100000 in
theorem active_nil (w : World) : Calls Try.prog 22 #[.pointer none] w fun e w' => e = .returned (.slice none 0 0) ∧ w = w' := by
  go_enter Try.func22, Try.ntmps22
  go_wp2
  go_ret
  exact ⟨rfl, rfl⟩
set_option maxRecDepth 100000 in
theorem min_nil (w : World) : Calls Try.prog 19 #[.pointer none] w fun e w' => e = .returned (.int .i64 0) ∧ w = w' := by
  go_enter Try.func19, Try.ntmps19
  go_wp2
  go_ret
  exact ⟨rfl, rfl⟩
set_option maxRecDepth 100000 in
theorem next_nil (w : World) : Calls Try.prog 18 #[.pointer none] w fun e w' => e = .returned (.int .i64 0) ∧ w = w' := by
  go_enter Try.func18, Try.ntmps18
  go_wp2
  go_ret
  exact ⟨rfl, rfl⟩

/-! ### Next, Raise -/
set_option maxRecDepth 100000 in
theorem next_any {w : World} {g b m : Nat} {c : T.Ck} (h : Hc w g b m c) : Calls Try.prog 18 #[.pointer (some ⟨g, 0, none⟩)] w fun e w' => e = .returned (.int .i64 c.next) ∧ w = w' := by
  have c0 := h.c0
  clear h
  go_enter Try.func18, Try.ntmps18
  go_wp2
  go_ret
  exact ⟨rfl, rfl⟩

theorem Hc.set {w : World} {g b m : Nat} {c : T.Ck} (h : Hc w g b m c) {n : Int} (ho : (⟨n, c.act⟩ : T.Ck).Ok) : Hc (w.setCell ⟨g, 0, none⟩ (.int .i64 n)) g b m ⟨n, c.act⟩ := by
  have hn := h.ne
  obtain ⟨D, hown, hx⟩ := h.own
  exact ⟨ho, h.blk.set 0 (by simp) _, D, hown.setCell hn _, hx⟩

set_option maxRecDepth 100000 in
set_option maxHeartbeats 1000000 in
theorem raise_any {w : World} {g b m : Nat} {c : T.Ck} (h : Hc w g b m c) (to : Int) (h0 : -9223372036854775808 ≤ to) (h1 : to ≤ 9223372036854775807) : Calls Try.prog 16 #[.pointer (some ⟨g, 0, none⟩), .int .i64 to] w fun e w' => e = .returned (.tuple #[]) ∧ Hc w' g b m (c.raise to) ∧ Bt g b w w' := by
  have c0 := h.c0
  have f0 := h.f0
  have HH := Lib.hid h
  have hlo := h.ok.lo
  have hhi := h.ok.hi
  unfold T.most at hhi
  clear h
  by_cases hto : to > 1099511627777
  · have HV : Hid (c.raise to = c) := Lib.hid (by unfold T.Ck.raise T.most; rw [if_neg (by omega)])
    go_enter Try.func16, Try.ntmps16
    go_wp2
    refine bodyPost_ret (results_none rfl _ _ _) rfl ?_
    exact ⟨rfl, by rw [HV.out]; exact HH.out, Bt.of_below (Below.refl _ _)⟩
  · by_cases hc : c.next < to
    · have HV : Hid (c.raise to = ⟨to, c.act⟩) := Lib.hid (by unfold T.Ck.raise T.most; rw [if_pos (by omega)])
      have HN : Hid (Hc (w.setCell ⟨g, 0, none⟩ (.int .i64 to)) g b m (c.raise to)) := Lib.hid (by
        rw [HV.out]
        exact HH.out.set (HV.out ▸ HH.out.ok.raise to))
      go_enter Try.func16, Try.ntmps16
      go_wp2
      go_end0
      exact ⟨rfl, HN.out, Bt.set ..⟩
    · have HV : Hid (c.raise to = c) := Lib.hid (by unfold T.Ck.raise T.most; rw [if_neg (by omega)])
      have HN : Hid (Hc (w.setCell ⟨g, 0, none⟩ (.int .i64 c.next)) g b m (c.raise to)) := Lib.hid (by
        rw [HV.out]
        exact HH.out.set HH.out.ok)
      go_enter Try.func16, Try.ntmps16
      go_wp2
      go_end0
      exact ⟨rfl, HN.out, Bt.set ..⟩

/-! ### Issue -/
theorem Hc.issued {w w1 : World} {g b m : Nat} {c : T.Ck} (h : Hc w g b m c) (hn : ¬ T.most < c.next) {D : DataW Unit} (hx : ∀ x : Int, Maps.has D (.int .i64 x) = decide (x ∈ c.act)) (hD : IsMap D)
    (h1 : w1.ownsMap Try.prog 2 unitElem b (m + 1) (D.put (.int .i64 c.next) (.agg []))) (hg : w.grownBy w1 (some b)) : Hc (w1.setCell ⟨g, 0, none⟩ (.int .i64 (c.next + 1))) g b (m + 1) c.issue := by
  have hne := h.ne
  have e : c.issue = ⟨c.next + 1, c.act ++ [c.next]⟩ := by unfold T.Ck.issue; rw [if_neg hn]
  have hk : Bk w1 g [.int .i64 c.next, .map (some b)] := h.blk.keep (hg.block g h.blk.lt (fun e => hne (by cases e; rfl))) hg.size
  refine ⟨h.ok.issue, ?_, D.put (.int .i64 c.next) (.agg []), h1.setCell hne _, fun x => ?_⟩
  · rw [e]; exact hk.set 0 (by simp) _
  · rw [e]
    by_cases hxn : x = c.next
    · subst hxn
      rw [has_put_same (k := .int .i64 c.next) hD trivial]
      exact (decide_eq_true (by simp)).symm
    · rw [has_put_other (fun e => hxn (by cases e; rfl)), hx x]
      simp [hxn]

set_option maxRecDepth 100000 in
set_option maxHeartbeats 1000000 in
theorem issue_any {w : World} {g b m : Nat} {c : T.Ck} (h : Hc w g b m c) (hm : m ≤ 1000) : Calls Try.prog 12 #[.pointer (some ⟨g, 0, none⟩)] w fun e w' => e = .returned (.tuple #[.int .i64 c.told, .int .i64 c.bad]) ∧ Hc w' g b (m + 1) c.issue ∧ Bt g b w w' := by
  have c0 := h.c0
  have c1 := h.c1
  have f0 := h.f0
  have HH := Lib.hid h
  have hlo := h.ok.lo
  have hhi := h.ok.hi
  unfold T.most at hhi
  by_cases hn : c.next = 1099511627777
  · have HT : Hid (c.told = 0 ∧ c.bad = 10 ∧ c.issue = c) := Lib.hid (by unfold T.Ck.told T.Ck.bad T.Ck.issue T.most; refine ⟨if_pos ?_, if_pos ?_, if_pos ?_⟩ <;> omega)
    have hn' : (c.next == 1099511627777) = true := by simp [hn]
    clear h
    go_enter Try.func12, Try.ntmps12
    go_wp2
    go_ret2
    exact ⟨by rw [HT.out.1, HT.out.2.1]; rfl, by rw [HT.out.2.2]; exact HH.out.mono (by omega), Bt.of_below (Below.refl _ _)⟩
  · have HT : Hid (c.told = c.next ∧ c.bad = 0) := Lib.hid (by unfold T.Ck.told T.Ck.bad T.most; refine ⟨if_neg ?_, if_neg ?_⟩ <;> omega)
    have HM : Hid (c.next ≤ T.most) := Lib.hid (by unfold T.most; omega)
    have hn' : (c.next == 1099511627777) = false := by simp [hn]
    have hkey := keyOf_int_mk Try.underlying2 (wf9 (x := c.next) (by omega) (by omega))
    obtain ⟨D, hown, hx⟩ := h.own
    have HX := Lib.hid hx
    have HD := Lib.hid hown.isMap
    have HG := Lib.hid h.ne
    have HL := Lib.hid h.blk.lt
    clear h hx
    go_enter Try.func12, Try.ntmps12
    go_wp2_with (first
      | (at_mapUpdate; refine wpList_mapUpdate_own _ rfl _ _ _ 52 rfl 2 55 keyed9 Try.underlying52 _ b m _ rfl hown (by unfold maxLen; omega) _ _ _ rfl rfl hkey _ [] unitElem_mk ?_; intro w1 hown1 hgrow1; have c0 := (World.cell?_of_block (a := ⟨g, 0, none⟩) (hgrow1.block g HL.out (fun e => HG.out (by cases e; rfl)))).trans c0; have f0 := (World.frozen?_of_block (a := ⟨g, 0, none⟩) (hgrow1.block g HL.out (fun e => HG.out (by cases e; rfl)))).trans f0)
      | go_in)
    go_ret2
    exact ⟨by rw [HT.out.1, HT.out.2]; rfl, HH.out.issued (Int.not_lt.2 HM.out) HX.out HD.out hown1 hgrow1, (Bt.grown hgrow1).trans (Bt.set ..)⟩

/-! ### Done -/
theorem Hc.doned {w w0 w1 : World} {g b m : Nat} {c : T.Ck} (h : Hc w g b m c) {x : Int} {D : DataW Unit} (hx : ∀ x : Int, Maps.has D (.int .i64 x) = decide (x ∈ c.act))
    (h1 : w1.ownsMap Try.prog 2 unitElem b m (D.del (.int .i64 x))) (h0 : Below w.heap.size w w0) (hg : w0.grownBy w1 (some b)) : Hc w1 g b m (c.done x) := by
  have hne := h.ne
  have hk : Bk w1 g [.int .i64 c.next, .map (some b)] := (h.blk.step h0).keep (hg.block g (Nat.lt_of_lt_of_le h.blk.lt h0.size) (fun e => hne (by cases e; rfl))) hg.size
  refine ⟨h.ok.done x, hk, D.del (.int .i64 x), h1, fun y => ?_⟩
  by_cases hyx : y = x
  · subst hyx
    rw [has_del_same]
    exact (decide_eq_false (fun h => ((T.Ck.done_mem y y).1 h).2 rfl)).symm
  · rw [has_del_other (fun e => hyx (by cases e; rfl)), hx y, decide_eq_decide, T.Ck.done_mem]
    exact ⟨fun h => ⟨h, hyx⟩, fun h => h.1⟩

set_option maxRecDepth 100000 in
set_option maxHeartbeats 1000000 in
theorem done_any {w : World} {g b m : Nat} {c : T.Ck} (h : Hc w g b m c) (x : Int) (h0 : -9223372036854775808 ≤ x) (h1 : x ≤ 9223372036854775807) : Calls Try.prog 14 #[.pointer (some ⟨g, 0, none⟩), .int .i64 x] w fun e w' => e = .returned (.bool (c.is x)) ∧ Hc w' g b m (c.done x) ∧ Bt g b w w' := by
  have c1 := h.c1
  have HH := Lib.hid h
  have hkey := keyOf_int_mk Try.underlying2 (wf9 h0 h1)
  obtain ⟨D, hown, hx⟩ := h.own
  have HX := Lib.hid hx
  have hbl : Below w.heap.size w (w.alloc (.cells #[] 55)) := (Below.refl _ _).alloc (Nat.le_refl _) _
  have HB := Lib.hid hbl
  have c1' : (w.alloc (.cells #[] 55)).cell? ⟨g, 1, none⟩ = some (.map (some b)) := (hbl.cell (p := ⟨g, 1, none⟩) h.blk.lt).trans c1
  clear h hx hbl
  go_enter Try.func14, Try.ntmps14
  go_wp2_with (first
    | (at_lookup; refine wpList_lookup_own_unit _ rfl _ _ 52 rfl 2 55 keyed9 Try.underlying52 (zero9 _) b m D rfl hown _ _ rfl hkey ?_)
    | (at_delete; refine wpList_delete_own _ rfl _ _ 52 2 rfl 55 keyed9 Try.underlying52 _ b m D rfl (hown.alloc _) _ _ rfl hkey ?_; intro w1 hown1 hturn1)
    | go_in)
  go_ret
  exact ⟨by rw [HX.out x]; rfl, HH.out.doned HX.out hown1 HB.out hturn1.grown, (Bt.of_below HB.out).trans (Bt.grown hturn1.grown)⟩

end Go.Proofs.Ytcndghkeondbpaa
