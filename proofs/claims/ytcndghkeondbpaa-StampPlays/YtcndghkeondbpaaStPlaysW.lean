/-
  Walks of layer stamp's laws: StampPlays.
-/
import Derived.Test.YtcndghkeondbpaaStRisesW
import Derived.StillTailTactics
namespace Go.Proofs.Ytcndghkeondbpaa
open Go.RowKit Go.Maps

/-- both clocks: the landed one d, the document's c in the block X -/
structure PL9 (w wr : World) (g b X m : Nat) (d c : T.Ck) (x : Value) (R : Nat → Prop) : Prop where
  hc : Hc wr g b m d
  xb : Bk wr X [.int .i64 c.next, x]
  sl : SlN wr R x c.act
  off : ∀ k, R k → k < wr.heap.size ∧ k ≠ g ∧ k ≠ b ∧ k ≠ X
  ne : X ≠ g ∧ X ≠ b
  lo : w.heap.size ≤ g ∧ w.heap.size ≤ b ∧ w.heap.size ≤ X
  low : Below w.heap.size w wr
  len : c.act.length ≤ m

section
variable {w wr w3 w4 w5 : World} {g b X m m' : Nat} {d d' c c' : T.Ck} {x x' : Value} {R R' : Nat → Prop}

/-- the landed clock's turn -/
theorem PL9.landed (h : PL9 w wr g b X m d c x R) (hH : Hc w3 g b m' d') (hb : Bt g b wr w3) (hm : m ≤ m') : PL9 w w3 g b X m' d' c x R where
  hc := hH
  xb := h.xb.keep (hb.block X h.xb.lt h.ne.1 h.ne.2) hb.size
  sl := h.sl.keep fun _ hp => hb.cell (h.off _ hp).1 (h.off _ hp).2.1 (h.off _ hp).2.2.1
  off := fun k hk => ⟨Nat.lt_of_lt_of_le (h.off k hk).1 hb.size, (h.off k hk).2⟩
  ne := h.ne
  lo := h.lo
  low := h.low.trans (hb.below h.lo.1 h.lo.2.1 h.low.size)
  len := Nat.le_trans h.len hm
/-- nothing that was there has turned -/
theorem PL9.step (h : PL9 w wr g b X m d c x R) (hb : Below wr.heap.size wr w3) : PL9 w w3 g b X m d c x R :=
  h.landed (h.hc.step hb) (Bt.of_below hb) (Nat.le_refl _)
theorem PL9.up (h : PL9 w wr g b X m d c x R) (hm : m ≤ m') : PL9 w wr g b X m' d c x R := ⟨h.hc.mono hm, h.xb, h.sl, h.off, h.ne, h.lo, h.low, Nat.le_trans h.len hm⟩
/-- the document's turn: its answer is told at w4, and stands in X at w5 (and in Y, a block of the turn's own) -/
theorem PL9.told (h : PL9 w w3 g b X m d c x R) (h4 : Below w3.heap.size w3 w4) (hs : SlN w4 R' x' c'.act) (hR : ∀ k, R' k → R k ∨ (w3.heap.size ≤ k ∧ k < w4.heap.size)) {Y : Nat} (hY : Y = X ∨ (w3.heap.size ≤ Y ∧ ¬ R' Y)) (h5 : Bt X Y w4 w5) (hX : Bk w5 X [.int .i64 c'.next, x']) (hl : c'.act.length ≤ m) : PL9 w w5 g b X m d c' x' R' := by
  have hgl : g < w3.heap.size := h.hc.blk.lt
  have hbl : b < w3.heap.size := h.hc.lt
  have hxl := h.xb.lt
  have hne := h.ne
  have hlo := h.lo
  have hsz := h.low.size
  have hoff : ∀ k, R' k → k < w4.heap.size ∧ k ≠ g ∧ k ≠ b ∧ k ≠ X := fun k hk => by
    rcases hR k hk with q | q
    · exact ⟨Nat.lt_of_lt_of_le (h.off k q).1 h4.size, (h.off k q).2⟩
    · exact ⟨q.2, by omega, by omega, by omega⟩
  have hgY : g ≠ Y := by rcases hY with rfl | ⟨q, _⟩ <;> omega
  have hbY : b ≠ Y := by rcases hY with rfl | ⟨q, _⟩ <;> omega
  have hYlo : w.heap.size ≤ Y := by rcases hY with rfl | ⟨q, _⟩ <;> omega
  have hRY : ∀ k, R' k → k ≠ Y := fun k hk e => by
    rcases hY with rfl | ⟨_, q⟩
    · exact (hoff k hk).2.2.2 e
    · subst e; exact q hk
  have hc4 : Hc w4 g b m d := h.hc.step h4
  have hc5 : Hc w5 g b m d := by
    obtain ⟨D, ho, hx⟩ := hc4.own
    refine ⟨hc4.ok, hc4.blk.keep (h5.block g (Nat.lt_of_lt_of_le hgl h4.size) h.ne.1.symm hgY) h5.size, D, ?_, hx⟩
    obtain ⟨es, clock, hm, r⟩ := ho
    exact ⟨es, clock, (h5.block b (Nat.lt_of_lt_of_le hbl h4.size) h.ne.2.symm hbY).trans hm, r⟩
  exact
    { hc := hc5, xb := hX, sl := hs.keep fun _ hp => h5.cell (hoff _ hp).1 (hoff _ hp).2.2.2 (hRY _ hp)
      off := fun k hk => ⟨Nat.lt_of_lt_of_le (hoff k hk).1 h5.size, (hoff k hk).2⟩, ne := h.ne, lo := h.lo
      low := (h.low.trans (h4.mono h.low.size)).trans (h5.below h.lo.2.2 hYlo (Nat.le_trans h.low.size h4.size)), len := hl }
theorem bt_two (w : World) (X : Nat) (u v : Value) : Bt X X w ((w.setCell ⟨X, 0, none⟩ u).setCell ⟨X, 1, none⟩ v) := (Bt.set X X 0 w u).trans (Bt.set X X 1 _ v)
/-- stored into X behind an alloc -/
theorem PL9.stored (h : PL9 w w3 g b X m d c x R) (h4 : Below w3.heap.size w3 w4) (hs : SlN w4 R' x' c'.act) (hR : ∀ k, R' k → R k ∨ (w3.heap.size ≤ k ∧ k < w4.heap.size)) (hl : c'.act.length ≤ m) (o : Obj) :
    PL9 w (((w4.alloc o).setCell ⟨X, 0, none⟩ (.int .i64 c'.next)).setCell ⟨X, 1, none⟩ x') g b X m d c' x' R' :=
  h.told h4 hs hR (Or.inl rfl) ((Bt.of_below ((Below.refl _ _).alloc (Nat.le_refl _) o)).trans (bt_two ..)) (((h.xb.step h4).alloc o).two _ _) hl
/-- stored into X -/
theorem PL9.stored0 (h : PL9 w w3 g b X m d c x R) (h4 : Below w3.heap.size w3 w4) (hs : SlN w4 R' x' c'.act) (hR : ∀ k, R' k → R k ∨ (w3.heap.size ≤ k ∧ k < w4.heap.size)) (hl : c'.act.length ≤ m) :
    PL9 w ((w4.setCell ⟨X, 0, none⟩ (.int .i64 c'.next)).setCell ⟨X, 1, none⟩ x') g b X m d c' x' R' :=
  h.told h4 hs hR (Or.inl rfl) (bt_two ..) ((h.xb.step h4).two _ _) hl
/-- stored into Y, a block made ahead of the call, and then into X -/
theorem PL9.stored2 (h : PL9 w w3 g b X m d c x R) {Y : Nat} (h4 : Below w3.heap.size w3 w4) (hs : SlN w4 R' x' c'.act) (hR : ∀ k, R' k → R k ∨ (w3.heap.size < k ∧ k < w4.heap.size)) (hl : c'.act.length ≤ m) (hY : Y = w3.heap.size) (u v : Value) :
    PL9 w ((((w4.setCell ⟨Y, 0, none⟩ u).setCell ⟨Y, 1, none⟩ v).setCell ⟨X, 0, none⟩ (.int .i64 c'.next)).setCell ⟨X, 1, none⟩ x') g b X m d c' x' R' := by
  have hxl := h.xb.lt
  have hnY : ¬ R' Y := fun q => by
    rcases hR _ q with r | r
    · have := (h.off _ r).1; omega
    · omega
  have b1 : Bt X Y w4 ((w4.setCell ⟨Y, 0, none⟩ u).setCell ⟨Y, 1, none⟩ v) := ⟨rfl, rfl, rfl, (bt_two w4 Y u v).size, fun k hk _ hy => (bt_two w4 Y u v).block k hk hy hy⟩
  have b2 := fun W : World => (⟨rfl, rfl, rfl, (bt_two W X (.int .i64 c'.next) x').size, fun k hk hx _ => (bt_two W X (.int .i64 c'.next) x').block k hk hx hx⟩ : Bt X Y W ((W.setCell ⟨X, 0, none⟩ (.int .i64 c'.next)).setCell ⟨X, 1, none⟩ x'))
  refine h.told h4 hs (fun k hk => (hR k hk).imp id (fun r => ⟨by omega, r.2⟩)) (Or.inr ⟨by omega, hnY⟩) (b1.trans (b2 _)) ?_ hl
  have hb := (h.xb.step h4)
  exact Bk.two ((hb.other (q := Y) (by omega) 0 u).other (q := Y) (by omega) 1 v) _ _

/-- what may be asked behind both turns -/
abbrev St9 (wf w' : World) (X : Nat) (n : Int) (x : Value) : Prop := w'.cell? ⟨X, 0, none⟩ = some (.int .i64 n) ∧ w'.cell? ⟨X, 1, none⟩ = some x ∧ Below wf.heap.size wf w'
theorem PL9.st (h : PL9 w w3 g b X m d c x R) (hb : Below w3.heap.size w3 w4) : St9 w3 w4 X c.next x := ⟨(h.xb.step hb).cell 0 _ rfl, (h.xb.step hb).cell 1 _ rfl, hb⟩
theorem PL9.q1 (h : PL9 w w3 g b X m d d x R) : ∀ w', St9 w3 w' X d.next x → Calls Try.prog 18 #[.pointer (some ⟨g, 0, none⟩)] w' fun e w'' => e = .returned (.int .i64 d.next) ∧ St9 w3 w'' X d.next x := fun _ hS =>
  (next_any (h.hc.step hS.2.2)).mono (fun _ _ hh => ⟨hh.1, hh.2 ▸ hS⟩)
theorem PL9.q2 (h : PL9 w w3 g b X m d d x R) : ∀ w', St9 w3 w' X d.next x → Calls Try.prog 19 #[.pointer (some ⟨g, 0, none⟩)] w' fun e w'' => e = .returned (.int .i64 d.min) ∧ St9 w3 w'' X d.next x := fun _ hS =>
  (min_any (h.hc.step hS.2.2)).mono (fun _ _ hh => ⟨hh.1, h.st (below_two hS.2.2 hh.2)⟩)
theorem PL9.q3 (h : PL9 w w3 g b X m d d x R) (hm : m ≤ 1000) : ∀ w', St9 w3 w' X d.next x → Calls Try.prog 20 #[.agg #[.int .i64 d.next, x]] w' fun e w'' => e = .returned (.int .i64 d.min) ∧ St9 w3 w'' X d.next x := fun _ hS =>
  (cmin_any (F := R) (c := d) ⟨_, rfl, h.sl.below hS.2.2 (fun k hk => (h.off k hk).1)⟩ (fun k hk => Nat.lt_of_lt_of_le (h.off k hk).1 hS.2.2.size) (by have := h.len; omega)).mono (fun _ _ hh => ⟨hh.1, h.st (below_two hS.2.2 hh.2)⟩)
theorem PL9.q4 (h : PL9 w w3 g b X m d d x R) (hm : m ≤ 1000) : ∀ w', St9 w3 w' X d.next x → Calls Try.prog 22 #[.pointer (some ⟨g, 0, none⟩)] w' fun e w'' => ∃ A cap, e = .returned (.slice A d.act.length cap) ∧ St9 w3 w'' X d.next x ∧ Hid (∃ F, SlN w'' F (.slice A d.act.length cap) d.act) := fun _ hS =>
  (active_any (h.hc.step hS.2.2) hm).mono (fun _ _ hh => by
    obtain ⟨v, rfl, hs, hb⟩ := hh
    obtain ⟨A, cap, rfl, _⟩ := num_form hs
    exact ⟨A, cap, rfl, h.st (below_two hS.2.2 hb), Lib.hid ⟨_, hs⟩⟩)
theorem PL9.q5 (h : PL9 w w3 g b X m d d x R) (hm : m ≤ 1000) : ∀ w' v, St9 w3 w' X d.next x → Hid (∃ F, SlN w' F v d.act) → Calls Try.prog 21 #[v, x] w' fun e w'' => e = .returned (.bool true) ∧ St9 w3 w'' X d.next x := fun _ _ hS hs => by
  obtain ⟨F, hs⟩ := hs.out
  refine (csame_any (hs.wider (fun _ q => Or.inl q)) ((h.sl.below hS.2.2 (fun k hk => (h.off k hk).1)).wider (fun _ q => Or.inr q)) (by have := h.len; omega) (by have := h.len; omega)).mono (fun _ _ hh => ⟨hh.1.trans (ret_v (v_bool (decide_eq_true rfl))), h.st (below_two hS.2.2 hh.2)⟩)
end

theorem set2_other {w : World} {a : Addr} {v : Value} (h : w.cell? a = some v) {g : Nat} (hg : g ≠ a.block) (u0 u1 : Value) : ((w.setCell ⟨g, 0, none⟩ u0).setCell ⟨g, 1, none⟩ u1).cell? a = some v := by
  rw [World.cell?_setCell_far _ _ _ _ (by exact hg), World.cell?_setCell_far _ _ _ _ (by exact hg)]; exact h

theorem Ck_len_issue (c : T.Ck) : c.issue.act.length ≤ c.act.length + 1 := by
  unfold T.Ck.issue
  split
  · omega
  · simp
theorem Ck_len_done (c : T.Ck) (ts : Int) : (c.done ts).act.length ≤ c.act.length := List.length_filter_le ..
theorem Ck_len_raise (c : T.Ck) (to : Int) : (c.raise to).act.length ≤ c.act.length := by
  unfold T.Ck.raise
  split <;> exact Nat.le_refl _

set_option maxRecDepth 100000 in
set_option maxHeartbeats 8000000 in
theorem StampPlays_walk (w : World) (n : Int) (vd : Value) (ld : List Dd9) (G0 : Nat → Prop) (hD : Dds9 w G0 vd ld) (hG0 : ∀ b, G0 b → b < w.heap.size) :
    Calls Try.prog 3 #[.int .i64 n, vd] w fun e w' => e = .returned (.bool true) ∧ Below w.heap.size w w' := by
  have HD := Lib.hid hD
  obtain ⟨Ad, capd, rfl, hcd⟩ := hD.form
  clear hD
  go_enter Try.func3, Try.ntmps3
  go_wp2_with (first
    | (go_at_call 9; refine (awake9_any w).mono ?_; rintro e w1 ⟨rfl, b1⟩))
  have B1 := Lib.hid b1
  clear b1
  by_cases hmay : T.mayB n = true
  · have HN := Lib.hid (new_ex n hmay w1)
    have HM := Lib.hid (fun W => (cmay_any n W).mono (fun e w' h => (⟨h.1, h.2.symm⟩ : e = .returned (.bool (T.mayB n)) ∧ W = w')))
    rw [hmay] at HM
    clear hmay
    go_wp2_with (first
      | (go_at_call 10; refine HN.out.mono ?_; rintro e w2 ⟨g, b, rfl, hg, hb, k2, b2⟩))
    have G : Hid (w.heap.size ≤ g) := Lib.hid (Nat.le_trans B1.out.size hg)
    have B : Hid (w.heap.size ≤ b) := Lib.hid (Nat.le_trans B1.out.size hb)
    have B2 : Hid (Below w.heap.size w w2) := Lib.hid (B1.out.trans (b2.mono B1.out.size))
    have K2 := Lib.hid k2
    clear b2 hg hb B1 k2 HN
    go_wp2_with (first
      | (go_at_call 11; refine (HM.out _).mono ?_; rintro e w3 ⟨rfl, rfl⟩))
    clear HM
    have HS : Hid (PL9 w (w2.alloc (.cells #[.int .i64 n, .slice none 0 0] 29)) g b w2.heap.size 0 (T.Ck.new n) (T.Ck.new n) (.slice none 0 0) (fun _ => False)) := Lib.hid
      { hc := K2.out.step ((Below.refl _ _).alloc (Nat.le_refl _) _), xb := Bk.new w2 [.int .i64 n, .slice none 0 0] 29 rfl, sl := S.Sg.nil .., off := fun _ h => h.elim
        ne := ⟨fun e => by have : g < w2.heap.size := K2.out.blk.lt; omega, fun e => by have := K2.out.lt; omega⟩, lo := ⟨G.out, B.out, B2.out.size⟩
        low := B2.out.trans (((Below.refl _ _).alloc (Nat.le_refl _) _).mono B2.out.size), len := Nat.le_refl _ }
    clear K2 G B B2
    go_wp2_with fail
    generalize (w2.alloc (.cells #[.int .i64 n, .slice none 0 0] 29)) = w4 at *
    generalize w2.heap.size = X at *
    go_loopw [8] (fun v wr => ∃ (i : Nat) (c : T.Ck) (x : Value) (R : Nat → Prop), i ≤ 100 ∧ v = .int .i64 (i : Int) ∧ PL9 w wr g b X i c c x R) (fun v _ => 100 - (intOf v).toNat)
    case atStart => exact ⟨0, _, _, _, by omega, rfl, HS.out⟩
    case round =>
      clear HS
      obtain ⟨i, c, x, R, hi, rfl, hL⟩ := hrel
      by_cases hil : i < ld.length ∧ i < 100
      · obtain ⟨hil, hi1⟩ := hil
        have hil' : (i : Int) < (ld.length : Int) := by omega
        have hi1' : (i : Int) < 100 := by omega
        have hi0' : (0 : Int) ≤ (i : Int) := by omega
        obtain ⟨ad, _, ed, _, hGd, hok, xk, xn⟩ := (HD.out.below hL.low hG0).nth i hil
        cases ed
        generalize ld[i] = Z at *
        obtain ⟨kd, nd⟩ := Z
        obtain ⟨_, _, hn0, hn1⟩ := hok
        dsimp only at xk xn hn0 hn1
        have HGd := Lib.hid (hG0 _ hGd)
        have HL := Lib.hid hL
        obtain ⟨A, cap, rfl, hcap⟩ := num_form hL.sl
        clear hL hGd
        by_cases e1 : kd = 1
        · subst e1
          have I1 := Lib.hid (issue_any HL.out.hc (by omega))
          have OK := Lib.hid HL.out.hc.ok
          clear xn
          go_wp2_with (first
            | (go_at_call 12; refine I1.out.mono ?_; rintro e w5 ⟨rfl, k5, b5⟩; have HL5 := Lib.hid (HL.out.landed k5 b5 (Nat.le_succ _)); have x0 := HL5.out.xb.cell 0 _ rfl; have x1 := HL5.out.xb.cell 1 _ rfl; have I2 := Lib.hid (cissue_any (w := w5) (F := R) (c := c) ⟨_, rfl, HL5.out.sl⟩ (fun k hk => (HL5.out.off k hk).1) (by have := HL5.out.len; omega) OK.out.lo OK.out.hi); clear k5 b5)
            | (go_at_call 13; refine I2.out.mono ?_; rintro e w6 ⟨v6, rfl, ⟨vs6, rfl, hs6⟩, b6⟩; obtain ⟨A6, cap6, rfl, hcap6⟩ := num_form hs6; have X6 := Lib.hid ((HL5.out.xb.step b6).alloc (.cells #[.int .i64 c.issue.next, .slice A6 c.issue.act.length cap6] 29)); have x0 := X6.out.cell 0 _ rfl; have x1 := X6.out.cell 1 _ rfl; have f0 := X6.out.fz 0 (by simp); have f1 := X6.out.fz 1 (by simp); have HL7 := Lib.hid (HL5.out.stored (c' := c.issue) b6 hs6 (fun k hk => hk) (by have := Ck_len_issue c; have := HL.out.len; omega) (.cells #[.int .i64 c.issue.next, .slice A6 c.issue.act.length cap6] 29)); clear b6 hs6))
          have HW := Lib.hid (rfl : (((w6.alloc (.cells #[.int .i64 c.issue.next, .slice A6 c.issue.act.length cap6] 29)).setCell ⟨X, 0, none⟩ (.int .i64 c.issue.next)).setCell ⟨X, 1, none⟩ (.slice A6 c.issue.act.length cap6)) = (((w6.alloc (.cells #[.int .i64 c.issue.next, .slice A6 c.issue.act.length cap6] 29)).setCell ⟨X, 0, none⟩ (.int .i64 c.issue.next)).setCell ⟨X, 1, none⟩ (.slice A6 c.issue.act.length cap6)))
          clear HW I1 I2 X6 OK x0 x1 f0 f1 xk HL HL5
          generalize (((w6.alloc (.cells #[.int .i64 c.issue.next, .slice A6 c.issue.act.length cap6] 29)).setCell ⟨X, 0, none⟩ (.int .i64 c.issue.next)).setCell ⟨X, 1, none⟩ (.slice A6 c.issue.act.length cap6)) = w7 at *
          generalize c.issue = d at *
          obtain ⟨N, hN⟩ : ∃ N, N = d.act.length := ⟨_, rfl⟩
          have Q1 := Lib.hid HL7.out.q1
          have Q2 := Lib.hid HL7.out.q2
          have Q3 := Lib.hid (HL7.out.q3 (by omega))
          have Q4 := Lib.hid (HL7.out.q4 (by omega))
          have Q5 := Lib.hid (HL7.out.q5 (by omega))
          have HSd : Hid (St9 w7 w7.drew X d.next (.slice A6 d.act.length cap6)) := Lib.hid (HL7.out.st (Below.drew (Below.refl _ _)))
          generalize d.next = p at *
          generalize d.min = q at *
          generalize hN : d.act.length = N at *
          have HN := Lib.hid hN
          clear hN
          go_region_held3 (fun w' => w'.cell? ⟨X, 0, none⟩ = some (.int .i64 p) ∧ w'.cell? ⟨X, 1, none⟩ = some (.slice A6 N cap6) ∧ Below w7.heap.size w7 w')
            (first | with_reducible exact HSd.out | with_reducible assumption)
            (first
              | (go_at_call 18
                 with_reducible refine (Q1.out _ (by assumption)).mono ?_
                 rintro ea wa ⟨rfl, hSa⟩)
              | (go_at_call 19
                 with_reducible refine (Q2.out _ (by assumption)).mono ?_
                 rintro ea wa ⟨rfl, hSa⟩)
              | (go_at_call 20
                 with_reducible refine (Q3.out _ (by assumption)).mono ?_
                 rintro ea wa ⟨rfl, hSa⟩)
              | (go_at_call 22
                 with_reducible refine (Q4.out _ (by assumption)).mono ?_
                 rintro ea wa ⟨A8, cap8, rfl, hSa, hact⟩)
              | (go_at_call 21
                 with_reducible refine (Q5.out _ _ (by assumption) (by assumption)).mono ?_
                 rintro ea wa ⟨rfl, hSa⟩))
          all_goals (try go_wp2_with fail)
          all_goals go_roundw
          case rel => exact ⟨i + 1, d, _, _, by omega, by go_num, HL7.out.step hSa.2.2⟩
          case measure => simp [intOf]; omega
        · have f1 : (kd == 1) = false := by simpa using e1
          by_cases e2 : kd = 2
          · subst e2
            have I1 := Lib.hid (done_any HL.out.hc nd hn0 hn1)
            have HLD := Lib.hid (Ck_len_done c nd)
            have HND := Lib.hid (rfl : (c.done nd).next = c.next)
            have HCD : Hid (∀ wd, Below wr.heap.size wr wd → True) := Lib.hid (fun _ _ => trivial)
            have HRD : Hid (∀ (wd : World) (F : Nat → Prop), SlN wd F (.slice A c.act.length cap) c.act → (∀ k, F k → k < wd.heap.size) → Calls Try.prog 15 #[.agg #[.int .i64 c.next, .slice A c.act.length cap], .int .i64 nd] wd fun e w' => ∃ A6 cap6, e = .returned (.tuple #[.agg #[.int .i64 (c.done nd).next, .slice A6 (c.done nd).act.length cap6], .bool (c.is nd)]) ∧ SlN w' (S.New wd w') (.slice A6 (c.done nd).act.length cap6) (c.done nd).act ∧ Below wd.heap.size wd w') := Lib.hid (fun wd F hs hF => (cdone_any (c := c) ⟨_, rfl, hs⟩ hF (by have := HL.out.len; omega) nd).mono (fun _ _ hh => by
              obtain ⟨v', rfl, ⟨vs, rfl, hs'⟩, hb⟩ := hh
              obtain ⟨A6, cap6, rfl, _⟩ := num_form hs'
              exact ⟨A6, cap6, rfl, hs', hb⟩))
            clear HCD
            obtain ⟨d, hd⟩ : ∃ d, d = c.done nd := ⟨_, rfl⟩
            rw [← hd] at I1 HLD HND HRD
            clear hd e1 f1
            generalize c.is nd = is at *
            go_wp2_with (first
              | (go_at_call 14; refine I1.out.mono ?_; rintro e w5 ⟨rfl, k5, b5⟩; have HL5 := Lib.hid (HL.out.landed k5 b5 (Nat.le_refl _)); have XN5 := Lib.hid ((b5.cell (p := ⟨(ad.add (i * 2)).block, (ad.add (i * 2)).off + 1, none⟩) (by rw [S.add_block]; have := HL.out.low.size; have := HGd.out; show ad.block < _; omega) (by rw [S.add_block]; have := HL.out.lo.1; have := HGd.out; show ad.block ≠ _; omega) (by rw [S.add_block]; have := HL.out.lo.2.1; have := HGd.out; show ad.block ≠ _; omega)).trans xn); clear k5 b5))
            have hbz : Below w5.heap.size w5 (w5.alloc (.cells #[.int .i64 0, .slice none 0 0] 29)) := (Below.refl _ _).alloc (Nat.le_refl _) _
            have hbd1 := Lib.hid (Below.drew (Below.refl w5.heap.size w5))
            have hbd2 := Lib.hid hbz.drew
            have HO : Hid (∀ wd, Below w5.heap.size w5 wd → Calls Try.prog 15 #[.agg #[.int .i64 c.next, .slice A c.act.length cap], .int .i64 nd] wd fun e w' => ∃ A6 cap6, e = .returned (.tuple #[.agg #[.int .i64 d.next, .slice A6 d.act.length cap6], .bool is]) ∧ SlN w' (S.New wd w') (.slice A6 d.act.length cap6) d.act ∧ Below wd.heap.size wd w') := Lib.hid (fun wd hbd => HRD.out wd R (HL5.out.sl.below hbd (fun k hk => (HL5.out.off k hk).1)) (fun k hk => Nat.lt_of_lt_of_le (HL5.out.off k hk).1 hbd.size))
            have HS1 : Hid (∀ w' : World, Below w5.heap.size w5 w' → w'.cell? ⟨X, 0, none⟩ = some (.int .i64 c.next) ∧ w'.cell? ⟨X, 1, none⟩ = some (.slice A c.act.length cap) ∧ w'.cell? ⟨(ad.add (i * 2)).block, (ad.add (i * 2)).off + 1, none⟩ = some (.int .i64 nd)) := Lib.hid (fun w' hb =>
              ⟨(HL5.out.xb.step hb).cell 0 _ rfl, (HL5.out.xb.step hb).cell 1 _ rfl, (hb.cell (p := ⟨(ad.add (i * 2)).block, (ad.add (i * 2)).off + 1, none⟩) (by show (ad.add (i * 2)).block < _; rw [S.add_block]; have := HL5.out.low.size; have := HGd.out; omega)).trans XN5.out⟩)
            have hSd := HS1.out w5.drew hbd1.out
            have hSz := HS1.out (w5.alloc (.cells #[.int .i64 0, .slice none 0 0] 29)).drew hbd2.out
            have hSz' := HS1.out (w5.alloc (.cells #[.int .i64 0, .slice none 0 0] 29)) hbz
            have hxl := HL5.out.xb.lt
            have hal : (ad.add (i * 2)).block < w5.heap.size := by rw [S.add_block]; have := HL5.out.low.size; have := HGd.out; omega
            have nXY : w5.heap.size ≠ X := by omega
            have nAY : w5.heap.size ≠ (ad.add (i * 2)).block := by omega
            have HY0 := Lib.hid ((Bk.new w5 [.int .i64 0, .slice none 0 0] 29 rfl).drew)
            clear hbz XN5 HRD I1 xn xk HL
            have HNc := Lib.hid hcap
            clear hcap
            go_region_held3 (fun w' => w'.cell? ⟨X, 0, none⟩ = some (.int .i64 c.next) ∧ w'.cell? ⟨X, 1, none⟩ = some (.slice A c.act.length cap) ∧ w'.cell? ⟨(ad.add (i * 2)).block, (ad.add (i * 2)).off + 1, none⟩ = some (.int .i64 nd))
              (first | with_reducible assumption | go_keep)
              (first
                | (go_at_call 15
                   (with_reducible refine (HO.out _ hbd1.out).mono ?_)
                   rintro e w6 ⟨A6, cap6, rfl, hs6, b6⟩
                   have hA := HS1.out w6 (below_two hbd1.out b6))
                | (go_at_call 15
                   (with_reducible refine (HO.out _ hbd2.out).mono ?_)
                   rintro e w6 ⟨A6, cap6, rfl, hs6, b6⟩
                   have hA := HS1.out w6 (below_two hbd2.out b6)
                   have hY6 := HY0.out.step b6
                   have ya := hY6.cell 0 _ rfl
                   have yb := hY6.cell 1 _ rfl
                   have yf0 := hY6.fz 0 (by simp)
                   have yf1 := hY6.fz 1 (by simp)
                   have hA' := And.intro (set2_other hA.1 nXY (.int .i64 d.next) (.slice A6 d.act.length cap6)) (And.intro (set2_other hA.2.1 nXY (.int .i64 d.next) (.slice A6 d.act.length cap6)) (set2_other hA.2.2 nAY (.int .i64 d.next) (.slice A6 d.act.length cap6)))))
            · have hb5 := below_two hbd1.out b6
              have X6 := Lib.hid ((HL5.out.xb.step hb5).alloc (.cells #[.int .i64 d.next, .slice A6 d.act.length cap6] 29))
              have x0 := X6.out.cell 0 _ rfl
              have x1 := X6.out.cell 1 _ rfl
              have f0 := X6.out.fz 0 (by simp)
              have f1 := X6.out.fz 1 (by simp)
              have HL7 := Lib.hid (HL5.out.stored (c' := d) hb5 hs6 (fun k hk => Or.inr ⟨hk.1, hk.2⟩) (by have := HLD.out; have := HL5.out.len; omega) (.cells #[.int .i64 d.next, .slice A6 d.act.length cap6] 29))
              clear HO HS1 hSd hSz hSz' hbd1 hbd2 HY0 hA b6 hs6 hb5 HL5 nXY nAY hal hxl HND HLD
              go_wp2_with fail
              generalize (((w6.alloc (.cells #[.int .i64 d.next, .slice A6 d.act.length cap6] 29)).setCell ⟨X, 0, none⟩ (.int .i64 d.next)).setCell ⟨X, 1, none⟩ (.slice A6 d.act.length cap6)) = w7 at *
              clear X6 x0 x1 f0 f1
              have Q1 := Lib.hid HL7.out.q1
              have Q2 := Lib.hid HL7.out.q2
              have Q3 := Lib.hid (HL7.out.q3 (by omega))
              have Q4 := Lib.hid (HL7.out.q4 (by omega))
              have Q5 := Lib.hid (HL7.out.q5 (by omega))
              have HSd : Hid (St9 w7 w7.drew X d.next (.slice A6 d.act.length cap6)) := Lib.hid (HL7.out.st (Below.drew (Below.refl _ _)))
              generalize d.next = p at *
              generalize d.min = q at *
              generalize hN : d.act.length = N at *
              have HN := Lib.hid hN
              clear hN
              go_region_held3 (fun w' => w'.cell? ⟨X, 0, none⟩ = some (.int .i64 p) ∧ w'.cell? ⟨X, 1, none⟩ = some (.slice A6 N cap6) ∧ Below w7.heap.size w7 w')
                (first | with_reducible exact HSd.out | with_reducible assumption)
                (first
                  | (go_at_call 18
                     with_reducible refine (Q1.out _ (by assumption)).mono ?_
                     rintro ea wa ⟨rfl, hSa⟩)
                  | (go_at_call 19
                     with_reducible refine (Q2.out _ (by assumption)).mono ?_
                     rintro ea wa ⟨rfl, hSa⟩)
                  | (go_at_call 20
                     with_reducible refine (Q3.out _ (by assumption)).mono ?_
                     rintro ea wa ⟨rfl, hSa⟩)
                  | (go_at_call 22
                     with_reducible refine (Q4.out _ (by assumption)).mono ?_
                     rintro ea wa ⟨A8, cap8, rfl, hSa, hact⟩)
                  | (go_at_call 21
                     with_reducible refine (Q5.out _ _ (by assumption) (by assumption)).mono ?_
                     rintro ea wa ⟨rfl, hSa⟩))
              all_goals (try go_wp2_with fail)
              all_goals go_roundw
              case rel => exact ⟨i + 1, d, _, _, by omega, by go_num, (HL7.out.step hSa.2.2).up (Nat.le_succ _)⟩
              case measure => simp [intOf]; omega
            · have hb5 := below_two hbd2.out b6
              have X6 := Lib.hid (((HL5.out.xb.step hb5).other nXY 0 (.int .i64 d.next)).other nXY 1 (.slice A6 d.act.length cap6))
              have Y6 := Lib.hid ((HY0.out.step b6).two (.int .i64 d.next) (.slice A6 d.act.length cap6))
              have x0 := X6.out.cell 0 _ rfl
              have x1 := X6.out.cell 1 _ rfl
              have f0 := X6.out.fz 0 (by simp)
              have f1 := X6.out.fz 1 (by simp)
              have y0 := Y6.out.cell 0 _ rfl
              have y1 := Y6.out.cell 1 _ rfl
              have nYX : ¬ X = w5.heap.size := by omega
              have HL7 := Lib.hid (HL5.out.stored2 (c' := d) hb5 hs6 (fun k hk => Or.inr ⟨by have h1 : (w5.alloc (.cells #[.int .i64 0, .slice none 0 0] 29)).heap.size ≤ k := hk.1; simp at h1; omega, hk.2⟩) (by have := HLD.out; have := HL5.out.len; omega) rfl (.int .i64 d.next) (.slice A6 d.act.length cap6))
              clear HO HS1 hSd hSz hSz' hbd1 hbd2 HY0 hA hA' b6 hs6 hb5 HL5 nAY hal hxl HND HLD hY6 ya yb yf0 yf1
              go_wp2_with fail
              generalize ((((w6.setCell ⟨w5.heap.size, 0, none⟩ (.int .i64 d.next)).setCell ⟨w5.heap.size, 1, none⟩ (.slice A6 d.act.length cap6)).setCell ⟨X, 0, none⟩ (.int .i64 d.next)).setCell ⟨X, 1, none⟩ (.slice A6 d.act.length cap6)) = w7 at *
              clear X6 x0 x1 f0 f1 Y6 y0 y1 nXY nYX
              have Q1 := Lib.hid HL7.out.q1
              have Q2 := Lib.hid HL7.out.q2
              have Q3 := Lib.hid (HL7.out.q3 (by omega))
              have Q4 := Lib.hid (HL7.out.q4 (by omega))
              have Q5 := Lib.hid (HL7.out.q5 (by omega))
              have HSd : Hid (St9 w7 w7.drew X d.next (.slice A6 d.act.length cap6)) := Lib.hid (HL7.out.st (Below.drew (Below.refl _ _)))
              generalize d.next = p at *
              generalize d.min = q at *
              generalize hN : d.act.length = N at *
              have HN := Lib.hid hN
              clear hN
              go_region_held3 (fun w' => w'.cell? ⟨X, 0, none⟩ = some (.int .i64 p) ∧ w'.cell? ⟨X, 1, none⟩ = some (.slice A6 N cap6) ∧ Below w7.heap.size w7 w')
                (first | with_reducible exact HSd.out | with_reducible assumption)
                (first
                  | (go_at_call 18
                     with_reducible refine (Q1.out _ (by assumption)).mono ?_
                     rintro ea wa ⟨rfl, hSa⟩)
                  | (go_at_call 19
                     with_reducible refine (Q2.out _ (by assumption)).mono ?_
                     rintro ea wa ⟨rfl, hSa⟩)
                  | (go_at_call 20
                     with_reducible refine (Q3.out _ (by assumption)).mono ?_
                     rintro ea wa ⟨rfl, hSa⟩)
                  | (go_at_call 22
                     with_reducible refine (Q4.out _ (by assumption)).mono ?_
                     rintro ea wa ⟨A8, cap8, rfl, hSa, hact⟩)
                  | (go_at_call 21
                     with_reducible refine (Q5.out _ _ (by assumption) (by assumption)).mono ?_
                     rintro ea wa ⟨rfl, hSa⟩))
              all_goals (try go_wp2_with fail)
              all_goals go_roundw
              case rel => exact ⟨i + 1, d, _, _, by omega, by go_num, (HL7.out.step hSa.2.2).up (Nat.le_succ _)⟩
              case measure => simp [intOf]; omega
          · have f2 : (kd == 2) = false := by simpa using e2
            have I1 := Lib.hid (raise_any HL.out.hc nd hn0 hn1)
            have HLD := Lib.hid (Ck_len_raise c nd)
            have HRD : Hid (∀ (wd : World) (F : Nat → Prop), SlN wd F (.slice A c.act.length cap) c.act → (∀ k, F k → k < wd.heap.size) → Calls Try.prog 17 #[.agg #[.int .i64 c.next, .slice A c.act.length cap], .int .i64 nd] wd fun e w' => ∃ A6 cap6, e = .returned (.agg #[.int .i64 (c.raise nd).next, .slice A6 (c.raise nd).act.length cap6]) ∧ SlN w' F (.slice A6 (c.raise nd).act.length cap6) (c.raise nd).act ∧ Below wd.heap.size wd w') := Lib.hid (fun wd F hs hF => (craise_any (c := c) ⟨_, rfl, hs⟩ hF nd hn0 hn1).mono (fun _ _ hh => by
              obtain ⟨v', rfl, ⟨vs, rfl, hs'⟩, hb⟩ := hh
              obtain ⟨A6, cap6, rfl, _⟩ := num_form hs'
              exact ⟨A6, cap6, rfl, hs', hb⟩))
            obtain ⟨d, hd⟩ : ∃ d, d = c.raise nd := ⟨_, rfl⟩
            rw [← hd] at I1 HLD HRD
            clear hd e1 e2
            go_wp2_with (first
              | (go_at_call 16; refine I1.out.mono ?_; rintro e w5 ⟨rfl, k5, b5⟩; have HL5 := Lib.hid (HL.out.landed k5 b5 (Nat.le_refl _)); have XN5 := Lib.hid ((b5.cell (p := ⟨(ad.add (i * 2)).block, (ad.add (i * 2)).off + 1, none⟩) (by rw [S.add_block]; have := HL.out.low.size; have := HGd.out; show ad.block < _; omega) (by rw [S.add_block]; have := HL.out.lo.1; have := HGd.out; show ad.block ≠ _; omega) (by rw [S.add_block]; have := HL.out.lo.2.1; have := HGd.out; show ad.block ≠ _; omega)).trans xn); clear k5 b5))
            clear xn xk HL I1
            have hbd1 := Lib.hid (Below.drew (Below.refl w5.heap.size w5))
            have x0 := HL5.out.xb.drew.cell 0 _ rfl
            have x1 := HL5.out.xb.drew.cell 1 _ rfl
            have xn : w5.drew.cell? ⟨(ad.add (i * 2)).block, (ad.add (i * 2)).off + 1, none⟩ = some (.int .i64 nd) := XN5.out
            have I2 := Lib.hid (HRD.out w5.drew R (HL5.out.sl.below hbd1.out (fun k hk => (HL5.out.off k hk).1)) (fun k hk => (HL5.out.off k hk).1))
            go_still_tail 6, (by kernel_rfl)
            change wpList _ _ _ _ _ w5.drew
            go_wp2_with (first
              | (go_at_call 17; refine I2.out.mono ?_; rintro e w6 ⟨A6, cap6, rfl, hs6, b6⟩; have hb5 := below_two hbd1.out b6; have X6 := Lib.hid (HL5.out.xb.step hb5); have x0 := X6.out.cell 0 _ rfl; have x1 := X6.out.cell 1 _ rfl; have f0 := X6.out.fz 0 (by simp); have f1 := X6.out.fz 1 (by simp); have HL7 := Lib.hid (HL5.out.stored0 (c' := d) hb5 hs6 (fun k hk => Or.inl hk) (by have := HLD.out; have := HL5.out.len; omega)); clear hs6 b6 hb5))
            generalize ((w6.setCell ⟨X, 0, none⟩ (.int .i64 d.next)).setCell ⟨X, 1, none⟩ (.slice A6 d.act.length cap6)) = w7 at *
            clear X6 x0 x1 f0 f1 HL5 I2 HRD HLD xn XN5 hbd1
            have Q1 := Lib.hid HL7.out.q1
            have Q2 := Lib.hid HL7.out.q2
            have Q3 := Lib.hid (HL7.out.q3 (by omega))
            have Q4 := Lib.hid (HL7.out.q4 (by omega))
            have Q5 := Lib.hid (HL7.out.q5 (by omega))
            have HSd : Hid (St9 w7 w7.drew X d.next (.slice A6 d.act.length cap6)) := Lib.hid (HL7.out.st (Below.drew (Below.refl _ _)))
            generalize d.next = p at *
            generalize d.min = q at *
            generalize hN : d.act.length = N at *
            have HN := Lib.hid hN
            clear hN
            go_region_held3 (fun w' => w'.cell? ⟨X, 0, none⟩ = some (.int .i64 p) ∧ w'.cell? ⟨X, 1, none⟩ = some (.slice A6 N cap6) ∧ Below w7.heap.size w7 w')
              (first | with_reducible exact HSd.out | with_reducible assumption)
              (first
                | (go_at_call 18
                   with_reducible refine (Q1.out _ (by assumption)).mono ?_
                   rintro ea wa ⟨rfl, hSa⟩)
                | (go_at_call 19
                   with_reducible refine (Q2.out _ (by assumption)).mono ?_
                   rintro ea wa ⟨rfl, hSa⟩)
                | (go_at_call 20
                   with_reducible refine (Q3.out _ (by assumption)).mono ?_
                   rintro ea wa ⟨rfl, hSa⟩)
                | (go_at_call 22
                   with_reducible refine (Q4.out _ (by assumption)).mono ?_
                   rintro ea wa ⟨A8, cap8, rfl, hSa, hact⟩)
                | (go_at_call 21
                   with_reducible refine (Q5.out _ _ (by assumption) (by assumption)).mono ?_
                   rintro ea wa ⟨rfl, hSa⟩))
            all_goals (try go_wp2_with fail)
            all_goals go_roundw
            case rel => exact ⟨i + 1, d, _, _, by omega, by go_num, (HL7.out.step hSa.2.2).up (Nat.le_succ _)⟩
            case measure => simp [intOf]; omega
      · have hNo : ¬ ((i : Int) < (ld.length : Int)) ∨ ((i : Int) < (ld.length : Int) ∧ ¬ ((i : Int) < 100)) := by omega
        have HB := Lib.hid hL.low
        clear hL hil
        rcases hNo with hNo | ⟨hNo1, hNo⟩
        · go_wp2
          go_ret
          exact ⟨rfl, HB.out⟩
        · go_wp2
          go_ret
          exact ⟨rfl, HB.out⟩
  · have hmay : T.mayB n = false := by simpa using hmay
    have HN := Lib.hid (new_none n hmay w1)
    have HM := Lib.hid (fun W => (cmay_any n W).mono (fun e w' h => (⟨h.1, h.2.symm⟩ : e = .returned (.bool (T.mayB n)) ∧ W = w')))
    rw [hmay] at HM
    clear hmay
    go_wp2_with (first
      | (go_at_call 10; refine HN.out.mono ?_; rintro e w2 ⟨rfl, rfl⟩)
      | (go_at_call 11; refine (HM.out _).mono ?_; rintro e w3 ⟨rfl, rfl⟩))
    clear HM HN
    have HB1 : Hid (Below w.heap.size w (w1.alloc (.cells #[.int .i64 n, .slice none 0 0] 29))) := Lib.hid (B1.out.alloc B1.out.size _)
    go_wp2_with fail
    go_loopw [8] (fun v wr => v = .int .i64 0 ∧ Hid (Below w.heap.size w wr)) (fun _ _ => 0)
    case atStart => exact ⟨rfl, HB1⟩
    case round =>
      obtain ⟨rfl, HB⟩ := hrel
      clear HB1 B1
      by_cases h0 : 0 < ld.length
      · have h1 : (0 : Int) < (ld.length : Int) := by omega
        go_wp2
        go_ret
        exact ⟨rfl, HB.out⟩
      · have h1 : ¬ (0 : Int) < (ld.length : Int) := by omega
        go_wp2
        go_ret
        exact ⟨rfl, HB.out⟩

end Go.Proofs.Ytcndghkeondbpaa
