/-
  The plain mathematics of layer ring: a ring's numbers, a record appended, a truncation; what stays. No program stands here.
  Walks of the document's ring: the sector of a number, how many are free, a truncation.
  Walks of the document's ring: may there be such a ring?
  Walks of the document's ring: a record appended.
-/
import Derived.Test.YtnjhbmjhldfdpaaJA
import Derived.Test.YtnjhbmjhldfdpaaJC
import Derived.Test.YtnjhbmjhldfdpaaJB
import Derived.Deep.RegionHeld3
namespace Go.Proofs.Ytnjhbmjhldfdpaa.G

/-- the sector of a number -/
def at_ (first many seq : Nat) : Nat := first + seq % many

theorem at_range {first many seq : Nat} (h : 1 ≤ many) : first ≤ at_ first many seq ∧ at_ first many seq < first + many := by
  have := Nat.mod_lt seq (show many > 0 by omega)
  unfold at_
  omega

theorem mod_apart {many a b : Nat} (h : a < b) (hb : b < a + many) : a % many ≠ b % many := by
  intro e
  have h1 : (b - a) % many = 0 := by
    have := Nat.sub_mod_eq_zero_of_mod_eq e.symm
    exact this
  rw [Nat.mod_eq_of_lt (by omega)] at h1
  omega

theorem at_apart {first many a b : Nat} (h : a < b) (hb : b < a + many) : at_ first many a ≠ at_ first many b := by
  have := mod_apart h hb
  unfold at_
  omega

structure Rg where
  d : D.Dk
  first : Nat
  many : Nat
  epoch : Nat
  low : Nat
  next : Nat

structure Rg.May (r : Rg) : Prop where
  m1 : 1 ≤ r.many
  fits : r.first + r.many ≤ r.d.secs.length
  ln : r.low ≤ r.next
  nl : r.next ≤ r.low + r.many
  top : r.next ≤ 1073741824

/-- how many sectors are free -/
def Rg.free (r : Rg) : Nat := r.many + r.low - r.next

/-- frames written, each to the sector of its number -/
def lay (first many : Nat) (d : D.Dk) (fs : List R.Fr) : D.Dk := fs.foldl (fun d f => d.write (at_ first many f.seq) (R.sector f)) d

theorem lay_nil (first many : Nat) (d : D.Dk) : lay first many d [] = d := rfl
theorem lay_snoc (first many : Nat) (d : D.Dk) (fs : List R.Fr) (f : R.Fr) : lay first many d (fs ++ [f]) = (lay first many d fs).write (at_ first many f.seq) (R.sector f) := by simp [lay]
theorem lay_len (first many : Nat) (fs : List R.Fr) : ∀ d, (lay first many d fs).secs.length = d.secs.length := by
  induction fs with
  | nil => intro d; rfl
  | cons f r ih => intro d; exact (ih _).trans (D.write_len _ _ _)

theorem write_read {d : D.Dk} {k : Nat} {b : List UInt8} (hk : k < d.secs.length) (hb : b.length = 64) (i : Nat) : (d.write (k : Int) b).read i = if k = i then b else d.read i := by
  have ht : d.there (k : Int) := ⟨by omega, by omega⟩
  rw [D.Dk.write, if_pos ⟨ht, by omega⟩]
  unfold D.Dk.read
  rw [D.lastOf_snoc]
  have hf : D.full b = b := D.full_whole (by omega)
  simp [hf]

theorem write_row {d : D.Dk} {k : Nat} {b : List UInt8} (hk : k < d.secs.length) (hb : b.length = 64) : (d.write (k : Int) b).row.length = d.row.length + 1 := by
  have ht : d.there (k : Int) := ⟨by omega, by omega⟩
  rw [D.Dk.write, if_pos ⟨ht, by omega⟩]
  simp

/-- the first j frames of a record from the number 'next' on -/
def firsts (e next : Nat) (rec : List UInt8) (j : Nat) : List R.Fr := (List.range j).map (R.frameOf e next rec)
theorem firsts_succ (e next : Nat) (rec : List UInt8) (j : Nat) : firsts e next rec (j + 1) = firsts e next rec j ++ [R.frameOf e next rec j] := by simp [firsts, List.range_succ]
theorem firsts_all (e next : Nat) (rec : List UInt8) : firsts e next rec (R.many rec.length) = R.cut e next rec := rfl

theorem frameOf_fits (e s : Nat) (rec : List UInt8) (i : Nat) : (R.frameOf e s rec i).body.length ≤ 50 := by
  simp only [R.frameOf, List.length_take]
  omega
theorem frameOf_sector (e s : Nat) (rec : List UInt8) (i : Nat) : (R.sector (R.frameOf e s rec i)).length = 64 := R.sector_len (frameOf_fits e s rec i)

section
variable {first many e next : Nat} {d : D.Dk} {rec : List UInt8}

theorem firsts_row (h1 : 1 ≤ many) (hf : first + many ≤ d.secs.length) (j : Nat) : (lay first many d (firsts e next rec j)).row.length = d.row.length + j := by
  induction j with
  | zero => rfl
  | succ j ih =>
    have hr := at_range (first := first) (seq := (R.frameOf e next rec j).seq) h1
    rw [firsts_succ, lay_snoc, write_row (by rw [lay_len]; omega) (frameOf_sector _ _ _ _), ih]
    omega

/-- a sector of none of them -/
theorem firsts_other (h1 : 1 ≤ many) (hf : first + many ≤ d.secs.length) (i : Nat) (j : Nat) (hi : ∀ k, k < j → at_ first many ((next + k) % 4294967296) ≠ i) : (lay first many d (firsts e next rec j)).read i = d.read i := by
  induction j with
  | zero => rfl
  | succ j ih =>
    have hr := at_range (first := first) (seq := (R.frameOf e next rec j).seq) h1
    rw [firsts_succ, lay_snoc, write_read (by rw [lay_len]; omega) (frameOf_sector _ _ _ _), if_neg (show at_ first many (R.frameOf e next rec j).seq ≠ i from hi j (by omega))]
    exact ih fun k hk => hi k (by omega)

/-- a sector of one of them -/
theorem firsts_at (h1 : 1 ≤ many) (hf : first + many ≤ d.secs.length) (j : Nat) (hj : j ≤ many) (ht : next + j ≤ 4294967296) (k : Nat) (hk : k < j) :
    (lay first many d (firsts e next rec j)).read (at_ first many (next + k)) = R.sector (R.frameOf e next rec k) := by
  induction j with
  | zero => omega
  | succ j ih =>
    have hr := at_range (first := first) (seq := (R.frameOf e next rec j).seq) h1
    have hs : (R.frameOf e next rec j).seq = next + j := Nat.mod_eq_of_lt (by omega)
    rw [firsts_succ, lay_snoc, write_read (by rw [lay_len]; omega) (frameOf_sector _ _ _ _), hs]
    by_cases hkj : k = j
    · subst hkj
      rw [if_pos rfl]
    · rw [if_neg (fun ex => at_apart (a := next + k) (b := next + j) (by omega) (by omega) ex.symm)]
      exact ih (by omega) (by omega) (by omega)
end

/-- a record appended: what is told, and how the ring is then -/
def Rg.err (r : Rg) (rec : List UInt8) : Int := if r.free < R.many rec.length then 3 else if 1073741824 < r.next + R.many rec.length then 10 else 0
def Rg.put (r : Rg) (rec : List UInt8) : Rg := { r with d := lay r.first r.many r.d (R.cut r.epoch r.next rec), next := r.next + R.many rec.length }
def Rg.append (r : Rg) (rec : List UInt8) : Rg := if r.err rec = 0 then r.put rec else r
def Rg.told (r : Rg) (rec : List UInt8) : Nat := if r.err rec = 0 then r.next + R.many rec.length else 0
def Rg.trunc (r : Rg) (low : Nat) : Rg := if r.low < low ∧ low ≤ r.next then { r with low := low } else r
def Rg.sync (r : Rg) : Rg := { r with d := r.d.sync }

theorem err_zero {r : Rg} {rec : List UInt8} (h : r.err rec = 0) : R.many rec.length ≤ r.free ∧ r.next + R.many rec.length ≤ 1073741824 := by
  unfold Rg.err at h
  split at h
  · cases h
  · split at h
    · cases h
    · omega

theorem Rg.May.put {r : Rg} (h : r.May) {rec : List UInt8} (he : r.err rec = 0) : (r.put rec).May := by
  obtain ⟨h1, h2⟩ := err_zero he
  have a := h.ln
  have b := h.nl
  unfold Rg.free at h1
  exact ⟨h.m1, by show r.first + r.many ≤ (lay _ _ _ _).secs.length; rw [lay_len]; exact h.fits, by show r.low ≤ r.next + _; omega, by show r.next + _ ≤ r.low + r.many; omega, h2⟩
theorem Rg.May.append {r : Rg} (h : r.May) (rec : List UInt8) : (r.append rec).May := by
  unfold Rg.append
  split
  · exact h.put ‹_›
  · exact h
theorem Rg.May.trunc {r : Rg} (h : r.May) (low : Nat) : (r.trunc low).May := by
  unfold Rg.trunc
  split
  · rename_i hc
    have b := h.nl
    exact ⟨h.m1, h.fits, hc.2, by show r.next ≤ low + r.many; omega, h.top⟩
  · exact h
theorem Rg.May.sync {r : Rg} (h : r.May) : r.sync.May := ⟨h.m1, by show _ ≤ (D.Dk.sync _).secs.length; rw [D.sync_len]; exact h.fits, h.ln, h.nl, h.top⟩

/-- what is kept isn't written again by the next record -/
theorem put_spares {r : Rg} (h : r.May) {rec : List UInt8} (he : r.err rec = 0) (n : Nat) (h1 : r.low ≤ n) (h2 : n < r.next) : (r.put rec).d.read (at_ r.first r.many n) = r.d.read (at_ r.first r.many n) := by
  obtain ⟨h3, h4⟩ := err_zero he
  unfold Rg.free at h3
  have a := h.nl
  refine firsts_other h.m1 h.fits _ _ fun k hk ex => ?_
  rw [Nat.mod_eq_of_lt (by omega)] at ex
  exact at_apart (a := n) (b := r.next + k) (by omega) (by omega) ex.symm

/-- nothing is written outside of the place -/
theorem put_outside {r : Rg} (h : r.May) {rec : List UInt8} (i : Nat) (hi : i < r.first ∨ r.first + r.many ≤ i) : (r.put rec).d.read i = r.d.read i := by
  refine firsts_other h.m1 h.fits _ _ fun k _ ex => ?_
  have := at_range (first := r.first) (seq := (r.next + k) % 4294967296) h.m1
  omega

/-- the new record stands -/
theorem put_stands {r : Rg} (h : r.May) {rec : List UInt8} (he : r.err rec = 0) (k : Nat) (hk : k < R.many rec.length) : (r.put rec).d.read (at_ r.first r.many (r.next + k)) = R.sector (R.frameOf r.epoch r.next rec k) := by
  obtain ⟨h3, h4⟩ := err_zero he
  unfold Rg.free at h3
  have a := h.ln
  exact firsts_at h.m1 h.fits _ (by omega) (by omega) k hk

theorem put_row {r : Rg} (h : r.May) (rec : List UInt8) : (r.put rec).d.row.length = r.d.row.length + R.many rec.length := firsts_row h.m1 h.fits _

/-- a record, from its first number on, stands whole -/
def Stands (r : Rg) (x : Nat × List UInt8) : Prop := ∀ k, k < R.many x.2.length → r.d.read (at_ r.first r.many (x.1 + k)) = R.sector (R.frameOf r.epoch x.1 x.2 k)

/-- the records that were appended, one behind the other, up to 'n' -/
inductive Chain : Nat → List (Nat × List UInt8) → Nat → Prop
  | nil (n : Nat) : Chain n [] n
  | snoc {a n : Nat} {l : List (Nat × List UInt8)} (rec : List UInt8) : Chain a l n → Chain a (l ++ [(n, rec)]) (n + R.many rec.length)

/-- what holds of a ring behind deeds -/
structure Hist (r : Rg) (a : Nat) (l : List (Nat × List UInt8)) : Prop where
  may : r.May
  chain : Chain a l r.next
  ends : ∀ x ∈ l, x.1 + R.many x.2.length ≤ r.next
  stands : ∀ x ∈ l, r.low ≤ x.1 → Stands r x

theorem Hist.put {r : Rg} {a : Nat} {l : List (Nat × List UInt8)} (h : Hist r a l) {rec : List UInt8} (he : r.err rec = 0) : Hist (r.put rec) a (l ++ [(r.next, rec)]) := by
  refine ⟨h.may.put he, .snoc rec h.chain, fun x hx => ?_, fun x hx hl k hk => ?_⟩
  · rcases List.mem_append.1 hx with hx | hx
    · have := h.ends x hx
      show _ ≤ r.next + _
      omega
    · simp at hx
      subst hx
      exact Nat.le_refl _
  · rcases List.mem_append.1 hx with hx | hx
    · have he2 := h.ends x hx
      exact (put_spares h.may he (x.1 + k) (Nat.le_trans hl (Nat.le_add_right _ _)) (by omega)).trans (h.stands x hx hl k hk)
    · simp at hx
      subst hx
      exact put_stands h.may he k hk

theorem Hist.trunc {r : Rg} {a : Nat} {l : List (Nat × List UInt8)} (h : Hist r a l) (low : Nat) : Hist (r.trunc low) a l := by
  unfold Rg.trunc
  by_cases hc : r.low < low ∧ low ≤ r.next
  · have hm := h.may.trunc low
    rw [Rg.trunc, if_pos hc] at hm
    rw [if_pos hc]
    exact ⟨hm, h.chain, h.ends, fun x hx hl => h.stands x hx (Nat.le_trans (Nat.le_of_lt hc.1) hl)⟩
  · rw [if_neg hc]
    exact h

theorem Hist.sync {r : Rg} {a : Nat} {l : List (Nat × List UInt8)} (h : Hist r a l) : Hist r.sync a l := by
  refine ⟨h.may.sync, h.chain, h.ends, fun x hx hl k hk => ?_⟩
  have hr := at_range (first := r.first) (seq := x.1 + k) h.may.m1
  have hf := h.may.fits
  exact (D.sync_read r.d (at_ r.first r.many (x.1 + k)) (by omega)).trans (h.stands x hx hl k hk)

end Go.Proofs.Ytnjhbmjhldfdpaa.G

namespace Go.Proofs.Ytnjhbmjhldfdpaa
open Go.RowKit

/-- the document's ring r, by value: its disk's parts a, b, c ahead -/
def rgC (a b c : Value) (r : G.Rg) : List Value := [a, b, c, .int .i64 (r.first : Int), .int .i64 (r.many : Int), .int .u32 (r.epoch : Int), .int .u32 (r.low : Int), .int .u32 (r.next : Int)]

/-- v is the document's ring r, its disk in blocks of which F holds -/
def Rr (w : World) (F : Nat → Prop) (v : Value) (r : G.Rg) : Prop :=
  ∃ a b c, v = .agg (rgC a b c r).toArray ∧ Rd w F (.agg #[a, b, c]) r.d

/-- numbers of 32 bits, and small ones -/
structure RgNum (r : G.Rg) : Prop where
  e : r.epoch < 4294967296
  l : r.low < 4294967296
  n : r.next < 4294967296
  f : r.first ≤ 1024
  m1 : 1 ≤ r.many
  m : r.many ≤ 1024

set_option maxRecDepth 100000 in
theorem rat_any (first many seq : Nat) (w : World) (hf : first ≤ 1024) (h1 : 1 ≤ many) (hm : many ≤ 1024) (hs : seq < 4294967296) :
    Calls Try.prog 36 #[.int .i64 first, .int .i64 many, .int .u32 seq] w fun e w' => e = .returned (.int .i64 (G.at_ first many seq : Nat)) ∧ w' = w := by
  have hlt := Nat.mod_lt seq (show many > 0 by omega)
  obtain ⟨q, hq⟩ : ∃ q, q = seq % many := ⟨_, rfl⟩
  have hq' : (seq : Int) % (many : Int) = (q : Int) := by rw [hq]; omega
  have hne : ¬ (many : Int) = 0 := by omega
  have HR : Hid (((first : Int) + (q : Int)) = ((G.at_ first many seq : Nat) : Int)) := Lib.hid (by unfold G.at_; omega)
  have hql : q ≤ 1024 := by omega
  have HQ := Lib.hid hq
  clear hq hlt
  go_enter Try.func36, Try.ntmps36
  go_wp2
  go_ret
  exact ⟨ret_v (by rw [← HR.out]; rfl), rfl⟩

theorem rd_form {w : World} {F : Nat → Prop} {a b c : Value} {d : D.Dk} (h : Rd w F (.agg #[a, b, c]) d) : ∃ A n k B m l C p q, a = .slice A n k ∧ b = .slice B m l ∧ c = .slice C p q := by
  obtain ⟨a', b', c', e, h1, h2, h3⟩ := h
  cases e
  obtain ⟨_, A, k, e1, _⟩ := h1
  obtain ⟨_, B, l, e2, _⟩ := h2
  obtain ⟨_, C, q, e3, _⟩ := h3
  exact ⟨A, _, k, B, _, l, C, _, q, e1, e2, e3⟩

set_option maxRecDepth 100000 in
theorem rfree_any {w : World} {F : Nat → Prop} {v : Value} {r : G.Rg} (h : Rr w F v r) (hn : RgNum r) (hm : r.May) :
    Calls Try.prog 28 #[v] w fun e w' => e = .returned (.int .i64 (r.free : Nat)) ∧ Below w.heap.size w w' := by
  obtain ⟨a, b, c, rfl, hd⟩ := h
  obtain ⟨A, n, k, B, m, l, C, p, q, rfl, rfl, rfl⟩ := rd_form hd
  obtain ⟨h1, h2, h3, h4, h5, h6⟩ := hn
  have a1 := hm.ln
  have a2 := hm.nl
  have HR : Hid (((r.many : Int) - (r.next : Int)) + (r.low : Int) = ((r.free : Nat) : Int)) := Lib.hid (by unfold G.Rg.free; omega)
  have hb : Below w.heap.size w (w.alloc (.cells (rgC (.slice A n k) (.slice B m l) (.slice C p q) r).toArray 73)) := (Below.refl _ _).alloc (Nat.le_refl _) _
  clear hd hm
  unfold rgC at hb ⊢
  go_enter Try.func28, Try.ntmps28
  go_wp2
  go_ret
  exact ⟨ret_v (by rw [← HR.out]; rfl), hb⟩

theorem infoRr : (Try.prog.info? 73).map (·.size) = some 8 := by kernel_rfl

end Go.Proofs.Ytnjhbmjhldfdpaa

namespace Go.Proofs.Ytnjhbmjhldfdpaa
open Go.RowKit

/-- may there be a ring of these numbers, on a disk of n sectors? -/
def mayB (n : Nat) (first many : Int) (low next : Nat) : Bool := decide (0 ≤ first ∧ 1 ≤ many ∧ first + many ≤ n ∧ low ≤ next ∧ (next : Int) ≤ low + many ∧ next ≤ 1073741824)

theorem mayB_of {n : Nat} {first many : Int} {low next : Nat} (h : mayB n first many low next = true) : 0 ≤ first ∧ 1 ≤ many ∧ first + many ≤ n ∧ low ≤ next ∧ (next : Int) ≤ low + many ∧ next ≤ 1073741824 := of_decide_eq_true h

end Go.Proofs.Ytnjhbmjhldfdpaa

namespace Go.Proofs.Ytnjhbmjhldfdpaa
open Go.RowKit

section
variable {F : Nat → Prop} {w w1 : World}
theorem Turn.refl (F : Nat → Prop) (w : World) : Turn F w w := ⟨rfl, rfl, rfl, Nat.le_refl _, fun _ _ _ => rfl⟩
theorem Turn.put (h : Turn F w w1) {q : Nat} (hq : F q) (o : Nat) (u : Value) : Turn F w (w1.setCell ⟨q, o, none⟩ u) :=
  ⟨h.os, h.tape, h.output, by simpa [World.setCell] using h.size, fun k hk hF => (Below.heap_setCell w1 ⟨q, o, none⟩ u k (fun e => hF (by have e : k = q := e; rw [e]; exact hq))).trans (h.block k hk hF)⟩
end

/-- eight cells of a block stored -/
abbrev set8 (w : World) (q : Nat) (a0 a1 a2 a3 a4 a5 a6 a7 : Value) : World := (((((((w.setCell ⟨q, 0, none⟩ a0).setCell ⟨q, 1, none⟩ a1).setCell ⟨q, 2, none⟩ a2).setCell ⟨q, 3, none⟩ a3).setCell ⟨q, 4, none⟩ a4).setCell ⟨q, 5, none⟩ a5).setCell ⟨q, 6, none⟩ a6).setCell ⟨q, 7, none⟩ a7
theorem set8_turn (w : World) (q : Nat) (a0 a1 a2 a3 a4 a5 a6 a7 : Value) : Turn (fun b => b = q) w (set8 w q a0 a1 a2 a3 a4 a5 a6 a7) :=
  ((((((((Turn.refl (fun b => b = q) w).put (q := q) rfl 0 a0).put (q := q) rfl 1 a1).put (q := q) rfl 2 a2).put (q := q) rfl 3 a3).put (q := q) rfl 4 a4).put (q := q) rfl 5 a5).put (q := q) rfl 6 a6).put (q := q) rfl 7 a7
theorem set8_turn' {F : Nat → Prop} {w w1 : World} (h : Turn F w w1) {q : Nat} (hq : F q) (a0 a1 a2 a3 a4 a5 a6 a7 : Value) : Turn F w (set8 w1 q a0 a1 a2 a3 a4 a5 a6 a7) :=
  (((((((h.put hq 0 a0).put hq 1 a1).put hq 2 a2).put hq 3 a3).put hq 4 a4).put hq 5 a5).put hq 6 a6).put hq 7 a7
theorem Turn.drew {F : Nat → Prop} {w w1 : World} (h : Turn F w w1) : Turn F w w1.drew := ⟨h.os, h.tape, h.output, h.size, h.block⟩
theorem set8_size (w : World) (q : Nat) (a0 a1 a2 a3 a4 a5 a6 a7 : Value) : (set8 w q a0 a1 a2 a3 a4 a5 a6 a7).heap.size = w.heap.size := by simp [set8, World.setCell]
theorem Bk.all8 {w : World} {p : Nat} {b0 b1 b2 b3 b4 b5 b6 b7 : Value} (h : Bk w p [b0, b1, b2, b3, b4, b5, b6, b7]) (a0 a1 a2 a3 a4 a5 a6 a7 : Value) : Bk (set8 w p a0 a1 a2 a3 a4 a5 a6 a7) p [a0, a1, a2, a3, a4, a5, a6, a7] :=
  (((((((h.set 0 (by simp) a0).set 1 (by simp) a1).set 2 (by simp) a2).set 3 (by simp) a3).set 4 (by simp) a4).set 5 (by simp) a5).set 6 (by simp) a6).set 7 (by simp) a7
theorem Bk.turn {F : Nat → Prop} {w w' : World} {p : Nat} {vs : List Value} (h : Bk w p vs) (ht : Turn F w w') (hp : ¬ F p) : Bk w' p vs := h.keep (ht.block p h.lt hp) ht.size

theorem results_bk_2 {P : Program} {fn : Func} {r s t : Tmp} {ty : TypeId} {d : TypeDesc} {w : World} {p : Nat} {vs : List Value} (hr : fn.results = #[.cell r ty, .tmp s, .tmp t]) (tmps : Array Value) (hp : tmps.getD r undef = .pointer (some ⟨p, 0, none⟩)) (h : Bk w p vs)
    (hu : P.underlying ty = some d) (hd : d.isRow = true) (hi : (P.info? ty).map (·.size) = some vs.length) : (results fn tmps).run P w = .ok (.tuple #[.agg vs.toArray, tmps.getD s undef, tmps.getD t undef]) w := by
  have hl := load_bk h hu hd hi
  have hp' : tmps[r]?.getD undef = .pointer (some ⟨p, 0, none⟩) := by simpa using hp
  simp [results, hr, hp', asAddr, hl]

/-- what the loop over a record's frames keeps -/
structure RAp (w : World) (F : Nat → Prop) (r : G.Rg) (rec : List UInt8) (vf : Value) (k : Nat) (wr : World) : Prop where
  ex : ∃ x1 x2 x3, Bk wr w.heap.size (rgC x1 x2 x3 r) ∧ Rd wr (fun b => F b ∨ (w.heap.size + 2 ≤ b ∧ b < wr.heap.size)) (.agg #[x1, x2, x3]) (G.lay r.first r.many r.d (G.firsts r.epoch r.next rec k))
  q : Bk wr (w.heap.size + 1) [nilV, nilV, nilV, .int .i64 0, .int .i64 0, .int .u32 0, .int .u32 0, .int .u32 0]
  fr : wr.ownsRow (w.heap.size + 2) 97 4 vf (R.cut r.epoch r.next rec).length ((R.cut r.epoch r.next rec).flatMap frC)
  bel : Below w.heap.size w wr
  sz : w.heap.size + 2 ≤ wr.heap.size

theorem frC_len (f : R.Fr) : (frC f).length = 4 := rfl

theorem set3_size (w : World) (q : Nat) (a0 a1 a2 : Value) : (((w.setCell ⟨q, 0, none⟩ a0).setCell ⟨q, 1, none⟩ a1).setCell ⟨q, 2, none⟩ a2).heap.size = w.heap.size := by simp [World.setCell]

/-- one frame more, its disk laid in its place -/
theorem RAp.next {w : World} {F : Nat → Prop} {r : G.Rg} {rec : List UInt8} {vf : Value} {k : Nat} {wr wf : World} (h : RAp w F r rec vf k wr) (hF : ∀ b, F b → b < w.heap.size) (hb : Below wr.heap.size wr wf) {y1 y2 y3 : Value} {d' : D.Dk}
    (hd : Rd wf (fun b => F b ∨ (w.heap.size + 2 ≤ b ∧ b < wf.heap.size)) (.agg #[y1, y2, y3]) d') (he : d' = G.lay r.first r.many r.d (G.firsts r.epoch r.next rec (k + 1))) :
    RAp w F r rec vf (k + 1) (((wf.setCell ⟨w.heap.size, 0, none⟩ y1).setCell ⟨w.heap.size, 1, none⟩ y2).setCell ⟨w.heap.size, 2, none⟩ y3) := by
  obtain ⟨⟨x1, x2, x3, P, _⟩, Q, fr, bel, sz⟩ := h
  have P1 := (((P.step hb).set 0 (by simp [rgC]) y1).set 1 (by simp [rgC]) y2).set 2 (by simp [rgC]) y3
  have hz := set3_size wf w.heap.size y1 y2 y3
  have nP : ¬ (fun b => F b ∨ (w.heap.size + 2 ≤ b ∧ b < wf.heap.size)) w.heap.size := by
    rintro (g | g)
    · have := hF _ g; omega
    · omega
  have hbs := hb.size
  refine ⟨⟨y1, y2, y3, P1, ?_⟩, ?_, ?_, ?_, by omega⟩
  · rw [hz, ← he]
    exact ((hd.set nP 0 y1).set nP 1 y2).set nP 2 y3
  · exact (((Q.step hb).other (by omega) 0 y1).other (by omega) 1 y2).other (by omega) 2 y3
  · exact S.own_set (S.own_set (S.own_set (S.own_below fr hb) (by omega) 0 y1) (by omega) 1 y2) (by omega) 2 y3
  · exact (((bel.trans (hb.mono bel.size)).setCell (p := ⟨w.heap.size, 0, none⟩) (Nat.le_refl _) y1).setCell (p := ⟨w.heap.size, 1, none⟩) (Nat.le_refl _) y2).setCell (p := ⟨w.heap.size, 2, none⟩) (Nat.le_refl _) y3

theorem told_ok {r : G.Rg} {rec : List UInt8} (h : r.err rec = 0) : r.told rec = r.next + R.many rec.length := by rw [G.Rg.told, if_pos h]
theorem told_no {r : G.Rg} {rec : List UInt8} (h : r.err rec ≠ 0) : r.told rec = 0 := by rw [G.Rg.told, if_neg h]
theorem append_ok {r : G.Rg} {rec : List UInt8} (h : r.err rec = 0) : r.append rec = r.put rec := by rw [G.Rg.append, if_pos h]
theorem append_no {r : G.Rg} {rec : List UInt8} (h : r.err rec ≠ 0) : r.append rec = r := by rw [G.Rg.append, if_neg h]

end Go.Proofs.Ytnjhbmjhldfdpaa
