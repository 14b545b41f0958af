/-
  The landed ring: what the type means; its small calls; a new one.
-/
import Derived.Test.YtfpojbnidoeohaaRgRef3
import Derived.Deep.QuietTactic
import Derived.BigQuiet
namespace Go.Proofs.Ytfpojbnidoeohaa
open Go.RowKit

theorem below_drewN {B : Nat} {w w' : World} (h : Below B w w') (n : Nat) : Below B w (w'.drewN n) := ⟨h.os, h.tape, h.output, h.size, h.block⟩

/-- the cells of the landed ring -/
def rpC (vd : Value) (r : G.Rg) : List Value := [.int .i64 (r.first : Int), .int .i64 (r.many : Int), .int .u32 (r.epoch : Int), vd, .int .u32 (r.low : Int), .int .u32 (r.next : Int)]

/-- the pointer v holds the ring r, its disk vd's, in blocks of which F holds; Fd: the disk's own -/
structure Rp (H : World → (Nat → Prop) → Value → D.Dk → Prop) (w : World) (F : Nat → Prop) (v vd : Value) (r : G.Rg) : Prop where
  num : RgNum r
  may : r.May
  lt : ∀ b, F b → b < w.heap.size
  ex : ∃ p Fd, v = .pointer (some ⟨p, 0, none⟩) ∧ Bk w p (rpC vd r) ∧ F p ∧ ¬ Fd p ∧ (∀ b, Fd b → F b) ∧ H w Fd vd r.d

section
variable {H : World → (Nat → Prop) → Value → D.Dk → Prop} {w w' : World} {F G' : Nat → Prop} {v vd : Value} {r : G.Rg}

theorem Rp.keep (K : DiskOk H) (h : Rp H w F v vd r) (hk : ∀ b, F b → w'.heap[b]? = w.heap[b]?) (hs : w.heap.size ≤ w'.heap.size) : Rp H w' F v vd r := by
  obtain ⟨hn, hm, hl, p, Fd, rfl, hp, h1, h2, h3, h4⟩ := h
  exact ⟨hn, hm, fun b g => Nat.lt_of_lt_of_le (hl b g) hs, p, Fd, rfl, hp.keep (hk p h1) hs, h1, h2, h3, K.keep h4 (fun b g => hk b (h3 b g)) hs⟩
theorem Rp.below (K : DiskOk H) (h : Rp H w F v vd r) (hb : Below w.heap.size w w') : Rp H w' F v vd r := h.keep K (fun b g => hb.block b (h.lt b g)) hb.size
theorem Rp.turn (K : DiskOk H) (h : Rp H w F v vd r) (ht : Turn G' w w') (hd : ∀ b, F b → ¬ G' b) : Rp H w' F v vd r := h.keep K (fun b g => ht.block b (h.lt b g) (hd b g)) ht.size
theorem Rp.ptr (h : Rp H w F v vd r) : ∃ a : Addr, v = .pointer (some a) := by
  obtain ⟨_, _, _, p, _, rfl, _⟩ := h
  exact ⟨_, rfl⟩
theorem Rp.disk (h : Rp H w F v vd r) : ∃ Fd, (∀ b, Fd b → F b) ∧ H w Fd vd r.d := by
  obtain ⟨_, _, _, p, Fd, _, _, _, _, h3, h4⟩ := h
  exact ⟨Fd, h3, h4⟩
theorem Rp.dptr (K : DiskOk H) (h : Rp H w F v vd r) : ∃ a : Addr, vd = .pointer (some a) := by
  obtain ⟨Fd, _, h4⟩ := h.disk
  exact K.ptr h4
/-- the disk turned, by itself -/
theorem Rp.swap (h : Rp H w F v vd r) {d' : D.Dk} (hd' : d'.secs.length = r.d.secs.length) (hsz : w.heap.size ≤ w'.heap.size)
    (hx : ∀ Fd, H w Fd vd r.d → H w' (More Fd w w') vd d' ∧ Turn Fd w w') : Rp H w' (More F w w') v vd { r with d := d' } ∧ Turn F w w' := by
  obtain ⟨hn, hm, hl, p, Fd, rfl, hp, h1, h2, h3, h4⟩ := h
  obtain ⟨a1, a2⟩ := hx Fd h4
  have hpl := hl p h1
  refine ⟨⟨⟨hn.e, hn.l, hn.n, hn.f, hn.m1, hn.m⟩, ⟨hm.m1, by show _ ≤ d'.secs.length; rw [hd']; exact hm.fits, hm.ln, hm.nl, hm.top⟩, ?_, p, More Fd w w', rfl, hp.turn a2 h2, Or.inl h1, ?_, ?_, a1⟩, ⟨a2.os, a2.tape, a2.output, a2.size, fun k hk hF => a2.block k hk (fun g => hF (h3 k g))⟩⟩
  · rintro b (g | g)
    · exact Nat.lt_of_lt_of_le (hl b g) hsz
    · exact g.2
  · rintro (g | g)
    · exact h2 g
    · have := g.1; omega
  · rintro b (g | g)
    · exact Or.inl (h3 b g)
    · exact Or.inr g
end

section
variable {H : World → (Nat → Prop) → Value → D.Dk → Prop} {w : World} {F : Nat → Prop} {v vd : Value} {r : G.Rg}

set_option maxRecDepth 100000 in
theorem ring_low (h : Rp H w F v vd r) : Calls Try.prog 16 #[v] w fun e w' => e = .returned (.int .u32 (r.low : Int)) ∧ Below w.heap.size w w' := by
  obtain ⟨hn, hm, hl, p, Fd, rfl, hp, _⟩ := h
  have c4 := hp.cell 4 _ rfl
  clear hp hm hl
  go_enter Try.func16, Try.ntmps16
  go_wp2
  go_ret
  exact ⟨rfl, Below.refl _ _⟩

set_option maxRecDepth 100000 in
theorem ring_next (h : Rp H w F v vd r) : Calls Try.prog 17 #[v] w fun e w' => e = .returned (.int .u32 (r.next : Int)) ∧ Below w.heap.size w w' := by
  obtain ⟨hn, hm, hl, p, Fd, rfl, hp, _⟩ := h
  have c5 := hp.cell 5 _ rfl
  clear hp hm hl
  go_enter Try.func17, Try.ntmps17
  go_wp2
  go_ret
  exact ⟨rfl, Below.refl _ _⟩

set_option maxRecDepth 100000 in
set_option maxHeartbeats 1000000 in
theorem ring_free (h : Rp H w F v vd r) : Calls Try.prog 18 #[v] w fun e w' => e = .returned (.int .i64 (r.free : Nat)) ∧ Below w.heap.size w w' := by
  obtain ⟨hn, hm, hl, p, Fd, rfl, hp, _⟩ := h
  have c1 : w.cell? ⟨p, 1, none⟩ = some (.int .i64 (r.many : Int)) := hp.cell 1 _ rfl
  have c4 : w.cell? ⟨p, 4, none⟩ = some (.int .u32 (r.low : Int)) := hp.cell 4 _ rfl
  have c5 : w.cell? ⟨p, 5, none⟩ = some (.int .u32 (r.next : Int)) := hp.cell 5 _ rfl
  have a1 := hm.ln
  have a2 := hm.nl
  have a3 := hn.n
  have a4 := hn.m
  have HR : Hid ((r.many : Int) - ((r.next : Int) - (r.low : Int)) = ((r.free : Nat) : Int)) := Lib.hid (by unfold G.Rg.free; omega)
  have b1 : (r.low : Int) ≤ (r.next : Int) := by omega
  clear hp hl hm hn
  go_enter Try.func18, Try.ntmps18
  go_wp2_with fail
  go_quiet (fail)
  go_wp2
  go_ret
  exact ⟨ret_v (by rw [← HR.out]; rfl), below_drewN (Below.refl _ _) _⟩

set_option maxRecDepth 100000 in
set_option maxHeartbeats 1000000 in
theorem ring_at (first many epoch seq : Nat) (w : World) (hf : first ≤ 1024) (h1 : 1 ≤ many) (hm : many ≤ 1024) (hs : seq < 4294967296) :
    Calls Try.prog 24 #[.agg #[.int .i64 (first : Int), .int .i64 (many : Int), .int .u32 (epoch : Int)], .int .u32 (seq : Int)] w fun e w' => e = .returned (.int .i64 (G.at_ first many seq : Nat)) ∧ Below w.heap.size w w' := by
  have hlt := Nat.mod_lt seq (show many > 0 by omega)
  obtain ⟨q, hq⟩ : ∃ q, q = seq % many := ⟨_, rfl⟩
  have hq' : (seq : Int) % (many : Int) = (q : Int) := by rw [hq]; omega
  have hne : ¬ (many : Int) = 0 := by omega
  have hn1 : ¬ (many : Int) < 1 := by omega
  have HR : Hid (((first : Int) + (q : Int)) = ((G.at_ first many seq : Nat) : Int)) := Lib.hid (by unfold G.at_; omega)
  have hql : q ≤ 1024 := by omega
  have hb : Below w.heap.size w (w.alloc (.cells #[.int .i64 (first : Int), .int .i64 (many : Int), .int .u32 (epoch : Int)] 24)) := (Below.refl _ _).alloc (Nat.le_refl _) _
  clear hq hlt
  go_enter Try.func24, Try.ntmps24
  go_wp2_with fail
  go_quiet (fail)
  go_wp2
  go_ret
  exact ⟨ret_v (by rw [← HR.out]; rfl), below_drewN hb _⟩

set_option maxRecDepth 100000 in
theorem ring_at_none (first epoch seq : Nat) (w : World) :
    Calls Try.prog 24 #[.agg #[.int .i64 (first : Int), .int .i64 0, .int .u32 (epoch : Int)], .int .u32 (seq : Int)] w fun e w' => e = .returned (.int .i64 (-1)) ∧ Below w.heap.size w w' := by
  have hb : Below w.heap.size w (w.alloc (.cells #[.int .i64 (first : Int), .int .i64 0, .int .u32 (epoch : Int)] 24)) := (Below.refl _ _).alloc (Nat.le_refl _) _
  go_enter Try.func24, Try.ntmps24
  go_wp2
  go_ret
  exact ⟨rfl, hb⟩

theorem rpC_low (vd : Value) (r : G.Rg) (low : Nat) : (rpC vd r).set 4 (.int .u32 (low : Int)) = rpC vd { r with low := low } := rfl

set_option maxRecDepth 100000 in
set_option maxHeartbeats 1000000 in
theorem ring_trunc (K : DiskOk H) (h : Rp H w F v vd r) (low : Nat) (hlow : low < 4294967296) : Calls Try.prog 28 #[v, .int .u32 (low : Int)] w fun e w' => e = .returned (.tuple #[]) ∧ Rp H w' F v vd (r.trunc low) ∧ Turn F w w' := by
  have HH := Lib.hid h
  obtain ⟨hn, hm, hl, p, Fd, rfl, hp, h1, h2, h3, h4⟩ := h
  have c4 : w.cell? ⟨p, 4, none⟩ = some (.int .u32 (r.low : Int)) := hp.cell 4 _ rfl
  have c5 : w.cell? ⟨p, 5, none⟩ = some (.int .u32 (r.next : Int)) := hp.cell 5 _ rfl
  have f4 := hp.fz 4 (by simp [rpC])
  have hsz : (w.setCell ⟨p, 4, none⟩ (.int .u32 (low : Int))).heap.size = w.heap.size := by simp [World.setCell]
  have HP := Lib.hid (hp.set 4 (by simp [rpC]) (.int .u32 (low : Int)))
  have HF1 := Lib.hid h1
  have HF2 := Lib.hid h2
  have HF3 := Lib.hid h3
  have HD := Lib.hid (K.set h4 h2 4 (.int .u32 (low : Int)))
  have HM := Lib.hid hm
  have HN := Lib.hid hn
  have HSZ := Lib.hid hsz
  clear hp hm hn h1 h2 h3 h4 hsz
  by_cases hc1 : r.low < low
  · have hc1' : (r.low : Int) < (low : Int) := by omega
    by_cases hc2 : low ≤ r.next
    · have hc2' : (low : Int) ≤ (r.next : Int) := by omega
      have HT := Lib.hid (show r.trunc low = { r with low := low } by rw [G.Rg.trunc, if_pos ⟨hc1, hc2⟩])
      have HM2 := Lib.hid (HM.out.trunc low)
      clear hc1 hc2
      go_enter Try.func28, Try.ntmps28
      go_wp2
      go_end0
      refine ⟨rfl, ?_, (Turn.refl F w).put HF1.out 4 _⟩
      refine ⟨by rw [HT.out]; exact ⟨HN.out.e, hlow, HN.out.n, HN.out.f, HN.out.m1, HN.out.m⟩, HM2.out, fun b g => by rw [HSZ.out]; exact hl b g, p, Fd, rfl, ?_, HF1.out, HF2.out, HF3.out, ?_⟩
      · rw [HT.out, ← rpC_low]; exact HP.out
      · rw [HT.out]; exact HD.out
    · have hc2' : ¬ (low : Int) ≤ (r.next : Int) := by omega
      have HT := Lib.hid (show r.trunc low = r by rw [G.Rg.trunc, if_neg (fun g => hc2 g.2)])
      clear hc1 hc2
      go_enter Try.func28, Try.ntmps28
      go_wp2
      go_end0
      exact ⟨rfl, by rw [HT.out]; exact HH.out, Turn.refl _ _⟩
  · have hc1' : ¬ (r.low : Int) < (low : Int) := by omega
    have HT := Lib.hid (show r.trunc low = r by rw [G.Rg.trunc, if_neg (fun g => hc1 g.1)])
    clear hc1
    go_enter Try.func28, Try.ntmps28
    go_wp2
    go_end0
    exact ⟨rfl, by rw [HT.out]; exact HH.out, Turn.refl _ _⟩

/-- does a place fit on a disk of n sectors? -/
def fitsB (n : Nat) (first many : Int) : Bool := decide (0 ≤ first ∧ 1 ≤ many ∧ first + many ≤ n)

set_option maxRecDepth 100000 in
set_option maxHeartbeats 1000000 in
theorem ring_fits (first many : Int) (epoch n : Nat) (w : World) (hn : n ≤ 1024) (hf0 : -9223372036854775808 ≤ first) (hf1 : first ≤ 9223372036854775807) (hm0 : -9223372036854775808 ≤ many) (hm1 : many ≤ 9223372036854775807) :
    Calls Try.prog 30 #[.agg #[.int .i64 first, .int .i64 many, .int .u32 (epoch : Int)], .int .i64 (n : Int)] w fun e w' => e = .returned (.bool (fitsB n first many)) ∧ Below w.heap.size w w' := by
  have hb : Below w.heap.size w (w.alloc (.cells #[.int .i64 first, .int .i64 many, .int .u32 (epoch : Int)] 24)) := (Below.refl _ _).alloc (Nat.le_refl _) _
  by_cases h1 : 0 ≤ first
  · by_cases h2 : 1 ≤ many
    · have HR := Lib.hid (show fitsB n first many = decide (first ≤ (n : Int) - many) by unfold fitsB; rw [decide_eq_decide]; omega)
      go_enter Try.func30, Try.ntmps30
      go_wp2
      go_ret
      exact ⟨ret_v (by rw [HR.out]; rfl), hb⟩
    · have HR := Lib.hid (show fitsB n first many = false from decide_eq_false (by omega))
      go_enter Try.func30, Try.ntmps30
      go_wp2
      go_ret
      exact ⟨ret_v (by rw [HR.out]; rfl), hb⟩
  · have HR := Lib.hid (show fitsB n first many = false from decide_eq_false (by omega))
    go_enter Try.func30, Try.ntmps30
    go_wp2
    go_ret
    exact ⟨ret_v (by rw [HR.out]; rfl), hb⟩

end
end Go.Proofs.Ytfpojbnidoeohaa
