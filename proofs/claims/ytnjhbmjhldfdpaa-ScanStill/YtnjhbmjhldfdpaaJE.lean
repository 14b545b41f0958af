/-
  The landed ring: what the type means; its small calls; a new one.
  The landed ring: a new one; one that is nil.
  The landed ring: a record appended.
-/
import Derived.Test.YtnjhbmjhldfdpaaJD
import Derived.Deep.QuietTactic
import Derived.BigQuiet
namespace Go.Proofs.Ytnjhbmjhldfdpaa
open Go.RowKit

theorem below_drewN {B : Nat} {w w' : World} (h : Below B w w') (n : Nat) : Below B w (w'.drewN n) := ⟨h.os, h.tape, h.output, h.size, h.block⟩

/-- the cells of the landed ring -/
def rpC (vd : Value) (r : G.Rg) : List Value := [.int .i64 (r.first : Int), .int .i64 (r.many : Int), .int .u32 (r.epoch : Int), vd, .int .u32 (r.low : Int), .int .u32 (r.next : Int)]

/-- the pointer v holds the ring r, its disk vd's, in blocks of which F holds; Fd: the disk's own -/
structure Rp (H : World → (Nat → Prop) → Value → D.Dk → Prop) (w : World) (F : Nat → Prop) (v vd : Value) (r : G.Rg) : Prop where
  num : RgNum r
  may : r.May
  lt : ∀ b, F b → b < w.heap.size
  ex : ∃ p Fd, v = .pointer (some ⟨p, 0, none⟩) ∧ Bk w p (rpC vd r) ∧ F p ∧ ¬ Fd p ∧ (∀ b, Fd b → F b) ∧ H w Fd vd r.d

section
variable {H : World → (Nat → Prop) → Value → D.Dk → Prop} {w w' : World} {F G' : Nat → Prop} {v vd : Value} {r : G.Rg}

theorem Rp.keep (K : DiskOk H) (h : Rp H w F v vd r) (hk : ∀ b, F b → w'.heap[b]? = w.heap[b]?) (hs : w.heap.size ≤ w'.heap.size) : Rp H w' F v vd r := by
  obtain ⟨hn, hm, hl, p, Fd, rfl, hp, h1, h2, h3, h4⟩ := h
  exact ⟨hn, hm, fun b g => Nat.lt_of_lt_of_le (hl b g) hs, p, Fd, rfl, hp.keep (hk p h1) hs, h1, h2, h3, K.keep h4 (fun b g => hk b (h3 b g)) hs⟩
theorem Rp.below (K : DiskOk H) (h : Rp H w F v vd r) (hb : Below w.heap.size w w') : Rp H w' F v vd r := h.keep K (fun b g => hb.block b (h.lt b g)) hb.size
theorem Rp.turn (K : DiskOk H) (h : Rp H w F v vd r) (ht : Turn G' w w') (hd : ∀ b, F b → ¬ G' b) : Rp H w' F v vd r := h.keep K (fun b g => ht.block b (h.lt b g) (hd b g)) ht.size
theorem Rp.ptr (h : Rp H w F v vd r) : ∃ a : Addr, v = .pointer (some a) := by
  obtain ⟨_, _, _, p, _, rfl, _⟩ := h
  exact ⟨_, rfl⟩
theorem Rp.disk (h : Rp H w F v vd r) : ∃ Fd, (∀ b, Fd b → F b) ∧ H w Fd vd r.d := by
  obtain ⟨_, _, _, p, Fd, _, _, _, _, h3, h4⟩ := h
  exact ⟨Fd, h3, h4⟩
theorem Rp.dptr (K : DiskOk H) (h : Rp H w F v vd r) : ∃ a : Addr, vd = .pointer (some a) := by
  obtain ⟨Fd, _, h4⟩ := h.disk
  exact K.ptr h4
/-- the disk turned, by itself -/
theorem Rp.swap (h : Rp H w F v vd r) {d' : D.Dk} (hd' : d'.secs.length = r.d.secs.length) (hsz : w.heap.size ≤ w'.heap.size)
    (hx : ∀ Fd, H w Fd vd r.d → H w' (More Fd w w') vd d' ∧ Turn Fd w w') : Rp H w' (More F w w') v vd { r with d := d' } ∧ Turn F w w' := by
  obtain ⟨hn, hm, hl, p, Fd, rfl, hp, h1, h2, h3, h4⟩ := h
  obtain ⟨a1, a2⟩ := hx Fd h4
  have hpl := hl p h1
  refine ⟨⟨⟨hn.e, hn.l, hn.n, hn.f, hn.m1, hn.m⟩, ⟨hm.m1, by show _ ≤ d'.secs.length; rw [hd']; exact hm.fits, hm.ln, hm.nl, hm.top⟩, ?_, p, More Fd w w', rfl, hp.turn a2 h2, Or.inl h1, ?_, ?_, a1⟩, ⟨a2.os, a2.tape, a2.output, a2.size, fun k hk hF => a2.block k hk (fun g => hF (h3 k g))⟩⟩
  · rintro b (g | g)
    · exact Nat.lt_of_lt_of_le (hl b g) hsz
    · exact g.2
  · rintro (g | g)
    · exact h2 g
    · have := g.1; omega
  · rintro b (g | g)
    · exact Or.inl (h3 b g)
    · exact Or.inr g
end

section
variable {H : World → (Nat → Prop) → Value → D.Dk → Prop} {w : World} {F : Nat → Prop} {v vd : Value} {r : G.Rg}

set_option maxRecDepth 100000 in
theorem ring_low (h : Rp H w F v vd r) : Calls Try.prog 19 #[v] w fun e w' => e = .returned (.int .u32 (r.low : Int)) ∧ Below w.heap.size w w' := by
  obtain ⟨hn, hm, hl, p, Fd, rfl, hp, _⟩ := h
  have c4 := hp.cell 4 _ rfl
  clear hp hm hl
  go_enter Try.func19, Try.ntmps19
  go_wp2
  go_ret
  exact ⟨rfl, Below.refl _ _⟩

set_option maxRecDepth 100000 in
theorem ring_next (h : Rp H w F v vd r) : Calls Try.prog 21 #[v] w fun e w' => e = .returned (.int .u32 (r.next : Int)) ∧ Below w.heap.size w w' := by
  obtain ⟨hn, hm, hl, p, Fd, rfl, hp, _⟩ := h
  have c5 := hp.cell 5 _ rfl
  clear hp hm hl
  go_enter Try.func21, Try.ntmps21
  go_wp2
  go_ret
  exact ⟨rfl, Below.refl _ _⟩

set_option maxRecDepth 100000 in
set_option maxHeartbeats 1000000 in
theorem ring_free (h : Rp H w F v vd r) : Calls Try.prog 40 #[v] w fun e w' => e = .returned (.int .i64 (r.free : Nat)) ∧ Below w.heap.size w w' := by
  obtain ⟨hn, hm, hl, p, Fd, rfl, hp, _⟩ := h
  have c1 : w.cell? ⟨p, 1, none⟩ = some (.int .i64 (r.many : Int)) := hp.cell 1 _ rfl
  have c4 : w.cell? ⟨p, 4, none⟩ = some (.int .u32 (r.low : Int)) := hp.cell 4 _ rfl
  have c5 : w.cell? ⟨p, 5, none⟩ = some (.int .u32 (r.next : Int)) := hp.cell 5 _ rfl
  have a1 := hm.ln
  have a2 := hm.nl
  have a3 := hn.n
  have a4 := hn.m
  have HR : Hid ((r.many : Int) - ((r.next : Int) - (r.low : Int)) = ((r.free : Nat) : Int)) := Lib.hid (by unfold G.Rg.free; omega)
  have b1 : (r.low : Int) ≤ (r.next : Int) := by omega
  clear hp hl hm hn
  go_enter Try.func40, Try.ntmps40
  go_wp2_with fail
  go_quiet (fail)
  go_wp2
  go_ret
  exact ⟨ret_v (by rw [← HR.out]; rfl), below_drewN (Below.refl _ _) _⟩

set_option maxRecDepth 100000 in
set_option maxHeartbeats 1000000 in
theorem ring_at (first many epoch seq : Nat) (w : World) (hf : first ≤ 1024) (h1 : 1 ≤ many) (hm : many ≤ 1024) (hs : seq < 4294967296) :
    Calls Try.prog 42 #[.agg #[.int .i64 (first : Int), .int .i64 (many : Int), .int .u32 (epoch : Int)], .int .u32 (seq : Int)] w fun e w' => e = .returned (.int .i64 (G.at_ first many seq : Nat)) ∧ Below w.heap.size w w' := by
  have hlt := Nat.mod_lt seq (show many > 0 by omega)
  obtain ⟨q, hq⟩ : ∃ q, q = seq % many := ⟨_, rfl⟩
  have hq' : (seq : Int) % (many : Int) = (q : Int) := by rw [hq]; omega
  have hne : ¬ (many : Int) = 0 := by omega
  have hn1 : ¬ (many : Int) < 1 := by omega
  have HR : Hid (((first : Int) + (q : Int)) = ((G.at_ first many seq : Nat) : Int)) := Lib.hid (by unfold G.at_; omega)
  have hql : q ≤ 1024 := by omega
  have hb : Below w.heap.size w (w.alloc (.cells #[.int .i64 (first : Int), .int .i64 (many : Int), .int .u32 (epoch : Int)] 25)) := (Below.refl _ _).alloc (Nat.le_refl _) _
  clear hq hlt
  go_enter Try.func42, Try.ntmps42
  go_wp2_with fail
  go_quiet (fail)
  go_wp2
  go_ret
  exact ⟨ret_v (by rw [← HR.out]; rfl), below_drewN hb _⟩

set_option maxRecDepth 100000 in
theorem ring_at_none (first epoch seq : Nat) (w : World) :
    Calls Try.prog 42 #[.agg #[.int .i64 (first : Int), .int .i64 0, .int .u32 (epoch : Int)], .int .u32 (seq : Int)] w fun e w' => e = .returned (.int .i64 (-1)) ∧ Below w.heap.size w w' := by
  have hb : Below w.heap.size w (w.alloc (.cells #[.int .i64 (first : Int), .int .i64 0, .int .u32 (epoch : Int)] 25)) := (Below.refl _ _).alloc (Nat.le_refl _) _
  go_enter Try.func42, Try.ntmps42
  go_wp2
  go_ret
  exact ⟨rfl, hb⟩

theorem rpC_low (vd : Value) (r : G.Rg) (low : Nat) : (rpC vd r).set 4 (.int .u32 (low : Int)) = rpC vd { r with low := low } := rfl

set_option maxRecDepth 100000 in
set_option maxHeartbeats 1000000 in
theorem ring_trunc (K : DiskOk H) (h : Rp H w F v vd r) (low : Nat) (hlow : low < 4294967296) : Calls Try.prog 51 #[v, .int .u32 (low : Int)] w fun e w' => e = .returned (.tuple #[]) ∧ Rp H w' F v vd (r.trunc low) ∧ Turn F w w' := by
  have HH := Lib.hid h
  obtain ⟨hn, hm, hl, p, Fd, rfl, hp, h1, h2, h3, h4⟩ := h
  have c4 : w.cell? ⟨p, 4, none⟩ = some (.int .u32 (r.low : Int)) := hp.cell 4 _ rfl
  have c5 : w.cell? ⟨p, 5, none⟩ = some (.int .u32 (r.next : Int)) := hp.cell 5 _ rfl
  have f4 := hp.fz 4 (by simp [rpC])
  have hsz : (w.setCell ⟨p, 4, none⟩ (.int .u32 (low : Int))).heap.size = w.heap.size := by simp [World.setCell]
  have HP := Lib.hid (hp.set 4 (by simp [rpC]) (.int .u32 (low : Int)))
  have HF1 := Lib.hid h1
  have HF2 := Lib.hid h2
  have HF3 := Lib.hid h3
  have HD := Lib.hid (K.set h4 h2 4 (.int .u32 (low : Int)))
  have HM := Lib.hid hm
  have HN := Lib.hid hn
  have HSZ := Lib.hid hsz
  clear hp hm hn h1 h2 h3 h4 hsz
  by_cases hc1 : r.low < low
  · have hc1' : (r.low : Int) < (low : Int) := by omega
    by_cases hc2 : low ≤ r.next
    · have hc2' : (low : Int) ≤ (r.next : Int) := by omega
      have HT := Lib.hid (show r.trunc low = { r with low := low } by rw [G.Rg.trunc, if_pos ⟨hc1, hc2⟩])
      have HM2 := Lib.hid (HM.out.trunc low)
      clear hc1 hc2
      go_enter Try.func51, Try.ntmps51
      go_wp2
      go_end0
      refine ⟨rfl, ?_, (Turn.refl F w).put HF1.out 4 _⟩
      refine ⟨by rw [HT.out]; exact ⟨HN.out.e, hlow, HN.out.n, HN.out.f, HN.out.m1, HN.out.m⟩, HM2.out, fun b g => by rw [HSZ.out]; exact hl b g, p, Fd, rfl, ?_, HF1.out, HF2.out, HF3.out, ?_⟩
      · rw [HT.out, ← rpC_low]; exact HP.out
      · rw [HT.out]; exact HD.out
    · have hc2' : ¬ (low : Int) ≤ (r.next : Int) := by omega
      have HT := Lib.hid (show r.trunc low = r by rw [G.Rg.trunc, if_neg (fun g => hc2 g.2)])
      clear hc1 hc2
      go_enter Try.func51, Try.ntmps51
      go_wp2
      go_end0
      exact ⟨rfl, by rw [HT.out]; exact HH.out, Turn.refl _ _⟩
  · have hc1' : ¬ (r.low : Int) < (low : Int) := by omega
    have HT := Lib.hid (show r.trunc low = r by rw [G.Rg.trunc, if_neg (fun g => hc1 g.1)])
    clear hc1
    go_enter Try.func51, Try.ntmps51
    go_wp2
    go_end0
    exact ⟨rfl, by rw [HT.out]; exact HH.out, Turn.refl _ _⟩

/-- does a place fit on a disk of n sectors? -/
def fitsB (n : Nat) (first many : Int) : Bool := decide (0 ≤ first ∧ 1 ≤ many ∧ first + many ≤ n)

set_option maxRecDepth 100000 in
set_option maxHeartbeats 1000000 in
theorem ring_fits (first many : Int) (epoch n : Nat) (w : World) (hn : n ≤ 1024) (hf0 : -9223372036854775808 ≤ first) (hf1 : first ≤ 9223372036854775807) (hm0 : -9223372036854775808 ≤ many) (hm1 : many ≤ 9223372036854775807) :
    Calls Try.prog 46 #[.agg #[.int .i64 first, .int .i64 many, .int .u32 (epoch : Int)], .int .i64 (n : Int)] w fun e w' => e = .returned (.bool (fitsB n first many)) ∧ Below w.heap.size w w' := by
  have hb : Below w.heap.size w (w.alloc (.cells #[.int .i64 first, .int .i64 many, .int .u32 (epoch : Int)] 25)) := (Below.refl _ _).alloc (Nat.le_refl _) _
  by_cases h1 : 0 ≤ first
  · by_cases h2 : 1 ≤ many
    · have HR := Lib.hid (show fitsB n first many = decide (first ≤ (n : Int) - many) by unfold fitsB; rw [decide_eq_decide]; omega)
      go_enter Try.func46, Try.ntmps46
      go_wp2
      go_ret
      exact ⟨ret_v (by rw [HR.out]; rfl), hb⟩
    · have HR := Lib.hid (show fitsB n first many = false from decide_eq_false (by omega))
      go_enter Try.func46, Try.ntmps46
      go_wp2
      go_ret
      exact ⟨ret_v (by rw [HR.out]; rfl), hb⟩
  · have HR := Lib.hid (show fitsB n first many = false from decide_eq_false (by omega))
    go_enter Try.func46, Try.ntmps46
    go_wp2
    go_ret
    exact ⟨ret_v (by rw [HR.out]; rfl), hb⟩

end
end Go.Proofs.Ytnjhbmjhldfdpaa

namespace Go.Proofs.Ytnjhbmjhldfdpaa
open Go.RowKit

section
variable {H : World → (Nat → Prop) → Value → D.Dk → Prop} {w : World} {F : Nat → Prop} {v vd : Value} {r : G.Rg} {d : D.Dk}

theorem mayB_fits {n : Nat} {first many : Int} {low next : Nat} : mayB n first many low next = (fitsB n first many && decide (low ≤ next ∧ (next : Int) ≤ low + many ∧ next ≤ 1073741824)) := by
  unfold mayB fitsB
  rw [← Bool.decide_and, decide_eq_decide]
  omega

set_option maxRecDepth 100000 in
set_option maxHeartbeats 2000000 in
theorem ring_new (K : DiskOk H) (h : H w F vd d) (first many : Int) (epoch low next : Nat) (hf0 : -9223372036854775808 ≤ first) (hf1 : first ≤ 9223372036854775807) (hm0 : -9223372036854775808 ≤ many) (hm1 : many ≤ 9223372036854775807) (he : epoch < 4294967296) (hl : low < 4294967296) (hx : next < 4294967296) :
    Calls Try.prog 30 #[vd, .agg #[.int .i64 first, .int .i64 many, .int .u32 (epoch : Int)], .int .u32 (low : Int), .int .u32 (next : Int)] w fun e w' =>
      Below w.heap.size w w' ∧ ((mayB d.secs.length first many low next = false ∧ e = .returned (.pointer none)) ∨ (mayB d.secs.length first many low next = true ∧ ∃ v, e = .returned v ∧ Rp H w' (More F w w') v vd ⟨d, first.toNat, many.toNat, epoch, low, next⟩)) := by
  have HH := Lib.hid h
  have hd1024 := (K.fit h).2.2
  have HLT := Lib.hid (K.lt h)
  obtain ⟨va, rfl⟩ := K.ptr h
  clear h
  have P0 := Bk.new w [.int .i64 first, .int .i64 many, .int .u32 (epoch : Int)] 25 rfl
  have hb0 : Below w.heap.size w (w.alloc (.cells #[.int .i64 first, .int .i64 many, .int .u32 (epoch : Int)] 25)) := (Below.refl _ _).alloc (Nat.le_refl _) _
  have hz0 : w.heap.size < (w.alloc (.cells #[.int .i64 first, .int .i64 many, .int .u32 (epoch : Int)] 25)).heap.size := by simp
  obtain ⟨n, hn⟩ : ∃ n, n = d.secs.length := ⟨_, rfl⟩
  rw [← hn] at hd1024
  have HN := Lib.hid hn
  rw [← hn]
  clear hn
  go_enter Try.func30, Try.ntmps30
  go_wp2_with fail
  generalize w.alloc (.cells #[.int .i64 first, .int .i64 many, .int .u32 (epoch : Int)] 25) = w0 at *
  have HP0 := Lib.hid P0
  have HK : Hid (∀ w', Below w0.heap.size w0 w' → w'.cell? ⟨w.heap.size, 0, none⟩ = some (.int .i64 first) ∧ w'.cell? ⟨w.heap.size, 1, none⟩ = some (.int .i64 many) ∧ w'.cell? ⟨w.heap.size, 2, none⟩ = some (.int .u32 (epoch : Int)) ∧ Below w0.heap.size w0 w') :=
    Lib.hid fun w' hb => ⟨(HP0.out.step hb).cell 0 _ rfl, (HP0.out.step hb).cell 1 _ rfl, (HP0.out.step hb).cell 2 _ rfl, hb⟩
  generalize hpe : w.heap.size = p at *
  have HB0 : Hid (Below w.heap.size w w0) := Lib.hid (by rw [hpe]; exact hb0)
  clear hpe
  have HL : Hid (∀ w', (w'.cell? ⟨p, 0, none⟩ = some (.int .i64 first) ∧ w'.cell? ⟨p, 1, none⟩ = some (.int .i64 many) ∧ w'.cell? ⟨p, 2, none⟩ = some (.int .u32 (epoch : Int)) ∧ Below w0.heap.size w0 w') → Calls Try.prog 47 #[.pointer (some va)] w' fun e w'' => e = .returned (.int .i64 (n : Int)) ∧ (w''.cell? ⟨p, 0, none⟩ = some (.int .i64 first) ∧ w''.cell? ⟨p, 1, none⟩ = some (.int .i64 many) ∧ w''.cell? ⟨p, 2, none⟩ = some (.int .u32 (epoch : Int)) ∧ Below w0.heap.size w0 w'')) :=
    Lib.hid fun w' hS => (K.len (K.below (K.below HH.out HB0.out) hS.2.2.2)).mono (fun e w'' ⟨he, hb⟩ => ⟨by rw [HN.out]; exact he, HK.out _ (hS.2.2.2.trans (hb.mono hS.2.2.2.size))⟩)
  have HFt : Hid (∀ w', (w'.cell? ⟨p, 0, none⟩ = some (.int .i64 first) ∧ w'.cell? ⟨p, 1, none⟩ = some (.int .i64 many) ∧ w'.cell? ⟨p, 2, none⟩ = some (.int .u32 (epoch : Int)) ∧ Below w0.heap.size w0 w') → Calls Try.prog 46 #[.agg #[.int .i64 first, .int .i64 many, .int .u32 (epoch : Int)], .int .i64 (n : Int)] w' fun e w'' => e = .returned (.bool (fitsB n first many)) ∧ (w''.cell? ⟨p, 0, none⟩ = some (.int .i64 first) ∧ w''.cell? ⟨p, 1, none⟩ = some (.int .i64 many) ∧ w''.cell? ⟨p, 2, none⟩ = some (.int .u32 (epoch : Int)) ∧ Below w0.heap.size w0 w'')) :=
    Lib.hid fun w' hS => (ring_fits first many epoch n w' hd1024 hf0 hf1 hm0 hm1).mono (fun e w'' ⟨he, hb⟩ => ⟨he, HK.out _ (hS.2.2.2.trans (hb.mono hS.2.2.2.size))⟩)
  have hbd : Below w0.heap.size w0 w0.drew := (Below.refl _ _).drew
  obtain ⟨ft, hft⟩ : ∃ ft, ft = fitsB n first many := ⟨_, rfl⟩
  rw [← hft] at HFt
  have HFE := Lib.hid hft
  clear hft P0
  go_region_held3 (fun w' => w'.cell? ⟨p, 0, none⟩ = some (.int .i64 first) ∧ w'.cell? ⟨p, 1, none⟩ = some (.int .i64 many) ∧ w'.cell? ⟨p, 2, none⟩ = some (.int .u32 (epoch : Int)) ∧ Below w0.heap.size w0 w')
    (first | exact HK.out _ hbd | assumption)
    (first
      | (go_at_call 47
         with_reducible refine (HL.out _ (by assumption)).mono ?_
         rintro e1 w1 ⟨rfl, hS1⟩)
      | (go_at_call 46
         with_reducible refine (HFt.out _ (by assumption)).mono ?_
         rintro e2 w2 ⟨rfl, hS2⟩))
  all_goals (
    have hb2 := hS2.2.2.2
    clear HL HFt hbd
    cases ft)
  · have HR := Lib.hid (show mayB n first many low next = false by rw [mayB_fits, ← HFE.out]; rfl)
    go_wp2
    go_ret
    exact ⟨below_two HB0.out hb2, Or.inl ⟨HR.out, rfl⟩⟩
  · have hfit : 0 ≤ first ∧ 1 ≤ many ∧ first + many ≤ n := of_decide_eq_true HFE.out.symm
    obtain ⟨g1, g2, g3⟩ := hfit
    have hc1 := hS2.2.1
    have hc0 := hS2.1
    have hc2 := hS2.2.2.1
    by_cases h1 : low ≤ next
    · have h1' : ¬ (next : Int) < (low : Int) := by omega
      have h1'' : (low : Int) ≤ (next : Int) := by omega
      by_cases h2 : (next : Int) - (low : Int) ≤ many
      · have h2' : ¬ many < (next : Int) - (low : Int) := by omega
        by_cases h3 : next ≤ 1073741824
        · have h3' : ¬ (1073741824 : Int) < (next : Int) := by omega
          have HR := Lib.hid (show mayB n first many low next = true from decide_eq_true (by omega))
          have HNW := Lib.hid (Bk.new w2 [.int .i64 first, .int .i64 many, .int .u32 (epoch : Int), .pointer (some va), .int .u32 (low : Int), .int .u32 (next : Int)] 104 rfl)
          have hba : Below w2.heap.size w2 (w2.alloc (.cells #[.int .i64 first, .int .i64 many, .int .u32 (epoch : Int), .pointer (some va), .int .u32 (low : Int), .int .u32 (next : Int)] 104)) := (Below.refl _ _).alloc (Nat.le_refl _) _
          have hsa : (w2.alloc (.cells #[.int .i64 first, .int .i64 many, .int .u32 (epoch : Int), .pointer (some va), .int .u32 (low : Int), .int .u32 (next : Int)] 104)).heap.size = w2.heap.size + 1 := by simp
          go_wp2
          go_ret
          have hbz := below_two HB0.out hb2
          have hs0 := HB0.out.size
          have hs2 := hb2.size
          have hsz := hbz.size
          generalize w2.alloc (.cells #[.int .i64 first, .int .i64 many, .int .u32 (epoch : Int), .pointer (some va), .int .u32 (low : Int), .int .u32 (next : Int)] 104) = w3 at *
          have hb3 : Below w.heap.size w w3 := below_two hbz hba
          refine ⟨hb3, Or.inr ⟨HR.out, _, rfl, ?_⟩⟩
          have e1 : ((first.toNat : Nat) : Int) = first := by omega
          have e2 : ((many.toNat : Nat) : Int) = many := by omega
          have hnn := HN.out
          refine ⟨⟨he, hl, hx, ?_, ?_, ?_⟩, ⟨?_, ?_, h1, ?_, h3⟩, ?_, w2.heap.size, F, rfl, ?_, ?_, ?_, ?_, K.below HH.out hb3⟩
          · show first.toNat ≤ 1024; omega
          · show 1 ≤ many.toNat; omega
          · show many.toNat ≤ 1024; omega
          · show 1 ≤ many.toNat; omega
          · show first.toNat + many.toNat ≤ d.secs.length; omega
          · show next ≤ low + many.toNat; omega
          · rintro b (g | g)
            · have := HLT.out b g; omega
            · exact g.2
          · show Bk w3 w2.heap.size [.int .i64 ((first.toNat : Nat) : Int), .int .i64 ((many.toNat : Nat) : Int), .int .u32 (epoch : Int), .pointer (some va), .int .u32 (low : Int), .int .u32 (next : Int)]
            rw [e1, e2]
            exact HNW.out
          · exact Or.inr ⟨by omega, by omega⟩
          · intro g; have := HLT.out _ g; omega
          · exact fun b g => Or.inl g
        · have h3' : (1073741824 : Int) < (next : Int) := by omega
          have HR := Lib.hid (show mayB n first many low next = false from decide_eq_false (by omega))
          go_wp2
          go_ret
          exact ⟨below_two HB0.out hb2, Or.inl ⟨HR.out, rfl⟩⟩
      · have h2' : many < (next : Int) - (low : Int) := by omega
        have HR := Lib.hid (show mayB n first many low next = false from decide_eq_false (by omega))
        go_wp2
        go_ret
        exact ⟨below_two HB0.out hb2, Or.inl ⟨HR.out, rfl⟩⟩
    · have h1' : (next : Int) < (low : Int) := by omega
      have HR := Lib.hid (show mayB n first many low next = false from decide_eq_false (by omega))
      go_wp2
      go_ret
      exact ⟨below_two HB0.out hb2, Or.inl ⟨HR.out, rfl⟩⟩

end

section
variable {w : World} {vb : Value}

set_option maxRecDepth 100000 in
theorem ring_new_nil (first many : Int) (epoch low next : Nat) : Calls Try.prog 30 #[.pointer none, .agg #[.int .i64 first, .int .i64 many, .int .u32 (epoch : Int)], .int .u32 (low : Int), .int .u32 (next : Int)] w fun e w' => e = .returned (.pointer none) ∧ Below w.heap.size w w' := by
  have hb0 : Below w.heap.size w (w.alloc (.cells #[.int .i64 first, .int .i64 many, .int .u32 (epoch : Int)] 25)) := (Below.refl _ _).alloc (Nat.le_refl _) _
  go_enter Try.func30, Try.ntmps30
  go_wp2_with fail
  go_quiet (fail)
  go_wp2
  go_ret
  exact ⟨rfl, below_drewN hb0 _⟩

set_option maxRecDepth 100000 in
theorem ring_nil_append : Calls Try.prog 24 #[.pointer none, vb] w fun e w' => e = .returned (.tuple #[.int .u32 0, .int .i64 1]) ∧ Below w.heap.size w w' := by
  go_enter Try.func24, Try.ntmps24
  go_wp2
  go_ret2
  exact ⟨rfl, Below.refl _ _⟩
set_option maxRecDepth 100000 in
theorem ring_nil_trunc (low : Int) : Calls Try.prog 51 #[.pointer none, .int .u32 low] w fun e w' => e = .returned (.tuple #[]) ∧ Below w.heap.size w w' := by
  go_enter Try.func51, Try.ntmps51
  go_wp2
  go_end0
  exact ⟨rfl, Below.refl _ _⟩
set_option maxRecDepth 100000 in
theorem ring_nil_low : Calls Try.prog 19 #[.pointer none] w fun e w' => e = .returned (.int .u32 0) ∧ Below w.heap.size w w' := by
  go_enter Try.func19, Try.ntmps19
  go_wp2
  go_ret
  exact ⟨rfl, Below.refl _ _⟩
set_option maxRecDepth 100000 in
theorem ring_nil_next : Calls Try.prog 21 #[.pointer none] w fun e w' => e = .returned (.int .u32 0) ∧ Below w.heap.size w w' := by
  go_enter Try.func21, Try.ntmps21
  go_wp2
  go_ret
  exact ⟨rfl, Below.refl _ _⟩
set_option maxRecDepth 100000 in
theorem ring_nil_free : Calls Try.prog 40 #[.pointer none] w fun e w' => e = .returned (.int .i64 0) ∧ Below w.heap.size w w' := by
  go_enter Try.func40, Try.ntmps40
  go_wp2
  go_ret
  exact ⟨rfl, Below.refl _ _⟩
end

end Go.Proofs.Ytnjhbmjhldfdpaa

namespace Go.Proofs.Ytnjhbmjhldfdpaa
open Go.RowKit

theorem ap_add (b : Addr) (j : Nat) : b.add (j + 1) = ⟨b.block, b.off + (j + 1), none⟩ := by unfold Addr.add; simp

/-- the four cells of a frame in a slice, as a walk writes their places -/
theorem Frs.nth {w : World} {F : Nat → Prop} {v : Value} {fs : List R.Fr} (h : Frs w F v fs) (i : Nat) (hi : i < fs.length) : ∃ a cap vb, v = .slice (some a) fs.length cap ∧ fs.length ≤ cap ∧ F a.block ∧
    w.cell? (a.add (i * 4)) = some (.int .u32 (fs[i].epoch : Int)) ∧ w.cell? ⟨(a.add (i * 4)).block, (a.add (i * 4)).off + 1, none⟩ = some (.int .u32 (fs[i].seq : Int)) ∧ w.cell? ⟨(a.add (i * 4)).block, (a.add (i * 4)).off + 2, none⟩ = some (.int .u8 (fs[i].flag.toNat : Int)) ∧ w.cell? ⟨(a.add (i * 4)).block, (a.add (i * 4)).off + 3, none⟩ = some vb ∧ SlB w F vb fs[i].body := by
  obtain ⟨A, cap, e, hc, hx⟩ := h
  obtain ⟨a, rfl, hF, hx⟩ := hx (fun e => by subst e; simp at hi)
  obtain ⟨vb, h0, h1, h2, h3, hb⟩ := hx i hi
  have q (j : Nat) (u : Value) (h : w.cell? (a.add (i * 4 + (j + 1))) = some u) : w.cell? ⟨(a.add (i * 4)).block, (a.add (i * 4)).off + (j + 1), none⟩ = some u := by
    rw [← ap_add, S.add_add]; exact h
  exact ⟨a, cap, vb, e, hc, hF, h0, q 0 _ h1, q 1 _ h2, q 2 _ h3, hb⟩

section
variable {H : World → (Nat → Prop) → Value → D.Dk → Prop}

theorem Turn.on {F : Nat → Prop} {w w1 w2 : World} (h : Turn F w w1) (hb : Below w1.heap.size w1 w2) : Turn F w w2 :=
  ⟨hb.os.trans h.os, hb.tape.trans h.tape, hb.output.trans h.output, Nat.le_trans h.size hb.size, fun k hk hF => (hb.block k (Nat.lt_of_lt_of_le hk h.size)).trans (h.block k hk hF)⟩
theorem Turn.behind {F : Nat → Prop} {w w1 w2 : World} (hb : Below w.heap.size w w1) (h : Turn F w1 w2) : Turn F w w2 :=
  ⟨h.os.trans hb.os, h.tape.trans hb.tape, h.output.trans hb.output, Nat.le_trans hb.size h.size, fun k hk hF => (h.block k (Nat.lt_of_lt_of_le hk hb.size) hF).trans (hb.block k hk)⟩
theorem Turn.more {F Fd : Nat → Prop} {w w1 w2 : World} (h : Turn F w w1) (h2 : Turn Fd w1 w2) (hF : ∀ b, b < w.heap.size → Fd b → F b) : Turn F w w2 :=
  ⟨h2.os.trans h.os, h2.tape.trans h.tape, h2.output.trans h.output, Nat.le_trans h.size h2.size, fun k hk g => (h2.block k (Nat.lt_of_lt_of_le hk h.size) (fun e => g (hF k hk e))).trans (h.block k hk g)⟩

/-- what the loop over a record's frames keeps: B the number of blocks when they were cut -/
structure RLp (H : World → (Nat → Prop) → Value → D.Dk → Prop) (w : World) (F F0 : Nat → Prop) (p B : Nat) (vd : Value) (r : G.Rg) (rec : List UInt8) (vf : Value) (k : Nat) (wr : World) : Prop where
  ex : ∃ Fd, H wr Fd vd (G.lay r.first r.many r.d (G.firsts r.epoch r.next rec k)) ∧ (∀ b, Fd b → F0 b ∨ (B ≤ b ∧ b < wr.heap.size))
  pk : Bk wr p (rpC vd r)
  fr : Frs wr (fun b => w.heap.size ≤ b ∧ b < B) vf (R.cut r.epoch r.next rec)
  turn : Turn F w wr
  B0 : w.heap.size ≤ B
  B1 : B ≤ wr.heap.size

set_option maxRecDepth 100000 in
set_option maxHeartbeats 4000000 in
theorem ring_append {w : World} {F : Nat → Prop} {v vd : Value} {r : G.Rg} (K : DiskOk H) (KF : FrameOk) (h : Rp H w F v vd r) {Gb : Nat → Prop} {vb : Value} {rec : List UInt8} (hB : SlB w Gb vb rec) (hGb : ∀ b, Gb b → b < w.heap.size) (hl : rec.length ≤ 1000) (hrow : r.d.row.length ≤ 900) :
    Calls Try.prog 24 #[v, vb] w fun e w' => e = .returned (.tuple #[.int .u32 (r.told rec : Nat), .int .i64 (r.err rec)]) ∧ Rp H w' (More F w w') v vd (r.append rec) ∧ Turn F w w' := by
  have HH := Lib.hid h
  obtain ⟨va, rfl⟩ := h.dptr K
  obtain ⟨hn, hm, hlt0, p, F0, rfl, hp, h1, h2, h3, h4⟩ := h
  have HM := Lib.hid hm
  have HN := Lib.hid hn
  have HP := Lib.hid hp
  have HD := Lib.hid h4
  have hpl := hp.lt
  have he := hn.e
  have hx := hn.n
  have hmy := hn.m
  have HB := Lib.hid hB
  have hMl : R.many rec.length ≤ 21 := by unfold R.many; split <;> omega
  have hM1 := R.many_pos rec.length
  obtain ⟨M, hM⟩ : ∃ M, M = R.many rec.length := ⟨_, rfl⟩
  rw [← hM] at hM1 hMl
  have HMM := Lib.hid hM
  have HK : Hid (∀ w', Below w.heap.size w w' → w'.cell? ⟨p, 2, none⟩ = some (.int .u32 (r.epoch : Int)) ∧ w'.cell? ⟨p, 5, none⟩ = some (.int .u32 (r.next : Int)) ∧ Below w.heap.size w w') :=
    Lib.hid fun w' hb => ⟨(HP.out.step hb).cell 2 _ rfl, (HP.out.step hb).cell 5 _ rfl, hb⟩
  have HC : Hid (∀ w', (w'.cell? ⟨p, 2, none⟩ = some (.int .u32 (r.epoch : Int)) ∧ w'.cell? ⟨p, 5, none⟩ = some (.int .u32 (r.next : Int)) ∧ Below w.heap.size w w') → Calls Try.prog 39 #[.int .u32 (r.epoch : Int), .int .u32 (r.next : Int), vb] w' fun e w'' => ∃ v', e = .returned v' ∧ (w''.cell? ⟨p, 2, none⟩ = some (.int .u32 (r.epoch : Int)) ∧ w''.cell? ⟨p, 5, none⟩ = some (.int .u32 (r.next : Int)) ∧ Below w.heap.size w w'') ∧ Frs w'' (fun b => w.heap.size ≤ b ∧ b < w''.heap.size) v' (R.cut r.epoch r.next rec)) :=
    Lib.hid fun w' hS => (KF.cut r.epoch r.next (HB.out.below hS.2.2 hGb) (fun b g => Nat.lt_of_lt_of_le (hGb b g) hS.2.2.size) he hx (by omega)).mono (fun e w'' ⟨v', e1, hf, hb⟩ => ⟨v', e1, HK.out _ (hS.2.2.trans (hb.mono hS.2.2.size)), hf.wider (fun b g => ⟨Nat.le_trans hS.2.2.size g.1, g.2⟩)⟩)
  have hbd : Below w.heap.size w w.drew := (Below.refl _ _).drew
  obtain ⟨Ab, capb, rfl, hcb⟩ := Sg_form hB
  clear hB hp hm hn h4 hM
  go_enter Try.func24, Try.ntmps24
  go_wp2_with fail
  go_region_held3 (fun w' => w'.cell? ⟨p, 2, none⟩ = some (.int .u32 (r.epoch : Int)) ∧ w'.cell? ⟨p, 5, none⟩ = some (.int .u32 (r.next : Int)) ∧ Below w.heap.size w w')
    (first | exact HK.out _ hbd | assumption)
    (first
      | (go_at_call 39
         with_reducible refine (HC.out _ (by assumption)).mono ?_
         rintro e1 w2 ⟨vf, rfl, hS2, hf2⟩))
  have hb2 := hS2.2.2
  clear HC hbd
  have hs2 := hb2.size
  have hcl := R.cut_len r.epoch r.next rec
  rw [← HMM.out] at hcl
  obtain ⟨Af, capf, rfl, hcf⟩ : ∃ A cap, vf = .slice A M cap ∧ M ≤ cap := by
    obtain ⟨A, cap, e, hc, _⟩ := hf2
    rw [hcl] at e hc
    exact ⟨A, cap, e, hc⟩
  have HCL := Lib.hid hcl
  have HFS := Lib.hid hf2
  clear hcl hf2
  have HH2 := Lib.hid (HH.out.below K hb2)
  have HFr := Lib.hid (ring_free HH2.out)
  obtain ⟨fr, hfr⟩ : ∃ fr, fr = r.free := ⟨_, rfl⟩
  rw [← hfr] at HFr
  have HFE := Lib.hid hfr
  clear hfr hS2
  go_wp2_with fail
  refine HFr.out.mono ?_
  rintro e w3 ⟨rfl, hb3⟩
  have hbw3 := below_two hb2 hb3
  have hs3 := hb3.size
  have hfrM : fr ≤ 1024 := by have e1 := HFE.out; have e2 := HM.out.ln; have e3 := HM.out.nl; unfold G.Rg.free at e1; omega
  have P3 := HP.out.step hbw3
  have HP3 := Lib.hid P3
  have c5 : w3.cell? ⟨p, 5, none⟩ = some (.int .u32 (r.next : Int)) := P3.cell 5 _ rfl
  clear P3 HFr
  have HH3 := Lib.hid (HH2.out.below K hb3)
  by_cases hfree : fr < M
  · have hfree' : (fr : Int) < (M : Int) := by omega
    have HE := Lib.hid (show r.err rec = 3 by rw [G.Rg.err, if_pos (by have := HFE.out; have := HMM.out; omega)])
    go_wp2
    go_ret2
    refine ⟨ret_v (by rw [told_no (by rw [HE.out]; decide), HE.out]; rfl), ?_, Turn.of_below hbw3⟩
    rw [append_no (by rw [HE.out]; decide)]
    obtain ⟨b1, b2, b3, q, G0, b4, b5, b6, b7, b8, b9⟩ := HH3.out
    exact ⟨b1, b2, fun b g => g.elim (b3 b) (fun g => g.2), q, G0, b4, b5, Or.inl b6, b7, fun b g => Or.inl (b8 b g), b9⟩
  · have hfree' : ¬ (fr : Int) < (M : Int) := by omega
    by_cases hover : 1073741824 < r.next + M
    · have hover' : (1073741824 : Int) < (r.next : Int) + (M : Int) := by omega
      have HE := Lib.hid (show r.err rec = 10 by rw [G.Rg.err, if_neg (by have := HFE.out; have := HMM.out; omega), if_pos (by have := HMM.out; omega)])
      go_wp2
      go_ret2
      refine ⟨ret_v (by rw [told_no (by rw [HE.out]; decide), HE.out]; rfl), ?_, Turn.of_below hbw3⟩
      rw [append_no (by rw [HE.out]; decide)]
      obtain ⟨b1, b2, b3, q, G0, b4, b5, b6, b7, b8, b9⟩ := HH3.out
      exact ⟨b1, b2, fun b g => g.elim (b3 b) (fun g => g.2), q, G0, b4, b5, Or.inl b6, b7, fun b g => Or.inl (b8 b g), b9⟩
    · have hover' : ¬ (1073741824 : Int) < (r.next : Int) + (M : Int) := by omega
      have HE := Lib.hid (show r.err rec = 0 by rw [G.Rg.err, if_neg (by have := HFE.out; have := HMM.out; omega), if_neg (by have := HMM.out; omega)])
      have HS : Hid (RLp H w F F0 p w2.heap.size (.pointer (some va)) r rec (.slice Af M capf) 0 w3) := Lib.hid ⟨⟨F0, K.below HD.out hbw3, fun b g => Or.inl g⟩, HP3.out, HFS.out.below hb3 (fun b g => g.2), Turn.of_below hbw3, hs2, hs3⟩
      clear HP3 HFS HH2 HH3
      go_wp2_with fail
      clear c5
      go_loopw [40] (fun i wr => ∃ j : Nat, j ≤ M ∧ i = .int .i64 j ∧ RLp H w F F0 p w2.heap.size (.pointer (some va)) r rec (.slice Af M capf) j wr) (fun i _ => M - (intOf i).toNat)
      case atStart => exact ⟨0, Nat.zero_le _, rfl, HS.out⟩
      case round =>
        clear HS
        obtain ⟨j, hj, rfl, ⟨Fd, hHd, hFd⟩, P, fr', trn, B0, B1⟩ := hrel
        by_cases hlt : j < M
        · have hlt' : (j : Int) < (M : Int) := by omega
          have hj0 : (0 : Int) ≤ (j : Int) := by omega
          have hcj : j < (R.cut r.epoch r.next rec).length := by rw [HCL.out]; exact hlt
          obtain ⟨a, capa, vb5, e5, _, hFa, x0, X1, X2, X3, hb5⟩ := fr'.nth j hcj
          rw [HCL.out] at e5
          cases e5
          rw [R.cut_at] at x0 X1 X2 hb5
          have hnum : (R.frameOf r.epoch r.next rec j).Num := ⟨he, Nat.mod_lt _ (by decide)⟩
          have hfit := G.frameOf_fits r.epoch r.next rec j
          obtain ⟨g, hg⟩ : ∃ g, g = R.frameOf r.epoch r.next rec j := ⟨_, rfl⟩
          rw [← hg] at x0 X1 X2 hb5 hnum hfit
          have HG := Lib.hid hg
          clear hg
          obtain ⟨A5, cap5, rfl, hc5⟩ := Sg_form hb5
          have hFlt : ∀ b, F0 b → b < w.heap.size := fun b g => hlt0 b (h3 b g)
          have nP : ¬ Fd p := fun g => (hFd p g).elim h2 (fun g => by omega)
          have nW : ¬ Fd wr.heap.size := fun g => (hFd _ g).elim (fun g => by have := hFlt _ g; have := trn.size; omega) (fun g => by omega)
          have nG : ∀ b, (w.heap.size ≤ b ∧ b < w2.heap.size) → ¬ Fd b := fun b g f => (hFd b f).elim (fun f => by have := hFlt b f; omega) (fun f => by omega)
          have hbA : Below wr.heap.size wr (wr.alloc (.cells #[.int .u32 (g.epoch : Int), .int .u32 (g.seq : Int), .int .u8 (g.flag.toNat : Int), .slice A5 g.body.length cap5] 89)) := (Below.refl _ _).alloc (Nat.le_refl _) _
          have YF := Bk.new wr [.int .u32 (g.epoch : Int), .int .u32 (g.seq : Int), .int .u8 (g.flag.toNat : Int), .slice A5 g.body.length cap5] 89 rfl
          have HPk := Lib.hid (KF.pack (w := wr.alloc (.cells #[.int .u32 (g.epoch : Int), .int .u32 (g.seq : Int), .int .u8 (g.flag.toNat : Int), .slice A5 g.body.length cap5] 89)) (v := .agg #[.int .u32 (g.epoch : Int), .int .u32 (g.seq : Int), .int .u8 (g.flag.toNat : Int), .slice A5 g.body.length cap5]) (f := g) ⟨_, rfl, hb5.below hbA (fun b g => by omega)⟩ (fun b g => by have := hbA.size; omega) hnum (by omega))
          have lsec : (R.sector g).length ≤ 64 := Nat.le_of_eq (R.sector_len hfit)
          rw [show packE g = 0 by rw [packE, if_pos hfit], show packB g = R.sector g by rw [packB, if_pos hfit]] at HPk
          obtain ⟨sec, hsec⟩ : ∃ sec, sec = R.sector g := ⟨_, rfl⟩
          rw [← hsec] at HPk lsec
          have HSec := Lib.hid hsec
          have hgs := hnum.s
          clear hsec hnum hfit
          obtain ⟨dk, hdk'⟩ : ∃ dk, dk = G.lay r.first r.many r.d (G.firsts r.epoch r.next rec j) := ⟨_, rfl⟩
          have hdk : dk.row.length ≤ 1000 := by rw [hdk', G.firsts_row HM.out.m1 HM.out.fits]; omega
          rw [← hdk'] at hHd
          have HDK := Lib.hid hdk'
          clear hdk'
          have HHa := Lib.hid (K.below hHd hbA)
          have HPa := Lib.hid (P.step hbA)
          have HYa := Lib.hid YF
          have HFa := Lib.hid (fr'.below hbA (fun b g => by omega))
          have HTa := Lib.hid (trn.on hbA)
          have hsA : wr.heap.size < (wr.alloc (.cells #[.int .u32 (g.epoch : Int), .int .u32 (g.seq : Int), .int .u8 (g.flag.toNat : Int), .slice A5 g.body.length cap5] 89)).heap.size := by simp
          clear hb5 YF P hHd
          go_wp2_with fail
          refine HPk.out.mono ?_
          rintro e w4 ⟨vs, rfl, hsl4, hb4⟩
          clear HPk x0 X1 X2 X3 hbA fr'
          generalize wr.alloc (.cells #[.int .u32 (g.epoch : Int), .int .u32 (g.seq : Int), .int .u8 (g.flag.toNat : Int), .slice A5 g.body.length cap5] 89) = wa at *
          obtain ⟨A6, cap6, rfl, hc6⟩ := Sg_form hsl4
          have P4 := HPa.out.step hb4
          have Y4 := HYa.out.step hb4
          have hs4 := hb4.size
          have HH4 := Lib.hid (K.below HHa.out hb4)
          have HSL := Lib.hid hsl4
          have HF4 := Lib.hid (HFa.out.below hb4 (fun b g => by omega))
          have HT4 := Lib.hid (HTa.out.on hb4)
          have y1 : w4.cell? ⟨wr.heap.size, 1, none⟩ = some (.int .u32 (g.seq : Int)) := Y4.cell 1 _ rfl
          clear hsl4 HHa HPa HYa HFa HTa Y4
          obtain ⟨sq, hsq⟩ : ∃ sq, sq = g.seq := ⟨_, rfl⟩
          rw [← hsq] at y1 hgs
          obtain ⟨t, ht⟩ : ∃ t, t = G.at_ r.first r.many sq := ⟨_, rfl⟩
          have HDE : Hid (dk.write (t : Int) sec = G.lay r.first r.many r.d (G.firsts r.epoch r.next rec (j + 1))) := Lib.hid (by rw [G.firsts_succ, G.lay_snoc, ← HDK.out, ← HG.out, ← HSec.out, ht, hsq])
          have htl : t ≤ 2048 := by have := G.at_range (first := r.first) (many := r.many) (seq := sq) HM.out.m1; have := HN.out.f; omega
          generalize hqe : wr.heap.size = q at *
          have hq4 : q < w4.heap.size := by omega
          have hp4 := P4.lt
          have HK2 : Hid (∀ w', Turn Fd w4 w' → w'.cell? ⟨p, 0, none⟩ = some (.int .i64 (r.first : Int)) ∧ w'.cell? ⟨p, 1, none⟩ = some (.int .i64 (r.many : Int)) ∧ w'.cell? ⟨p, 2, none⟩ = some (.int .u32 (r.epoch : Int)) ∧ w'.cell? ⟨p, 3, none⟩ = some (.pointer (some va)) ∧ w'.cell? ⟨q, 1, none⟩ = some (.int .u32 (sq : Int))) := Lib.hid fun w' hb => ⟨(P4.turn hb nP).cell 0 _ rfl, (P4.turn hb nP).cell 1 _ rfl, (P4.turn hb nP).cell 2 _ rfl, (P4.turn hb nP).cell 3 _ rfl, (hb.cell (p := ⟨q, 1, none⟩) hq4 nW).trans y1⟩
          have hbd : Below w4.heap.size w4 w4.drew := (Below.refl _ _).drew
          have HAt : Hid (Calls Try.prog 42 #[.agg #[.int .i64 (r.first : Int), .int .i64 (r.many : Int), .int .u32 (r.epoch : Int)], .int .u32 (sq : Int)] w4.drew fun e w' => e = .returned (.int .i64 (t : Int)) ∧ (w'.cell? ⟨p, 0, none⟩ = some (.int .i64 (r.first : Int)) ∧ w'.cell? ⟨p, 1, none⟩ = some (.int .i64 (r.many : Int)) ∧ w'.cell? ⟨p, 2, none⟩ = some (.int .u32 (r.epoch : Int)) ∧ w'.cell? ⟨p, 3, none⟩ = some (.pointer (some va)) ∧ w'.cell? ⟨q, 1, none⟩ = some (.int .u32 (sq : Int))) ∧ Below w4.heap.size w4 w') :=
            Lib.hid ((ring_at r.first r.many r.epoch sq w4.drew HN.out.f HN.out.m1 HN.out.m hgs).mono (fun e w' ⟨e1, hb⟩ => ⟨by rw [ht]; exact e1, HK2.out _ (Turn.of_below (below_two hbd hb)), below_two hbd hb⟩))
          have HWr : Hid (∀ w', Below w4.heap.size w4 w' → Calls Try.prog 12 #[.pointer (some va), .int .i64 (t : Int), .slice A6 sec.length cap6] w' fun e w'' => e = .returned (.int .i64 (dk.bad (t : Int) sec)) ∧ (w''.cell? ⟨p, 0, none⟩ = some (.int .i64 (r.first : Int)) ∧ w''.cell? ⟨p, 1, none⟩ = some (.int .i64 (r.many : Int)) ∧ w''.cell? ⟨p, 2, none⟩ = some (.int .u32 (r.epoch : Int)) ∧ w''.cell? ⟨p, 3, none⟩ = some (.pointer (some va)) ∧ w''.cell? ⟨q, 1, none⟩ = some (.int .u32 (sq : Int))) ∧ H w'' (More Fd w' w'') (.pointer (some va)) (dk.write (t : Int) sec) ∧ Turn Fd w' w'') :=
            Lib.hid fun w' hb => (K.write (S.New wa w4) (.slice A6 sec.length cap6) sec (t : Int) (K.below HH4.out hb) (HSL.out.below hb (fun b g => g.2)) (fun b g => Nat.lt_of_lt_of_le g.2 hb.size) hdk (by omega) (by omega) (by omega)).mono (fun e w'' ⟨e1, e2, e3⟩ => ⟨e1, HK2.out _ (Turn.behind hb e3), e2, e3⟩)
          have HP4 := Lib.hid P4
          clear ht hsq y1 P4
          go_wp2_with fail
          go_region_held3 (fun w' => w'.cell? ⟨p, 0, none⟩ = some (.int .i64 (r.first : Int)) ∧ w'.cell? ⟨p, 1, none⟩ = some (.int .i64 (r.many : Int)) ∧ w'.cell? ⟨p, 2, none⟩ = some (.int .u32 (r.epoch : Int)) ∧ w'.cell? ⟨p, 3, none⟩ = some (.pointer (some va)) ∧ w'.cell? ⟨q, 1, none⟩ = some (.int .u32 (sq : Int)))
            (first | exact HK2.out _ (Turn.of_below hbd) | assumption)
            (first
              | (go_at_call 42
                 with_reducible refine HAt.out.mono ?_
                 rintro e1 w5 ⟨rfl, hS5, hb5⟩)
              | (go_at_call 12
                 with_reducible refine (HWr.out _ hb5).mono ?_
                 rintro e2 w6 ⟨rfl, hS6, hH6, ht6⟩))
          have HNX : Hid (RLp H w F F0 p w2.heap.size (.pointer (some va)) r rec (.slice (some a) M capf) (j + 1) w6) := Lib.hid (by
            have hs5 := hb5.size
            have hs6 := ht6.size
            refine ⟨⟨More Fd w5 w6, by rw [← HDE.out]; exact hH6, ?_⟩, (HP4.out.step hb5).turn ht6 nP, ?_, ?_, B0, by omega⟩
            · rintro b (g | g)
              · exact (hFd b g).imp id (fun g => ⟨g.1, by omega⟩)
              · exact Or.inr ⟨by have := g.1; omega, g.2⟩
            · exact (HF4.out.below hb5 (fun b g => by omega)).keep (fun x hx => ht6.cell (by omega) (nG _ hx))
            · exact (HT4.out.on hb5).more ht6 (fun b hb g => (hFd b g).elim (h3 b) (fun g => by omega)))
          clear hS6 hH6 ht6 hS5 hb5 HK2 HWr HAt
          go_wp2_with fail
          go_roundw
          case rel => exact ⟨j + 1, by omega, by go_num, HNX.out⟩
          case measure => simp [intOf]; omega
        · obtain rfl : M = j := by omega
          have hlt' : ¬ (M : Int) < (M : Int) := by omega
          have nP : ¬ Fd p := fun g => (hFd p g).elim h2 (fun g => by omega)
          rw [show G.firsts r.epoch r.next rec M = R.cut r.epoch r.next rec by rw [HMM.out, G.firsts_all]] at hHd
          have c5 : wr.cell? ⟨p, 5, none⟩ = some (.int .u32 (r.next : Int)) := P.cell 5 _ rfl
          have f5 := P.fz 5 (by simp [rpC])
          have HPs := Lib.hid (P.set 5 (by simp [rpC]) (.int .u32 ((r.next : Int) + (M : Int))))
          have HHs := Lib.hid (K.set hHd nP 5 (.int .u32 ((r.next : Int) + (M : Int))))
          have HTs := Lib.hid (trn.put h1 5 (.int .u32 ((r.next : Int) + (M : Int))))
          have HSZ := Lib.hid (show (wr.setCell ⟨p, 5, none⟩ (.int .u32 ((r.next : Int) + (M : Int)))).heap.size = wr.heap.size by simp [World.setCell])
          have HNx : Hid (((r.next : Int) + (M : Int)) = (((r.put rec).next : Nat) : Int)) := Lib.hid (by show _ = ((r.next + R.many rec.length : Nat) : Int); rw [← HMM.out]; omega)
          clear hHd P fr'
          go_wp2
          go_ret2
          refine ⟨ret_v (by rw [told_ok HE.out, HE.out, ← HMM.out, show ((r.next + M : Nat) : Int) = (r.next : Int) + (M : Int) by omega]; rfl), ?_, HTs.out⟩
          rw [append_ok HE.out]
          have hs := HTs.out.size
          have hPs := HPs.out
          have hHs := HHs.out
          have hsz := HSZ.out
          generalize wr.setCell ⟨p, 5, none⟩ (.int .u32 ((r.next : Int) + (M : Int))) = wf at *
          refine ⟨⟨he, HN.out.l, by have := HNx.out; have := HMM.out; omega, HN.out.f, HN.out.m1, HN.out.m⟩, HM.out.put HE.out, ?_, p, Fd, rfl, ?_, Or.inl h1, nP, ?_, hHs⟩
          · rintro b (g | g)
            · have := hlt0 b g; omega
            · exact g.2
          · rw [HNx.out] at hPs
            exact hPs
          · intro b g
            exact (hFd b g).imp (h3 b) (fun g => ⟨by omega, by omega⟩)
end

end Go.Proofs.Ytnjhbmjhldfdpaa
