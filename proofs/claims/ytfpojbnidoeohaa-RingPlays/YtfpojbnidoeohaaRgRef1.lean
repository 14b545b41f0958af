/-
  Walks of the document's ring: the sector of a number, how many are free, a truncation.
-/
import Derived.Test.YtfpojbnidoeohaaRgMath
import Derived.Test.YtfpojbnidoeohaaVdAbs
import Derived.Test.YtfpojbnidoeohaaBk
namespace Go.Proofs.Ytfpojbnidoeohaa
open Go.RowKit

/-- the document's ring r, by value: its disk's parts a, b, c ahead -/
def rgC (a b c : Value) (r : G.Rg) : List Value := [a, b, c, .int .i64 (r.first : Int), .int .i64 (r.many : Int), .int .u32 (r.epoch : Int), .int .u32 (r.low : Int), .int .u32 (r.next : Int)]

/-- v is the document's ring r, its disk in blocks of which F holds -/
def Rr (w : World) (F : Nat → Prop) (v : Value) (r : G.Rg) : Prop :=
  ∃ a b c, v = .agg (rgC a b c r).toArray ∧ Rd w F (.agg #[a, b, c]) r.d

/-- numbers of 32 bits, and small ones -/
structure RgNum (r : G.Rg) : Prop where
  e : r.epoch < 4294967296
  l : r.low < 4294967296
  n : r.next < 4294967296
  f : r.first ≤ 1024
  m1 : 1 ≤ r.many
  m : r.many ≤ 1024

set_option maxRecDepth 100000 in
theorem rat_any (first many seq : Nat) (w : World) (hf : first ≤ 1024) (h1 : 1 ≤ many) (hm : many ≤ 1024) (hs : seq < 4294967296) :
    Calls Try.prog 48 #[.int .i64 first, .int .i64 many, .int .u32 seq] w fun e w' => e = .returned (.int .i64 (G.at_ first many seq : Nat)) ∧ w' = w := by
  have hlt := Nat.mod_lt seq (show many > 0 by omega)
  obtain ⟨q, hq⟩ : ∃ q, q = seq % many := ⟨_, rfl⟩
  have hq' : (seq : Int) % (many : Int) = (q : Int) := by rw [hq]; omega
  have hne : ¬ (many : Int) = 0 := by omega
  have HR : Hid (((first : Int) + (q : Int)) = ((G.at_ first many seq : Nat) : Int)) := Lib.hid (by unfold G.at_; omega)
  have hql : q ≤ 1024 := by omega
  have HQ := Lib.hid hq
  clear hq hlt
  go_enter Try.func48, Try.ntmps48
  go_wp2
  go_ret
  exact ⟨ret_v (by rw [← HR.out]; rfl), rfl⟩

theorem rd_form {w : World} {F : Nat → Prop} {a b c : Value} {d : D.Dk} (h : Rd w F (.agg #[a, b, c]) d) : ∃ A n k B m l C p q, a = .slice A n k ∧ b = .slice B m l ∧ c = .slice C p q := by
  obtain ⟨a', b', c', e, h1, h2, h3⟩ := h
  cases e
  obtain ⟨_, A, k, e1, _⟩ := h1
  obtain ⟨_, B, l, e2, _⟩ := h2
  obtain ⟨_, C, q, e3, _⟩ := h3
  exact ⟨A, _, k, B, _, l, C, _, q, e1, e2, e3⟩

set_option maxRecDepth 100000 in
theorem rfree_any {w : World} {F : Nat → Prop} {v : Value} {r : G.Rg} (h : Rr w F v r) (hn : RgNum r) (hm : r.May) :
    Calls Try.prog 19 #[v] w fun e w' => e = .returned (.int .i64 (r.free : Nat)) ∧ Below w.heap.size w w' := by
  obtain ⟨a, b, c, rfl, hd⟩ := h
  obtain ⟨A, n, k, B, m, l, C, p, q, rfl, rfl, rfl⟩ := rd_form hd
  obtain ⟨h1, h2, h3, h4, h5, h6⟩ := hn
  have a1 := hm.ln
  have a2 := hm.nl
  have HR : Hid (((r.many : Int) - (r.next : Int)) + (r.low : Int) = ((r.free : Nat) : Int)) := Lib.hid (by unfold G.Rg.free; omega)
  have hb : Below w.heap.size w (w.alloc (.cells (rgC (.slice A n k) (.slice B m l) (.slice C p q) r).toArray 39)) := (Below.refl _ _).alloc (Nat.le_refl _) _
  clear hd hm
  unfold rgC at hb ⊢
  go_enter Try.func19, Try.ntmps19
  go_wp2
  go_ret
  exact ⟨ret_v (by rw [← HR.out]; rfl), hb⟩

theorem infoRr : (Try.prog.info? 39).map (·.size) = some 8 := by kernel_rfl

set_option maxRecDepth 100000 in
set_option maxHeartbeats 1000000 in
theorem rtrunc_any {w : World} {F : Nat → Prop} {v : Value} {r : G.Rg} (h : Rr w F v r) (hF : ∀ b, F b → b < w.heap.size) (hn : RgNum r) (low : Nat) (_hlow : low < 4294967296) :
    Calls Try.prog 34 #[v, .int .u32 low] w fun e w' => ∃ v', e = .returned v' ∧ Rr w' F v' (r.trunc low) ∧ Below w.heap.size w w' := by
  obtain ⟨a, b, c, rfl, hd⟩ := h
  obtain ⟨A, n, k, B, m, l, C, p, q, rfl, rfl, rfl⟩ := rd_form hd
  obtain ⟨h1, h2, h3, h4, h5, h6⟩ := hn
  have HD := Lib.hid hd
  have HF := Lib.hid hF
  clear hd hF
  obtain ⟨D, first, many, epoch, lo, next⟩ := r
  simp only [rgC] at *
  have HB : Hid (∀ X Y : Obj, Below w.heap.size w ((w.alloc X).alloc Y)) := Lib.hid (fun X Y => ((Below.refl _ _).alloc (Nat.le_refl _) _).alloc (by simp) _)
  by_cases hc1 : lo < low
  · have hc1' : (lo : Int) < (low : Int) := by omega
    by_cases hc2 : low ≤ next
    · have hc2' : (low : Int) ≤ (next : Int) := by omega
      have HT := Lib.hid (show (⟨D, first, many, epoch, lo, next⟩ : G.Rg).trunc low = ⟨D, first, many, epoch, low, next⟩ by rw [G.Rg.trunc, if_pos ⟨hc1, hc2⟩])
      clear hc1 hc2
      go_enter Try.func34, Try.ntmps34
      go_wp2
      refine bodyPost_ret (results_bk rfl _ rfl (Bk.new (w.alloc (.cells #[.slice A n k, .slice B m l, .slice C p q, .int .i64 (first : Int), .int .i64 (many : Int), .int .u32 (epoch : Int), .int .u32 (low : Int), .int .u32 (next : Int)] 39)) [.slice A n k, .slice B m l, .slice C p q, .int .i64 (first : Int), .int .i64 (many : Int), .int .u32 (epoch : Int), .int .u32 (low : Int), .int .u32 (next : Int)] 39 (g := w.heap.size + 1) (by simp)) Try.underlying39 rfl infoRr) rfl ⟨_, rfl, ?_, HB.out _ _⟩
      rw [HT.out]
      exact ⟨_, _, _, rfl, HD.out.below (HB.out _ _) HF.out⟩
    · have hc2' : ¬ (low : Int) ≤ (next : Int) := by omega
      have HT := Lib.hid (show (⟨D, first, many, epoch, lo, next⟩ : G.Rg).trunc low = ⟨D, first, many, epoch, lo, next⟩ by rw [G.Rg.trunc, if_neg (fun g => hc2 g.2)])
      clear hc1 hc2
      go_enter Try.func34, Try.ntmps34
      go_wp2
      refine bodyPost_ret (results_bk rfl _ rfl (Bk.new (w.alloc (.cells #[.slice A n k, .slice B m l, .slice C p q, .int .i64 (first : Int), .int .i64 (many : Int), .int .u32 (epoch : Int), .int .u32 (lo : Int), .int .u32 (next : Int)] 39)) [.slice A n k, .slice B m l, .slice C p q, .int .i64 (first : Int), .int .i64 (many : Int), .int .u32 (epoch : Int), .int .u32 (lo : Int), .int .u32 (next : Int)] 39 (g := w.heap.size + 1) (by simp)) Try.underlying39 rfl infoRr) rfl ⟨_, rfl, ?_, HB.out _ _⟩
      rw [HT.out]
      exact ⟨_, _, _, rfl, HD.out.below (HB.out _ _) HF.out⟩
  · have hc1' : ¬ (lo : Int) < (low : Int) := by omega
    have HT := Lib.hid (show (⟨D, first, many, epoch, lo, next⟩ : G.Rg).trunc low = ⟨D, first, many, epoch, lo, next⟩ by rw [G.Rg.trunc, if_neg (fun g => hc1 g.1)])
    clear hc1
    go_enter Try.func34, Try.ntmps34
    go_wp2
    refine bodyPost_ret (results_bk rfl _ rfl (Bk.new (w.alloc (.cells #[.slice A n k, .slice B m l, .slice C p q, .int .i64 (first : Int), .int .i64 (many : Int), .int .u32 (epoch : Int), .int .u32 (lo : Int), .int .u32 (next : Int)] 39)) [.slice A n k, .slice B m l, .slice C p q, .int .i64 (first : Int), .int .i64 (many : Int), .int .u32 (epoch : Int), .int .u32 (lo : Int), .int .u32 (next : Int)] 39 (g := w.heap.size + 1) (by simp)) Try.underlying39 rfl infoRr) rfl ⟨_, rfl, ?_, HB.out _ _⟩
    rw [HT.out]
    exact ⟨_, _, _, rfl, HD.out.below (HB.out _ _) HF.out⟩

end Go.Proofs.Ytfpojbnidoeohaa
