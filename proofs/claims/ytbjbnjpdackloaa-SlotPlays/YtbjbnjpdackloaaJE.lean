/-
  Lemmas about blocks and slices, for the walks of layer slot.
  Package slot: does an area fit; where a slot begins; which numbers belong to it; what a frame's flag says.
-/
import Derived.Test.YtbjbnjpdackloaaJC
import Derived.Test.YtbjbnjpdackloaaJB
import Derived.Test.YtbjbnjpdackloaaJD
import Derived.Deep.RegionHeld3
import Derived.WalkMore
namespace Go.Proofs.Ytbjbnjpdackloaa
open Go.RowKit

section
variable {F : Nat → Prop} {w w1 : World}
theorem Turn.refl (F : Nat → Prop) (w : World) : Turn F w w := ⟨rfl, rfl, rfl, Nat.le_refl _, fun _ _ _ => rfl⟩
theorem Turn.put (h : Turn F w w1) {q : Nat} (hq : F q) (o : Nat) (u : Value) : Turn F w (w1.setCell ⟨q, o, none⟩ u) :=
  ⟨h.os, h.tape, h.output, by simpa [World.setCell] using h.size, fun k hk hF => (Below.heap_setCell w1 ⟨q, o, none⟩ u k (fun e => hF (by have e : k = q := e; rw [e]; exact hq))).trans (h.block k hk hF)⟩
end

theorem Turn.drew {F : Nat → Prop} {w w1 : World} (h : Turn F w w1) : Turn F w w1.drew := ⟨h.os, h.tape, h.output, h.size, h.block⟩
theorem Bk.turn {F : Nat → Prop} {w w' : World} {p : Nat} {vs : List Value} (h : Bk w p vs) (ht : Turn F w w') (hp : ¬ F p) : Bk w' p vs := h.keep (ht.block p h.lt hp) ht.size
theorem results_bk_2 {P : Program} {fn : Func} {r s t : Tmp} {ty : TypeId} {d : TypeDesc} {w : World} {p : Nat} {vs : List Value} (hr : fn.results = #[.cell r ty, .tmp s, .tmp t]) (tmps : Array Value) (hp : tmps.getD r undef = .pointer (some ⟨p, 0, none⟩)) (h : Bk w p vs)
    (hu : P.underlying ty = some d) (hd : d.isRow = true) (hi : (P.info? ty).map (·.size) = some vs.length) : (results fn tmps).run P w = .ok (.tuple #[.agg vs.toArray, tmps.getD s undef, tmps.getD t undef]) w := by
  have hl := load_bk h hu hd hi
  have hp' : tmps[r]?.getD undef = .pointer (some ⟨p, 0, none⟩) := by simpa using hp
  simp [results, hr, hp', asAddr, hl]
theorem frC_len (f : R.Fr) : (frC f).length = 4 := rfl
theorem set3_size (w : World) (q : Nat) (a0 a1 a2 : Value) : (((w.setCell ⟨q, 0, none⟩ a0).setCell ⟨q, 1, none⟩ a1).setCell ⟨q, 2, none⟩ a2).heap.size = w.heap.size := by simp [World.setCell]
theorem below_drewN {B : Nat} {w w' : World} (h : Below B w w') (n : Nat) : Below B w (w'.drewN n) := ⟨h.os, h.tape, h.output, h.size, h.block⟩
theorem ap_add (b : Addr) (j : Nat) : b.add (j + 1) = ⟨b.block, b.off + (j + 1), none⟩ := by unfold Addr.add; simp
theorem Frs.nth {w : World} {F : Nat → Prop} {v : Value} {fs : List R.Fr} (h : Frs w F v fs) (i : Nat) (hi : i < fs.length) : ∃ a cap vb, v = .slice (some a) fs.length cap ∧ fs.length ≤ cap ∧ F a.block ∧
    w.cell? (a.add (i * 4)) = some (.int .u32 (fs[i].epoch : Int)) ∧ w.cell? ⟨(a.add (i * 4)).block, (a.add (i * 4)).off + 1, none⟩ = some (.int .u32 (fs[i].seq : Int)) ∧ w.cell? ⟨(a.add (i * 4)).block, (a.add (i * 4)).off + 2, none⟩ = some (.int .u8 (fs[i].flag.toNat : Int)) ∧ w.cell? ⟨(a.add (i * 4)).block, (a.add (i * 4)).off + 3, none⟩ = some vb ∧ SlB w F vb fs[i].body := by
  obtain ⟨A, cap, e, hc, hx⟩ := h
  obtain ⟨a, rfl, hF, hx⟩ := hx (fun e => by subst e; simp at hi)
  obtain ⟨vb, h0, h1, h2, h3, hb⟩ := hx i hi
  have q (j : Nat) (u : Value) (h : w.cell? (a.add (i * 4 + (j + 1))) = some u) : w.cell? ⟨(a.add (i * 4)).block, (a.add (i * 4)).off + (j + 1), none⟩ = some u := by
    rw [← ap_add, S.add_add]; exact h
  exact ⟨a, cap, vb, e, hc, hF, h0, q 0 _ h1, q 1 _ h2, q 2 _ h3, hb⟩
theorem Turn.on {F : Nat → Prop} {w w1 w2 : World} (h : Turn F w w1) (hb : Below w1.heap.size w1 w2) : Turn F w w2 :=
  ⟨hb.os.trans h.os, hb.tape.trans h.tape, hb.output.trans h.output, Nat.le_trans h.size hb.size, fun k hk hF => (hb.block k (Nat.lt_of_lt_of_le hk h.size)).trans (h.block k hk hF)⟩
theorem Turn.behind {F : Nat → Prop} {w w1 w2 : World} (hb : Below w.heap.size w w1) (h : Turn F w1 w2) : Turn F w w2 :=
  ⟨h.os.trans hb.os, h.tape.trans hb.tape, h.output.trans hb.output, Nat.le_trans hb.size h.size, fun k hk hF => (h.block k (Nat.lt_of_lt_of_le hk hb.size) hF).trans (hb.block k hk)⟩
theorem Turn.more {F Fd : Nat → Prop} {w w1 w2 : World} (h : Turn F w w1) (h2 : Turn Fd w1 w2) (hF : ∀ b, b < w.heap.size → Fd b → F b) : Turn F w w2 :=
  ⟨h2.os.trans h.os, h2.tape.trans h.tape, h2.output.trans h.output, Nat.le_trans h.size h2.size, fun k hk g => (h2.block k (Nat.lt_of_lt_of_le hk h.size) (fun e => g (hF k hk e))).trans (h.block k hk g)⟩
theorem and_one : ∀ n : Nat, n < 256 → (bits .and .u8 (n : Int) 1 != 0) = (n % 2 == 1) := by decide +kernel
theorem and_two : ∀ n : Nat, n < 256 → (bits .and .u8 (n : Int) 2 != 0) = (n / 2 % 2 == 1) := by decide +kernel
theorem infoFr : (Try.prog.info? 77).map (·.size) = some 4 := by kernel_rfl
theorem rows_apart7 {W : World} {b b' k k' n n' : Nat} {e e' : TypeId} {u v : Value} {xs ys : List Value} (h : W.ownsRow b e k u n xs) (h' : W.ownsRow b' e' k' v n' ys) (hne : e ≠ e') : u.ownBlock = none ∨ u.ownBlock ≠ v.ownBlock := by
  rcases h.2 with ⟨rfl, _⟩ | ⟨g, cap, cur, rfl, _, hg, _⟩
  · exact .inl rfl
  · refine .inr fun ex => ?_
    rcases h'.2 with ⟨rfl, _⟩ | ⟨g', cap', cur', rfl, _, hg', _⟩
    · cases ex
    · have e1 : g = g' := by simpa [Value.ownBlock] using ex
      subst e1
      rw [hg] at hg'
      simp at hg'
      exact hne hg'.2
theorem sg_own7 {w : World} {base k n : Nat} {e : TypeId} {v : Value} {cs : List Value} {G : Nat → Prop} (h : w.ownsRow base e k v n cs) (hG : ∀ b, v.ownBlock = some b → G b) : S.Sg w G k v n cs := by
  have h0 := h
  rcases h.2 with ⟨rfl, rfl⟩ | ⟨g, cap, cur, rfl, _, _, hc, _⟩
  · exact ⟨h.1, none, 0, rfl, Nat.zero_le _, fun h => absurd rfl h⟩
  · refine ⟨h.1, _, cap, rfl, hc, fun _ => ⟨_, rfl, hG g rfl, fun j u hj => ?_⟩⟩
    have hjl := (List.getElem?_eq_some_iff.1 hj).1
    rw [Addr.add_lit, Nat.zero_add, World.ownsRow.cellAt h0 j (by rw [h.1] at hjl; exact hjl)]
    exact hj
theorem beq_last {c : UInt8} (h : (c.toNat / 2 % 2 == 1) = true) : c.toNat / 2 % 2 = 1 := by simpa using h
theorem beq_more {c : UInt8} (h : (c.toNat / 2 % 2 == 1) = false) : ¬ c.toNat / 2 % 2 = 1 := by simpa using h
theorem sc_info8 : (Try.prog.info? 5).map (fun i => (i.zero, i.size, i.bytes)) = some (some (.int .u8 0), 1, 1) := by kernel_rfl
theorem sc_made {w w' : World} (h : w.grownBy w' none) : Below w.heap.size w w' := (Below.refl _ _).grown h (Nat.le_refl _) (fun j hj => by cases hj)
theorem sl_const (w : World) (l : List UInt8) (m : Nat × Nat) : SlB (w.alloc (.cells (bytesV l).toArray 5 m)) (fun b => b = w.heap.size) (.slice (some ⟨w.heap.size, 0, none⟩) l.length l.length) l :=
  ⟨by rw [bytesV_length]; omega, _, _, rfl, Nat.le_refl _, fun _ => ⟨_, rfl, rfl, fun j u hj => by
    rw [Addr.add_mid, cell_of_row _ _ _ (bytesV l).toArray 5 m (heap_alloc_new w _), Nat.zero_add]
    simpa using hj⟩⟩
theorem sl_bools (w : World) (l : List Bool) : SlT (w.alloc (.cells (boolV l).toArray 4)) (fun b => b = w.heap.size) (.slice (some ⟨w.heap.size, 0, none⟩) l.length l.length) l :=
  ⟨by rw [boolV_length]; omega, _, _, rfl, Nat.le_refl _, fun _ => ⟨_, rfl, rfl, fun j u hj => by
    rw [Addr.add_mid, cell_of_row _ _ _ (boolV l).toArray 4 (0, 0) (heap_alloc_new w _), Nat.zero_add]
    simpa using hj⟩⟩
theorem Bk.all5 {w : World} {p : Nat} {a b c d e : Value} (h : Bk w p [a, b, c, d, e]) (a' b' c' d' e' : Value) : Bk (((((w.setCell ⟨p, 0, none⟩ a').setCell ⟨p, 1, none⟩ b').setCell ⟨p, 2, none⟩ c').setCell ⟨p, 3, none⟩ d').setCell ⟨p, 4, none⟩ e') p [a', b', c', d', e'] :=
  ((((h.set 0 (by simp) a').set 1 (by simp) b').set 2 (by simp) c').set 3 (by simp) d').set 4 (by simp) e'
theorem turn5 (w : World) (p : Nat) (a b c d e : Value) : Turn (fun x => x = p) w (((((w.setCell ⟨p, 0, none⟩ a).setCell ⟨p, 1, none⟩ b).setCell ⟨p, 2, none⟩ c).setCell ⟨p, 3, none⟩ d).setCell ⟨p, 4, none⟩ e) :=
  (((((Turn.refl (fun x => x = p) w).put (q := p) rfl 0 a).put (q := p) rfl 1 b).put (q := p) rfl 2 c).put (q := p) rfl 3 d).put (q := p) rfl 4 e
theorem Bk.all3 {w : World} {p : Nat} {a b c : Value} (h : Bk w p [a, b, c]) (a' b' c' : Value) : Bk (((w.setCell ⟨p, 0, none⟩ a').setCell ⟨p, 1, none⟩ b').setCell ⟨p, 2, none⟩ c') p [a', b', c'] :=
  ((h.set 0 (by simp) a').set 1 (by simp) b').set 2 (by simp) c'
theorem turn3 (w : World) (p : Nat) (a b c : Value) : Turn (fun x => x = p) w (((w.setCell ⟨p, 0, none⟩ a).setCell ⟨p, 1, none⟩ b).setCell ⟨p, 2, none⟩ c) :=
  (((Turn.refl (fun x => x = p) w).put (q := p) rfl 0 a).put (q := p) rfl 1 b).put (q := p) rfl 2 c
theorem set3_other {w : World} {a : Addr} {v : Value} (h : w.cell? a = some v) {g : Nat} (hg : g ≠ a.block) (u0 u1 u2 : Value) : (((w.setCell ⟨g, 0, none⟩ u0).setCell ⟨g, 1, none⟩ u1).setCell ⟨g, 2, none⟩ u2).cell? a = some v := by
  rw [World.cell?_setCell_far _ _ _ _ hg, World.cell?_setCell_far _ _ _ _ hg, World.cell?_setCell_far _ _ _ _ hg]
  exact h
theorem write_row_le (d : D.Dk) (i : Int) (b : D.Sec) : (d.write i b).row.length ≤ d.row.length + 1 ∧ (d.write i b).secs = d.secs := by
  unfold D.Dk.write
  split
  · exact ⟨by simp, rfl⟩
  · exact ⟨by omega, rfl⟩

/-- the slice v holds slices of bytes, l, in blocks of which G holds -/
def Bss (w : World) (G : Nat → Prop) (v : Value) (l : List (List UInt8)) : Prop :=
  ∃ A cap, v = .slice A l.length cap ∧ l.length ≤ cap ∧ (∀ x ∈ l, x.length ≤ 9223372036854775807) ∧ (l ≠ [] → ∃ a, A = some a ∧ G a.block ∧
    ∀ i (h : i < l.length), ∃ vb, w.cell? (a.add i) = some vb ∧ SlB w G vb l[i])

section
variable {w w' : World} {G : Nat → Prop} {B : Nat} {v : Value} {l : List (List UInt8)}

theorem Bss.keep (h : Bss w G v l) (hk : ∀ p : Addr, G p.block → w'.cell? p = w.cell? p) : Bss w' G v l := by
  obtain ⟨A, cap, e, hc, ho, hx⟩ := h
  refine ⟨A, cap, e, hc, ho, fun hn => ?_⟩
  obtain ⟨a, e2, hg, hx⟩ := hx hn
  refine ⟨a, e2, hg, fun i hi => ?_⟩
  obtain ⟨vb, h0, hv⟩ := hx i hi
  exact ⟨vb, (hk _ (by rw [S.add_block]; exact hg)).trans h0, hv.keep hk⟩
theorem Bss.below (h : Bss w G v l) (hb : Below B w w') (hG : ∀ b, G b → b < B) : Bss w' G v l := h.keep fun _ hp => hb.cell (hG _ hp)
theorem Bss.nth (h : Bss w G v l) (i : Nat) (hi : i < l.length) : ∃ a cap vb, v = .slice (some a) l.length cap ∧ l.length ≤ cap ∧ G a.block ∧ l[i].length ≤ 9223372036854775807 ∧ w.cell? (a.add i) = some vb ∧ SlB w G vb l[i] := by
  obtain ⟨A, cap, e, hc, ho, hx⟩ := h
  obtain ⟨a, rfl, hG, hx⟩ := hx (fun e => by subst e; simp at hi)
  obtain ⟨vb, h0, hb⟩ := hx i hi
  exact ⟨a, cap, vb, e, hc, hG, ho _ (List.getElem_mem hi), h0, hb⟩
end


/-- bytes of a slice in blocks of the call's own or of before -/
theorem Bk.all2 {w : World} {p : Nat} {a b : Value} (h : Bk w p [a, b]) (a' b' : Value) : Bk ((w.setCell ⟨p, 0, none⟩ a').setCell ⟨p, 1, none⟩ b') p [a', b'] :=
  (h.set 0 (by simp) a').set 1 (by simp) b'
theorem turn4 (w : World) (p : Nat) (a b c d : Value) : Turn (fun x => x = p) w ((((w.setCell ⟨p, 0, none⟩ a).setCell ⟨p, 1, none⟩ b).setCell ⟨p, 2, none⟩ c).setCell ⟨p, 3, none⟩ d) :=
  ((((Turn.refl (fun x => x = p) w).put (q := p) rfl 0 a).put (q := p) rfl 1 b).put (q := p) rfl 2 c).put (q := p) rfl 3 d

end Go.Proofs.Ytbjbnjpdackloaa

namespace Go.Proofs.Ytbjbnjpdackloaa
open Go.RowKit

/-- may an area of a disk of n sectors be? -/
def fitsB (n : Nat) (first size : Int) : Bool := decide (0 ≤ first ∧ 1 ≤ size ∧ first + 2 * size ≤ n)

set_option maxRecDepth 100000 in
set_option maxHeartbeats 1000000 in
theorem slot_fits (first size : Int) (n : Nat) (w : World) (hn : n ≤ 1024) (hf0 : -9223372036854775808 ≤ first) (hf1 : first ≤ 9223372036854775807) (hm0 : -9223372036854775808 ≤ size) (hm1 : size ≤ 9223372036854775807) :
    Calls Try.prog 31 #[.agg #[.int .i64 first, .int .i64 size], .int .i64 (n : Int)] w fun e w' => e = .returned (.bool (fitsB n first size)) ∧ Below w.heap.size w w' := by
  have hb : Below w.heap.size w (w.alloc (.cells #[.int .i64 first, .int .i64 size] 23)) := (Below.refl _ _).alloc (Nat.le_refl _) _
  obtain ⟨m, hm⟩ : ∃ m, m = n / 2 := ⟨_, rfl⟩
  have hq1 : (n : Int).tdiv 2 = (m : Int) := by rw [Int.tdiv_eq_ediv_of_nonneg (by omega)]; omega
  have hq2 : (n : Int) / 2 = (m : Int) := by omega
  have hm2 : 2 * m ≤ n := by omega
  have hm3 : n ≤ 2 * m + 1 := by omega
  clear hm
  by_cases h1 : 0 ≤ first
  · by_cases h2 : 1 ≤ size
    · by_cases h3 : size ≤ (m : Int)
      · have HR := Lib.hid (show fitsB n first size = decide (first ≤ (n : Int) - 2 * size) by unfold fitsB; rw [decide_eq_decide]; omega)
        clear hm2 hm3
        go_enter Try.func31, Try.ntmps31
        go_wp2
        go_ret
        exact ⟨ret_v (by rw [HR.out]; rfl), hb⟩
      · have HR := Lib.hid (show fitsB n first size = false from decide_eq_false (by omega))
        clear hm2 hm3
        go_enter Try.func31, Try.ntmps31
        go_wp2
        go_ret
        exact ⟨ret_v (by rw [HR.out]; rfl), hb⟩
    · have HR := Lib.hid (show fitsB n first size = false from decide_eq_false (by omega))
      clear hm2 hm3
      go_enter Try.func31, Try.ntmps31
      go_wp2
      go_ret
      exact ⟨ret_v (by rw [HR.out]; rfl), hb⟩
  · have HR := Lib.hid (show fitsB n first size = false from decide_eq_false (by omega))
    clear hm2 hm3
    go_enter Try.func31, Try.ntmps31
    go_wp2
    go_ret
    exact ⟨ret_v (by rw [HR.out]; rfl), hb⟩

set_option maxRecDepth 100000 in
set_option maxHeartbeats 1000000 in
theorem slot_begin (first size which : Nat) (w : World) (hf : first ≤ 1024) (hs : size ≤ 1024) (hw : which < 2) :
    Calls Try.prog 39 #[.agg #[.int .i64 (first : Int), .int .i64 (size : Int)], .int .i64 (which : Int)] w fun e w' => e = .returned (.int .i64 (Z.at_ first size which : Nat)) ∧ Below w.heap.size w w' := by
  have hb : Below w.heap.size w (w.alloc (.cells #[.int .i64 (first : Int), .int .i64 (size : Int)] 23)) := (Below.refl _ _).alloc (Nat.le_refl _) _
  rcases (show which = 0 ∨ which = 1 by omega) with rfl | rfl
  · have HR := Lib.hid (show ((Z.at_ first size 0 : Nat) : Int) = (first : Int) by unfold Z.at_; omega)
    rw [show ((0 : Nat) : Int) = 0 from rfl]
    go_enter Try.func39, Try.ntmps39
    go_wp2
    go_ret
    exact ⟨ret_v (by rw [HR.out]; go_num), hb⟩
  · have HR := Lib.hid (show ((Z.at_ first size 1 : Nat) : Int) = (first : Int) + (size : Int) by unfold Z.at_; omega)
    rw [show ((1 : Nat) : Int) = 1 from rfl]
    go_enter Try.func39, Try.ntmps39
    go_wp2
    go_ret
    exact ⟨ret_v (by rw [HR.out]; go_num), hb⟩

/-- does a number belong to a slot? -/
def belB (gen which : Nat) : Bool := decide (gen ≠ 0 ∧ gen % 2 = which)

set_option maxRecDepth 100000 in
set_option maxHeartbeats 1000000 in
theorem slot_belongs (gen which : Nat) (w : World) (hg : gen < 4294967296) :
    Calls Try.prog 49 #[.int .u32 (gen : Int), .int .i64 (which : Int)] w fun e w' => e = .returned (.bool (belB gen which)) ∧ w' = w := by
  obtain ⟨r, hr⟩ : ∃ r, r = gen % 2 := ⟨_, rfl⟩
  have hq1 : (gen : Int).tmod 2 = (r : Int) := by rw [Int.tmod_eq_emod_of_nonneg (by omega)]; omega
  have hq2 : (gen : Int) % 2 = (r : Int) := by omega
  have hr2 : r < 2 := by omega
  have HE := Lib.hid (show belB gen which = decide (gen ≠ 0 ∧ r = which) by rw [hr]; rfl)
  clear hr
  by_cases h0 : gen = 0
  · subst h0
    go_enter Try.func49, Try.ntmps49
    go_wp2
    go_ret
    exact ⟨rfl, rfl⟩
  · have h0' : ¬ (gen : Int) = 0 := by omega
    have hbn : ((gen : Int) == 0) = false := by simpa using h0'
    have HR := Lib.hid (show belB gen which = ((r : Int) == (which : Int)) by
      rw [HE.out]
      by_cases h : r = which
      · rw [decide_eq_true ⟨h0, h⟩, h]; simp
      · rw [decide_eq_false (fun g => h g.2)]; symm; simp; omega)
    go_enter Try.func49, Try.ntmps49
    go_wp2
    go_ret
    exact ⟨ret_v (by rw [HR.out]; exact v_bool (by rw [show ((gen : Int) != 0) = true by simpa using h0']; rfl)), rfl⟩

set_option maxRecDepth 100000 in
set_option maxHeartbeats 1000000 in
theorem has_first {w : World} {F : Nat → Prop} {v : Value} {f : R.Fr} (h : FrV w F v f) :
    Calls Try.prog 34 #[v, .int .u8 1] w fun e w' => e = .returned (.bool (f.flag.toNat % 2 == 1)) ∧ Below w.heap.size w w' := by
  obtain ⟨vb, rfl, hb⟩ := h
  obtain ⟨A, cap, rfl, hc⟩ := Sg_form hb
  clear hb
  go_enter Try.func34, Try.ntmps34
  go_wp2
  go_ret
  exact ⟨ret_v (v_bool (and_one _ f.flag.toNat_lt)), (Below.refl _ _).alloc (Nat.le_refl _) _⟩

set_option maxRecDepth 100000 in
set_option maxHeartbeats 1000000 in
theorem has_last {w : World} {F : Nat → Prop} {v : Value} {f : R.Fr} (h : FrV w F v f) :
    Calls Try.prog 34 #[v, .int .u8 2] w fun e w' => e = .returned (.bool (f.flag.toNat / 2 % 2 == 1)) ∧ Below w.heap.size w w' := by
  obtain ⟨vb, rfl, hb⟩ := h
  obtain ⟨A, cap, rfl, hc⟩ := Sg_form hb
  clear hb
  go_enter Try.func34, Try.ntmps34
  go_wp2
  go_ret
  exact ⟨ret_v (v_bool (and_two _ f.flag.toNat_lt)), (Below.refl _ _).alloc (Nat.le_refl _) _⟩

end Go.Proofs.Ytbjbnjpdackloaa
