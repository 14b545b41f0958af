/-
  Walks of layer scan's laws: cut: a truncation behind the first records.
-/
import Derived.Test.YtnjhbmjhldfdpaaScAwake
namespace Go.Proofs.Ytnjhbmjhldfdpaa
open Go.RowKit

theorem Bk.all5 {w : World} {p : Nat} {a b c d e : Value} (h : Bk w p [a, b, c, d, e]) (a' b' c' d' e' : Value) : Bk (((((w.setCell ⟨p, 0, none⟩ a').setCell ⟨p, 1, none⟩ b').setCell ⟨p, 2, none⟩ c').setCell ⟨p, 3, none⟩ d').setCell ⟨p, 4, none⟩ e') p [a', b', c', d', e'] :=
  ((((h.set 0 (by simp) a').set 1 (by simp) b').set 2 (by simp) c').set 3 (by simp) d').set 4 (by simp) e'
theorem turn5 (w : World) (p : Nat) (a b c d e : Value) : Turn (fun x => x = p) w (((((w.setCell ⟨p, 0, none⟩ a).setCell ⟨p, 1, none⟩ b).setCell ⟨p, 2, none⟩ c).setCell ⟨p, 3, none⟩ d).setCell ⟨p, 4, none⟩ e) :=
  (((((Turn.refl (fun x => x = p) w).put (q := p) rfl 0 a).put (q := p) rfl 1 b).put (q := p) rfl 2 c).put (q := p) rfl 3 d).put (q := p) rfl 4 e

theorem Sg_drop {w : World} {F : Nat → Prop} {a : Addr} {n cap : Nat} {cs : List Value} (h : S.Sg w F 1 (.slice (some a) n cap) n cs) (m : Nat) (hm : m ≤ n) : S.Sg w F 1 (.slice (some (a.add m)) (n - m) (cap - m)) (n - m) (cs.drop m) := by
  obtain ⟨hl, A, c, e, hc, hx⟩ := h
  cases e
  refine ⟨by rw [List.length_drop, hl]; omega, _, _, rfl, by omega, fun hn => ?_⟩
  obtain ⟨a', e2, hg, hx⟩ := hx (by omega)
  cases e2
  refine ⟨_, rfl, by rw [S.add_block]; exact hg, fun j u hj => ?_⟩
  rw [S.add_add]
  exact hx (m + j) u (by rw [List.getElem?_drop] at hj; exact hj)

theorem infoMd : (Try.prog.info? 55).map (·.size) = some 5 := by kernel_rfl

/-- the records, and the numbers behind them, as a law keeps them -/
def recV (l : List (Nat × List UInt8)) : List Value := l.map fun x => .string ⟨x.2.toArray⟩
def endV (l : List (Nat × List UInt8)) : List Value := l.map fun x => .int .u32 ((x.1 + R.many x.2.length : Nat) : Int)
theorem recV_len (l : List (Nat × List UInt8)) : (recV l).length = l.length := by simp [recV]
theorem endV_len (l : List (Nat × List UInt8)) : (endV l).length = l.length := by simp [endV]
theorem recV_one (l : List (Nat × List UInt8)) : ∀ u ∈ recV l, u.oneCell' = true := by
  intro u hu
  simp only [recV, List.mem_map] at hu
  obtain ⟨n, _, rfl⟩ := hu
  rfl
theorem endV_one (l : List (Nat × List UInt8)) : ∀ u ∈ endV l, u.oneCell' = true := by
  intro u hu
  simp only [endV, List.mem_map] at hu
  obtain ⟨n, _, rfl⟩ := hu
  rfl
theorem recV_at (l : List (Nat × List UInt8)) (j : Nat) (h : j < l.length) : (recV l)[j]? = some (.string ⟨l[j].2.toArray⟩) := by simp [recV, h]
theorem endV_at (l : List (Nat × List UInt8)) (j : Nat) (h : j < l.length) : (endV l)[j]? = some (.int .u32 ((l[j].1 + R.many l[j].2.length : Nat) : Int)) := by simp [endV, h]
/-- the slice v holds the records of l (the numbers behind them) -/
abbrev SlR (w : World) (F : Nat → Prop) (v : Value) (l : List (Nat × List UInt8)) : Prop := S.Sg w F 1 v l.length (recV l)
abbrev SlE (w : World) (F : Nat → Prop) (v : Value) (l : List (Nat × List UInt8)) : Prop := S.Sg w F 1 v l.length (endV l)

/-- the ring behind a truncation behind its first k records -/
def cutR (r : G.Rg) (kept : List (Nat × List UInt8)) (k : Nat) : G.Rg := if k = 0 then r else match kept[k - 1]? with
  | some x => r.trunc (x.1 + R.many x.2.length)
  | none => r

section
variable {H : World → (Nat → Prop) → Value → D.Dk → Prop}

theorem cut_fin (K : DiskOk H) {w w1 : World} {F Fs : Nat → Prop} {p q : Nat} {vd vr x0 x1 x2 x3 x4 z0 z1 z2 z3 z4 : Value} {r : G.Rg} {l : List (Nat × List UInt8)} (hP : Bk w1 p [x0, x1, x2, x3, x4]) (hQ : Bk w1 q [z0, z1, z2, z3, z4]) (npq : p ≠ q) (np : ¬ F p) (nq : ¬ F q) (hp : w.heap.size ≤ p) (hq : w.heap.size ≤ q) (hR : Rp H w1 F vr vd r) (hT : Turn F w w1) (hFs : ∀ b, Fs b → b < w.heap.size) (VS VE M : Value) (hS : SlR w1 Fs VS l) (hE : SlE w1 Fs VE l) :
    Bk ((((((((w1.setCell ⟨p, 2, none⟩ VS).setCell ⟨p, 3, none⟩ VE).setCell ⟨p, 4, none⟩ M).setCell ⟨q, 0, none⟩ vd).setCell ⟨q, 1, none⟩ vr).setCell ⟨q, 2, none⟩ VS).setCell ⟨q, 3, none⟩ VE).setCell ⟨q, 4, none⟩ M) q [vd, vr, VS, VE, M] ∧ SlR ((((((((w1.setCell ⟨p, 2, none⟩ VS).setCell ⟨p, 3, none⟩ VE).setCell ⟨p, 4, none⟩ M).setCell ⟨q, 0, none⟩ vd).setCell ⟨q, 1, none⟩ vr).setCell ⟨q, 2, none⟩ VS).setCell ⟨q, 3, none⟩ VE).setCell ⟨q, 4, none⟩ M) Fs VS l ∧ SlE ((((((((w1.setCell ⟨p, 2, none⟩ VS).setCell ⟨p, 3, none⟩ VE).setCell ⟨p, 4, none⟩ M).setCell ⟨q, 0, none⟩ vd).setCell ⟨q, 1, none⟩ vr).setCell ⟨q, 2, none⟩ VS).setCell ⟨q, 3, none⟩ VE).setCell ⟨q, 4, none⟩ M) Fs VE l ∧ Rp H ((((((((w1.setCell ⟨p, 2, none⟩ VS).setCell ⟨p, 3, none⟩ VE).setCell ⟨p, 4, none⟩ M).setCell ⟨q, 0, none⟩ vd).setCell ⟨q, 1, none⟩ vr).setCell ⟨q, 2, none⟩ VS).setCell ⟨q, 3, none⟩ VE).setCell ⟨q, 4, none⟩ M) F vr vd r ∧ Turn F w ((((((((w1.setCell ⟨p, 2, none⟩ VS).setCell ⟨p, 3, none⟩ VE).setCell ⟨p, 4, none⟩ M).setCell ⟨q, 0, none⟩ vd).setCell ⟨q, 1, none⟩ vr).setCell ⟨q, 2, none⟩ VS).setCell ⟨q, 3, none⟩ VE).setCell ⟨q, 4, none⟩ M) := by
  have Q4 : Bk (((w1.setCell ⟨p, 2, none⟩ VS).setCell ⟨p, 3, none⟩ VE).setCell ⟨p, 4, none⟩ M) q [z0, z1, z2, z3, z4] := ((hQ.other npq 2 VS).other npq 3 VE).other npq 4 M
  have T4 : Turn (fun b => b = p ∨ b = q) w1 (((w1.setCell ⟨p, 2, none⟩ VS).setCell ⟨p, 3, none⟩ VE).setCell ⟨p, 4, none⟩ M) := (((Turn.refl (fun b => b = p ∨ b = q) w1).put (q := p) (Or.inl rfl) 2 VS).put (q := p) (Or.inl rfl) 3 VE).put (q := p) (Or.inl rfl) 4 M
  have T9 := T4.more (turn5 (((w1.setCell ⟨p, 2, none⟩ VS).setCell ⟨p, 3, none⟩ VE).setCell ⟨p, 4, none⟩ M) q vd vr VS VE M) (fun b _ e => Or.inr e)
  have hs := hT.size
  have hpl := hP.lt
  have hk : ∀ a : Addr, Fs a.block → ((((((((w1.setCell ⟨p, 2, none⟩ VS).setCell ⟨p, 3, none⟩ VE).setCell ⟨p, 4, none⟩ M).setCell ⟨q, 0, none⟩ vd).setCell ⟨q, 1, none⟩ vr).setCell ⟨q, 2, none⟩ VS).setCell ⟨q, 3, none⟩ VE).setCell ⟨q, 4, none⟩ M).cell? a = w1.cell? a := fun a ha => T9.cell (by have := hFs _ ha; omega) (fun g => by have := hFs _ ha; omega)
  exact ⟨Q4.all5 vd vr VS VE M, hS.keep hk, hE.keep hk, hR.turn K T9 (fun b g e => e.elim (fun e => np (e ▸ g)) (fun e => nq (e ▸ g))), hT.more T9 (fun b hb e => by omega)⟩

/-- a slice cut: where its room ends there, it stays where it is -/
theorem Sg_drop' {w : World} {F : Nat → Prop} {a : Addr} {n k : Nat} {cs : List Value} (h : S.Sg w F 1 (.slice (some a) n k) n cs) (hn : n ≤ k) (hk : k ≤ n) : S.Sg w F 1 (.slice (some a) (n - k) 0) (n - k) (cs.drop k) := by
  obtain rfl : n = k := by omega
  have hl := h.1
  rw [Nat.sub_self, List.drop_of_length_le (by omega)]
  exact S.Sg.nil _ _ _ _ _

set_option maxRecDepth 100000 in
set_option maxHeartbeats 4000000 in
theorem cut7_any (K : DiskOk H) {w : World} {F Fs : Nat → Prop} {vd vr vs ve : Value} {r : G.Rg} {kept : List (Nat × List UInt8)} {syn : Nat} (h : Rp H w F vr vd r) (hs : SlR w Fs vs kept) (he : SlE w Fs ve kept) (hF : ∀ b, Fs b → b < w.heap.size ∧ ¬ F b) (k : Nat) (hk : k ≤ kept.length) (hkl : kept.length ≤ 1000) (hsy : syn ≤ 1000) (h32 : ∀ x ∈ kept, x.1 + R.many x.2.length < 4294967296) :
    Calls Try.prog 38 #[.agg #[vd, vr, vs, ve, .int .i64 (syn : Int)], .int .i64 (k : Int)] w fun e w' => ∃ vs' ve', e = .returned (.agg #[vd, vr, vs', ve', .int .i64 ((syn - k : Nat) : Int)]) ∧ SlR w' Fs vs' (kept.drop k) ∧ SlE w' Fs ve' (kept.drop k) ∧ Rp H w' F vr vd (cutR r kept k) ∧ Turn F w w' := by
  obtain ⟨va, rfl⟩ := h.ptr
  obtain ⟨da, rfl⟩ := h.dptr K
  have HS := Lib.hid hs
  have HE := Lib.hid he
  have HH := Lib.hid h
  have hlt := h.lt
  obtain ⟨A1, c1, rfl, hc1⟩ := Sg_form hs
  obtain ⟨A2, c2, rfl, hc2⟩ := Sg_form he
  clear h hs he
  by_cases hk0 : k = 0
  · subst hk0
    have Q5 := Lib.hid (Bk.new (w.alloc (.cells #[.pointer (some da), .pointer (some va), .slice A1 kept.length c1, .slice A2 kept.length c2, .int .i64 (syn : Int)] 55)) [.pointer (some da), .pointer (some va), .slice A1 kept.length c1, .slice A2 kept.length c2, .int .i64 (syn : Int)] 55 (g := w.heap.size + 1) (by simp))
    have HB0 := Lib.hid (two_new (w := w) (o := .cells #[.pointer (some da), .pointer (some va), .slice A1 kept.length c1, .slice A2 kept.length c2, .int .i64 (syn : Int)] 55) (o' := .cells #[.pointer (some da), .pointer (some va), .slice A1 kept.length c1, .slice A2 kept.length c2, .int .i64 (syn : Int)] 55))
    go_enter Try.func38, Try.ntmps38
    go_wp2
    refine bodyPost_ret (results_bk rfl _ rfl Q5.out Try.underlying55 rfl infoMd) rfl ?_
    have hbz := HB0.out
    exact ⟨_, _, rfl, HS.out.below hbz (fun b g => (hF b g).1), HE.out.below hbz (fun b g => (hF b g).1), HH.out.below K hbz, Turn.of_below hbz⟩
  · obtain ⟨j, hj⟩ : ∃ j, k = j + 1 := ⟨k - 1, by omega⟩
    obtain ⟨a1, cap1, e1, _⟩ := Sg_at HS.out 0 (by omega)
    cases e1
    obtain ⟨a2, cap2, e2, _, hg2, hx2⟩ := Sg_at HE.out j (by omega)
    cases e2
    rw [endV_at kept j (by omega)] at hx2
    have HS2 := Lib.hid (Sg_drop HS.out k hk)
    have HE2 := Lib.hid (Sg_drop HE.out k hk)
    obtain ⟨n, hn⟩ : ∃ n, n = kept[j].1 + R.many kept[j].2.length := ⟨_, rfl⟩
    have hn32 : n < 4294967296 := by rw [hn]; exact h32 _ (List.getElem_mem _)
    rw [← hn] at hx2
    have HNE := Lib.hid (show cutR r kept k = r.trunc n by rw [cutR, if_neg (by omega), show k - 1 = j by omega, List.getElem?_eq_getElem (by omega), hn])
    have hkj : (k : Int) - 1 = (j : Int) := by omega
    have hk1 : 1 ≤ k := by omega
    have hkw : IntKind.i64.wrap (j : Int) = (j : Int) := by rw [IntKind.wrap_i64]; omega
    have hjl : (j : Int) < (kept.length : Int) := by omega
    have hj0 : (0 : Int) ≤ (j : Int) := by omega
    have hjk : j < kept.length := by omega
    have HKJ := Lib.hid hj
    have hk9 : k ≤ 1000 := by omega
    clear hn hj
    have P0 := (Bk.new w [.pointer (some da), .pointer (some va), .slice (some a1) kept.length c1, .slice (some a2) kept.length c2, .int .i64 (syn : Int)] 55 rfl).alloc (.cells #[.pointer none, .pointer none, .slice none 0 0, .slice none 0 0, .int .i64 0] 55)
    have Q0 := Bk.new (w.alloc (.cells #[.pointer (some da), .pointer (some va), .slice (some a1) kept.length c1, .slice (some a2) kept.length c2, .int .i64 (syn : Int)] 55)) [.pointer none, .pointer none, .slice none 0 0, .slice none 0 0, .int .i64 0] 55 (g := w.heap.size + 1) (by simp)
    have hb0 := two_new (w := w) (o := .cells #[.pointer (some da), .pointer (some va), .slice (some a1) kept.length c1, .slice (some a2) kept.length c2, .int .i64 (syn : Int)] 55) (o' := .cells #[.pointer none, .pointer none, .slice none 0 0, .slice none 0 0, .int .i64 0] 55)
    have hz0 : ((w.alloc (.cells #[.pointer (some da), .pointer (some va), .slice (some a1) kept.length c1, .slice (some a2) kept.length c2, .int .i64 (syn : Int)] 55)).alloc (.cells #[.pointer none, .pointer none, .slice none 0 0, .slice none 0 0, .int .i64 0] 55)).heap.size = w.heap.size + 1 + 1 := by simp
    have hz0a := Nat.le_of_eq hz0
    have hz0b := Nat.le_of_eq hz0.symm
    clear hz0
    go_enter Try.func38, Try.ntmps38
    go_wp2_with fail
    generalize (w.alloc (.cells #[.pointer (some da), .pointer (some va), .slice (some a1) kept.length c1, .slice (some a2) kept.length c2, .int .i64 (syn : Int)] 55)).alloc (.cells #[.pointer none, .pointer none, .slice none 0 0, .slice none 0 0, .int .i64 0] 55) = w0 at *
    generalize hp : w.heap.size = p at *
    generalize hq : p + 1 = q at *
    have HH0 := Lib.hid (HH.out.below K (by rw [hp]; exact hb0))
    have np : ¬ F p := fun g => by have := hlt p g; omega
    have nq : ¬ F q := fun g => by have := hlt q g; omega
    have na2 : ¬ F (a2.add j).block := by rw [S.add_block]; exact (hF _ hg2).2
    have la2 : (a2.add j).block < p := by rw [S.add_block]; exact (hF _ hg2).1
    have hx2 : w0.cell? (a2.add j) = some (.int .u32 (n : Int)) := (hb0.cell la2).trans hx2
    have p0 : w0.cell? ⟨p, 0, none⟩ = some (.pointer (some da)) := P0.cell 0 _ rfl
    have p1 : w0.cell? ⟨p, 1, none⟩ = some (.pointer (some va)) := P0.cell 1 _ rfl
    have p3 : w0.cell? ⟨p, 3, none⟩ = some (.slice (some a2) kept.length c2) := P0.cell 3 _ rfl
    have HTr : Hid (∀ wd, Below w0.heap.size w0 wd → Calls Try.prog 51 #[.pointer (some va), .int .u32 (n : Int)] wd fun e w' => e = .returned (.tuple #[]) ∧ Rp H w' F (.pointer (some va)) (.pointer (some da)) (r.trunc n) ∧ Turn F wd w') := Lib.hid fun wd hb => ring_trunc K (HH0.out.below K hb) n hn32
    have HKp : Hid (∀ wd w', Below w0.heap.size w0 wd → Turn F wd w' → w'.cell? ⟨p, 1, none⟩ = some (.pointer (some va)) ∧ w'.cell? ⟨p, 3, none⟩ = some (.slice (some a2) kept.length c2) ∧ w'.cell? (a2.add j) = some (.int .u32 (n : Int))) := Lib.hid fun wd w' hb ht =>
      ⟨((P0.step hb).turn ht np).cell 1 _ rfl, ((P0.step hb).turn ht np).cell 3 _ rfl, (ht.cell (by have := hb.size; omega) na2).trans ((hb.cell (by omega)).trans hx2)⟩
    have hbd : Below w0.heap.size w0 w0.drew := (Below.refl _ _).drew
    have HS0 := Lib.hid (HKp.out w0.drew w0.drew hbd (Turn.refl _ _))
    go_region_held3 (fun w' => w'.cell? ⟨p, 1, none⟩ = some (.pointer (some va)) ∧ w'.cell? ⟨p, 3, none⟩ = some (.slice (some a2) kept.length c2) ∧ w'.cell? (a2.add j) = some (.int .u32 (n : Int)))
      (first | with_reducible exact HS0.out | with_reducible assumption)
      (first
        | (go_at_call 51
           with_reducible refine (HTr.out _ hbd).mono ?_
           rintro e1 w1 ⟨rfl, hR1, ht1⟩
           have hA := HKp.out _ w1 hbd ht1))
    have P1 := (P0.step hbd).turn ht1 np
    have Q1 := (Q0.step hbd).turn ht1 nq
    have hs1 := ht1.size
    have hsd := hbd.size
    have npq : p ≠ q := by omega
    have HR1 := Lib.hid hR1
    have HT1 := Lib.hid ht1
    have x0 := P1.cell 0 _ rfl
    have x1 := P1.cell 1 _ rfl
    have x2 := P1.cell 2 _ rfl
    have x3 := P1.cell 3 _ rfl
    have x4 := P1.cell 4 _ rfl
    have z2 := P1.fz 2 (by simp)
    have z3 := P1.fz 3 (by simp)
    have z4 := P1.fz 4 (by simp)
    have y0 := Q1.cell 0 _ rfl
    have y1 := Q1.cell 1 _ rfl
    have y2 := Q1.cell 2 _ rfl
    have y3 := Q1.cell 3 _ rfl
    have y4 := Q1.cell 4 _ rfl
    have yf0 := Q1.fz 0 (by simp)
    have yf1 := Q1.fz 1 (by simp)
    have yf2 := Q1.fz 2 (by simp)
    have yf3 := Q1.fz 3 (by simp)
    have yf4 := Q1.fz 4 (by simp)
    have hk' : (k : Int) ≤ (kept.length : Int) := by omega
    have HC : Hid (∀ VS VE M : Value, SlR w1 Fs VS (kept.drop k) → SlE w1 Fs VE (kept.drop k) → _) := Lib.hid (fun VS VE M hS hE => cut_fin K (w := w) P1 Q1 npq np nq (by omega) (by omega) HR1.out (by rw [← hp] at hb0; exact Turn.behind hb0 (Turn.behind hbd HT1.out)) (fun b g => by have := (hF b g).1; omega) VS VE M hS hE)
    have HL : Hid ((∀ v, S.Sg w1 Fs 1 v (kept.length - k) ((recV kept).drop k) → SlR w1 Fs v (kept.drop k)) ∧ (∀ v, S.Sg w1 Fs 1 v (kept.length - k) ((endV kept).drop k) → SlE w1 Fs v (kept.drop k))) := Lib.hid ⟨fun v h => by show S.Sg w1 Fs 1 v (kept.drop k).length (recV (kept.drop k)); rw [List.length_drop, recV, List.map_drop]; exact h, fun v h => by show S.Sg w1 Fs 1 v (kept.drop k).length (endV (kept.drop k)); rw [List.length_drop, endV, List.map_drop]; exact h⟩
    have hkeep : ∀ a : Addr, Fs a.block → w1.cell? a = w.cell? a := fun a ha => (HT1.out.cell (by have := (hF _ ha).1; omega) (hF _ ha).2).trans ((hbd.cell (by have := (hF _ ha).1; omega)).trans (hb0.cell (by have := (hF _ ha).1; omega)))
    have HS1 := Lib.hid (HS.out.keep hkeep)
    have HE1 := Lib.hid (HE.out.keep hkeep)
    clear HTr HKp HS0 hA hR1 ht1 p0 p1 p3 hx2 hkj hkw P1 Q1 HS2 HE2 hkeep hb0
    have hMM : ∃ m : Nat, m = syn - k ∧ (k ≤ syn → (syn : Int) - (k : Int) = (m : Int)) := ⟨syn - k, rfl, fun h => by omega⟩
    obtain ⟨m, hm, hms⟩ := hMM
    by_cases hks : k ≤ syn
    · have hms := hms hks
      have HM := Lib.hid (show (syn - k : Nat) = m by omega)
      clear hm
      rcases Nat.lt_or_ge k c1 with e1 | e1
      · have e1' : c1 ≠ k := by omega
        rcases Nat.lt_or_ge k c2 with e2 | e2
        · have e2' : c2 ≠ k := by omega
          have HF := Lib.hid (HC.out (.slice (some (a1.add k)) (kept.length - k) (c1 - k)) (.slice (some (a2.add k)) (kept.length - k) (c2 - k)) (.int .i64 (m : Int)) (HL.out.1 (.slice (some (a1.add k)) (kept.length - k) (c1 - k)) (by have g := Sg_drop HS1.out k hk; exact g)) (HL.out.2 (.slice (some (a2.add k)) (kept.length - k) (c2 - k)) (by have g := Sg_drop HE1.out k hk; exact g)))
          clear HC HL HS1 HE1
          go_wp2
          refine bodyPost_ret (results_bk rfl _ rfl HF.out.1 Try.underlying55 rfl infoMd) rfl ?_
          rw [HNE.out]
          exact ⟨_, _, ret_v (by rw [HM.out]), HF.out.2⟩
        · obtain rfl : c2 = k := by omega
          have HF := Lib.hid (HC.out (.slice (some (a1.add c2)) 0 (c1 - c2)) (.slice (some a2) 0 0) (.int .i64 (m : Int)) (HL.out.1 (.slice (some (a1.add c2)) 0 (c1 - c2)) (by have g := Sg_drop HS1.out c2 hk; rw [show kept.length - c2 = 0 by omega] at g ⊢; exact g)) (HL.out.2 (.slice (some a2) 0 0) (by have g := Sg_drop' HE1.out (by omega) hk; rw [show kept.length - c2 = 0 by omega] at g ⊢; exact g)))
          clear HC HL HS1 HE1
          go_wp2
          refine bodyPost_ret (results_bk rfl _ rfl HF.out.1 Try.underlying55 rfl infoMd) rfl ?_
          rw [HNE.out]
          exact ⟨_, _, ret_v (by rw [HM.out]), HF.out.2⟩
      · obtain rfl : c1 = k := by omega
        rcases Nat.lt_or_ge c1 c2 with e2 | e2
        · have e2' : c2 ≠ c1 := by omega
          have HF := Lib.hid (HC.out (.slice (some a1) 0 0) (.slice (some (a2.add c1)) 0 (c2 - c1)) (.int .i64 (m : Int)) (HL.out.1 (.slice (some a1) 0 0) (by have g := Sg_drop' HS1.out (by omega) hk; rw [show kept.length - c1 = 0 by omega] at g ⊢; exact g)) (HL.out.2 (.slice (some (a2.add c1)) 0 (c2 - c1)) (by have g := Sg_drop HE1.out c1 hk; rw [show kept.length - c1 = 0 by omega] at g ⊢; exact g)))
          clear HC HL HS1 HE1
          go_wp2
          refine bodyPost_ret (results_bk rfl _ rfl HF.out.1 Try.underlying55 rfl infoMd) rfl ?_
          rw [HNE.out]
          exact ⟨_, _, ret_v (by rw [HM.out]), HF.out.2⟩
        · obtain rfl : c2 = c1 := by omega
          have HF := Lib.hid (HC.out (.slice (some a1) 0 0) (.slice (some a2) 0 0) (.int .i64 (m : Int)) (HL.out.1 (.slice (some a1) 0 0) (by have g := Sg_drop' HS1.out (by omega) hk; rw [show kept.length - c2 = 0 by omega] at g ⊢; exact g)) (HL.out.2 (.slice (some a2) 0 0) (by have g := Sg_drop' HE1.out (by omega) hk; rw [show kept.length - c2 = 0 by omega] at g ⊢; exact g)))
          clear HC HL HS1 HE1
          go_wp2
          refine bodyPost_ret (results_bk rfl _ rfl HF.out.1 Try.underlying55 rfl infoMd) rfl ?_
          rw [HNE.out]
          exact ⟨_, _, ret_v (by rw [HM.out]), HF.out.2⟩
    · have hms : (syn : Int) - (k : Int) < 0 := by omega
      have HM := Lib.hid (show (syn - k : Nat) = 0 by omega)
      clear hm
      rcases Nat.lt_or_ge k c1 with e1 | e1
      · have e1' : c1 ≠ k := by omega
        rcases Nat.lt_or_ge k c2 with e2 | e2
        · have e2' : c2 ≠ k := by omega
          have HF := Lib.hid (HC.out (.slice (some (a1.add k)) (kept.length - k) (c1 - k)) (.slice (some (a2.add k)) (kept.length - k) (c2 - k)) (.int .i64 0) (HL.out.1 (.slice (some (a1.add k)) (kept.length - k) (c1 - k)) (by have g := Sg_drop HS1.out k hk; exact g)) (HL.out.2 (.slice (some (a2.add k)) (kept.length - k) (c2 - k)) (by have g := Sg_drop HE1.out k hk; exact g)))
          clear HC HL HS1 HE1
          go_wp2
          refine bodyPost_ret (results_bk rfl _ rfl HF.out.1 Try.underlying55 rfl infoMd) rfl ?_
          rw [HNE.out]
          exact ⟨_, _, ret_v (by rw [HM.out]; rfl), HF.out.2⟩
        · obtain rfl : c2 = k := by omega
          have HF := Lib.hid (HC.out (.slice (some (a1.add c2)) 0 (c1 - c2)) (.slice (some a2) 0 0) (.int .i64 0) (HL.out.1 (.slice (some (a1.add c2)) 0 (c1 - c2)) (by have g := Sg_drop HS1.out c2 hk; rw [show kept.length - c2 = 0 by omega] at g ⊢; exact g)) (HL.out.2 (.slice (some a2) 0 0) (by have g := Sg_drop' HE1.out (by omega) hk; rw [show kept.length - c2 = 0 by omega] at g ⊢; exact g)))
          clear HC HL HS1 HE1
          go_wp2
          refine bodyPost_ret (results_bk rfl _ rfl HF.out.1 Try.underlying55 rfl infoMd) rfl ?_
          rw [HNE.out]
          exact ⟨_, _, ret_v (by rw [HM.out]; rfl), HF.out.2⟩
      · obtain rfl : c1 = k := by omega
        rcases Nat.lt_or_ge c1 c2 with e2 | e2
        · have e2' : c2 ≠ c1 := by omega
          have HF := Lib.hid (HC.out (.slice (some a1) 0 0) (.slice (some (a2.add c1)) 0 (c2 - c1)) (.int .i64 0) (HL.out.1 (.slice (some a1) 0 0) (by have g := Sg_drop' HS1.out (by omega) hk; rw [show kept.length - c1 = 0 by omega] at g ⊢; exact g)) (HL.out.2 (.slice (some (a2.add c1)) 0 (c2 - c1)) (by have g := Sg_drop HE1.out c1 hk; rw [show kept.length - c1 = 0 by omega] at g ⊢; exact g)))
          clear HC HL HS1 HE1
          go_wp2
          refine bodyPost_ret (results_bk rfl _ rfl HF.out.1 Try.underlying55 rfl infoMd) rfl ?_
          rw [HNE.out]
          exact ⟨_, _, ret_v (by rw [HM.out]; rfl), HF.out.2⟩
        · obtain rfl : c2 = c1 := by omega
          have HF := Lib.hid (HC.out (.slice (some a1) 0 0) (.slice (some a2) 0 0) (.int .i64 0) (HL.out.1 (.slice (some a1) 0 0) (by have g := Sg_drop' HS1.out (by omega) hk; rw [show kept.length - c2 = 0 by omega] at g ⊢; exact g)) (HL.out.2 (.slice (some a2) 0 0) (by have g := Sg_drop' HE1.out (by omega) hk; rw [show kept.length - c2 = 0 by omega] at g ⊢; exact g)))
          clear HC HL HS1 HE1
          go_wp2
          refine bodyPost_ret (results_bk rfl _ rfl HF.out.1 Try.underlying55 rfl infoMd) rfl ?_
          rw [HNE.out]
          exact ⟨_, _, ret_v (by rw [HM.out]; rfl), HF.out.2⟩
end

end Go.Proofs.Ytnjhbmjhldfdpaa
