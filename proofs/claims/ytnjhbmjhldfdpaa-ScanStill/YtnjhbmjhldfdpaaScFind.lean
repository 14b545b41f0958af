/-
  Package scan: the sector of a number, of whatever place; the frame of a number; what its flag says.
-/
import Derived.Test.YtnjhbmjhldfdpaaScMath2
import Derived.Test.YtnjhbmjhldfdpaaJE
namespace Go.Proofs.Ytnjhbmjhldfdpaa.Q

/-- the frame with a number at a sector, if there is one -/
def fnd (d : D.Dk) (i : Int) (epoch n : Nat) : Option R.Fr :=
  if d.there i then
    match R.parse (d.read i.toNat) with
    | some f => if f.seq = n ∧ f.epoch = epoch then some f else none
    | none => none
  else none

theorem good_no {d : D.Dk} {i : Int} {e n : Nat} (h : fnd d i e n = none) (b : Bool) : good d i e n b = none := by
  unfold fnd at h
  unfold good
  split
  · rename_i ht
    rw [if_pos ht] at h
    cases hp : R.parse (d.read i.toNat) with
    | none => rfl
    | some f =>
      rw [hp] at h
      simp only at h ⊢
      by_cases hc : f.seq = n ∧ f.epoch = e
      · rw [if_pos hc] at h; cases h
      · rw [if_neg (fun g => hc ⟨g.1, g.2.1⟩)]
  · rfl
theorem good_yes {d : D.Dk} {i : Int} {e n : Nat} {f : R.Fr} (h : fnd d i e n = some f) (b : Bool) : good d i e n b = if (f.flag.toNat % 2 == 1) = b then some f else none := by
  unfold fnd at h
  unfold good
  split
  · rename_i ht
    rw [if_pos ht] at h
    cases hp : R.parse (d.read i.toNat) with
    | none => rw [hp] at h; cases h
    | some g =>
      rw [hp] at h
      simp only at h ⊢
      by_cases hc : g.seq = n ∧ g.epoch = e
      · rw [if_pos hc] at h
        cases h
        by_cases hf : (f.flag.toNat % 2 == 1) = b
        · rw [if_pos hf, if_pos ⟨hc.1, hc.2, hf⟩]
        · rw [if_neg hf, if_neg (fun k => hf k.2.2)]
      · rw [if_neg hc] at h; cases h
  · rename_i ht
    rw [if_neg ht] at h; cases h
theorem fnd_of {d : D.Dk} {i : Int} {e n : Nat} (ht : d.there i) {f : R.Fr} (hp : R.parse (d.read i.toNat) = some f) : fnd d i e n = if f.seq = n ∧ f.epoch = e then some f else none := by
  unfold fnd; rw [if_pos ht, hp]
theorem fnd_none {d : D.Dk} {i : Int} {e n : Nat} (ht : d.there i) (hp : R.parse (d.read i.toNat) = none) : fnd d i e n = none := by
  unfold fnd; rw [if_pos ht, hp]
theorem fnd_out {d : D.Dk} {i : Int} {e n : Nat} (ht : ¬ d.there i) : fnd d i e n = none := by
  unfold fnd; rw [if_neg ht]

theorem emod_le (n : Nat) {many : Int} (hm : 1 ≤ many) : (n : Int) % many ≤ (n : Int) := by
  obtain ⟨m, rfl⟩ := Int.eq_ofNat_of_zero_le (show 0 ≤ many by omega)
  have := Nat.mod_le n m
  omega
/-- the sector of a number, of a place with whatever ints: a sum that goes round at 2^64 -/
def ixI (first many : Int) (n : Nat) : Int := if first + (n : Int) % many ≤ 9223372036854775807 then first + (n : Int) % many else first + (n : Int) % many - 18446744073709551616
theorem ixI_range {first many : Int} {n : Nat} (hf0 : 0 ≤ first) (hf1 : first ≤ 9223372036854775807) (hm : 1 ≤ many) (hn : n < 4294967296) : -9223372036854775808 ≤ ixI first many n ∧ ixI first many n ≤ 9223372036854775807 := by
  have h1 := Int.emod_nonneg (n : Int) (show many ≠ 0 by omega)
  have h2 : (n : Int) % many ≤ (n : Int) := emod_le n hm
  unfold ixI
  split <;> omega
theorem ixI_small (first many n : Nat) (hf : first ≤ 1024) (h1 : 1 ≤ many) (hm : many ≤ 1024) : ixI (first : Int) (many : Int) n = (G.at_ first many n : Nat) := by
  have h2 := Nat.mod_lt n (show many > 0 by omega)
  unfold ixI G.at_
  rw [show (n : Int) % (many : Int) = ((n % many : Nat) : Int) by omega]
  rw [if_pos (by omega)]
  omega
end Go.Proofs.Ytnjhbmjhldfdpaa.Q

namespace Go.Proofs.Ytnjhbmjhldfdpaa
open Go.RowKit

set_option maxRecDepth 100000 in
set_option maxHeartbeats 1000000 in
theorem ring_at_any (first many : Int) (epoch seq : Nat) (w : World) (hf0 : 0 ≤ first) (hf1 : first ≤ 9223372036854775807) (h1 : 1 ≤ many) (hm : many ≤ 9223372036854775807) (hs : seq < 4294967296) :
    Calls Try.prog 42 #[.agg #[.int .i64 first, .int .i64 many, .int .u32 (epoch : Int)], .int .u32 (seq : Int)] w fun e w' => e = .returned (.int .i64 (Q.ixI first many seq)) ∧ Below w.heap.size w w' := by
  have q0 := Int.emod_nonneg (seq : Int) (show many ≠ 0 by omega)
  have q1 := Q.emod_le seq h1
  have HX : Hid (Q.ixI first many seq = if first + (seq : Int) % many ≤ 9223372036854775807 then first + (seq : Int) % many else first + (seq : Int) % many - 18446744073709551616) := Lib.hid rfl
  obtain ⟨q, hq⟩ : ∃ q, q = (seq : Int) % many := ⟨_, rfl⟩
  rw [← hq] at q0 q1 HX
  have hq' : (seq : Int) % many = q := hq.symm
  have hne : ¬ many = 0 := by omega
  have hn1 : ¬ many < 1 := by omega
  have hb : Below w.heap.size w (w.alloc (.cells #[.int .i64 first, .int .i64 many, .int .u32 (epoch : Int)] 25)) := (Below.refl _ _).alloc (Nat.le_refl _) _
  clear hq
  by_cases hov : first + q ≤ 9223372036854775807
  · have HR : Hid (Q.ixI first many seq = first + q) := Lib.hid (by rw [HX.out, if_pos hov])
    go_enter Try.func42, Try.ntmps42
    go_wp2_with fail
    go_quiet (fail)
    go_wp2
    go_ret
    exact ⟨ret_v (by rw [HR.out]; rfl), below_drewN hb _⟩
  · have HR : Hid (Q.ixI first many seq = first + q - 18446744073709551616) := Lib.hid (by rw [HX.out, if_neg hov])
    go_enter Try.func42, Try.ntmps42
    go_wp2_with fail
    go_quiet (fail)
    go_wp2
    go_ret
    exact ⟨ret_v (by rw [HR.out]; exact congrArg (Value.int .i64) (show wrap64 (first + q) = _ by unfold wrap64; omega)), below_drewN hb _⟩

set_option maxRecDepth 100000 in
set_option maxHeartbeats 1000000 in
theorem rat_all (first many : Int) (seq : Nat) (w : World) (hf0 : 0 ≤ first) (hf1 : first ≤ 9223372036854775807) (h1 : 1 ≤ many) (hm : many ≤ 9223372036854775807) (hs : seq < 4294967296) :
    Calls Try.prog 36 #[.int .i64 first, .int .i64 many, .int .u32 (seq : Int)] w fun e w' => e = .returned (.int .i64 (Q.ixI first many seq)) ∧ w' = w := by
  have q0 := Int.emod_nonneg (seq : Int) (show many ≠ 0 by omega)
  have q1 := Q.emod_le seq h1
  have HX : Hid (Q.ixI first many seq = if first + (seq : Int) % many ≤ 9223372036854775807 then first + (seq : Int) % many else first + (seq : Int) % many - 18446744073709551616) := Lib.hid rfl
  obtain ⟨q, hq⟩ : ∃ q, q = (seq : Int) % many := ⟨_, rfl⟩
  rw [← hq] at q0 q1 HX
  have hq' : (seq : Int) % many = q := hq.symm
  have hne : ¬ many = 0 := by omega
  clear hq
  by_cases hov : first + q ≤ 9223372036854775807
  · have HR : Hid (Q.ixI first many seq = first + q) := Lib.hid (by rw [HX.out, if_pos hov])
    go_enter Try.func36, Try.ntmps36
    go_wp2
    go_ret
    exact ⟨ret_v (by rw [HR.out]; rfl), rfl⟩
  · have HR : Hid (Q.ixI first many seq = first + q - 18446744073709551616) := Lib.hid (by rw [HX.out, if_neg hov])
    go_enter Try.func36, Try.ntmps36
    go_wp2
    go_ret
    exact ⟨ret_v (by rw [HR.out]; exact congrArg (Value.int .i64) (show wrap64 (first + q) = _ by unfold wrap64; omega)), rfl⟩

theorem and_one : ∀ n : Nat, n < 256 → (bits .and .u8 (n : Int) 1 != 0) = (n % 2 == 1) := by decide +kernel
theorem and_two : ∀ n : Nat, n < 256 → (bits .and .u8 (n : Int) 2 != 0) = (n / 2 % 2 == 1) := by decide +kernel

set_option maxRecDepth 100000 in
set_option maxHeartbeats 1000000 in
theorem has_first {w : World} {F : Nat → Prop} {v : Value} {f : R.Fr} (h : FrV w F v f) :
    Calls Try.prog 34 #[v, .int .u8 1] w fun e w' => e = .returned (.bool (f.flag.toNat % 2 == 1)) ∧ Below w.heap.size w w' := by
  obtain ⟨vb, rfl, hb⟩ := h
  obtain ⟨A, cap, rfl, hc⟩ := Sg_form hb
  clear hb
  go_enter Try.func34, Try.ntmps34
  go_wp2
  go_ret
  exact ⟨ret_v (v_bool (and_one _ f.flag.toNat_lt)), (Below.refl _ _).alloc (Nat.le_refl _) _⟩

set_option maxRecDepth 100000 in
set_option maxHeartbeats 1000000 in
theorem has_last {w : World} {F : Nat → Prop} {v : Value} {f : R.Fr} (h : FrV w F v f) :
    Calls Try.prog 34 #[v, .int .u8 2] w fun e w' => e = .returned (.bool (f.flag.toNat / 2 % 2 == 1)) ∧ Below w.heap.size w w' := by
  obtain ⟨vb, rfl, hb⟩ := h
  obtain ⟨A, cap, rfl, hc⟩ := Sg_form hb
  clear hb
  go_enter Try.func34, Try.ntmps34
  go_wp2
  go_ret
  exact ⟨ret_v (v_bool (and_two _ f.flag.toNat_lt)), (Below.refl _ _).alloc (Nat.le_refl _) _⟩

theorem infoFr : (Try.prog.info? 89).map (·.size) = some 4 := by kernel_rfl

/-- what find tells -/
def Fd (w : World) (o : Option R.Fr) (e : Ending) (w' : World) : Prop :=
  ∃ vf f, e = .returned (.tuple #[vf, .bool o.isSome]) ∧ FrV w' (S.New w w') vf f ∧ f.Num ∧ f.body.length ≤ 50 ∧ (∀ g, o = some g → f = g) ∧ Below w.heap.size w w'

section
variable {H : World → (Nat → Prop) → Value → D.Dk → Prop}

set_option maxRecDepth 100000 in
set_option maxHeartbeats 4000000 in
theorem find_any (K : DiskOk H) (KF : FrameOk) {w : World} {F : Nat → Prop} {vd : Value} {d : D.Dk} (h : H w F vd d) (first many : Int) (epoch n : Nat) (hf0 : 0 ≤ first) (hf1 : first ≤ 9223372036854775807) (h1 : 1 ≤ many) (hm : many ≤ 9223372036854775807) (_he : epoch < 4294967296) (hn : n < 4294967296) :
    Calls Try.prog 33 #[vd, .agg #[.int .i64 first, .int .i64 many, .int .u32 (epoch : Int)], .int .u32 (n : Int)] w (Fd w (Q.fnd d (Q.ixI first many n) epoch n)) := by
  obtain ⟨va, rfl⟩ := K.ptr h
  have HH := Lib.hid h
  have hlt := K.lt h
  have hfit := (K.fit h).1
  clear h
  obtain ⟨ix, hix⟩ : ∃ ix, ix = Q.ixI first many n := ⟨_, rfl⟩
  have hr := Q.ixI_range hf0 hf1 h1 hn
  rw [← hix] at hr ⊢
  have hr0 := hr.1
  have hr1 := hr.2
  have HIX := Lib.hid hix
  clear hix hr
  have P0 := (Bk.new w [.int .i64 first, .int .i64 many, .int .u32 (epoch : Int)] 25 rfl).alloc (.cells #[.int .u32 0, .int .u32 0, .int .u8 0, .slice none 0 0] 89)
  have Q0 := Bk.new (w.alloc (.cells #[.int .i64 first, .int .i64 many, .int .u32 (epoch : Int)] 25)) [.int .u32 0, .int .u32 0, .int .u8 0, .slice none 0 0] 89 (g := w.heap.size + 1) (by simp)
  have hb0 : Below w.heap.size w ((w.alloc (.cells #[.int .i64 first, .int .i64 many, .int .u32 (epoch : Int)] 25)).alloc (.cells #[.int .u32 0, .int .u32 0, .int .u8 0, .slice none 0 0] 89)) := two_new
  have hz0 : ((w.alloc (.cells #[.int .i64 first, .int .i64 many, .int .u32 (epoch : Int)] 25)).alloc (.cells #[.int .u32 0, .int .u32 0, .int .u8 0, .slice none 0 0] 89)).heap.size = w.heap.size + 1 + 1 := by simp
  have HA := Lib.hid (ring_at_any first many epoch n ((w.alloc (.cells #[.int .i64 first, .int .i64 many, .int .u32 (epoch : Int)] 25)).alloc (.cells #[.int .u32 0, .int .u32 0, .int .u8 0, .slice none 0 0] 89)) hf0 hf1 h1 hm hn)
  rw [← HIX.out] at HA
  go_enter Try.func33, Try.ntmps33
  go_wp2_with fail
  refine HA.out.mono ?_
  rintro e w1 ⟨rfl, hb1⟩
  generalize (w.alloc (.cells #[.int .i64 first, .int .i64 many, .int .u32 (epoch : Int)] 25)).alloc (.cells #[.int .u32 0, .int .u32 0, .int .u8 0, .slice none 0 0] 89) = w0 at *
  have hs0 := hb0.size
  have hs1 := hb1.size
  generalize hp : w.heap.size = p at *
  generalize hq : p + 1 = q at *
  have P1 := P0.step hb1
  have Q1 := Q0.step hb1
  have hbw1 : Below w.heap.size w w1 := by rw [hp]; exact hb0.trans (hb1.mono (by omega))
  have HR := Lib.hid (K.read ix (K.below HH.out hbw1) hr0 hr1)
  clear HA P0 Q0
  go_wp2_with fail
  refine HR.out.mono ?_
  rintro e w2 ⟨vb, l, k, rfl, hrd, hl2, hb2⟩
  have P2 := P1.step hb2
  have Q2 := Q1.step hb2
  have hs2 := hb2.size
  have hbw2 := below_two hbw1 hb2
  clear HR P1 Q1
  by_cases ht : d.there ix
  · obtain ⟨hl, hk⟩ : l = d.read ix.toNat ∧ k = 0 := by
      rw [rdV, if_pos ht] at hrd
      have e1 := hrd
      simp only [Value.tuple.injEq, Array.mk.injEq, List.cons.injEq, Value.string.injEq, ByteArray.mk.injEq, Value.int.injEq, true_and, and_true] at e1
      exact ⟨e1.1.symm, e1.2.symm⟩
    subst hk
    have hll : l.length ≤ 64 := by rw [hl]; exact Nat.le_of_eq (hfit.read_len (by have := ht.1; have := ht.2; omega))
    have HL := Lib.hid hl
    have HT := Lib.hid ht
    clear hl ht hrd
    have HPa := Lib.hid (KF.parse hl2 (fun b g => g.2) (by omega))
    have hpok := parseF_ok l
    obtain ⟨A2, cap2, rfl, hc2⟩ := Sg_form hl2
    clear hl2
    obtain ⟨f, hf⟩ : ∃ f, f = parseF l := ⟨_, rfl⟩
    obtain ⟨E, hE⟩ : ∃ E, E = parseE l := ⟨_, rfl⟩
    rw [← hf, ← hE] at HPa
    rw [← hf] at hpok
    have HF := Lib.hid hf
    have HE := Lib.hid hE
    clear hf hE
    go_wp2_with fail
    refine HPa.out.mono ?_
    rintro e w3 ⟨vf, rfl, ⟨vb, rfl, hB3⟩, hb3⟩
    obtain ⟨Ab, capb, rfl, hcb⟩ := Sg_form hB3
    have P3 := (P2.step hb3).alloc (.cells #[.int .u32 (f.epoch : Int), .int .u32 (f.seq : Int), .int .u8 (f.flag.toNat : Int), .slice Ab f.body.length capb] 89)
    have Q3 := (Q2.step hb3).alloc (.cells #[.int .u32 (f.epoch : Int), .int .u32 (f.seq : Int), .int .u8 (f.flag.toNat : Int), .slice Ab f.body.length capb] 89)
    have R3 := Bk.new w3 [.int .u32 (f.epoch : Int), .int .u32 (f.seq : Int), .int .u8 (f.flag.toNat : Int), .slice Ab f.body.length capb] 89 rfl
    have hs3 := hb3.size
    have hbw3 := below_two hbw2 hb3
    have hba : Below w3.heap.size w3 (w3.alloc (.cells #[.int .u32 (f.epoch : Int), .int .u32 (f.seq : Int), .int .u8 (f.flag.toNat : Int), .slice Ab f.body.length capb] 89)) := (Below.refl _ _).alloc (Nat.le_refl _) _
    have hza : (w3.alloc (.cells #[.int .u32 (f.epoch : Int), .int .u32 (f.seq : Int), .int .u8 (f.flag.toNat : Int), .slice Ab f.body.length capb] 89)).heap.size = w3.heap.size + 1 := by simp
    have hB4 := hB3.below hba (fun b g => g.2)
    have hbw4 := below_two hbw3 hba
    clear P2 Q2 HPa hB3 hb3 hba
    go_wp2_with fail
    generalize w3.alloc (.cells #[.int .u32 (f.epoch : Int), .int .u32 (f.seq : Int), .int .u8 (f.flag.toNat : Int), .slice Ab f.body.length capb] 89) = w4 at *
    obtain ⟨r, hr⟩ : ∃ r, r = w3.heap.size := ⟨_, rfl⟩
    rw [← hr] at R3 ⊢
    have hrq : q < r := by omega
    have hrl : r < w4.heap.size := by omega
    have p2 : w4.cell? ⟨p, 2, none⟩ = some (.int .u32 (epoch : Int)) := P3.cell 2 _ rfl
    have r0 : w4.cell? ⟨r, 0, none⟩ = some (.int .u32 (f.epoch : Int)) := R3.cell 0 _ rfl
    have r1 : w4.cell? ⟨r, 1, none⟩ = some (.int .u32 (f.seq : Int)) := R3.cell 1 _ rfl
    have r2 : w4.cell? ⟨r, 2, none⟩ = some (.int .u8 (f.flag.toNat : Int)) := R3.cell 2 _ rfl
    have r3 : w4.cell? ⟨r, 3, none⟩ = some (.slice Ab f.body.length capb) := R3.cell 3 _ rfl
    have q0 := Q3.cell 0 _ rfl
    have q1 := Q3.cell 1 _ rfl
    have q2 := Q3.cell 2 _ rfl
    have q3 := Q3.cell 3 _ rfl
    have f0 := Q3.fz 0 (by simp)
    have f1 := Q3.fz 1 (by simp)
    have f2 := Q3.fz 2 (by simp)
    have f3 := Q3.fz 3 (by simp)
    have npq : ¬ p = q := by omega
    have nqr : ¬ q = r := by omega
    clear P3 R3
    have Q5 := Q3.all4 (.int .u32 (f.epoch : Int)) (.int .u32 (f.seq : Int)) (.int .u8 (f.flag.toNat : Int)) (.slice Ab f.body.length capb)
    have hb5 : Below (w.heap.size + 1) w4 ((((w4.setCell ⟨q, 0, none⟩ (.int .u32 (f.epoch : Int))).setCell ⟨q, 1, none⟩ (.int .u32 (f.seq : Int))).setCell ⟨q, 2, none⟩ (.int .u8 (f.flag.toNat : Int))).setCell ⟨q, 3, none⟩ (.slice Ab f.body.length capb)) :=
      ((((Below.refl _ w4).setCell (p := ⟨q, 0, none⟩) (by show _ ≤ q; omega) _).setCell (p := ⟨q, 1, none⟩) (by show _ ≤ q; omega) _).setCell (p := ⟨q, 2, none⟩) (by show _ ≤ q; omega) _).setCell (p := ⟨q, 3, none⟩) (by show _ ≤ q; omega) _
    have HQ5 := Lib.hid Q5
    have HB6 := Lib.hid (hbw4.trans (hb5.mono (by omega)))
    have hqb : Turn (fun b => b = q) w4 ((((w4.setCell ⟨q, 0, none⟩ (.int .u32 (f.epoch : Int))).setCell ⟨q, 1, none⟩ (.int .u32 (f.seq : Int))).setCell ⟨q, 2, none⟩ (.int .u8 (f.flag.toNat : Int))).setCell ⟨q, 3, none⟩ (.slice Ab f.body.length capb)) :=
      ((((Turn.refl (fun b => b = q) w4).put (q := q) rfl 0 _).put (q := q) rfl 1 _).put (q := q) rfl 2 _).put (q := q) rfl 3 _
    have HB5 : Hid (SlB ((((w4.setCell ⟨q, 0, none⟩ (.int .u32 (f.epoch : Int))).setCell ⟨q, 1, none⟩ (.int .u32 (f.seq : Int))).setCell ⟨q, 2, none⟩ (.int .u8 (f.flag.toNat : Int))).setCell ⟨q, 3, none⟩ (.slice Ab f.body.length capb)) (S.New w ((((w4.setCell ⟨q, 0, none⟩ (.int .u32 (f.epoch : Int))).setCell ⟨q, 1, none⟩ (.int .u32 (f.seq : Int))).setCell ⟨q, 2, none⟩ (.int .u8 (f.flag.toNat : Int))).setCell ⟨q, 3, none⟩ (.slice Ab f.body.length capb))) (.slice Ab f.body.length capb) f.body) :=
      Lib.hid (S.Sg.wider (hB4.keep fun a ha => hqb.cell (Nat.lt_of_lt_of_le ha.2 (by omega)) (fun e => by have := ha.1; omega)) (fun b g => ⟨by have := g.1; omega, Nat.lt_of_lt_of_le g.2 (Nat.le_trans (by omega) hqb.size)⟩))
    clear Q5 hb5 hqb hB4 Q3 hr hza
    by_cases hE0 : E = 0
    · have HPs : Hid (R.parse (d.read ix.toNat) = some f) := Lib.hid (by
        have e1 := HE.out
        have e2 := HF.out
        rw [← HL.out]
        unfold parseE at e1
        unfold parseF at e2
        cases hp : R.parse l with
        | none => rw [hp] at e1; rw [e1] at hE0; cases hE0
        | some g => rw [hp] at e2; rw [e2])
      subst hE0
      by_cases hce : f.epoch = epoch
      · have hcc : ((f.epoch : Int) == (epoch : Int)) = true := by simp; omega
        by_cases hcs : f.seq = n
        · have hcs' : ((f.seq : Int) == (n : Int)) = true := by simp; omega
          have HV := Lib.hid (show Q.fnd d ix epoch n = some f by rw [Q.fnd_of HT.out HPs.out, if_pos ⟨hcs, hce⟩])
          clear hcs hce
          go_region
          all_goals (try go_wp2)
          refine bodyPost_ret (results_bk_1 rfl _ rfl (Bk.keep HQ5.out rfl (Nat.le_refl _)) Try.underlying89 rfl infoFr) rfl ?_
          refine ⟨_, f, ret_v (by rw [HV.out]; rfl), ⟨_, rfl, HB5.out⟩, hpok.1, hpok.2, (fun g hg => by rw [HV.out] at hg; exact Option.some.inj hg), ⟨HB6.out.os, HB6.out.tape, HB6.out.output, HB6.out.size, HB6.out.block⟩⟩
        · have hcs' : ((f.seq : Int) == (n : Int)) = false := by simp; omega
          have HV := Lib.hid (show Q.fnd d ix epoch n = none by rw [Q.fnd_of HT.out HPs.out, if_neg (fun g => hcs g.1)])
          clear hcs hce
          go_region
          all_goals (try go_wp2)
          refine bodyPost_ret (results_bk_1 rfl _ rfl (Bk.keep HQ5.out rfl (Nat.le_refl _)) Try.underlying89 rfl infoFr) rfl ?_
          refine ⟨_, f, ret_v (by rw [HV.out]; rfl), ⟨_, rfl, HB5.out⟩, hpok.1, hpok.2, (fun g hg => by rw [HV.out] at hg; cases hg), ⟨HB6.out.os, HB6.out.tape, HB6.out.output, HB6.out.size, HB6.out.block⟩⟩
      · have hcc : ((f.epoch : Int) == (epoch : Int)) = false := by simp; omega
        have HV := Lib.hid (show Q.fnd d ix epoch n = none by rw [Q.fnd_of HT.out HPs.out, if_neg (fun g => hce g.2)])
        clear hce
        go_region
        all_goals (try go_wp2)
        refine bodyPost_ret (results_bk_1 rfl _ rfl (Bk.keep HQ5.out rfl (Nat.le_refl _)) Try.underlying89 rfl infoFr) rfl ?_
        refine ⟨_, f, ret_v (by rw [HV.out]; rfl), ⟨_, rfl, HB5.out⟩, hpok.1, hpok.2, (fun g hg => by rw [HV.out] at hg; cases hg), ⟨HB6.out.os, HB6.out.tape, HB6.out.output, HB6.out.size, HB6.out.block⟩⟩
    · have hd' : (E == 0) = false := by simpa using hE0
      have HV := Lib.hid (show Q.fnd d ix epoch n = none by
        refine Q.fnd_none HT.out ?_
        have e1 := HE.out
        rw [← HL.out]
        unfold parseE at e1
        cases hp : R.parse l with
        | none => rfl
        | some g => rw [hp] at e1; exact absurd e1 hE0)
      go_region
      all_goals (try go_wp2)
      refine bodyPost_ret (results_bk_1 rfl _ rfl (Bk.keep HQ5.out rfl (Nat.le_refl _)) Try.underlying89 rfl infoFr) rfl ?_
      refine ⟨_, f, ret_v (by rw [HV.out]; rfl), ⟨_, rfl, HB5.out⟩, hpok.1, hpok.2, (fun g hg => by rw [HV.out] at hg; cases hg), ⟨HB6.out.os, HB6.out.tape, HB6.out.output, HB6.out.size, HB6.out.block⟩⟩
  · have hk : k = 11 := by
      rw [rdV, if_neg ht] at hrd
      simp only [Value.tuple.injEq, Array.mk.injEq, List.cons.injEq, Value.int.injEq, true_and, and_true] at hrd
      exact hrd.2.symm
    subst hk
    have HFn := Lib.hid (Q.fnd_out (e := epoch) (n := n) ht)
    obtain ⟨A2, cap2, rfl, hc2⟩ := Sg_form hl2
    clear hrd hl2 ht
    have q0 := Q2.cell 0 _ rfl
    have q1 := Q2.cell 1 _ rfl
    have q2 := Q2.cell 2 _ rfl
    have q3 := Q2.cell 3 _ rfl
    have f0 := Q2.fz 0 (by simp)
    have f1 := Q2.fz 1 (by simp)
    have f2 := Q2.fz 2 (by simp)
    have f3 := Q2.fz 3 (by simp)
    have Q4 := Lib.hid (Q2.all4 (.int .u32 0) (.int .u32 0) (.int .u8 0) (.slice none 0 0))
    have hb4 := Lib.hid ((((hbw2.setCell (p := ⟨q, 0, none⟩) (by show _ ≤ q; omega) (.int .u32 0)).setCell (p := ⟨q, 1, none⟩) (by show _ ≤ q; omega) (.int .u32 0)).setCell (p := ⟨q, 2, none⟩) (by show _ ≤ q; omega) (.int .u8 0)).setCell (p := ⟨q, 3, none⟩) (by show _ ≤ q; omega) (.slice none 0 0))
    clear Q2
    go_wp2
    refine bodyPost_ret (results_bk_1 rfl _ rfl Q4.out Try.underlying89 rfl infoFr) rfl ?_
    rw [HFn.out]
    exact ⟨_, fr0, rfl, ⟨_, rfl, S.Sg.nil _ _ _ _ _⟩, ⟨by decide, by decide⟩, by decide, (fun g hg => by cases hg), hb4.out⟩
end

end Go.Proofs.Ytnjhbmjhldfdpaa
