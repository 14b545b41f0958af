/-
  Package slot: the function that tells a slot's frames in turn.
-/
import Derived.Test.YtbjbnjpdackloaaJE
namespace Go.Proofs.Ytbjbnjpdackloaa
open Go.RowKit

/-- what the function has captured: the disk, the area, the slot, its first sector, the number that is due, the checkpoint's number -/
structure Rx (w : World) (pd pa pw pf pu pe : Nat) (vd : Value) (first size which base due epoch : Nat) : Prop where
  d : Bk w pd [vd]
  a : Bk w pa [.int .i64 (first : Int), .int .i64 (size : Int)]
  wh : Bk w pw [.int .i64 (which : Int)]
  f : Bk w pf [.int .i64 (base : Int)]
  u : Bk w pu [.int .i64 (due : Int)]
  e : Bk w pe [.int .u32 (epoch : Int)]
  n1 : pd ≠ pu ∧ pa ≠ pu ∧ pw ≠ pu ∧ pf ≠ pu ∧ pe ≠ pu
  n2 : pd ≠ pe ∧ pa ≠ pe ∧ pw ≠ pe ∧ pf ≠ pe

section
variable {w w' : World} {pd pa pw pf pu pe : Nat} {vd : Value} {first size which base due epoch : Nat}

theorem Rx.step (h : Rx w pd pa pw pf pu pe vd first size which base due epoch) (hb : Below w.heap.size w w') : Rx w' pd pa pw pf pu pe vd first size which base due epoch :=
  ⟨h.d.step hb, h.a.step hb, h.wh.step hb, h.f.step hb, h.u.step hb, h.e.step hb, h.n1, h.n2⟩
theorem Rx.setE (h : Rx w pd pa pw pf pu pe vd first size which base due epoch) (e' : Nat) : Rx (w.setCell ⟨pe, 0, none⟩ (.int .u32 (e' : Int))) pd pa pw pf pu pe vd first size which base due e' :=
  ⟨h.d.other h.n2.1.symm _ _, h.a.other h.n2.2.1.symm _ _, h.wh.other h.n2.2.2.1.symm _ _, h.f.other h.n2.2.2.2.symm _ _, h.u.other h.n1.2.2.2.2 _ _, h.e.set 0 (by simp) _, h.n1, h.n2⟩
theorem Rx.setU (h : Rx w pd pa pw pf pu pe vd first size which base due epoch) (u' : Nat) : Rx (w.setCell ⟨pu, 0, none⟩ (.int .i64 (u' : Int))) pd pa pw pf pu pe vd first size which base u' epoch :=
  ⟨h.d.other h.n1.1.symm _ _, h.a.other h.n1.2.1.symm _ _, h.wh.other h.n1.2.2.1.symm _ _, h.f.other h.n1.2.2.2.1.symm _ _, h.u.set 0 (by simp) _, h.e.other h.n1.2.2.2.2.symm _ _, h.n1, h.n2⟩
theorem Rx.turn (h : Rx w pd pa pw pf pu pe vd first size which base due epoch) {F : Nat → Prop} (ht : Turn F w w') (hF : ∀ b, b < w.heap.size → (b = pd ∨ b = pa ∨ b = pw ∨ b = pf ∨ b = pu ∨ b = pe) → ¬ F b) : Rx w' pd pa pw pf pu pe vd first size which base due epoch :=
  ⟨h.d.turn ht (hF _ h.d.lt (by simp)), h.a.turn ht (hF _ h.a.lt (by simp)), h.wh.turn ht (hF _ h.wh.lt (by simp)), h.f.turn ht (hF _ h.f.lt (by simp)), h.u.turn ht (hF _ h.u.lt (by simp)), h.e.turn ht (hF _ h.e.lt (by simp)), h.n1, h.n2⟩
end

/-- the checkpoint's number behind a call -/
def nxE (d : D.Dk) (base due epoch : Nat) : Nat := if due = 0 then (parseF (d.read (base + due))).epoch else epoch
/-- is a frame the one that is due? -/
def okB (E : Int) (f : R.Fr) (ep which due : Nat) : Bool := decide (E = 0 ∧ f.epoch = ep ∧ (ep ≠ 0 ∧ ep % 2 = which) ∧ f.seq = due ∧ (f.flag.toNat % 2 == 1) = decide (due = 0))
def nxOk (d : D.Dk) (base which due epoch : Nat) : Bool := okB (parseE (d.read (base + due))) (parseF (d.read (base + due))) (nxE d base due epoch) which due

/-- a call's end: the number due is one more, the frame is handed back -/
theorem nx_fin {w w5 : World} {rs pd pa pw pf pu pe : Nat} {vd : Value} {first size which base due epoch : Nat} {f : R.Fr} {Ab : Option Addr} {capb : Nat} {z0 z1 z2 z3 : Value} (hR : Bk w5 rs [z0, z1, z2, z3]) (hrs : rs = w.heap.size) (hx : Rx w5 pd pa pw pf pu pe vd first size which base due epoch) (hlu : pu < w.heap.size) (hT : Turn (fun b => b = pe) w w5)
    (hlp : pd < w.heap.size ∧ pa < w.heap.size ∧ pw < w.heap.size ∧ pf < w.heap.size ∧ pe < w.heap.size) {Gb : Nat → Prop} (hB : SlB w5 Gb (.slice Ab f.body.length capb) f.body) (hG : ∀ b, Gb b → w.heap.size < b ∧ b < w5.heap.size) {w7 : World} {u1 : Int} (hu1 : u1 = ((due + 1 : Nat) : Int))
    (e7 : w7 = ((((w5.setCell ⟨pu, 0, none⟩ (.int .i64 u1)).setCell ⟨rs, 0, none⟩ (.int .u32 (f.epoch : Int))).setCell ⟨rs, 1, none⟩ (.int .u32 (f.seq : Int))).setCell ⟨rs, 2, none⟩ (.int .u8 (f.flag.toNat : Int))).setCell ⟨rs, 3, none⟩ (.slice Ab f.body.length capb)) :
    Bk w7 rs [.int .u32 (f.epoch : Int), .int .u32 (f.seq : Int), .int .u8 (f.flag.toNat : Int), .slice Ab f.body.length capb] ∧ FrV w7 (S.New w w7) (.agg #[.int .u32 (f.epoch : Int), .int .u32 (f.seq : Int), .int .u8 (f.flag.toNat : Int), .slice Ab f.body.length capb]) f ∧ Rx w7 pd pa pw pf pu pe vd first size which base (due + 1) epoch ∧ Turn (fun b => b = pu ∨ b = pe) w w7 := by
  subst hu1
  have hb6 : Turn (fun b => b = pu) w5 (w5.setCell ⟨pu, 0, none⟩ (.int .i64 ((due + 1 : Nat) : Int))) := (Turn.refl (fun b => b = pu) w5).put (q := pu) rfl 0 _
  have h6 := hx.setU (due + 1)
  have R6 := hR.turn hb6 (by omega)
  have hs6 : (w5.setCell ⟨pu, 0, none⟩ (.int .i64 ((due + 1 : Nat) : Int))).heap.size = w5.heap.size := by simp [World.setCell]
  generalize w5.setCell ⟨pu, 0, none⟩ (.int .i64 ((due + 1 : Nat) : Int)) = w6 at *
  have hb7 := turn4 w6 rs (.int .u32 (f.epoch : Int)) (.int .u32 (f.seq : Int)) (.int .u8 (f.flag.toNat : Int)) (.slice Ab f.body.length capb)
  have hs7 : ((((w6.setCell ⟨rs, 0, none⟩ (.int .u32 (f.epoch : Int))).setCell ⟨rs, 1, none⟩ (.int .u32 (f.seq : Int))).setCell ⟨rs, 2, none⟩ (.int .u8 (f.flag.toNat : Int))).setCell ⟨rs, 3, none⟩ (.slice Ab f.body.length capb)).heap.size = w6.heap.size := by simp [World.setCell]
  have R7 := R6.all4 (.int .u32 (f.epoch : Int)) (.int .u32 (f.seq : Int)) (.int .u8 (f.flag.toNat : Int)) (.slice Ab f.body.length capb)
  rw [← e7] at hb7 hs7 R7
  refine ⟨R7, ⟨_, rfl, ?_⟩, h6.turn hb7 (fun b _ g => by rcases g with rfl | rfl | rfl | rfl | rfl | rfl <;> omega), ?_⟩
  · refine S.Sg.wider (G := S.New w w7) ((hB.keep (w' := w6) fun a ha => hb6.cell (hG _ ha).2 (fun e => by have := (hG _ ha).1; omega)).keep (w' := w7) fun a ha => hb7.cell (by have := (hG _ ha).2; omega) (fun e => by have := (hG _ ha).1; omega)) (fun b g => ⟨by have := (hG b g).1; omega, by have := (hG b g).2; omega⟩)
  · refine ⟨hb7.os.trans (hb6.os.trans hT.os), hb7.tape.trans (hb6.tape.trans hT.tape), hb7.output.trans (hb6.output.trans hT.output), by have := hT.size; omega, fun k hk hn => ?_⟩
    have hs := hT.size
    exact (hb7.block k (by omega) (by omega)).trans ((hb6.block k (by omega) (fun e => hn (Or.inl e))).trans (hT.block k hk (fun e => hn (Or.inr e))))

section
variable {H : World → (Nat → Prop) → Value → D.Dk → Prop}

set_option maxRecDepth 100000 in
set_option maxHeartbeats 4000000 in
theorem next_end {w : World} {pd pa pw pf pu pe : Nat} {vd : Value} {first size which base epoch : Nat} (hx : Rx w pd pa pw pf pu pe vd first size which base size epoch) :
    Calls Try.prog 47 #[.pointer (some ⟨pu, 0, none⟩), .pointer (some ⟨pa, 0, none⟩), .pointer (some ⟨pd, 0, none⟩), .pointer (some ⟨pf, 0, none⟩), .pointer (some ⟨pe, 0, none⟩), .pointer (some ⟨pw, 0, none⟩)] w fun e w' => ∃ vf, e = .returned (.tuple #[vf, .bool false]) ∧ FrV w' (S.New w w') vf fr0 ∧ Below w.heap.size w w' := by
  have Q0 := Bk.new w [.int .u32 0, .int .u32 0, .int .u8 0, .slice none 0 0] 77 rfl
  have hb0 : Below w.heap.size w (w.alloc (.cells #[.int .u32 0, .int .u32 0, .int .u8 0, .slice none 0 0] 77)) := (Below.refl _ _).alloc (Nat.le_refl _) _
  have u0 : (w.alloc (.cells #[.int .u32 0, .int .u32 0, .int .u8 0, .slice none 0 0] 77)).cell? ⟨pu, 0, none⟩ = some (.int .i64 (size : Int)) := (hx.u.step hb0).cell 0 _ rfl
  have a1 : (w.alloc (.cells #[.int .u32 0, .int .u32 0, .int .u8 0, .slice none 0 0] 77)).cell? ⟨pa, 1, none⟩ = some (.int .i64 (size : Int)) := (hx.a.step hb0).cell 1 _ rfl
  clear hx
  go_enter Try.func47, Try.ntmps47
  have HQ := Lib.hid Q0
  clear Q0
  go_wp2
  refine bodyPost_ret (results_bk_1 rfl _ rfl HQ.out Try.underlying77 rfl infoFr) rfl ?_
  exact ⟨_, rfl, ⟨_, rfl, S.Sg.nil _ _ _ _ _⟩, hb0⟩

set_option maxRecDepth 100000 in
set_option maxHeartbeats 8000000 in
theorem next_zero (K : DiskOk H) (KF : FrameOk) {w : World} {F : Nat → Prop} {vd : Value} {d : D.Dk} (h : H w F vd d) {pd pa pw pf pu pe : Nat} {first size which base epoch : Nat} (hx : Rx w pd pa pw pf pu pe vd first size which base 0 epoch) (hdue : 0 < size) (hsz : size ≤ 1024) (hfit : base + size ≤ d.secs.length) (_hep : epoch < 4294967296) {f : R.Fr} {E : Int} (hf : f = parseF (d.read (base + 0))) (hE : E = parseE (d.read (base + 0))) :
    Calls Try.prog 47 #[.pointer (some ⟨pu, 0, none⟩), .pointer (some ⟨pa, 0, none⟩), .pointer (some ⟨pd, 0, none⟩), .pointer (some ⟨pf, 0, none⟩), .pointer (some ⟨pe, 0, none⟩), .pointer (some ⟨pw, 0, none⟩)] w fun e w' => ∃ vf, e = .returned (.tuple #[vf, .bool (okB E f f.epoch which 0)]) ∧ FrV w' (S.New w w') vf f ∧ Rx w' pd pa pw pf pu pe vd first size which base (0 + 1) f.epoch ∧ Turn (fun b => b = pu ∨ b = pe) w w' := by
  obtain ⟨va, rfl⟩ := K.ptr h
  have HH := Lib.hid h
  have hD := K.fit h
  have hd1024 := hD.2.2
  have hFit := hD.1
  clear h hD
  obtain ⟨ix, hix⟩ : ∃ ix, ix = base + 0 := ⟨_, rfl⟩
  have hixl : ix < d.secs.length := by omega
  have hix' : (base : Int) + (0 : Int) = (ix : Int) := by omega
  rw [← hix] at hf hE
  have HF0 := Lib.hid hf
  have HE0 := Lib.hid hE
  clear hix hf hE
  have hxs := hx.d.lt
  have hlp : pd < w.heap.size ∧ pa < w.heap.size ∧ pw < w.heap.size ∧ pf < w.heap.size ∧ pe < w.heap.size := ⟨hx.d.lt, hx.a.lt, hx.wh.lt, hx.f.lt, hx.e.lt⟩
  have hlu := hx.u.lt
  have Q0 := Bk.new w [.int .u32 0, .int .u32 0, .int .u8 0, .slice none 0 0] 77 rfl
  have hb0 : Below w.heap.size w (w.alloc (.cells #[.int .u32 0, .int .u32 0, .int .u8 0, .slice none 0 0] 77)) := (Below.refl _ _).alloc (Nat.le_refl _) _
  have hz0 : (w.alloc (.cells #[.int .u32 0, .int .u32 0, .int .u8 0, .slice none 0 0] 77)).heap.size = w.heap.size + 1 := by simp
  have hx0 := hx.step hb0
  have u0 := hx0.u.cell 0 _ rfl
  rw [show ((0 : Nat) : Int) = 0 from rfl] at u0
  have a1 := hx0.a.cell 1 _ rfl
  have d0 := hx0.d.cell 0 _ rfl
  have g0 := hx0.f.cell 0 _ rfl
  have hne : ((0 : Int) == (size : Int)) = false := by simp; omega
  have hne' : ¬ (0 : Int) = (size : Int) := by omega
  have HX0 := Lib.hid hx0
  clear hx hx0
  have HR := Lib.hid (K.read (ix : Int) (K.below HH.out hb0) (by omega) (by omega))
  go_enter Try.func47, Try.ntmps47
  go_wp2_with fail
  refine HR.out.mono ?_
  rintro e w2 ⟨vb, l, k, rfl, hrd, hl2, hb2⟩
  clear HR u0 a1 d0 g0
  obtain ⟨hl, hk⟩ : l = d.read ix ∧ k = 0 := by
    rw [rdV, if_pos ⟨by omega, by omega⟩] at hrd
    have e1 := hrd
    simp only [Value.tuple.injEq, Array.mk.injEq, List.cons.injEq, Value.string.injEq, ByteArray.mk.injEq, Value.int.injEq, true_and, and_true, Int.toNat_natCast] at e1
    exact ⟨e1.1.symm, e1.2.symm⟩
  subst hk
  generalize w.alloc (.cells #[.int .u32 0, .int .u32 0, .int .u8 0, .slice none 0 0] 77) = w0 at *
  have hll : l.length ≤ 64 := by rw [hl]; exact Nat.le_of_eq (hFit.read_len hixl)
  have HPf : Hid (parseF l = f) := Lib.hid (by rw [HF0.out, hl])
  have HPe : Hid (parseE l = E) := Lib.hid (by rw [HE0.out, hl])
  clear hl hrd HF0 HE0
  have hs0 := hb0.size
  have hs2 := hb2.size
  have hbw2 := hb0.trans (hb2.mono hs0)
  have HX2 := Lib.hid (HX0.out.step hb2)
  have Q2 := Q0.step hb2
  have HPa := Lib.hid (KF.parse hl2 (fun b g => g.2) (by omega))
  have hpok := parseF_ok l
  rw [HPf.out, HPe.out] at HPa
  rw [HPf.out] at hpok
  obtain ⟨A2, cap2, rfl, hc2⟩ := Sg_form hl2
  clear hl2 HX0 Q0
  obtain ⟨hnum, hfl⟩ := hpok
  have hn0 := hnum.e
  have hn1 := hnum.s
  go_wp2_with fail
  refine HPa.out.mono ?_
  rintro e w3 ⟨vf, rfl, ⟨vb, rfl, hB3⟩, hb3⟩
  obtain ⟨Ab, capb, rfl, hcb⟩ := Sg_form hB3
  have hs3 := hb3.size
  have hbw3 := below_two hbw2 hb3
  have hba : Below w3.heap.size w3 (w3.alloc (.cells #[.int .u32 (f.epoch : Int), .int .u32 (f.seq : Int), .int .u8 (f.flag.toNat : Int), .slice Ab f.body.length capb] 77)) := (Below.refl _ _).alloc (Nat.le_refl _) _
  have hza : (w3.alloc (.cells #[.int .u32 (f.epoch : Int), .int .u32 (f.seq : Int), .int .u8 (f.flag.toNat : Int), .slice Ab f.body.length capb] 77)).heap.size = w3.heap.size + 1 := by simp
  have Q4 := (Q2.step hb3).step hba
  have R4 := Bk.new w3 [.int .u32 (f.epoch : Int), .int .u32 (f.seq : Int), .int .u8 (f.flag.toNat : Int), .slice Ab f.body.length capb] 77 rfl
  have HX4 := Lib.hid ((HX2.out.step hb3).step hba)
  have hB4 := hB3.below hba (fun b g => g.2)
  have hbw4 := below_two hbw3 hba
  clear HPa HX2 Q2 hB3 hb3 hba hb2 hb0
  have hn1' := HX4.out.n1
  have hn2' := HX4.out.n2
  have hGB : ∀ b, S.New w2 w3 b → w.heap.size < b ∧ b < (w3.alloc (.cells #[.int .u32 (f.epoch : Int), .int .u32 (f.seq : Int), .int .u8 (f.flag.toNat : Int), .slice Ab f.body.length capb] 77)).heap.size := fun b g => ⟨by have := g.1; omega, by have := g.2; omega⟩
  have HB4 := Lib.hid hB4
  clear hB4
  have HX4 : Hid (Rx (w3.alloc (.cells #[.int .u32 (f.epoch : Int), .int .u32 (f.seq : Int), .int .u8 (f.flag.toNat : Int), .slice Ab f.body.length capb] 77)) pd pa pw pf pu pe (.pointer (some va)) first size which base 0 epoch) := HX4
  have HX : Hid (Rx ((w3.alloc (.cells #[.int .u32 (f.epoch : Int), .int .u32 (f.seq : Int), .int .u8 (f.flag.toNat : Int), .slice Ab f.body.length capb] 77)).setCell ⟨pe, 0, none⟩ (.int .u32 (f.epoch : Int))) pd pa pw pf pu pe (.pointer (some va)) first size which base 0 f.epoch) := Lib.hid (HX4.out.setE f.epoch)
  have HT : Hid (Turn (fun b => b = pe) w ((w3.alloc (.cells #[.int .u32 (f.epoch : Int), .int .u32 (f.seq : Int), .int .u8 (f.flag.toNat : Int), .slice Ab f.body.length capb] 77)).setCell ⟨pe, 0, none⟩ (.int .u32 (f.epoch : Int)))) := Lib.hid ((Turn.of_below (F := fun b => b = pe) hbw4).put (q := pe) rfl 0 (.int .u32 (f.epoch : Int)))
  have hput : Turn (fun b => b = pe) (w3.alloc (.cells #[.int .u32 (f.epoch : Int), .int .u32 (f.seq : Int), .int .u8 (f.flag.toNat : Int), .slice Ab f.body.length capb] 77)) ((w3.alloc (.cells #[.int .u32 (f.epoch : Int), .int .u32 (f.seq : Int), .int .u8 (f.flag.toNat : Int), .slice Ab f.body.length capb] 77)).setCell ⟨pe, 0, none⟩ (.int .u32 (f.epoch : Int))) := (Turn.refl (fun b => b = pe) (w3.alloc (.cells #[.int .u32 (f.epoch : Int), .int .u32 (f.seq : Int), .int .u8 (f.flag.toNat : Int), .slice Ab f.body.length capb] 77))).put (q := pe) rfl 0 _
  have HQ := Lib.hid (Q4.turn hput (by omega))
  have HRr := Lib.hid (R4.turn hput (by omega))
  have hs5 : ((w3.alloc (.cells #[.int .u32 (f.epoch : Int), .int .u32 (f.seq : Int), .int .u8 (f.flag.toNat : Int), .slice Ab f.body.length capb] 77)).setCell ⟨pe, 0, none⟩ (.int .u32 (f.epoch : Int))).heap.size = (w3.alloc (.cells #[.int .u32 (f.epoch : Int), .int .u32 (f.seq : Int), .int .u8 (f.flag.toNat : Int), .slice Ab f.body.length capb] 77)).heap.size := by simp [World.setCell]
  have HB := Lib.hid (HB4.out.keep (w' := ((w3.alloc (.cells #[.int .u32 (f.epoch : Int), .int .u32 (f.seq : Int), .int .u8 (f.flag.toNat : Int), .slice Ab f.body.length capb] 77)).setCell ⟨pe, 0, none⟩ (.int .u32 (f.epoch : Int)))) fun a ha => hput.cell (hGB _ ha).2 (fun e => by have := (hGB _ ha).1; omega))
  have HG : Hid (∀ b, S.New w2 w3 b → w.heap.size < b ∧ b < ((w3.alloc (.cells #[.int .u32 (f.epoch : Int), .int .u32 (f.seq : Int), .int .u8 (f.flag.toNat : Int), .slice Ab f.body.length capb] 77)).setCell ⟨pe, 0, none⟩ (.int .u32 (f.epoch : Int))).heap.size) := Lib.hid (fun b g => ⟨(hGB b g).1, by rw [hs5]; exact (hGB b g).2⟩)
  have r0 := R4.cell 0 _ rfl
  have r1 := R4.cell 1 _ rfl
  have r2 := R4.cell 2 _ rfl
  have r3 := R4.cell 3 _ rfl
  have q0 := Q4.cell 0 _ rfl
  have q1 := Q4.cell 1 _ rfl
  have q2 := Q4.cell 2 _ rfl
  have q3 := Q4.cell 3 _ rfl
  have z0 := Q4.fz 0 (by simp)
  have z1 := Q4.fz 1 (by simp)
  have z2 := Q4.fz 2 (by simp)
  have z3 := Q4.fz 3 (by simp)
  have u0 := HX4.out.u.cell 0 _ rfl
  have uf := HX4.out.u.fz 0 (by simp)
  have e0 := HX4.out.e.cell 0 _ rfl
  have ef := HX4.out.e.fz 0 (by simp)
  have wc := HX4.out.wh.cell 0 _ rfl
  have nur : ¬ pu = w3.heap.size := by omega
  have nsr : ¬ w.heap.size = w3.heap.size := by omega
  have nus : ¬ pu = w.heap.size := by omega
  have nru : ¬ w3.heap.size = pu := by omega
  have ner : ¬ pe = w3.heap.size := by omega
  have nes : ¬ pe = w.heap.size := by omega
  have neu : ¬ pe = pu := by omega
  have nue : ¬ pu = pe := by omega
  have new : ¬ pe = pw := by omega
  rw [show ((0 : Nat) : Int) = 0 from rfl] at u0
  have HHf := Lib.hid (has_first (w := ((w3.alloc (.cells #[.int .u32 (f.epoch : Int), .int .u32 (f.seq : Int), .int .u8 (f.flag.toNat : Int), .slice Ab f.body.length capb] 77)).setCell ⟨pe, 0, none⟩ (.int .u32 (f.epoch : Int)))) (F := S.New w2 w3) (v := .agg #[.int .u32 (f.epoch : Int), .int .u32 (f.seq : Int), .int .u8 (f.flag.toNat : Int), .slice Ab f.body.length capb]) (f := f) ⟨_, rfl, HB.out⟩)
  have HBl := Lib.hid (slot_belongs f.epoch which ((w3.alloc (.cells #[.int .u32 (f.epoch : Int), .int .u32 (f.seq : Int), .int .u8 (f.flag.toNat : Int), .slice Ab f.body.length capb] 77)).setCell ⟨pe, 0, none⟩ (.int .u32 (f.epoch : Int))) (by omega))
  clear HX4 HB4 Q4 R4
  obtain ⟨bl, hbl⟩ : ∃ bl, bl = belB f.epoch which := ⟨_, rfl⟩
  rw [← hbl] at HBl
  have HBE := Lib.hid hbl
  clear hbl
  obtain ⟨c, hc⟩ : ∃ c, c = (f.flag.toNat % 2 == 1) := ⟨_, rfl⟩
  rw [← hc] at HHf
  have HCE := Lib.hid hc
  clear hc
  by_cases hE0 : E = 0
  · subst hE0
    cases bl with
    | false =>
      have HV := Lib.hid (show okB 0 f f.epoch which 0 = false from decide_eq_false (fun g => of_decide_eq_false HBE.out.symm g.2.2.1))
      clear HHf
      go_wp2_with fail
      refine HBl.out.mono ?_
      rintro e _ ⟨rfl, rfl⟩
      have HF := Lib.hid (nx_fin (f := f) (Ab := Ab) (capb := capb) (u1 := 1) HQ.out rfl HX.out hlu HT.out hlp HB.out HG.out (by omega) rfl)
      go_wp2
      obtain ⟨f1, f2, f3, f4⟩ := HF.out
      refine bodyPost_ret (results_bk_1 rfl _ rfl f1 Try.underlying77 rfl infoFr) rfl ?_
      exact ⟨_, ret_v (by rw [HV.out]; rfl), f2, f3, f4⟩
    | true =>
      have hbe : f.epoch ≠ 0 ∧ f.epoch % 2 = which := of_decide_eq_true HBE.out.symm
      have HBE2 := Lib.hid hbe
      clear hbe
      by_cases hcs : f.seq = 0
      · have hcs2 : ((f.seq : Int) == 0) = true := by simp; omega
        have HCS := Lib.hid hcs
        clear hcs
        cases c with
        | false =>
          have HV := Lib.hid (show okB 0 f f.epoch which 0 = false from decide_eq_false (fun g => by have := HCE.out.trans g.2.2.2.2; revert this; decide))
          go_wp2_with fail
          refine HBl.out.mono ?_
          rintro e _ ⟨rfl, rfl⟩
          go_wp2_with fail
          refine HHf.out.mono ?_
          rintro e w6 ⟨rfl, hb6⟩
          have hs6 := hb6.size
          have HX := Lib.hid (HX.out.step hb6)
          have HT := Lib.hid (HT.out.on hb6)
          have HB := Lib.hid (HB.out.below hb6 (fun b g => (HG.out b g).2))
          have HG : Hid (∀ b, S.New w2 w3 b → w.heap.size < b ∧ b < w6.heap.size) := Lib.hid (fun b g => ⟨(HG.out b g).1, Nat.lt_of_lt_of_le (HG.out b g).2 hs6⟩)
          have Q6 := HQ.out.step hb6
          have R6 := HRr.out.step hb6
          have HQ := Lib.hid Q6
          clear r0 r1 r2 r3 q0 q1 q2 q3 z0 z1 z2 z3 u0 uf e0 ef wc
          have r0 := R6.cell 0 _ rfl
          have r1 := R6.cell 1 _ rfl
          have r2 := R6.cell 2 _ rfl
          have r3 := R6.cell 3 _ rfl
          have q0 := Q6.cell 0 _ rfl
          have q1 := Q6.cell 1 _ rfl
          have q2 := Q6.cell 2 _ rfl
          have q3 := Q6.cell 3 _ rfl
          have z0 := Q6.fz 0 (by simp)
          have z1 := Q6.fz 1 (by simp)
          have z2 := Q6.fz 2 (by simp)
          have z3 := Q6.fz 3 (by simp)
          have u0 := HX.out.u.cell 0 _ rfl
          have uf := HX.out.u.fz 0 (by simp)
          clear Q6 R6 HHf
          rw [show ((0 : Nat) : Int) = 0 from rfl] at u0
          have HF := Lib.hid (nx_fin (f := f) (Ab := Ab) (capb := capb) (u1 := 1) HQ.out rfl HX.out hlu HT.out hlp HB.out HG.out (by omega) rfl)
          go_wp2
          obtain ⟨f1, f2, f3, f4⟩ := HF.out
          refine bodyPost_ret (results_bk_1 rfl _ rfl f1 Try.underlying77 rfl infoFr) rfl ?_
          exact ⟨_, ret_v (by rw [HV.out]; rfl), f2, f3, f4⟩
        | true =>
          have HV := Lib.hid (show okB 0 f f.epoch which 0 = true from decide_eq_true ⟨rfl, rfl, HBE2.out, HCS.out, HCE.out.symm.trans (by rfl)⟩)
          go_wp2_with fail
          refine HBl.out.mono ?_
          rintro e _ ⟨rfl, rfl⟩
          go_wp2_with fail
          refine HHf.out.mono ?_
          rintro e w6 ⟨rfl, hb6⟩
          have hs6 := hb6.size
          have HX := Lib.hid (HX.out.step hb6)
          have HT := Lib.hid (HT.out.on hb6)
          have HB := Lib.hid (HB.out.below hb6 (fun b g => (HG.out b g).2))
          have HG : Hid (∀ b, S.New w2 w3 b → w.heap.size < b ∧ b < w6.heap.size) := Lib.hid (fun b g => ⟨(HG.out b g).1, Nat.lt_of_lt_of_le (HG.out b g).2 hs6⟩)
          have Q6 := HQ.out.step hb6
          have R6 := HRr.out.step hb6
          have HQ := Lib.hid Q6
          clear r0 r1 r2 r3 q0 q1 q2 q3 z0 z1 z2 z3 u0 uf e0 ef wc
          have r0 := R6.cell 0 _ rfl
          have r1 := R6.cell 1 _ rfl
          have r2 := R6.cell 2 _ rfl
          have r3 := R6.cell 3 _ rfl
          have q0 := Q6.cell 0 _ rfl
          have q1 := Q6.cell 1 _ rfl
          have q2 := Q6.cell 2 _ rfl
          have q3 := Q6.cell 3 _ rfl
          have z0 := Q6.fz 0 (by simp)
          have z1 := Q6.fz 1 (by simp)
          have z2 := Q6.fz 2 (by simp)
          have z3 := Q6.fz 3 (by simp)
          have u0 := HX.out.u.cell 0 _ rfl
          have uf := HX.out.u.fz 0 (by simp)
          clear Q6 R6 HHf
          rw [show ((0 : Nat) : Int) = 0 from rfl] at u0
          have HF := Lib.hid (nx_fin (f := f) (Ab := Ab) (capb := capb) (u1 := 1) HQ.out rfl HX.out hlu HT.out hlp HB.out HG.out (by omega) rfl)
          go_wp2
          obtain ⟨f1, f2, f3, f4⟩ := HF.out
          refine bodyPost_ret (results_bk_1 rfl _ rfl f1 Try.underlying77 rfl infoFr) rfl ?_
          exact ⟨_, ret_v (by rw [HV.out]; rfl), f2, f3, f4⟩
      · have hcs2 : ((f.seq : Int) == 0) = false := by simp; omega
        have HV := Lib.hid (show okB 0 f f.epoch which 0 = false from decide_eq_false (fun g => hcs g.2.2.2.1))
        clear HHf
        go_wp2_with fail
        refine HBl.out.mono ?_
        rintro e _ ⟨rfl, rfl⟩
        have HF := Lib.hid (nx_fin (f := f) (Ab := Ab) (capb := capb) (u1 := 1) HQ.out rfl HX.out hlu HT.out hlp HB.out HG.out (by omega) rfl)
        go_wp2
        obtain ⟨f1, f2, f3, f4⟩ := HF.out
        refine bodyPost_ret (results_bk_1 rfl _ rfl f1 Try.underlying77 rfl infoFr) rfl ?_
        exact ⟨_, ret_v (by rw [HV.out]; rfl), f2, f3, f4⟩
  · have hd' : (E == 0) = false := by simpa using hE0
    have HV := Lib.hid (show okB E f f.epoch which 0 = false from decide_eq_false (fun g => hE0 g.1))
    clear HHf HBl
    have HF := Lib.hid (nx_fin (f := f) (Ab := Ab) (capb := capb) (u1 := 1) HQ.out rfl HX.out hlu HT.out hlp HB.out HG.out (by omega) rfl)
    go_wp2
    obtain ⟨f1, f2, f3, f4⟩ := HF.out
    refine bodyPost_ret (results_bk_1 rfl _ rfl f1 Try.underlying77 rfl infoFr) rfl ?_
    exact ⟨_, ret_v (by rw [HV.out]; rfl), f2, f3, f4⟩

set_option maxRecDepth 100000 in
set_option maxHeartbeats 8000000 in
theorem next_more (K : DiskOk H) (KF : FrameOk) {w : World} {F : Nat → Prop} {vd : Value} {d : D.Dk} (h : H w F vd d) {pd pa pw pf pu pe : Nat} {first size which base due epoch : Nat} (hx : Rx w pd pa pw pf pu pe vd first size which base due epoch) (hdue : due < size) (hsz : size ≤ 1024) (hfit : base + size ≤ d.secs.length) (hep : epoch < 4294967296) (hd0 : ¬ due = 0) {f : R.Fr} {E : Int} (hf : f = parseF (d.read (base + due))) (hE : E = parseE (d.read (base + due))) :
    Calls Try.prog 47 #[.pointer (some ⟨pu, 0, none⟩), .pointer (some ⟨pa, 0, none⟩), .pointer (some ⟨pd, 0, none⟩), .pointer (some ⟨pf, 0, none⟩), .pointer (some ⟨pe, 0, none⟩), .pointer (some ⟨pw, 0, none⟩)] w fun e w' => ∃ vf, e = .returned (.tuple #[vf, .bool (okB E f epoch which due)]) ∧ FrV w' (S.New w w') vf f ∧ Rx w' pd pa pw pf pu pe vd first size which base (due + 1) epoch ∧ Turn (fun b => b = pu ∨ b = pe) w w' := by
  obtain ⟨va, rfl⟩ := K.ptr h
  have HH := Lib.hid h
  have hD := K.fit h
  have hd1024 := hD.2.2
  have hFit := hD.1
  clear h hD
  obtain ⟨ix, hix⟩ : ∃ ix, ix = base + due := ⟨_, rfl⟩
  have hixl : ix < d.secs.length := by omega
  have hix' : (base : Int) + (due : Int) = (ix : Int) := by omega
  rw [← hix] at hf hE
  have HF0 := Lib.hid hf
  have HE0 := Lib.hid hE
  clear hix hf hE
  have hxs := hx.d.lt
  have hlp : pd < w.heap.size ∧ pa < w.heap.size ∧ pw < w.heap.size ∧ pf < w.heap.size ∧ pe < w.heap.size := ⟨hx.d.lt, hx.a.lt, hx.wh.lt, hx.f.lt, hx.e.lt⟩
  have hlu := hx.u.lt
  have Q0 := Bk.new w [.int .u32 0, .int .u32 0, .int .u8 0, .slice none 0 0] 77 rfl
  have hb0 : Below w.heap.size w (w.alloc (.cells #[.int .u32 0, .int .u32 0, .int .u8 0, .slice none 0 0] 77)) := (Below.refl _ _).alloc (Nat.le_refl _) _
  have hz0 : (w.alloc (.cells #[.int .u32 0, .int .u32 0, .int .u8 0, .slice none 0 0] 77)).heap.size = w.heap.size + 1 := by simp
  have hx0 := hx.step hb0
  have u0 := hx0.u.cell 0 _ rfl
  have a1 := hx0.a.cell 1 _ rfl
  have d0 := hx0.d.cell 0 _ rfl
  have g0 := hx0.f.cell 0 _ rfl
  have hne : ((due : Int) == (size : Int)) = false := by simp; omega
  have hne' : ¬ (due : Int) = (size : Int) := by omega
  have HX0 := Lib.hid hx0
  clear hx hx0
  have HR := Lib.hid (K.read (ix : Int) (K.below HH.out hb0) (by omega) (by omega))
  go_enter Try.func47, Try.ntmps47
  go_wp2_with fail
  refine HR.out.mono ?_
  rintro e w2 ⟨vb, l, k, rfl, hrd, hl2, hb2⟩
  clear HR u0 a1 d0 g0
  obtain ⟨hl, hk⟩ : l = d.read ix ∧ k = 0 := by
    rw [rdV, if_pos ⟨by omega, by omega⟩] at hrd
    have e1 := hrd
    simp only [Value.tuple.injEq, Array.mk.injEq, List.cons.injEq, Value.string.injEq, ByteArray.mk.injEq, Value.int.injEq, true_and, and_true, Int.toNat_natCast] at e1
    exact ⟨e1.1.symm, e1.2.symm⟩
  subst hk
  generalize w.alloc (.cells #[.int .u32 0, .int .u32 0, .int .u8 0, .slice none 0 0] 77) = w0 at *
  have hll : l.length ≤ 64 := by rw [hl]; exact Nat.le_of_eq (hFit.read_len hixl)
  have HPf : Hid (parseF l = f) := Lib.hid (by rw [HF0.out, hl])
  have HPe : Hid (parseE l = E) := Lib.hid (by rw [HE0.out, hl])
  clear hl hrd HF0 HE0
  have hs0 := hb0.size
  have hs2 := hb2.size
  have hbw2 := hb0.trans (hb2.mono hs0)
  have HX2 := Lib.hid (HX0.out.step hb2)
  have Q2 := Q0.step hb2
  have HPa := Lib.hid (KF.parse hl2 (fun b g => g.2) (by omega))
  have hpok := parseF_ok l
  rw [HPf.out, HPe.out] at HPa
  rw [HPf.out] at hpok
  obtain ⟨A2, cap2, rfl, hc2⟩ := Sg_form hl2
  clear hl2 HX0 Q0
  obtain ⟨hnum, hfl⟩ := hpok
  have hn0 := hnum.e
  have hn1 := hnum.s
  go_wp2_with fail
  refine HPa.out.mono ?_
  rintro e w3 ⟨vf, rfl, ⟨vb, rfl, hB3⟩, hb3⟩
  obtain ⟨Ab, capb, rfl, hcb⟩ := Sg_form hB3
  have hs3 := hb3.size
  have hbw3 := below_two hbw2 hb3
  have hba : Below w3.heap.size w3 (w3.alloc (.cells #[.int .u32 (f.epoch : Int), .int .u32 (f.seq : Int), .int .u8 (f.flag.toNat : Int), .slice Ab f.body.length capb] 77)) := (Below.refl _ _).alloc (Nat.le_refl _) _
  have hza : (w3.alloc (.cells #[.int .u32 (f.epoch : Int), .int .u32 (f.seq : Int), .int .u8 (f.flag.toNat : Int), .slice Ab f.body.length capb] 77)).heap.size = w3.heap.size + 1 := by simp
  have Q4 := (Q2.step hb3).step hba
  have R4 := Bk.new w3 [.int .u32 (f.epoch : Int), .int .u32 (f.seq : Int), .int .u8 (f.flag.toNat : Int), .slice Ab f.body.length capb] 77 rfl
  have HX4 := Lib.hid ((HX2.out.step hb3).step hba)
  have hB4 := hB3.below hba (fun b g => g.2)
  have hbw4 := below_two hbw3 hba
  clear HPa HX2 Q2 hB3 hb3 hba hb2 hb0
  have hn1' := HX4.out.n1
  have hn2' := HX4.out.n2
  have hdm : (due : Int) % 4294967296 = (due : Int) := by omega
  have hGB : ∀ b, S.New w2 w3 b → w.heap.size < b ∧ b < (w3.alloc (.cells #[.int .u32 (f.epoch : Int), .int .u32 (f.seq : Int), .int .u8 (f.flag.toNat : Int), .slice Ab f.body.length capb] 77)).heap.size := fun b g => ⟨by have := g.1; omega, by have := g.2; omega⟩
  have HB4 := Lib.hid hB4
  clear hB4
  have hbg : ((due : Int) == 0) = false := by simp; omega
  have hbg' : ¬ (due : Int) = 0 := by omega
  have HX := HX4
  have HT : Hid (Turn (fun b => b = pe) w (w3.alloc (.cells #[.int .u32 (f.epoch : Int), .int .u32 (f.seq : Int), .int .u8 (f.flag.toNat : Int), .slice Ab f.body.length capb] 77))) := Lib.hid (Turn.of_below (F := fun b => b = pe) hbw4)
  have HQ := Lib.hid Q4
  have HRr := Lib.hid R4
  have HB := HB4
  have HG : Hid (∀ b, S.New w2 w3 b → w.heap.size < b ∧ b < (w3.alloc (.cells #[.int .u32 (f.epoch : Int), .int .u32 (f.seq : Int), .int .u8 (f.flag.toNat : Int), .slice Ab f.body.length capb] 77)).heap.size) := Lib.hid hGB
  have r0 := R4.cell 0 _ rfl
  have r1 := R4.cell 1 _ rfl
  have r2 := R4.cell 2 _ rfl
  have r3 := R4.cell 3 _ rfl
  have q0 := Q4.cell 0 _ rfl
  have q1 := Q4.cell 1 _ rfl
  have q2 := Q4.cell 2 _ rfl
  have q3 := Q4.cell 3 _ rfl
  have z0 := Q4.fz 0 (by simp)
  have z1 := Q4.fz 1 (by simp)
  have z2 := Q4.fz 2 (by simp)
  have z3 := Q4.fz 3 (by simp)
  have u0 := HX4.out.u.cell 0 _ rfl
  have uf := HX4.out.u.fz 0 (by simp)
  have e0 := HX4.out.e.cell 0 _ rfl
  have ef := HX4.out.e.fz 0 (by simp)
  have wc := HX4.out.wh.cell 0 _ rfl
  have nur : ¬ pu = w3.heap.size := by omega
  have nsr : ¬ w.heap.size = w3.heap.size := by omega
  have nus : ¬ pu = w.heap.size := by omega
  have nru : ¬ w3.heap.size = pu := by omega
  have ner : ¬ pe = w3.heap.size := by omega
  have nes : ¬ pe = w.heap.size := by omega
  have neu : ¬ pe = pu := by omega
  have nue : ¬ pu = pe := by omega
  have new : ¬ pe = pw := by omega
  have HHf := Lib.hid (has_first (w := (w3.alloc (.cells #[.int .u32 (f.epoch : Int), .int .u32 (f.seq : Int), .int .u8 (f.flag.toNat : Int), .slice Ab f.body.length capb] 77))) (F := S.New w2 w3) (v := .agg #[.int .u32 (f.epoch : Int), .int .u32 (f.seq : Int), .int .u8 (f.flag.toNat : Int), .slice Ab f.body.length capb]) (f := f) ⟨_, rfl, HB.out⟩)
  have HBl := Lib.hid (slot_belongs epoch which (w3.alloc (.cells #[.int .u32 (f.epoch : Int), .int .u32 (f.seq : Int), .int .u8 (f.flag.toNat : Int), .slice Ab f.body.length capb] 77)) (by omega))
  clear HX4 HB4 Q4 R4
  obtain ⟨bl, hbl⟩ : ∃ bl, bl = belB epoch which := ⟨_, rfl⟩
  rw [← hbl] at HBl
  have HBE := Lib.hid hbl
  clear hbl
  obtain ⟨c, hc⟩ : ∃ c, c = (f.flag.toNat % 2 == 1) := ⟨_, rfl⟩
  rw [← hc] at HHf
  have HCE := Lib.hid hc
  clear hc
  by_cases hE0 : E = 0
  · subst hE0
    by_cases hce : f.epoch = epoch
    · have hcc : ((f.epoch : Int) == (epoch : Int)) = true := by simp; omega
      have HCP := Lib.hid hce
      clear hce
      cases bl with
      | false =>
        have HV := Lib.hid (show okB 0 f epoch which due = false from decide_eq_false (fun g => of_decide_eq_false HBE.out.symm g.2.2.1))
        clear HHf
        go_wp2_with fail
        refine HBl.out.mono ?_
        rintro e _ ⟨rfl, rfl⟩
        have HF := Lib.hid (nx_fin (f := f) (Ab := Ab) (capb := capb) (u1 := (due : Int) + 1) HQ.out rfl HX.out hlu HT.out hlp HB.out HG.out (by omega) rfl)
        go_wp2
        obtain ⟨f1, f2, f3, f4⟩ := HF.out
        refine bodyPost_ret (results_bk_1 rfl _ rfl f1 Try.underlying77 rfl infoFr) rfl ?_
        exact ⟨_, ret_v (by rw [HV.out]; rfl), f2, f3, f4⟩
      | true =>
        have hbe : epoch ≠ 0 ∧ epoch % 2 = which := of_decide_eq_true HBE.out.symm
        have HBE2 := Lib.hid hbe
        clear hbe
        by_cases hcs : f.seq = due
        · have hcs2 : ((f.seq : Int) == (due : Int)) = true := by simp; omega
          have HCS := Lib.hid hcs
          clear hcs
          cases c with
          | false =>
            have HV := Lib.hid (show okB 0 f epoch which due = true from decide_eq_true ⟨rfl, HCP.out, HBE2.out, HCS.out, HCE.out.symm.trans (by symm; exact decide_eq_false hd0)⟩)
            go_wp2_with fail
            refine HBl.out.mono ?_
            rintro e _ ⟨rfl, rfl⟩
            go_wp2_with fail
            refine HHf.out.mono ?_
            rintro e w6 ⟨rfl, hb6⟩
            have hs6 := hb6.size
            have HX := Lib.hid (HX.out.step hb6)
            have HT := Lib.hid (HT.out.on hb6)
            have HB := Lib.hid (HB.out.below hb6 (fun b g => (HG.out b g).2))
            have HG : Hid (∀ b, S.New w2 w3 b → w.heap.size < b ∧ b < w6.heap.size) := Lib.hid (fun b g => ⟨(HG.out b g).1, Nat.lt_of_lt_of_le (HG.out b g).2 hs6⟩)
            have Q6 := HQ.out.step hb6
            have R6 := HRr.out.step hb6
            have HQ := Lib.hid Q6
            clear r0 r1 r2 r3 q0 q1 q2 q3 z0 z1 z2 z3 u0 uf e0 ef wc
            have r0 := R6.cell 0 _ rfl
            have r1 := R6.cell 1 _ rfl
            have r2 := R6.cell 2 _ rfl
            have r3 := R6.cell 3 _ rfl
            have q0 := Q6.cell 0 _ rfl
            have q1 := Q6.cell 1 _ rfl
            have q2 := Q6.cell 2 _ rfl
            have q3 := Q6.cell 3 _ rfl
            have z0 := Q6.fz 0 (by simp)
            have z1 := Q6.fz 1 (by simp)
            have z2 := Q6.fz 2 (by simp)
            have z3 := Q6.fz 3 (by simp)
            have u0 := HX.out.u.cell 0 _ rfl
            have uf := HX.out.u.fz 0 (by simp)
            clear Q6 R6 HHf
            have HF := Lib.hid (nx_fin (f := f) (Ab := Ab) (capb := capb) (u1 := (due : Int) + 1) HQ.out rfl HX.out hlu HT.out hlp HB.out HG.out (by omega) rfl)
            go_wp2
            obtain ⟨f1, f2, f3, f4⟩ := HF.out
            refine bodyPost_ret (results_bk_1 rfl _ rfl f1 Try.underlying77 rfl infoFr) rfl ?_
            exact ⟨_, ret_v (by rw [HV.out]; rfl), f2, f3, f4⟩
          | true =>
            have HV := Lib.hid (show okB 0 f epoch which due = false from decide_eq_false (fun g => by have := HCE.out.trans g.2.2.2.2; rw [decide_eq_false hd0] at this; cases this))
            go_wp2_with fail
            refine HBl.out.mono ?_
            rintro e _ ⟨rfl, rfl⟩
            go_wp2_with fail
            refine HHf.out.mono ?_
            rintro e w6 ⟨rfl, hb6⟩
            have hs6 := hb6.size
            have HX := Lib.hid (HX.out.step hb6)
            have HT := Lib.hid (HT.out.on hb6)
            have HB := Lib.hid (HB.out.below hb6 (fun b g => (HG.out b g).2))
            have HG : Hid (∀ b, S.New w2 w3 b → w.heap.size < b ∧ b < w6.heap.size) := Lib.hid (fun b g => ⟨(HG.out b g).1, Nat.lt_of_lt_of_le (HG.out b g).2 hs6⟩)
            have Q6 := HQ.out.step hb6
            have R6 := HRr.out.step hb6
            have HQ := Lib.hid Q6
            clear r0 r1 r2 r3 q0 q1 q2 q3 z0 z1 z2 z3 u0 uf e0 ef wc
            have r0 := R6.cell 0 _ rfl
            have r1 := R6.cell 1 _ rfl
            have r2 := R6.cell 2 _ rfl
            have r3 := R6.cell 3 _ rfl
            have q0 := Q6.cell 0 _ rfl
            have q1 := Q6.cell 1 _ rfl
            have q2 := Q6.cell 2 _ rfl
            have q3 := Q6.cell 3 _ rfl
            have z0 := Q6.fz 0 (by simp)
            have z1 := Q6.fz 1 (by simp)
            have z2 := Q6.fz 2 (by simp)
            have z3 := Q6.fz 3 (by simp)
            have u0 := HX.out.u.cell 0 _ rfl
            have uf := HX.out.u.fz 0 (by simp)
            clear Q6 R6 HHf
            have HF := Lib.hid (nx_fin (f := f) (Ab := Ab) (capb := capb) (u1 := (due : Int) + 1) HQ.out rfl HX.out hlu HT.out hlp HB.out HG.out (by omega) rfl)
            go_wp2
            obtain ⟨f1, f2, f3, f4⟩ := HF.out
            refine bodyPost_ret (results_bk_1 rfl _ rfl f1 Try.underlying77 rfl infoFr) rfl ?_
            exact ⟨_, ret_v (by rw [HV.out]; rfl), f2, f3, f4⟩
        · have hcs2 : ((f.seq : Int) == (due : Int)) = false := by simp; omega
          have HV := Lib.hid (show okB 0 f epoch which due = false from decide_eq_false (fun g => hcs g.2.2.2.1))
          clear HHf
          go_wp2_with fail
          refine HBl.out.mono ?_
          rintro e _ ⟨rfl, rfl⟩
          have HF := Lib.hid (nx_fin (f := f) (Ab := Ab) (capb := capb) (u1 := (due : Int) + 1) HQ.out rfl HX.out hlu HT.out hlp HB.out HG.out (by omega) rfl)
          go_wp2
          obtain ⟨f1, f2, f3, f4⟩ := HF.out
          refine bodyPost_ret (results_bk_1 rfl _ rfl f1 Try.underlying77 rfl infoFr) rfl ?_
          exact ⟨_, ret_v (by rw [HV.out]; rfl), f2, f3, f4⟩
    · have hcc : ((f.epoch : Int) == (epoch : Int)) = false := by simp; omega
      have HV := Lib.hid (show okB 0 f epoch which due = false from decide_eq_false (fun g => hce g.2.1))
      clear HHf HBl
      have HF := Lib.hid (nx_fin (f := f) (Ab := Ab) (capb := capb) (u1 := (due : Int) + 1) HQ.out rfl HX.out hlu HT.out hlp HB.out HG.out (by omega) rfl)
      go_wp2
      obtain ⟨f1, f2, f3, f4⟩ := HF.out
      refine bodyPost_ret (results_bk_1 rfl _ rfl f1 Try.underlying77 rfl infoFr) rfl ?_
      exact ⟨_, ret_v (by rw [HV.out]; rfl), f2, f3, f4⟩
  · have hd' : (E == 0) = false := by simpa using hE0
    have HV := Lib.hid (show okB E f epoch which due = false from decide_eq_false (fun g => hE0 g.1))
    clear HHf HBl
    have HF := Lib.hid (nx_fin (f := f) (Ab := Ab) (capb := capb) (u1 := (due : Int) + 1) HQ.out rfl HX.out hlu HT.out hlp HB.out HG.out (by omega) rfl)
    go_wp2
    obtain ⟨f1, f2, f3, f4⟩ := HF.out
    refine bodyPost_ret (results_bk_1 rfl _ rfl f1 Try.underlying77 rfl infoFr) rfl ?_
    exact ⟨_, ret_v (by rw [HV.out]; rfl), f2, f3, f4⟩

theorem next_any (K : DiskOk H) (KF : FrameOk) {w : World} {F : Nat → Prop} {vd : Value} {d : D.Dk} (h : H w F vd d) {pd pa pw pf pu pe : Nat} {first size which base due epoch : Nat} (hx : Rx w pd pa pw pf pu pe vd first size which base due epoch) (hdue : due < size) (hsz : size ≤ 1024) (hfit : base + size ≤ d.secs.length) (hep : epoch < 4294967296) :
    Calls Try.prog 47 #[.pointer (some ⟨pu, 0, none⟩), .pointer (some ⟨pa, 0, none⟩), .pointer (some ⟨pd, 0, none⟩), .pointer (some ⟨pf, 0, none⟩), .pointer (some ⟨pe, 0, none⟩), .pointer (some ⟨pw, 0, none⟩)] w fun e w' => ∃ vf, e = .returned (.tuple #[vf, .bool (nxOk d base which due epoch)]) ∧ FrV w' (S.New w w') vf (parseF (d.read (base + due))) ∧ Rx w' pd pa pw pf pu pe vd first size which base (due + 1) (nxE d base due epoch) ∧ Turn (fun b => b = pu ∨ b = pe) w w' := by
  unfold nxOk nxE
  by_cases hd0 : due = 0
  · subst hd0
    rw [if_pos rfl]
    exact next_zero K KF h hx hdue hsz hfit hep rfl rfl
  · rw [if_neg hd0]
    exact next_more K KF h hx hdue hsz hfit hep hd0 rfl rfl
end

end Go.Proofs.Ytbjbnjpdackloaa
