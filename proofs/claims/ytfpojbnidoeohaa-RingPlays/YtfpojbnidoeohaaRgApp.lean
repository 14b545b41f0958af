/-
  The landed ring: a record appended.
-/
import Derived.Test.YtfpojbnidoeohaaRgNew
namespace Go.Proofs.Ytfpojbnidoeohaa
open Go.RowKit

theorem ap_add (b : Addr) (j : Nat) : b.add (j + 1) = ⟨b.block, b.off + (j + 1), none⟩ := by unfold Addr.add; simp

/-- the four cells of a frame in a slice, as a walk writes their places -/
theorem Frs.nth {w : World} {F : Nat → Prop} {v : Value} {fs : List R.Fr} (h : Frs w F v fs) (i : Nat) (hi : i < fs.length) : ∃ a cap vb, v = .slice (some a) fs.length cap ∧ fs.length ≤ cap ∧ F a.block ∧
    w.cell? (a.add (i * 4)) = some (.int .u32 (fs[i].epoch : Int)) ∧ w.cell? ⟨(a.add (i * 4)).block, (a.add (i * 4)).off + 1, none⟩ = some (.int .u32 (fs[i].seq : Int)) ∧ w.cell? ⟨(a.add (i * 4)).block, (a.add (i * 4)).off + 2, none⟩ = some (.int .u8 (fs[i].flag.toNat : Int)) ∧ w.cell? ⟨(a.add (i * 4)).block, (a.add (i * 4)).off + 3, none⟩ = some vb ∧ SlB w F vb fs[i].body := by
  obtain ⟨A, cap, e, hc, hx⟩ := h
  obtain ⟨a, rfl, hF, hx⟩ := hx (fun e => by subst e; simp at hi)
  obtain ⟨vb, h0, h1, h2, h3, hb⟩ := hx i hi
  have q (j : Nat) (u : Value) (h : w.cell? (a.add (i * 4 + (j + 1))) = some u) : w.cell? ⟨(a.add (i * 4)).block, (a.add (i * 4)).off + (j + 1), none⟩ = some u := by
    rw [← ap_add, S.add_add]; exact h
  exact ⟨a, cap, vb, e, hc, hF, h0, q 0 _ h1, q 1 _ h2, q 2 _ h3, hb⟩

section
variable {H : World → (Nat → Prop) → Value → D.Dk → Prop}

theorem Turn.on {F : Nat → Prop} {w w1 w2 : World} (h : Turn F w w1) (hb : Below w1.heap.size w1 w2) : Turn F w w2 :=
  ⟨hb.os.trans h.os, hb.tape.trans h.tape, hb.output.trans h.output, Nat.le_trans h.size hb.size, fun k hk hF => (hb.block k (Nat.lt_of_lt_of_le hk h.size)).trans (h.block k hk hF)⟩
theorem Turn.behind {F : Nat → Prop} {w w1 w2 : World} (hb : Below w.heap.size w w1) (h : Turn F w1 w2) : Turn F w w2 :=
  ⟨h.os.trans hb.os, h.tape.trans hb.tape, h.output.trans hb.output, Nat.le_trans hb.size h.size, fun k hk hF => (h.block k (Nat.lt_of_lt_of_le hk hb.size) hF).trans (hb.block k hk)⟩
theorem Turn.more {F Fd : Nat → Prop} {w w1 w2 : World} (h : Turn F w w1) (h2 : Turn Fd w1 w2) (hF : ∀ b, b < w.heap.size → Fd b → F b) : Turn F w w2 :=
  ⟨h2.os.trans h.os, h2.tape.trans h.tape, h2.output.trans h.output, Nat.le_trans h.size h2.size, fun k hk g => (h2.block k (Nat.lt_of_lt_of_le hk h.size) (fun e => g (hF k hk e))).trans (h.block k hk g)⟩

/-- what the loop over a record's frames keeps: B the number of blocks when they were cut -/
structure RLp (H : World → (Nat → Prop) → Value → D.Dk → Prop) (w : World) (F F0 : Nat → Prop) (p B : Nat) (vd : Value) (r : G.Rg) (rec : List UInt8) (vf : Value) (k : Nat) (wr : World) : Prop where
  ex : ∃ Fd, H wr Fd vd (G.lay r.first r.many r.d (G.firsts r.epoch r.next rec k)) ∧ (∀ b, Fd b → F0 b ∨ (B ≤ b ∧ b < wr.heap.size))
  pk : Bk wr p (rpC vd r)
  fr : Frs wr (fun b => w.heap.size ≤ b ∧ b < B) vf (R.cut r.epoch r.next rec)
  turn : Turn F w wr
  B0 : w.heap.size ≤ B
  B1 : B ≤ wr.heap.size

set_option maxRecDepth 100000 in
set_option maxHeartbeats 4000000 in
theorem ring_append {w : World} {F : Nat → Prop} {v vd : Value} {r : G.Rg} (K : DiskOk H) (KF : FrameOk) (h : Rp H w F v vd r) {Gb : Nat → Prop} {vb : Value} {rec : List UInt8} (hB : SlB w Gb vb rec) (hGb : ∀ b, Gb b → b < w.heap.size) (hl : rec.length ≤ 1000) (hrow : r.d.row.length ≤ 900) :
    Calls Try.prog 27 #[v, vb] w fun e w' => e = .returned (.tuple #[.int .u32 (r.told rec : Nat), .int .i64 (r.err rec)]) ∧ Rp H w' (More F w w') v vd (r.append rec) ∧ Turn F w w' := by
  have HH := Lib.hid h
  obtain ⟨va, rfl⟩ := h.dptr K
  obtain ⟨hn, hm, hlt0, p, F0, rfl, hp, h1, h2, h3, h4⟩ := h
  have HM := Lib.hid hm
  have HN := Lib.hid hn
  have HP := Lib.hid hp
  have HD := Lib.hid h4
  have hpl := hp.lt
  have he := hn.e
  have hx := hn.n
  have hmy := hn.m
  have HB := Lib.hid hB
  have hMl : R.many rec.length ≤ 21 := by unfold R.many; split <;> omega
  have hM1 := R.many_pos rec.length
  obtain ⟨M, hM⟩ : ∃ M, M = R.many rec.length := ⟨_, rfl⟩
  rw [← hM] at hM1 hMl
  have HMM := Lib.hid hM
  have HK : Hid (∀ w', Below w.heap.size w w' → w'.cell? ⟨p, 2, none⟩ = some (.int .u32 (r.epoch : Int)) ∧ w'.cell? ⟨p, 5, none⟩ = some (.int .u32 (r.next : Int)) ∧ Below w.heap.size w w') :=
    Lib.hid fun w' hb => ⟨(HP.out.step hb).cell 2 _ rfl, (HP.out.step hb).cell 5 _ rfl, hb⟩
  have HC : Hid (∀ w', (w'.cell? ⟨p, 2, none⟩ = some (.int .u32 (r.epoch : Int)) ∧ w'.cell? ⟨p, 5, none⟩ = some (.int .u32 (r.next : Int)) ∧ Below w.heap.size w w') → Calls Try.prog 44 #[.int .u32 (r.epoch : Int), .int .u32 (r.next : Int), vb] w' fun e w'' => ∃ v', e = .returned v' ∧ (w''.cell? ⟨p, 2, none⟩ = some (.int .u32 (r.epoch : Int)) ∧ w''.cell? ⟨p, 5, none⟩ = some (.int .u32 (r.next : Int)) ∧ Below w.heap.size w w'') ∧ Frs w'' (fun b => w.heap.size ≤ b ∧ b < w''.heap.size) v' (R.cut r.epoch r.next rec)) :=
    Lib.hid fun w' hS => (KF.cut r.epoch r.next (HB.out.below hS.2.2 hGb) (fun b g => Nat.lt_of_lt_of_le (hGb b g) hS.2.2.size) he hx (by omega)).mono (fun e w'' ⟨v', e1, hf, hb⟩ => ⟨v', e1, HK.out _ (hS.2.2.trans (hb.mono hS.2.2.size)), hf.wider (fun b g => ⟨Nat.le_trans hS.2.2.size g.1, g.2⟩)⟩)
  have hbd : Below w.heap.size w w.drew := (Below.refl _ _).drew
  obtain ⟨Ab, capb, rfl, hcb⟩ := Sg_form hB
  clear hB hp hm hn h4 hM
  go_enter Try.func27, Try.ntmps27
  go_wp2_with fail
  go_region_held3 (fun w' => w'.cell? ⟨p, 2, none⟩ = some (.int .u32 (r.epoch : Int)) ∧ w'.cell? ⟨p, 5, none⟩ = some (.int .u32 (r.next : Int)) ∧ Below w.heap.size w w')
    (first | exact HK.out _ hbd | assumption)
    (first
      | (go_at_call 44
         with_reducible refine (HC.out _ (by assumption)).mono ?_
         rintro e1 w2 ⟨vf, rfl, hS2, hf2⟩))
  have hb2 := hS2.2.2
  clear HC hbd
  have hs2 := hb2.size
  have hcl := R.cut_len r.epoch r.next rec
  rw [← HMM.out] at hcl
  obtain ⟨Af, capf, rfl, hcf⟩ : ∃ A cap, vf = .slice A M cap ∧ M ≤ cap := by
    obtain ⟨A, cap, e, hc, _⟩ := hf2
    rw [hcl] at e hc
    exact ⟨A, cap, e, hc⟩
  have HCL := Lib.hid hcl
  have HFS := Lib.hid hf2
  clear hcl hf2
  have HH2 := Lib.hid (HH.out.below K hb2)
  have HFr := Lib.hid (ring_free HH2.out)
  obtain ⟨fr, hfr⟩ : ∃ fr, fr = r.free := ⟨_, rfl⟩
  rw [← hfr] at HFr
  have HFE := Lib.hid hfr
  clear hfr hS2
  go_wp2_with fail
  refine HFr.out.mono ?_
  rintro e w3 ⟨rfl, hb3⟩
  have hbw3 := below_two hb2 hb3
  have hs3 := hb3.size
  have hfrM : fr ≤ 1024 := by have e1 := HFE.out; have e2 := HM.out.ln; have e3 := HM.out.nl; unfold G.Rg.free at e1; omega
  have P3 := HP.out.step hbw3
  have HP3 := Lib.hid P3
  have c5 : w3.cell? ⟨p, 5, none⟩ = some (.int .u32 (r.next : Int)) := P3.cell 5 _ rfl
  clear P3 HFr
  have HH3 := Lib.hid (HH2.out.below K hb3)
  by_cases hfree : fr < M
  · have hfree' : (fr : Int) < (M : Int) := by omega
    have HE := Lib.hid (show r.err rec = 3 by rw [G.Rg.err, if_pos (by have := HFE.out; have := HMM.out; omega)])
    go_wp2
    go_ret2
    refine ⟨ret_v (by rw [told_no (by rw [HE.out]; decide), HE.out]; rfl), ?_, Turn.of_below hbw3⟩
    rw [append_no (by rw [HE.out]; decide)]
    obtain ⟨b1, b2, b3, q, G0, b4, b5, b6, b7, b8, b9⟩ := HH3.out
    exact ⟨b1, b2, fun b g => g.elim (b3 b) (fun g => g.2), q, G0, b4, b5, Or.inl b6, b7, fun b g => Or.inl (b8 b g), b9⟩
  · have hfree' : ¬ (fr : Int) < (M : Int) := by omega
    by_cases hover : 1073741824 < r.next + M
    · have hover' : (1073741824 : Int) < (r.next : Int) + (M : Int) := by omega
      have HE := Lib.hid (show r.err rec = 10 by rw [G.Rg.err, if_neg (by have := HFE.out; have := HMM.out; omega), if_pos (by have := HMM.out; omega)])
      go_wp2
      go_ret2
      refine ⟨ret_v (by rw [told_no (by rw [HE.out]; decide), HE.out]; rfl), ?_, Turn.of_below hbw3⟩
      rw [append_no (by rw [HE.out]; decide)]
      obtain ⟨b1, b2, b3, q, G0, b4, b5, b6, b7, b8, b9⟩ := HH3.out
      exact ⟨b1, b2, fun b g => g.elim (b3 b) (fun g => g.2), q, G0, b4, b5, Or.inl b6, b7, fun b g => Or.inl (b8 b g), b9⟩
    · have hover' : ¬ (1073741824 : Int) < (r.next : Int) + (M : Int) := by omega
      have HE := Lib.hid (show r.err rec = 0 by rw [G.Rg.err, if_neg (by have := HFE.out; have := HMM.out; omega), if_neg (by have := HMM.out; omega)])
      have HS : Hid (RLp H w F F0 p w2.heap.size (.pointer (some va)) r rec (.slice Af M capf) 0 w3) := Lib.hid ⟨⟨F0, K.below HD.out hbw3, fun b g => Or.inl g⟩, HP3.out, HFS.out.below hb3 (fun b g => g.2), Turn.of_below hbw3, hs2, hs3⟩
      clear HP3 HFS HH2 HH3
      go_wp2_with fail
      clear c5
      go_loopw [40] (fun i wr => ∃ j : Nat, j ≤ M ∧ i = .int .i64 j ∧ RLp H w F F0 p w2.heap.size (.pointer (some va)) r rec (.slice Af M capf) j wr) (fun i _ => M - (intOf i).toNat)
      case atStart => exact ⟨0, Nat.zero_le _, rfl, HS.out⟩
      case round =>
        clear HS
        obtain ⟨j, hj, rfl, ⟨Fd, hHd, hFd⟩, P, fr', trn, B0, B1⟩ := hrel
        by_cases hlt : j < M
        · have hlt' : (j : Int) < (M : Int) := by omega
          have hj0 : (0 : Int) ≤ (j : Int) := by omega
          have hcj : j < (R.cut r.epoch r.next rec).length := by rw [HCL.out]; exact hlt
          obtain ⟨a, capa, vb5, e5, _, hFa, x0, X1, X2, X3, hb5⟩ := fr'.nth j hcj
          rw [HCL.out] at e5
          cases e5
          rw [R.cut_at] at x0 X1 X2 hb5
          have hnum : (R.frameOf r.epoch r.next rec j).Num := ⟨he, Nat.mod_lt _ (by decide)⟩
          have hfit := G.frameOf_fits r.epoch r.next rec j
          obtain ⟨g, hg⟩ : ∃ g, g = R.frameOf r.epoch r.next rec j := ⟨_, rfl⟩
          rw [← hg] at x0 X1 X2 hb5 hnum hfit
          have HG := Lib.hid hg
          clear hg
          obtain ⟨A5, cap5, rfl, hc5⟩ := Sg_form hb5
          have hFlt : ∀ b, F0 b → b < w.heap.size := fun b g => hlt0 b (h3 b g)
          have nP : ¬ Fd p := fun g => (hFd p g).elim h2 (fun g => by omega)
          have nW : ¬ Fd wr.heap.size := fun g => (hFd _ g).elim (fun g => by have := hFlt _ g; have := trn.size; omega) (fun g => by omega)
          have nG : ∀ b, (w.heap.size ≤ b ∧ b < w2.heap.size) → ¬ Fd b := fun b g f => (hFd b f).elim (fun f => by have := hFlt b f; omega) (fun f => by omega)
          have hbA : Below wr.heap.size wr (wr.alloc (.cells #[.int .u32 (g.epoch : Int), .int .u32 (g.seq : Int), .int .u8 (g.flag.toNat : Int), .slice A5 g.body.length cap5] 61)) := (Below.refl _ _).alloc (Nat.le_refl _) _
          have YF := Bk.new wr [.int .u32 (g.epoch : Int), .int .u32 (g.seq : Int), .int .u8 (g.flag.toNat : Int), .slice A5 g.body.length cap5] 61 rfl
          have HPk := Lib.hid (KF.pack (w := wr.alloc (.cells #[.int .u32 (g.epoch : Int), .int .u32 (g.seq : Int), .int .u8 (g.flag.toNat : Int), .slice A5 g.body.length cap5] 61)) (v := .agg #[.int .u32 (g.epoch : Int), .int .u32 (g.seq : Int), .int .u8 (g.flag.toNat : Int), .slice A5 g.body.length cap5]) (f := g) ⟨_, rfl, hb5.below hbA (fun b g => by omega)⟩ (fun b g => by have := hbA.size; omega) hnum (by omega))
          have lsec : (R.sector g).length ≤ 64 := Nat.le_of_eq (R.sector_len hfit)
          rw [show packE g = 0 by rw [packE, if_pos hfit], show packB g = R.sector g by rw [packB, if_pos hfit]] at HPk
          obtain ⟨sec, hsec⟩ : ∃ sec, sec = R.sector g := ⟨_, rfl⟩
          rw [← hsec] at HPk lsec
          have HSec := Lib.hid hsec
          have hgs := hnum.s
          clear hsec hnum hfit
          obtain ⟨dk, hdk'⟩ : ∃ dk, dk = G.lay r.first r.many r.d (G.firsts r.epoch r.next rec j) := ⟨_, rfl⟩
          have hdk : dk.row.length ≤ 1000 := by rw [hdk', G.firsts_row HM.out.m1 HM.out.fits]; omega
          rw [← hdk'] at hHd
          have HDK := Lib.hid hdk'
          clear hdk'
          have HHa := Lib.hid (K.below hHd hbA)
          have HPa := Lib.hid (P.step hbA)
          have HYa := Lib.hid YF
          have HFa := Lib.hid (fr'.below hbA (fun b g => by omega))
          have HTa := Lib.hid (trn.on hbA)
          have hsA : wr.heap.size < (wr.alloc (.cells #[.int .u32 (g.epoch : Int), .int .u32 (g.seq : Int), .int .u8 (g.flag.toNat : Int), .slice A5 g.body.length cap5] 61)).heap.size := by simp
          clear hb5 YF P hHd
          go_wp2_with fail
          refine HPk.out.mono ?_
          rintro e w4 ⟨vs, rfl, hsl4, hb4⟩
          clear HPk x0 X1 X2 X3 hbA fr'
          generalize wr.alloc (.cells #[.int .u32 (g.epoch : Int), .int .u32 (g.seq : Int), .int .u8 (g.flag.toNat : Int), .slice A5 g.body.length cap5] 61) = wa at *
          obtain ⟨A6, cap6, rfl, hc6⟩ := Sg_form hsl4
          have P4 := HPa.out.step hb4
          have Y4 := HYa.out.step hb4
          have hs4 := hb4.size
          have HH4 := Lib.hid (K.below HHa.out hb4)
          have HSL := Lib.hid hsl4
          have HF4 := Lib.hid (HFa.out.below hb4 (fun b g => by omega))
          have HT4 := Lib.hid (HTa.out.on hb4)
          have y1 : w4.cell? ⟨wr.heap.size, 1, none⟩ = some (.int .u32 (g.seq : Int)) := Y4.cell 1 _ rfl
          clear hsl4 HHa HPa HYa HFa HTa Y4
          obtain ⟨sq, hsq⟩ : ∃ sq, sq = g.seq := ⟨_, rfl⟩
          rw [← hsq] at y1 hgs
          obtain ⟨t, ht⟩ : ∃ t, t = G.at_ r.first r.many sq := ⟨_, rfl⟩
          have HDE : Hid (dk.write (t : Int) sec = G.lay r.first r.many r.d (G.firsts r.epoch r.next rec (j + 1))) := Lib.hid (by rw [G.firsts_succ, G.lay_snoc, ← HDK.out, ← HG.out, ← HSec.out, ht, hsq])
          have htl : t ≤ 2048 := by have := G.at_range (first := r.first) (many := r.many) (seq := sq) HM.out.m1; have := HN.out.f; omega
          generalize hqe : wr.heap.size = q at *
          have hq4 : q < w4.heap.size := by omega
          have hp4 := P4.lt
          have HK2 : Hid (∀ w', Turn Fd w4 w' → w'.cell? ⟨p, 0, none⟩ = some (.int .i64 (r.first : Int)) ∧ w'.cell? ⟨p, 1, none⟩ = some (.int .i64 (r.many : Int)) ∧ w'.cell? ⟨p, 2, none⟩ = some (.int .u32 (r.epoch : Int)) ∧ w'.cell? ⟨p, 3, none⟩ = some (.pointer (some va)) ∧ w'.cell? ⟨q, 1, none⟩ = some (.int .u32 (sq : Int))) := Lib.hid fun w' hb => ⟨(P4.turn hb nP).cell 0 _ rfl, (P4.turn hb nP).cell 1 _ rfl, (P4.turn hb nP).cell 2 _ rfl, (P4.turn hb nP).cell 3 _ rfl, (hb.cell (p := ⟨q, 1, none⟩) hq4 nW).trans y1⟩
          have hbd : Below w4.heap.size w4 w4.drew := (Below.refl _ _).drew
          have HAt : Hid (Calls Try.prog 24 #[.agg #[.int .i64 (r.first : Int), .int .i64 (r.many : Int), .int .u32 (r.epoch : Int)], .int .u32 (sq : Int)] w4.drew fun e w' => e = .returned (.int .i64 (t : Int)) ∧ (w'.cell? ⟨p, 0, none⟩ = some (.int .i64 (r.first : Int)) ∧ w'.cell? ⟨p, 1, none⟩ = some (.int .i64 (r.many : Int)) ∧ w'.cell? ⟨p, 2, none⟩ = some (.int .u32 (r.epoch : Int)) ∧ w'.cell? ⟨p, 3, none⟩ = some (.pointer (some va)) ∧ w'.cell? ⟨q, 1, none⟩ = some (.int .u32 (sq : Int))) ∧ Below w4.heap.size w4 w') :=
            Lib.hid ((ring_at r.first r.many r.epoch sq w4.drew HN.out.f HN.out.m1 HN.out.m hgs).mono (fun e w' ⟨e1, hb⟩ => ⟨by rw [ht]; exact e1, HK2.out _ (Turn.of_below (below_two hbd hb)), below_two hbd hb⟩))
          have HWr : Hid (∀ w', Below w4.heap.size w4 w' → Calls Try.prog 45 #[.pointer (some va), .int .i64 (t : Int), .slice A6 sec.length cap6] w' fun e w'' => e = .returned (.int .i64 (dk.bad (t : Int) sec)) ∧ (w''.cell? ⟨p, 0, none⟩ = some (.int .i64 (r.first : Int)) ∧ w''.cell? ⟨p, 1, none⟩ = some (.int .i64 (r.many : Int)) ∧ w''.cell? ⟨p, 2, none⟩ = some (.int .u32 (r.epoch : Int)) ∧ w''.cell? ⟨p, 3, none⟩ = some (.pointer (some va)) ∧ w''.cell? ⟨q, 1, none⟩ = some (.int .u32 (sq : Int))) ∧ H w'' (More Fd w' w'') (.pointer (some va)) (dk.write (t : Int) sec) ∧ Turn Fd w' w'') :=
            Lib.hid fun w' hb => (K.write (S.New wa w4) (.slice A6 sec.length cap6) sec (t : Int) (K.below HH4.out hb) (HSL.out.below hb (fun b g => g.2)) (fun b g => Nat.lt_of_lt_of_le g.2 hb.size) hdk (by omega) (by omega) (by omega)).mono (fun e w'' ⟨e1, e2, e3⟩ => ⟨e1, HK2.out _ (Turn.behind hb e3), e2, e3⟩)
          have HP4 := Lib.hid P4
          clear ht hsq y1 P4
          go_wp2_with fail
          go_region_held3 (fun w' => w'.cell? ⟨p, 0, none⟩ = some (.int .i64 (r.first : Int)) ∧ w'.cell? ⟨p, 1, none⟩ = some (.int .i64 (r.many : Int)) ∧ w'.cell? ⟨p, 2, none⟩ = some (.int .u32 (r.epoch : Int)) ∧ w'.cell? ⟨p, 3, none⟩ = some (.pointer (some va)) ∧ w'.cell? ⟨q, 1, none⟩ = some (.int .u32 (sq : Int)))
            (first | exact HK2.out _ (Turn.of_below hbd) | assumption)
            (first
              | (go_at_call 24
                 with_reducible refine HAt.out.mono ?_
                 rintro e1 w5 ⟨rfl, hS5, hb5⟩)
              | (go_at_call 45
                 with_reducible refine (HWr.out _ hb5).mono ?_
                 rintro e2 w6 ⟨rfl, hS6, hH6, ht6⟩))
          have HNX : Hid (RLp H w F F0 p w2.heap.size (.pointer (some va)) r rec (.slice (some a) M capf) (j + 1) w6) := Lib.hid (by
            have hs5 := hb5.size
            have hs6 := ht6.size
            refine ⟨⟨More Fd w5 w6, by rw [← HDE.out]; exact hH6, ?_⟩, (HP4.out.step hb5).turn ht6 nP, ?_, ?_, B0, by omega⟩
            · rintro b (g | g)
              · exact (hFd b g).imp id (fun g => ⟨g.1, by omega⟩)
              · exact Or.inr ⟨by have := g.1; omega, g.2⟩
            · exact (HF4.out.below hb5 (fun b g => by omega)).keep (fun x hx => ht6.cell (by omega) (nG _ hx))
            · exact (HT4.out.on hb5).more ht6 (fun b hb g => (hFd b g).elim (h3 b) (fun g => by omega)))
          clear hS6 hH6 ht6 hS5 hb5 HK2 HWr HAt
          go_wp2_with fail
          go_roundw
          case rel => exact ⟨j + 1, by omega, by go_num, HNX.out⟩
          case measure => simp [intOf]; omega
        · obtain rfl : M = j := by omega
          have hlt' : ¬ (M : Int) < (M : Int) := by omega
          have nP : ¬ Fd p := fun g => (hFd p g).elim h2 (fun g => by omega)
          rw [show G.firsts r.epoch r.next rec M = R.cut r.epoch r.next rec by rw [HMM.out, G.firsts_all]] at hHd
          have c5 : wr.cell? ⟨p, 5, none⟩ = some (.int .u32 (r.next : Int)) := P.cell 5 _ rfl
          have f5 := P.fz 5 (by simp [rpC])
          have HPs := Lib.hid (P.set 5 (by simp [rpC]) (.int .u32 ((r.next : Int) + (M : Int))))
          have HHs := Lib.hid (K.set hHd nP 5 (.int .u32 ((r.next : Int) + (M : Int))))
          have HTs := Lib.hid (trn.put h1 5 (.int .u32 ((r.next : Int) + (M : Int))))
          have HSZ := Lib.hid (show (wr.setCell ⟨p, 5, none⟩ (.int .u32 ((r.next : Int) + (M : Int)))).heap.size = wr.heap.size by simp [World.setCell])
          have HNx : Hid (((r.next : Int) + (M : Int)) = (((r.put rec).next : Nat) : Int)) := Lib.hid (by show _ = ((r.next + R.many rec.length : Nat) : Int); rw [← HMM.out]; omega)
          clear hHd P fr'
          go_wp2
          go_ret2
          refine ⟨ret_v (by rw [told_ok HE.out, HE.out, ← HMM.out, show ((r.next + M : Nat) : Int) = (r.next : Int) + (M : Int) by omega]; rfl), ?_, HTs.out⟩
          rw [append_ok HE.out]
          have hs := HTs.out.size
          have hPs := HPs.out
          have hHs := HHs.out
          have hsz := HSZ.out
          generalize wr.setCell ⟨p, 5, none⟩ (.int .u32 ((r.next : Int) + (M : Int))) = wf at *
          refine ⟨⟨he, HN.out.l, by have := HNx.out; have := HMM.out; omega, HN.out.f, HN.out.m1, HN.out.m⟩, HM.out.put HE.out, ?_, p, Fd, rfl, ?_, Or.inl h1, nP, ?_, hHs⟩
          · rintro b (g | g)
            · have := hlt0 b g; omega
            · exact g.2
          · rw [HNx.out] at hPs
            exact hPs
          · intro b g
            exact (hFd b g).imp (h3 b) (fun g => ⟨by omega, by omega⟩)
end

end Go.Proofs.Ytfpojbnidoeohaa
