/-
  Layer sweep's laws, of cells: an object, and a key's block of one's own that lies apart from it (Bq).
  Walks of layer sweep's laws: SweepAll.
-/
import Derived.Test.YtmlocdfjjgbnjaaSwTurnsW
namespace Go.Proofs.Ytmlocdfjjgbnjaa
open Go.RowKit
section
variable {H : World → (Nat → Prop) → Value → Cl.Cs → Prop}
/-- as Bw, and apart from all of it the block q, that holds ks -/
def Bq (H : World → (Nat → Prop) → Value → Cl.Cs → Prop) (w wr : World) (v : Value) (X : Cl.Cs) (vx : Value) (Y : Cl.Cs) (R : List Row11) (q : Nat) (ks : List Value) : Prop :=
  ∃ F, H wr F v X ∧ (∀ b, F b → w.heap.size ≤ b) ∧ Cls wr (fun b => Out F wr b ∧ b ≠ q) vx Y ∧ (∀ r ∈ R, S.Sg wr (fun b => Out F wr b ∧ b ≠ q) r.k r.v r.n r.cs) ∧ Bk wr q ks ∧ ¬ F q ∧ w.heap.size ≤ q

variable {w wr w2 : World} {v vx : Value} {X Y Z : Cl.Cs} {R : List Row11} {q : Nat} {ks : List Value}
theorem Bq.bk (h : Bq H w wr v X vx Y R q ks) : Bk wr q ks ∧ w.heap.size ≤ q := by
  obtain ⟨F, _, _, _, _, h5, _, h7⟩ := h
  exact ⟨h5, h7⟩
theorem Bq.bw (h : Bq H w wr v X vx Y R q ks) : Bw H w wr v X vx Y R := by
  obtain ⟨F, h1, h2, h3, h4, _⟩ := h
  exact ⟨F, h1, h2, h3.wider (fun b g => g.1), fun r hr => (h4 r hr).wider (fun b g => g.1)⟩
theorem Bq.new (K : CellsOk H) (h : Bw H w wr v X vx Y R) (hs : w.heap.size ≤ wr.heap.size) (t : TypeId) (hq : q = wr.heap.size) : Bq H w (wr.alloc (.cells ks.toArray t)) v X vx Y R q ks := by
  obtain ⟨F, h1, h2, h3, h4⟩ := h
  have hb : Below wr.heap.size wr (wr.alloc (.cells ks.toArray t)) := (Below.refl _ _).alloc (Nat.le_refl _) _
  have e : ∀ b, Out F wr b → Out F (wr.alloc (.cells ks.toArray t)) b ∧ b ≠ q := fun b g => ⟨⟨Nat.lt_of_lt_of_le g.1 hb.size, g.2⟩, by have := g.1; omega⟩
  exact ⟨F, K.below h1 hb, h2, (h3.below hb (fun b g => g.1)).wider e, fun r hr => (S.Sg.below (h4 r hr) hb (fun b g => g.1)).wider e, Bk.new wr ks t hq, fun g => by have := K.lt h1 q g; omega, by omega⟩
theorem Bq.low (K : CellsOk H) (h : Bq H w wr v X vx Y R q ks) (hb : Below wr.heap.size wr w2) : Bq H w w2 v X vx Y R q ks := by
  obtain ⟨F, h1, h2, h3, h4, h5, h6, h7⟩ := h
  have e : ∀ b, (Out F wr b ∧ b ≠ q) → (Out F w2 b ∧ b ≠ q) := fun b g => ⟨⟨Nat.lt_of_lt_of_le g.1.1 hb.size, g.1.2⟩, g.2⟩
  exact ⟨F, K.below h1 hb, h2, (h3.below hb (fun b g => g.1.1)).wider e, fun r hr => (S.Sg.below (h4 r hr) hb (fun b g => g.1.1)).wider e, h5.step hb, h6, h7⟩
theorem Bq.set (K : CellsOk H) (h : Bq H w wr v X vx Y R q ks) (i : Nat) (hi : i < ks.length) (u : Value) : Bq H w (wr.setCell ⟨q, i, none⟩ u) v X vx Y R q (ks.set i u) := by
  obtain ⟨F, h1, h2, h3, h4, h5, h6, h7⟩ := h
  have hk : ∀ b, b ≠ q → (wr.setCell ⟨q, i, none⟩ u).heap[b]? = wr.heap[b]? := fun b hb => Below.heap_setCell wr ⟨q, i, none⟩ u b hb
  have hs : wr.heap.size ≤ (wr.setCell ⟨q, i, none⟩ u).heap.size := by simp [World.setCell]
  have e : ∀ b, (Out F wr b ∧ b ≠ q) → (Out F (wr.setCell ⟨q, i, none⟩ u) b ∧ b ≠ q) := fun b g => ⟨⟨Nat.lt_of_lt_of_le g.1.1 hs, g.1.2⟩, g.2⟩
  have hc : ∀ p : Addr, (Out F wr p.block ∧ p.block ≠ q) → (wr.setCell ⟨q, i, none⟩ u).cell? p = wr.cell? p := fun p g => World.cell?_of_block (hk _ g.2)
  exact ⟨F, K.keep h1 (fun b g => hk b (fun e => h6 (by rw [← e]; exact g))) hs, h2, (h3.keep hc).wider e, fun r hr => ((h4 r hr).keep hc).wider e, h5.set i hi u, h6, h7⟩
theorem Bq.sweep (KS : SweepOk H) {va : Value} {act : List Int} (h : Bq H w wr v X vx Y R q ks) (hr : nmR va act ∈ R) (hb : Below w.heap.size w wr) (hf : Cl.Fit 100 X) (hrx : ∀ p ∈ X, RngC p.2) (hl : act.length ≤ 200) (hra : RngN act) (k : Cl.Ky) (batch : Int) (b0 : -9223372036854775808 ≤ batch) (b1 : batch ≤ 9223372036854775807) :
    Calls Try.prog 26 #[v, va, keyA k, .int .i64 batch] wr fun e w' => e = .returned (.tuple #[keyA (Sw.nextK X k (Sw.many X batch)), .int .i64 (Sw.goneI act ((Sw.rot X k).take (Sw.many X batch)))]) ∧ Bq H w w' v (Sw.sweepS X act (Sw.takenK X k (Sw.many X batch))) vx Y R q ks ∧ Below w.heap.size w w' := by
  obtain ⟨F, h1, h2, h3, h4, h5, h6, h7⟩ := h
  refine (KS.sweep h1 hf hrx ((h4 _ hr).wider (fun b g => g.1)) hl hra k batch b0 b1).mono (fun e w' hh => ?_)
  obtain ⟨e1, g1, g2⟩ := hh
  have hn : ∀ b, (Out F wr b ∧ b ≠ q) → (Out (More F wr w') w' b ∧ b ≠ q) := fun b g => ⟨g.1.next g2.size (fun b q => q), g.2⟩
  exact ⟨e1, ⟨More F wr w', g1, fun b q => q.elim (h2 b) (fun g => Nat.le_trans hb.size g.1), (h3.keep (fun _ hp => g2.cell hp.1.1 hp.1.2)).wider hn, fun r hr => ((h4 r hr).keep (fun _ hp => g2.cell hp.1.1 hp.1.2)).wider hn, h5.turn g2 h6, fun g => g.elim h6 (fun g => by have := h5.lt; have := g.1; omega), h7⟩, hb.trans (g2.below hb.size h2)⟩
theorem below_set {w wr : World} {p : Nat} (h : Below w.heap.size w wr) (hp : w.heap.size ≤ p) (i : Nat) (u : Value) : Below w.heap.size w (wr.setCell ⟨p, i, none⟩ u) :=
  ⟨h.os, h.tape, h.output, by simpa [World.setCell] using h.size, fun k hk => (Below.heap_setCell wr ⟨p, i, none⟩ u k (show k ≠ p by omega)).trans (h.block k hk)⟩
end
end Go.Proofs.Ytmlocdfjjgbnjaa

namespace Go.Proofs.Ytmlocdfjjgbnjaa
open Go.RowKit
theorem sweep_rngC {X : Cl.Cs} (h : ∀ p ∈ X, RngC p.2) {act : List Int} {S : List Cl.Ky} : ∀ p ∈ Sw.sweepS X act S, RngC p.2 := fun q hq => by
  obtain ⟨p, hp, hq⟩ := Sw.sweep_mem.1 hq
  split at hq
  · rw [(Sw.one_sub _ _ q hq).1]
    exact (h p hp).prune act
  · rw [List.mem_singleton] at hq; subst hq; exact h q hp
/-- two rows of what is told -/
def Told13 (w : World) (va vb : Value) (L : Cl.Ws) : Prop := ∃ F G : Nat → Prop, S.Sg w F 4 va L.length (L.flatMap clW) ∧ S.Sg w G 4 vb L.length (L.flatMap clW)
theorem Told13.writes {w : World} {va vb : Value} {L : Cl.Ws} (h : Told13 w va vb L) (hl : L.length ≤ 10000000) : Calls Try.prog 31 #[va, vb] w fun e w' => e = .returned (.bool true) ∧ Below w.heap.size w w' := by
  obtain ⟨F, G, h1, h2⟩ := h
  exact (rwrites11_any h1 h2 hl).mono (fun _ _ hh => ⟨hh.1, hh.2.low⟩)
theorem Lc.low13 {w w' : World} {v : Value} {c : Cn.Ch} (h : Lc w v c) (hb : Below w.heap.size w w') : Lc w' v c := h.below hb
theorem newest_len13 {n : Nat} {X : Cl.Cs} (h : Cl.Fit n X) (hn : n ≤ 1000 := by omega) : (Cl.newest X).length ≤ 10000000 := by
  have : (Cl.newest X).length ≤ X.length := by
    clear h
    unfold Cl.newest
    induction X with
    | nil => simp
    | cons p X ih =>
      rw [List.flatMap_cons, List.length_append, List.length_cons]
      have : (if Cl.lastV ByteArray.empty p.2 = ByteArray.empty then ([] : List (Cl.Ky × ByteArray)) else [(p.1, Cl.lastV ByteArray.empty p.2)]).length ≤ 1 := by split <;> simp
      omega
  have := h.len
  omega
section
variable {H : World → (Nat → Prop) → Value → Cl.Cs → Prop}
set_option maxRecDepth 100000 in
set_option maxHeartbeats 16000000 in
theorem SweepAll_walk (K : SweepOk H) (KL : CellsOk H) (w : World) (vl va : Value) (l : Cl.Cs) (G : Nat → Prop) (act : List Int) (n : Int) (n0 : 0 ≤ n) (hS : Cla w G vl l) (hG : ∀ b, G b → b < w.heap.size) (hR : ∀ p ∈ l, RngC p.2) (hA : Ln w va act) (hRA : RngN act) :
    Calls Try.prog 8 #[vl, va, .int .u8 n] w fun e w' => e = .returned (.bool true) ∧ Below w.heap.size w w' := by
  have HSt := Lib.hid hS
  have HAt := Lib.hid hA
  have HG := Lib.hid hG
  have HR := Lib.hid hR
  have HRA := Lib.hid hRA
  have HK := Lib.hid K
  have HKL := Lib.hid KL
  obtain ⟨A, cap, rfl, hcap⟩ := hS.form
  obtain ⟨B, capb, rfl, hcapb⟩ := hA.form
  clear hS hA hR hRA hG
  by_cases hf : Few13 l
  · have HFe : Hid (∀ W, Below w.heap.size w W → Calls Try.prog 24 #[.slice A l.length cap] W fun e w' => e = .returned (.bool true) ∧ Below W.heap.size W w') := Lib.hid (fun W hb => few13_yes (HSt.out.below hb HG.out) (fun b q => Nat.lt_of_lt_of_le (HG.out b q) hb.size) hf)
    have HFw := Lib.hid hf
    clear hf
    rcases act_cases act with d2 | ⟨d2, l2⟩
    · go_enter Try.func8, Try.ntmps8
      go_wp2_with (first
        | (go_at_call 9; refine (awake13_any HK.out _).mono ?_; rintro e w0 ⟨rfl, b2⟩; have HB0 := Lib.hid b2; clear b2)
        | (go_at_call 24; refine (HFe.out _ HB0.out).mono ?_; rintro e w1 ⟨rfl, b2⟩; have HB1 := Lib.hid (below_two HB0.out b2); clear b2))
      go_ret
      exact ⟨rfl, HB1.out⟩
    · go_enter Try.func8, Try.ntmps8
      obtain ⟨n9, hn9⟩ : ∃ n9, n9 = min l.length 20 := ⟨_, rfl⟩
      have HFi : Hid (∀ W, Below w.heap.size w W → Calls Try.prog 25 #[.slice A l.length cap] W fun e w' => ∃ v vx, e = .returned (.tuple #[v, vx]) ∧ Bw H W w' v (Sw.fillK l n9) vx (Sw.fillK l n9) [] ∧ Below W.heap.size W w') := Lib.hid (fun W hb => by rw [hn9]; exact filled13_any KL (HSt.out.below hb HG.out) (fun b q => Nat.lt_of_lt_of_le (HG.out b q) hb.size) HFw.out)
      have HX1 : Hid (Cl.Fit 20 (Sw.fillK l n9)) := Lib.hid ((Sw.fillK_fit l HFw.out n9 (by omega) (by omega)).more (by omega))
      have HX2 : Hid (Cl.Ord (Sw.fillK l n9)) := Lib.hid (Sw.fillK_ord l n9 (by omega))
      have HX3 : Hid (∀ p ∈ Sw.fillK l n9, RngC p.2) := Lib.hid (Sw.fillK_all l HR.out n9 (by omega))
      have HX5 : Hid (∀ p ∈ Sw.fillK l n9, p.2.length ≤ 20) := Lib.hid (Sw.fillK_ch l HFw.out n9 (by omega) (by omega))
      clear hn9
      generalize Sw.fillK l n9 = X at *
      have HX4 : Hid (Sw.RngX X) := Lib.hid ⟨fun p hp v hv => (HX3.out p hp v hv).t1⟩
      obtain ⟨kb, hkb⟩ : ∃ kb : Int, kb = n % 5 := ⟨_, rfl⟩
      have hkb2 : n.tmod 5 = kb := by rw [Int.tmod_eq_emod_of_nonneg n0, hkb]
      have hkb0 : 0 ≤ kb := by omega
      have hkb5 : kb < 5 := by omega
      have hkb1 : n % 5 = kb := hkb.symm
      have hwr : IntKind.i64.wrap (1 + kb) = 1 + kb := IntWalk.i64_in _ (by omega)
      clear hkb
      have HF200 : Hid (Cl.Fit 200 X) := Lib.hid (HX1.out.more (by omega))
      go_wp2_with (first
        | (go_at_call 9; refine (awake13_any HK.out _).mono ?_; rintro e w0 ⟨rfl, b2⟩; have HB0 := Lib.hid b2; clear b2)
        | (go_at_call 24; refine (HFe.out _ HB0.out).mono ?_; rintro e w2 ⟨rfl, b2⟩; have HB2 := Lib.hid (below_two HB0.out b2); clear b2 HFe)
        | (go_at_call 25; refine (HFi.out _ HB2.out).mono ?_; rintro e w3 ⟨v1, vx, rfl, hl3, b3⟩
           obtain ⟨Gx, hGx, _⟩ := hl3.cls
           obtain ⟨A9, c9, rfl, hc9⟩ := Cls.form hGx
           have HA2 := Lib.hid (HAt.out.below HB2.out)
           obtain ⟨Fa, hsa, hFa⟩ := HA2.out
           have HL3 := Lib.hid (hl3.arg b3 (nmR (.slice B act.length capb) act) (S.Sg.below hsa b3 hFa) hFa)
           have HB3 := Lib.hid b3
           clear hl3 b3 HFi hGx hsa hFa HA2)
        | (go_at_call 30; refine (HL3.out.newest HKL.out HB3.out HF200.out).mono ?_; rintro e w4 ⟨v4, rfl, hl4, b4⟩
           have HL4 := Lib.hid hl4
           have HB4 := Lib.hid b4
           clear hl4 b4 HL3 HB3))
      obtain ⟨q, hq⟩ : ∃ q, q = w4.heap.size := ⟨_, rfl⟩
      obtain ⟨w5, hw5⟩ : ∃ w5, w5 = w4.alloc (.cells #[.int .i64 0, .int .i64 0, .int .i64 0] 50) := ⟨_, rfl⟩
      have HQ5 : Hid (Bq H w2 w5 v1 X (.slice A9 X.length c9) X [wrR v4 (Cl.newest X), nmR (.slice B act.length capb) act] q [.int .i64 0, .int .i64 0, .int .i64 0]) := Lib.hid (by rw [hw5]; exact Bq.new HKL.out HL4.out HB4.out.size 50 hq)
      have HB5 : Hid (Below w2.heap.size w2 w5) := Lib.hid (by rw [hw5]; exact below_two HB4.out ((Below.refl _ _).alloc (Nat.le_refl _) _))
      have HOn5 : Hid (Sw.On X X act ⟨0, 0, 0⟩ 0) := Lib.hid (Sw.On.start HX2.out HX4.out _)
      rw [← hq, ← hw5]
      clear hw5 hq HL4 HB4 HF200 HSt HAt HG HFw
      go_loopw [13] (fun iv wr => ∃ (r : Nat) (Y : Cl.Cs) (kk : Cl.Ky), r ≤ 25 ∧ iv = .int .i64 (r : Int) ∧ Hid (Bq H w2 wr v1 Y (.slice A9 X.length c9) X [wrR v4 (Cl.newest X), nmR (.slice B act.length capb) act] q [.int .i64 kk.kind, .int .i64 kk.a, .int .i64 kk.b]) ∧ Hid (Sw.On X Y act kk r) ∧ Hid (Cl.Fit 20 Y) ∧ Hid (∀ p ∈ Y, RngC p.2) ∧ Hid (Below w2.heap.size w2 wr)) (fun iv _ => 25 - (intOf iv).toNat)
      case atStart => exact ⟨0, X, ⟨0, 0, 0⟩, Nat.zero_le _, rfl, HQ5, HOn5, HX1, HX3, HB5⟩
      case round =>
        clear HQ5 HOn5 HB5
        obtain ⟨r, Y, kk, hr, rfl, HQ, HOn, HF, HRY, HB⟩ := hrel
        by_cases hlt : r < 25
        · have hlt' : (r : Int) < 25 := by omega
          have hr0 : (0 : Int) ≤ (r : Int) := by omega
          obtain ⟨m, hm⟩ : ∃ m, m = Sw.many Y (1 + kb) := ⟨_, rfl⟩
          obtain ⟨nk, hnk⟩ : ∃ nk, nk = Sw.nextK Y kk m := ⟨_, rfl⟩
          obtain ⟨gone, hgone⟩ : ∃ gone, gone = Sw.goneI act ((Sw.rot Y kk).take m) := ⟨_, rfl⟩
          obtain ⟨Y', hY'⟩ : ∃ Y', Y' = Sw.sweepS Y act (Sw.takenK Y kk m) := ⟨_, rfl⟩
          have HOn' : Hid (Sw.On X Y' act nk (r + 1)) := Lib.hid (by
            have := HOn.out.step HX4.out (show 1 ≤ 1 + kb by omega)
            rw [← hm, ← hY', ← hnk] at this
            exact this)
          have HF' : Hid (Cl.Fit 20 Y') := Lib.hid (by rw [hY']; exact sweep_fit HF.out)
          have HRY' : Hid (∀ p ∈ Y', RngC p.2) := Lib.hid (by rw [hY']; exact sweep_rngC HRY.out)
          have HSw : Hid (Calls Try.prog 26 #[v1, .slice B act.length capb, .agg #[.int .i64 kk.kind, .int .i64 kk.a, .int .i64 kk.b], .int .i64 (1 + kb)] wr fun e w' => e = .returned (.tuple #[.agg #[.int .i64 nk.kind, .int .i64 nk.a, .int .i64 nk.b], .int .i64 gone]) ∧ Bq H w2 w' v1 Y' (.slice A9 X.length c9) X [wrR v4 (Cl.newest X), nmR (.slice B act.length capb) act] q [.int .i64 kk.kind, .int .i64 kk.a, .int .i64 kk.b] ∧ Below w2.heap.size w2 w') := Lib.hid (by
            have := HQ.out.sweep HK.out (va := .slice B act.length capb) (act := act) (List.mem_cons_of_mem _ (List.mem_cons_self ..)) HB.out (HF.out.more (by omega)) HRY.out (by omega) HRA.out kk (1 + kb) (by omega) (by omega)
            rw [← hm, ← hY', ← hnk, ← hgone] at this
            exact this)
          have hbk := HQ.out.bk.1
          have c0 := hbk.cell 0 _ rfl
          have c1 := hbk.cell 1 _ rfl
          have c2 := hbk.cell 2 _ rfl
          clear hm hnk hgone hY' hbk HOn HF HRY
          go_wp2_with (first
            | (go_at_call 26; refine HSw.out.mono ?_; rintro e w6 ⟨rfl, hl6, b6⟩
               have hb7 : Below w6.heap.size w6 (w6.alloc (.cells #[.int .i64 nk.kind, .int .i64 nk.a, .int .i64 nk.b] 50)) := (Below.refl _ _).alloc (Nat.le_refl _) _
               have HQ7 := Lib.hid (hl6.low HKL.out hb7)
               have HB7 := Lib.hid (below_two b6 hb7)
               have hn := Bk.new w6 [.int .i64 nk.kind, .int .i64 nk.a, .int .i64 nk.b] 50 rfl
               have n0 := hn.cell 0 _ rfl
               have n1 := hn.cell 1 _ rfl
               have n2 := hn.cell 2 _ rfl
               have hz := HQ7.out.bk.1
               have z0 := hz.cell 0 _ rfl
               have z1 := hz.cell 1 _ rfl
               have z2 := hz.cell 2 _ rfl
               have f0 := hz.fz 0 (by simp)
               have f1 := hz.fz 1 (by simp)
               have f2 := hz.fz 2 (by simp)
               clear hn hz hb7 hl6 b6 HSw HQ HB c0 c1 c2))
          obtain ⟨w7, hw7⟩ : ∃ w7, w7 = w6.alloc (.cells #[.int .i64 nk.kind, .int .i64 nk.a, .int .i64 nk.b] 50) := ⟨_, rfl⟩
          rw [← hw7] at HQ7 HB7 ⊢
          have HQ8 := Lib.hid (((HQ7.out.set HKL.out 0 (by simp) (.int .i64 nk.kind)).set HKL.out 1 (by simp) (.int .i64 nk.a)).set HKL.out 2 (by simp) (.int .i64 nk.b))
          have HB8 := Lib.hid (below_set (below_set (below_set HB7.out HQ7.out.bk.2 0 (.int .i64 nk.kind)) HQ7.out.bk.2 1 (.int .i64 nk.a)) HQ7.out.bk.2 2 (.int .i64 nk.b))
          go_roundw
          case rel => exact ⟨r + 1, Y', nk, by omega, by go_num, HQ8, HOn', HF', HRY', HB8⟩
          case measure => simp [intOf]; omega
        · obtain rfl : r = 25 := by omega
          have hNo : ¬ (((25 : Nat) : Int) < 25) := by omega
          have hn20 : X.length ≤ 20 := HX1.out.len
          have HCh : Hid (∀ i (hi : i < X.length), Cl.chain Y X[i].1 = Sw.prunedC X[i].2 act) := Lib.hid (fun i hi => by
            have hmem := List.getElem_mem hi
            have := HOn.out.fin (by omega) X[i].1 (List.mem_map_of_mem hmem)
            rw [this, HX2.out.chain_mem hmem])
          have HNw : Hid (Cl.newest Y = Cl.newest X) := Lib.hid HOn.out.new
          have HNl : Hid ((Cl.newest X).length ≤ 10000000) := Lib.hid (newest_len13 HX1.out)
          have HFy : Hid (Cl.Fit 200 Y) := Lib.hid (HF.out.more (by omega))
          have HL8 := Lib.hid HQ.out.bw
          have HB8 := HB
          clear HQ HOn HF HRY HB
          obtain ⟨w8, hw8⟩ : ∃ w8, w8 = wr := ⟨_, rfl⟩
          rw [← hw8] at HL8 HB8
          have HBe : Hid (Below w8.heap.size w8 wr) := Lib.hid (by rw [← hw8]; exact Below.refl _ _)
          clear hw8
          go_wp2
          have HXW : Hid (∀ W, Below w8.heap.size w8 W → ∀ i (hi : i < X.length), ∃ a A c, A9 = some a ∧ Lc W (.slice A X[i].2.length c) X[i].2 ∧ ∀ W', Below w8.heap.size w8 W' → W'.cell? (a.add (i * 4)) = some (.int .i64 X[i].1.kind) ∧ W'.cell? ⟨(a.add (i * 4)).block, (a.add (i * 4)).off + 1, none⟩ = some (.int .i64 X[i].1.a) ∧ W'.cell? ⟨(a.add (i * 4)).block, (a.add (i * 4)).off + 2, none⟩ = some (.int .i64 X[i].1.b) ∧ W'.cell? ⟨(a.add (i * 4)).block, (a.add (i * 4)).off + 3, none⟩ = some (.slice A X[i].2.length c)) := Lib.hid (fun W hb i hi => by
            obtain ⟨Gx, hGx, hlt⟩ := HL8.out.cls
            obtain ⟨a, cap, A, c, e, _, ha, y0, y1, y2, y3, y4⟩ := hGx.nth i hi
            have hab : (a.add (i * 4)).block < w8.heap.size := by rw [S.add_block]; exact hlt _ ha
            exact ⟨a, A, c, (Value.slice.inj e).1, Lc.low13 ⟨Gx, y4, hlt⟩ hb, fun W' hb' => four_keep hb' hab ⟨y0, y1, y2, y3⟩⟩)
          have HAW : Hid (∀ W, Below w8.heap.size w8 W → Ln W (.slice B act.length capb) act) := Lib.hid (fun W hb => (HL8.out.low HKL.out hb).ln (List.mem_cons_of_mem _ (List.mem_cons_self ..)))
          have HCW : Hid (∀ W, Below w8.heap.size w8 W → ∀ kk, Calls Try.prog 29 #[v1, keyA kk] W fun e w' => ∃ v', e = .returned v' ∧ Lc w' v' (Cl.chain Y kk) ∧ Below W.heap.size W w') := Lib.hid (fun W hb kk => by
            obtain ⟨F, h1, h2, h3, h4⟩ := HL8.out.low HKL.out hb
            refine (KL.chain h1 HFy.out kk).mono (fun e w' hh => ?_)
            obtain ⟨v', e, g1, g2⟩ := hh
            exact ⟨v', e, Lc.of_new g1, g2⟩)
          have HNW : Hid (∀ W, Below w8.heap.size w8 W → Calls Try.prog 30 #[v1] W fun e w' => ∃ v', e = .returned v' ∧ Told13 w' v' v4 (Cl.newest X) ∧ Below W.heap.size W w') := Lib.hid (fun W hb => by
            obtain ⟨F, h1, h2, h3, h4⟩ := HL8.out.low HKL.out hb
            refine (KL.newest h1 HFy.out).mono (fun e w' hh => ?_)
            obtain ⟨v', e, g1, g2⟩ := hh
            rw [HNw.out] at g1
            exact ⟨v', e, ⟨_, _, g1, S.Sg.below (h4 _ (List.mem_cons_self ..)) g2 (fun b g => g.1)⟩, g2⟩)
          have HBF : Hid (Below w.heap.size w w8) := Lib.hid (below_two HB2.out HB8.out)
          clear HL8 HB8 HB2 HFy
          go_loopw [16] (fun iv wr => ∃ i : Nat, i ≤ X.length ∧ iv = .int .i64 (i : Int) ∧ Hid (Below w8.heap.size w8 wr)) (fun iv _ => X.length - (intOf iv).toNat)
          case atStart => exact ⟨0, Nat.zero_le _, rfl, HBe⟩
          case round =>
            clear HBe
            obtain ⟨j, hj, rfl, HB⟩ := hrel
            by_cases hjl : j < X.length
            · have hjl' : (j : Int) < (X.length : Int) := by omega
              have hj0 : (0 : Int) ≤ (j : Int) := by omega
              have hmem := List.getElem_mem hjl
              have hcl : X[j].2.length ≤ 20 := HX5.out _ hmem
              obtain ⟨ax, Aj, cj, rfl, hlc, hY6⟩ := HXW.out _ HB.out j hjl
              have HY6 := Lib.hid hY6
              obtain ⟨y0, y1, y2, y3⟩ := hY6 _ HB.out
              have HLC : Hid (∀ W, Below w8.heap.size w8 W → Lc W (.slice Aj X[j].2.length cj) X[j].2) := Lib.hid (fun W hb => by
                obtain ⟨a2, A2, c2, e2, h2, h3⟩ := HXW.out W hb j hjl
                obtain rfl : ax = a2 := Option.some.inj e2
                have := (h3 _ HB.out).2.2.2
                rw [y3] at this
                rw [Option.some.inj this]
                exact h2)
              have HCh0 : Hid (Calls Try.prog 29 #[v1, .agg #[.int .i64 X[j].1.kind, .int .i64 X[j].1.a, .int .i64 X[j].1.b]] wr fun e w' => ∃ v', e = .returned v' ∧ Lc w' v' (Sw.prunedC X[j].2 act) ∧ Below wr.heap.size wr w') := Lib.hid (by
                have := HCW.out wr HB.out X[j].1
                rw [HCh.out j hjl] at this
                exact this)
              clear hY6 hlc hmem
              generalize X[j].1 = kk at *
              generalize X[j].2 = cc at *
              obtain ⟨pl, hpl⟩ : ∃ pl, pl = (Sw.pruneC cc act).length := ⟨_, rfl⟩
              have HPL : Hid ((Sw.pruneC cc act).length = pl) := Lib.hid hpl.symm
              have hpl2 : pl ≤ cc.length := by rw [hpl]; exact Sw.prune_sub.length_le
              have HPr : Hid (∀ W, Below w8.heap.size w8 W → Calls Try.prog 17 #[.slice Aj cc.length cj, .slice B act.length capb] W fun e w' => ∃ v', e = .returned v' ∧ Lc w' v' (Sw.pruneC cc act) ∧ Below W.heap.size W w') := Lib.hid (fun W hb => rprune13L (HLC.out W hb) (by omega) (HAW.out W hb) (by omega))
              by_cases hy : Sw.pruneC cc act = []
              · have d6 : ((pl : Int) == 0) = true := by rw [hpl, hy]; rfl
                have HFr : Hid (Sw.prunedC cc act = Cn.fresh) := Lib.hid (by unfold Sw.prunedC; rw [if_pos hy])
                rw [HFr.out] at HCh0
                clear hy hpl HLC
                go_wp2_with (first
                  | (go_at_call 29; refine HCh0.out.mono ?_; rintro e w10 ⟨v10, rfl, h10, b10⟩; have HB10 := Lib.hid (below_two HB.out b10); have H10 := Lib.hid h10
                     obtain ⟨x0, x1, x2, x3⟩ := HY6.out _ HB10.out
                     clear h10 b10 HCh0)
                  | (go_at_call 17; refine (HPr.out _ HB10.out).mono ?_; rintro e w11 ⟨v8, rfl, h8, b8⟩
                     obtain ⟨A8, c8, rfl, _⟩ := h8.form
                     rw [HPL.out]
                     have HB11 := Lib.hid (below_two HB10.out b8)
                     have ba : Below w11.heap.size w11 (w11.alloc (.cells #[.int .i64 0, .int .i64 0, .string ⟨#[]⟩, .bool true] 38)) := (Below.refl _ _).alloc (Nat.le_refl _) _
                     have HB12 := Lib.hid (below_two HB11.out ba)
                     have HFs : Hid (Lc (w11.alloc (.cells #[.int .i64 0, .int .i64 0, .string ⟨#[]⟩, .bool true] 38)) (.slice (some ⟨w11.heap.size, 0, none⟩) 1 1) Cn.fresh) := Lib.hid ⟨_, sg_row4 w11 38 #[.int .i64 0, .int .i64 0, .string ⟨#[]⟩, .bool true] rfl, fun b q => by subst q; simp⟩
                     have H12 := Lib.hid ((H10.out.below b8).below ba)
                     clear h8 b8 ba HPr HB11 H10)
                  | (go_at_call 15; refine (real13L H12.out (by decide)).mono ?_; rintro e w13 ⟨v13, rfl, h13, b13⟩; have HB13 := Lib.hid (below_two HB12.out b13); have H13 := Lib.hid h13; have HF13 := Lib.hid (HFs.out.below b13); clear h13 b13 HFs)
                  | (go_at_call 14; refine (same13L H13.out HF13.out (by decide)).mono ?_; rintro e w14 ⟨rfl, b14⟩; have HB14 := Lib.hid (below_two HB13.out b14); clear b14))
                go_roundw
                case rel => exact ⟨j + 1, by omega, by go_num, HB14⟩
                case measure => simp [intOf]; omega
              · have d6 : ((pl : Int) == 0) = false := by
                  have : pl ≠ 0 := fun e => hy (List.length_eq_zero_iff.1 (by rw [← hpl, e]))
                  simpa using this
                have HFr : Hid (Sw.prunedC cc act = Sw.pruneC cc act) := Lib.hid (by unfold Sw.prunedC; rw [if_neg hy])
                rw [HFr.out] at HCh0
                have HPl2 : Hid ((Sw.pruneC cc act).length ≤ 1000) := Lib.hid (by rw [← hpl]; omega)
                clear hy hpl HLC
                go_wp2_with (first
                  | (go_at_call 29; refine HCh0.out.mono ?_; rintro e w10 ⟨v10, rfl, h10, b10⟩; have HB10 := Lib.hid (below_two HB.out b10); have H10 := Lib.hid h10
                     obtain ⟨x0, x1, x2, x3⟩ := HY6.out _ HB10.out
                     clear h10 b10 HCh0)
                  | (go_at_call 17; refine (HPr.out _ HB10.out).mono ?_; rintro e w11 ⟨v8, rfl, h8, b8⟩
                     obtain ⟨A8, c8, rfl, _⟩ := h8.form
                     have H8 := Lib.hid h8
                     rw [HPL.out]
                     have HB12 := Lib.hid (below_two HB10.out b8)
                     have HFs : Hid (Lc w11 (.slice A8 pl c8) (Sw.pruneC cc act)) := Lib.hid (by rw [← HPL.out]; exact H8.out)
                     have H12 := Lib.hid (H10.out.below b8)
                     clear h8 b8 HPr H8 H10)
                  | (go_at_call 15; refine (real13L H12.out HPl2.out).mono ?_; rintro e w13 ⟨v13, rfl, h13, b13⟩; have HB13 := Lib.hid (below_two HB12.out b13); have H13 := Lib.hid h13; have HF13 := Lib.hid (HFs.out.below b13); clear h13 b13 HFs)
                  | (go_at_call 14; refine (same13L H13.out HF13.out HPl2.out).mono ?_; rintro e w14 ⟨rfl, b14⟩; have HB14 := Lib.hid (below_two HB13.out b14); clear b14))
                go_roundw
                case rel => exact ⟨j + 1, by omega, by go_num, HB14⟩
                case measure => simp [intOf]; omega
            · obtain rfl : j = X.length := by omega
              have hNo2 : ¬ (X.length : Int) < (X.length : Int) := by omega
              go_wp2_with (first
                | (go_at_call 30; refine (HNW.out _ HB.out).mono ?_; rintro e w10 ⟨v10, rfl, h10, b10⟩; have HB10 := Lib.hid (below_two HB.out b10); have H10 := Lib.hid h10; clear h10 b10)
                | (go_at_call 31; refine (H10.out.writes HNl.out).mono ?_; rintro e w11 ⟨rfl, b11⟩; have HB11 := Lib.hid (below_two HB10.out b11); clear b11))
              go_ret
              exact ⟨rfl, below_two HBF.out HB11.out⟩
  · have HFe : Hid (∀ W, Below w.heap.size w W → Calls Try.prog 24 #[.slice A l.length cap] W fun e w' => e = .returned (.bool false) ∧ Below W.heap.size W w') := Lib.hid (fun W hb => few13_no (HSt.out.below hb HG.out) (fun b q => Nat.lt_of_lt_of_le (HG.out b q) hb.size) hf)
    clear hf
    go_enter Try.func8, Try.ntmps8
    go_wp2_with (first
      | (go_at_call 9; refine (awake13_any HK.out _).mono ?_; rintro e w0 ⟨rfl, b2⟩; have HB0 := Lib.hid b2; clear b2)
      | (go_at_call 24; refine (HFe.out _ HB0.out).mono ?_; rintro e w1 ⟨rfl, b2⟩; have HB1 := Lib.hid (below_two HB0.out b2); clear b2))
    go_ret
    exact ⟨rfl, HB1.out⟩
end
end Go.Proofs.Ytmlocdfjjgbnjaa
