/-
  The landed cells: Read, Write, Set, Keys.
-/
import Derived.Test.YtpppjipelcfnkaaClP1
import Derived.StillTailTactics
namespace Go.Proofs.Ytpppjipelcfnkaa
open Go.RowKit

theorem Hg.setCell {w : World} {F : Nat → Prop} {g b : Nat} {X : Cl.Cs} (h : Hg w F g b X) {p : Nat} (hp : ¬ F p) (o : Nat) (v : Value) : Hg (w.setCell ⟨p, o, none⟩ v) F g b X :=
  h.keep (fun r hr => Below.heap_setCell w ⟨p, o, none⟩ v r (fun e => hp (by rw [show p = r from e.symm]; exact hr))) (by simp [World.setCell])
/-- behind two blocks of the call's own -/
theorem Hg.behind {w w2 w6 w7 : World} {F : Nat → Prop} {g b : Nat} {X Y : Cl.Cs} (h : Hg w F g b X) (hb : Below w.heap.size w w2) (hs : w2.heap.size ≤ w6.heap.size) (h7 : Hg w7 (More F w2 w6) g b Y) (h67 : w6.heap.size ≤ w7.heap.size) : Hg w7 (More F w w7) g b Y :=
  h7.wider (fun _ q => q.elim Or.inl (fun q => Or.inr ⟨Nat.le_trans hb.size q.1, Nat.lt_of_lt_of_le q.2 h67⟩)) (more_lt h.lt (Nat.le_trans hb.size (Nat.le_trans hs h67)))

set_option maxRecDepth 100000 in
set_option maxHeartbeats 4000000 in
theorem read11 {w : World} {F : Nat → Prop} {v : Value} {X : Cl.Cs} (h : Hc w F v X) (hf : Cl.Fit 200 X) (k : Cl.Ky) (ts : Int) (t0 : -9223372036854775808 ≤ ts) (t1 : ts ≤ 9223372036854775807) :
    Calls Try.prog 21 #[v, keyA k, .int .i64 ts] w fun e w' => e = .returned (verA (Cl.readW X k ts)) ∧ Hc w' (More F w w') v (Cl.readX X k ts) ∧ Turn F w w' := by
  obtain ⟨g, b, rfl, h⟩ := h
  have HH := Lib.hid h
  have hb2 : Below w.heap.size w ((w.alloc (.cells #[.int .i64 k.kind, .int .i64 k.a, .int .i64 k.b] 31)).alloc (.cells #[.int .i64 0, .int .i64 0, .string ⟨#[]⟩, .bool false] 49)) := ((Below.refl _ _).alloc (Nat.le_refl _) _).alloc (by simp) _
  have HK2 := Lib.hid ((Bk.new w [.int .i64 k.kind, .int .i64 k.a, .int .i64 k.b] 31 rfl).alloc (.cells #[.int .i64 0, .int .i64 0, .string ⟨#[]⟩, .bool false] 49))
  have HR2 := Lib.hid (Bk.new (w.alloc (.cells #[.int .i64 k.kind, .int .i64 k.a, .int .i64 k.b] 31)) [.int .i64 0, .int .i64 0, .string ⟨#[]⟩, .bool false] 49 (g := w.heap.size + 1) (by simp))
  have HB2 := Lib.hid hb2
  have hs2 : ((w.alloc (.cells #[.int .i64 k.kind, .int .i64 k.a, .int .i64 k.b] 31)).alloc (.cells #[.int .i64 0, .int .i64 0, .string ⟨#[]⟩, .bool false] 49)).heap.size = w.heap.size + 1 + 1 := by simp
  have HS2 := Lib.hid hs2
  clear hb2 hs2
  by_cases ht : ts < 0
  · have hd : decide (ts < 0) = true := decide_eq_true ht
    have e1 : Cl.readW X k ts = Cn.zero := by unfold Cl.readW; rw [if_pos ht]
    have e2 : Cl.readX X k ts = X := by unfold Cl.readX; rw [if_pos ht]
    rw [e1, e2]
    clear e1 e2 h
    unfold keyA
    go_enter Try.func21, Try.ntmps21
    go_wp2
    refine bodyPost_ret (results_bk rfl _ rfl HR2.out Try.underlying49 rfl infoCv) rfl ?_
    exact ⟨rfl, ⟨g, b, rfl, HH.out.later HB2.out⟩, Turn.of_below HB2.out⟩
  · have hd : decide (ts < 0) = false := decide_eq_false ht
    have e1 : Cl.readW X k ts = Cn.readV (Cl.chain X k) ts := by unfold Cl.readW; rw [if_neg ht]
    have e2 : Cl.readX X k ts = Cl.setX X k (Cn.readC (Cl.chain X k) ts) := by unfold Cl.readX; rw [if_neg ht]
    rw [e1, e2]
    have hmay := (Cn.mayB_iff _).2 (Cn.may_read (h.ord.chain_may k) ts)
    have hlen := hf.chain k
    have HO : Hid (∀ W, Below w.heap.size w W → Calls Try.prog 42 #[.pointer (some ⟨g, 0, none⟩), keyA k] W fun e w' => ∃ A cap, e = .returned (.slice A (Cl.chain X k).length cap) ∧ SlC w' (Chs (More F W w') g b) (.slice A (Cl.chain X k).length cap) (Cl.chain X k) ∧ Below W.heap.size W w') := Lib.hid (fun W hb => own11 (HH.out.below hb) k)
    have HRd : Hid (∀ (W W3 : World) (A : Option Addr) (cap : Nat), Below w.heap.size w W → Below W.heap.size W W3 → SlC W3 (Chs (More F W W3) g b) (.slice A (Cl.chain X k).length cap) (Cl.chain X k) →
        Calls Try.prog 43 #[.slice A (Cl.chain X k).length cap, .int .i64 ts] W3 fun e w' => ∃ A' n' c', e = .returned (.tuple #[.slice A' n' c', verA (Cn.readV (Cl.chain X k) ts)]) ∧ SlC w' (Chs (More F W w') g b) (.slice A' n' c') (Cn.readC (Cl.chain X k) ts) ∧ Below W3.heap.size W3 w') := Lib.hid (fun W W3 A cap hb hb3 hv =>
      (ok10.read hv (fun r q => more_lt (HH.out.below hb).lt hb3.size r q.1) (by omega) ts t0 t1).mono (fun e w' hh => by
        obtain ⟨v', rfl, h1, h2⟩ := hh
        obtain ⟨A', c', rfl, _⟩ := SlC.form h1
        refine ⟨A', _, c', rfl, h1.wider (fun r q => q.elim (fun q => ⟨more_more h2.size r q.1, q.2⟩) (fun q => ?_)), h2⟩
        exact ((HH.out.below hb).new_not hb3.size r q)))
    have HLd : Hid (∀ (W W5 : World) (vc : Value), Below w.heap.size w W → Below W.heap.size W W5 → SlC W5 (Chs (More F W W5) g b) vc (Cn.readC (Cl.chain X k) ts) →
        ∃ m n, Mk W5 b n m ∧ ∀ w6, Mk w6 b (n + 1) (fun k' => if k' = k then some vc else m k') → W5.grownBy w6 (some b) → Hg w6 (More F W w6) g b (Cl.setX X k (Cn.readC (Cl.chain X k) ts)) ∧ Turn F W w6) := Lib.hid (fun W W5 vc hb hb5 hv => (HH.out.below hb).laid hb5 hmay hv)
    have HC : Hid (∀ W, Below w.heap.size w W → W.cell? ⟨g, 0, none⟩ = some (.map (some b))) := Lib.hid (fun W hb => HH.out.cellAt hb)
    clear hmay hlen e1 e2 h
    obtain ⟨n0, hn0⟩ : ∃ n, n = (Cl.chain X k).length := ⟨_, rfl⟩
    rw [← hn0] at HO HRd
    clear hn0
    generalize Cn.readV (Cl.chain X k) ts = u at *
    generalize Cn.readC (Cl.chain X k) ts = c' at *
    unfold keyA verA at *
    go_enter Try.func21, Try.ntmps21
    go_wp2_with fail
    generalize ((w.alloc (.cells #[.int .i64 k.kind, .int .i64 k.a, .int .i64 k.b] 31)).alloc (.cells #[.int .i64 0, .int .i64 0, .string ⟨#[]⟩, .bool false] 49)) = w2 at *
    refine (HO.out _ HB2.out).mono ?_
    rintro e w3 ⟨A3, c3, rfl, h3, hb3⟩
    have H3 := Lib.hid h3
    have HB3 := Lib.hid hb3
    clear h3 hb3 HO
    go_wp2_with (go_at_call 43; refine (HRd.out _ _ _ _ HB2.out HB3.out H3.out).mono ?_; rintro e w4 ⟨A4, n4, c4, rfl, h4, hb4⟩; have H4 := Lib.hid h4; have HB4 := Lib.hid hb4; clear h4 hb4)
    have HB4' : Hid (Below w2.heap.size w2 w4) := Lib.hid (below_two HB3.out HB4.out)
    have HK4 := Lib.hid ((HK2.out.step HB4'.out).alloc (.cells #[.int .i64 u.ts, .int .i64 u.rd, .string u.val, .bool u.done] 49))
    have HR4 := Lib.hid ((HR2.out.step HB4'.out).alloc (.cells #[.int .i64 u.ts, .int .i64 u.rd, .string u.val, .bool u.done] 49))
    have HV4 := Lib.hid (Bk.new w4 [.int .i64 u.ts, .int .i64 u.rd, .string u.val, .bool u.done] 49 rfl)
    have hb45 : Below w4.heap.size w4 (w4.alloc (.cells #[.int .i64 u.ts, .int .i64 u.rd, .string u.val, .bool u.done] 49)) := (Below.refl _ _).alloc (Nat.le_refl _) _
    have HB5 := Lib.hid (below_two HB4'.out hb45)
    have H5 : Hid (SlC (w4.alloc (.cells #[.int .i64 u.ts, .int .i64 u.rd, .string u.val, .bool u.done] 49)) (Chs (More F w2 (w4.alloc (.cells #[.int .i64 u.ts, .int .i64 u.rd, .string u.val, .bool u.done] 49))) g b) (.slice A4 n4 c4) c') := Lib.hid ((H4.out.below hb45 (fun r q => more_lt (HH.out.below HB2.out).lt HB4'.out.size r q.1)).wider (fun r q => ⟨more_more hb45.size r q.1, q.2⟩))
    generalize w4.alloc (.cells #[.int .i64 u.ts, .int .i64 u.rd, .string u.val, .bool u.done] 49) = w5 at *
    obtain ⟨q, hq⟩ : ∃ q, q = w4.heap.size := ⟨_, rfl⟩
    rw [← hq] at HV4 ⊢
    have HQ : Hid (w2.heap.size ≤ q) := Lib.hid (by rw [hq]; exact HB4'.out.size)
    clear hq H4 hb45 HB4 HB3 H3 HRd
    obtain ⟨m, n, hm, hN⟩ := HLd.out w2 w5 _ HB2.out HB5.out H5.out
    have HN := Lib.hid hN
    have HM : Hid (Mk w5.drew b n m) := Lib.hid hm
    clear hN hm HLd
    have x0 := HK4.out.drew.cell 0 _ rfl
    have x1 := HK4.out.drew.cell 1 _ rfl
    have x2 := HK4.out.drew.cell 2 _ rfl
    have xg : w5.drew.cell? ⟨g, 0, none⟩ = some (.map (some b)) := HC.out w5 (below_two HB2.out HB5.out)
    go_still_tail 6, (by kernel_rfl)
    change wpList _ _ _ _ _ w5.drew
    have HBq : Hid (q ≠ b ∧ w.heap.size + 1 ≠ b) := Lib.hid (by
      have h1 := HH.out.lt _ HH.out.fb
      have h2 := HQ.out
      have h3 := HB2.out.size
      omega)
    go_wp2_with (at_mapUpdate; refine wpList_put rfl _ _ _ _ _ rfl Try.underlying73 rfl HM.out k _ rfl rfl ?_; intro w6 h6 hg6
                 have HV6 := Lib.hid (HV4.out.drew.keep (hg6.block _ HV4.out.lt (fun e => HBq.out.1 (by cases e; rfl))) hg6.size)
                 have HR6 := Lib.hid (HR4.out.drew.keep (hg6.block _ HR4.out.lt (fun e => HBq.out.2 (by cases e; rfl))) hg6.size)
                 have H6 := Lib.hid (HN.out w6 h6 ⟨hg6.os, hg6.tape, hg6.output, hg6.size, hg6.block⟩)
                 clear h6 hg6 x0 x1 x2 xg
                 have v0 := HV6.out.cell 0 _ rfl
                 have v1 := HV6.out.cell 1 _ rfl
                 have v2 := HV6.out.cell 2 _ rfl
                 have v3 := HV6.out.cell 3 _ rfl
                 have r0 := HR6.out.cell 0 _ rfl
                 have r1 := HR6.out.cell 1 _ rfl
                 have r2 := HR6.out.cell 2 _ rfl
                 have r3 := HR6.out.cell 3 _ rfl
                 have f0 := HR6.out.fz 0 (by simp)
                 have f1 := HR6.out.fz 1 (by simp)
                 have f2 := HR6.out.fz 2 (by simp)
                 have f3 := HR6.out.fz 3 (by simp))
    have HR7 := (((HR6.out.set 0 (by simp) (.int .i64 u.ts)).set 1 (by simp) (.int .i64 u.rd)).set 2 (by simp) (.string u.val)).set 3 (by simp) (.bool u.done)
    have hp : ¬ More F w2 w6 (w.heap.size + 1) := fun q => by
      have h2 := HS2.out
      rcases q with q | q
      · have := HH.out.lt _ q; omega
      · have := q.1; omega
    have H7 := (((H6.out.1.setCell hp 0 (.int .i64 u.ts)).setCell hp 1 (.int .i64 u.rd)).setCell hp 2 (.string u.val)).setCell hp 3 (.bool u.done)
    have T7 := ((((Turn.after HB2.out H6.out.2).setCell (p := w.heap.size + 1) (by omega) 0 (.int .i64 u.ts)).setCell (p := w.heap.size + 1) (by omega) 1 (.int .i64 u.rd)).setCell (p := w.heap.size + 1) (by omega) 2 (.string u.val)).setCell (p := w.heap.size + 1) (by omega) 3 (.bool u.done)
    refine bodyPost_ret (results_bk rfl _ rfl HR7 Try.underlying49 rfl infoCv) rfl ?_
    exact ⟨rfl, ⟨g, b, rfl, HH.out.behind HB2.out H6.out.2.size H7 (by simp [World.setCell])⟩, T7⟩

set_option maxRecDepth 100000 in
set_option maxHeartbeats 4000000 in
theorem write11 {w : World} {F : Nat → Prop} {v : Value} {X : Cl.Cs} (h : Hc w F v X) (hf : Cl.Fit 200 X) (k : Cl.Ky) (ts : Int) (val : ByteArray) (t0 : -9223372036854775808 ≤ ts) (t1 : ts ≤ 9223372036854775807) :
    Calls Try.prog 22 #[v, keyA k, .int .i64 ts, .string val] w fun e w' => e = .returned (.int .i64 (Cl.writeF X k ts)) ∧ Hc w' (More F w w') v (Cl.writeX X k ts val) ∧ Turn F w w' := by
  obtain ⟨g, b, rfl, h⟩ := h
  have HH := Lib.hid h
  have hb2 : Below w.heap.size w (w.alloc (.cells #[.int .i64 k.kind, .int .i64 k.a, .int .i64 k.b] 31)) := (Below.refl _ _).alloc (Nat.le_refl _) _
  have HK2 := Lib.hid (Bk.new w [.int .i64 k.kind, .int .i64 k.a, .int .i64 k.b] 31 rfl)
  have HB2 := Lib.hid hb2
  clear hb2
  by_cases ht : ts < 1
  · have hd : decide (ts < 1) = true := decide_eq_true ht
    have e1 : Cl.writeF X k ts = 1 := by unfold Cl.writeF; rw [if_pos ht]
    have e2 : Cl.writeX X k ts val = X := by unfold Cl.writeX; rw [if_pos ht]
    rw [e1, e2]
    clear e1 e2 h
    unfold keyA
    go_enter Try.func22, Try.ntmps22
    go_wp2
    go_ret
    exact ⟨rfl, ⟨g, b, rfl, HH.out.later HB2.out⟩, Turn.of_below HB2.out⟩
  · have hd : decide (ts < 1) = false := decide_eq_false ht
    have e1 : Cl.writeF X k ts = Cn.writeE (Cl.chain X k) ts := by unfold Cl.writeF; rw [if_neg ht]
    have e2 : Cl.writeX X k ts val = Cl.setX X k (Cn.writeC (Cl.chain X k) ts val) := by unfold Cl.writeX; rw [if_neg ht]
    rw [e1, e2]
    have hmay := (Cn.mayB_iff _).2 (Cn.may_write (h.ord.chain_may k) ts val)
    have hlen := hf.chain k
    have HO : Hid (∀ W, Below w.heap.size w W → Calls Try.prog 42 #[.pointer (some ⟨g, 0, none⟩), keyA k] W fun e w' => ∃ A cap, e = .returned (.slice A (Cl.chain X k).length cap) ∧ SlC w' (Chs (More F W w') g b) (.slice A (Cl.chain X k).length cap) (Cl.chain X k) ∧ Below W.heap.size W w') := Lib.hid (fun W hb => own11 (HH.out.below hb) k)
    have HRd : Hid (∀ (W W3 : World) (A : Option Addr) (cap : Nat), Below w.heap.size w W → Below W.heap.size W W3 → SlC W3 (Chs (More F W W3) g b) (.slice A (Cl.chain X k).length cap) (Cl.chain X k) →
        Calls Try.prog 44 #[.slice A (Cl.chain X k).length cap, .int .i64 ts, .string val] W3 fun e w' => ∃ A' n' c', e = .returned (.tuple #[.slice A' n' c', .int .i64 (Cn.writeE (Cl.chain X k) ts)]) ∧ SlC w' (Chs (More F W w') g b) (.slice A' n' c') (Cn.writeC (Cl.chain X k) ts val) ∧ Below W3.heap.size W3 w') := Lib.hid (fun W W3 A cap hb hb3 hv =>
      (ok10.write hv (fun r q => more_lt (HH.out.below hb).lt hb3.size r q.1) (by omega) ts val t0 t1).mono (fun e w' hh => by
        obtain ⟨v', rfl, h1, h2⟩ := hh
        obtain ⟨A', c', rfl, _⟩ := SlC.form h1
        refine ⟨A', _, c', rfl, h1.wider (fun r q => q.elim (fun q => ⟨more_more h2.size r q.1, q.2⟩) (fun q => ?_)), h2⟩
        exact ((HH.out.below hb).new_not hb3.size r q)))
    have HLd : Hid (∀ (W W5 : World) (vc : Value), Below w.heap.size w W → Below W.heap.size W W5 → SlC W5 (Chs (More F W W5) g b) vc (Cn.writeC (Cl.chain X k) ts val) →
        ∃ m n, Mk W5 b n m ∧ ∀ w6, Mk w6 b (n + 1) (fun k' => if k' = k then some vc else m k') → W5.grownBy w6 (some b) → Hg w6 (More F W w6) g b (Cl.setX X k (Cn.writeC (Cl.chain X k) ts val)) ∧ Turn F W w6) := Lib.hid (fun W W5 vc hb hb5 hv => (HH.out.below hb).laid hb5 hmay hv)
    have HC : Hid (∀ W, Below w.heap.size w W → W.cell? ⟨g, 0, none⟩ = some (.map (some b))) := Lib.hid (fun W hb => HH.out.cellAt hb)
    clear hmay hlen e1 e2 h
    obtain ⟨n0, hn0⟩ : ∃ n, n = (Cl.chain X k).length := ⟨_, rfl⟩
    rw [← hn0] at HO HRd
    clear hn0
    generalize Cn.writeE (Cl.chain X k) ts = u at *
    generalize Cn.writeC (Cl.chain X k) ts val = c' at *
    unfold keyA at *
    go_enter Try.func22, Try.ntmps22
    go_wp2_with fail
    generalize (w.alloc (.cells #[.int .i64 k.kind, .int .i64 k.a, .int .i64 k.b] 31)) = w2 at *
    refine (HO.out _ HB2.out).mono ?_
    rintro e w3 ⟨A3, c3, rfl, h3, hb3⟩
    have H3 := Lib.hid h3
    have HB3 := Lib.hid hb3
    clear h3 hb3 HO
    go_wp2_with (go_at_call 44; refine (HRd.out _ _ _ _ HB2.out HB3.out H3.out).mono ?_; rintro e w4 ⟨A4, n4, c4, rfl, h4, hb4⟩; have H4 := Lib.hid h4; have HB4 := Lib.hid (below_two HB3.out hb4); clear h4 hb4)
    have HK4 := Lib.hid (HK2.out.step HB4.out)
    obtain ⟨m, n, hm, hN⟩ := HLd.out w2 w4 _ HB2.out HB4.out H4.out
    have HN := Lib.hid hN
    have HM : Hid (Mk w4.drew b n m) := Lib.hid hm
    clear hN hm HLd HB3 H3 HRd
    have x0 := HK4.out.drew.cell 0 _ rfl
    have x1 := HK4.out.drew.cell 1 _ rfl
    have x2 := HK4.out.drew.cell 2 _ rfl
    have xg : w4.drew.cell? ⟨g, 0, none⟩ = some (.map (some b)) := HC.out w4 (below_two HB2.out HB4.out)
    go_still_tail 6, (by kernel_rfl)
    change wpList _ _ _ _ _ w4.drew
    go_wp2_with (at_mapUpdate; refine wpList_put rfl _ _ _ _ _ rfl Try.underlying73 rfl HM.out k _ rfl rfl ?_; intro w6 h6 hg6
                 have H6 := Lib.hid (HN.out w6 h6 ⟨hg6.os, hg6.tape, hg6.output, hg6.size, hg6.block⟩)
                 clear h6 hg6 x0 x1 x2 xg)
    go_ret
    exact ⟨rfl, ⟨g, b, rfl, HH.out.behind HB2.out H6.out.2.size H6.out.1 (Nat.le_refl _)⟩, Turn.after HB2.out H6.out.2⟩

set_option maxRecDepth 100000 in
set_option maxHeartbeats 4000000 in
theorem set11 {w : World} {F : Nat → Prop} {v : Value} {X : Cl.Cs} {vc : Value} {c : Cn.Ch} (h : Hc w F v X) (hc : SlC w (Out F w) vc c) (hl : c.length ≤ 200) (k : Cl.Ky) :
    Calls Try.prog 23 #[v, keyA k, vc] w fun e w' => e = .returned (.tuple #[]) ∧ Hc w' (More F w w') v (Cl.setX X k c) ∧ Turn F w w' := by
  obtain ⟨g, b, rfl, h⟩ := h
  have HH := Lib.hid h
  obtain ⟨A, cap, rfl, _⟩ := SlC.form hc
  have HCC := Lib.hid hc
  have hb2 : Below w.heap.size w (w.alloc (.cells #[.int .i64 k.kind, .int .i64 k.a, .int .i64 k.b] 31)) := (Below.refl _ _).alloc (Nat.le_refl _) _
  have HK2 := Lib.hid (Bk.new w [.int .i64 k.kind, .int .i64 k.a, .int .i64 k.b] 31 rfl)
  have HB2 := Lib.hid hb2
  clear hb2
  have HMy : Hid (∀ W, Below w.heap.size w W → Calls Try.prog 45 #[.slice A c.length cap] W fun e w' => e = .returned (.bool (Cn.mayB c)) ∧ Below W.heap.size W w') := Lib.hid (fun W hb => ok10.may (HCC.out.below hb (fun r q => q.1)) (fun r q => Nat.lt_of_lt_of_le q.1 hb.size) (by omega))
  have HC : Hid (∀ W, Below w.heap.size w W → W.cell? ⟨g, 0, none⟩ = some (.map (some b))) := Lib.hid (fun W hb => HH.out.cellAt hb)
  cases hm : Cn.mayB c with
  | true =>
    have HCl : Hid (∀ (W W3 : World), Below w.heap.size w W → Below W.heap.size W W3 → Calls Try.prog 41 #[.slice A c.length cap] W3 fun e w' => ∃ A' n' c', e = .returned (.slice A' n' c') ∧ SlC w' (Chs (More F W w') g b) (.slice A' n' c') c ∧ Below W3.heap.size W3 w') := Lib.hid (fun W W3 hb hb3 =>
      (clone10 (HCC.out.below (below_two hb hb3) (fun r q => q.1)) (fun r q => Nat.lt_of_lt_of_le q.1 (below_two hb hb3).size) (by omega)).mono (fun e w' hh => by
        obtain ⟨v', rfl, h1, h2⟩ := hh
        obtain ⟨A', c', rfl⟩ := own_sliceK h1
        exact ⟨A', _, c', rfl, (S.Sg.of_own h1).wider (fun r q => (HH.out.below hb).new_not hb3.size r q), h2⟩))
    have HLd : Hid (∀ (W W5 : World) (vc : Value), Below w.heap.size w W → Below W.heap.size W W5 → SlC W5 (Chs (More F W W5) g b) vc c →
        ∃ m n, Mk W5 b n m ∧ ∀ w6, Mk w6 b (n + 1) (fun k' => if k' = k then some vc else m k') → W5.grownBy w6 (some b) → Hg w6 (More F W w6) g b (Cl.setX X k c) ∧ Turn F W w6) := Lib.hid (fun W W5 vc hb hb5 hv => (HH.out.below hb).laid hb5 hm hv)
    rw [hm] at HMy
    generalize c.length = n0 at *
    clear hm h hc HCC
    unfold keyA at *
    go_enter Try.func23, Try.ntmps23
    go_wp2_with fail
    generalize (w.alloc (.cells #[.int .i64 k.kind, .int .i64 k.a, .int .i64 k.b] 31)) = w2 at *
    refine (HMy.out _ HB2.out).mono ?_
    rintro e w3 ⟨rfl, hb3⟩
    have HB3 := Lib.hid hb3
    clear hb3
    go_wp2_with fail
    have HK3 := Lib.hid (HK2.out.step HB3.out)
    have HB3d : Hid (Below w2.heap.size w2 w3.drew) := Lib.hid HB3.out.drew
    have HS3 : Hid (w3.drew.cell? ⟨w.heap.size, 0, none⟩ = some (.int .i64 k.kind) ∧ w3.drew.cell? ⟨w.heap.size, 1, none⟩ = some (.int .i64 k.a) ∧ w3.drew.cell? ⟨w.heap.size, 2, none⟩ = some (.int .i64 k.b) ∧ w3.drew.cell? ⟨g, 0, none⟩ = some (.map (some b))) := Lib.hid ⟨HK3.out.drew.cell 0 _ rfl, HK3.out.drew.cell 1 _ rfl, HK3.out.drew.cell 2 _ rfl, HC.out w3 (below_two HB2.out HB3.out)⟩
    have HBk : Hid (w.heap.size ≠ b ∧ g ≠ b) := Lib.hid (by
      have h1 := HH.out.lt _ HH.out.fb
      have h2 := HH.out.ne
      omega)
    go_region_held3 (fun w' => w'.cell? ⟨w.heap.size, 0, none⟩ = some (.int .i64 k.kind) ∧ w'.cell? ⟨w.heap.size, 1, none⟩ = some (.int .i64 k.a) ∧ w'.cell? ⟨w.heap.size, 2, none⟩ = some (.int .i64 k.b) ∧ w'.cell? ⟨g, 0, none⟩ = some (.map (some b)))
      (first | exact HS3.out | exact HS4.out | exact HS6.out | assumption)
      (first
        | (go_at_call 41; refine (HCl.out _ _ HB2.out HB3d.out).mono ?_; rintro e w4 ⟨A4, n4, c4, rfl, h4, hb4⟩
           have HB4 := Lib.hid (below_two HB3d.out hb4)
           have HK4 := Lib.hid (HK3.out.drew.step hb4)
           obtain ⟨m, n, hm, hN⟩ := HLd.out w2 w4 _ HB2.out HB4.out h4
           have HS4 : Hid (w4.cell? ⟨w.heap.size, 0, none⟩ = some (.int .i64 k.kind) ∧ w4.cell? ⟨w.heap.size, 1, none⟩ = some (.int .i64 k.a) ∧ w4.cell? ⟨w.heap.size, 2, none⟩ = some (.int .i64 k.b) ∧ w4.cell? ⟨g, 0, none⟩ = some (.map (some b))) := Lib.hid ⟨HK4.out.cell 0 _ rfl, HK4.out.cell 1 _ rfl, HK4.out.cell 2 _ rfl, HC.out w4 (below_two HB2.out HB4.out)⟩
           obtain ⟨w6, hrun, h6, hg6⟩ := hm.put Try.underlying73 k (.slice A4 n4 c4)
           unfold keyA at hrun
           have H6 := Lib.hid (hN w6 h6 hg6)
           have HS6 : Hid (w6.cell? ⟨w.heap.size, 0, none⟩ = some (.int .i64 k.kind) ∧ w6.cell? ⟨w.heap.size, 1, none⟩ = some (.int .i64 k.a) ∧ w6.cell? ⟨w.heap.size, 2, none⟩ = some (.int .i64 k.b) ∧ w6.cell? ⟨g, 0, none⟩ = some (.map (some b))) := Lib.hid (by
             have HK6 := HK4.out.keep (hg6.block _ HK4.out.lt (fun e => HBk.out.1 (by cases e; rfl))) hg6.size
             have hgl := Nat.lt_of_lt_of_le (HH.out.lt _ HH.out.fg) (below_two HB2.out HB4.out).size
             exact ⟨HK6.cell 0 _ rfl, HK6.cell 1 _ rfl, HK6.cell 2 _ rfl, (World.cell?_of_block (a := ⟨g, 0, none⟩) (hg6.block g hgl (fun e => HBk.out.2 (by cases e; rfl)))).trans HS4.out.2.2.2⟩)
           clear h4 hb4 hm hN h6 hg6))
    all_goals go_end0
    all_goals exact ⟨rfl, ⟨g, b, rfl, HH.out.behind HB2.out H6.out.2.size H6.out.1 (Nat.le_refl _)⟩, Turn.after HB2.out H6.out.2⟩
  | false =>
    have HGn : Hid (∀ (W W5 : World), Below w.heap.size w W → Below W.heap.size W W5 →
        ∃ m n, Mk W5 b n m ∧ ∀ w6, Mk w6 b n (fun k' => if k' = k then none else m k') → W5.grownBy w6 (some b) → Hg w6 (More F W w6) g b (Cl.setX X k c) ∧ Turn F W w6) := Lib.hid (fun W W5 hb hb5 => (HH.out.below hb).gone hb5 hm)
    rw [hm] at HMy
    generalize c.length = n0 at *
    clear hm h hc HCC
    unfold keyA at *
    go_enter Try.func23, Try.ntmps23
    go_wp2_with fail
    generalize (w.alloc (.cells #[.int .i64 k.kind, .int .i64 k.a, .int .i64 k.b] 31)) = w2 at *
    refine (HMy.out _ HB2.out).mono ?_
    rintro e w3 ⟨rfl, hb3⟩
    have HB3 := Lib.hid hb3
    clear hb3
    go_wp2_with fail
    have HK3 := Lib.hid (HK2.out.step HB3.out)
    have x0 := HK3.out.drew.cell 0 _ rfl
    have x1 := HK3.out.drew.cell 1 _ rfl
    have x2 := HK3.out.drew.cell 2 _ rfl
    have xg : w3.drew.cell? ⟨g, 0, none⟩ = some (.map (some b)) := HC.out w3 (below_two HB2.out HB3.out)
    obtain ⟨m, n, hm, hN⟩ := HGn.out w2 w3 HB2.out HB3.out
    have HN := Lib.hid hN
    have HM : Hid (Mk w3.drew b n m) := Lib.hid hm
    clear hN hm HGn
    go_still_tail 5, (by kernel_rfl)
    change wpList _ _ _ _ _ w3.drew
    go_wp2_with (at_delete; refine wpList_del rfl _ _ _ _ rfl Try.underlying73 rfl HM.out k rfl ?_; intro w6 h6 hg6
                 have H6 := Lib.hid (HN.out w6 h6 ⟨hg6.os, hg6.tape, hg6.output, hg6.size, hg6.block⟩)
                 clear h6 hg6 x0 x1 x2 xg)
    refine bodyPost_ret (results_none rfl _ _ _) rfl ?_
    exact ⟨rfl, ⟨g, b, rfl, HH.out.behind HB2.out H6.out.2.size H6.out.1 (Nat.le_refl _)⟩, Turn.after HB2.out H6.out.2⟩

theorem keyC_keyV (X : Cl.Cs) : (X.map Prod.fst).flatMap keyV = X.flatMap keyC := by
  induction X with
  | nil => rfl
  | cons p X ih =>
    rw [List.map_cons, List.flatMap_cons, List.flatMap_cons, ih]
    rfl

set_option maxRecDepth 100000 in
set_option maxHeartbeats 2000000 in
theorem keysG11 {w : World} {F : Nat → Prop} {g b : Nat} {X : Cl.Cs} (h : Hg w F g b X) (hf : Cl.Fit 200 X) :
    Calls Try.prog 13 #[.pointer (some ⟨g, 0, none⟩)] w fun e w' => ∃ A cap, e = .returned (.slice A X.length cap) ∧ S.Sg w' (S.New w w') 3 (.slice A X.length cap) X.length (X.flatMap keyC) ∧ Below w.heap.size w w' := by
  refine (callsIn_wide (n := 6)).1 ?_
  have HH := Lib.hid h
  have hcell := h.cell
  obtain ⟨m, hm, hsay⟩ := h.map
  have HSay := Lib.hid hsay
  have hb1 : Below w.heap.size w (w.alloc (.cells #[.map (some b)] 73)) := (Below.refl _ _).alloc (Nat.le_refl _) _
  have HB1 := Lib.hid hb1
  have hlen : ∀ ks, Ks m ks → ks.length ≤ 1000000 := fun ks hk => by
    have h1 := Cl.nodup_le ks (X.map Prod.fst) hk.nod (fun k q => by
      have := (hk.all k).1 q
      rw [(hsay k).iff, Cl.said_key] at this
      exact this)
    have h2 := hf.len
    rw [List.length_map] at h1
    omega
  have cK : ∀ mb W, CallsIn Fence.wide 5 Try.prog 38 #[.map mb] W fun e w' => e = .returned (.func (.func 56) #[] #[.pointer (some ⟨W.heap.size, 0, none⟩)]) ∧ w' = W.alloc (.cells #[.map mb] 73) := fun mb W => keysF 5 mb W
  have hseq : SeqGives Fence.wide (5 - 1 - 1 - 1) Try.prog 56 #[.pointer (some ⟨w.heap.size, 0, none⟩)] keyA (Ks m) X.length (w.alloc (.cells #[.map (some b)] 73)) :=
    keysGive _ (by omega) w.heap.size b X.length m _ (by simp) (by simp) (hm.below hb1)
  have cS := Lib.hid (sortedK 5 (by omega) 56 #[.pointer (some ⟨w.heap.size, 0, none⟩)] (enters_of Try.func56 (by kernel_rfl) rfl) (Ks m) X.length (by have := hf.len; omega) _ hseq hlen)
  have hfK : Fence.wide.fn 38 := trivial
  have hfS : Fence.wide.fn 37 := trivial
  clear h hm hsay hseq hlen hb1
  refine callsIn_of_wp Try.func13 rfl trivial ?_ rfl
  simp only [Try.ntmps13, List.size_toArray, List.length_cons, List.length_nil, Nat.reduceAdd, Nat.reduceSub, Array.replicate_succ, Array.replicate_zero, List.push_toArray, List.append_toArray, List.nil_append, List.cons_append]
  gi_wp2_with (first
    | (gi_at_call 38; refine (cK _ _).mono ?_; rintro e w' ⟨rfl, rfl⟩)
    | (gi_at_call 37; refine cS.out.mono ?_; rintro e w' ⟨v, ks, rfl, hS, hrow, hb⟩; have HS := Lib.hid hS; have HR := Lib.hid hrow; have HB := Lib.hid hb; obtain ⟨A, c, rfl⟩ := own_sliceK hrow; clear hS hrow hb))
  go_ret
  have e := srt_keys HH.out.ord HSay.out HS.out
  have hr := HR.out
  rw [e, List.length_map, keyC_keyV] at hr
  rw [e, List.length_map]
  exact ⟨A, c, rfl, (S.Sg.of_own hr).wider (fun r q => ⟨Nat.le_trans HB1.out.size q.1, q.2⟩), below_two HB1.out HB.out⟩
end Go.Proofs.Ytpppjipelcfnkaa
