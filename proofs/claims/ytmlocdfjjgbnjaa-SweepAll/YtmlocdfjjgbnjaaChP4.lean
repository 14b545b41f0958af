/-
  The landed chain: Read.
-/
import Derived.Test.YtmlocdfjjgbnjaaChP3
import Derived.StillTailTactics
namespace Go.Proofs.Ytmlocdfjjgbnjaa
open Go.RowKit

set_option maxRecDepth 100000 in
set_option maxHeartbeats 4000000 in
theorem read10 {w : World} {F : Nat → Prop} {v : Value} {c : Cn.Ch} (h : SlC w F v c) (hF : ∀ b, F b → b < w.heap.size) (hl : c.length ≤ 1000) (ts : Int) :
    Calls Try.prog 21 #[v, .int .i64 ts] w fun e w' => ∃ v', e = .returned (.tuple #[v', verA (Cn.readV c ts)]) ∧ SlC w' (fun b => F b ∨ S.New w w' b) v' (Cn.readC c ts) ∧ Below w.heap.size w w' := by
  have R0 := Bk.new w [.int .i64 0, .int .i64 0, .string ByteArray.empty, .bool false] 40 rfl
  have hb0 : Below w.heap.size w (w.alloc (.cells #[.int .i64 0, .int .i64 0, .string ByteArray.empty, .bool false] 40)) := (Below.refl _ _).alloc (Nat.le_refl _) _
  have HC := Lib.hid (clone10 (h.below hb0 hF) (fun b q => Nat.lt_of_lt_of_le (hF b q) hb0.size) (by omega))
  have HL : Hid (∀ w', Below w.heap.size w w' → Calls Try.prog 20 #[v, .int .i64 ts] w' fun e w2 => e = .returned (.int .i64 (Cn.look c ts)) ∧ Below w'.heap.size w' w2) := Lib.hid (fun w' hb => look10 (h.below hb hF) (fun b q => Nat.lt_of_lt_of_le (hF b q) hb.size) hl ts)
  have HB0 := Lib.hid hb0
  have HR0 := Lib.hid R0
  clear hb0 R0
  cases hat : Cn.at? c ts with
  | none =>
    rw [Cn.look_none hat] at HL
    have HV : Hid (Cn.readC c ts = c ∧ Cn.readV c ts = Cn.zero) := Lib.hid ⟨Cn.readC_none hat, Cn.readV_none hat⟩
    clear hat
    go_enter Try.func21, Try.ntmps21
    go_wp2_with (first
      | (go_at_call 40; refine HC.out.mono ?_; rintro e w1 ⟨v1, rfl, ho1, hb1⟩; have HO1 := Lib.hid ho1; have R1 := Lib.hid (HR0.out.step hb1); have HB1 := Lib.hid (HB0.out.trans (hb1.mono HB0.out.size)); have hz1 := hb1.size; clear ho1 hb1)
      | (go_at_call 20; refine (HL.out _ HB1.out).mono ?_; rintro e w2 ⟨rfl, hb2⟩; have HO2 := Lib.hid (S.own_below HO1.out hb2); have R2 := Lib.hid (R1.out.step hb2); have HB2 := Lib.hid (below_two HB1.out hb2); have r0 := R2.out.cell 0 _ rfl; have r1 := R2.out.cell 1 _ rfl; have r2 := R2.out.cell 2 _ rfl; have r3 := R2.out.cell 3 _ rfl; have f0 := R2.out.fz 0 (by simp); have f1 := R2.out.fz 1 (by simp); have f2 := R2.out.fz 2 (by simp); have f3 := R2.out.fz 3 (by simp); clear hb2))
    refine bodyPost_ret (results_t_bk rfl _ rfl (R2.out.all4 (.int .i64 0) (.int .i64 0) (.string ByteArray.empty) (.bool false)) Try.underlying40 rfl infoCv) rfl ?_
    refine ⟨_, ret_v (by rw [HV.out.2]; rfl), ?_, (((HB2.out.setCell (p := ⟨w.heap.size, 0, none⟩) (Nat.le_refl _) _).setCell (p := ⟨w.heap.size, 1, none⟩) (Nat.le_refl _) _).setCell (p := ⟨w.heap.size, 2, none⟩) (Nat.le_refl _) _).setCell (p := ⟨w.heap.size, 3, none⟩) (Nat.le_refl _) _⟩
    rw [HV.out.1]
    have hlt : w.heap.size < (w.alloc (.cells #[.int .i64 0, .int .i64 0, .string ByteArray.empty, .bool false] 40)).heap.size := by simp
    exact row_slc (S.own_set (S.own_set (S.own_set (S.own_set HO2.out hlt 0 _) hlt 1 _) hlt 2 _) hlt 3 _) HB0.out.size rfl
  | some k =>
    have hk := Cn.at_lt hat
    rw [Cn.look_some hat] at HL
    have HV := Lib.hid (Cn.read_some hat hk)
    obtain ⟨x, hx⟩ : ∃ x, x = Cn.touch c[k] ts := ⟨_, rfl⟩
    rw [← hx] at HV
    have XT : Hid (x.ts = c[k].ts ∧ x.rd = max c[k].rd ts ∧ x.val = c[k].val ∧ x.done = c[k].done) := Lib.hid (by rw [hx]; exact ⟨rfl, rfl, rfl, rfl⟩)
    clear hat hx
    have hk0 : (0 : Int) ≤ (k : Int) := by omega
    have hk1 : (k : Int) < (c.length : Int) := by omega
    have hc0 : 0 < c.length := by omega
    have HKL := Lib.hid hk
    have HC : Hid (Calls Try.prog 40 #[v] (w.alloc (.cells #[.int .i64 0, .int .i64 0, .string ByteArray.empty, .bool false] 40)) fun e w' => ∃ g cap, e = .returned (.slice (some ⟨g, 0, none⟩) c.length cap) ∧ w'.ownsRow (w.alloc (.cells #[.int .i64 0, .int .i64 0, .string ByteArray.empty, .bool false] 40)).heap.size 40 4 (.slice (some ⟨g, 0, none⟩) c.length cap) c.length (verV c) ∧ Below (w.alloc (.cells #[.int .i64 0, .int .i64 0, .string ByteArray.empty, .bool false] 40)).heap.size (w.alloc (.cells #[.int .i64 0, .int .i64 0, .string ByteArray.empty, .bool false] 40)) w') := Lib.hid (HC.out.mono (fun e w' hh => by
      obtain ⟨v', rfl, ho, hb⟩ := hh
      obtain ⟨g, cap, _, rfl, _⟩ := V.own_form ho hc0
      exact ⟨g, cap, rfl, ho, hb⟩))
    -- the four cells of a row of the call's own, at k
    have HQ : Hid (∀ (w' : World) B g cap, w'.ownsRow B 40 4 (.slice (some ⟨g, 0, none⟩) c.length cap) c.length (verV c) → w'.cell? ⟨g, k * 4, none⟩ = some (.int .i64 c[k].ts) ∧ w'.cell? ⟨g, k * 4 + 1, none⟩ = some (.int .i64 c[k].rd) ∧ w'.cell? ⟨g, k * 4 + 2, none⟩ = some (.string c[k].val) ∧ w'.cell? ⟨g, k * 4 + 3, none⟩ = some (.bool c[k].done)) := Lib.hid (fun w' B g cap ho => by
      obtain ⟨a, cp, e, _, _, y0, y1, y2, y3⟩ := SlC.nth (S.Sg.of_own ho) k hk
      cases e
      simp only [Addr.add_lit, Nat.zero_add] at y0 y1 y2 y3
      exact ⟨y0, y1, y2, y3⟩)
    have HSE : Hid (∀ (w' : World) B g cap, w'.ownsRow B 40 4 (.slice (some ⟨g, 0, none⟩) c.length cap) c.length (verV c) → (w'.setCell ⟨g, k * 4 + 1, none⟩ (.int .i64 x.rd)).ownsRow B 40 4 (.slice (some ⟨g, 0, none⟩) c.length cap) c.length (verV (c.set k x))) := Lib.hid (fun w' B g cap ho => by
      have h9 := S.own_set1 Try.prog ho (o := k * 4 + 1) (by omega) (.int .i64 x.rd) rfl
      rw [verV_set c k hk 1 (.int .i64 x.rd) x (by decide) (by unfold verC; rw [XT.out.1, XT.out.2.2.1, XT.out.2.2.2]; rfl)] at h9
      exact h9)
    have hlen : Hid ((c.set k x).length = c.length) := Lib.hid List.length_set
    clear hc0
    generalize c[k] = u at *
    obtain ⟨m, hm⟩ : ∃ m : Int, m = max u.rd ts := ⟨_, rfl⟩
    have HM : Hid (m = u.rd ∧ ts ≤ u.rd ∨ m = ts ∧ u.rd < ts) := Lib.hid (by omega)
    have XE : Hid (verA x = .agg #[.int .i64 u.ts, .int .i64 m, .string u.val, .bool u.done]) := Lib.hid (by
      obtain ⟨e1, e2, e3, e4⟩ := XT.out
      unfold verA
      rw [e1, e2, e3, e4, hm])
    have XM : Hid (x.rd = m) := Lib.hid (by rw [XT.out.2.1, hm])
    rw [XM.out] at HSE
    clear hm XT XM
    -- behind the store of the Read
    have HT : Hid (∀ (w2 : World) g cap, w2.ownsRow (w.alloc (.cells #[.int .i64 0, .int .i64 0, .string ByteArray.empty, .bool false] 40)).heap.size 40 4 (.slice (some ⟨g, 0, none⟩) c.length cap) c.length (verV c) → Bk w2 w.heap.size [.int .i64 0, .int .i64 0, .string ByteArray.empty, .bool false] → Below w.heap.size w w2 →
        (w2.setCell ⟨g, k * 4 + 1, none⟩ (.int .i64 m)).cell? ⟨g, k * 4, none⟩ = some (.int .i64 u.ts) ∧ (w2.setCell ⟨g, k * 4 + 1, none⟩ (.int .i64 m)).cell? ⟨g, k * 4 + 1, none⟩ = some (.int .i64 m) ∧ (w2.setCell ⟨g, k * 4 + 1, none⟩ (.int .i64 m)).cell? ⟨g, k * 4 + 2, none⟩ = some (.string u.val) ∧ (w2.setCell ⟨g, k * 4 + 1, none⟩ (.int .i64 m)).cell? ⟨g, k * 4 + 3, none⟩ = some (.bool u.done) ∧
        (w2.setCell ⟨g, k * 4 + 1, none⟩ (.int .i64 m)).ownsRow (w.alloc (.cells #[.int .i64 0, .int .i64 0, .string ByteArray.empty, .bool false] 40)).heap.size 40 4 (.slice (some ⟨g, 0, none⟩) c.length cap) c.length (verV (c.set k x)) ∧ Bk (w2.setCell ⟨g, k * 4 + 1, none⟩ (.int .i64 m)) w.heap.size [.int .i64 0, .int .i64 0, .string ByteArray.empty, .bool false] ∧ Below w.heap.size w (w2.setCell ⟨g, k * 4 + 1, none⟩ (.int .i64 m))) := Lib.hid (fun w2 g cap ho hr hb => by
      have hgb := (World.ownsRow.lt ho g rfl).1
      have hgw : w.heap.size < g := Nat.lt_of_lt_of_le (by simp) hgb
      obtain ⟨y0, y1, y2, y3⟩ := HQ.out w2 _ g cap ho
      have ne : ∀ i : Nat, i ≠ k * 4 + 1 → (w2.setCell ⟨g, k * 4 + 1, none⟩ (.int .i64 m)).cell? ⟨g, i, none⟩ = w2.cell? ⟨g, i, none⟩ := fun i hi => World.cell?_setCell_other w2 _ _ _ (fun e => by injection e with _ e2 _; omega)
      have hoS := HSE.out w2 _ g cap ho
      refine ⟨(ne _ (by omega)).trans y0, ?_, (ne _ (by omega)).trans y2, (ne _ (by omega)).trans y3, hoS, hr.other (by omega) _ _, hb.setCell (p := ⟨g, k * 4 + 1, none⟩) (by show _ ≤ g; omega) _⟩
      obtain ⟨a, cp, e, _, _, _, y1', _, _⟩ := SlC.nth (c := c.set k x) (by have := S.Sg.of_own hoS; unfold SlC; rw [hlen.out]; exact this) k (by rw [hlen.out]; exact HKL.out)
      obtain rfl : a = ⟨g, 0, none⟩ := by
        injection e with e1
        injection e1 with e1
        exact e1.symm
      simp only [Addr.add_lit, Nat.zero_add] at y1'
      rw [y1']
      have e9 : (c.set k x)[k]'(by rw [hlen.out]; exact HKL.out) = x := List.getElem_set_self ..
      rw [e9]
      have := XE.out
      unfold verA at this
      injection this with this
      have := congrArg (fun a => a[1]?) this
      simpa using this)
    have nGR : Hid (∀ g : Nat, (w.alloc (.cells #[.int .i64 0, .int .i64 0, .string ByteArray.empty, .bool false] 40)).heap.size ≤ g → w.heap.size ≠ g) := Lib.hid (fun g hg => by simp at hg; omega)
    rcases HM.out with ⟨hm, hc⟩ | ⟨hm, hc⟩
    · subst hm
      clear HM
      go_enter Try.func21, Try.ntmps21
      go_wp2_with (first
        | (go_at_call 40; refine HC.out.mono ?_; rintro e w1 ⟨g, cap, rfl, ho1, hb1⟩; have HO1 := Lib.hid ho1; have R1 := Lib.hid (HR0.out.step hb1); have HB1 := Lib.hid (HB0.out.trans (hb1.mono HB0.out.size)); clear ho1 hb1)
        | (go_at_call 20; refine (HL.out _ HB1.out).mono ?_; rintro e w2 ⟨rfl, hb2⟩; have HO2 := Lib.hid (S.own_below HO1.out hb2); have R2 := Lib.hid (R1.out.step hb2); have HB2 := Lib.hid (below_two HB1.out hb2); have y1 := (HQ.out w2 _ g cap HO2.out).2.1; have z1 := V.own_frozen HO2.out (k * 4 + 1); clear hb2))
      obtain ⟨t0, t1, t2, t3, tO, tR, tB⟩ := HT.out w2 g cap HO2.out R2.out HB2.out
      have hR := nGR.out g (World.ownsRow.lt HO2.out g rfl).1
      have TO := Lib.hid tO
      have TR := Lib.hid tR
      have TB := Lib.hid tB
      clear tO tR tB y1 z1
      have TO : Hid ((w2.setCell ⟨g, k * 4 + 1, none⟩ (.int .i64 u.rd)).drew.ownsRow (w.alloc (.cells #[.int .i64 0, .int .i64 0, .string ByteArray.empty, .bool false] 40)).heap.size 40 4 (.slice (some ⟨g, 0, none⟩) c.length cap) c.length (verV (c.set k x))) := Lib.hid TO.out
      have TR : Hid (Bk (w2.setCell ⟨g, k * 4 + 1, none⟩ (.int .i64 u.rd)).drew w.heap.size [.int .i64 0, .int .i64 0, .string ByteArray.empty, .bool false]) := Lib.hid TR.out.drew
      have TB := Lib.hid TB.out.drew
      generalize w2.setCell ⟨g, k * 4 + 1, none⟩ (.int .i64 u.rd) = w3 at *
      clear HO2 R2 HB2 HO1 R1 HB1 HL HC HR0 HT HQ HSE
      have q0 : w3.cell? ⟨w.heap.size, 0, none⟩ = some (.int .i64 0) := TR.out.cell 0 _ rfl
      have q1 : w3.cell? ⟨w.heap.size, 1, none⟩ = some (.int .i64 0) := TR.out.cell 1 _ rfl
      have q2 : w3.cell? ⟨w.heap.size, 2, none⟩ = some (.string ByteArray.empty) := TR.out.cell 2 _ rfl
      have q3 : w3.cell? ⟨w.heap.size, 3, none⟩ = some (.bool false) := TR.out.cell 3 _ rfl
      have e0 : w3.frozen? ⟨w.heap.size, 0, none⟩ = false := TR.out.fz 0 (by simp)
      have e1 : w3.frozen? ⟨w.heap.size, 1, none⟩ = false := TR.out.fz 1 (by simp)
      have e2 : w3.frozen? ⟨w.heap.size, 2, none⟩ = false := TR.out.fz 2 (by simp)
      have e3 : w3.frozen? ⟨w.heap.size, 3, none⟩ = false := TR.out.fz 3 (by simp)
      have r0 := TR.out.cell 0 _ rfl
      have r1 := TR.out.cell 1 _ rfl
      have r2 := TR.out.cell 2 _ rfl
      have r3 := TR.out.cell 3 _ rfl
      have f0 := TR.out.fz 0 (by simp)
      have f1 := TR.out.fz 1 (by simp)
      have f2 := TR.out.fz 2 (by simp)
      have f3 := TR.out.fz 3 (by simp)
      have hSd : w3.drew.cell? ⟨g, k * 4, none⟩ = some (.int .i64 u.ts) ∧ w3.drew.cell? ⟨g, k * 4 + 1, none⟩ = some (.int .i64 u.rd) ∧ w3.drew.cell? ⟨g, k * 4 + 2, none⟩ = some (.string u.val) ∧ w3.drew.cell? ⟨g, k * 4 + 3, none⟩ = some (.bool u.done) := ⟨t0, t1, t2, t3⟩
      have hSe : w3.cell? ⟨g, k * 4, none⟩ = some (.int .i64 u.ts) ∧ w3.cell? ⟨g, k * 4 + 1, none⟩ = some (.int .i64 u.rd) ∧ w3.cell? ⟨g, k * 4 + 2, none⟩ = some (.string u.val) ∧ w3.cell? ⟨g, k * 4 + 3, none⟩ = some (.bool u.done) := ⟨t0, t1, t2, t3⟩
      have hA' := Lib.hid <| And.intro (set4_other hSe.1 hR (.int .i64 u.ts) (.int .i64 u.rd) (.string u.val) (.bool u.done)) (And.intro (set4_other hSe.2.1 hR (.int .i64 u.ts) (.int .i64 u.rd) (.string u.val) (.bool u.done)) (And.intro (set4_other hSe.2.2.1 hR (.int .i64 u.ts) (.int .i64 u.rd) (.string u.val) (.bool u.done)) (set4_other hSe.2.2.2 hR (.int .i64 u.ts) (.int .i64 u.rd) (.string u.val) (.bool u.done))))
      clear t0 t1 t2 t3
      go_region_held3 (fun w' => w'.cell? ⟨g, k * 4, none⟩ = some (.int .i64 u.ts) ∧ w'.cell? ⟨g, k * 4 + 1, none⟩ = some (.int .i64 u.rd) ∧ w'.cell? ⟨g, k * 4 + 2, none⟩ = some (.string u.val) ∧ w'.cell? ⟨g, k * 4 + 3, none⟩ = some (.bool u.done))
        (first | exact hA'.out | with_reducible assumption | go_keep)
        (fail)
      all_goals (try go_wp2_with fail)
      refine bodyPost_ret (results_t_bk rfl _ rfl (TR.out.all4 (.int .i64 u.ts) (.int .i64 u.rd) (.string u.val) (.bool u.done)) Try.underlying40 rfl infoCv) rfl ?_
      refine ⟨_, ret_v (by rw [HV.out.2, XE.out]), ?_, (((TB.out.setCell (p := ⟨w.heap.size, 0, none⟩) (Nat.le_refl _) _).setCell (p := ⟨w.heap.size, 1, none⟩) (Nat.le_refl _) _).setCell (p := ⟨w.heap.size, 2, none⟩) (Nat.le_refl _) _).setCell (p := ⟨w.heap.size, 3, none⟩) (Nat.le_refl _) _⟩
      rw [HV.out.1]
      have hlt : w.heap.size < (w.alloc (.cells #[.int .i64 0, .int .i64 0, .string ByteArray.empty, .bool false] 40)).heap.size := by simp
      exact row_slc (S.own_set (S.own_set (S.own_set (S.own_set TO.out hlt 0 _) hlt 1 _) hlt 2 _) hlt 3 _) HB0.out.size hlen.out.symm
    · subst hm
      clear HM
      go_enter Try.func21, Try.ntmps21
      go_wp2_with (first
        | (go_at_call 40; refine HC.out.mono ?_; rintro e w1 ⟨g, cap, rfl, ho1, hb1⟩; have HO1 := Lib.hid ho1; have R1 := Lib.hid (HR0.out.step hb1); have HB1 := Lib.hid (HB0.out.trans (hb1.mono HB0.out.size)); clear ho1 hb1)
        | (go_at_call 20; refine (HL.out _ HB1.out).mono ?_; rintro e w2 ⟨rfl, hb2⟩; have HO2 := Lib.hid (S.own_below HO1.out hb2); have R2 := Lib.hid (R1.out.step hb2); have HB2 := Lib.hid (below_two HB1.out hb2); have y1 := (HQ.out w2 _ g cap HO2.out).2.1; have z1 := V.own_frozen HO2.out (k * 4 + 1); clear hb2))
      obtain ⟨t0, t1, t2, t3, tO, tR, tB⟩ := HT.out w2 g cap HO2.out R2.out HB2.out
      have hR := nGR.out g (World.ownsRow.lt HO2.out g rfl).1
      have TO := Lib.hid tO
      have TR := Lib.hid tR
      have TB := Lib.hid tB
      clear tO tR tB y1 z1
      have TO : Hid ((w2.setCell ⟨g, k * 4 + 1, none⟩ (.int .i64 m)).drew.ownsRow (w.alloc (.cells #[.int .i64 0, .int .i64 0, .string ByteArray.empty, .bool false] 40)).heap.size 40 4 (.slice (some ⟨g, 0, none⟩) c.length cap) c.length (verV (c.set k x))) := Lib.hid TO.out
      have TR : Hid (Bk (w2.setCell ⟨g, k * 4 + 1, none⟩ (.int .i64 m)).drew w.heap.size [.int .i64 0, .int .i64 0, .string ByteArray.empty, .bool false]) := Lib.hid TR.out.drew
      have TB := Lib.hid TB.out.drew
      generalize w2.setCell ⟨g, k * 4 + 1, none⟩ (.int .i64 m) = w3 at *
      clear HO2 R2 HB2 HO1 R1 HB1 HL HC HR0 HT HQ HSE
      have q0 : w3.cell? ⟨w.heap.size, 0, none⟩ = some (.int .i64 0) := TR.out.cell 0 _ rfl
      have q1 : w3.cell? ⟨w.heap.size, 1, none⟩ = some (.int .i64 0) := TR.out.cell 1 _ rfl
      have q2 : w3.cell? ⟨w.heap.size, 2, none⟩ = some (.string ByteArray.empty) := TR.out.cell 2 _ rfl
      have q3 : w3.cell? ⟨w.heap.size, 3, none⟩ = some (.bool false) := TR.out.cell 3 _ rfl
      have e0 : w3.frozen? ⟨w.heap.size, 0, none⟩ = false := TR.out.fz 0 (by simp)
      have e1 : w3.frozen? ⟨w.heap.size, 1, none⟩ = false := TR.out.fz 1 (by simp)
      have e2 : w3.frozen? ⟨w.heap.size, 2, none⟩ = false := TR.out.fz 2 (by simp)
      have e3 : w3.frozen? ⟨w.heap.size, 3, none⟩ = false := TR.out.fz 3 (by simp)
      have r0 := TR.out.cell 0 _ rfl
      have r1 := TR.out.cell 1 _ rfl
      have r2 := TR.out.cell 2 _ rfl
      have r3 := TR.out.cell 3 _ rfl
      have f0 := TR.out.fz 0 (by simp)
      have f1 := TR.out.fz 1 (by simp)
      have f2 := TR.out.fz 2 (by simp)
      have f3 := TR.out.fz 3 (by simp)
      have hSd : w3.drew.cell? ⟨g, k * 4, none⟩ = some (.int .i64 u.ts) ∧ w3.drew.cell? ⟨g, k * 4 + 1, none⟩ = some (.int .i64 m) ∧ w3.drew.cell? ⟨g, k * 4 + 2, none⟩ = some (.string u.val) ∧ w3.drew.cell? ⟨g, k * 4 + 3, none⟩ = some (.bool u.done) := ⟨t0, t1, t2, t3⟩
      have hSe : w3.cell? ⟨g, k * 4, none⟩ = some (.int .i64 u.ts) ∧ w3.cell? ⟨g, k * 4 + 1, none⟩ = some (.int .i64 m) ∧ w3.cell? ⟨g, k * 4 + 2, none⟩ = some (.string u.val) ∧ w3.cell? ⟨g, k * 4 + 3, none⟩ = some (.bool u.done) := ⟨t0, t1, t2, t3⟩
      have hA' := Lib.hid <| And.intro (set4_other hSe.1 hR (.int .i64 u.ts) (.int .i64 m) (.string u.val) (.bool u.done)) (And.intro (set4_other hSe.2.1 hR (.int .i64 u.ts) (.int .i64 m) (.string u.val) (.bool u.done)) (And.intro (set4_other hSe.2.2.1 hR (.int .i64 u.ts) (.int .i64 m) (.string u.val) (.bool u.done)) (set4_other hSe.2.2.2 hR (.int .i64 u.ts) (.int .i64 m) (.string u.val) (.bool u.done))))
      clear t0 t1 t2 t3
      go_region_held3 (fun w' => w'.cell? ⟨g, k * 4, none⟩ = some (.int .i64 u.ts) ∧ w'.cell? ⟨g, k * 4 + 1, none⟩ = some (.int .i64 m) ∧ w'.cell? ⟨g, k * 4 + 2, none⟩ = some (.string u.val) ∧ w'.cell? ⟨g, k * 4 + 3, none⟩ = some (.bool u.done))
        (first | exact hA'.out | with_reducible assumption | go_keep)
        (fail)
      all_goals (try go_wp2_with fail)
      refine bodyPost_ret (results_t_bk rfl _ rfl (TR.out.all4 (.int .i64 u.ts) (.int .i64 m) (.string u.val) (.bool u.done)) Try.underlying40 rfl infoCv) rfl ?_
      refine ⟨_, ret_v (by rw [HV.out.2, XE.out]), ?_, (((TB.out.setCell (p := ⟨w.heap.size, 0, none⟩) (Nat.le_refl _) _).setCell (p := ⟨w.heap.size, 1, none⟩) (Nat.le_refl _) _).setCell (p := ⟨w.heap.size, 2, none⟩) (Nat.le_refl _) _).setCell (p := ⟨w.heap.size, 3, none⟩) (Nat.le_refl _) _⟩
      rw [HV.out.1]
      have hlt : w.heap.size < (w.alloc (.cells #[.int .i64 0, .int .i64 0, .string ByteArray.empty, .bool false] 40)).heap.size := by simp
      exact row_slc (S.own_set (S.own_set (S.own_set (S.own_set TO.out hlt 0 _) hlt 1 _) hlt 2 _) hlt 3 _) HB0.out.size hlen.out.symm

end Go.Proofs.Ytmlocdfjjgbnjaa
