/-
  Layer cells' laws: CellsTold.
-/
import Derived.Test.YtpppjipelcfnkaaClApartW
import Derived.Test.YtpppjipelcfnkaaJD
import Derived.Test.YtpppjipelcfnkaaClPr
namespace Go.Proofs.Ytpppjipelcfnkaa
open Go.RowKit

/-- the cells of what was written to four keys -/
def g1 (g : Nat → Option ByteArray) (n : Nat) : Value := .string ((g n).getD ByteArray.empty)
def g2 (g : Nat → Option ByteArray) (n : Nat) : Value := .bool (g n).isSome
def gL (g : Nat → Option ByteArray) : List Value := [g1 g 0, g1 g 1, g1 g 2, g1 g 3]
def gI (g : Nat → Option ByteArray) : List Value := [g2 g 0, g2 g 1, g2 g 2, g2 g 3]
theorem gL_at (g : Nat → Option ByteArray) {n : Nat} (hn : n < 4) : (gL g)[n]? = some (.string ((g n).getD ByteArray.empty)) := by
  match n, hn with
  | 0, _ => rfl
  | 1, _ => rfl
  | 2, _ => rfl
  | 3, _ => rfl
theorem gI_at (g : Nat → Option ByteArray) {n : Nat} (hn : n < 4) : (gI g)[n]? = some (.bool (g n).isSome) := by
  match n, hn with
  | 0, _ => rfl
  | 1, _ => rfl
  | 2, _ => rfl
  | 3, _ => rfl
theorem gL_set (g : Nat → Option ByteArray) {n : Nat} (hn : n < 4) (s : ByteArray) : (gL g).set n (.string s) = gL (fun m => if m = n then some s else g m) := by
  match n, hn with
  | 0, _ => rfl
  | 1, _ => rfl
  | 2, _ => rfl
  | 3, _ => rfl
theorem gI_set (g : Nat → Option ByteArray) {n : Nat} (hn : n < 4) (s : ByteArray) : (gI g).set n (.bool true) = gI (fun m => if m = n then some s else g m) := by
  match n, hn with
  | 0, _ => rfl
  | 1, _ => rfl
  | 2, _ => rfl
  | 3, _ => rfl

section
variable {H : World → (Nat → Prop) → Value → Cl.Cs → Prop}

/-- an object, rows apart from it, and two blocks of one's own -/
def Ax (H : World → (Nat → Prop) → Value → Cl.Cs → Prop) (w wr : World) (v : Value) (X : Cl.Cs) (R : List Row11) (L I : Nat) (ls is : List Value) : Prop :=
  ∃ F, H wr F v X ∧ (∀ b, F b → w.heap.size ≤ b) ∧ (∀ r ∈ R, S.Sg wr (Out F wr) r.k r.v r.n r.cs) ∧ (Bk wr L ls ∧ ¬ F L) ∧ (Bk wr I is ∧ ¬ F I) ∧ L ≠ I ∧ w.heap.size ≤ L ∧ w.heap.size ≤ I

variable {w wr w2 : World} {v : Value} {X Y : Cl.Cs} {R : List Row11} {L I : Nat} {ls is : List Value}
theorem Ax.aw (h : Ax H w wr v X R L I ls is) : Aw H w wr v X R := by
  obtain ⟨F, h1, h2, h3, _⟩ := h
  exact ⟨F, h1, h2, h3⟩
theorem Ax.turn {F F' : Nat → Prop} (hF : ∀ b, F b → w.heap.size ≤ b) (hr : ∀ r ∈ R, S.Sg wr (Out F wr) r.k r.v r.n r.cs) (hL : Bk wr L ls ∧ ¬ F L) (hI : Bk wr I is ∧ ¬ F I) (hLI : L ≠ I ∧ w.heap.size ≤ L ∧ w.heap.size ≤ I) (hb : Below w.heap.size w wr) (h2 : H w2 F' v Y) (hF' : ∀ b, F' b → More F wr w2 b) (ht : Turn F wr w2) : Ax H w w2 v Y R L I ls is ∧ Below w.heap.size w w2 := by
  obtain ⟨⟨_, _, _, _⟩, g3⟩ := Aw.turn hF hr hb h2 hF' ht
  refine ⟨⟨F', h2, fun b q => (hF' b q).elim (hF b) (fun g => Nat.le_trans hb.size g.1), fun r q => (S.Sg.keep (hr r q) (fun _ hp => ht.cell hp.1 hp.2)).wider (fun _ hb => hb.next ht.size hF'), ⟨hL.1.turn ht hL.2, fun q => (hF' L q).elim hL.2 (fun g => ?_)⟩, ⟨hI.1.turn ht hI.2, fun q => (hF' I q).elim hI.2 (fun g => ?_)⟩, hLI⟩, g3⟩
  · have := hL.1.lt; have := g.1; omega
  · have := hI.1.lt; have := g.1; omega
theorem Ax.low (K : CellsOk H) (h : Ax H w wr v X R L I ls is) (hb : Below wr.heap.size wr w2) : Ax H w w2 v X R L I ls is := by
  obtain ⟨F, h1, h2, h3, hL, hI, hLI⟩ := h
  exact ⟨F, K.below h1 hb, h2, fun r q => (S.Sg.below (h3 r q) hb (fun b g => g.1)).wider (fun b g => ⟨Nat.lt_of_lt_of_le g.1 hb.size, g.2⟩), ⟨hL.1.step hb, hL.2⟩, ⟨hI.1.step hb, hI.2⟩, hLI⟩
theorem Ax.read (K : CellsOk H) (h : Ax H w wr v X R L I ls is) (hb : Below w.heap.size w wr) (hf : Cl.Fit 200 X) (k : Cl.Ky) (ts : Int) (t0 : -9223372036854775808 ≤ ts) (t1 : ts ≤ 9223372036854775807) :
    Calls Try.prog 21 #[v, keyA k, .int .i64 ts] wr fun e w' => e = .returned (verA (Cl.readW X k ts)) ∧ Ax H w w' v (Cl.readX X k ts) R L I ls is ∧ Below w.heap.size w w' := by
  obtain ⟨F, h1, h2, h3, hL, hI, hLI⟩ := h
  exact (K.read h1 hf k ts t0 t1).mono (fun e w' hh => ⟨hh.1, Ax.turn h2 h3 hL hI hLI hb hh.2.1 (fun b q => q) hh.2.2⟩)
theorem Ax.write (K : CellsOk H) (h : Ax H w wr v X R L I ls is) (hb : Below w.heap.size w wr) (hf : Cl.Fit 200 X) (k : Cl.Ky) (ts : Int) (val : ByteArray) (t0 : -9223372036854775808 ≤ ts) (t1 : ts ≤ 9223372036854775807) :
    Calls Try.prog 22 #[v, keyA k, .int .i64 ts, .string val] wr fun e w' => e = .returned (.int .i64 (Cl.writeF X k ts)) ∧ Ax H w w' v (Cl.writeX X k ts val) R L I ls is ∧ Below w.heap.size w w' := by
  obtain ⟨F, h1, h2, h3, hL, hI, hLI⟩ := h
  exact (K.write h1 hf k ts val t0 t1).mono (fun e w' hh => ⟨hh.1, Ax.turn h2 h3 hL hI hLI hb hh.2.1 (fun b q => q) hh.2.2⟩)
theorem Ax.commit (K : CellsOk H) (h : Ax H w wr v X R L I ls is) (hb : Below w.heap.size w wr) (hf : Cl.Fit 200 X) (ts : Int) (t0 : -9223372036854775808 ≤ ts) (t1 : ts ≤ 9223372036854775807) :
    Calls Try.prog 25 #[v, .int .i64 ts] wr fun e w' => ∃ v', e = .returned v' ∧ Ax H w w' v (Cl.commitX X ts) (wrR v' (Cl.commitW X ts) :: R) L I ls is ∧ Below w.heap.size w w' := by
  obtain ⟨F, h1, h2, h3, hL, hI, hLI⟩ := h
  refine (K.commit h1 hf ts t0 t1).mono (fun e w' hh => ?_)
  obtain ⟨v', F', T, e, q1, q2, q3, q4, q5⟩ := hh
  obtain ⟨_, hb2⟩ := Ax.turn h2 h3 hL hI hLI hb q1 q3 q5
  refine ⟨v', e, ⟨F', q1, fun b q => (q3 b q).elim (h2 b) (fun g => Nat.le_trans hb.size g.1), fun r q => ?_, ⟨hL.1.turn q5 hL.2, fun q => (q3 L q).elim hL.2 (fun g => by have := hL.1.lt; have := g.1; omega)⟩, ⟨hI.1.turn q5 hI.2, fun q => (q3 I q).elim hI.2 (fun g => by have := hI.1.lt; have := g.1; omega)⟩, hLI⟩, hb2⟩
  rcases List.mem_cons.1 q with rfl | q
  · exact q2.wider (fun b g => ⟨(q4 b g).1.2, (q4 b g).2⟩)
  · exact (S.Sg.keep (h3 r q) (fun _ hp => q5.cell hp.1 hp.2)).wider (fun _ hb => hb.next q5.size q3)
theorem Ax.key (K : CellsOk H) (h : Ax H w wr v X R L I ls is) (hb : Below w.heap.size w wr) (n : Int) :
    Calls Try.prog 26 #[.int .i64 n] wr fun e w' => e = .returned (keyA (keyN n)) ∧ Ax H w w' v X R L I ls is ∧ Below w.heap.size w w' :=
  (key11_any n wr).mono (fun _ _ hh => ⟨hh.1, h.low K hh.2, hb.trans (hh.2.mono hb.size)⟩)
theorem Ax.setL (K : CellsOk H) (h : Ax H w wr v X [] L I ls is) (hb : Below w.heap.size w wr) (i : Nat) (hi : i < ls.length) (u : Value) : Ax H w (wr.setCell ⟨L, i, none⟩ u) v X [] L I (ls.set i u) is ∧ Below w.heap.size w (wr.setCell ⟨L, i, none⟩ u) := by
  obtain ⟨F, h1, h2, h3, hL, hI, hLI⟩ := h
  exact ⟨⟨F, K.keep h1 (fun b hF => Below.heap_setCell wr ⟨L, i, none⟩ u b (fun e => hL.2 (by have e : b = L := e; rw [← e]; exact hF))) (by simp [World.setCell]), h2, (fun r q => by cases q), ⟨hL.1.set i hi u, hL.2⟩, ⟨hI.1.other hLI.1 _ _, hI.2⟩, hLI⟩, hb.setCell (p := ⟨L, i, none⟩) hLI.2.1 u⟩
theorem Ax.setI (K : CellsOk H) (h : Ax H w wr v X [] L I ls is) (hb : Below w.heap.size w wr) (i : Nat) (hi : i < is.length) (u : Value) : Ax H w (wr.setCell ⟨I, i, none⟩ u) v X [] L I ls (is.set i u) ∧ Below w.heap.size w (wr.setCell ⟨I, i, none⟩ u) := by
  obtain ⟨F, h1, h2, h3, hL, hI, hLI⟩ := h
  exact ⟨⟨F, K.keep h1 (fun b hF => Below.heap_setCell wr ⟨I, i, none⟩ u b (fun e => hI.2 (by have e : b = I := e; rw [← e]; exact hF))) (by simp [World.setCell]), h2, (fun r q => by cases q), ⟨hL.1.other (Ne.symm hLI.1) _ _, hL.2⟩, ⟨hI.1.set i hi u, hI.2⟩, hLI⟩, hb.setCell (p := ⟨I, i, none⟩) hLI.2.2 u⟩
theorem Ax.blocks (h : Ax H w wr v X R L I ls is) : Bk wr L ls ∧ Bk wr I is := by
  obtain ⟨F, _, _, _, hL, hI, _⟩ := h
  exact ⟨hL.1, hI.1⟩

theorem Ax.start (K : CellsOk H) (h : Aw H w wr v X []) (hb : Below w.heap.size w wr) (t u : TypeId) : Ax H w ((wr.alloc (.cells #[.string ⟨#[]⟩, .string ⟨#[]⟩, .string ⟨#[]⟩, .string ⟨#[]⟩] t)).alloc (.cells #[.bool false, .bool false, .bool false, .bool false] u)) v X [] wr.heap.size (wr.heap.size + 1) (gL (fun _ => none)) (gI (fun _ => none)) ∧ Below w.heap.size w ((wr.alloc (.cells #[.string ⟨#[]⟩, .string ⟨#[]⟩, .string ⟨#[]⟩, .string ⟨#[]⟩] t)).alloc (.cells #[.bool false, .bool false, .bool false, .bool false] u)) := by
  obtain ⟨F, h1, h2, h3⟩ := h
  have b1 : Below wr.heap.size wr ((wr.alloc (.cells #[.string ⟨#[]⟩, .string ⟨#[]⟩, .string ⟨#[]⟩, .string ⟨#[]⟩] t)).alloc (.cells #[.bool false, .bool false, .bool false, .bool false] u)) := ((Below.refl _ _).alloc (Nat.le_refl _) _).alloc (by simp) _
  have hs := hb.size
  exact ⟨⟨F, K.below h1 b1, h2, (fun r q => by cases q), ⟨(Bk.new wr (gL (fun _ => none)) t rfl).alloc _, fun q => by have := K.lt h1 _ q; omega⟩, ⟨Bk.new _ (gI (fun _ => none)) u (by simp), fun q => by have := K.lt h1 _ q; omega⟩, by omega, hs, by omega⟩, hb.trans (b1.mono hs)⟩

set_option maxRecDepth 100000 in
set_option maxHeartbeats 4000000 in
theorem CellsTold_walk (K : CellsOk H) (w : World) (vd vp : Value) (ld : List Dd11) (lp : List (UInt8 × UInt8)) (ts : Int) (G0 G1 : Nat → Prop) (hD : Dds11 w G0 vd ld) (hG0 : ∀ b, G0 b → b < w.heap.size) (hP : Prs w G1 vp lp) (hG1 : ∀ b, G1 b → b < w.heap.size) (t0 : -9223372036854775808 ≤ ts) (t1 : ts ≤ 9223372036854775807) :
    Calls Try.prog 5 #[vd, .int .i64 ts, vp] w fun e w' => e = .returned (.bool true) ∧ Below w.heap.size w w' := by
  have HA := Lib.hid (awake11_any K w)
  have HD := Lib.hid hD
  have HG := Lib.hid hG0
  have HP := Lib.hid (And.intro hP hG1)
  have HK := Lib.hid K
  have HT := Lib.hid (And.intro t0 t1)
  obtain ⟨Ad, capd, rfl, hcd⟩ := hD.form
  obtain ⟨Ap, capp, rfl, hcp⟩ : ∃ A cap, vp = .slice A lp.length cap ∧ lp.length ≤ cap := by
    obtain ⟨_, A, cap, e, hc, _⟩ := hP
    exact ⟨A, cap, e, hc⟩
  clear hD hG0 t0 t1 hP hG1
  by_cases hfew : Few ld
  · have HFw := Lib.hid hfew
    have HFe : Hid (∀ W, Below w.heap.size w W → Calls Try.prog 11 #[.slice Ad ld.length capd] W fun e w' => e = .returned (.bool true) ∧ Below W.heap.size W w') := Lib.hid (fun W hb => few11_yes (HD.out.below hb HG.out) (fun b q => Nat.lt_of_lt_of_le (HG.out b q) hb.size) hfew)
    clear hfew
    by_cases ht : ts < 1
    · have d1 : decide (ts < 1) = true := decide_eq_true ht
      go_enter Try.func5, Try.ntmps5
      go_wp2_with (first
        | (go_at_call 9; refine HA.out.mono ?_; rintro e w1 ⟨rfl, hb1⟩; have HB := Lib.hid hb1; clear hb1)
        | (go_at_call 11; refine (HFe.out _ HB.out).mono ?_; rintro e w3 ⟨rfl, hb3⟩; replace HB := Lib.hid (below_two HB.out hb3); clear hb3))
      go_ret
      exact ⟨rfl, HB.out⟩
    · have HRun : Hid (∀ W, Below w.heap.size w W → Calls Try.prog 20 #[.slice Ad ld.length capd] W fun e w' => ∃ a, e = .returned (.pointer (some a)) ∧ Aw H W w' (.pointer (some a)) (Cl.runX ld) [] ∧ Below W.heap.size W w') := Lib.hid (fun W hb => run_aw K HD.out HG.out HFw.out hb)
      have HFit := Lib.hid (run_fit HFw.out)
      generalize Cl.runX ld = X at *
      have HTs : Hid (1 ≤ ts) := Lib.hid (by omega)
      have d1 : decide (ts < 1) = false := decide_eq_false ht
      clear ht
      go_enter Try.func5, Try.ntmps5
      go_wp2_with (first
        | (go_at_call 9; refine HA.out.mono ?_; rintro e w1 ⟨rfl, hb1⟩; have HB := Lib.hid hb1; clear hb1)
        | (go_at_call 11; refine (HFe.out _ HB.out).mono ?_; rintro e w2 ⟨rfl, hb2⟩; replace HB := Lib.hid (below_two HB.out hb2); clear hb2)
        | (go_at_call 20; refine (HRun.out w2 HB.out).mono ?_; rintro e w3 ⟨ac, rfl, h3⟩; have HW := Lib.hid h3; clear h3)
        | (go_at_call 25; refine (HW.out.1.commit K HW.out.2 (HFit.out.more (by omega)) ts HT.out.1 HT.out.2).mono ?_; rintro e w4 ⟨v4, rfl, h4⟩
           have HO := Lib.hid (HW.out.1.ord K)
           replace HW := Lib.hid (And.intro (h4.1.less (R' := []) (fun r hr => by cases hr)) h4.2)
           clear h4))
      have HX := Lib.hid (Ax.start K HW.out.1 HW.out.2 58 59)
      have HWt := Lib.hid (Cl.Wt.start HO.out ts)
      have HF1 := Lib.hid (HFit.out.commit ts)
      clear HW HO HFit HRun HFe
      obtain ⟨L, hL⟩ : ∃ L, L = w4.heap.size := ⟨_, rfl⟩
      rw [← hL] at HX ⊢
      generalize (w4.alloc (.cells #[.string ⟨#[]⟩, .string ⟨#[]⟩, .string ⟨#[]⟩, .string ⟨#[]⟩] 58)).alloc (.cells #[.bool false, .bool false, .bool false, .bool false] 59) = w5 at *
      clear hL
      go_loopw [11] (fun u wq => ∃ (i : Nat) (Y : Cl.Cs) (g : Nat → Option ByteArray), i ≤ lp.length ∧ i ≤ 20 ∧ u = .int .i64 (i : Int) ∧ Hid (Ax H w2 wq (.pointer (some ac)) Y [] L (L + 1) (gL g) (gI g) ∧ Below w2.heap.size w2 wq) ∧ Hid (Cl.Wt Y ts (Cl.four g)) ∧ Hid (Cl.Fit (50 + i) Y)) (fun u _ => 20 - (intOf u).toNat)
      case atStart =>
        refine ⟨0, _, fun _ => none, Nat.zero_le _, by omega, rfl, HX, Lib.hid ?_, Lib.hid (HF1.out.more (by omega))⟩
        have e : Cl.four (fun _ => none) = fun _ => none := by funext k; unfold Cl.four; split <;> rfl
        rw [e]
        exact HWt.out
      case round =>
        clear HX HWt HF1
        obtain ⟨i, Y, g, hi, hi20, rfl, HX, HWt, HF⟩ := hrel
        by_cases hil : i < lp.length ∧ i < 20
        · obtain ⟨hil, hi2⟩ := hil
          have i1 : (i : Int) < (lp.length : Int) := by omega
          have i2 : (i : Int) < 20 := by omega
          have i3 : (0 : Int) ≤ (i : Int) := by omega
          obtain ⟨ap, _, ep, _, hfp, y0, y1⟩ := Prs.nth (S.Sg.below HP.out.1 (HB.out.trans (HX.out.2.mono HB.out.size)) HP.out.2) i hil
          cases ep
          have hap : (ap.add (i * 2)).block < wr.heap.size := by
            rw [S.add_block]
            exact Nat.lt_of_lt_of_le (HP.out.2 _ hfp) (Nat.le_trans HB.out.size HX.out.2.size)
          generalize lp[i] = pr at *
          obtain ⟨b1, b2⟩ := pr
          dsimp only at y0 y1
          have hb1 := b1.toNat_lt
          obtain ⟨n, hn⟩ : ∃ n, n = b1.toNat % 4 := ⟨_, rfl⟩
          have hn4 : n < 4 := by omega
          have hm : ((b1.toNat : Int) % 4) = (n : Int) := by omega
          have HNn := Lib.hid hn
          clear hn
          have hn0 : (0 : Int) ≤ (n : Int) := by omega
          have hn4' : (n : Int) < 4 := by omega
          have hq : (convert 61 9 (.slice (some ⟨wr.heap.size, 0, none⟩) 1 1)).run Try.prog (wr.alloc (.cells #[.int .u8 (b2.toNat : Int)] 5)) = .ok (.string ⟨#[b2]⟩) (wr.alloc (.cells #[.int .u8 (b2.toNat : Int)] 5)) := conv_sg (l := [b2]) (S.Sg.one wr 5 (.int .u8 (b2.toNat : Int)))
          have hba : Below wr.heap.size wr (wr.alloc (.cells #[.int .u8 (b2.toNat : Int)] 5)) := (Below.refl _ _).alloc (Nat.le_refl _) _
          have HXa := Lib.hid (And.intro (HX.out.1.low K hba) (HX.out.2.trans (hba.mono HX.out.2.size)))
          have HF2 : Hid (Cl.Fit (50 + (i + 1)) Y) := Lib.hid (HF.out.more (by omega))
          have HFw := Lib.hid (HF.out.write (keyN n) ts ⟨#[b2]⟩)
          have HWw := Lib.hid (HWt.out.write HTs.out (keyN n) ⟨#[b2]⟩)
          have HFt : Hid (Cl.Fit 200 Y) := Lib.hid (HF.out.more (by omega))
          clear hba
          obtain ⟨we, hwe⟩ : ∃ we, we = Cl.writeF Y (keyN n) ts := ⟨_, rfl⟩
          have HWe := Lib.hid hwe
          have HWr : Hid (∀ W, Ax H w2 W (.pointer (some ac)) Y [] L (L + 1) (gL g) (gI g) → Below w2.heap.size w2 W → Calls Try.prog 22 #[.pointer (some ac), keyA (keyN n), .int .i64 ts, .string ⟨#[b2]⟩] W fun e w' => e = .returned (.int .i64 we) ∧ Ax H w2 w' (.pointer (some ac)) (Cl.writeX Y (keyN n) ts ⟨#[b2]⟩) [] L (L + 1) (gL g) (gI g) ∧ Below w2.heap.size w2 w') := Lib.hid (fun W h hb => by
            rw [hwe]
            exact h.write K hb HFt.out (keyN n) ts ⟨#[b2]⟩ HT.out.1 HT.out.2)
          clear hwe
          by_cases he : we = 0
          · have he' : (we == 0) = true := by simpa using he
            have HWn : Hid (Cl.Wt (Cl.writeX Y (keyN n) ts ⟨#[b2]⟩) ts (Cl.four (fun m => if m = n then some ⟨#[b2]⟩ else g m))) := Lib.hid (by
              have h := HWw.out
              have e : (fun k' => if k' = keyN n ∧ Cl.writeF Y (keyN n) ts = 0 then some (⟨#[b2]⟩ : ByteArray) else Cl.four g k') = Cl.four (fun m => if m = n then some ⟨#[b2]⟩ else g m) := by
                rw [← Cl.four_put g hn4 ⟨#[b2]⟩]
                funext k'
                by_cases hk : k' = keyN n
                · rw [if_pos ⟨hk, by rw [← HWe.out]; exact he⟩]
                  have hk : k' = Cl.kN n := hk
                  rw [if_pos hk]
                · rw [if_neg (fun q => hk q.1)]
                  have hk : k' ≠ Cl.kN n := hk
                  rw [if_neg hk]
              rw [e] at h
              exact h)
            clear he
            go_wp2_with (first
              | (go_at_call 26; refine (HXa.out.1.key K HXa.out.2 n).mono ?_; rintro e w6 ⟨rfl, h6⟩; have HX6 := Lib.hid h6; clear h6)
              | (go_at_call 22; refine (HWr.out _ HX6.out.1 HX6.out.2).mono ?_; rintro e w7 ⟨rfl, h7⟩
                 have HX7 := Lib.hid h7
                 have HS7 := Lib.hid (h7.1.setL K h7.2 n (by simp [gL]; omega) (.string ⟨#[b2]⟩))
                 have HS8 := Lib.hid (HS7.out.1.setI K HS7.out.2 n (by simp [gI]; omega) (.bool true))
                 have c1 := h7.1.blocks.1.cell n _ (gL_at g hn4)
                 have f1 := h7.1.blocks.1.fz n (by simp [gL]; omega)
                 have c2 := HS7.out.1.blocks.2.cell n _ (gI_at g hn4)
                 have f2 := HS7.out.1.blocks.2.fz n (by simp [gI]; omega)
                 clear h7))
            go_roundw
            case rel =>
              have h8 := HS8.out
              rw [gL_set g hn4, gI_set g hn4 ⟨#[b2]⟩] at h8
              exact ⟨i + 1, _, _, by omega, by omega, by go_num, Lib.hid h8, HWn, Lib.hid HFw.out⟩
            case measure => simp [intOf]; omega
          · have he' : (we == 0) = false := by simpa using he
            have HWn : Hid (Cl.Wt (Cl.writeX Y (keyN n) ts ⟨#[b2]⟩) ts (Cl.four g)) := Lib.hid (by
              have h := HWw.out
              have e : (fun k' => if k' = keyN n ∧ Cl.writeF Y (keyN n) ts = 0 then some (⟨#[b2]⟩ : ByteArray) else Cl.four g k') = Cl.four g := by
                funext k'
                exact Cl.four_same g k' (by rw [← HWe.out]; exact he) _ _
              rw [e] at h
              exact h)
            clear he
            go_wp2_with (first
              | (go_at_call 26; refine (HXa.out.1.key K HXa.out.2 n).mono ?_; rintro e w6 ⟨rfl, h6⟩; have HX6 := Lib.hid h6; clear h6)
              | (go_at_call 22; refine (HWr.out _ HX6.out.1 HX6.out.2).mono ?_; rintro e w7 ⟨rfl, h7⟩
                 have HX7 := Lib.hid h7
                 clear h7))
            go_roundw
            case rel => exact ⟨i + 1, _, g, by omega, by omega, by go_num, HX7, HWn, Lib.hid HFw.out⟩
            case measure => simp [intOf]; omega
        · have HNo : ¬ ((i : Int) < (lp.length : Int)) ∨ ((i : Int) < (lp.length : Int) ∧ ¬ ((i : Int) < 20)) := by omega
          clear hil
          rcases HNo with HNo | ⟨HNo1, HNo⟩
          · have HFt : Hid (Cl.Fit 100 Y) := Lib.hid (HF.out.more (by omega))
            have HRd := Lib.hid (Cl.Rd.start HWt.out)
            have HM := Lib.hid (Cl.told_four HWt.out)
            obtain ⟨M, hM⟩ : ∃ M, M = Cl.told4 g 4 := ⟨_, rfl⟩
            rw [← hM] at HM
            have HMe := Lib.hid hM
            clear hM HF HWt
            have HCm : Hid (Calls Try.prog 25 #[.pointer (some ac), .int .i64 ts] wr fun e w' => ∃ A c, e = .returned (.slice A M.length c) ∧ (Ax H w2 w' (.pointer (some ac)) (Cl.commitX Y ts) [wrR (.slice A M.length c) M] L (L + 1) (gL g) (gI g) ∧ Below w2.heap.size w2 w')) := Lib.hid ((HX.out.1.commit K HX.out.2 (HFt.out.more (by omega)) ts HT.out.1 HT.out.2).mono (fun e w' hh => by
              obtain ⟨v', e, h1, h2⟩ := hh
              rw [HM.out] at h1
              obtain ⟨A, c, e2, _⟩ := h1.aw.form (List.mem_cons_self ..)
              have e2 : v' = .slice A M.length c := e2
              subst e2
              exact ⟨A, c, e, h1, h2⟩))
            have HFz := Lib.hid (HFt.out.commit ts)
            generalize Cl.commitX Y ts = Z0 at *
            go_wp2_with (first
              | (go_at_call 25; refine HCm.out.mono ?_; rintro e w6 ⟨Aw6, cw6, rfl, h6⟩; have HX6 := Lib.hid h6; clear h6))
            go_loopw [15, 16] (fun x u wq => ∃ (n q : Nat) (Z : Cl.Cs), n ≤ 4 ∧ q ≤ n ∧ x = .int .i64 (q : Int) ∧ u = .int .i64 (n : Int) ∧ Hid (q = (Cl.told4 g n).length) ∧ Hid (Ax H w2 wq (.pointer (some ac)) Z [wrR (.slice Aw6 M.length cw6) M] L (L + 1) (gL g) (gI g) ∧ Below w2.heap.size w2 wq) ∧ Hid (Cl.Rd Z ts g) ∧ Hid (Cl.Fit (100 + n) Z)) (fun _ u _ => 4 - (intOf u).toNat)
            case atStart => exact ⟨0, 0, Z0, by omega, by omega, rfl, rfl, Lib.hid rfl, HX6, HRd, Lib.hid (HFz.out.more (by omega))⟩
            case round =>
              clear HX6 HRd HFz HCm HFt HX HM
              obtain ⟨n, q, Z, hn, hqn, rfl, rfl, HQ, HX, HRd, HF⟩ := hrel
              by_cases hn4 : n < 4
              · have n1 : (n : Int) < 4 := by omega
                have n0 : (0 : Int) ≤ (n : Int) := by omega
                have cI := HX.out.1.blocks.2.cell n _ (gI_at g hn4)
                cases hg : g n with
                | none =>
                  rw [hg] at cI
                  have HQ1 : Hid (q = (Cl.told4 g (n + 1)).length) := Lib.hid (by rw [Cl.told4_none hg]; exact HQ.out)
                  clear hg
                  go_wp2_with fail
                  go_roundw
                  case rel => exact ⟨n + 1, q, Z, by omega, by omega, rfl, by go_num, HQ1, HX, HRd, Lib.hid (HF.out.more (by omega))⟩
                  case measure => simp [intOf]; omega
                | some s =>
                  rw [hg] at cI
                  have HQ1 : Hid (q + 1 = (Cl.told4 g (n + 1)).length) := Lib.hid (by rw [Cl.told4_some hg, List.length_append, ← HQ.out]; rfl)
                  obtain ⟨Rr, hRr⟩ := Cl.told4_at (N := 4) hg hn4
                  have hMq : ∃ hq : q < M.length, M[q] = (Cl.kN n, s) := by
                    have e : M = Cl.told4 g n ++ (Cl.kN n, s) :: Rr := HMe.out.trans hRr
                    have hq : q < M.length := by rw [e, HQ.out]; simp
                    refine ⟨hq, ?_⟩
                    have : M[q]? = some (Cl.kN n, s) := by rw [e, HQ.out, List.getElem?_append_right (Nat.le_refl _)]; simp
                    rw [List.getElem?_eq_getElem hq] at this
                    exact Option.some.inj this
                  obtain ⟨hq, hMq⟩ := hMq
                  have HLs : Hid ((gL g)[n]? = some (.string s)) := Lib.hid (by rw [gL_at g hn4, hg]; rfl)
                  have HVal := Lib.hid (HRd.out.val HTs.out hn4 hg)
                  have HRd1 := Lib.hid (HRd.out.read HTs.out (Cl.kN n))
                  have HF1 := Lib.hid (HF.out.read (Cl.kN n) ts)
                  clear hRr hg
                  obtain ⟨aw, _, ea, _⟩ := HX.out.1.aw.nthW (List.mem_cons_self ..) q hq
                  have ea : Aw6 = some aw := by injection ea
                  subst ea
                  have HS : Hid (∀ (w' : World) Z, Ax H w2 w' (.pointer (some ac)) Z [wrR (.slice (some aw) M.length cw6) M] L (L + 1) (gL g) (gI g) → w'.cell? (aw.add (q * 4)) = some (.int .i64 1) ∧ w'.cell? ⟨(aw.add (q * 4)).block, (aw.add (q * 4)).off + 1, none⟩ = some (.int .i64 (n : Int)) ∧ w'.cell? ⟨(aw.add (q * 4)).block, (aw.add (q * 4)).off + 2, none⟩ = some (.int .i64 0) ∧ w'.cell? ⟨(aw.add (q * 4)).block, (aw.add (q * 4)).off + 3, none⟩ = some (.string s) ∧ w'.cell? ⟨L, n, none⟩ = some (.string s)) := Lib.hid (fun w' Z h => by
                    obtain ⟨a', c', e, _, _, z0, z1, z2, z3⟩ := h.aw.nthW (List.mem_cons_self ..) q hq
                    have e : aw = a' := by injection e with e1; injection e1
                    subst e
                    rw [hMq] at z0 z1 z2 z3
                    exact ⟨z0, z1, z2, z3, h.blocks.1.cell n _ HLs.out⟩)
                  have qn : ∀ w, (binOp .neq 31 (.agg #[.int .i64 1, .int .i64 (n : Int), .int .i64 0]) (.agg #[.int .i64 1, .int .i64 (n : Int), .int .i64 0])).run Try.prog w = .ok (.bool false) w := fun w => by
                    have h := neqK (keyN n) (keyN n) w
                    rw [Cl.same_self] at h
                    exact h
                  have qf := fun a b t w => field_val a b s t w
                  have dq : decide ((M.length : Int) ≤ (q : Int)) = false := decide_eq_false (by omega)
                  have dq2 : ¬ ((M.length : Int) ≤ (q : Int)) := by omega
                  have dq3 : ¬ M.length ≤ q := by omega
                  have q0 : (0 : Int) ≤ (q : Int) := by omega
                  have q1 : (q : Int) < (M.length : Int) := by omega
                  have HKy : Hid (∀ W Z, Ax H w2 W (.pointer (some ac)) Z [wrR (.slice (some aw) M.length cw6) M] L (L + 1) (gL g) (gI g) → Below w2.heap.size w2 W → Calls Try.prog 26 #[.int .i64 (n : Int)] W fun e w' => e = .returned (.agg #[.int .i64 1, .int .i64 (n : Int), .int .i64 0]) ∧ Ax H w2 w' (.pointer (some ac)) Z [wrR (.slice (some aw) M.length cw6) M] L (L + 1) (gL g) (gI g) ∧ Below w2.heap.size w2 w') := Lib.hid (fun W Z h hb => h.key K hb n)
                  have HRr : Hid (∀ W, Ax H w2 W (.pointer (some ac)) Z [wrR (.slice (some aw) M.length cw6) M] L (L + 1) (gL g) (gI g) → Below w2.heap.size w2 W → Calls Try.prog 21 #[.pointer (some ac), .agg #[.int .i64 1, .int .i64 (n : Int), .int .i64 0], .int .i64 ts] W fun e w' => (∃ a b t, e = .returned (.agg #[.int .i64 a, .int .i64 b, .string s, .bool t])) ∧ Ax H w2 w' (.pointer (some ac)) (Cl.readX Z (Cl.kN n) ts) [wrR (.slice (some aw) M.length cw6) M] L (L + 1) (gL g) (gI g) ∧ Below w2.heap.size w2 w') := Lib.hid (fun W h hb => (h.read K hb (HF.out.more (by omega)) (Cl.kN n) ts HT.out.1 HT.out.2).mono (fun e w' hh => by
                    obtain ⟨e, h1, h2⟩ := hh
                    refine ⟨⟨(Cl.readW Z (Cl.kN n) ts).ts, (Cl.readW Z (Cl.kN n) ts).rd, (Cl.readW Z (Cl.kN n) ts).done, ?_⟩, h1, h2⟩
                    rw [e]
                    unfold verA
                    rw [HVal.out]))
                  have HD0 : Hid (Ax H w2 wr.drew (.pointer (some ac)) Z [wrR (.slice (some aw) M.length cw6) M] L (L + 1) (gL g) (gI g) ∧ Below w2.heap.size w2 wr.drew) := Lib.hid ⟨HX.out.1.low K (Below.drew (Below.refl _ _)), HX.out.2.drew⟩
                  have hSd := HS.out _ _ HD0.out.1
                  have hM4 : M.length ≤ 1000 := by
                    rw [HMe.out]
                    have : ∀ m, (Cl.told4 g m).length ≤ m := by
                      intro m
                      induction m with
                      | zero => exact Nat.le_refl _
                      | succ m ih =>
                        show (Cl.told4 g m ++ _).length ≤ _
                        rw [List.length_append]
                        cases g m with
                        | none => simp; omega
                        | some t => simp; omega
                    have := this 4
                    omega
                  go_wp2_with fail
                  go_region_held3 (fun w' => w'.cell? (aw.add (q * 4)) = some (.int .i64 1) ∧ w'.cell? ⟨(aw.add (q * 4)).block, (aw.add (q * 4)).off + 1, none⟩ = some (.int .i64 (n : Int)) ∧ w'.cell? ⟨(aw.add (q * 4)).block, (aw.add (q * 4)).off + 2, none⟩ = some (.int .i64 0) ∧ w'.cell? ⟨(aw.add (q * 4)).block, (aw.add (q * 4)).off + 3, none⟩ = some (.string s) ∧ w'.cell? ⟨L, n, none⟩ = some (.string s))
                    (first | with_reducible assumption | go_keep)
                    (first
                      | (go_at_call 26
                         (with_reducible refine (HKy.out wr.drew _ HD0.out.1 HD0.out.2).mono ?_)
                         rintro e w7 ⟨rfl, h7⟩
                         have HX7 := Lib.hid h7
                         have hS7 := HS.out _ _ HX7.out.1)
                      | (go_at_call 26
                         (with_reducible refine (HKy.out w7 _ HX7.out.1 HX7.out.2).mono ?_)
                         rintro e w8 ⟨rfl, h8⟩
                         have HX8 := Lib.hid h8
                         have hS8 := HS.out _ _ HX8.out.1)
                      | (go_at_call 21
                         (with_reducible refine (HRr.out _ HX8.out.1 HX8.out.2).mono ?_)
                         rintro e w9 ⟨⟨ra, rb, rt, rfl⟩, h9⟩
                         have HX9 := Lib.hid h9
                         have hS9 := HS.out _ _ HX9.out.1))
                  all_goals (try go_wp2_with fail)
                  go_roundw
                  case rel => exact ⟨n + 1, q + 1, _, by omega, by omega, by go_num, by go_num, HQ1, HX9, HRd1, Lib.hid HF1.out⟩
                  case measure => simp [intOf]; omega
              · have n1 : ¬ ((n : Int) < 4) := by omega
                obtain rfl : n = 4 := by omega
                have HQM : Hid ((q : Int) = (M.length : Int)) := Lib.hid (by rw [HMe.out, ← HQ.out])
                have eQ : (q : Int) = (M.length : Int) := HQM.out
                have HC2 : Hid (Calls Try.prog 25 #[.pointer (some ac), .int .i64 ts] wr fun e w' => (∃ A c, e = .returned (.slice A 0 c)) ∧ Below w2.heap.size w2 w') := Lib.hid ((HX.out.1.commit K HX.out.2 (HF.out.more (by omega)) ts HT.out.1 HT.out.2).mono (fun e w' hh => by
                  obtain ⟨v', e, h1, h2⟩ := hh
                  rw [HRd.out.nothing] at h1
                  obtain ⟨A, c, e2, _⟩ := h1.aw.form (List.mem_cons_self ..)
                  have e2 : v' = .slice A 0 c := e2
                  subst e2
                  exact ⟨⟨A, c, e⟩, h2⟩))
                go_wp2_with (first
                  | (go_at_call 25; refine HC2.out.mono ?_; rintro e w10 ⟨⟨A10, c10, rfl⟩, hb10⟩; have HB10 := Lib.hid hb10; clear hb10))
                go_ret
                exact ⟨rfl, HB.out.trans (HB10.out.mono HB.out.size)⟩
          · have HFt : Hid (Cl.Fit 100 Y) := Lib.hid (HF.out.more (by omega))
            have HRd := Lib.hid (Cl.Rd.start HWt.out)
            have HM := Lib.hid (Cl.told_four HWt.out)
            obtain ⟨M, hM⟩ : ∃ M, M = Cl.told4 g 4 := ⟨_, rfl⟩
            rw [← hM] at HM
            have HMe := Lib.hid hM
            clear hM HF HWt
            have HCm : Hid (Calls Try.prog 25 #[.pointer (some ac), .int .i64 ts] wr fun e w' => ∃ A c, e = .returned (.slice A M.length c) ∧ (Ax H w2 w' (.pointer (some ac)) (Cl.commitX Y ts) [wrR (.slice A M.length c) M] L (L + 1) (gL g) (gI g) ∧ Below w2.heap.size w2 w')) := Lib.hid ((HX.out.1.commit K HX.out.2 (HFt.out.more (by omega)) ts HT.out.1 HT.out.2).mono (fun e w' hh => by
              obtain ⟨v', e, h1, h2⟩ := hh
              rw [HM.out] at h1
              obtain ⟨A, c, e2, _⟩ := h1.aw.form (List.mem_cons_self ..)
              have e2 : v' = .slice A M.length c := e2
              subst e2
              exact ⟨A, c, e, h1, h2⟩))
            have HFz := Lib.hid (HFt.out.commit ts)
            generalize Cl.commitX Y ts = Z0 at *
            go_wp2_with (first
              | (go_at_call 25; refine HCm.out.mono ?_; rintro e w6 ⟨Aw6, cw6, rfl, h6⟩; have HX6 := Lib.hid h6; clear h6))
            go_loopw [15, 16] (fun x u wq => ∃ (n q : Nat) (Z : Cl.Cs), n ≤ 4 ∧ q ≤ n ∧ x = .int .i64 (q : Int) ∧ u = .int .i64 (n : Int) ∧ Hid (q = (Cl.told4 g n).length) ∧ Hid (Ax H w2 wq (.pointer (some ac)) Z [wrR (.slice Aw6 M.length cw6) M] L (L + 1) (gL g) (gI g) ∧ Below w2.heap.size w2 wq) ∧ Hid (Cl.Rd Z ts g) ∧ Hid (Cl.Fit (100 + n) Z)) (fun _ u _ => 4 - (intOf u).toNat)
            case atStart => exact ⟨0, 0, Z0, by omega, by omega, rfl, rfl, Lib.hid rfl, HX6, HRd, Lib.hid (HFz.out.more (by omega))⟩
            case round =>
              clear HX6 HRd HFz HCm HFt HX HM
              obtain ⟨n, q, Z, hn, hqn, rfl, rfl, HQ, HX, HRd, HF⟩ := hrel
              by_cases hn4 : n < 4
              · have n1 : (n : Int) < 4 := by omega
                have n0 : (0 : Int) ≤ (n : Int) := by omega
                have cI := HX.out.1.blocks.2.cell n _ (gI_at g hn4)
                cases hg : g n with
                | none =>
                  rw [hg] at cI
                  have HQ1 : Hid (q = (Cl.told4 g (n + 1)).length) := Lib.hid (by rw [Cl.told4_none hg]; exact HQ.out)
                  clear hg
                  go_wp2_with fail
                  go_roundw
                  case rel => exact ⟨n + 1, q, Z, by omega, by omega, rfl, by go_num, HQ1, HX, HRd, Lib.hid (HF.out.more (by omega))⟩
                  case measure => simp [intOf]; omega
                | some s =>
                  rw [hg] at cI
                  have HQ1 : Hid (q + 1 = (Cl.told4 g (n + 1)).length) := Lib.hid (by rw [Cl.told4_some hg, List.length_append, ← HQ.out]; rfl)
                  obtain ⟨Rr, hRr⟩ := Cl.told4_at (N := 4) hg hn4
                  have hMq : ∃ hq : q < M.length, M[q] = (Cl.kN n, s) := by
                    have e : M = Cl.told4 g n ++ (Cl.kN n, s) :: Rr := HMe.out.trans hRr
                    have hq : q < M.length := by rw [e, HQ.out]; simp
                    refine ⟨hq, ?_⟩
                    have : M[q]? = some (Cl.kN n, s) := by rw [e, HQ.out, List.getElem?_append_right (Nat.le_refl _)]; simp
                    rw [List.getElem?_eq_getElem hq] at this
                    exact Option.some.inj this
                  obtain ⟨hq, hMq⟩ := hMq
                  have HLs : Hid ((gL g)[n]? = some (.string s)) := Lib.hid (by rw [gL_at g hn4, hg]; rfl)
                  have HVal := Lib.hid (HRd.out.val HTs.out hn4 hg)
                  have HRd1 := Lib.hid (HRd.out.read HTs.out (Cl.kN n))
                  have HF1 := Lib.hid (HF.out.read (Cl.kN n) ts)
                  clear hRr hg
                  obtain ⟨aw, _, ea, _⟩ := HX.out.1.aw.nthW (List.mem_cons_self ..) q hq
                  have ea : Aw6 = some aw := by injection ea
                  subst ea
                  have HS : Hid (∀ (w' : World) Z, Ax H w2 w' (.pointer (some ac)) Z [wrR (.slice (some aw) M.length cw6) M] L (L + 1) (gL g) (gI g) → w'.cell? (aw.add (q * 4)) = some (.int .i64 1) ∧ w'.cell? ⟨(aw.add (q * 4)).block, (aw.add (q * 4)).off + 1, none⟩ = some (.int .i64 (n : Int)) ∧ w'.cell? ⟨(aw.add (q * 4)).block, (aw.add (q * 4)).off + 2, none⟩ = some (.int .i64 0) ∧ w'.cell? ⟨(aw.add (q * 4)).block, (aw.add (q * 4)).off + 3, none⟩ = some (.string s) ∧ w'.cell? ⟨L, n, none⟩ = some (.string s)) := Lib.hid (fun w' Z h => by
                    obtain ⟨a', c', e, _, _, z0, z1, z2, z3⟩ := h.aw.nthW (List.mem_cons_self ..) q hq
                    have e : aw = a' := by injection e with e1; injection e1
                    subst e
                    rw [hMq] at z0 z1 z2 z3
                    exact ⟨z0, z1, z2, z3, h.blocks.1.cell n _ HLs.out⟩)
                  have qn : ∀ w, (binOp .neq 31 (.agg #[.int .i64 1, .int .i64 (n : Int), .int .i64 0]) (.agg #[.int .i64 1, .int .i64 (n : Int), .int .i64 0])).run Try.prog w = .ok (.bool false) w := fun w => by
                    have h := neqK (keyN n) (keyN n) w
                    rw [Cl.same_self] at h
                    exact h
                  have qf := fun a b t w => field_val a b s t w
                  have dq : decide ((M.length : Int) ≤ (q : Int)) = false := decide_eq_false (by omega)
                  have dq2 : ¬ ((M.length : Int) ≤ (q : Int)) := by omega
                  have dq3 : ¬ M.length ≤ q := by omega
                  have q0 : (0 : Int) ≤ (q : Int) := by omega
                  have q1 : (q : Int) < (M.length : Int) := by omega
                  have HKy : Hid (∀ W Z, Ax H w2 W (.pointer (some ac)) Z [wrR (.slice (some aw) M.length cw6) M] L (L + 1) (gL g) (gI g) → Below w2.heap.size w2 W → Calls Try.prog 26 #[.int .i64 (n : Int)] W fun e w' => e = .returned (.agg #[.int .i64 1, .int .i64 (n : Int), .int .i64 0]) ∧ Ax H w2 w' (.pointer (some ac)) Z [wrR (.slice (some aw) M.length cw6) M] L (L + 1) (gL g) (gI g) ∧ Below w2.heap.size w2 w') := Lib.hid (fun W Z h hb => h.key K hb n)
                  have HRr : Hid (∀ W, Ax H w2 W (.pointer (some ac)) Z [wrR (.slice (some aw) M.length cw6) M] L (L + 1) (gL g) (gI g) → Below w2.heap.size w2 W → Calls Try.prog 21 #[.pointer (some ac), .agg #[.int .i64 1, .int .i64 (n : Int), .int .i64 0], .int .i64 ts] W fun e w' => (∃ a b t, e = .returned (.agg #[.int .i64 a, .int .i64 b, .string s, .bool t])) ∧ Ax H w2 w' (.pointer (some ac)) (Cl.readX Z (Cl.kN n) ts) [wrR (.slice (some aw) M.length cw6) M] L (L + 1) (gL g) (gI g) ∧ Below w2.heap.size w2 w') := Lib.hid (fun W h hb => (h.read K hb (HF.out.more (by omega)) (Cl.kN n) ts HT.out.1 HT.out.2).mono (fun e w' hh => by
                    obtain ⟨e, h1, h2⟩ := hh
                    refine ⟨⟨(Cl.readW Z (Cl.kN n) ts).ts, (Cl.readW Z (Cl.kN n) ts).rd, (Cl.readW Z (Cl.kN n) ts).done, ?_⟩, h1, h2⟩
                    rw [e]
                    unfold verA
                    rw [HVal.out]))
                  have HD0 : Hid (Ax H w2 wr.drew (.pointer (some ac)) Z [wrR (.slice (some aw) M.length cw6) M] L (L + 1) (gL g) (gI g) ∧ Below w2.heap.size w2 wr.drew) := Lib.hid ⟨HX.out.1.low K (Below.drew (Below.refl _ _)), HX.out.2.drew⟩
                  have hSd := HS.out _ _ HD0.out.1
                  have hM4 : M.length ≤ 1000 := by
                    rw [HMe.out]
                    have : ∀ m, (Cl.told4 g m).length ≤ m := by
                      intro m
                      induction m with
                      | zero => exact Nat.le_refl _
                      | succ m ih =>
                        show (Cl.told4 g m ++ _).length ≤ _
                        rw [List.length_append]
                        cases g m with
                        | none => simp; omega
                        | some t => simp; omega
                    have := this 4
                    omega
                  go_wp2_with fail
                  go_region_held3 (fun w' => w'.cell? (aw.add (q * 4)) = some (.int .i64 1) ∧ w'.cell? ⟨(aw.add (q * 4)).block, (aw.add (q * 4)).off + 1, none⟩ = some (.int .i64 (n : Int)) ∧ w'.cell? ⟨(aw.add (q * 4)).block, (aw.add (q * 4)).off + 2, none⟩ = some (.int .i64 0) ∧ w'.cell? ⟨(aw.add (q * 4)).block, (aw.add (q * 4)).off + 3, none⟩ = some (.string s) ∧ w'.cell? ⟨L, n, none⟩ = some (.string s))
                    (first | with_reducible assumption | go_keep)
                    (first
                      | (go_at_call 26
                         (with_reducible refine (HKy.out wr.drew _ HD0.out.1 HD0.out.2).mono ?_)
                         rintro e w7 ⟨rfl, h7⟩
                         have HX7 := Lib.hid h7
                         have hS7 := HS.out _ _ HX7.out.1)
                      | (go_at_call 26
                         (with_reducible refine (HKy.out w7 _ HX7.out.1 HX7.out.2).mono ?_)
                         rintro e w8 ⟨rfl, h8⟩
                         have HX8 := Lib.hid h8
                         have hS8 := HS.out _ _ HX8.out.1)
                      | (go_at_call 21
                         (with_reducible refine (HRr.out _ HX8.out.1 HX8.out.2).mono ?_)
                         rintro e w9 ⟨⟨ra, rb, rt, rfl⟩, h9⟩
                         have HX9 := Lib.hid h9
                         have hS9 := HS.out _ _ HX9.out.1))
                  all_goals (try go_wp2_with fail)
                  go_roundw
                  case rel => exact ⟨n + 1, q + 1, _, by omega, by omega, by go_num, by go_num, HQ1, HX9, HRd1, Lib.hid HF1.out⟩
                  case measure => simp [intOf]; omega
              · have n1 : ¬ ((n : Int) < 4) := by omega
                obtain rfl : n = 4 := by omega
                have HQM : Hid ((q : Int) = (M.length : Int)) := Lib.hid (by rw [HMe.out, ← HQ.out])
                have eQ : (q : Int) = (M.length : Int) := HQM.out
                have HC2 : Hid (Calls Try.prog 25 #[.pointer (some ac), .int .i64 ts] wr fun e w' => (∃ A c, e = .returned (.slice A 0 c)) ∧ Below w2.heap.size w2 w') := Lib.hid ((HX.out.1.commit K HX.out.2 (HF.out.more (by omega)) ts HT.out.1 HT.out.2).mono (fun e w' hh => by
                  obtain ⟨v', e, h1, h2⟩ := hh
                  rw [HRd.out.nothing] at h1
                  obtain ⟨A, c, e2, _⟩ := h1.aw.form (List.mem_cons_self ..)
                  have e2 : v' = .slice A 0 c := e2
                  subst e2
                  exact ⟨⟨A, c, e⟩, h2⟩))
                go_wp2_with (first
                  | (go_at_call 25; refine HC2.out.mono ?_; rintro e w10 ⟨⟨A10, c10, rfl⟩, hb10⟩; have HB10 := Lib.hid hb10; clear hb10))
                go_ret
                exact ⟨rfl, HB.out.trans (HB10.out.mono HB.out.size)⟩
  · have HFe : Hid (∀ W, Below w.heap.size w W → Calls Try.prog 11 #[.slice Ad ld.length capd] W fun e w' => e = .returned (.bool false) ∧ Below W.heap.size W w') := Lib.hid (fun W hb => few11_no (HD.out.below hb HG.out) (fun b q => Nat.lt_of_lt_of_le (HG.out b q) hb.size) hfew)
    clear hfew
    go_enter Try.func5, Try.ntmps5
    go_wp2_with (first
      | (go_at_call 9; refine HA.out.mono ?_; rintro e w1 ⟨rfl, hb1⟩; have HB := Lib.hid hb1; clear hb1)
      | (go_at_call 11; refine (HFe.out _ HB.out).mono ?_; rintro e w3 ⟨rfl, hb3⟩; replace HB := Lib.hid (below_two HB.out hb3); clear hb3))
    go_ret
    exact ⟨rfl, HB.out⟩
end
end Go.Proofs.Ytpppjipelcfnkaa
