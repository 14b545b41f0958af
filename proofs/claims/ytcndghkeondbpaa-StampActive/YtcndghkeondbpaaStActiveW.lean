/-
  Walks of layer stamp's laws: StampActive.
-/
import Derived.Test.YtcndghkeondbpaaStOverW
namespace Go.Proofs.Ytcndghkeondbpaa
open Go.RowKit Go.Maps

theorem byte_form {w : World} {F : Nat → Prop} {v : Value} {l : List UInt8} (h : SlB w F v l) : ∃ A cap, v = .slice A l.length cap ∧ l.length ≤ cap := by
  obtain ⟨_, A, cap, e, hc, _⟩ := h
  exact ⟨A, cap, e, hc⟩
theorem byte_nth {w : World} {F : Nat → Prop} {v : Value} {l : List UInt8} (h : SlB w F v l) (i : Nat) (hi : i < l.length) : ∃ a cap, v = .slice (some a) l.length cap ∧ l.length ≤ cap ∧ F a.block ∧ w.cell? (a.add i) = some (.int .u8 (l[i].toNat : Int)) := by
  obtain ⟨_, A, cap, e, hc, hx⟩ := h
  obtain ⟨a, rfl, hF, hx⟩ := hx (by omega)
  exact ⟨a, cap, e, hc, hF, hx i _ (bytesV_at l i hi)⟩
theorem min_none {c : T.Ck} (h : c.act.length = 0) : c.min = c.next := by
  unfold T.Ck.min
  cases e : c.act with
  | nil => rfl
  | cons x l => rw [e] at h; simp at h
theorem add_succ9 (a : Addr) (k : Nat) : a.add (k + 1) = ⟨a.block, a.off + (k + 1), none⟩ := by simp [Addr.add]
theorem rises_at {l : List Int} (h : T.Rises l) {j : Nat} (hj : j + 1 < l.length) : l[j] < l[j + 1] := List.pairwise_iff_getElem.1 h j (j + 1) (by omega) hj (by omega)

set_option maxRecDepth 100000 in
set_option maxHeartbeats 4000000 in
theorem StampActive_walk (w : World) (many : Nat) (hmany : many ≤ 255) (vd : Value) (ld : List UInt8) (G0 : Nat → Prop) (hD : SlB w G0 vd ld) (hG0 : ∀ b, G0 b → b < w.heap.size) :
    Calls Try.prog 5 #[.int .u8 (many : Int), vd] w fun e w' => e = .returned (.bool true) ∧ Below w.heap.size w w' := by
  have HD := Lib.hid hD
  obtain ⟨Ad, capd, rfl, hcd⟩ := byte_form hD
  clear hD
  obtain ⟨n, hk⟩ : ∃ n : Nat, n = many % 50 := ⟨_, rfl⟩
  have hn49 : n ≤ 49 := by omega
  have hka : (many : Int) % 50 = (n : Int) := by omega
  have hkb : (many : Int).tmod 50 = (n : Int) := by rw [Int.tmod_eq_emod_of_nonneg (by omega)]; exact hka
  clear hk
  have HN : Hid (∀ W, Calls Try.prog 10 #[.int .i64 1] W fun e w' => ∃ g b, e = .returned (.pointer (some ⟨g, 0, none⟩)) ∧ W.heap.size ≤ g ∧ W.heap.size ≤ b ∧ Hc w' g b 0 (T.Ck.new 1) ∧ Below W.heap.size W w') := Lib.hid (fun W => new_ex _ (by decide) W)
  go_enter Try.func5, Try.ntmps5
  go_wp2_with (first
    | (go_at_call 9; refine (awake9_any w).mono ?_; rintro e w1 ⟨rfl, b1⟩))
  have B1 := Lib.hid b1
  clear b1
  go_wp2_with (first
    | (go_at_call 10; refine (HN.out w1).mono ?_; rintro e w2 ⟨g, b, rfl, hg, hb, k2, b2⟩))
  have G : Hid (w.heap.size ≤ g) := Lib.hid (Nat.le_trans B1.out.size hg)
  have B : Hid (w.heap.size ≤ b) := Lib.hid (Nat.le_trans B1.out.size hb)
  have B2 : Hid (Below w.heap.size w w2) := Lib.hid (B1.out.trans (b2.mono B1.out.size))
  have K2 := Lib.hid k2
  clear b2 hg hb B1 k2 HN
  go_wp2
  go_loopw [8] (fun v wr => ∃ i : Nat, i ≤ n ∧ v = .int .i64 ((i : Int) + 1) ∧ Hid (Below w.heap.size w wr) ∧ Hid (∃ c : T.Ck, Hc wr g b i c ∧ c.next = (i : Int) + 1 ∧ c.act.length = i)) (fun v _ => 51 - (intOf v).toNat)
  case atStart => exact ⟨0, by omega, rfl, B2, Lib.hid ⟨_, K2.out, rfl, rfl⟩⟩
  case round =>
    obtain ⟨i, hi, rfl, HB, HC⟩ := hrel
    obtain ⟨c, hc, hn, hl⟩ := HC.out
    by_cases hik : i < n
    · have hik' : (i : Int) + 1 ≤ (n : Int) := by omega
      obtain ⟨e1, e2, e3, e4⟩ := issue_yes (c := c) (by unfold T.most; omega)
      have I1 := Lib.hid (issue_of hc (by omega) (e1.trans hn) e2 rfl)
      have E := Lib.hid (show c.issue.next = ((i + 1 : Nat) : Int) + 1 ∧ c.issue.act.length = i + 1 by rw [e3, e4]; simp; omega)
      clear hc hn hl e1 e2 e3 e4 HC
      generalize c.issue = d at *
      go_wp2_with (first
        | (go_at_call 12; refine I1.out.mono ?_; rintro e w3 ⟨rfl, k3, b3⟩))
      have HB3 : Hid (Below w.heap.size w w3) := Lib.hid (HB.out.trans (b3.below G.out B.out HB.out.size))
      have HC3 : Hid (∃ c : T.Ck, Hc w3 g b (i + 1) c ∧ c.next = ((i + 1 : Nat) : Int) + 1 ∧ c.act.length = i + 1) := Lib.hid ⟨d, k3, E.out⟩
      clear b3 k3 I1 E
      go_wp2
      go_roundw
      case rel => exact ⟨i + 1, by omega, by go_num, HB3, HC3⟩
      case measure => simp [intOf]; omega
    · have hik' : ¬ (i : Int) + 1 ≤ (n : Int) := by omega
      obtain rfl : i = n := by omega
      have HC2 : Hid (∃ c : T.Ck, Hc wr g b i c ∧ c.next = (i : Int) + 1 ∧ (c.act.length : Int) = (i : Int)) := Lib.hid ⟨c, hc, hn, by omega⟩
      clear hc hn hl HC K2 B2 hi hik
      go_wp2
      go_loopw [11, 12] (fun vl v wr => ∃ (j : Nat) (q : Int), j ≤ 60 ∧ v = .int .i64 (j : Int) ∧ vl = .int .i64 q ∧ 0 ≤ q ∧ q ≤ 49 ∧ Hid (Below w.heap.size w wr) ∧ Hid (∃ c : T.Ck, Hc wr g b i c ∧ c.next = (i : Int) + 1 ∧ (c.act.length : Int) = q)) (fun _ v _ => 60 - (intOf v).toNat)
      case atStart => exact ⟨0, (i : Int), by omega, rfl, rfl, by omega, by omega, HB, HC2⟩
      case round =>
        clear HB HC2
        obtain ⟨j, q, hj, rfl, rfl, hq, hq9, HB, HC⟩ := hrel
        obtain ⟨c, hc, hn, hl⟩ := HC.out
        by_cases hjl : j < ld.length ∧ j < 60
        · obtain ⟨hjl, hj6⟩ := hjl
          have hjl' : (j : Int) < (ld.length : Int) := by omega
          have hj6' : (j : Int) < 60 := by omega
          have hj0' : (0 : Int) ≤ (j : Int) := by omega
          obtain ⟨ad, _, ed, _, hGd, xd⟩ := byte_nth HD.out j hjl
          cases ed
          have xd' := (HB.out.cell (p := ad.add j) (by rw [S.add_block]; exact hG0 _ hGd)).trans xd
          obtain ⟨ts, hts⟩ : ∃ ts : Nat, ts = ld[j].toNat % 60 := ⟨_, rfl⟩
          have hu : ld[j].toNat ≤ 255 := by have := ld[j].toNat_lt; omega
          generalize ld[j].toNat = u at *
          have hta : (u : Int) % 60 = (ts : Int) := by omega
          have htb : (u : Int).tmod 60 = (ts : Int) := by rw [Int.tmod_eq_emod_of_nonneg (by omega)]; exact hta
          have hts59 : ts ≤ 59 := by omega
          have L1 := Lib.hid (T.Ck.done_len hc.ok (ts : Int))
          have L2 := Lib.hid (T.Ck.done_len (hc.ok.done (ts : Int)) (ts : Int))
          have L3 := Lib.hid (T.Ck.done_again (c := c) (ts : Int))
          have L4 := Lib.hid hc.ok.mem
          have HNX := Lib.hid (show (c.done (ts : Int)).next = (i : Int) + 1 ∧ ((c.done (ts : Int)).done (ts : Int)).next = (i : Int) + 1 from ⟨hn, hn⟩)
          have HLq := Lib.hid hl
          have HNn := Lib.hid hn
          clear hts hGd xd hn hl HC
          by_cases his : c.is (ts : Int) = true
          · have hmem : (ts : Int) ∈ c.act := of_decide_eq_true his
            have hb := L4.out _ hmem
            rw [HNn.out] at hb
            have ht1 : ¬ (ts : Int) < 1 := by omega
            have ht2 : ¬ (ts : Int) > (i : Int) := by omega
            have I1 := Lib.hid (done_of hc (ts : Int) (by omega) (by omega) his rfl)
            have HQ : Hid ((((c.done (ts : Int)).done (ts : Int)).act.length : Int) = q - 1) := Lib.hid (by
              have a1 := L1.out
              have a2 := L2.out
              rw [if_pos his] at a1
              rw [L3.out, if_neg (by simp)] at a2
              have := HLq.out
              omega)
            have hq1 : 0 ≤ q - 1 := by have := HQ.out; omega
            clear hmem hb his hc
            go_wp2_with (first
              | (go_at_call 14; refine I1.out.mono ?_; rintro e w3 ⟨rfl, k3, b3⟩))
            have HB3 : Hid (Below w.heap.size w w3) := Lib.hid (HB.out.trans (b3.below G.out B.out HB.out.size))
            have I2 := Lib.hid (done_of k3 (ts : Int) (by omega) (by omega) L3.out rfl)
            clear k3 b3 I1
            go_wp2_with (first
              | (go_at_call 14; refine I2.out.mono ?_; rintro e w4 ⟨rfl, k4, b4⟩))
            have HB4 : Hid (Below w.heap.size w w4) := Lib.hid (HB3.out.trans (b4.below G.out B.out HB3.out.size))
            have HC4 : Hid (∃ c : T.Ck, Hc w4 g b i c ∧ c.next = (i : Int) + 1 ∧ (c.act.length : Int) = q - 1) := Lib.hid ⟨_, k4, HNX.out.2, HQ.out⟩
            clear k4 b4 I2
            go_wp2
            go_roundw
            case rel => exact ⟨j + 1, q - 1, by omega, by go_num, by go_num, hq1, by omega, HB4, HC4⟩
            case measure => simp [intOf]; omega
          · have his : c.is (ts : Int) = false := by simpa using his
            have I1 := Lib.hid (done_of hc (ts : Int) (by omega) (by omega) his rfl)
            have HQ : Hid ((((c.done (ts : Int)).done (ts : Int)).act.length : Int) = q) := Lib.hid (by
              have a1 := L1.out
              have a2 := L2.out
              rw [his, if_neg (by simp)] at a1
              rw [L3.out, if_neg (by simp)] at a2
              have := HLq.out
              omega)
            clear his hc
            go_wp2_with (first
              | (go_at_call 14; refine I1.out.mono ?_; rintro e w3 ⟨rfl, k3, b3⟩))
            have HB3 : Hid (Below w.heap.size w w3) := Lib.hid (HB.out.trans (b3.below G.out B.out HB.out.size))
            have I2 := Lib.hid (done_of k3 (ts : Int) (by omega) (by omega) L3.out rfl)
            clear k3 b3 I1
            go_wp2_with (first
              | (go_at_call 14; refine I2.out.mono ?_; rintro e w4 ⟨rfl, k4, b4⟩))
            have HB4 : Hid (Below w.heap.size w w4) := Lib.hid (HB3.out.trans (b4.below G.out B.out HB3.out.size))
            have HC4 : Hid (∃ c : T.Ck, Hc w4 g b i c ∧ c.next = (i : Int) + 1 ∧ (c.act.length : Int) = q) := Lib.hid ⟨_, k4, HNX.out.2, HQ.out⟩
            clear k4 b4 I2
            go_wp2
            go_roundw
            case rel => exact ⟨j + 1, q, by omega, by go_num, rfl, hq, hq9, HB4, HC4⟩
            case measure => simp [intOf]; omega
        · have I1 := Lib.hid (active_any hc (by omega))
          have HH := Lib.hid hc
          have HNn := Lib.hid hn
          have HLq := Lib.hid hl
          have hNo : ¬ ((j : Int) < (ld.length : Int)) ∨ ((j : Int) < (ld.length : Int) ∧ ¬ ((j : Int) < 60)) := by omega
          clear hc hn hl HC hjl
          rcases hNo with hNo | ⟨hNo1, hNo⟩
          · -- behind the last
            go_wp2_with (first
              | (go_at_call 22; refine I1.out.mono ?_; rintro e w3 ⟨v, rfl, hs, b3⟩))
            have HB3 : Hid (Below w.heap.size w w3) := Lib.hid (HB.out.trans (b3.mono HB.out.size))
            have HH3 := Lib.hid (HH.out.step b3)
            have HS := Lib.hid hs
            obtain ⟨A, cap, rfl, hcap⟩ := num_form hs
            have hlq : (c.act.length : Int) = q := HLq.out
            have hlen9 : c.act.length ≤ 49 := by omega
            clear hs b3 I1 HH HB
            subst hlq
            go_wp2
            go_loopw [16] (fun v wr => ∃ k : Nat, k ≤ c.act.length ∧ v = .int .i64 (k : Int) ∧ Hid (Below w3.heap.size w3 wr ∧ ∀ p : Addr, wr.cell? p = w3.cell? p)) (fun v _ => c.act.length - (intOf v).toNat)
            case atStart => exact ⟨0, Nat.zero_le _, rfl, Lib.hid ⟨Below.refl _ _, fun _ => rfl⟩⟩
            case round =>
              obtain ⟨k, hk, rfl, HW⟩ := hrel
              by_cases hlt : k < c.act.length
              · have hlt' : (k : Int) < (c.act.length : Int) := by omega
                have hk0 : (0 : Int) ≤ (k : Int) := by omega
                obtain ⟨a, _, ea, _, _, xa⟩ := num_nth HS.out k hlt
                cases ea
                have xa' := (HW.out.2 _).trans xa
                have hm := HH3.out.ok.mem _ (List.getElem_mem hlt)
                rw [HNn.out] at hm
                obtain ⟨m1, m2⟩ := hm
                clear xa
                by_cases hkz : k = 0
                · subst hkz
                  generalize c.act[0] = x at *
                  have x1 : decide (x < 1) = false := decide_eq_false (by omega)
                  have x2 : decide (x > (i : Int)) = false := decide_eq_false (by omega)
                  have xa' : wr.cell? a = some (.int .i64 x) := by simpa [Addr.add] using xa'
                  go_wp2_with fail
                  go_region
                  all_goals (try go_wp2_with fail)
                  all_goals go_roundw
                  case rel => exact ⟨1, by omega, by go_num, Lib.hid ⟨⟨HW.out.1.os, HW.out.1.tape, HW.out.1.output, HW.out.1.size, HW.out.1.block⟩, fun p => HW.out.2 p⟩⟩
                  case measure => simp [intOf]; omega
                · obtain ⟨j', rfl⟩ : ∃ j', k = j' + 1 := ⟨k - 1, by omega⟩
                  obtain ⟨a', _, ea', _, _, xb⟩ := num_nth HS.out j' (by omega)
                  cases ea'
                  have xb' := (HW.out.2 _).trans xb
                  have hr := rises_at HH3.out.ok.rise hlt
                  clear xb hkz
                  generalize c.act[j' + 1] = x at *
                  generalize c.act[j']'(by omega) = y at *
                  have x1 : decide (x < 1) = false := decide_eq_false (by omega)
                  have x2 : decide (x > (i : Int)) = false := decide_eq_false (by omega)
                  have x3 : decide (x ≤ y) = false := decide_eq_false (by omega)
                  have i1 : decide (((j' + 1 : Nat) : Int) > 0) = true := decide_eq_true (by omega)
                  have i2 : ((j' + 1 : Nat) : Int) - 1 = (j' : Int) := by omega
                  have i3 : IntKind.i64.wrap (j' : Int) = (j' : Int) := by rw [IntKind.wrap_i64]; omega
                  have i6 : (0 : Int) ≤ (j' : Int) + 1 := by omega
                  have i7 : (j' : Int) + 1 < (c.act.length : Int) := by omega
                  rw [add_succ9] at xa'
                  have i4 : (0 : Int) ≤ (j' : Int) := by omega
                  have i5 : (j' : Int) < (c.act.length : Int) := by omega
                  clear m1 m2 hr
                  go_wp2_with fail
                  go_region
                  all_goals (try go_wp2_with fail)
                  all_goals go_roundw
                  case rel => exact ⟨j' + 1 + 1, by omega, by go_num, Lib.hid ⟨⟨HW.out.1.os, HW.out.1.tape, HW.out.1.output, HW.out.1.size, HW.out.1.block⟩, fun p => HW.out.2 p⟩⟩
                  case measure => simp [intOf]; omega
              · have hlt' : ¬ (k : Int) < (c.act.length : Int) := by omega
                by_cases hz : 0 < c.act.length
                · have hz1 : (c.act.length : Int) > 0 := by omega
                  have hz2 : (0 : Int) < (c.act.length : Int) := by omega
                  have hz3 : decide ((c.act.length : Int) > 0) = true := decide_eq_true hz1
                  go_wp2
                  go_ret
                  exact ⟨rfl, HB3.out.trans (HW.out.1.mono HB3.out.size)⟩
                · have hz1 : ¬ (c.act.length : Int) > 0 := by omega
                  have hz2 : ¬ (0 : Int) < (c.act.length : Int) := by omega
                  have hz3 : decide ((c.act.length : Int) > 0) = false := decide_eq_false hz1
                  have I4 := Lib.hid (min_of (HH3.out.step HW.out.1) ((min_none (by omega)).trans HNn.out))
                  go_wp2_with (first
                    | (go_at_call 19; refine I4.out.mono ?_; rintro e w8 ⟨rfl, _, b8⟩))
                  go_ret
                  have B8 := HB3.out.trans (HW.out.1.mono HB3.out.size)
                  exact ⟨rfl, B8.trans (b8.mono B8.size)⟩
          · -- at sixty
            go_wp2_with (first
              | (go_at_call 22; refine I1.out.mono ?_; rintro e w3 ⟨v, rfl, hs, b3⟩))
            have HB3 : Hid (Below w.heap.size w w3) := Lib.hid (HB.out.trans (b3.mono HB.out.size))
            have HH3 := Lib.hid (HH.out.step b3)
            have HS := Lib.hid hs
            obtain ⟨A, cap, rfl, hcap⟩ := num_form hs
            have hlq : (c.act.length : Int) = q := HLq.out
            have hlen9 : c.act.length ≤ 49 := by omega
            clear hs b3 I1 HH HB
            subst hlq
            go_wp2
            go_loopw [16] (fun v wr => ∃ k : Nat, k ≤ c.act.length ∧ v = .int .i64 (k : Int) ∧ Hid (Below w3.heap.size w3 wr ∧ ∀ p : Addr, wr.cell? p = w3.cell? p)) (fun v _ => c.act.length - (intOf v).toNat)
            case atStart => exact ⟨0, Nat.zero_le _, rfl, Lib.hid ⟨Below.refl _ _, fun _ => rfl⟩⟩
            case round =>
              obtain ⟨k, hk, rfl, HW⟩ := hrel
              by_cases hlt : k < c.act.length
              · have hlt' : (k : Int) < (c.act.length : Int) := by omega
                have hk0 : (0 : Int) ≤ (k : Int) := by omega
                obtain ⟨a, _, ea, _, _, xa⟩ := num_nth HS.out k hlt
                cases ea
                have xa' := (HW.out.2 _).trans xa
                have hm := HH3.out.ok.mem _ (List.getElem_mem hlt)
                rw [HNn.out] at hm
                obtain ⟨m1, m2⟩ := hm
                clear xa
                by_cases hkz : k = 0
                · subst hkz
                  generalize c.act[0] = x at *
                  have x1 : decide (x < 1) = false := decide_eq_false (by omega)
                  have x2 : decide (x > (i : Int)) = false := decide_eq_false (by omega)
                  have xa' : wr.cell? a = some (.int .i64 x) := by simpa [Addr.add] using xa'
                  go_wp2_with fail
                  go_region
                  all_goals (try go_wp2_with fail)
                  all_goals go_roundw
                  case rel => exact ⟨1, by omega, by go_num, Lib.hid ⟨⟨HW.out.1.os, HW.out.1.tape, HW.out.1.output, HW.out.1.size, HW.out.1.block⟩, fun p => HW.out.2 p⟩⟩
                  case measure => simp [intOf]; omega
                · obtain ⟨j', rfl⟩ : ∃ j', k = j' + 1 := ⟨k - 1, by omega⟩
                  obtain ⟨a', _, ea', _, _, xb⟩ := num_nth HS.out j' (by omega)
                  cases ea'
                  have xb' := (HW.out.2 _).trans xb
                  have hr := rises_at HH3.out.ok.rise hlt
                  clear xb hkz
                  generalize c.act[j' + 1] = x at *
                  generalize c.act[j']'(by omega) = y at *
                  have x1 : decide (x < 1) = false := decide_eq_false (by omega)
                  have x2 : decide (x > (i : Int)) = false := decide_eq_false (by omega)
                  have x3 : decide (x ≤ y) = false := decide_eq_false (by omega)
                  have i1 : decide (((j' + 1 : Nat) : Int) > 0) = true := decide_eq_true (by omega)
                  have i2 : ((j' + 1 : Nat) : Int) - 1 = (j' : Int) := by omega
                  have i3 : IntKind.i64.wrap (j' : Int) = (j' : Int) := by rw [IntKind.wrap_i64]; omega
                  have i6 : (0 : Int) ≤ (j' : Int) + 1 := by omega
                  have i7 : (j' : Int) + 1 < (c.act.length : Int) := by omega
                  rw [add_succ9] at xa'
                  have i4 : (0 : Int) ≤ (j' : Int) := by omega
                  have i5 : (j' : Int) < (c.act.length : Int) := by omega
                  clear m1 m2 hr
                  go_wp2_with fail
                  go_region
                  all_goals (try go_wp2_with fail)
                  all_goals go_roundw
                  case rel => exact ⟨j' + 1 + 1, by omega, by go_num, Lib.hid ⟨⟨HW.out.1.os, HW.out.1.tape, HW.out.1.output, HW.out.1.size, HW.out.1.block⟩, fun p => HW.out.2 p⟩⟩
                  case measure => simp [intOf]; omega
              · have hlt' : ¬ (k : Int) < (c.act.length : Int) := by omega
                by_cases hz : 0 < c.act.length
                · have hz1 : (c.act.length : Int) > 0 := by omega
                  have hz2 : (0 : Int) < (c.act.length : Int) := by omega
                  have hz3 : decide ((c.act.length : Int) > 0) = true := decide_eq_true hz1
                  go_wp2
                  go_ret
                  exact ⟨rfl, HB3.out.trans (HW.out.1.mono HB3.out.size)⟩
                · have hz1 : ¬ (c.act.length : Int) > 0 := by omega
                  have hz2 : ¬ (0 : Int) < (c.act.length : Int) := by omega
                  have hz3 : decide ((c.act.length : Int) > 0) = false := decide_eq_false hz1
                  have I4 := Lib.hid (min_of (HH3.out.step HW.out.1) ((min_none (by omega)).trans HNn.out))
                  go_wp2_with (first
                    | (go_at_call 19; refine I4.out.mono ?_; rintro e w8 ⟨rfl, _, b8⟩))
                  go_ret
                  have B8 := HB3.out.trans (HW.out.1.mono HB3.out.size)
                  exact ⟨rfl, B8.trans (b8.mono B8.size)⟩

end Go.Proofs.Ytcndghkeondbpaa
