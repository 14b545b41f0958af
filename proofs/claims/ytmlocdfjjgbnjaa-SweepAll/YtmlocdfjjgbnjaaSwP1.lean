/-
  Versions marked by a closure, found by halves among those that are Done.
-/
import Derived.Test.YtmlocdfjjgbnjaaSwSq
import Derived.Test.YtmlocdfjjgbnjaaJE
import Derived.Test.YtmlocdfjjgbnjaaChP2
namespace Go.Proofs.Ytmlocdfjjgbnjaa
open Go.RowKit

theorem booV_set (l : List Bool) (k : Nat) (b : Bool) : booV (l.set k b) = (booV l).set k (.bool b) := by simp [booV, List.map_set]
theorem own_still {w w' : World} {base k n : Nat} {e : TypeId} {v : Value} {xs : List Value} (h : w.ownsRow base e k v n xs) (hs : Still w w') : w'.ownsRow base e k v n xs := by
  refine ⟨h.1, h.2.imp id ?_⟩
  rintro ⟨g, cap, cur, e1, e2, e3, r⟩
  exact ⟨g, cap, cur, e1, e2, (hs.low.block g (Array.getElem?_eq_some_iff.1 e3).1).trans e3, r⟩
theorem own_below {w w' : World} {base k n : Nat} {e : TypeId} {v : Value} {xs : List Value} (h : w.ownsRow base e k v n xs) (hs : Below w.heap.size w w') : w'.ownsRow base e k v n xs := by
  refine ⟨h.1, h.2.imp id ?_⟩
  rintro ⟨g, cap, cur, e1, e2, e3, r⟩
  exact ⟨g, cap, cur, e1, e2, (hs.block g (Array.getElem?_eq_some_iff.1 e3).1).trans e3, r⟩
theorem Turn.put13 {F : Nat → Prop} {w w1 : World} (h : Turn F w w1) {q : Nat} (hq : F q) (o : Nat) (u : Value) : Turn F w (w1.setCell ⟨q, o, none⟩ u) :=
  ⟨h.os, h.tape, h.output, by simpa [World.setCell] using h.size, fun k hk hF => (Below.heap_setCell w1 ⟨q, o, none⟩ u k (fun e => hF (e ▸ hq))).trans (h.block k hk hF)⟩

set_option maxRecDepth 100000 in
set_option maxHeartbeats 4000000 in
/-- the inner closure: is the i-th of those that are Done above ts? -/
theorem above13 {w : World} {F G : Nat → Prop} {pc pd pt i cap capd : Nat} {A Ad : Option Addr} {c : Cn.Ch} {D : List Nat} {ts : Int} (hD : D = Sw.dones c) (hi : i < D.length)
    (hc0 : w.cell? ⟨pc, 0, none⟩ = some (.slice A c.length cap)) (hd0 : w.cell? ⟨pd, 0, none⟩ = some (.slice Ad D.length capd)) (ht0 : w.cell? ⟨pt, 0, none⟩ = some (.int .i64 ts))
    (hc : SlC w F (.slice A c.length cap) c) (hd : SlI w G (.slice Ad D.length capd) D) :
    Calls Try.prog 35 #[.int .i64 (i : Int), .pointer (some ⟨pc, 0, none⟩), .pointer (some ⟨pd, 0, none⟩), .pointer (some ⟨pt, 0, none⟩)] w fun e w' => e = .returned (.bool (decide (ts < (Cn.getV c (D.getD i 0)).ts))) ∧ Below w.heap.size w w' := by
  have hdl := Sw.done_lt hD hi
  have eg : Cn.getV c (D.getD i 0) = c[D[i]] := by rw [List.getD_eq_getElem?_getD, List.getElem?_eq_getElem hi]; exact Sw.getV_at hdl
  rw [eg]
  obtain ⟨ad, _, e1, _, _, x0⟩ := ints_nth hd i hi
  cases e1
  obtain ⟨a, _, e2, _, _, y0, _, _, _⟩ := SlC.nth hc D[i] hdl
  cases e2
  generalize c[D[i]].ts = u at *
  generalize D[i] = d at *
  clear hc hd hD eg
  have hd1 : (d : Int) < (c.length : Int) := by omega
  have hd2 : (0 : Int) ≤ (d : Int) := by omega
  have hi1 : (i : Int) < (D.length : Int) := by omega
  have hi2 : (0 : Int) ≤ (i : Int) := by omega
  go_enter Try.func35, Try.ntmps35
  go_wp2_with fail
  go_quiet (fail)
  rename_i nq
  go_wp2
  go_ret
  exact ⟨rfl, ⟨rfl, rfl, rfl, Nat.le_refl _, fun _ _ => rfl⟩⟩

set_option maxRecDepth 100000 in
set_option maxHeartbeats 4000000 in
/-- the closure: of those that are Done, and not above ts, the last one is marked -/
theorem mark13 {w : World} {F G : Nat → Prop} {base pc pd po g cap capd capo : Nat} {A Ad : Option Addr} {c : Cn.Ch} {D : List Nat} {B : List Bool} {ts : Int} (hm : Cn.May c) (hD : D = Sw.dones c) (hB : B.length = c.length) (hl : c.length ≤ 200)
    (hc0 : w.cell? ⟨pc, 0, none⟩ = some (.slice A c.length cap)) (hd0 : w.cell? ⟨pd, 0, none⟩ = some (.slice Ad D.length capd)) (ho0 : w.cell? ⟨po, 0, none⟩ = some (.slice (some ⟨g, 0, none⟩) c.length capo)) (hc : SlC w F (.slice A c.length cap) c) (hF : ∀ b, F b → b < w.heap.size)
    (hd : SlI w G (.slice Ad D.length capd) D) (hG : ∀ b, G b → b < w.heap.size)
    (ho : w.ownsRow base 4 1 (.slice (some ⟨g, 0, none⟩) c.length capo) c.length (booV B)) :
    Calls Try.prog 33 #[.int .i64 ts, .pointer (some ⟨pd, 0, none⟩), .pointer (some ⟨pc, 0, none⟩), .pointer (some ⟨po, 0, none⟩)] w fun e w' => e = .returned (.tuple #[]) ∧ w'.ownsRow base 4 1 (.slice (some ⟨g, 0, none⟩) c.length capo) c.length (booV (Sw.markB B (Sw.lastI c ts c.length))) ∧ Turn (fun b => b = g) w w' := by
  have hDl : D.length ≤ 200 := by rw [hD]; exact Nat.le_trans (Sw.doneT_len c _) hl
  have hb1 : Below w.heap.size w (w.alloc (.cells #[.int .i64 ts] 2)) := (Below.refl _ _).alloc (Nat.le_refl _) _
  have HB1 := Lib.hid hb1
  have HSe : Hid (Calls Try.prog 34 #[.int .i64 (D.length : Int), .func (.func 35) #[] #[.pointer (some ⟨pc, 0, none⟩), .pointer (some ⟨pd, 0, none⟩), .pointer (some ⟨w.heap.size, 0, none⟩)]] (w.alloc (.cells #[.int .i64 ts] 2)) fun e w' => ∃ k : Nat, e = .returned (.int .i64 (k : Int)) ∧ k ≤ D.length ∧ (∀ t, t < k → decide (ts < (Cn.getV c (D.getD t 0)).ts) = false) ∧ (∀ t, k ≤ t → t < D.length → decide (ts < (Cn.getV c (D.getD t 0)).ts) = true) ∧ Below (w.alloc (.cells #[.int .i64 ts] 2)).heap.size (w.alloc (.cells #[.int .i64 ts] 2)) w') := Lib.hid (by
    refine search13 (p := fun i => decide (ts < (Cn.getV c (D.getD i 0)).ts)) (enters_of Try.func35 (by kernel_rfl) rfl) (by omega) (fun W i hi hb => ?_) (fun a b hab hbl ha => ?_)
    · have hb2 : Below w.heap.size w W := hb1.trans (hb.mono hb1.size)
      have ec : ∀ {q o : Nat} {u : Value}, w.cell? ⟨q, o, none⟩ = some u → W.cell? ⟨q, o, none⟩ = some u := fun h => (hb2.cell (World.block_lt_of_cell? _ _ h)).trans h
      refine above13 (F := F) (G := G) hD hi (ec hc0) (ec hd0) ?_ (S.Sg.below hc hb2 hF) (S.Sg.below hd hb2 hG)
      exact ((Bk.new w [.int .i64 ts] 2 rfl).step hb).cell 0 _ rfl
    · have hal : a < D.length := by omega
      simp only [decide_eq_true_eq, List.getD_eq_getElem?_getD, List.getElem?_eq_getElem hal, List.getElem?_eq_getElem hbl, Option.getD_some] at ha ⊢
      have := Sw.done_mono hD hm hal hbl hab
      omega)
  have HC0 := Lib.hid hc0
  have HD0 := Lib.hid hd0
  have HO0 := Lib.hid ho0
  have HO := Lib.hid ho
  have HSd := Lib.hid hd
  have HGd := Lib.hid hG
  have HBl := Lib.hid hB
  have hd1 := (hb1.cell (World.block_lt_of_cell? _ _ hd0)).trans hd0
  have HDD := Lib.hid hD
  clear hc hd hG hF ho ho0 hd0 hc0 hB hb1 hD
  go_enter Try.func33, Try.ntmps33
  go_wp2_with (go_at_call 34; refine HSe.out.mono ?_; rintro e w2 ⟨k, rfl, hk, hlo, hhi, hb2⟩
               have HLo := Lib.hid hlo
               have HHi := Lib.hid hhi
               have HB2 := Lib.hid (HB1.out.trans (hb2.mono HB1.out.size))
               clear hlo hhi hb2 HSe)
  · rename_i hk0
    obtain ⟨j, hj⟩ : ∃ j, k = j + 1 := ⟨k - 1, by omega⟩
    have hjl : j < D.length := by omega
    have hdl := Sw.done_lt HDD.out hjl
    have hc2 := HB2.out
    obtain ⟨ad, _, e1, _, _, x0⟩ := ints_nth (S.Sg.below HSd.out hc2 HGd.out) j hjl
    cases e1
    have HE : Hid (Sw.lastI c ts c.length = (D[j] : Int)) := Lib.hid (by
      refine Sw.half_found HDD.out hjl ?_ (fun t ht hjt => ?_)
      · have := of_decide_eq_false (HLo.out j (by omega))
        rw [List.getD_eq_getElem?_getD, List.getElem?_eq_getElem hjl] at this
        simp only [Option.getD_some] at this
        omega
      · have := of_decide_eq_true (HHi.out t (by omega) ht)
        rw [List.getD_eq_getElem?_getD, List.getElem?_eq_getElem ht] at this
        exact this)
    generalize D[j] = d at *
    have ec : ∀ {q o : Nat} {u : Value}, w.cell? ⟨q, o, none⟩ = some u → w2.cell? ⟨q, o, none⟩ = some u := fun h => (hc2.cell (World.block_lt_of_cell? _ _ h)).trans h
    have xo := ec HO0.out
    have xd := ec HD0.out
    have hown : w2.ownsRow base 4 1 (.slice (some ⟨g, 0, none⟩) c.length capo) c.length (booV B) := own_below HO.out hc2
    have g0 := V.own_cell hown (j := d) (booV_at B d (by rw [HBl.out]; exact hdl))
    have g1 := V.own_frozen hown d
    have h9 := S.own_set1 Try.prog hown (o := d) (by omega) (.bool true) rfl
    have H9 : Hid ((w2.setCell ⟨g, d, none⟩ (.bool true)).ownsRow base 4 1 (.slice (some ⟨g, 0, none⟩) c.length capo) c.length (booV (Sw.markB B (Sw.lastI c ts c.length))) ∧ Turn (fun b => b = g) w (w2.setCell ⟨g, d, none⟩ (.bool true))) := Lib.hid ⟨by
      rw [HE.out, show Sw.markB B (d : Int) = B.set d true from by unfold Sw.markB; rw [if_pos (by omega)]; rfl, booV_set]; exact h9, Turn.put13 (F := fun b => b = g) (Turn.of_below hc2) (q := g) rfl d _⟩
    clear hown h9 hc2 ec HE
    have k1 : (k : Int) - 1 = (j : Int) := by omega
    have k2 : IntKind.i64.wrap (j : Int) = (j : Int) := IntWalk.i64_in _ (by omega)
    have j1 : (j : Int) < (D.length : Int) := by omega
    have j2 : (0 : Int) ≤ (j : Int) := by omega
    have d1 : (d : Int) < (c.length : Int) := by omega
    have d2 : (0 : Int) ≤ (d : Int) := by omega
    clear hj
    go_wp2_with fail
    go_region
    all_goals
      have ht := H9.out.2
      go_end0
      exact ⟨rfl, H9.out.1, ⟨ht.os, ht.tape, ht.output, ht.size, ht.block⟩⟩
  · obtain rfl : k = 0 := by omega
    have HE : Hid (Sw.lastI c ts c.length = -1) := Lib.hid (Sw.half_no HDD.out (fun t ht => by
      have := of_decide_eq_true (HHi.out t (by omega) ht)
      rw [List.getD_eq_getElem?_getD, List.getElem?_eq_getElem ht] at this
      exact this))
    go_end0
    rw [HE.out]
    exact ⟨rfl, own_below HO.out HB2.out, Turn.of_below HB2.out⟩
end Go.Proofs.Ytmlocdfjjgbnjaa
