/-
  Places of the versions that are Done: their mathematics, and the landed donePlaces.
  sort.Search, slices.IndexFunc and slices.ContainsFunc over whatever function value, by their own walks.
-/
import Derived.Test.YtmlocdfjjgbnjaaSwRef1
import Derived.Test.YtmlocdfjjgbnjaaJS
import Derived.Shelf.Abstract
namespace Go.Proofs.Ytmlocdfjjgbnjaa
open Go.RowKit

namespace Sw
open Cn
section
variable {c : Ch} {ts : Int} {i j n k : Nat}
/-- the places, below n, of versions that are Done -/
def doneT (c : Ch) (n : Nat) : List Nat := (List.range n).filter (fun i => (getV c i).done)
def dones (c : Ch) : List Nat := doneT c c.length
theorem doneT_snoc (hi : i < c.length) : doneT c (i + 1) = if c[i].done = true then doneT c i ++ [i] else doneT c i := by
  unfold doneT
  rw [List.range_succ, List.filter_append, ← getV_at hi]
  cases h : (getV c i).done <;> simp [h]
theorem doneT_len (c : Ch) (n : Nat) : (doneT c n).length ≤ n := by
  unfold doneT
  refine Nat.le_trans (List.length_filter_le ..) ?_
  simp
theorem done_mem : j ∈ dones c ↔ j < c.length ∧ (getV c j).done = true := by
  unfold dones doneT
  rw [List.mem_filter, List.mem_range]
theorem done_up (c : Ch) : (dones c).Pairwise (· < ·) := by
  unfold dones doneT
  exact List.pairwise_lt_range.filter _
theorem done_in {D : List Nat} (hD : D = dones c) (hj : j < D.length) : D[j] ∈ dones c := by
  subst hD
  exact List.getElem_mem hj
theorem done_lt {D : List Nat} (hD : D = dones c) (hj : j < D.length) : D[j] < c.length := (done_mem.1 (done_in hD hj)).1
theorem done_mono {D : List Nat} (hD : D = dones c) (hm : May c) (hi : i < D.length) (hj : j < D.length) (hij : i ≤ j) : (getV c D[i]).ts ≤ (getV c D[j]).ts := by
  by_cases e : i = j
  · subst e; exact Int.le_refl _
  · have hu : D.Pairwise (· < ·) := by rw [hD]; exact done_up c
    have h1 := List.pairwise_iff_getElem.1 hu i j hi hj (by omega)
    have l1 := done_lt hD hi
    have l2 := done_lt hD hj
    have := List.pairwise_iff_getElem.1 hm.up D[i] D[j] l1 l2 h1
    rw [getV_at l1, getV_at l2]
    omega
/-- found by halves: so many of those that are Done aren't above ts -/
theorem half_found {D : List Nat} (hD : D = dones c) (hk : k < D.length) (hlo : (getV c D[k]).ts ≤ ts) (hhi : ∀ j (hj : j < D.length), k < j → ts < (getV c D[j]).ts) : lastI c ts c.length = (D[k] : Int) := by
  have hl := done_lt hD hk
  have hd := (done_mem.1 (done_in hD hk)).2
  rw [getV_at hl] at hd hlo
  refine lastI_found hl hd hlo (fun j hj hij ⟨h1, h2⟩ => ?_)
  have hjm : j ∈ D := by rw [hD]; exact done_mem.2 ⟨hj, by rw [getV_at hj]; exact h1⟩
  obtain ⟨m, hm, e⟩ := List.getElem_of_mem hjm
  have hkm : k < m := by
    rcases Nat.lt_trichotomy k m with h | h | h
    · exact h
    · subst h; omega
    · have hu : D.Pairwise (· < ·) := by rw [hD]; exact done_up c
      have := List.pairwise_iff_getElem.1 hu m k hm hk h
      omega
  have := hhi m hm hkm
  rw [e, getV_at hj] at this
  omega
theorem half_no {D : List Nat} (hD : D = dones c) (hhi : ∀ j (hj : j < D.length), ts < (getV c D[j]).ts) : lastI c ts c.length = -1 := by
  refine lastI_no (fun j hj ⟨h1, h2⟩ => ?_)
  have hjm : j ∈ D := by rw [hD]; exact done_mem.2 ⟨hj, by rw [getV_at hj]; exact h1⟩
  obtain ⟨m, hm, e⟩ := List.getElem_of_mem hjm
  have := hhi m hm
  rw [e, getV_at hj] at this
  omega
end
end Sw

theorem one_at13 (w : World) (e : TypeId) (u : Value) {g : Nat} (hg : g = w.heap.size) : S.Sg (w.alloc (.cells #[u] e)) (fun b => b = g) 1 (.slice (some ⟨g, 0, none⟩) 1 1) 1 [u] := by
  subst hg; exact S.Sg.one w e u
theorem elIn : S.El Try.prog 71 3 1 8 := info_el (z := .int .i64 0) Try.underlying71 (by kernel_rfl) rfl
theorem ints_nth {w : World} {F : Nat → Prop} {v : Value} {D : List Nat} (h : SlI w F v D) (i : Nat) (hi : i < D.length) : ∃ a cap, v = .slice (some a) D.length cap ∧ D.length ≤ cap ∧ F a.block ∧ w.cell? (a.add i) = some (.int .i64 (D[i] : Int)) := by
  obtain ⟨_, A, cap, e, hc, hx⟩ := h
  obtain ⟨a, rfl, hF, hx⟩ := hx (by omega)
  exact ⟨a, cap, e, hc, hF, hx i _ (intV_at D i hi)⟩
theorem ints_form {w : World} {F : Nat → Prop} {v : Value} {D : List Nat} (h : SlI w F v D) : ∃ A cap, v = .slice A D.length cap ∧ D.length ≤ cap := by
  obtain ⟨_, A, cap, e, hc, _⟩ := h
  exact ⟨A, cap, e, hc⟩

set_option maxRecDepth 100000 in
set_option maxHeartbeats 4000000 in
/-- donePlaces -/
theorem dones13 {w : World} {F : Nat → Prop} {v : Value} {c : Cn.Ch} (h : SlC w F v c) (hF : ∀ b, F b → b < w.heap.size) (hl : c.length ≤ 200) :
    Calls Try.prog 32 #[v] w fun e w' => ∃ v', e = .returned v' ∧ SlI w' (S.New w w') v' (Sw.dones c) ∧ Below w.heap.size w w' := by
  have HS := Lib.hid h
  obtain ⟨A, cap, rfl, hcap⟩ := SlC.form h
  clear h
  go_enter Try.func32, Try.ntmps32
  go_wp2
  go_loopw [3, 8] (fun r i wr => ∃ (k : Nat) (D : List Nat), k ≤ c.length ∧ D.length ≤ k ∧ i = .int .i64 (k : Int) ∧ Hid (Sw.doneT c k = D) ∧ Hid (wr.ownsRow w.heap.size 3 1 r D.length (intV D)) ∧ Hid (Below w.heap.size w wr)) (fun _ i _ => c.length - (intOf i).toNat)
  case atStart => exact ⟨0, [], Nat.zero_le _, Nat.le_refl _, rfl, Lib.hid rfl, Lib.hid (S.own_nil ..), Lib.hid (Below.refl _ _)⟩
  case round =>
    obtain ⟨k, D, hk, hDk, rfl, HD, HO, HB⟩ := hrel
    obtain ⟨Ar, cr, rfl⟩ := own_slice HO.out
    by_cases hlt : k < c.length
    · have hlt' : (k : Int) < (c.length : Int) := by omega
      have hk0 : (0 : Int) ≤ (k : Int) := by omega
      obtain ⟨a, _, ea, _, _, y0, y1, y2, y3⟩ := SlC.nth (S.Sg.below HS.out HB.out hF) k hlt
      cases ea
      have HT := Lib.hid (Sw.doneT_snoc hlt)
      have hb4 : ∀ u : Cn.Vr, Below w.heap.size w (wr.alloc (.cells #[.int .i64 u.ts, .int .i64 u.rd, .string u.val, .bool u.done] 40)) := fun u => HB.out.trans (((Below.refl wr.heap.size wr).alloc (Nat.le_refl _) _).mono HB.out.size)
      have HB4 := Lib.hid (hb4 c[k])
      have HO4 : Hid ((wr.alloc (.cells #[.int .i64 c[k].ts, .int .i64 c[k].rd, .string c[k].val, .bool c[k].done] 40)).ownsRow w.heap.size 3 1 (.slice Ar D.length cr) D.length (intV D)) := Lib.hid (HO.out.alloc _)
      clear hb4
      cases hd : c[k].done with
      | false =>
        rw [hd] at y3 HO4 HB4
        have HT2 : Hid (Sw.doneT c (k + 1) = D) := Lib.hid (by rw [HT.out, if_neg (by rw [hd]; exact Bool.false_ne_true), HD.out])
        clear hd HT HO HB
        generalize c[k] = u at *
        go_wp2_with fail
        go_roundw
        case rel => exact ⟨k + 1, D, by omega, by omega, by go_num, HT2, HO4, HB4⟩
        case measure => simp [intOf]; omega
      | true =>
        rw [hd] at y3 HO4 HB4
        have HT2 : Hid (Sw.doneT c (k + 1) = D ++ [k]) := Lib.hid (by rw [HT.out, if_pos hd, HD.out])
        clear hd HT HO HB
        generalize c[k] = u at *
        go_wp2_with (at_builtin; go_loud (refine S.wpList_append_sg elIn rfl _ _ rfl (base := w.heap.size) (n := D.length) (m := 1) (xs := intV D) (cs := intV [k]) rfl rfl (HO4.out.alloc _) (one_at13 _ 3 (.int .i64 (k : Int)) (g := wr.heap.size + 1) (by simp)) (intV_one _) (by omega) (by omega) (by have := HB4.out.size; simp only [World.size_alloc] at this ⊢; omega) ?_))
        intro v5 w5 hown5 hgrow5 _
        have HB5 : Hid (Below w.heap.size w w5) := Lib.hid ((HB4.out.alloc HB4.out.size (.cells #[.int .i64 (k : Int)] 3)).trans (S.below_base (HO4.out.alloc _) (by have := HB4.out.size; simp only [World.size_alloc] at this ⊢; omega) hgrow5))
        have HO5 : Hid (w5.ownsRow w.heap.size 3 1 v5 (D ++ [k]).length (intV (D ++ [k]))) := Lib.hid (by
          rw [List.length_append, show intV (D ++ [k]) = intV D ++ intV [k] from by simp [intV]]
          exact hown5)
        clear hown5 hgrow5
        go_wp2_with fail
        go_roundw
        case rel => exact ⟨k + 1, D ++ [k], by omega, by simp; omega, by go_num, HT2, HO5, HB5⟩
        case measure => simp [intOf]; omega
    · obtain rfl : k = c.length := by omega
      have hlt' : ¬ (c.length : Int) < (c.length : Int) := by omega
      go_wp2
      go_ret
      refine ⟨_, rfl, ?_, HB.out⟩
      show SlI _ _ _ (Sw.doneT c c.length)
      rw [HD.out]
      exact (S.Sg.of_own HO.out).wider (fun b q => q)
end Go.Proofs.Ytmlocdfjjgbnjaa

namespace Go.Proofs.Ytmlocdfjjgbnjaa
open Go.RowKit

set_option maxRecDepth 100000 in
set_option maxHeartbeats 4000000 in
/-- the first place at which f is true, or n -/
theorem search13 {g n : Nat} {cb : Array Value} {p : Nat → Bool} {w : World} (eg : ∀ args w, (callFunc g args).run Try.prog w = .ok (.enter g args) w) (hn : n ≤ 1000000)
    (hf : ∀ W i, i < n → Below w.heap.size w W → Calls Try.prog g (#[.int .i64 (i : Int)] ++ cb) W fun e w' => e = .returned (.bool (p i)) ∧ Below W.heap.size W w')
    (hm : ∀ a b, a ≤ b → b < n → p a = true → p b = true) :
    Calls Try.prog 34 #[.int .i64 (n : Int), .func (.func g) #[] cb] w fun e w' => ∃ k : Nat, e = .returned (.int .i64 (k : Int)) ∧ k ≤ n ∧ (∀ t, t < k → p t = false) ∧ (∀ t, k ≤ t → t < n → p t = true) ∧ Below w.heap.size w w' := by
  have HF := Lib.hid hf
  have M := Lib.hid hm
  clear hf hm
  go_enter Try.func34, Try.ntmps34
  go_wp2
  go_loopw [5, 6] (fun s5 s6 wr => ∃ lo hi : Nat, s5 = .int .i64 (lo : Int) ∧ s6 = .int .i64 (hi : Int) ∧ lo ≤ hi ∧ hi ≤ n ∧ Hid (Below w.heap.size w wr) ∧ Hid ((∀ t, t < lo → p t = false) ∧ (∀ t, hi ≤ t → t < n → p t = true))) (fun s5 s6 _ => (intOf s6).toNat - (intOf s5).toNat)
  case atStart => exact ⟨0, n, rfl, rfl, Nat.zero_le _, Nat.le_refl _, Lib.hid (Below.refl _ _), Lib.hid ⟨fun t ht => absurd ht (Nat.not_lt_zero _), fun t h1 h2 => by omega⟩⟩
  case round =>
    obtain ⟨lo, hi, rfl, rfl, hlh, hin, HB, I⟩ := hrel
    by_cases hlt : lo < hi
    · have hlt' : (lo : Int) < (hi : Int) := by omega
      have hc := HF.out wr ((lo + hi) / 2) (by omega) HB.out
      rw [show (((lo + hi) / 2 : Nat) : Int) = ((lo : Int) + (hi : Int)) / 2 by omega] at hc
      cases hp : p ((lo + hi) / 2) <;> rw [hp] at hc
      · have HP := Lib.hid hp
        clear hp
        go_wp2_with (go_at_fn g; refine hc.mono ?_; rintro e w' ⟨rfl, hb⟩; have HB2 := Lib.hid (HB.out.trans (hb.mono HB.out.size)); clear hb)
        go_roundw
        case rel =>
          have I2 : Hid ((∀ t, t < (lo + hi) / 2 + 1 → p t = false) ∧ (∀ t, hi ≤ t → t < n → p t = true)) := Lib.hid ⟨fun t ht => (by
            cases h : p t with
            | false => rfl
            | true => have := M.out t ((lo + hi) / 2) (by omega) (by omega) h; rw [HP.out] at this; cases this), I.out.2⟩
          exact ⟨(lo + hi) / 2 + 1, hi, by rw [show ((lo : Int) + (hi : Int)) / 2 + 1 = (((lo + hi) / 2 + 1 : Nat) : Int) by omega], rfl, by omega, hin, HB2, I2⟩
        case measure => simp [intOf]; omega
      · have HP := Lib.hid hp
        clear hp
        go_wp2_with (go_at_fn g; refine hc.mono ?_; rintro e w' ⟨rfl, hb⟩; have HB2 := Lib.hid (HB.out.trans (hb.mono HB.out.size)); clear hb)
        go_roundw
        case rel =>
          have I2 : Hid ((∀ t, t < lo → p t = false) ∧ (∀ t, (lo + hi) / 2 ≤ t → t < n → p t = true)) := Lib.hid ⟨I.out.1, fun t ht htn => M.out ((lo + hi) / 2) t ht htn HP.out⟩
          exact ⟨lo, (lo + hi) / 2, rfl, by rw [show ((lo : Int) + (hi : Int)) / 2 = (((lo + hi) / 2 : Nat) : Int) by omega], by omega, by omega, HB2, I2⟩
        case measure => simp [intOf]; omega
    · obtain rfl : hi = lo := by omega
      have hlt' : ¬ (hi : Int) < (hi : Int) := by omega
      go_wp2
      go_ret
      exact ⟨hi, rfl, hin, I.out.1, I.out.2, HB.out⟩

set_option maxRecDepth 100000 in
set_option maxHeartbeats 4000000 in
theorem index13 {g : Nat} {cb : Array Value} {p : Int → Bool} {w : World} {G : Nat → Prop} {va : Value} {l : List Int} (h : SlN w G va l) (hG : ∀ b, G b → b < w.heap.size) (hl : l.length ≤ 1000000) (eg : ∀ args w, (callFunc g args).run Try.prog w = .ok (.enter g args) w)
    (hf : ∀ W x, Below w.heap.size w W → Calls Try.prog g (#[.int .i64 x] ++ cb) W fun e w' => e = .returned (.bool (p x)) ∧ Below W.heap.size W w') :
    Calls Try.prog 59 #[va, .func (.func g) #[] cb] w fun e w' => ∃ z : Int, e = .returned (.int .i64 z) ∧ decide (0 ≤ z) = l.any p ∧ -1 ≤ z ∧ z ≤ 1000000 ∧ Below w.heap.size w w' := by
  have HF := Lib.hid hf
  have HS := Lib.hid h
  obtain ⟨A, cap, rfl, hcap⟩ := num_form h
  clear hf h
  go_enter Try.func59, Try.ntmps59
  go_wp2
  go_loopw [8] (fun iv wr => ∃ k : Nat, iv = .int .i64 (k : Int) ∧ k ≤ l.length ∧ Hid (Below w.heap.size w wr) ∧ Hid (∀ j (hj : j < l.length), j < k → p l[j] = false)) (fun iv _ => l.length - (intOf iv).toNat)
  case atStart => exact ⟨0, rfl, Nat.zero_le _, Lib.hid (Below.refl _ _), Lib.hid (fun j _ h => absurd h (Nat.not_lt_zero _))⟩
  case round =>
    obtain ⟨k, rfl, hk, HB, I⟩ := hrel
    by_cases hlt : k < l.length
    · have hlt' : (k : Int) < (l.length : Int) := by omega
      have hk0 : (0 : Int) ≤ (k : Int) := by omega
      obtain ⟨a, _, ea, _, _, y0⟩ := num_nth (S.Sg.below HS.out HB.out hG) k hlt
      cases ea
      have hc := HF.out wr l[k] HB.out
      have HN : Hid (p l[k] = false → ∀ j (hj : j < l.length), j < k + 1 → p l[j] = false) := Lib.hid (fun h j hj hjk => by
        by_cases e : j = k
        · subst e; exact h
        · exact I.out j hj (by omega))
      have HY : Hid (p l[k] = true → l.any p = true) := Lib.hid (fun h => List.any_eq_true.2 ⟨l[k], List.getElem_mem hlt, h⟩)
      generalize l[k] = x at *
      cases hp : p x <;> rw [hp] at hc
      · have HN2 := Lib.hid (HN.out hp)
        clear hp HN HY
        go_wp2_with (go_at_fn g; refine hc.mono ?_; rintro e w' ⟨rfl, hb⟩; have HB2 := Lib.hid (HB.out.trans (hb.mono HB.out.size)); clear hb)
        go_roundw
        case rel => exact ⟨k + 1, by go_num, by omega, HB2, HN2⟩
        case measure => simp [intOf]; omega
      · have HY2 := Lib.hid (HY.out hp)
        clear hp HN HY
        go_wp2_with (go_at_fn g; refine hc.mono ?_; rintro e w' ⟨rfl, hb⟩; have HB2 := Lib.hid (HB.out.trans (hb.mono HB.out.size)); clear hb)
        go_ret
        exact ⟨(k : Int), rfl, by rw [HY2.out]; exact decide_eq_true (by omega), by omega, by omega, HB2.out⟩
    · obtain rfl : k = l.length := by omega
      have hlt' : ¬ (l.length : Int) < (l.length : Int) := by omega
      have HE : Hid (l.any p = false) := Lib.hid (by
        rw [List.any_eq_false]
        intro x hx
        obtain ⟨j, hj, rfl⟩ := List.getElem_of_mem hx
        rw [I.out j hj hj]
        exact Bool.false_ne_true)
      go_wp2
      go_ret
      exact ⟨-1, rfl, by rw [HE.out]; rfl, by omega, by omega, HB.out⟩

set_option maxRecDepth 100000 in
set_option maxHeartbeats 4000000 in
theorem contains13 {g : Nat} {cb : Array Value} {p : Int → Bool} {w : World} {G : Nat → Prop} {va : Value} {l : List Int} (h : SlN w G va l) (hG : ∀ b, G b → b < w.heap.size) (hl : l.length ≤ 1000000) (eg : ∀ args w, (callFunc g args).run Try.prog w = .ok (.enter g args) w)
    (hf : ∀ W x, Below w.heap.size w W → Calls Try.prog g (#[.int .i64 x] ++ cb) W fun e w' => e = .returned (.bool (p x)) ∧ Below W.heap.size W w') :
    Calls Try.prog 52 #[va, .func (.func g) #[] cb] w fun e w' => e = .returned (.bool (l.any p)) ∧ Below w.heap.size w w' := by
  have HI := Lib.hid (index13 h hG hl eg hf)
  obtain ⟨A, cap, rfl, hcap⟩ := num_form h
  clear h hf
  go_enter Try.func52, Try.ntmps52
  go_wp2_with (go_at_call 59; refine HI.out.mono ?_; rintro e w1 ⟨z, rfl, hz, hz0, hz1, hb⟩; have HZ := Lib.hid hz; have HB := Lib.hid hb; clear hz hb HI)
  go_ret
  refine ⟨?_, HB.out⟩
  rw [← HZ.out]
  rfl
end Go.Proofs.Ytmlocdfjjgbnjaa
