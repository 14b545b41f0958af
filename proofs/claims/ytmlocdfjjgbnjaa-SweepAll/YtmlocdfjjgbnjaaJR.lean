/-
  Chains in memory (a slice of versions, four cells each); walks of the document's May, Look, Same.
  Walks of the document's chain: Look, Same, with.
  Walks of the document's chain: with, Read, Write.
-/
import Derived.Test.YtmlocdfjjgbnjaaJA
import Derived.Test.YtmlocdfjjgbnjaaJB
import Derived.Deep.RegionHeld3
import Derived.Deep.QuietTactic
import Derived.OwnWalk
import Derived.BigQuiet
namespace Go.Proofs.Ytmlocdfjjgbnjaa.Cn

theorem may_bad1 {c : Ch} {k : Nat} (hk : k < c.length) (h : c[k].ts < 0 ∨ c[k].rd < c[k].ts) : mayB c = false := by
  refine mayB_false (fun hm => ?_)
  have := hm.ok _ (List.getElem_mem hk)
  omega
theorem may_bad2 {c : Ch} {k : Nat} (hk : k + 1 < c.length) (h : c[k + 1].ts ≤ c[k].ts) : mayB c = false := by
  refine mayB_false (fun hm => ?_)
  have := List.pairwise_iff_getElem.1 hm.up k (k + 1) (by omega) hk (by omega)
  omega
theorem rise_idx {c : Ch} (h : ∀ j (hj : j + 1 < c.length), c[j].ts < c[j + 1].ts) : c.Pairwise (fun a b => a.ts < b.ts) := by
  refine List.pairwise_iff_getElem.2 (fun i j hi hj hij => ?_)
  obtain ⟨d, rfl⟩ : ∃ d, j = i + 1 + d := ⟨j - (i + 1), by omega⟩
  clear hij
  induction d with
  | zero => exact h i hj
  | succ d ih =>
    have h1 := ih (by omega)
    have h2 := h (i + 1 + d) hj
    exact Int.lt_trans h1 h2
theorem may_good {c : Ch} (h1 : ∀ k (hk : k < c.length), 0 ≤ c[k].ts ∧ c[k].ts ≤ c[k].rd) (h2 : ∀ j (hj : j + 1 < c.length), c[j].ts < c[j + 1].ts) (h0 : 0 < c.length) : mayB c = c[0].done := by
  cases c with
  | nil => simp at h0
  | cons v r =>
    show mayB (v :: r) = v.done
    cases hd : v.done with
    | true =>
      refine (mayB_iff _).2 ⟨fun x hx => ?_, rise_idx h2, v, r, rfl, hd⟩
      obtain ⟨i, hi, rfl⟩ := List.getElem_of_mem hx
      exact h1 i hi
    | false =>
      refine mayB_false (fun hm => ?_)
      obtain ⟨f, r', e, hf⟩ := hm.first
      cases e
      rw [hd] at hf
      cases hf
/-- the last place that isn't above, of the first k -/
theorem lo_take {c : Ch} (hm : May c) (ts : Int) {k : Nat} (hk : k < c.length) : lo (c.take (k + 1)) ts = if c[k].ts ≤ ts then k + 1 else lo (c.take k) ts := by
  have e : c.take (k + 1) = c.take k ++ [c[k]] := by rw [List.take_succ_eq_append_getElem hk]
  by_cases h : c[k].ts ≤ ts
  · rw [if_pos h, e]
    have := lo_of (a := c.take k ++ [c[k]]) (b := []) (ts := ts) (fun x hx => ?_) (by simp)
    · rw [List.append_nil] at this
      rw [this]
      simp
      omega
    · rcases List.mem_append.1 hx with g | g
      · obtain ⟨i, hi, rfl⟩ := List.getElem_of_mem g
        have hi' : i < k := by simp at hi; omega
        rw [List.getElem_take]
        have := List.pairwise_iff_getElem.1 hm.up i k (by omega) hk hi'
        omega
      · rw [List.mem_singleton] at g; subst g; exact h
  · rw [if_neg h, e]
    obtain ⟨a, b, e2, ha, hb⟩ := parts (c := c.take k) (hm.up.sublist (List.take_sublist _ _)) ts
    rw [e2, lo_of ha hb, List.append_assoc, lo_of ha (fun x hx => ?_)]
    rcases List.mem_append.1 hx with g | g
    · exact hb x g
    · rw [List.mem_singleton] at g; subst g; omega
/-- what Look tells -/
theorem look_is {c : Ch} (hm : May c) (ts : Int) : look c ts = (lo c ts : Int) - 1 := by
  unfold look at?
  by_cases h : 0 < lo c ts
  · rw [if_pos ⟨(mayB_iff c).2 hm, h⟩]
    dsimp only
    omega
  · rw [if_neg (fun g => h g.2)]
    dsimp only
    omega
theorem look_no {c : Ch} (hm : ¬ May c) (ts : Int) : look c ts = -1 := by
  unfold look
  rw [at_none hm]
end Go.Proofs.Ytmlocdfjjgbnjaa.Cn

namespace Go.Proofs.Ytmlocdfjjgbnjaa
open Go.RowKit

def verC (v : Cn.Vr) : List Value := [.int .i64 v.ts, .int .i64 v.rd, .string v.val, .bool v.done]
def verA (v : Cn.Vr) : Value := .agg #[.int .i64 v.ts, .int .i64 v.rd, .string v.val, .bool v.done]
def verV (c : Cn.Ch) : List Value := c.flatMap verC
theorem verC_one (v : Cn.Vr) : ∀ u ∈ verC v, u.oneCell' = true := by
  intro u hu
  simp only [verC, List.mem_cons, List.not_mem_nil, or_false] at hu
  rcases hu with rfl | rfl | rfl | rfl <;> rfl
theorem verV_one (c : Cn.Ch) : ∀ u ∈ verV c, u.oneCell' = true := V.flat_one c (fun v _ => verC_one v)
theorem verV_length (c : Cn.Ch) : (verV c).length = c.length * 4 := V.flat_len c (fun _ _ => rfl)
theorem verV_append (a b : Cn.Ch) : verV (a ++ b) = verV a ++ verV b := List.flatMap_append ..

/-- the slice v holds the chain c, in blocks of which F holds -/
abbrev SlC (w : World) (F : Nat → Prop) (v : Value) (c : Cn.Ch) : Prop := S.Sg w F 4 v c.length (verV c)

theorem SlC.form {w : World} {F : Nat → Prop} {v : Value} {c : Cn.Ch} (h : SlC w F v c) : ∃ A cap, v = .slice A c.length cap ∧ c.length ≤ cap := by
  obtain ⟨_, A, cap, e, hc, _⟩ := h
  exact ⟨A, cap, e, hc⟩
theorem SlC.nth {w : World} {F : Nat → Prop} {v : Value} {c : Cn.Ch} (h : SlC w F v c) (i : Nat) (hi : i < c.length) : ∃ a cap, v = .slice (some a) c.length cap ∧ c.length ≤ cap ∧ F a.block ∧
    w.cell? (a.add (i * 4)) = some (.int .i64 c[i].ts) ∧ w.cell? ⟨(a.add (i * 4)).block, (a.add (i * 4)).off + 1, none⟩ = some (.int .i64 c[i].rd) ∧ w.cell? ⟨(a.add (i * 4)).block, (a.add (i * 4)).off + 2, none⟩ = some (.string c[i].val) ∧ w.cell? ⟨(a.add (i * 4)).block, (a.add (i * 4)).off + 3, none⟩ = some (.bool c[i].done) := by
  obtain ⟨_, A, cap, e, hc, hx⟩ := h
  obtain ⟨a, rfl, hF, hx⟩ := hx (by intro e; rw [e] at hi; simp at hi)
  have q (j : Nat) (hj : j < 4) : w.cell? (a.add (i * 4 + j)) = (verC c[i])[j]? := by
    have := V.flat_at (f := verC) (m := 4) c (fun _ _ => rfl) i hi j hj
    rw [← this]
    have hl : i * 4 + j < (verV c).length := by rw [verV_length]; omega
    rw [hx (i * 4 + j) _ (List.getElem?_eq_getElem hl)]
    exact (List.getElem?_eq_getElem hl).symm
  have e1 : ∀ (p : Addr) (j : Nat), (⟨p.block, p.off + (j + 1), none⟩ : Addr) = p.add (j + 1) := fun p j => by simp [Addr.add]
  refine ⟨a, cap, e, hc, hF, q 0 (by decide), ?_, ?_, ?_⟩
  · rw [e1 _ 0, S.add_add]; exact q 1 (by decide)
  · rw [e1 _ 1, S.add_add]; exact q 2 (by decide)
  · rw [e1 _ 2, S.add_add]; exact q 3 (by decide)

theorem elVr : S.El Try.prog 22 38 4 40 := by
  obtain ⟨i0, hi, hz0, hz1, hz2⟩ := info_parts (show (Try.prog.info? 38).map (fun i => (i.zero, i.size, i.bytes)) = some (some (.agg #[.int .i64 0, .int .i64 0, .string ⟨#[]⟩, .bool false]), 4, 40) by kernel_rfl)
  exact ⟨Try.underlying22, ⟨i0, _, hi, hz0, hz1, hz2, rfl⟩, by decide⟩

/-- nothing has turned but what was drawn -/
structure Still (w w' : World) : Prop where
  low : Below w.heap.size w w'
  cell : ∀ p : Addr, w'.cell? p = w.cell? p
theorem Still.refl (w : World) : Still w w := ⟨Below.refl _ _, fun _ => rfl⟩
theorem still_b {wr : World} (n : Nat) : Below wr.heap.size wr (wr.drewN n) := ⟨rfl, rfl, rfl, Nat.le_refl _, fun _ _ => rfl⟩
theorem Still.drewN {w w' : World} (h : Still w w') (n : Nat) : Still w (w'.drewN n) := ⟨⟨h.low.os, h.low.tape, h.low.output, h.low.size, h.low.block⟩, fun p => h.cell p⟩

set_option maxRecDepth 100000 in
set_option maxHeartbeats 4000000 in
theorem rmay10_any {w : World} {F : Nat → Prop} {v : Value} {c : Cn.Ch} (h : SlC w F v c) (hl : c.length ≤ 1000000) : Calls Try.prog 18 #[v] w fun e w' => e = .returned (.bool (Cn.mayB c)) ∧ Still w w' := by
  have HS := Lib.hid h
  obtain ⟨A, cap, rfl, hcap⟩ := SlC.form h
  clear h
  go_enter Try.func18, Try.ntmps18
  go_wp2
  go_loopw [3] (fun i wr => ∃ k : Nat, k ≤ c.length ∧ i = .int .i64 (k : Int) ∧ Hid (Still w wr) ∧ Hid ((∀ j (hj : j < c.length), j < k → 0 ≤ c[j].ts ∧ c[j].ts ≤ c[j].rd) ∧ ∀ j (hj : j + 1 < c.length), j + 1 < k → c[j].ts < c[j + 1].ts)) (fun i _ => c.length - (intOf i).toNat)
  case atStart => exact ⟨0, Nat.zero_le _, rfl, Lib.hid (Still.refl _), Lib.hid ⟨fun j _ h => absurd h (Nat.not_lt_zero _), fun j _ h => absurd h (Nat.not_lt_zero _)⟩⟩
  case round =>
    obtain ⟨k, hk, rfl, HW, HI⟩ := hrel
    by_cases hlt : k < c.length
    · have hlt' : (k : Int) < (c.length : Int) := by omega
      have hk0 : (0 : Int) ≤ (k : Int) := by omega
      obtain ⟨a, _, ea, _, _, x0, x1, x2, x3⟩ := HS.out.nth k hlt
      cases ea
      have x0 := (HW.out.cell _).trans x0
      have x1 := (HW.out.cell _).trans x1
      clear x2 x3
      by_cases h1 : c[k].ts < 0
      · have HV := Lib.hid (Cn.may_bad1 hlt (Or.inl h1))
        have d1 : decide (c[k].ts < 0) = true := decide_eq_true h1
        generalize c[k].ts = ts at *
        generalize c[k].rd = rd at *
        go_wp2_with fail
        go_quiet (fail)
        rename_i nq
        go_wp2
        go_ret
        exact ⟨ret_v (by rw [HV.out]; rfl), HW.out.drewN nq⟩
      · have d1 : decide (c[k].ts < 0) = false := decide_eq_false h1
        by_cases h2 : c[k].rd < c[k].ts
        · have HV := Lib.hid (Cn.may_bad1 hlt (Or.inr h2))
          have d2 : decide (c[k].rd < c[k].ts) = true := decide_eq_true h2
          generalize c[k].ts = ts at *
          generalize c[k].rd = rd at *
          go_wp2_with fail
          go_quiet (fail)
          rename_i nq
          go_wp2
          go_ret
          exact ⟨ret_v (by rw [HV.out]; rfl), HW.out.drewN nq⟩
        · have d2 : decide (c[k].rd < c[k].ts) = false := decide_eq_false h2
          have HI1 : Hid (∀ j (hj : j < c.length), j < k + 1 → 0 ≤ c[j].ts ∧ c[j].ts ≤ c[j].rd) := Lib.hid (fun j hj hjk => by
            by_cases e : j = k
            · subst e; omega
            · exact HI.out.1 j hj (by omega))
          by_cases hkz : k = 0
          · subst hkz
            have HN : Hid ((∀ j (hj : j < c.length), j < 1 → 0 ≤ c[j].ts ∧ c[j].ts ≤ c[j].rd) ∧ ∀ j (hj : j + 1 < c.length), j + 1 < 1 → c[j].ts < c[j + 1].ts) := Lib.hid ⟨HI1.out, fun j _ h => absurd h (by omega)⟩
            have x0 : wr.cell? a = some (.int .i64 c[0].ts) := by simpa [Addr.add] using x0
            have x1 : wr.cell? ⟨a.block, a.off + 1, none⟩ = some (.int .i64 c[0].rd) := by simpa [Addr.add] using x1
            clear HI HI1 hk0 h1 h2
            generalize c[0].ts = ts at *
            generalize c[0].rd = rd at *
            go_wp2_with fail
            go_quiet (fail)
            rename_i nq
            go_wp2_with fail
            go_roundw
            case rel => exact ⟨1, by omega, by go_num, Lib.hid (HW.out.drewN nq), HN⟩
            case measure => simp [intOf]; omega
          · obtain ⟨j, rfl⟩ : ∃ j, k = j + 1 := ⟨k - 1, by omega⟩
            obtain ⟨a', _, ea', _, _, y0, _, _, _⟩ := HS.out.nth j (by omega)
            cases ea'
            have y0 := (HW.out.cell _).trans y0
            have i1 : decide (((j + 1 : Nat) : Int) > 0) = true := decide_eq_true (by omega)
            have i3 : IntKind.i64.wrap (j : Int) = (j : Int) := by rw [IntKind.wrap_i64]; omega
            have i4 : (0 : Int) ≤ (j : Int) := by omega
            have i5 : (j : Int) < (c.length : Int) := by omega
            have i6 : (0 : Int) ≤ (j : Int) + 1 := by omega
            have i7 : (j : Int) + 1 < (c.length : Int) := by omega
            by_cases h3 : c[j + 1].ts ≤ c[j].ts
            · have HV := Lib.hid (Cn.may_bad2 hlt h3)
              have d3 : decide (c[j + 1].ts ≤ c[j].ts) = true := decide_eq_true h3
              clear HI HI1 hkz h1 h2 h3
              generalize c[j + 1].ts = ts at *
              generalize c[j + 1].rd = rd at *
              generalize c[j].ts = us at *
              go_wp2_with fail
              go_quiet (fail)
              rename_i nq
              go_wp2
              go_ret
              exact ⟨ret_v (by rw [HV.out]; rfl), HW.out.drewN nq⟩
            · have d3 : decide (c[j + 1].ts ≤ c[j].ts) = false := decide_eq_false h3
              have HN : Hid ((∀ i (hj : i < c.length), i < j + 1 + 1 → 0 ≤ c[i].ts ∧ c[i].ts ≤ c[i].rd) ∧ ∀ i (hj : i + 1 < c.length), i + 1 < j + 1 + 1 → c[i].ts < c[i + 1].ts) := Lib.hid ⟨HI1.out, fun i hi hik => by
                by_cases e : i = j
                · subst e; omega
                · exact HI.out.2 i hi (by omega)⟩
              clear HI HI1 hkz h1 h2 h3
              generalize c[j + 1].ts = ts at *
              generalize c[j + 1].rd = rd at *
              generalize c[j].ts = us at *
              go_wp2_with fail
              go_quiet (fail)
              rename_i nq
              go_wp2_with fail
              go_roundw
              case rel => exact ⟨j + 1 + 1, by omega, by go_num, Lib.hid (HW.out.drewN nq), HN⟩
              case measure => simp [intOf]; omega
    · obtain rfl : k = c.length := by omega
      have hlt' : ¬ (c.length : Int) < (c.length : Int) := by omega
      by_cases h0 : 0 < c.length
      · have h0' : (c.length : Int) > 0 := by omega
        have h0'' : (0 : Int) < (c.length : Int) := by omega
        obtain ⟨a, _, ea, _, _, x0, x1, x2, x3⟩ := HS.out.nth 0 h0
        cases ea
        have x3 := (HW.out.cell _).trans x3
        have x3 : wr.cell? ⟨a.block, a.off + 3, none⟩ = some (.bool c[0].done) := by simpa [Addr.add] using x3
        have HV := Lib.hid (Cn.may_good (fun k hk => HI.out.1 k hk hk) (fun j hj => HI.out.2 j hj hj) h0)
        clear x0 x1 x2 HI
        generalize c[0].done = b at *
        go_wp2
        go_ret
        exact ⟨ret_v (by rw [HV.out]; rfl), HW.out⟩
      · have hz : c = [] := List.length_eq_zero_iff.1 (by omega)
        subst hz
        go_wp2
        go_ret
        exact ⟨rfl, HW.out⟩

end Go.Proofs.Ytmlocdfjjgbnjaa

namespace Go.Proofs.Ytmlocdfjjgbnjaa
open Go.RowKit

theorem Still.trans {w w1 w2 : World} (h : Still w w1) (k : Still w1 w2) : Still w w2 := ⟨h.low.trans (k.low.mono h.low.size), fun p => (k.cell p).trans (h.cell p)⟩

/-- a version written over in a row of one's own -/
theorem sg_set4 {w : World} {F : Nat → Prop} {g n cap : Nat} {xs : List Value} (h : S.Sg w F 4 (.slice (some ⟨g, 0, none⟩) n cap) n xs) {o : Nat} (vs : List Value) (ho : o + vs.length ≤ n * 4) : S.Sg (w.setCells g o vs) F 4 (.slice (some ⟨g, 0, none⟩) n cap) n (splice xs o vs) := by
  obtain ⟨hlen, A, cap', e, hc, hx⟩ := h
  cases e
  refine ⟨by rw [length_splice _ _ _ (by omega)]; exact hlen, _, cap, rfl, hc, fun hn => ?_⟩
  obtain ⟨a, e, hF, hx⟩ := hx hn
  cases e
  refine ⟨_, rfl, hF, fun j u hj => ?_⟩
  have hadd : ∀ j, (⟨g, 0, none⟩ : Addr).add j = ⟨g, j, none⟩ := fun j => by cases j <;> simp [Addr.add]
  rw [hadd]
  have hjl := (List.getElem?_eq_some_iff.1 hj).1
  rw [length_splice _ _ _ (by omega)] at hjl
  have hxs : ∀ i, i < xs.length → w.cell? ⟨g, i, none⟩ = xs[i]? := fun i hi => by
    have := hx i _ (List.getElem?_eq_getElem hi)
    rw [hadd] at this
    rw [this]
    exact (List.getElem?_eq_getElem hi).symm
  unfold splice at hj
  by_cases h1 : j < o
  · rw [World.cell?_setCells_out g vs o w ⟨g, j, none⟩ (fun _ _ => Or.inl h1), hxs j hjl, ← hj, List.getElem?_append_left (by simp; omega), List.getElem?_take_of_lt h1]
  · by_cases h2 : j < o + vs.length
    · have hj2 : j - o < vs.length := by omega
      have h3 := World.cell?_setCells_in g vs o w (fun i hi => by rw [hxs (o + i) (by omega), List.getElem?_eq_getElem (by omega)]; rfl) (j - o) hj2
      rw [show o + (j - o) = j by omega] at h3
      rw [List.getElem?_append_right (by simp; omega), List.getElem?_append_left (by simp; omega)] at hj
      rw [h3, ← hj]
      have e4 : j - (List.take o xs).length = j - o := by simp; omega
      rw [e4]
      exact (List.getElem?_eq_getElem hj2).symm
    · rw [World.cell?_setCells_out g vs o w ⟨g, j, none⟩ (fun _ _ => Or.inr (by show _ ≤ j; omega)), hxs j hjl, ← hj, List.getElem?_append_right (by simp; omega), List.getElem?_append_right (by simp; omega), List.getElem?_drop]
      congr 1
      simp
      omega
theorem SlC.set {w : World} {F : Nat → Prop} {g cap : Nat} {c : Cn.Ch} (h : SlC w F (.slice (some ⟨g, 0, none⟩) c.length cap) c) {k : Nat} (hk : k < c.length) (x : Cn.Vr) : SlC (w.setCells g (k * 4) (verC x)) F (.slice (some ⟨g, 0, none⟩) c.length cap) (c.set k x) := by
  have := sg_set4 h (o := k * 4) (verC x) (by show k * 4 + 4 ≤ _; omega)
  show S.Sg _ F 4 _ (c.set k x).length (verV (c.set k x))
  rw [List.length_set, verV, V.flat_set (f := verC) (m := 4) c (fun _ _ => rfl) k hk x rfl]
  exact this

end Go.Proofs.Ytmlocdfjjgbnjaa

namespace Go.Proofs.Ytmlocdfjjgbnjaa
open Go.RowKit

theorem four_cells {w : World} {g o : Nat} {u1 u2 u3 : Value} (y1 : w.cell? ⟨g, o + 1, none⟩ = some u1) (y2 : w.cell? ⟨g, o + 2, none⟩ = some u2) (y3 : w.cell? ⟨g, o + 3, none⟩ = some u3)
    (z1 : w.frozen? ⟨g, o + 1, none⟩ = false) (z2 : w.frozen? ⟨g, o + 2, none⟩ = false) (z3 : w.frozen? ⟨g, o + 3, none⟩ = false) (a b c : Value) :
    (w.setCell ⟨g, o, none⟩ a).cell? ⟨g, o + 1, none⟩ = some u1 ∧ ((w.setCell ⟨g, o, none⟩ a).setCell ⟨g, o + 1, none⟩ b).cell? ⟨g, o + 2, none⟩ = some u2 ∧ (((w.setCell ⟨g, o, none⟩ a).setCell ⟨g, o + 1, none⟩ b).setCell ⟨g, o + 2, none⟩ c).cell? ⟨g, o + 3, none⟩ = some u3 ∧
    (w.setCell ⟨g, o, none⟩ a).frozen? ⟨g, o + 1, none⟩ = false ∧ ((w.setCell ⟨g, o, none⟩ a).setCell ⟨g, o + 1, none⟩ b).frozen? ⟨g, o + 2, none⟩ = false ∧ (((w.setCell ⟨g, o, none⟩ a).setCell ⟨g, o + 1, none⟩ b).setCell ⟨g, o + 2, none⟩ c).frozen? ⟨g, o + 3, none⟩ = false := by
  have ne : ∀ i j : Nat, i ≠ j → (⟨g, i, none⟩ : Addr) ≠ ⟨g, j, none⟩ := fun i j h e => by cases e; exact h rfl
  refine ⟨?_, ?_, ?_, ?_, ?_, ?_⟩
  · rw [World.cell?_setCell_other _ _ _ _ (ne _ _ (by omega))]; exact y1
  · rw [World.cell?_setCell_other _ _ _ _ (ne _ _ (by omega)), World.cell?_setCell_other _ _ _ _ (ne _ _ (by omega))]; exact y2
  · rw [World.cell?_setCell_other _ _ _ _ (ne _ _ (by omega)), World.cell?_setCell_other _ _ _ _ (ne _ _ (by omega)), World.cell?_setCell_other _ _ _ _ (ne _ _ (by omega))]; exact y3
  · simpa using z1
  · simpa using z2
  · simpa using z3
theorem infoVr : (Try.prog.info? 38).map (·.size) = some 4 := by kernel_rfl

end Go.Proofs.Ytmlocdfjjgbnjaa
