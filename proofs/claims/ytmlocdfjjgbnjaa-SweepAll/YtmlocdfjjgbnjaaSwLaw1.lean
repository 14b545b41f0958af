/-
  Layer sweep's calls as contracts (SweepOk); walks of its laws' helpers: real, made, awake, pruned.
-/
import Derived.Test.YtmlocdfjjgbnjaaSwRef3
import Derived.Test.YtmlocdfjjgbnjaaJS
import Derived.Test.YtmlocdfjjgbnjaaClLaw1
namespace Go.Proofs.Ytmlocdfjjgbnjaa
open Go.RowKit

/-- numbers of 64 bits -/
structure RngV (v : Cn.Vr) : Prop where
  t0 : -9223372036854775808 ≤ v.ts
  t1 : v.ts ≤ 9223372036854775807
  r0 : -9223372036854775808 ≤ v.rd
  r1 : v.rd ≤ 9223372036854775807
def RngC (c : Cn.Ch) : Prop := ∀ v ∈ c, RngV v
def RngN (l : List Int) : Prop := ∀ a ∈ l, -9223372036854775808 ≤ a ∧ a ≤ 9223372036854775807
theorem RngC.max {c : Cn.Ch} (h : RngC c) : ∀ v ∈ c, v.ts ≤ Sw.maxI := fun v hv => (h v hv).t1
theorem RngC.prune {c : Cn.Ch} (h : RngC c) (act : List Int) : RngC (Sw.pruneC c act) := fun v hv => h v (Sw.prune_sub.subset hv)

/-- the calls of package sweep; H: what the cells' type means in memory -/
structure SweepOk (H : World → (Nat → Prop) → Value → Cl.Cs → Prop) : Prop where
  needed : ∀ {w F G v va} {c : Cn.Ch} {act : List Int}, SlC w F v c → (∀ b, F b → b < w.heap.size) → c.length ≤ 200 → RngC c → SlN w G va act → (∀ b, G b → b < w.heap.size) → act.length ≤ 200 → RngN act →
    Calls Try.prog 12 #[v, va] w fun e w' => ∃ v', e = .returned v' ∧ SlO w' (S.New w w') v' (Sw.needs c act) ∧ Below w.heap.size w w'
  prune : ∀ {w F G v va} {c : Cn.Ch} {act : List Int}, SlC w F v c → (∀ b, F b → b < w.heap.size) → c.length ≤ 200 → RngC c → SlN w G va act → (∀ b, G b → b < w.heap.size) → act.length ≤ 200 → RngN act →
    Calls Try.prog 16 #[v, va] w fun e w' => ∃ v', e = .returned v' ∧ SlC w' (S.New w w') v' (Sw.pruneC c act) ∧ Below w.heap.size w w'
  sweep : ∀ {w F v va} {X : Cl.Cs} {act : List Int}, H w F v X → Cl.Fit 100 X → (∀ p ∈ X, RngC p.2) → SlN w (Out F w) va act → act.length ≤ 200 → RngN act → ∀ (k : Cl.Ky) (batch : Int), -9223372036854775808 ≤ batch → batch ≤ 9223372036854775807 →
    Calls Try.prog 26 #[v, va, keyA k, .int .i64 batch] w fun e w' => e = .returned (.tuple #[keyA (Sw.nextK X k (Sw.many X batch)), .int .i64 (Sw.goneI act ((Sw.rot X k).take (Sw.many X batch)))]) ∧ H w' (More F w w') v (Sw.sweepS X act (Sw.takenK X k (Sw.many X batch))) ∧ Turn F w w'

set_option maxRecDepth 100000 in
set_option maxHeartbeats 4000000 in
theorem real13_any {w : World} {F : Nat → Prop} {v : Value} {c : Cn.Ch} (h : SlC w F v c) (hF : ∀ b, F b → b < w.heap.size) (hl : c.length ≤ 1000000) :
    Calls Try.prog 15 #[v] w fun e w' => ∃ v', e = .returned v' ∧ SlC w' (S.New w w') v' c ∧ Below w.heap.size w w' := by
  have HS := Lib.hid h
  obtain ⟨A, cap, rfl, hcap⟩ := SlC.form h
  clear h
  go_enter Try.func15, Try.ntmps15
  go_wp2
  go_loopw [3, 4] (fun r i wr => ∃ k : Nat, k ≤ c.length ∧ i = .int .i64 (k : Int) ∧ wr.ownsRow w.heap.size 38 4 r k (verV (c.take k)) ∧ Below w.heap.size w wr) (fun _ i _ => c.length - (intOf i).toNat)
  case atStart => exact ⟨0, Nat.zero_le _, rfl, S.own_nil .., Below.refl _ _⟩
  case round =>
    obtain ⟨k, hk, rfl, hown, hbr⟩ := hrel
    have HB := Lib.hid hbr
    have HO := Lib.hid hown
    obtain ⟨Ar, cr, rfl⟩ := own_slice hown
    clear hbr hown
    by_cases hlt : k < c.length
    · have hlt' : (k : Int) < (c.length : Int) := by omega
      have hk0 : (0 : Int) ≤ (k : Int) := by omega
      obtain ⟨a, _, ea, _, _, y0, y1, y2, y3⟩ := SlC.nth (HS.out.below HB.out hF) k hlt
      cases ea
      have HT : Hid (c.take (k + 1) = c.take k ++ [c[k]]) := Lib.hid (List.take_succ_eq_append_getElem hlt)
      generalize c[k] = u at *
      go_wp2_with (at_builtin; refine S.wpList_append_sg elVr rfl _ _ rfl (base := w.heap.size) (n := k) (m := 1) (xs := verV (c.take k)) (cs := verC u) rfl rfl (HO.out.alloc _) (sg_row4 wr 38 #[.int .i64 u.ts, .int .i64 u.rd, .string u.val, .bool u.done] rfl) (verC_one u) (by omega) (by omega) (Nat.le_trans HB.out.size (by simp)) ?_)
      intro v5 w5 hown5 hgrow5 _
      have hb5 := HB.out.trans (((Below.refl wr.heap.size wr).alloc (Nat.le_refl _) (.cells #[.int .i64 u.ts, .int .i64 u.rd, .string u.val, .bool u.done] 38)).mono HB.out.size)
      have hb5 := hb5.trans (S.below_base (HO.out.alloc _) hb5.size hgrow5)
      have HB5 := Lib.hid hb5
      have HO5 : Hid (w5.ownsRow w.heap.size 38 4 v5 (k + 1) (verV (c.take (k + 1)))) := Lib.hid (by
        rw [HT.out, verV_snoc]
        exact hown5)
      clear hown5 hgrow5 hb5
      go_wp2_with fail
      go_roundw
      case rel => exact ⟨k + 1, by omega, by go_num, HO5.out, HB5.out⟩
      case measure => simp [intOf]; omega
    · obtain rfl : k = c.length := by omega
      have hlt' : ¬ (c.length : Int) < (c.length : Int) := by omega
      go_wp2
      go_ret
      refine ⟨_, rfl, ?_, HB.out⟩
      have h9 := S.Sg.of_own HO.out
      rw [List.take_length] at h9
      exact h9.wider (fun b q => q)

set_option maxRecDepth 100000 in
set_option maxHeartbeats 4000000 in
theorem made13_any {w : World} {F : Nat → Prop} {v : Value} {c : Cn.Ch} (h : SlC w F v c) (hF : ∀ b, F b → b < w.heap.size) (hl : c.length ≤ 1000000) :
    Calls Try.prog 10 #[v] w fun e w' => ∃ v', e = .returned v' ∧ SlC w' (S.New w w') v' c ∧ Below w.heap.size w w' := by
  have HS := Lib.hid h
  obtain ⟨A, cap, rfl, hcap⟩ := SlC.form h
  clear h
  go_enter Try.func10, Try.ntmps10
  go_wp2
  go_loopw [3, 4] (fun r i wr => ∃ k : Nat, k ≤ c.length ∧ i = .int .i64 (k : Int) ∧ wr.ownsRow w.heap.size 40 4 r k (verV (c.take k)) ∧ Below w.heap.size w wr) (fun _ i _ => c.length - (intOf i).toNat)
  case atStart => exact ⟨0, Nat.zero_le _, rfl, S.own_nil .., Below.refl _ _⟩
  case round =>
    obtain ⟨k, hk, rfl, hown, hbr⟩ := hrel
    have HB := Lib.hid hbr
    have HO := Lib.hid hown
    obtain ⟨Ar, cr, rfl⟩ := own_slice hown
    clear hbr hown
    by_cases hlt : k < c.length
    · have hlt' : (k : Int) < (c.length : Int) := by omega
      have hk0 : (0 : Int) ≤ (k : Int) := by omega
      obtain ⟨a, _, ea, _, _, y0, y1, y2, y3⟩ := SlC.nth (HS.out.below HB.out hF) k hlt
      cases ea
      have HT : Hid (c.take (k + 1) = c.take k ++ [c[k]]) := Lib.hid (List.take_succ_eq_append_getElem hlt)
      generalize c[k] = u at *
      go_wp2_with (at_builtin; refine S.wpList_append_sg elCv rfl _ _ rfl (base := w.heap.size) (n := k) (m := 1) (xs := verV (c.take k)) (cs := verC u) rfl rfl (HO.out.alloc _) (sg_row4 wr 40 #[.int .i64 u.ts, .int .i64 u.rd, .string u.val, .bool u.done] rfl) (verC_one u) (by omega) (by omega) (Nat.le_trans HB.out.size (by simp)) ?_)
      intro v5 w5 hown5 hgrow5 _
      have hb5 := HB.out.trans (((Below.refl wr.heap.size wr).alloc (Nat.le_refl _) (.cells #[.int .i64 u.ts, .int .i64 u.rd, .string u.val, .bool u.done] 40)).mono HB.out.size)
      have hb5 := hb5.trans (S.below_base (HO.out.alloc _) hb5.size hgrow5)
      have HB5 := Lib.hid hb5
      have HO5 : Hid (w5.ownsRow w.heap.size 40 4 v5 (k + 1) (verV (c.take (k + 1)))) := Lib.hid (by
        rw [HT.out, verV_snoc]
        exact hown5)
      clear hown5 hgrow5 hb5
      go_wp2_with fail
      go_roundw
      case rel => exact ⟨k + 1, by omega, by go_num, HO5.out, HB5.out⟩
      case measure => simp [intOf]; omega
    · obtain rfl : k = c.length := by omega
      have hlt' : ¬ (c.length : Int) < (c.length : Int) := by omega
      go_wp2
      go_ret
      refine ⟨_, rfl, ?_, HB.out⟩
      have h9 := S.Sg.of_own HO.out
      rw [List.take_length] at h9
      exact h9.wider (fun b q => q)



/-! ### the document's example -/
def exS : Cn.Ch := [⟨1, 1, ⟨#[97]⟩, true⟩, ⟨5, 5, ⟨#[98]⟩, true⟩, ⟨9, 9, ⟨#[99]⟩, true⟩, ⟨12, 12, ⟨#[100]⟩, true⟩]
theorem exS_facts : Sw.pruneC exS [10] = [⟨9, 9, ⟨#[99]⟩, true⟩, ⟨12, 12, ⟨#[100]⟩, true⟩] ∧ (Sw.needs exS []).length = 4 := ⟨by kernel_rfl, by kernel_rfl⟩
theorem exS_rng : RngC exS := fun v hv => by
  unfold exS at hv
  simp only [List.mem_cons, List.not_mem_nil, or_false] at hv
  rcases hv with rfl | rfl | rfl | rfl <;> exact ⟨by decide, by decide, by decide, by decide⟩

/-- a row that was just made -/
theorem sg_rows (w : World) (e : TypeId) (X : Array Value) {n k : Nat} (hX : X.size = n * k) : S.Sg (w.alloc (.cells X e)) (fun b => b = w.heap.size) k (.slice (some ⟨w.heap.size, 0, none⟩) n n) n X.toList :=
  ⟨by simp [hX], _, n, rfl, Nat.le_refl _, fun _ => ⟨_, rfl, rfl, fun j x hj => by
    have hadd : (⟨w.heap.size, 0, none⟩ : Addr).add j = ⟨w.heap.size, j, none⟩ := by cases j <;> simp [Addr.add]
    rw [hadd]
    have := (Bk.new w X.toList e rfl).cell j x (by simpa using hj)
    simpa using this⟩⟩

section
variable {H : World → (Nat → Prop) → Value → Cl.Cs → Prop}
set_option maxRecDepth 100000 in
set_option maxHeartbeats 4000000 in
theorem awake13_any (K : SweepOk H) (w : World) : Calls Try.prog 9 #[] w fun e w' => e = .returned (.bool true) ∧ Below w.heap.size w w' := by
  obtain ⟨X, hX⟩ : ∃ X : Array Value, X = #[.int .i64 1, .int .i64 1, .string ⟨#[97]⟩, .bool true, .int .i64 5, .int .i64 5, .string ⟨#[98]⟩, .bool true, .int .i64 9, .int .i64 9, .string ⟨#[99]⟩, .bool true, .int .i64 12, .int .i64 12, .string ⟨#[100]⟩, .bool true] := ⟨_, rfl⟩
  have hc0 : SlC (w.alloc (.cells X 40)) (fun b => b = w.heap.size) (.slice (some ⟨w.heap.size, 0, none⟩) 4 4) exS := by
    have := sg_rows w 40 X (n := 4) (k := 4) (by rw [hX]; rfl)
    rw [show X.toList = verV exS from by rw [hX]; rfl] at this
    exact this
  have hb2 : Below w.heap.size w ((w.alloc (.cells X 40)).alloc (.cells #[.int .i64 10] 2)) := ((Below.refl _ _).alloc (Nat.le_refl _) _).alloc (by simp) _
  have hc1 : SlC ((w.alloc (.cells X 40)).alloc (.cells #[.int .i64 10] 2)) (fun b => b = w.heap.size) (.slice (some ⟨w.heap.size, 0, none⟩) 4 4) exS := S.Sg.below hc0 ((Below.refl _ _).alloc (Nat.le_refl _) _) (fun b q => by subst q; simp)
  have ha1 : SlN ((w.alloc (.cells X 40)).alloc (.cells #[.int .i64 10] 2)) (fun b => b = w.heap.size + 1) (.slice (some ⟨w.heap.size + 1, 0, none⟩) 1 1) [10] := by
    have := sg_rows (w.alloc (.cells X 40)) 2 #[.int .i64 10] (n := 1) (k := 1) rfl
    simp at this
    exact this
  have hsz : ((w.alloc (.cells X 40)).alloc (.cells #[.int .i64 10] 2)).heap.size = w.heap.size + 1 + 1 := by simp
  have HP := Lib.hid (K.prune hc1 (fun b q => by rw [hsz]; omega) (by decide) exS_rng ha1 (fun b q => by rw [hsz]; omega) (by decide) (fun a ha => by rw [List.mem_singleton] at ha; subst ha; exact ⟨by decide, by decide⟩))
  rw [exS_facts.1] at HP
  have HC1 := Lib.hid hc1
  have HB2 := Lib.hid hb2
  have HSZ := Lib.hid hsz
  have HK := Lib.hid K
  clear hc0 ha1 hb2 hc1 hsz
  rw [hX] at HP HC1 HB2 HSZ
  clear hX
  go_enter Try.func9, Try.ntmps9
  go_wp2_with (first
    | (go_at_call 16
       refine HP.out.mono ?_
       rintro e w3 ⟨v3, rfl, h3, hb3⟩
       have HB3 := Lib.hid (HB2.out.trans (hb3.mono HB2.out.size))
       have HN : Hid (Calls Try.prog 12 #[.slice (some ⟨w.heap.size, 0, none⟩) 4 4, .slice none 0 0] w3 fun e w' => ∃ v', e = .returned v' ∧ SlO w' (S.New w3 w') v' (Sw.needs exS []) ∧ Below w3.heap.size w3 w') := Lib.hid (HK.out.needed (S.Sg.below HC1.out hb3 (fun b q => by subst q; rw [HSZ.out]; omega)) (fun b q => by subst q; have := hb3.size; rw [HSZ.out] at this; omega) (by decide) exS_rng (G := fun _ => False) (S.Sg.nil ..) (fun _ q => q.elim) (by decide) (fun a ha => by cases ha))
       obtain ⟨a3, c3, e3, _, _, x0, _, _, _⟩ := SlC.nth h3 0 (by decide)
       obtain ⟨a3', c3', e3', _, _, x1, _, _, _⟩ := SlC.nth h3 1 (by decide)
       subst e3
       obtain rfl : a3 = a3' := Option.some.inj (Value.slice.inj e3').1
       have e0 : a3.add (0 * 4) = a3 := by simp [Addr.add]
       rw [e0] at x0
       simp only [List.getElem_cons_zero, List.getElem_cons_succ, List.length_cons, List.length_nil, Nat.reduceAdd, Nat.reduceMul] at x0 x1 ⊢
       have x1 : w3.cell? ⟨a3.block, a3.off + 4, none⟩ = some (.int .i64 12) := by
         rw [← x1]
         simp [Addr.add]
       clear h3 hb3 HP HB2 HSZ HC1 HK e0 e3')
    | (go_at_call 12; refine HN.out.mono ?_; rintro e w4 ⟨v4, rfl, h4, hb4⟩; obtain ⟨A4, c4, rfl, _⟩ := boo_form h4; rw [exS_facts.2]; have HB4 := Lib.hid (HB3.out.trans (hb4.mono HB3.out.size)); clear h4 hb4 HN))
  go_ret
  exact ⟨rfl, HB4.out⟩

set_option maxRecDepth 100000 in
set_option maxHeartbeats 1000000 in
theorem pruned13_any (K : SweepOk H) (KC : ChainOk) {w : World} {F G : Nat → Prop} {v va : Value} {c : Cn.Ch} {act : List Int} (h : SlC w F v c) (hF : ∀ b, F b → b < w.heap.size) (hl : c.length ≤ 200) (hr : RngC c) (ha : SlN w G va act) (hG : ∀ b, G b → b < w.heap.size) (hla : act.length ≤ 200) (hra : RngN act) :
    Calls Try.prog 19 #[v, va] w fun e w' => ∃ v', e = .returned v' ∧ SlC w' (S.New w w') v' (Sw.prunedC c act) ∧ Below w.heap.size w w' := by
  have HP := Lib.hid (K.prune h hF hl hr ha hG hla hra)
  have HE : Hid (Sw.prunedC c act = if Sw.pruneC c act = [] then Cn.fresh else Sw.pruneC c act) := Lib.hid rfl
  have HKC := Lib.hid KC
  obtain ⟨A, cap, rfl, _⟩ := SlC.form h
  obtain ⟨B, capb, rfl, _⟩ := num_form ha
  clear h ha
  generalize Sw.pruneC c act = y at *
  by_cases hy : y = []
  · have HE2 : Hid (Sw.prunedC c act = Cn.fresh) := Lib.hid (by rw [HE.out, if_pos hy])
    subst hy
    clear HE
    go_enter Try.func19, Try.ntmps19
    go_wp2_with (first
      | (go_at_call 16; refine HP.out.mono ?_; rintro e w3 ⟨v3, rfl, h3, hb3⟩; have HB3 := Lib.hid hb3; obtain ⟨A3, c3, rfl, _⟩ := SlC.form h3; clear h3 hb3 HP)
      | (go_at_call 39; refine (HKC.out.fresh w3).mono ?_; rintro e w4 ⟨v4, rfl, h4, hb4⟩; have HB4 := Lib.hid (HB3.out.trans (hb4.mono HB3.out.size)); have H4 := Lib.hid h4; clear h4 hb4))
    go_ret
    rw [HE2.out]
    exact ⟨_, rfl, H4.out.wider (fun b q => ⟨Nat.le_trans HB3.out.size q.1, q.2⟩), HB4.out⟩
  · have HE2 : Hid (Sw.prunedC c act = y) := Lib.hid (by rw [HE.out, if_neg hy])
    have hl0 : ((y.length : Int) == 0) = false := by
      have : y.length ≠ 0 := fun e => hy (List.length_eq_zero_iff.1 e)
      simpa using this
    clear HE hy
    go_enter Try.func19, Try.ntmps19
    go_wp2_with (go_at_call 16; refine HP.out.mono ?_; rintro e w3 ⟨v3, rfl, h3, hb3⟩; have HB3 := Lib.hid hb3; have H3 := Lib.hid h3; obtain ⟨A3, c3, rfl, _⟩ := SlC.form h3; clear h3 hb3 HP)
    go_ret
    rw [HE2.out]
    exact ⟨_, rfl, H3.out, HB3.out⟩
end
end Go.Proofs.Ytmlocdfjjgbnjaa
