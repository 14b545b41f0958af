/-
  Who waits for whom in memory as a map of maps: Drop.
-/
import Derived.Test.YthbnbifagenpiaaDpFor
namespace Go.Proofs.Ythbnbifagenpiaa
open Go.RowKit

/-- who goes so far: the first i of those that wait have been asked -/
structure Gr (d : List Dp.Wt) (ts : Int) (i : Nat) (l : List Int) : Prop where
  rises : T.Rises l
  low : ∀ x ∈ l, ts ≤ x
  has : ts ∈ l
  sub : ∀ x ∈ l, x ∈ Dp.dropL d ts
  come : ∀ x ∈ l, x = ts ∨ x ∈ (Dp.all d).take i
  closed : ∀ p ∈ d, p.1 ∈ (Dp.all d).take i → p.2 ∈ l → p.1 ∈ l
  len : l.length ≤ i + 1

section
variable {d : List Dp.Wt} {ts : Int} {i : Nat} {l : List Int}
theorem Gr.start (hts : ¬ ts < 1) : Gr d ts 0 [ts] :=
  ⟨List.pairwise_singleton _ _, fun x hx => by rw [List.mem_singleton] at hx; omega, by simp, fun x hx => by rw [List.mem_singleton] at hx; subst hx; exact Dp.drop_first hts, fun x hx => Or.inl (by simpa using hx), fun p _ h => by simp at h, by simp⟩
theorem all_below {x : Int} (hi : i < (Dp.all d).length) (hx : x ∈ (Dp.all d).take i) : x < (Dp.all d)[i] := by
  obtain ⟨j, hj, rfl⟩ := List.getElem_of_mem hx
  rw [List.getElem_take]
  rw [List.length_take] at hj
  exact List.pairwise_iff_getElem.1 (Dp.all_rises d) j i (by omega) hi (by omega)
theorem mem_next {x : Int} (hi : i < (Dp.all d).length) : x ∈ (Dp.all d).take (i + 1) ↔ x ∈ (Dp.all d).take i ∨ x = (Dp.all d)[i] := by
  rw [List.take_succ_eq_append_getElem hi, List.mem_append, List.mem_singleton]
theorem Gr.push (ok : Dp.Ok d) (hts : ¬ ts < 1) (h : Gr d ts i l) (hi : i < (Dp.all d).length) {n : Int} (hd : ((Dp.all d)[i], n) ∈ d) (hn : n ∈ l) : Gr d ts (i + 1) (l ++ [(Dp.all d)[i]]) := by
  have hno := (ok.low _ hd).2
  have hup := h.low n hn
  have hlt : ∀ x ∈ l, x < (Dp.all d)[i] := fun x hx => by
    rcases h.come x hx with rfl | hx
    · exact Int.lt_of_le_of_lt hup hno
    · exact all_below hi hx
  refine ⟨List.pairwise_append.2 ⟨h.rises, List.pairwise_singleton _ _, fun x hx y hy => by rw [List.mem_singleton] at hy; subst hy; exact hlt x hx⟩, fun x hx => ?_, List.mem_append.2 (Or.inl h.has), fun x hx => ?_, fun x hx => ?_, fun p hp h1 h2 => ?_, by have := h.len; simp; omega⟩
  · rcases List.mem_append.1 hx with hx | hx
    · exact h.low x hx
    · rw [List.mem_singleton] at hx; subst hx
      exact Int.le_of_lt (Int.lt_of_le_of_lt hup hno)
  · rcases List.mem_append.1 hx with hx | hx
    · exact h.sub x hx
    · rw [List.mem_singleton] at hx; subst hx
      exact Dp.drop_closed hts hd (h.sub n hn)
  · rcases List.mem_append.1 hx with hx | hx
    · exact (h.come x hx).imp id (fun q => (mem_next hi).2 (Or.inl q))
    · rw [List.mem_singleton] at hx
      exact Or.inr ((mem_next hi).2 (Or.inr hx))
  · rcases (mem_next hi).1 h1 with h1 | h1
    · rcases List.mem_append.1 h2 with h2 | h2
      · exact List.mem_append.2 (Or.inl (h.closed p hp h1 h2))
      · rw [List.mem_singleton] at h2
        have := all_below hi h1
        have := (ok.low p hp).2
        omega
    · exact List.mem_append.2 (Or.inr (by rw [List.mem_singleton]; exact h1))
theorem Gr.skip (h : Gr d ts i l) (hi : i < (Dp.all d).length) (hno : ¬ ∃ n, ((Dp.all d)[i], n) ∈ d ∧ n ∈ l) : Gr d ts (i + 1) l := by
  refine ⟨h.rises, h.low, h.has, h.sub, fun x hx => (h.come x hx).imp id (fun q => (mem_next hi).2 (Or.inl q)), fun p hp h1 h2 => ?_, by have := h.len; omega⟩
  rcases (mem_next hi).1 h1 with h1 | h1
  · exact h.closed p hp h1 h2
  · exact absurd ⟨p.2, by rw [← h1]; exact hp, h2⟩ hno
theorem Gr.fin (h : Gr d ts (Dp.all d).length l) : l = Dp.dropL d ts := by
  refine h.rises.ext Dp.drop_rises (fun x => ⟨h.sub x, fun hx => ?_⟩)
  refine Dp.drop_only (C := fun x => x ∈ l) (fun p hp h2 => h.closed p hp ?_ h2) h.has x hx
  rw [List.take_length]
  exact Dp.all_mem.2 ⟨p.2, hp⟩
end

/-- the maps behind the first i of those that go -/
structure Hx (w wr : World) (F : Nat → Prop) (g b : Nat) (d : List Dp.Wt) (l : List Int) (i : Nat) : Prop where
  map : ∃ M N, Mi wr b N M ∧ Wm wr (Ins F g b) M (fun k n => (k, n) ∈ d ∧ k ∉ l.take i)
  turn : Turn F w wr
  cell : wr.cell? ⟨g, 0, none⟩ = some (.map (some b))

section
variable {w wr w1 : World} {F : Nat → Prop} {g b : Nat} {d : List Dp.Wt} {l : List Int} {i : Nat} {ts : Int}
theorem Hx.start (h : Hg w F g b d) (hb : Below w.heap.size w wr) : Hx w wr F g b d l 0 := by
  obtain ⟨M, hM, hw⟩ := (h.below hb).map
  exact ⟨⟨M, _, hM, hw.of (fun k n => by simp)⟩, Turn.of_below hb, h.cellAt hb⟩
theorem Hx.next (h0 : Hg w F g b d) (h : Hx w wr F g b d l i) (hi : i < l.length) : ∃ M N, Mi wr b N M ∧ ∀ w2, Mi w2 b N (fun k' => if k' = l[i] then none else M k') → wr.grownBy w2 (some b) → Hx w w2 F g b d l (i + 1) := by
  obtain ⟨M, N, hM, hw⟩ := h.map
  refine ⟨M, N, hM, fun w2 h2 hg => ?_⟩
  have hs := h.turn.size
  have hk : ∀ p, F p → p ≠ b → w2.heap[p]? = wr.heap[p]? := fun p hp hpb => hg.block p (by have := h0.lt p hp; omega) (fun e => hpb (by cases e; rfl))
  refine ⟨⟨_, N, h2, ((hw.del l[i]).keep (fun p hp => hk p hp.1 hp.2.2) (fun _ q => q)).of (fun k n => ?_)⟩, h.turn.grownD hg (Or.inl h0.fb), (World.cell?_of_block (a := ⟨g, 0, none⟩) (hk g h0.fg h0.ne)).trans h.cell⟩
  rw [List.take_succ_eq_append_getElem hi, List.mem_append, List.mem_singleton]
  constructor
  · rintro ⟨h1, h2, h3⟩
    exact ⟨h2, fun q => q.elim h3 h1⟩
  · rintro ⟨h1, h2⟩
    exact ⟨fun q => h2 (Or.inr q), h1, fun q => h2 (Or.inl q)⟩
theorem Hx.fin (h0 : Hg w F g b d) (hts : ¬ ts < 1) (hl : l = Dp.dropL d ts) (h : Hx w wr F g b d l l.length) : Hg wr F g b (Dp.dropD d ts) := by
  obtain ⟨M, N, hM, hw⟩ := h.map
  have e : Dp.dropD d ts = Dp.without d (Dp.dropL d ts) := by unfold Dp.dropD; rw [if_neg hts]
  refine Hg.of (h0.ok.drop ts) (fun p hp => ?_) (fun r hr => Nat.lt_of_lt_of_le (h0.lt r hr) h.turn.size) h0.ne h0.fg h0.fb h.cell hM (hw.of (fun k n => ?_))
  · rw [e] at hp
    exact h0.rng p (Dp.without_mem.1 hp).1
  · rw [e, Dp.without_mem, List.take_length, hl]
    constructor
    · rintro ⟨h1, h2⟩
      exact ⟨h1, h2, fun q => h2 (Dp.drop_closed hts h1 q)⟩
    · rintro ⟨h1, h2, _⟩
      exact ⟨h1, h2⟩
theorem own_grown {base k n : Nat} {e : TypeId} {v : Value} {xs : List Value} (h : w.ownsRow base e k v n xs) (hg : w.grownBy w1 (some b)) (hb : b < base) : w1.ownsRow base e k v n xs := by
  refine ⟨h.1, h.2.imp id (fun q => ?_)⟩
  obtain ⟨q, cap, cur, e, hq, hh, r⟩ := q
  exact ⟨q, cap, cur, e, hq, (hg.block q (Array.getElem?_eq_some_iff.1 hh).1 (fun e => by cases e; omega)).trans hh, r⟩
theorem own_one (w : World) (x : Int) : (w.alloc (.cells #[.int .i64 x] 2)).ownsRow w.heap.size 2 1 (.slice (some ⟨w.heap.size, 0, none⟩) 1 1) 1 (numV [x]) :=
  ⟨by simp [numV], .inr ⟨w.heap.size, 1, #[.int .i64 x], rfl, Nat.le_refl _, heap_alloc_new w _, Nat.le_refl _, by unfold maxLen; omega, by simp, by simp [numV]⟩⟩
end

def Told12 (w : World) (F : Nat → Prop) (v : Value) (Y : List Dp.Wt) (L : List Int) (v' : Value) (w' : World) : Prop :=
  ∃ F' T : Nat → Prop, Hd w' F' v Y ∧ SlN w' T v' L ∧ (∀ b, F' b → More F w w' b) ∧ (∀ b, T b → S.New w w' b ∧ ¬ F' b) ∧ Turn F w w'

set_option maxRecDepth 100000 in
set_option maxHeartbeats 4000000 in
theorem dropI {w : World} {F : Nat → Prop} {v : Value} {d : List Dp.Wt} (h : Hd w F v d) (hl : d.length ≤ 200) (ts : Int) :
    Calls Try.prog 18 #[v, .int .i64 ts] w fun e w' => ∃ v' : Value, e = .returned v' ∧ Told12 w F v (Dp.dropD d ts) (Dp.dropL d ts) v' w' := by
  obtain ⟨g, b, rfl, h⟩ := h
  have HH := Lib.hid h
  by_cases ht : ts < 1
  · have d1 : decide (ts < 1) = true := decide_eq_true ht
    have e1 : Dp.dropD d ts = d := by unfold Dp.dropD; rw [if_pos ht]
    have e2 : Dp.dropL d ts = [] := by unfold Dp.dropL; rw [if_pos ht]
    rw [e1, e2]
    clear h e1 e2
    go_enter Try.func18, Try.ntmps18
    go_wp2
    go_ret
    exact ⟨_, rfl, F, fun _ => False, ⟨g, b, rfl, HH.out⟩, S.Sg.nil .., fun _ => Or.inl, fun _ q => q.elim, Turn.refl _ _⟩
  · have d1 : decide (ts < 1) = false := decide_eq_false ht
    have HTS := Lib.hid ht
    have hA : Below w.heap.size w (w.alloc (.cells #[.int .i64 ts] 2)) := (Below.refl _ _).alloc (Nat.le_refl _) _
    have HA := Lib.hid (all12 ⟨g, b, rfl, h.below hA⟩ hl)
    have HBA := Lib.hid hA
    have HO0 := Lib.hid (own_one w ts)
    have HLA := Lib.hid (Dp.all_len d)
    have HSA : Hid ((w.alloc (.cells #[.int .i64 ts] 2)).heap.size = w.heap.size + 1) := Lib.hid (by simp)
    clear hA ht h
    go_enter Try.func18, Try.ntmps18
    go_wp2_with (go_at_call 14; refine HA.out.mono ?_; rintro e w1 ⟨va, rfl, hr1, hb1⟩; have HR1 := Lib.hid hr1; have HB1 := Lib.hid hb1; obtain ⟨Aa, ca, rfl, _⟩ := num_form hr1; clear hr1 hb1)
    generalize hwA : w.alloc (.cells #[.int .i64 ts] 2) = wA at *
    clear HA hwA
    have HBW := Lib.hid (HBA.out.trans (HB1.out.mono HBA.out.size))
    obtain ⟨n, hn⟩ : ∃ n, n = (Dp.all d).length := ⟨_, rfl⟩
    have hn200 : n ≤ 200 := by have := HLA.out; omega
    have HR1 : Hid (SlN w1 (S.New wA w1) (.slice Aa n ca) (Dp.all d)) := Lib.hid (by rw [hn]; exact HR1.out)
    rw [← hn]
    have HN := Lib.hid hn
    clear hn
    have HTS : Hid (¬ ts < 1) := Lib.hid (by have := HTS.out; omega)
    go_loopw [5, 7, 21] (fun gv _ iv wr => ∃ (i : Nat) (l : List Int), i ≤ n ∧ iv = .int .i64 (i : Int) ∧ Hid (Gr d ts i l) ∧ Hid (wr.ownsRow w.heap.size 2 1 gv l.length (numV l)) ∧ Hid (∀ j, gv.ownBlock = some j → j < wA.heap.size ∨ w1.heap.size ≤ j) ∧ Hid (SlN wr (S.New wA w1) (.slice Aa n ca) (Dp.all d)) ∧ Hid (Below w.heap.size w wr) ∧ Hid (w1.heap.size ≤ wr.heap.size)) (fun _ _ iv _ => n - (intOf iv).toNat)
    case atStart => exact ⟨0, [ts], Nat.zero_le _, rfl, Lib.hid (Gr.start HTS.out), Lib.hid (S.own_below HO0.out HB1.out), Lib.hid (fun j e => Or.inl (by cases e; have := HSA.out; show w.heap.size < _; omega)), HR1, HBW, Lib.hid (Nat.le_refl _)⟩
    case round =>
      clear HR1 HBW HO0
      obtain ⟨i, l, hi, rfl, HGr, HO, HOB, HR, HB, HS⟩ := hrel
      by_cases hlt : i < n
      · have hlt' : (i : Int) < (n : Int) := by omega
        have hi0 : (0 : Int) ≤ (i : Int) := by omega
        have hia : i < (Dp.all d).length := by rw [← HN.out]; exact hlt
        obtain ⟨a, _, ea, _, _, xa⟩ := num_nth HR.out i hia
        obtain rfl : Aa = some a := (Value.slice.inj ea).1
        clear ea
        obtain ⟨n1, hin⟩ := Dp.all_mem.1 (List.getElem_mem hia)
        obtain ⟨q, cap, rfl, hq1, hq2, hqc⟩ := own_at HO.out (List.ne_nil_of_mem HGr.out.has)
        have hlen : l.length ≤ 202 := by have := HGr.out.len; omega
        have HF := Lib.hid (for12 (cap := cap) (HH.out.below HB.out) hin hqc hq2 HGr.out.rises (by omega))
        have HPU : Hid ((∃ n, ((Dp.all d)[i], n) ∈ d ∧ n ∈ l) → Gr d ts (i + 1) (l ++ [(Dp.all d)[i]])) := Lib.hid (fun ⟨n, h1, h2⟩ => HGr.out.push HH.out.ok HTS.out hia h1 h2)
        have HSK : Hid ((¬ ∃ n, ((Dp.all d)[i], n) ∈ d ∧ n ∈ l) → Gr d ts (i + 1) l) := Lib.hid (fun h => HGr.out.skip hia h)
        have HX : Hid (∀ w', Below wr.heap.size wr w' → SlN w' (S.New wA w1) (.slice (some a) n ca) (Dp.all d)) := Lib.hid (fun w' hb => S.Sg.below HR.out hb (fun p hp => Nat.lt_of_lt_of_le hp.2 HS.out))
        have HQ1 := Lib.hid hq1
        have HOQ := Lib.hid (HOB.out q rfl)
        clear hin hq1 hq2 hqc HGr
        generalize (Dp.all d)[i] = o at *
        by_cases hB : ∃ n, (o, n) ∈ d ∧ n ∈ l
        · have HG2 := Lib.hid (HPU.out hB)
          have HF2 : Hid (Calls Try.prog 31 #[.pointer (some ⟨g, 0, none⟩), .int .i64 o, .slice (some ⟨q, 0, none⟩) l.length cap] wr fun e w' => e = .returned (.bool true) ∧ Below wr.heap.size wr w') := Lib.hid (HF.out.mono (fun e w' hh => by
            obtain ⟨B, h1, h2, h3⟩ := hh
            rw [h2.2 hB] at h1
            exact ⟨h1, h3⟩))
          clear hB HF HPU HSK
          go_wp2_with (first
            | (go_at_call 31; refine HF2.out.mono ?_; rintro e w2 ⟨rfl, hb2⟩; have HB2 := Lib.hid (HB.out.trans (hb2.mono HB.out.size)); have HO2 := Lib.hid (S.own_below HO.out hb2); have HR2 := Lib.hid (HX.out w2 hb2); have HS2 := Lib.hid (Nat.le_trans HS.out hb2.size); clear hb2 xa)
            | (at_builtin; refine S.wpList_append_sg elN rfl _ _ rfl (base := w.heap.size) (n := l.length) (m := 1) (xs := numV l) (cs := numV [o]) rfl rfl (HO2.out.alloc _) (S.Sg.one w2 2 (.int .i64 o)) (numV_one _) (by omega) (by omega) (by have := HB2.out.size; simp; omega) ?_
               intro v3 w3 h3 hg3 ho3
               have H3 : Hid (w3.ownsRow w.heap.size 2 1 v3 (l ++ [o]).length (numV (l ++ [o]))) := Lib.hid (own_num h3)
               have HG3 := Lib.hid hg3
               have HO3 := Lib.hid ho3
               clear h3 hg3 ho3))
          have hg2' : Below w2.heap.size w2 (w2.alloc (.cells #[.int .i64 o] 2)) := (Below.refl _ _).alloc (Nat.le_refl _) _
          have HB3 : Hid (Below w.heap.size w w3) := Lib.hid ((HB2.out.trans (hg2'.mono HB2.out.size)).grown HG3.out (by have := HB2.out.size; simp; omega) (fun k e => by cases e; exact HQ1.out))
          have HS3 : Hid (w1.heap.size ≤ w3.heap.size) := Lib.hid (by have := HS2.out; have := HG3.out.size; simp at this; omega)
          have HR3 : Hid (SlN w3 (S.New wA w1) (.slice (some a) n ca) (Dp.all d)) := Lib.hid (S.Sg.keep HR2.out (fun p hp => (World.cell?_of_block (HG3.out.block p.block (by have := hp.2; have := HS2.out; simp; omega) (fun e => by
            have e : p.block = q := Option.some.inj e
            have h1 := hp.1
            have h2 := hp.2
            have := HOQ.out
            omega))).trans (hg2'.cell (by have := hp.2; have := HS2.out; omega))))
          have HOB3 : Hid (∀ j, v3.ownBlock = some j → j < wA.heap.size ∨ w1.heap.size ≤ j) := Lib.hid (fun j e => by
            rcases HO3.out with hq | hq
            · rw [hq] at e
              have e : q = j := Option.some.inj e
              rw [← e]
              exact HOQ.out
            · rw [hq] at e
              have := HS2.out
              have e : (w2.alloc (.cells #[.int .i64 o] 2)).heap.size = j := Option.some.inj e
              simp at e
              omega)
          have HL3 : Hid ((l ++ [o]).length ≤ 203) := Lib.hid (by simp; omega)
          clear hg2' HG3 HO3 HO2 HR2 HS2 HOB
          go_roundw
          case rel => exact ⟨i + 1, l ++ [o], by omega, by go_num, HG2, H3, HOB3, HR3, HB3, HS3⟩
          case measure => simp [intOf]; omega
        · have HG2 := Lib.hid (HSK.out hB)
          have HF2 : Hid (Calls Try.prog 31 #[.pointer (some ⟨g, 0, none⟩), .int .i64 o, .slice (some ⟨q, 0, none⟩) l.length cap] wr fun e w' => e = .returned (.bool false) ∧ Below wr.heap.size wr w') := Lib.hid (HF.out.mono (fun e w' hh => by
            obtain ⟨B, h1, h2, h3⟩ := hh
            cases B with
            | true => exact absurd (h2.1 rfl) hB
            | false => exact ⟨h1, h3⟩))
          clear hB HF HPU HSK
          go_wp2_with (go_at_call 31; refine HF2.out.mono ?_; rintro e w2 ⟨rfl, hb2⟩; have HB2 := Lib.hid (HB.out.trans (hb2.mono HB.out.size)); have HO2 := Lib.hid (S.own_below HO.out hb2); have HR2 := Lib.hid (HX.out w2 hb2); have HS2 := Lib.hid (Nat.le_trans HS.out hb2.size); clear hb2 xa)
          go_roundw
          case rel => exact ⟨i + 1, l, by omega, by go_num, HG2, HO2, HOB, HR2, HB2, HS2⟩
          case measure => simp [intOf]; omega
      · have hie : i = n := by omega
        subst hie
        have hlt' : ¬ (i : Int) < (i : Int) := by omega
        have HE : Hid (l = Dp.dropL d ts) := Lib.hid (by have := HGr.out; rw [HN.out] at this; exact this.fin)
        obtain ⟨q, cap, rfl, hq1, hq2, hqc⟩ := own_at HO.out (List.ne_nil_of_mem HGr.out.has)
        have hlen : l.length ≤ 202 := by have := HGr.out.len; omega
        have HH0 := Lib.hid (Hx.start (l := l) HH.out HB.out)
        clear hq1 hq2 hqc HGr HOB HR HS
        obtain ⟨aq, haq⟩ : ∃ a : Addr, a = ⟨q, 0, none⟩ := ⟨_, rfl⟩
        rw [← haq] at HO ⊢
        clear haq
        go_wp2_with fail
        go_loopw [9, 36] (fun _ iv wq => ∃ m : Nat, m ≤ l.length ∧ iv = .int .i64 (m : Int) ∧ Hid (Hx w wq F g b d l m) ∧ Hid (wq.ownsRow w.heap.size 2 1 (.slice (some aq) l.length cap) l.length (numV l))) (fun _ iv _ => l.length - (intOf iv).toNat)
        case atStart => exact ⟨0, Nat.zero_le _, rfl, HH0, HO⟩
        case round =>
          clear HH0 HO
          obtain ⟨m, hm, rfl, HX, HO⟩ := hrel
          by_cases hmt : m < l.length
          · have hmt' : (m : Int) < (l.length : Int) := by omega
            have hm0 : (0 : Int) ≤ (m : Int) := by omega
            obtain ⟨a, _, ea, _, _, xa⟩ := num_nth (S.Sg.of_own HO.out) m hmt
            obtain rfl : aq = a := by have := (Value.slice.inj ea).1; cases this; rfl
            clear ea
            obtain ⟨M, N, hM, hnext⟩ := HX.out.next HH.out hmt
            have HM := Lib.hid hM
            have HNX := Lib.hid hnext
            have hcell := HX.out.cell
            have HOG : Hid (∀ w2, wr.grownBy w2 (some b) → w2.ownsRow w.heap.size 2 1 (.slice (some aq) l.length cap) l.length (numV l)) := Lib.hid (fun w2 hg => own_grown HO.out hg (HH.out.lt _ HH.out.fb))
            clear hM hnext
            generalize l[m] = o at *
            go_wp2_with (at_delete; refine wpList_del_i rfl _ _ 44 58 rfl Try.underlying44 rfl HM.out o rfl ?_; intro w2 h2 hg2; have H2 := Lib.hid (HNX.out w2 h2 hg2); have HO2 := Lib.hid (HOG.out w2 hg2); clear h2 hg2)
            go_roundw
            case rel => exact ⟨m + 1, by omega, by go_num, H2, HO2⟩
            case measure => simp [intOf]; omega
          · have hme : m = l.length := by omega
            subst hme
            have hmt' : ¬ (l.length : Int) < (l.length : Int) := by omega
            go_wp2_with fail
            go_ret
            have hT : SlN _ (S.New w _) (.slice (some aq) l.length cap) l := S.Sg.of_own HO.out
            rw [← HE.out]
            refine ⟨_, rfl, F, S.New w _, ⟨g, b, rfl, HX.out.fin HH.out (by have := HTS.out; omega) HE.out⟩, hT, fun _ => Or.inl, fun p q => ⟨q, fun f => by have := HH.out.lt p f; have := q.1; omega⟩, HX.out.turn⟩

theorem drop12 {w : World} {F : Nat → Prop} {v : Value} {d : List Dp.Wt} (h : Hd w F v d) (hl : d.length ≤ 200) (ts : Int) :
    Calls Try.prog 18 #[v, .int .i64 ts] w fun e w' => ∃ (v' : Value) (F' T : Nat → Prop), e = .returned v' ∧ Hd w' F' v (Dp.dropD d ts) ∧ SlN w' T v' (Dp.dropL d ts) ∧ (∀ b, F' b → More F w w' b) ∧ (∀ b, T b → S.New w w' b ∧ ¬ F' b) ∧ Turn F w w' :=
  (dropI h hl ts).mono (fun e w' hh => by
    obtain ⟨v', h1, F', T, h2⟩ := hh
    exact ⟨v', F', T, h1, h2⟩)
end Go.Proofs.Ythbnbifagenpiaa
