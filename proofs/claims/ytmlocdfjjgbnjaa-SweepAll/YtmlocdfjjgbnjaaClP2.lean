/-
  The landed cells: Read, Write, Set, Keys.
-/
import Derived.Test.YtmlocdfjjgbnjaaClP1
import Derived.StillTailTactics
namespace Go.Proofs.Ytmlocdfjjgbnjaa
open Go.RowKit

theorem Hg.setCell {w : World} {F : Nat → Prop} {g b : Nat} {X : Cl.Cs} (h : Hg w F g b X) {p : Nat} (hp : ¬ F p) (o : Nat) (v : Value) : Hg (w.setCell ⟨p, o, none⟩ v) F g b X :=
  h.keep (fun r hr => Below.heap_setCell w ⟨p, o, none⟩ v r (fun e => hp (by rw [show p = r from e.symm]; exact hr))) (by simp [World.setCell])
/-- behind two blocks of the call's own -/
theorem Hg.behind {w w2 w6 w7 : World} {F : Nat → Prop} {g b : Nat} {X Y : Cl.Cs} (h : Hg w F g b X) (hb : Below w.heap.size w w2) (hs : w2.heap.size ≤ w6.heap.size) (h7 : Hg w7 (More F w2 w6) g b Y) (h67 : w6.heap.size ≤ w7.heap.size) : Hg w7 (More F w w7) g b Y :=
  h7.wider (fun _ q => q.elim Or.inl (fun q => Or.inr ⟨Nat.le_trans hb.size q.1, Nat.lt_of_lt_of_le q.2 h67⟩)) (more_lt h.lt (Nat.le_trans hb.size (Nat.le_trans hs h67)))

set_option maxRecDepth 100000 in
set_option maxHeartbeats 4000000 in
theorem set11 {w : World} {F : Nat → Prop} {v : Value} {X : Cl.Cs} {vc : Value} {c : Cn.Ch} (h : Hc w F v X) (hc : SlC w (Out F w) vc c) (hl : c.length ≤ 200) (k : Cl.Ky) :
    Calls Try.prog 43 #[v, keyA k, vc] w fun e w' => e = .returned (.tuple #[]) ∧ Hc w' (More F w w') v (Cl.setX X k c) ∧ Turn F w w' := by
  obtain ⟨g, b, rfl, h⟩ := h
  have HH := Lib.hid h
  obtain ⟨A, cap, rfl, _⟩ := SlC.form hc
  have HCC := Lib.hid hc
  have hb2 : Below w.heap.size w (w.alloc (.cells #[.int .i64 k.kind, .int .i64 k.a, .int .i64 k.b] 50)) := (Below.refl _ _).alloc (Nat.le_refl _) _
  have HK2 := Lib.hid (Bk.new w [.int .i64 k.kind, .int .i64 k.a, .int .i64 k.b] 50 rfl)
  have HB2 := Lib.hid hb2
  clear hb2
  have HMy : Hid (∀ W, Below w.heap.size w W → Calls Try.prog 23 #[.slice A c.length cap] W fun e w' => e = .returned (.bool (Cn.mayB c)) ∧ Below W.heap.size W w') := Lib.hid (fun W hb => ok10.may (HCC.out.below hb (fun r q => q.1)) (fun r q => Nat.lt_of_lt_of_le q.1 hb.size) (by omega))
  have HC : Hid (∀ W, Below w.heap.size w W → W.cell? ⟨g, 0, none⟩ = some (.map (some b))) := Lib.hid (fun W hb => HH.out.cellAt hb)
  cases hm : Cn.mayB c with
  | true =>
    have HCl : Hid (∀ (W W3 : World), Below w.heap.size w W → Below W.heap.size W W3 → Calls Try.prog 40 #[.slice A c.length cap] W3 fun e w' => ∃ A' n' c', e = .returned (.slice A' n' c') ∧ SlC w' (Chs (More F W w') g b) (.slice A' n' c') c ∧ Below W3.heap.size W3 w') := Lib.hid (fun W W3 hb hb3 =>
      (clone10 (HCC.out.below (below_two hb hb3) (fun r q => q.1)) (fun r q => Nat.lt_of_lt_of_le q.1 (below_two hb hb3).size) (by omega)).mono (fun e w' hh => by
        obtain ⟨v', rfl, h1, h2⟩ := hh
        obtain ⟨A', c', rfl⟩ := own_sliceK h1
        exact ⟨A', _, c', rfl, (S.Sg.of_own h1).wider (fun r q => (HH.out.below hb).new_not hb3.size r q), h2⟩))
    have HLd : Hid (∀ (W W5 : World) (vc : Value), Below w.heap.size w W → Below W.heap.size W W5 → SlC W5 (Chs (More F W W5) g b) vc c →
        ∃ m n, Mk W5 b n m ∧ ∀ w6, Mk w6 b (n + 1) (fun k' => if k' = k then some vc else m k') → W5.grownBy w6 (some b) → Hg w6 (More F W w6) g b (Cl.setX X k c) ∧ Turn F W w6) := Lib.hid (fun W W5 vc hb hb5 hv => (HH.out.below hb).laid hb5 hm hv)
    rw [hm] at HMy
    generalize c.length = n0 at *
    clear hm h hc HCC
    unfold keyA at *
    go_enter Try.func43, Try.ntmps43
    go_wp2_with fail
    generalize (w.alloc (.cells #[.int .i64 k.kind, .int .i64 k.a, .int .i64 k.b] 50)) = w2 at *
    refine (HMy.out _ HB2.out).mono ?_
    rintro e w3 ⟨rfl, hb3⟩
    have HB3 := Lib.hid hb3
    clear hb3
    go_wp2_with fail
    have HK3 := Lib.hid (HK2.out.step HB3.out)
    have HB3d : Hid (Below w2.heap.size w2 w3.drew) := Lib.hid HB3.out.drew
    have HS3 : Hid (w3.drew.cell? ⟨w.heap.size, 0, none⟩ = some (.int .i64 k.kind) ∧ w3.drew.cell? ⟨w.heap.size, 1, none⟩ = some (.int .i64 k.a) ∧ w3.drew.cell? ⟨w.heap.size, 2, none⟩ = some (.int .i64 k.b) ∧ w3.drew.cell? ⟨g, 0, none⟩ = some (.map (some b))) := Lib.hid ⟨HK3.out.drew.cell 0 _ rfl, HK3.out.drew.cell 1 _ rfl, HK3.out.drew.cell 2 _ rfl, HC.out w3 (below_two HB2.out HB3.out)⟩
    have HBk : Hid (w.heap.size ≠ b ∧ g ≠ b) := Lib.hid (by
      have h1 := HH.out.lt _ HH.out.fb
      have h2 := HH.out.ne
      omega)
    go_region_held3 (fun w' => w'.cell? ⟨w.heap.size, 0, none⟩ = some (.int .i64 k.kind) ∧ w'.cell? ⟨w.heap.size, 1, none⟩ = some (.int .i64 k.a) ∧ w'.cell? ⟨w.heap.size, 2, none⟩ = some (.int .i64 k.b) ∧ w'.cell? ⟨g, 0, none⟩ = some (.map (some b)))
      (first | exact HS3.out | exact HS4.out | exact HS6.out | assumption)
      (first
        | (go_at_call 40; refine (HCl.out _ _ HB2.out HB3d.out).mono ?_; rintro e w4 ⟨A4, n4, c4, rfl, h4, hb4⟩
           have HB4 := Lib.hid (below_two HB3d.out hb4)
           have HK4 := Lib.hid (HK3.out.drew.step hb4)
           obtain ⟨m, n, hm, hN⟩ := HLd.out w2 w4 _ HB2.out HB4.out h4
           have HS4 : Hid (w4.cell? ⟨w.heap.size, 0, none⟩ = some (.int .i64 k.kind) ∧ w4.cell? ⟨w.heap.size, 1, none⟩ = some (.int .i64 k.a) ∧ w4.cell? ⟨w.heap.size, 2, none⟩ = some (.int .i64 k.b) ∧ w4.cell? ⟨g, 0, none⟩ = some (.map (some b))) := Lib.hid ⟨HK4.out.cell 0 _ rfl, HK4.out.cell 1 _ rfl, HK4.out.cell 2 _ rfl, HC.out w4 (below_two HB2.out HB4.out)⟩
           obtain ⟨w6, hrun, h6, hg6⟩ := hm.put Try.underlying90 k (.slice A4 n4 c4)
           unfold keyA at hrun
           have H6 := Lib.hid (hN w6 h6 hg6)
           have HS6 : Hid (w6.cell? ⟨w.heap.size, 0, none⟩ = some (.int .i64 k.kind) ∧ w6.cell? ⟨w.heap.size, 1, none⟩ = some (.int .i64 k.a) ∧ w6.cell? ⟨w.heap.size, 2, none⟩ = some (.int .i64 k.b) ∧ w6.cell? ⟨g, 0, none⟩ = some (.map (some b))) := Lib.hid (by
             have HK6 := HK4.out.keep (hg6.block _ HK4.out.lt (fun e => HBk.out.1 (by cases e; rfl))) hg6.size
             have hgl := Nat.lt_of_lt_of_le (HH.out.lt _ HH.out.fg) (below_two HB2.out HB4.out).size
             exact ⟨HK6.cell 0 _ rfl, HK6.cell 1 _ rfl, HK6.cell 2 _ rfl, (World.cell?_of_block (a := ⟨g, 0, none⟩) (hg6.block g hgl (fun e => HBk.out.2 (by cases e; rfl)))).trans HS4.out.2.2.2⟩)
           clear h4 hb4 hm hN h6 hg6))
    all_goals go_end0
    all_goals exact ⟨rfl, ⟨g, b, rfl, HH.out.behind HB2.out H6.out.2.size H6.out.1 (Nat.le_refl _)⟩, Turn.after HB2.out H6.out.2⟩
  | false =>
    have HGn : Hid (∀ (W W5 : World), Below w.heap.size w W → Below W.heap.size W W5 →
        ∃ m n, Mk W5 b n m ∧ ∀ w6, Mk w6 b n (fun k' => if k' = k then none else m k') → W5.grownBy w6 (some b) → Hg w6 (More F W w6) g b (Cl.setX X k c) ∧ Turn F W w6) := Lib.hid (fun W W5 hb hb5 => (HH.out.below hb).gone hb5 hm)
    rw [hm] at HMy
    generalize c.length = n0 at *
    clear hm h hc HCC
    unfold keyA at *
    go_enter Try.func43, Try.ntmps43
    go_wp2_with fail
    generalize (w.alloc (.cells #[.int .i64 k.kind, .int .i64 k.a, .int .i64 k.b] 50)) = w2 at *
    refine (HMy.out _ HB2.out).mono ?_
    rintro e w3 ⟨rfl, hb3⟩
    have HB3 := Lib.hid hb3
    clear hb3
    go_wp2_with fail
    have HK3 := Lib.hid (HK2.out.step HB3.out)
    have x0 := HK3.out.drew.cell 0 _ rfl
    have x1 := HK3.out.drew.cell 1 _ rfl
    have x2 := HK3.out.drew.cell 2 _ rfl
    have xg : w3.drew.cell? ⟨g, 0, none⟩ = some (.map (some b)) := HC.out w3 (below_two HB2.out HB3.out)
    obtain ⟨m, n, hm, hN⟩ := HGn.out w2 w3 HB2.out HB3.out
    have HN := Lib.hid hN
    have HM : Hid (Mk w3.drew b n m) := Lib.hid hm
    clear hN hm HGn
    go_still_tail 5, (by kernel_rfl)
    change wpList _ _ _ _ _ w3.drew
    go_wp2_with (at_delete; refine wpList_del rfl _ _ _ _ rfl Try.underlying90 rfl HM.out k rfl ?_; intro w6 h6 hg6
                 have H6 := Lib.hid (HN.out w6 h6 ⟨hg6.os, hg6.tape, hg6.output, hg6.size, hg6.block⟩)
                 clear h6 hg6 x0 x1 x2 xg)
    refine bodyPost_ret (results_none rfl _ _ _) rfl ?_
    exact ⟨rfl, ⟨g, b, rfl, HH.out.behind HB2.out H6.out.2.size H6.out.1 (Nat.le_refl _)⟩, Turn.after HB2.out H6.out.2⟩

theorem keyC_keyV (X : Cl.Cs) : (X.map Prod.fst).flatMap keyV = X.flatMap keyC := by
  induction X with
  | nil => rfl
  | cons p X ih =>
    rw [List.map_cons, List.flatMap_cons, List.flatMap_cons, ih]
    rfl

set_option maxRecDepth 100000 in
set_option maxHeartbeats 2000000 in
theorem keysG11 {w : World} {F : Nat → Prop} {g b : Nat} {X : Cl.Cs} (h : Hg w F g b X) (hf : Cl.Fit 200 X) :
    Calls Try.prog 27 #[.pointer (some ⟨g, 0, none⟩)] w fun e w' => ∃ A cap, e = .returned (.slice A X.length cap) ∧ S.Sg w' (S.New w w') 3 (.slice A X.length cap) X.length (X.flatMap keyC) ∧ Below w.heap.size w w' := by
  refine (callsIn_wide (n := 6)).1 ?_
  have HH := Lib.hid h
  have hcell := h.cell
  obtain ⟨m, hm, hsay⟩ := h.map
  have HSay := Lib.hid hsay
  have hb1 : Below w.heap.size w (w.alloc (.cells #[.map (some b)] 90)) := (Below.refl _ _).alloc (Nat.le_refl _) _
  have HB1 := Lib.hid hb1
  have hlen : ∀ ks, Ks m ks → ks.length ≤ 1000000 := fun ks hk => by
    have h1 := Cl.nodup_le ks (X.map Prod.fst) hk.nod (fun k q => by
      have := (hk.all k).1 q
      rw [(hsay k).iff, Cl.said_key] at this
      exact this)
    have h2 := hf.len
    rw [List.length_map] at h1
    omega
  have cK : ∀ mb W, CallsIn Fence.wide 5 Try.prog 48 #[.map mb] W fun e w' => e = .returned (.func (.func 56) #[] #[.pointer (some ⟨W.heap.size, 0, none⟩)]) ∧ w' = W.alloc (.cells #[.map mb] 90) := fun mb W => keysF 5 mb W
  have hseq : SeqGives Fence.wide (5 - 1 - 1 - 1) Try.prog 56 #[.pointer (some ⟨w.heap.size, 0, none⟩)] keyA (Ks m) X.length (w.alloc (.cells #[.map (some b)] 90)) :=
    keysGive _ (by omega) w.heap.size b X.length m _ (by simp) (by simp) (hm.below hb1)
  have cS := Lib.hid (sortedK 5 (by omega) 56 #[.pointer (some ⟨w.heap.size, 0, none⟩)] (enters_of Try.func56 (by kernel_rfl) rfl) (Ks m) X.length (by have := hf.len; omega) _ hseq hlen)
  have hfK : Fence.wide.fn 48 := trivial
  have hfS : Fence.wide.fn 47 := trivial
  clear h hm hsay hseq hlen hb1
  refine callsIn_of_wp Try.func27 rfl trivial ?_ rfl
  simp only [Try.ntmps27, List.size_toArray, List.length_cons, List.length_nil, Nat.reduceAdd, Nat.reduceSub, Array.replicate_succ, Array.replicate_zero, List.push_toArray, List.append_toArray, List.nil_append, List.cons_append]
  gi_wp2_with (first
    | (gi_at_call 48; refine (cK _ _).mono ?_; rintro e w' ⟨rfl, rfl⟩)
    | (gi_at_call 47; refine cS.out.mono ?_; rintro e w' ⟨v, ks, rfl, hS, hrow, hb⟩; have HS := Lib.hid hS; have HR := Lib.hid hrow; have HB := Lib.hid hb; obtain ⟨A, c, rfl⟩ := own_sliceK hrow; clear hS hrow hb))
  go_ret
  have e := srt_keys HH.out.ord HSay.out HS.out
  have hr := HR.out
  rw [e, List.length_map, keyC_keyV] at hr
  rw [e, List.length_map]
  exact ⟨A, c, rfl, (S.Sg.of_own hr).wider (fun r q => ⟨Nat.le_trans HB1.out.size q.1, q.2⟩), below_two HB1.out HB.out⟩
end Go.Proofs.Ytmlocdfjjgbnjaa
