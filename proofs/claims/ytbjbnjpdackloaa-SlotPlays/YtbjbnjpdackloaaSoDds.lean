/-
  Walks of layer slot's laws: deeds; few deeds.
-/
import Derived.Test.YtbjbnjpdackloaaSoBss
namespace Go.Proofs.Ytbjbnjpdackloaa
open Go.RowKit

/-- a deed -/
structure Dd where
  kind : Int
  gen : Nat
  at_ : Int
  b : List UInt8
  keep : List Bool

structure Dd.Ok (x : Dd) : Prop where
  k0 : -9223372036854775808 ≤ x.kind
  k1 : x.kind ≤ 9223372036854775807
  g : x.gen < 4294967296
  a0 : -9223372036854775808 ≤ x.at_
  a1 : x.at_ ≤ 9223372036854775807
  bl : x.b.length ≤ 9223372036854775807
  kl : x.keep.length ≤ 9223372036854775807

/-- the five cells of a deed -/
def DdV (w : World) (G : Nat → Prop) (c0 c1 c2 c3 c4 : Value) (x : Dd) : Prop := c0 = .int .i64 x.kind ∧ c1 = .int .u32 (x.gen : Int) ∧ c2 = .int .i64 x.at_ ∧ SlB w G c3 x.b ∧ SlT w G c4 x.keep

/-- the slice v holds the deeds l, in blocks of which G holds -/
def Dds (w : World) (G : Nat → Prop) (v : Value) (l : List Dd) : Prop :=
  ∃ A cap, v = .slice A l.length cap ∧ l.length ≤ cap ∧ (∀ x ∈ l, x.Ok) ∧ (l ≠ [] → ∃ a, A = some a ∧ G a.block ∧
    ∀ i (h : i < l.length), ∃ c0 c1 c2 c3 c4, w.cell? (a.add (i * 5)) = some c0 ∧ w.cell? (a.add (i * 5 + 1)) = some c1 ∧ w.cell? (a.add (i * 5 + 2)) = some c2 ∧ w.cell? (a.add (i * 5 + 3)) = some c3 ∧ w.cell? (a.add (i * 5 + 4)) = some c4 ∧ DdV w G c0 c1 c2 c3 c4 l[i])

theorem DdV.keep {w w' : World} {G : Nat → Prop} {c0 c1 c2 c3 c4 : Value} {x : Dd} (h : DdV w G c0 c1 c2 c3 c4 x) (hk : ∀ p : Addr, G p.block → w'.cell? p = w.cell? p) : DdV w' G c0 c1 c2 c3 c4 x :=
  ⟨h.1, h.2.1, h.2.2.1, h.2.2.2.1.keep hk, h.2.2.2.2.keep hk⟩

theorem Dds.keep {w w' : World} {G : Nat → Prop} {v : Value} {l : List Dd} (h : Dds w G v l) (hk : ∀ p : Addr, G p.block → w'.cell? p = w.cell? p) : Dds w' G v l := by
  obtain ⟨A, cap, e, hc, ho, hx⟩ := h
  refine ⟨A, cap, e, hc, ho, fun hn => ?_⟩
  obtain ⟨a, e2, hg, hx⟩ := hx hn
  refine ⟨a, e2, hg, fun i hi => ?_⟩
  obtain ⟨c0, c1, c2, c3, c4, h0, h1, h2, h3, h4, hv⟩ := hx i hi
  have hb : ∀ j, w'.cell? (a.add j) = w.cell? (a.add j) := fun j => hk _ (by rw [S.add_block]; exact hg)
  exact ⟨c0, c1, c2, c3, c4, (hb _).trans h0, (hb _).trans h1, (hb _).trans h2, (hb _).trans h3, (hb _).trans h4, hv.keep hk⟩
theorem Dds.below {w w' : World} {G : Nat → Prop} {B : Nat} {v : Value} {l : List Dd} (h : Dds w G v l) (hb : Below B w w') (hG : ∀ b, G b → b < B) : Dds w' G v l := h.keep fun _ hp => hb.cell (hG _ hp)

/-- one deed's cells, as a walk writes their places -/
theorem Dds.nth {w : World} {G : Nat → Prop} {v : Value} {l : List Dd} (h : Dds w G v l) (i : Nat) (hi : i < l.length) : ∃ a cap vb vk, v = .slice (some a) l.length cap ∧ l.length ≤ cap ∧ G a.block ∧ l[i].Ok ∧
    w.cell? (a.add (i * 5)) = some (.int .i64 l[i].kind) ∧ w.cell? ⟨(a.add (i * 5)).block, (a.add (i * 5)).off + 1, none⟩ = some (.int .u32 (l[i].gen : Int)) ∧ w.cell? ⟨(a.add (i * 5)).block, (a.add (i * 5)).off + 2, none⟩ = some (.int .i64 l[i].at_) ∧ w.cell? ⟨(a.add (i * 5)).block, (a.add (i * 5)).off + 3, none⟩ = some vb ∧ w.cell? ⟨(a.add (i * 5)).block, (a.add (i * 5)).off + 4, none⟩ = some vk ∧ SlB w G vb l[i].b ∧ SlT w G vk l[i].keep := by
  obtain ⟨A, cap, e, hc, ho, hx⟩ := h
  obtain ⟨a, rfl, hG, hx⟩ := hx (fun e => by subst e; simp at hi)
  obtain ⟨c0, c1, c2, c3, c4, h0, h1, h2, h3, h4, e0, e1, e2, hb, hk⟩ := hx i hi
  have q (j : Nat) (u : Value) (h : w.cell? (a.add (i * 5 + (j + 1))) = some u) : w.cell? ⟨(a.add (i * 5)).block, (a.add (i * 5)).off + (j + 1), none⟩ = some u := by
    rw [← ap_add, S.add_add]; exact h
  exact ⟨a, cap, c3, c4, e, hc, hG, ho _ (List.getElem_mem hi), e0 ▸ h0, q 0 _ (e1 ▸ h1), q 1 _ (e2 ▸ h2), q 2 _ h3, q 3 _ h4, hb, hk⟩

def few8 (l : List Dd) : Bool := decide (l.length ≤ 30 ∧ ∀ x ∈ l, x.b.length ≤ 300)
theorem few8_of {l : List Dd} (h : few8 l = true) : l.length ≤ 30 ∧ ∀ x ∈ l, x.b.length ≤ 300 := of_decide_eq_true h
theorem few8_no {l : List Dd} {i : Nat} (h : i < l.length) (hb : 300 < l[i].b.length) : few8 l = false := by
  unfold few8
  rw [decide_eq_false]
  rintro ⟨_, hx⟩
  have := hx l[i] (List.getElem_mem h)
  omega
theorem few8_long {l : List Dd} (h : 30 < l.length) : few8 l = false := by
  unfold few8
  rw [decide_eq_false]
  rintro ⟨hx, _⟩
  omega
theorem few8_yes {l : List Dd} (h : l.length ≤ 30) (hx : ∀ i (h : i < l.length), l[i].b.length ≤ 300) : few8 l = true := by
  unfold few8
  rw [decide_eq_true]
  refine ⟨h, fun x hm => ?_⟩
  obtain ⟨i, hi, rfl⟩ := List.getElem_of_mem hm
  exact hx i hi

set_option maxRecDepth 100000 in
set_option maxHeartbeats 1000000 in
theorem few8_any (v : Value) (l : List Dd) (w : World) (G : Nat → Prop) (h : Dds w G v l) (hl : l.length ≤ 9223372036854775807) :
    Calls Try.prog 11 #[v] w fun e w' => e = .returned (.bool (few8 l)) ∧ w = w' := by
  have HH := Lib.hid h
  obtain ⟨A, cap, rfl, hc, _, _⟩ := h
  go_enter Try.func11, Try.ntmps11
  go_wp2
  go_loop [3] (fun i => ∃ k : Nat, k ≤ l.length ∧ k ≤ 31 ∧ i = .int .i64 k ∧ Hid (∀ j (hj : j < l.length), j < k → l[j].b.length ≤ 300)) (fun i => 31 - (intOf i).toNat)
  case atStart => exact ⟨0, Nat.zero_le _, by omega, rfl, Lib.hid (fun j hj h => by omega)⟩
  case round =>
    obtain ⟨k, hk, hk2, rfl, HN⟩ := hrel
    by_cases hlt : k < l.length
    · by_cases hlt2 : k < 31
      · obtain ⟨a, cap', vb, vk, e, _, _, ho, _, _, _, h1, _, hb, _⟩ := HH.out.nth k hlt
        cases e
        obtain ⟨Ab, capb, rfl, hcb⟩ := Sg_form hb
        have hbl := ho.bl
        clear hb ho
        by_cases hb : 300 < l[k].b.length
        · have HF := Lib.hid (few8_no hlt hb)
          obtain ⟨m, hm⟩ : ∃ m, m = l[k].b.length := ⟨_, rfl⟩
          rw [← hm] at h1 hb hbl hcb
          clear hm
          go_wp2
          go_ret
          exact ⟨ret_v (by rw [HF.out]; rfl), rfl⟩
        · have HN2 : Hid (∀ j (hj : j < l.length), j < k + 1 → l[j].b.length ≤ 300) := Lib.hid (fun j hj hjk => by
            by_cases hjm : j = k
            · subst hjm; omega
            · exact HN.out j hj (by omega))
          obtain ⟨m, hm⟩ : ∃ m, m = l[k].b.length := ⟨_, rfl⟩
          rw [← hm] at h1 hb hbl hcb
          clear hm
          go_wp2
          go_round
          case rel => exact ⟨k + 1, by omega, by omega, by go_num, HN2⟩
          case measure => simp [intOf]; omega
      · have HF := Lib.hid (few8_long (l := l) (by omega))
        go_wp2
        go_ret
        exact ⟨ret_v (by rw [HF.out]; exact v_bool (decide_eq_false (by omega))), rfl⟩
    · by_cases h30 : l.length ≤ 30
      · have HF := Lib.hid (few8_yes h30 (fun i hi => HN.out i hi (by omega)))
        go_wp2
        go_ret
        exact ⟨ret_v (by rw [HF.out]; exact v_bool (decide_eq_true (by omega))), rfl⟩
      · have HF := Lib.hid (few8_long (l := l) (by omega))
        go_wp2
        go_ret
        exact ⟨ret_v (by rw [HF.out]; exact v_bool (decide_eq_false (by omega))), rfl⟩

end Go.Proofs.Ytbjbnjpdackloaa
