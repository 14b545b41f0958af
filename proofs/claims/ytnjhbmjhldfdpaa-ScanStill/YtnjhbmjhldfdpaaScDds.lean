/-
  Walks of layer scan's laws: deeds; few deeds.
-/
import Derived.Test.YtnjhbmjhldfdpaaScRef
namespace Go.Proofs.Ytnjhbmjhldfdpaa
open Go.RowKit

/-- a deed -/
structure Dd where
  kind : Int
  rc : List UInt8
  n : Nat

structure Dd.Ok (x : Dd) : Prop where
  k0 : -9223372036854775808 ≤ x.kind
  k1 : x.kind ≤ 9223372036854775807
  n : x.n < 256
  bl : x.rc.length ≤ 9223372036854775807

/-- the three cells of a deed -/
def DdV (w : World) (G : Nat → Prop) (c0 c1 c2 : Value) (x : Dd) : Prop := c0 = .int .i64 x.kind ∧ SlB w G c1 x.rc ∧ c2 = .int .u8 (x.n : Int)

/-- the slice v holds the deeds l, in blocks of which G holds -/
def Dds (w : World) (G : Nat → Prop) (v : Value) (l : List Dd) : Prop :=
  ∃ A cap, v = .slice A l.length cap ∧ l.length ≤ cap ∧ (∀ x ∈ l, x.Ok) ∧ (l ≠ [] → ∃ a, A = some a ∧ G a.block ∧
    ∀ i (h : i < l.length), ∃ c0 c1 c2, w.cell? (a.add (i * 3)) = some c0 ∧ w.cell? (a.add (i * 3 + 1)) = some c1 ∧ w.cell? (a.add (i * 3 + 2)) = some c2 ∧ DdV w G c0 c1 c2 l[i])

theorem DdV.keep {w w' : World} {G : Nat → Prop} {c0 c1 c2 : Value} {x : Dd} (h : DdV w G c0 c1 c2 x) (hk : ∀ p : Addr, G p.block → w'.cell? p = w.cell? p) : DdV w' G c0 c1 c2 x :=
  ⟨h.1, h.2.1.keep hk, h.2.2⟩

theorem Dds.keep {w w' : World} {G : Nat → Prop} {v : Value} {l : List Dd} (h : Dds w G v l) (hk : ∀ p : Addr, G p.block → w'.cell? p = w.cell? p) : Dds w' G v l := by
  obtain ⟨A, cap, e, hc, ho, hx⟩ := h
  refine ⟨A, cap, e, hc, ho, fun hn => ?_⟩
  obtain ⟨a, e2, hg, hx⟩ := hx hn
  refine ⟨a, e2, hg, fun i hi => ?_⟩
  obtain ⟨c0, c1, c2, h0, h1, h2, hv⟩ := hx i hi
  have hb : ∀ j, w'.cell? (a.add j) = w.cell? (a.add j) := fun j => hk _ (by rw [S.add_block]; exact hg)
  exact ⟨c0, c1, c2, (hb _).trans h0, (hb _).trans h1, (hb _).trans h2, hv.keep hk⟩
theorem Dds.below {w w' : World} {G : Nat → Prop} {B : Nat} {v : Value} {l : List Dd} (h : Dds w G v l) (hb : Below B w w') (hG : ∀ b, G b → b < B) : Dds w' G v l := h.keep fun _ hp => hb.cell (hG _ hp)

/-- one deed's cells, as a walk writes their places -/
theorem Dds.nth {w : World} {G : Nat → Prop} {v : Value} {l : List Dd} (h : Dds w G v l) (i : Nat) (hi : i < l.length) : ∃ a cap vb, v = .slice (some a) l.length cap ∧ l.length ≤ cap ∧ G a.block ∧ l[i].Ok ∧
    w.cell? (a.add (i * 3)) = some (.int .i64 l[i].kind) ∧ w.cell? ⟨(a.add (i * 3)).block, (a.add (i * 3)).off + 1, none⟩ = some vb ∧ w.cell? ⟨(a.add (i * 3)).block, (a.add (i * 3)).off + 2, none⟩ = some (.int .u8 (l[i].n : Int)) ∧ SlB w G vb l[i].rc := by
  obtain ⟨A, cap, e, hc, ho, hx⟩ := h
  obtain ⟨a, rfl, hG, hx⟩ := hx (fun e => by subst e; simp at hi)
  obtain ⟨c0, c1, c2, h0, h1, h2, e0, hb, e2⟩ := hx i hi
  have q (j : Nat) (u : Value) (h : w.cell? (a.add (i * 3 + (j + 1))) = some u) : w.cell? ⟨(a.add (i * 3)).block, (a.add (i * 3)).off + (j + 1), none⟩ = some u := by
    rw [← ap_add, S.add_add]; exact h
  exact ⟨a, cap, c1, e, hc, hG, ho _ (List.getElem_mem hi), e0 ▸ h0, q 0 _ h1, q 1 _ (e2 ▸ h2), hb⟩

def few6 (l : List Dd) : Bool := decide (l.length ≤ 30 ∧ ∀ x ∈ l, x.rc.length ≤ 400)
theorem few6_of {l : List Dd} (h : few6 l = true) : l.length ≤ 30 ∧ ∀ x ∈ l, x.rc.length ≤ 400 := of_decide_eq_true h
theorem few6_no {l : List Dd} {i : Nat} (h : i < l.length) (hb : 400 < l[i].rc.length) : few6 l = false := by
  unfold few6
  rw [decide_eq_false]
  rintro ⟨_, hx⟩
  have := hx l[i] (List.getElem_mem h)
  omega
theorem few6_long {l : List Dd} (h : 30 < l.length) : few6 l = false := by
  unfold few6
  rw [decide_eq_false]
  rintro ⟨hx, _⟩
  omega
theorem few6_yes {l : List Dd} (h : l.length ≤ 30) (hx : ∀ i (h : i < l.length), l[i].rc.length ≤ 400) : few6 l = true := by
  unfold few6
  rw [decide_eq_true]
  refine ⟨h, fun x hm => ?_⟩
  obtain ⟨i, hi, rfl⟩ := List.getElem_of_mem hm
  exact hx i hi

set_option maxRecDepth 100000 in
set_option maxHeartbeats 1000000 in
theorem few6_any (v : Value) (l : List Dd) (w : World) (G : Nat → Prop) (h : Dds w G v l) (hl : l.length ≤ 9223372036854775807) :
    Calls Try.prog 16 #[v] w fun e w' => e = .returned (.bool (few6 l)) ∧ w = w' := by
  have HH := Lib.hid h
  obtain ⟨A, cap, rfl, hc, _, _⟩ := h
  go_enter Try.func16, Try.ntmps16
  go_wp2
  go_loop [3] (fun i => ∃ k : Nat, k ≤ l.length ∧ k ≤ 31 ∧ i = .int .i64 k ∧ Hid (∀ j (hj : j < l.length), j < k → l[j].rc.length ≤ 400)) (fun i => 31 - (intOf i).toNat)
  case atStart => exact ⟨0, Nat.zero_le _, by omega, rfl, Lib.hid (fun j hj h => by omega)⟩
  case round =>
    obtain ⟨k, hk, hk2, rfl, HN⟩ := hrel
    by_cases hlt : k < l.length
    · by_cases hlt2 : k < 31
      · obtain ⟨a, cap', vb, e, _, _, ho, _, h1, _, hb⟩ := HH.out.nth k hlt
        cases e
        obtain ⟨Ab, capb, rfl, hcb⟩ := Sg_form hb
        have hbl := ho.bl
        clear hb ho
        by_cases hb : 400 < l[k].rc.length
        · have HF := Lib.hid (few6_no hlt hb)
          obtain ⟨m, hm⟩ : ∃ m, m = l[k].rc.length := ⟨_, rfl⟩
          rw [← hm] at h1 hb hbl hcb
          clear hm
          go_wp2
          go_ret
          exact ⟨ret_v (by rw [HF.out]; rfl), rfl⟩
        · have HN2 : Hid (∀ j (hj : j < l.length), j < k + 1 → l[j].rc.length ≤ 400) := Lib.hid (fun j hj hjk => by
            by_cases hjm : j = k
            · subst hjm; omega
            · exact HN.out j hj (by omega))
          obtain ⟨m, hm⟩ : ∃ m, m = l[k].rc.length := ⟨_, rfl⟩
          rw [← hm] at h1 hb hbl hcb
          clear hm
          go_wp2
          go_round
          case rel => exact ⟨k + 1, by omega, by omega, by go_num, HN2⟩
          case measure => simp [intOf]; omega
      · have HF := Lib.hid (few6_long (l := l) (by omega))
        go_wp2
        go_ret
        exact ⟨ret_v (by rw [HF.out]; exact v_bool (decide_eq_false (by omega))), rfl⟩
    · by_cases h30 : l.length ≤ 30
      · have HF := Lib.hid (few6_yes h30 (fun i hi => HN.out i hi (by omega)))
        go_wp2
        go_ret
        exact ⟨ret_v (by rw [HF.out]; exact v_bool (decide_eq_true (by omega))), rfl⟩
      · have HF := Lib.hid (few6_long (l := l) (by omega))
        go_wp2
        go_ret
        exact ⟨ret_v (by rw [HF.out]; exact v_bool (decide_eq_false (by omega))), rfl⟩

end Go.Proofs.Ytnjhbmjhldfdpaa
