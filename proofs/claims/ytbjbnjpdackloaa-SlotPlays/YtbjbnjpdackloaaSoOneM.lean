/-
  Package slot: the loop that reads a slot, in plain mathematics; of two checkpoints the newer.
-/
import Derived.Test.YtbjbnjpdackloaaSoNext
namespace Go.Proofs.Ytbjbnjpdackloaa
open Go.RowKit

theorem parse_of {l : List UInt8} (h : parseE l = 0) : R.parse l = some (parseF l) := by
  unfold parseE at h
  unfold parseF
  cases hp : R.parse l with
  | none => rw [hp] at h; cases h
  | some f => rfl
theorem parse_not {l : List UInt8} (h : parseE l ≠ 0) : R.parse l = none := by
  unfold parseE at h
  cases hp : R.parse l with
  | none => rfl
  | some f => rw [hp] at h; exact absurd rfl h

section
variable {d : D.Dk} {first size which base i e : Nat} {body : List UInt8} {all : Option (Nat × List UInt8)}

theorem ok_good (hi : base + i < d.secs.length) (h : nxOk d base which i e = true) : Q.good d ((base + i : Nat) : Int) (nxE d base i e) i (decide (i = 0)) = some (parseF (d.read (base + i))) ∧ nxE d base i e ≠ 0 ∧ nxE d base i e % 2 = which := by
  obtain ⟨h1, h2, h3, h4, h5⟩ := of_decide_eq_true h
  exact ⟨Q.good_of ⟨by omega, by omega⟩ (by rw [Int.toNat_natCast]; exact parse_of h1) h4 h2 h5, h3⟩
theorem not_good (h : nxOk d base which i e = false) (hb : nxE d base i e ≠ 0 ∧ nxE d base i e % 2 = which) : Q.good d ((base + i : Nat) : Int) (nxE d base i e) i (decide (i = 0)) = none := by
  have h := of_decide_eq_false h
  cases hg : Q.good d ((base + i : Nat) : Int) (nxE d base i e) i (decide (i = 0)) with
  | none => rfl
  | some f =>
    obtain ⟨_, hp, h1, h2, h3⟩ := Q.good_some hg
    rw [Int.toNat_natCast] at hp
    have hE : parseE (d.read (base + i)) = 0 := by unfold parseE; rw [hp]
    have hF : parseF (d.read (base + i)) = f := by unfold parseF; rw [hp]
    rw [hE, hF] at h
    exact absurd ⟨rfl, h2, hb, h1, h3⟩ h

/-- the first frame -/
theorem one_begin (hm : Z.May d first size) (hw : which < 2) (h : nxOk d (Z.at_ first size which) which 0 e = true) : (Z.rest d (Z.at_ first size which) (nxE d (Z.at_ first size which) 0 e) size 0 []).map (fun b => (nxE d (Z.at_ first size which) 0 e, b)) = Z.one d first size which := by
  have hs := hm.slot hw
  have s1 := hm.s1
  obtain ⟨h1, h2, h3, h4, h5⟩ := of_decide_eq_true h
  have hp := parse_of h1
  rw [Nat.add_zero] at hp
  have e1 : nxE d (Z.at_ first size which) 0 e = (parseF (d.read (Z.at_ first size which))).epoch := by unfold nxE; rw [if_pos rfl, Nat.add_zero]
  unfold Z.one
  rw [hp]
  simp only
  rw [e1] at h3 ⊢
  rw [if_neg (by rintro (g | g); exact h3.1 g; exact g h3.2)]
theorem one_none (hm : Z.May d first size) (hw : which < 2) (h : nxOk d (Z.at_ first size which) which 0 e = false) : Z.one d first size which = none := by
  have hs := hm.slot hw
  have s1 := hm.s1
  have e1 : nxE d (Z.at_ first size which) 0 e = (parseF (d.read (Z.at_ first size which))).epoch := by unfold nxE; rw [if_pos rfl, Nat.add_zero]
  unfold Z.one
  cases hp : R.parse (d.read (Z.at_ first size which)) with
  | none => rfl
  | some f =>
    have hF : parseF (d.read (Z.at_ first size which)) = f := by unfold parseF; rw [hp]
    rw [hF] at e1
    simp only
    split
    · rfl
    · rename_i hn
      have hg := not_good h (by rw [e1]; constructor; exact fun g => hn (Or.inl g); exact Decidable.not_not.1 (fun g => hn (Or.inr g)))
      rw [e1] at hg
      rw [Z.rest_none hg]
      rfl

theorem one_last (h : (Z.rest d base e (size - i) i body).map (fun b => (e, b)) = all) (hi : i < size) {f : R.Fr} (hg : Q.good d ((base + i : Nat) : Int) e i (decide (i = 0)) = some f) (hf : f.flag.toNat / 2 % 2 = 1) : all = some (e, body ++ f.body) := by
  rw [← h, show size - i = (size - (i + 1)) + 1 by omega, Z.rest_last hg hf]
  rfl
theorem one_more (h : (Z.rest d base e (size - i) i body).map (fun b => (e, b)) = all) (hi : i < size) {f : R.Fr} (hg : Q.good d ((base + i : Nat) : Int) e i (decide (i = 0)) = some f) (hf : ¬ f.flag.toNat / 2 % 2 = 1) : (Z.rest d base e (size - (i + 1)) (i + 1) (body ++ f.body)).map (fun b => (e, b)) = all := by
  rw [← h, show size - i = (size - (i + 1)) + 1 by omega, Z.rest_more hg hf]
theorem one_out (h : (Z.rest d base e (size - i) i body).map (fun b => (e, b)) = all) (hi : size ≤ i) : all = none := by
  rw [← h, show size - i = 0 by omega]
  rfl
theorem one_stop (h : (Z.rest d base e (size - i) i body).map (fun b => (e, b)) = all) (hg : Q.good d ((base + i : Nat) : Int) e i (decide (i = 0)) = none) : all = none := by
  rw [← h, Z.rest_none hg]
  rfl
end

/-- what is told of a checkpoint, or of none -/
def oG (o : Option (Nat × List UInt8)) : Nat := match o with
  | some x => x.1
  | none => 0
def oB (o : Option (Nat × List UInt8)) : List UInt8 := match o with
  | some x => x.2
  | none => []

/-- the newer one so far, and one more looked at -/
def upd (s o : Option (Nat × List UInt8)) : Option (Nat × List UInt8) := match o with
  | some x => if oG s < x.1 then some x else s
  | none => s

theorem upd_both {a b : Option (Nat × List UInt8)} (ha : ∀ x, a = some x → 1 ≤ x.1 ∧ x.1 % 2 = 0) (hb : ∀ x, b = some x → 1 ≤ x.1 ∧ x.1 % 2 = 1) : upd (upd none a) b = Z.newer a b := by
  cases a with
  | none =>
    cases b with
    | none => rfl
    | some y =>
      have := hb y rfl
      show (if 0 < y.1 then some y else none) = some y
      rw [if_pos (by omega)]
  | some x =>
    have hx := ha x rfl
    have e1 : upd none (some x) = some x := by
      show (if 0 < x.1 then some x else none) = some x
      rw [if_pos (by omega)]
    rw [e1]
    cases b with
    | none => rfl
    | some y =>
      have hy := hb y rfl
      show (if x.1 < y.1 then some y else some x) = (if y.1 < x.1 then some x else some y)
      by_cases h : x.1 < y.1
      · rw [if_pos h, if_neg (by omega)]
      · rw [if_neg h, if_pos (by omega)]

theorem upd_some {o : Option (Nat × List UInt8)} (h : ∀ x, o = some x → 1 ≤ x.1) : (o.isSome = true ↔ oG o ≠ 0) := by
  cases o with
  | none => simp [oG]
  | some x => have := h x rfl; simp [oG]; omega

theorem one_num {d : D.Dk} {first size which : Nat} {x : Nat × List UInt8} (h : Z.one d first size which = some x) : 1 ≤ x.1 ∧ x.1 % 2 = which ∧ x.1 < 4294967296 := by
  unfold Z.one at h
  cases hp : R.parse (d.read (Z.at_ first size which)) with
  | none => rw [hp] at h; cases h
  | some f =>
    rw [hp] at h
    simp only at h
    split at h
    · cases h
    · rename_i hn
      have hnum := ((R.parse_some hp).2).1.e
      cases hr : Z.rest d (Z.at_ first size which) f.epoch size 0 [] with
      | none => rw [hr] at h; cases h
      | some b =>
        rw [hr] at h
        simp only [Option.map_some, Option.some.injEq] at h
        subst h
        exact ⟨Nat.one_le_iff_ne_zero.2 (fun g => hn (Or.inl g)), Decidable.not_not.1 (fun g => hn (Or.inr g)), hnum⟩

/-- whatever ints say the area and the slot -/
def oneI (d : D.Dk) (first size which : Int) : Option (Nat × List UInt8) := if fitsB d.secs.length first size = true ∧ 0 ≤ which ∧ which ≤ 1 then Z.one d first.toNat size.toNat which.toNat else none
def loadI (d : D.Dk) (first size : Int) : Option (Nat × List UInt8) := if fitsB d.secs.length first size = true then Z.load d first.toNat size.toNat else none

theorem may_of {d : D.Dk} {first size : Int} (hd : d.secs.length ≤ 1024) (h : fitsB d.secs.length first size = true) : ∃ f s : Nat, first = (f : Int) ∧ size = (s : Int) ∧ Z.May d f s ∧ f ≤ 1024 := by
  obtain ⟨h1, h2, h3⟩ := of_decide_eq_true h
  obtain ⟨f, rfl⟩ := Int.eq_ofNat_of_zero_le h1
  obtain ⟨s, rfl⟩ := Int.eq_ofNat_of_zero_le (show 0 ≤ size by omega)
  exact ⟨f, s, rfl, rfl, ⟨by omega, by omega, by omega⟩, by omega⟩
theorem fits_may {d : D.Dk} {f s : Nat} (h : Z.May d f s) : fitsB d.secs.length (f : Int) (s : Int) = true := decide_eq_true ⟨by omega, by have := h.s1; omega, by have := h.fits; omega⟩
theorem oneI_num {d : D.Dk} {first size which : Int} {x : Nat × List UInt8} (h : oneI d first size which = some x) : 1 ≤ x.1 ∧ (x.1 : Int) % 2 = which ∧ x.1 < 4294967296 := by
  unfold oneI at h
  split at h
  · rename_i hc
    obtain ⟨a, b, c⟩ := one_num h
    exact ⟨a, by omega, c⟩
  · cases h
theorem load_upd (d : D.Dk) (first size : Int) : upd (upd none (oneI d first size 0)) (oneI d first size 1) = loadI d first size := by
  rw [upd_both (fun x h => by have := oneI_num h; omega) (fun x h => by have := oneI_num h; omega)]
  unfold oneI loadI
  by_cases h : fitsB d.secs.length first size = true
  · rw [if_pos ⟨h, by decide, by decide⟩, if_pos ⟨h, by decide, by decide⟩, if_pos h]
    rfl
  · rw [if_neg (fun g => h g.1), if_neg (fun g => h g.1), if_neg h]
    rfl
theorem oneI_may {d : D.Dk} {f s which : Nat} (h : Z.May d f s) (hw : which < 2) : oneI d (f : Int) (s : Int) (which : Int) = Z.one d f s which := by
  unfold oneI
  rw [if_pos ⟨fits_may h, by omega, by omega⟩, Int.toNat_natCast, Int.toNat_natCast, Int.toNat_natCast]
theorem loadI_may {d : D.Dk} {f s : Nat} (h : Z.May d f s) : loadI d (f : Int) (s : Int) = Z.load d f s := by
  unfold loadI
  rw [if_pos (fits_may h), Int.toNat_natCast, Int.toNat_natCast]

end Go.Proofs.Ytbjbnjpdackloaa
