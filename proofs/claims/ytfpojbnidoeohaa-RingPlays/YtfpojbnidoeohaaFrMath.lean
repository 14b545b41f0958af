/-
  The plain mathematics of layer frame: a frame's sector, the frame of a sector, a record's frames. No program stands here.
-/
import Derived.Test.YtfpojbnidoeohaaPackMath
import Derived.Test.YtfpojbnidoeohaaCrcMath
namespace Go.Proofs.Ytfpojbnidoeohaa.R

structure Fr where
  epoch : Nat
  seq : Nat
  flag : UInt8
  body : List UInt8

/-- numbers of 32 bits -/
structure Fr.Num (f : Fr) : Prop where
  e : f.epoch < 4294967296
  s : f.seq < 4294967296

def head (f : Fr) : List UInt8 := M.hiB 4 f.epoch ++ (M.hiB 4 f.seq ++ (f.flag :: UInt8.ofNat f.body.length :: f.body))
def sixty (f : Fr) : List UInt8 := head f ++ List.replicate (50 - f.body.length) 0
def sector (f : Fr) : List UInt8 := sixty f ++ M.hiB 4 (C.sum (sixty f))

theorem head_len (f : Fr) : (head f).length = 10 + f.body.length := by simp [head, M.hiB_len]; omega
theorem sixty_len {f : Fr} (h : f.body.length ≤ 50) : (sixty f).length = 60 := by simp [sixty, head_len]; omega
theorem sector_len {f : Fr} (h : f.body.length ≤ 50) : (sector f).length = 64 := by simp [sector, sixty_len h, M.hiB_len]

/-- the frame whose sector it would be -/
def cand (s : List UInt8) : Fr := ⟨M.num (s.take 4), M.num ((s.drop 4).take 4), s.getD 8 0, (s.drop 10).take (s.getD 9 0).toNat⟩

def parse (s : List UInt8) : Option Fr := if s.length = 64 ∧ (s.getD 9 0).toNat ≤ 50 ∧ sector (cand s) = s then some (cand s) else none

theorem cand_sector {f : Fr} (hn : f.Num) (h : f.body.length ≤ 50) : cand (sector f) = f := by
  obtain ⟨e, s, fl, b⟩ := f
  simp only at h hn
  have h4 := M.hiB_len 4 e
  have h4' := M.hiB_len 4 s
  have he : M.num (M.hiB 4 e) = e := by rw [M.num_hiB, Nat.mod_eq_of_lt hn.e]
  have hs : M.num (M.hiB 4 s) = s := by rw [M.num_hiB, Nat.mod_eq_of_lt hn.s]
  have hl : (UInt8.ofNat b.length).toNat = b.length := by simp; omega
  obtain ⟨E, hE⟩ : ∃ E, E = M.hiB 4 e := ⟨_, rfl⟩
  obtain ⟨S, hS⟩ : ∃ S, S = M.hiB 4 s := ⟨_, rfl⟩
  obtain ⟨L, hL⟩ : ∃ L, L = UInt8.ofNat b.length := ⟨_, rfl⟩
  have e0 : sector ⟨e, s, fl, b⟩ = E ++ (S ++ (fl :: L :: (b ++ (List.replicate (50 - b.length) 0 ++ M.hiB 4 (C.sum (sixty ⟨e, s, fl, b⟩)))))) := by
    rw [hE, hS, hL, sector]
    simp [sixty, head]
  rw [← hE] at h4 he
  rw [← hS] at h4' hs
  rw [← hL] at hl
  generalize List.replicate (50 - b.length) 0 ++ M.hiB 4 (C.sum (sixty ⟨e, s, fl, b⟩)) = T at e0
  rw [e0, cand]
  match E, h4, S, h4' with
  | [a0, a1, a2, a3], _, [b0, b1, b2, b3], _ =>
    simp at he hs ⊢
    exact ⟨he, hs, by rw [hl]; exact List.take_left⟩

theorem parse_sector {f : Fr} (hn : f.Num) (h : f.body.length ≤ 50) : parse (sector f) = some f := by
  have e := cand_sector hn h
  have h9 : ((sector f).getD 9 0).toNat = f.body.length := by
    have := congrArg (fun g : Fr => g.body.length) e
    simp only [cand, List.length_take, List.length_drop, sector_len h] at this
    omega
  rw [parse, e, if_pos ⟨sector_len h, by omega, rfl⟩]

theorem num4_lt (l : List UInt8) : M.num (l.take 4) < 4294967296 := by
  have h1 := M.num_lt (l.take 4)
  have h3 : 256 ^ (l.take 4).length ≤ 256 ^ 4 := Nat.pow_le_pow_right (by decide) (by simp; omega)
  have h4 : 256 ^ 4 = 4294967296 := by decide
  omega

theorem cand_num (s : List UInt8) : (cand s).Num := ⟨num4_lt _, num4_lt _⟩

theorem parse_some {s : List UInt8} {f : Fr} (h : parse s = some f) : sector f = s ∧ f.Num ∧ f.body.length ≤ 50 := by
  unfold parse at h
  split at h
  · rename_i hc
    cases h
    refine ⟨hc.2.2, cand_num s, ?_⟩
    have := hc.2.1
    simp only [cand, List.length_take]
    omega
  · cases h

theorem parse_len {s : List UInt8} (h : s.length ≠ 64) : parse s = none := by rw [parse, if_neg (fun g => h g.1)]

theorem sector_inj {f g : Fr} (hf : f.Num) (hg : g.Num) (h1 : f.body.length ≤ 50) (h2 : g.body.length ≤ 50) (h : sector f = sector g) : f = g := by
  have := cand_sector hf h1
  rw [h, cand_sector hg h2] at this
  exact this.symm

/-- one byte that is another one -/
theorem turned {f : Fr} (h : f.body.length ≤ 50) (k : Nat) (hk : k < 64) (c : UInt8) (hc : (sector f)[k]? ≠ some c) : parse ((sector f).set k c) = none := by
  cases hp : parse ((sector f).set k c) with
  | none => rfl
  | some g =>
    exfalso
    obtain ⟨hs, hn, hb⟩ := parse_some hp
    have l1 := sixty_len h
    have l2 := sixty_len hb
    have m1 := M.hiB_len 4 (C.sum (sixty f))
    have hkl : k < (sector f).length := by rw [sector_len h]; exact hk
    by_cases hk6 : k < 60
    · have e : sector g = (sixty f).set k c ++ M.hiB 4 (C.sum (sixty f)) := by
        rw [hs, sector, List.set_append_left _ _ (by omega)]
      obtain ⟨e1, e2⟩ := List.append_inj (show sixty g ++ M.hiB 4 (C.sum (sixty g)) = _ from e) (by rw [l2]; simp [l1])
      have e3 := M.hiB_inj e2
      rw [Nat.mod_eq_of_lt (by have := C.sum_lt (sixty g); simpa using this), Nat.mod_eq_of_lt (by have := C.sum_lt (sixty f); simpa using this), e1] at e3
      have hkk : k < (sixty f).length := by omega
      have es : sixty f = (sixty f).take k ++ (sixty f)[k] :: (sixty f).drop (k + 1) := by
        rw [← List.drop_eq_getElem_cons hkk, List.take_append_drop]
      have es2 : (sixty f).set k c = (sixty f).take k ++ c :: (sixty f).drop (k + 1) := by rw [List.set_eq_take_append_cons_drop, if_pos hkk]
      rw [es2] at e3
      conv at e3 => rhs; rw [es]
      have := C.told_one _ _ e3
      apply hc
      rw [sector, List.getElem?_append_left hkk, List.getElem?_eq_getElem hkk, this]
    · have e : sector g = sixty f ++ (M.hiB 4 (C.sum (sixty f))).set (k - 60) c := by
        rw [hs, sector, List.set_append_right _ _ (by omega), l1]
      obtain ⟨e1, e2⟩ := List.append_inj (show sixty g ++ M.hiB 4 (C.sum (sixty g)) = _ from e) (by omega)
      rw [e1] at e2
      apply hc
      have hj : k - 60 < (M.hiB 4 (C.sum (sixty f))).length := by omega
      rw [sector, List.getElem?_append_right (by omega), l1]
      conv => lhs; rw [e2]
      rw [List.getElem?_set]
      simp [hj]

theorem zeros_none : parse (List.replicate 64 0) = none := by
  have : (parse (List.replicate 64 0)).isNone = true := by decide +kernel
  simpa using this

/-! ### a record's frames -/
/-- how many frames a record has -/
def many (n : Nat) : Nat := if n ≤ 50 then 1 else (n + 49) / 50

theorem many_pos (n : Nat) : 0 < many n := by unfold many; split <;> omega

def flagOf (i m : Nat) : UInt8 := (if i = 0 then 1 else 0) + (if i + 1 = m then 2 else 0)

def frameOf (epoch seq : Nat) (rec : List UInt8) (i : Nat) : Fr := ⟨epoch, (seq + i) % 4294967296, flagOf i (many rec.length), (rec.drop (50 * i)).take 50⟩

def cut (epoch seq : Nat) (rec : List UInt8) : List Fr := (List.range (many rec.length)).map (frameOf epoch seq rec)

theorem cut_len (e s : Nat) (rec : List UInt8) : (cut e s rec).length = many rec.length := by simp [cut]
theorem cut_at (e s : Nat) (rec : List UInt8) (i : Nat) (h : i < (cut e s rec).length) : (cut e s rec)[i] = frameOf e s rec i := by simp [cut]

theorem cut_body_len {e s : Nat} {rec : List UInt8} {i : Nat} (hi : i < many rec.length) : (frameOf e s rec i).body.length = if i + 1 = many rec.length then rec.length - 50 * i else 50 := by
  simp only [frameOf, List.length_take, List.length_drop]
  unfold many at hi ⊢
  split at hi
  · rename_i h; rw [if_pos h]; split <;> omega
  · rename_i h; rw [if_neg h]; split <;> omega

/-- the bodies, one behind the other -/
theorem cut_whole (e s : Nat) (rec : List UInt8) : ((cut e s rec).map (·.body)).flatten = rec := by
  have : ∀ k, ((List.range k).map (fun i => (rec.drop (50 * i)).take 50)).flatten = rec.take (50 * k) := by
    intro k
    induction k with
    | zero => simp
    | succ k ih =>
      rw [List.range_succ, List.map_append, List.flatten_append, ih]
      simp only [List.map_cons, List.map_nil, List.flatten_cons, List.flatten_nil, List.append_nil]
      rw [show 50 * (k + 1) = 50 * k + 50 by omega, List.take_add]
  rw [cut, List.map_map]
  show ((List.range (many rec.length)).map (fun i => (rec.drop (50 * i)).take 50)).flatten = rec
  rw [this, List.take_of_length_le]
  unfold many
  split <;> omega

end Go.Proofs.Ytfpojbnidoeohaa.R
