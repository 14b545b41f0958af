/-
  The program's frames: the function that cuts a record's bodies, and hands each over.
-/
import Derived.Test.YtfpojbnidoeohaaFpKit
import Derived.Test.YtfpojbnidoeohaaFpRange
import Derived.RangeFuncCalls
import Derived.Shelf.Abstract
import Derived.OwnWalkIn
import Derived.TacticsInMore
import Derived.LoopNIn
import Derived.LoopIn
namespace Go.Proofs.Ytfpojbnidoeohaa
open Go.RowKit Go.Shelf

attribute [local go_sem] Oper.semAt_some

/-- a record's bodies -/
def chunk (l : List UInt8) (i : Nat) : List UInt8 := (l.drop (50 * i)).take 50
def chunks (l : List UInt8) (k : Nat) : List (List UInt8) := (List.range k).map (chunk l)
theorem chunks_succ (l : List UInt8) (k : Nat) : chunks l (k + 1) = chunks l k ++ [chunk l k] := by simp [chunks, List.range_succ]
theorem chunks_len (l : List UInt8) (k : Nat) : (chunks l k).length = k := by simp [chunks]
theorem chunks_part (l : List UInt8) (k m : Nat) (h : k < m) : ∃ rest, chunks l m = chunks l k ++ chunk l k :: rest := by
  refine ⟨((List.range m).drop (k + 1)).map (chunk l), ?_⟩
  have hk : k < (List.range m).length := by simpa using h
  have e : List.range m = List.range k ++ k :: (List.range m).drop (k + 1) := by
    have h1 := (List.take_append_drop k (List.range m)).symm
    rw [List.drop_eq_getElem_cons hk] at h1
    rw [List.take_range, Nat.min_eq_left (by omega)] at h1
    simpa using h1
  unfold chunks
  conv => lhs; rw [e]
  simp

theorem sl_take {w : World} {F : Nat → Prop} {A : Option Addr} {l : List UInt8} {cap : Nat} (h : SlB w F (.slice A l.length cap) l) (m : Nat) (hm : m ≤ l.length) : SlB w F (.slice A m cap) (l.take m) := by
  obtain ⟨_, A', cap', e, hc, hx⟩ := h
  cases e
  refine ⟨by simp [bytesV_length], A, cap, by rw [List.length_take, Nat.min_eq_left hm], by rw [List.length_take]; omega, fun hn => ?_⟩
  rw [List.length_take] at hn
  obtain ⟨a, rfl, hb, hx⟩ := hx (by omega)
  refine ⟨a, rfl, hb, fun j u hj => hx j u ?_⟩
  have hjl := (List.getElem?_eq_some_iff.1 hj).1
  rw [bytesV_length, List.length_take] at hjl
  rw [← hj, bytesV, bytesV, List.map_take, List.getElem?_take, if_pos (by omega)]

theorem sl_drop {w : World} {F : Nat → Prop} {a : Addr} {l : List UInt8} {cap : Nat} (h : SlB w F (.slice (some a) l.length cap) l) (m : Nat) (hm : m ≤ l.length) : SlB w F (.slice (some (a.add m)) (l.length - m) (cap - m)) (l.drop m) := by
  obtain ⟨_, A', cap', e, hc, hx⟩ := h
  cases e
  refine ⟨by simp [bytesV_length], _, _, by rw [List.length_drop], by rw [List.length_drop]; omega, fun hn => ?_⟩
  rw [List.length_drop] at hn
  obtain ⟨a', e, hb, hx⟩ := hx (by omega)
  cases e
  refine ⟨_, rfl, by rw [S.add_block]; exact hb, fun j u hj => ?_⟩
  rw [S.add_add]
  refine hx (m + j) u ?_
  rw [← hj, bytesV, bytesV, List.map_drop, List.getElem?_drop]

/-- what is handed over: bytes in memory of their own -/
def Own (n₀ : Nat) (W : World) (v : Value) (x : List UInt8) : Prop := W.ownsRow n₀ 5 1 v x.length (bytesV x)

theorem own_lower {w : World} {b b' k n : Nat} {e : TypeId} {v : Value} {xs : List Value} (h : w.ownsRow b e k v n xs) (hb : b' ≤ b) : w.ownsRow b' e k v n xs := by
  refine ⟨h.1, ?_⟩
  rcases h.2 with hn | ⟨g, cap, cur, hv, hbs, rest⟩
  · exact .inl hn
  · exact .inr ⟨g, cap, cur, hv, Nat.le_trans hb hbs, rest⟩

set_option maxRecDepth 100000 in
set_option maxHeartbeats 1000000 in
theorem bodies1 (m : Nat) (hm : 1 ≤ m) (l : Nat) (Bn n₀ : Nat) (v : Value) (rec : List UInt8) (F : Nat → Prop) (hF : ∀ b, F b → b < n₀) (hlen : rec.length ≤ 2000) (J : List (List UInt8) → World → Prop)
    (hJ : ∀ pre A B, J pre A → Below A.heap.size A B → J pre B)
    (hY : ∀ pre x u A, J pre A → Own n₀ A u x → (∃ rest, chunks rec (R.many rec.length) = pre ++ x :: rest) → YieldAt Fence.wide (m - 1) Try.prog l #[u] A fun e B => e = .returned (.bool true) ∧ J (pre ++ [x]) B ∧ Below n₀ A B)
    (W : World) (hn₀ : n₀ ≤ W.heap.size) (hBn : W.cell? ⟨Bn, 0, none⟩ = some v) (hv : SlB W F v rec) (h0 : J [] W) :
    CallsIn Fence.wide m Try.prog 58 #[.func (.yield l) #[] #[], .pointer (some ⟨Bn, 0, none⟩)] W fun e W' => (∃ v, e = .returned v) ∧ J (chunks rec (R.many rec.length)) W' := by
  obtain ⟨A0, cap0, rfl, hc0⟩ : ∃ A cap, v = .slice A rec.length cap ∧ rec.length ≤ cap := by obtain ⟨_, A, cap, e, hc, _⟩ := hv; exact ⟨A, cap, e, hc⟩
  have HV := Lib.hid hv
  have HY := Lib.hid hY
  have HJ := Lib.hid hJ
  have H0 := Lib.hid h0
  clear hv hY hJ h0
  refine callsIn_of_wp Try.func58 rfl trivial ?_ rfl
  simp only [Try.ntmps58, List.size_toArray, List.length_cons, List.length_nil, Nat.reduceAdd, Nat.reduceSub, Array.replicate_succ, Array.replicate_zero, List.push_toArray, List.append_toArray, List.nil_append, List.cons_append]
  gi_wp2
  gi_loopw [3] (fun p wr => ∃ (k : Nat) (A : Option Addr) (cap : Nat), p = .slice A (rec.length - 50 * k) cap ∧ rec.length - 50 * k ≤ cap ∧ 50 * k ≤ rec.length ∧ (k ≠ 0 → 50 * k < rec.length) ∧ SlB wr F p (rec.drop (50 * k)) ∧ J (chunks rec k) wr ∧ n₀ ≤ wr.heap.size) (fun p _ => match p with | .slice _ n _ => n | _ => 0)
  case atStart =>
    exact ⟨0, A0, cap0, rfl, hc0, by omega, fun h => absurd rfl h, HV.out, H0.out, hn₀⟩
  case round =>
    obtain ⟨k, A, cap, rfl, hc, hk, hk0, hT, hJk, hsz⟩ := hrel
    obtain ⟨N, hN⟩ : ∃ N, N = rec.length - 50 * k := ⟨_, rfl⟩
    rw [← hN] at hc hT
    rw [← hN]
    have hlT : (rec.drop (50 * k)).length = N := by rw [List.length_drop, hN]
    have HN := Lib.hid hN
    have HJK := Lib.hid hJk
    have HL := Lib.hid hlT
    clear hN hJk
    by_cases hlt : 50 < N
    · have hlt' : (50 : Int) < (N : Int) := by omega
      have h50 : (50 : Int) ≤ (N : Int) := by omega
      have h51 : (50 : Int) ≤ (cap : Int) := by omega
      obtain ⟨a, rfl⟩ : ∃ a, A = some a := by
        obtain ⟨_, A', cap', e, _, hx⟩ := hT
        cases e
        obtain ⟨a, e, _⟩ := hx (by omega)
        exact ⟨a, e⟩
      rw [show Value.slice (some a) N cap = .slice (some a) (rec.drop (50 * k)).length cap by rw [hlT]] at hT
      have HC := Lib.hid (clone_bytes (sl_take hT 50 (by omega)) (fun b hb => Nat.lt_of_lt_of_le (hF b hb) hsz) (by rw [List.length_take]; omega))
      have hD := sl_drop hT 50 (by omega)
      rw [hlT, List.drop_drop, show 50 * k + 50 = 50 * (k + 1) by omega] at hD
      have HD := Lib.hid hD
      have hmany : k < R.many rec.length := by
        have := HN.out
        unfold R.many
        split <;> omega
      clear hT hD hlT
      gi_wp2_with (refine ⟨trivial, ?_⟩; gi_at_call 59; refine (callsIn_wide.2 HC.out).mono ?_; rintro e w1 ⟨v', rfl, hown, hb1⟩; obtain ⟨fn, tmps, assign, body, hy, hR⟩ := HY.out (chunks rec k) (chunk rec k) v' w1 (HJ.out _ _ _ HJK.out hb1) (own_lower hown hsz) (chunks_part rec k _ hmany))
      refine hR.mono ?_
      rintro e W3 ⟨rfl, hJ3, hb3⟩
      have HJ3 := Lib.hid hJ3
      have HD3 := Lib.hid ((HD.out.below (hb1.mono hsz) hF).below hb3 hF)
      have hs3 := Nat.le_trans (Nat.le_trans hsz hb1.size) hb3.size
      clear hy hR hown HC HD hJ3 hb3 hb1
      gi_wp2
      go_roundw
      case rel =>
        have hn := HN.out
        have e1 : rec.length - 50 * (k + 1) = N - 50 := by omega
        have e2 : chunks rec (k + 1) = chunks rec k ++ [chunk rec k] := chunks_succ _ _
        exact ⟨k + 1, _, _, by rw [e1], by omega, by omega, fun _ => by omega, HD3.out, by rw [e2]; exact HJ3.out, hs3⟩
      case measure => simp; omega
    · have hlt' : ¬ (50 : Int) < (N : Int) := by omega
      have hmany : k + 1 = R.many rec.length := by
        have := HN.out
        unfold R.many
        split <;> omega
      have HC := Lib.hid (clone_bytes hT (fun b hb => Nat.lt_of_lt_of_le (hF b hb) hsz) (by omega))
      have hch : chunk rec k = rec.drop (50 * k) := by rw [chunk, List.take_of_length_le (by omega)]
      have HCH := Lib.hid hch
      have HM := Lib.hid hmany
      clear hT hlT hch hmany
      gi_wp2_with (refine ⟨trivial, ?_⟩; gi_at_call 59; refine (callsIn_wide.2 HC.out).mono ?_; rintro e w1 ⟨v', rfl, hown, hb1⟩; obtain ⟨fn, tmps, assign, body, hy, hR⟩ := HY.out (chunks rec k) (chunk rec k) v' w1 (HJ.out _ _ _ HJK.out hb1) (by rw [HCH.out]; exact own_lower hown hsz) (chunks_part rec k _ (by have := HM.out; omega)))
      refine hR.mono ?_
      rintro e W3 ⟨rfl, hJ3, hb3⟩
      have HJ3 := Lib.hid hJ3
      clear hy hR hown HC hJ3 hb3 hb1
      gi_wp2
      go_end0
      refine ⟨⟨_, rfl⟩, ?_⟩
      rw [← HM.out, chunks_succ]
      exact HJ3.out

theorem bodies_in (w : World) (v : Value) (hv : ∃ A n cap, v = .slice A n cap) :
    Calls Try.prog 53 #[v] w fun e w' => e = .returned (.func (.func 58) #[] #[.pointer (some ⟨w.heap.size, 0, none⟩)]) ∧ w' = w.alloc (.cells #[v] 44) := by
  obtain ⟨A, n, cap, rfl⟩ := hv
  go_enter Try.func53, Try.ntmps53
  go_wp2
  go_ret
  exact ⟨rfl, rfl⟩

theorem bodies_feeds (m : Nat) (hm : 1 ≤ m) (Bn n₀ : Nat) (v : Value) (rec : List UInt8) (F : Nat → Prop) (hF : ∀ b, F b → b < n₀) (hlen : rec.length ≤ 2000) (W : World) (hn₀ : n₀ ≤ W.heap.size) (hBn : W.cell? ⟨Bn, 0, none⟩ = some v) (hv : SlB W F v rec) :
    Y.Feeds m Try.prog 58 #[.pointer (some ⟨Bn, 0, none⟩)] (Own n₀) n₀ (chunks rec (R.many rec.length)) W := fun l J hJ hY h0 =>
  bodies1 m hm l Bn n₀ v rec F hF hlen J hJ hY W hn₀ hBn hv h0

end Go.Proofs.Ytfpojbnidoeohaa
