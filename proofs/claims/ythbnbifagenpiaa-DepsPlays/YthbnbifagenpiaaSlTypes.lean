/-
  Slices of bytes, of strings, of numbers, of bools: what their cells are.
-/
import Derived.Test.YthbnbifagenpiaaSlKit
namespace Go.Proofs.Ythbnbifagenpiaa
open Go.RowKit

theorem ret_v {a b : Value} (h : a = b) : Ending.returned a = .returned b := by rw [h]
theorem v_bool {a b : Bool} (h : a = b) : Value.bool a = .bool b := by rw [h]
theorem below_two {w0 w1 w2 : World} (h1 : Below w0.heap.size w0 w1) (h2 : Below w1.heap.size w1 w2) : Below w0.heap.size w0 w2 := h1.trans (h2.mono h1.size)
theorem bytes_eta (s : ByteArray) : (⟨s.data.toList.toArray⟩ : ByteArray) = s := by cases s; simp

def bytesV (l : List UInt8) : List Value := l.map fun c => .int .u8 (c.toNat : Int)
def strV (l : List (List UInt8)) : List Value := l.map fun s => .string ⟨s.toArray⟩
def intV (l : List Nat) : List Value := l.map fun (n : Nat) => .int .i64 (n : Int)
def boolV (l : List Bool) : List Value := l.map fun b => .bool b

theorem bytesV_length (l : List UInt8) : (bytesV l).length = l.length := by simp [bytesV]
theorem bytesV_append (a b : List UInt8) : bytesV (a ++ b) = bytesV a ++ bytesV b := by simp [bytesV]
theorem bytesV_one (l : List UInt8) : ∀ u ∈ bytesV l, u.oneCell' = true := by
  intro u hu; simp [bytesV] at hu; obtain ⟨c, _, rfl⟩ := hu; rfl
theorem bytesV_at (l : List UInt8) (j : Nat) (h : j < l.length) : (bytesV l)[j]? = some (.int .u8 (l[j].toNat : Int)) := by simp [bytesV, h]
theorem strV_length (l : List (List UInt8)) : (strV l).length = l.length := by simp [strV]
theorem strV_append (a b : List (List UInt8)) : strV (a ++ b) = strV a ++ strV b := by simp [strV]
theorem strV_one (l : List (List UInt8)) : ∀ u ∈ strV l, u.oneCell' = true := by
  intro u hu; simp [strV] at hu; obtain ⟨c, _, rfl⟩ := hu; rfl
theorem strV_at (l : List (List UInt8)) (j : Nat) (h : j < l.length) : (strV l)[j]? = some (.string ⟨l[j].toArray⟩) := by simp [strV, h]
theorem strV_set (l : List (List UInt8)) (j : Nat) (s : List UInt8) : strV (l.set j s) = (strV l).set j (.string ⟨s.toArray⟩) := by rw [strV, List.map_set]; rfl
theorem intV_length (l : List Nat) : (intV l).length = l.length := by simp [intV]
theorem intV_append (a b : List Nat) : intV (a ++ b) = intV a ++ intV b := by simp [intV]
theorem intV_one (l : List Nat) : ∀ u ∈ intV l, u.oneCell' = true := by
  intro u hu; simp [intV] at hu; obtain ⟨c, _, rfl⟩ := hu; rfl
theorem intV_at (l : List Nat) (j : Nat) (h : j < l.length) : (intV l)[j]? = some (.int .i64 (l[j] : Int)) := by simp [intV, h]
theorem boolV_length (l : List Bool) : (boolV l).length = l.length := by simp [boolV]
theorem boolV_append (a b : List Bool) : boolV (a ++ b) = boolV a ++ boolV b := by simp [boolV]
theorem boolV_one (l : List Bool) : ∀ u ∈ boolV l, u.oneCell' = true := by
  intro u hu; obtain ⟨c, _, rfl⟩ := List.mem_map.1 hu; rfl
theorem boolV_at (l : List Bool) (j : Nat) (h : j < l.length) : (boolV l)[j]? = some (.bool l[j]) := by simp [boolV, h]

/-- the slice v holds the bytes l (the strings, the numbers, the bools l) -/
abbrev SlB (w : World) (F : Nat → Prop) (v : Value) (l : List UInt8) : Prop := S.Sg w F 1 v l.length (bytesV l)
abbrev SlS (w : World) (F : Nat → Prop) (v : Value) (l : List (List UInt8)) : Prop := S.Sg w F 1 v l.length (strV l)
abbrev SlI (w : World) (F : Nat → Prop) (v : Value) (l : List Nat) : Prop := S.Sg w F 1 v l.length (intV l)
abbrev SlT (w : World) (F : Nat → Prop) (v : Value) (l : List Bool) : Prop := S.Sg w F 1 v l.length (boolV l)

theorem info_el {P : Program} {t e : TypeId} {z : Value} {b : Nat} (ht : P.underlying t = some (.slice e)) (h : (P.info? e).map (fun i => (i.zero, i.size, i.bytes)) = some (some z, 1, b)) (hz : z.cells.size = 1) : S.El P t e 1 b := by
  obtain ⟨i0, hi, hz0, hz1, hz2⟩ := info_parts h
  exact ⟨ht, ⟨i0, z, hi, hz0, hz1, hz2, hz⟩, by decide⟩

end Go.Proofs.Ythbnbifagenpiaa
