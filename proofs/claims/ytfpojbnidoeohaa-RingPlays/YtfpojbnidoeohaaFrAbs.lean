/-
  What the laws of layer frame ask of the program's calls: each call's contract. And how the laws turn a frame into the document's.
-/
import Derived.Test.YtfpojbnidoeohaaFrRef3
namespace Go.Proofs.Ytfpojbnidoeohaa
open Go.RowKit

/-- v is the program's frame f, its body in blocks of which F holds -/
def FrV (w : World) (F : Nat → Prop) (v : Value) (f : R.Fr) : Prop :=
  ∃ vb, v = .agg #[.int .u32 (f.epoch : Int), .int .u32 (f.seq : Int), .int .u8 (f.flag.toNat : Int), vb] ∧ SlB w F vb f.body

/-- the slice v holds the program's frames fs, in blocks of which F holds -/
def Frs (w : World) (F : Nat → Prop) (v : Value) (fs : List R.Fr) : Prop :=
  ∃ A cap, v = .slice A fs.length cap ∧ fs.length ≤ cap ∧ (fs ≠ [] → ∃ a, A = some a ∧ F a.block ∧
    ∀ i (h : i < fs.length), ∃ vb, w.cell? (a.add (i * 4 + 0)) = some (.int .u32 (fs[i].epoch : Int)) ∧ w.cell? (a.add (i * 4 + 1)) = some (.int .u32 (fs[i].seq : Int)) ∧ w.cell? (a.add (i * 4 + 2)) = some (.int .u8 (fs[i].flag.toNat : Int)) ∧ w.cell? (a.add (i * 4 + 3)) = some vb ∧ SlB w F vb fs[i].body)

section
variable {w w' : World} {F G : Nat → Prop} {B : Nat} {v : Value} {f : R.Fr} {fs : List R.Fr}

theorem FrV.keep (h : FrV w F v f) (hk : ∀ p : Addr, F p.block → w'.cell? p = w.cell? p) : FrV w' F v f := by
  obtain ⟨vb, e, hb⟩ := h
  exact ⟨vb, e, hb.keep hk⟩
theorem FrV.below (h : FrV w F v f) (hb : Below B w w') (hF : ∀ b, F b → b < B) : FrV w' F v f := h.keep fun _ hp => hb.cell (hF _ hp)
theorem FrV.wider (h : FrV w F v f) (hF : ∀ b, F b → G b) : FrV w G v f := by
  obtain ⟨vb, e, hb⟩ := h
  exact ⟨vb, e, hb.wider hF⟩
theorem Frs.keep (h : Frs w F v fs) (hk : ∀ p : Addr, F p.block → w'.cell? p = w.cell? p) : Frs w' F v fs := by
  obtain ⟨A, cap, e, hc, hx⟩ := h
  refine ⟨A, cap, e, hc, fun hn => ?_⟩
  obtain ⟨a, e2, hg, hx⟩ := hx hn
  refine ⟨a, e2, hg, fun i hi => ?_⟩
  obtain ⟨vb, h0, h1, h2, h3, hv⟩ := hx i hi
  have hb : ∀ j, w'.cell? (a.add j) = w.cell? (a.add j) := fun j => hk _ (by rw [S.add_block]; exact hg)
  exact ⟨vb, (hb _).trans h0, (hb _).trans h1, (hb _).trans h2, (hb _).trans h3, hv.keep hk⟩
theorem Frs.below (h : Frs w F v fs) (hb : Below B w w') (hF : ∀ b, F b → b < B) : Frs w' F v fs := h.keep fun _ hp => hb.cell (hF _ hp)
theorem Frs.wider (h : Frs w F v fs) (hF : ∀ b, F b → G b) : Frs w G v fs := by
  obtain ⟨A, cap, e, hc, hx⟩ := h
  refine ⟨A, cap, e, hc, fun hn => ?_⟩
  obtain ⟨a, e2, hg, hx⟩ := hx hn
  refine ⟨a, e2, hF _ hg, fun i hi => ?_⟩
  obtain ⟨vb, h0, h1, h2, h3, hv⟩ := hx i hi
  exact ⟨vb, h0, h1, h2, h3, hv.wider hF⟩
end

/-- what is told of a frame: the error, and the sector -/
def packE (f : R.Fr) : Int := if f.body.length ≤ 50 then 0 else 3
def packB (f : R.Fr) : List UInt8 := if f.body.length ≤ 50 then R.sector f else []
/-- what is told of bytes: the error, and the frame -/
def parseE (l : List UInt8) : Int := match R.parse l with
  | some _ => 0
  | none => 2
def parseF (l : List UInt8) : R.Fr := match R.parse l with
  | some f => f
  | none => fr0

theorem pkV_eq (f : R.Fr) : pkV f = .tuple #[.string ⟨(packB f).toArray⟩, .int .i64 (packE f)] := by
  unfold pkV packB packE
  split <;> rfl
theorem psV_eq (l : List UInt8) : psV l = .tuple #[frA (parseF l), .int .i64 (parseE l)] := by
  unfold psV parseF parseE
  cases R.parse l <;> rfl
theorem packB_len (f : R.Fr) : (packB f).length ≤ 64 := by
  unfold packB
  split
  · rename_i h; rw [R.sector_len h]; omega
  · simp
theorem parseF_ok (l : List UInt8) : (parseF l).Num ∧ (parseF l).body.length ≤ 50 := by
  unfold parseF
  cases h : R.parse l with
  | none => exact ⟨⟨by decide, by decide⟩, by decide⟩
  | some f => exact (R.parse_some h).2

/-- the program's calls do what the document says -/
structure FrameOk : Prop where
  pack : ∀ {w : World} {F : Nat → Prop} {v : Value} {f : R.Fr}, FrV w F v f → (∀ b, F b → b < w.heap.size) → f.Num → f.body.length ≤ 1000 →
    Calls Try.prog 40 #[v] w fun r w' => ∃ vb, r = .returned (.tuple #[vb, .int .i64 (packE f)]) ∧ SlB w' (S.New w w') vb (packB f) ∧ Below w.heap.size w w'
  parse : ∀ {w : World} {F : Nat → Prop} {v : Value} {l : List UInt8}, SlB w F v l → (∀ b, F b → b < w.heap.size) → l.length ≤ 1000 →
    Calls Try.prog 25 #[v] w fun r w' => ∃ vf, r = .returned (.tuple #[vf, .int .i64 (parseE l)]) ∧ FrV w' (S.New w w') vf (parseF l) ∧ Below w.heap.size w w'
  cut : ∀ {w : World} {F : Nat → Prop} {v : Value} {l : List UInt8} (e s : Nat), SlB w F v l → (∀ b, F b → b < w.heap.size) → e < 4294967296 → s < 4294967296 → l.length ≤ 2000 →
    Calls Try.prog 44 #[.int .u32 e, .int .u32 s, v] w fun r w' => ∃ v', r = .returned v' ∧ Frs w' (S.New w w') v' (R.cut e s l) ∧ Below w.heap.size w w'

abbrev nilB : Value := .slice none 0 0

end Go.Proofs.Ytfpojbnidoeohaa
