/-
  Walks of layer slot's laws: the area, and what Save, Load and One do there; the disks of awake.
-/
import Derived.Test.YtbjbnjpdackloaaSoSave
namespace Go.Proofs.Ytbjbnjpdackloaa
open Go.RowKit

theorem infoAr : (Try.prog.info? 23).map (·.size) = some 2 := by kernel_rfl

abbrev ar8 : Value := .agg #[.int .i64 1, .int .i64 4]

set_option maxRecDepth 100000 in
theorem area_any (w : World) : Calls Try.prog 20 #[] w fun e w' => e = .returned ar8 ∧ Below w.heap.size w w' := by
  go_enter Try.func20, Try.ntmps20
  go_wp2
  exact bodyPost_ret (results_bk rfl _ rfl (Bk.new w [.int .i64 1, .int .i64 4] 23 rfl) Try.underlying23 rfl infoAr) rfl ⟨rfl, (Below.refl _ _).alloc (Nat.le_refl _) _⟩

theorem may8 {d : D.Dk} (h : d.secs.length = 12) : Z.May d 1 4 := ⟨by decide, by decide, by omega⟩

section
variable {H : World → (Nat → Prop) → Value → D.Dk → Prop} {w : World} {F : Nat → Prop} {vd : Value} {d : D.Dk}

theorem sv8 (K : DiskOk H) (KF : FrameOk) (h : H w F vd d) (h12 : d.secs.length = 12) (hrow : d.row.length ≤ 900) {Gb : Nat → Prop} {vb : Value} {rec : List UInt8} {gen : Nat} (hB : SlB w Gb vb rec) (hGb : ∀ b, Gb b → b < w.heap.size) (hl : rec.length ≤ 140737488355328) (hg1 : 1 ≤ gen) (hg : gen < 4294967296) (E : Int) (d' : D.Dk) (hE : E = if R.many rec.length ≤ 4 then 0 else 3) (hd : d' = if R.many rec.length ≤ 4 then Z.save d 1 4 gen rec else d) :
    Calls Try.prog 19 #[vd, ar8, .int .u32 (gen : Int), vb] w fun e w' => e = .returned (.int .i64 E) ∧ (∃ F', H w' F' vd d' ∧ ∀ b, F' b → F b ∨ S.New w w' b) ∧ Turn F w w' := by
  have := save_any K KF h (first := 1) (size := 4) (gen := gen) (by decide) (by decide) (by decide) (by decide) hB hGb hl hg (by omega)
  have hf : fitsB d.secs.length 1 4 = true := decide_eq_true (by omega)
  rw [savE, if_pos ⟨hf, by omega⟩] at this
  rw [show savD d 1 4 gen rec = d' by
    rw [hd, savD]
    by_cases hm : R.many rec.length ≤ 4
    · rw [if_pos ⟨⟨hf, by omega⟩, hm⟩, if_pos hm]; rfl
    · rw [if_neg (fun g => hm g.2), if_neg hm]] at this
  rw [hE]
  exact this
theorem ld8 (K : DiskOk H) (KF : FrameOk) (h : H w F vd d) (h12 : d.secs.length = 12) (o : Option (Nat × List UInt8)) (ho : Z.load d 1 4 = o) : Calls Try.prog 14 #[vd, ar8] w (Tell w o) := by
  have := load_any K KF h (first := 1) (size := 4) (by decide) (by decide) (by decide) (by decide)
  rw [show loadI d 1 4 = o by rw [← ho]; exact loadI_may (may8 h12)] at this
  exact this
theorem on8 (K : DiskOk H) (KF : FrameOk) (h : H w F vd d) (h12 : d.secs.length = 12) (k : Nat) (hk : k < 2) (o : Option (Nat × List UInt8)) (ho : Z.one d 1 4 k = o) : Calls Try.prog 16 #[vd, ar8, .int .i64 (k : Int)] w (Tell w o) := by
  have := one_any K KF h (first := 1) (size := 4) (which := (k : Int)) (by decide) (by decide) (by decide) (by decide)
  rw [show oneI d 1 4 (k : Int) = o by rw [← ho]; exact oneI_may (may8 h12) hk] at this
  exact this
end

/-! the disks of awake -/
def one : List UInt8 := [111, 110, 101]
def z60 : List UInt8 := List.replicate 60 0
theorem z60_len : z60.length = 60 := List.length_replicate
theorem z60_many : R.many z60.length = 2 := by rw [z60_len]; decide
theorem made60 {w w' : World} {g : Nat} (h : w'.ownsRow w.heap.size 5 1 (.slice (some ⟨g, 0, none⟩) 60 60) 60 (madeCells #[Value.int .u8 0] 60).toList) : SlB w' (fun b => w.heap.size ≤ b ∧ b < w'.heap.size) (.slice (some ⟨g, 0, none⟩) 60 60) z60 := by
  have := S.Sg.of_own h
  have e : (madeCells #[Value.int .u8 0] 60).toList = bytesV z60 := by rw [toList_madeCells_one]; simp [bytesV, z60]
  rw [e] at this
  exact this

def newD8 : D.Dk := ⟨List.replicate 12 (D.full []), []⟩
def sb1 : D.Dk := Z.save newD8 1 4 1 one
def sb2 : D.Dk := Z.save sb1.sync 1 4 2 z60
theorem new8_len : newD8.secs.length = 12 := List.length_replicate
theorem sb0_st : Z.St newD8 1 4 [] := Z.St.new (may8 new8_len)
theorem sb1_st : Z.St sb1 1 4 [one] := sb0_st.save (by decide) (by decide)
theorem sb2_st : Z.St sb2 1 4 [one, z60] := sb1_st.sync.save (by rw [z60_many]; decide) (by decide)
theorem sb1_len : sb1.secs.length = 12 := (Z.save_len ..).trans new8_len
theorem sb1s_len : sb1.sync.secs.length = 12 := (D.sync_len _).trans sb1_len
theorem sb2_len : sb2.secs.length = 12 := (Z.save_len ..).trans sb1s_len
theorem sb2_load : Z.load sb2 1 4 = some (2, z60) := by rw [sb2_st.load]; rfl

set_option maxRecDepth 100000 in
theorem sb2_is : sb1.sync = ⟨(List.replicate 12 (D.full [])).set 5 (R.sector (R.frameOf 1 0 one 0)), []⟩ ∧ sb2.row = [(1, R.sector (R.frameOf 2 0 z60 0)), (2, R.sector (R.frameOf 2 0 z60 1))] ∧ sb2.secs = sb1.sync.secs ∧ sb1.row.length = 1 := by
  have w1 (d : D.Dk) (k : Nat) (e s : Nat) (rec : List UInt8) (i : Nat) (h : k < d.secs.length) : d.write (k : Int) (R.sector (R.frameOf e s rec i)) = ⟨d.secs, d.row ++ [(k, R.sector (R.frameOf e s rec i))]⟩ := by
    have hl := G.frameOf_sector e s rec i
    rw [D.Dk.write, if_pos ⟨⟨by omega, by omega⟩, by omega⟩, D.full_whole (by omega)]
    rfl
  have c1 : R.cut 1 0 one = [R.frameOf 1 0 one 0] := rfl
  have c2 : R.cut 2 0 z60 = [R.frameOf 2 0 z60 0, R.frameOf 2 0 z60 1] := by rw [R.cut, z60_many]; rfl
  have d1 : sb1 = ⟨List.replicate 12 (D.full []), [(5, R.sector (R.frameOf 1 0 one 0))]⟩ := by
    rw [show sb1 = G.lay 5 4 newD8 (R.cut 1 0 one) from rfl, c1]
    exact w1 newD8 5 1 0 one 0 (by rw [new8_len]; decide)
  have d1s : sb1.sync = ⟨(List.replicate 12 (D.full [])).set 5 (R.sector (R.frameOf 1 0 one 0)), []⟩ := by rw [d1]; rfl
  refine ⟨d1s, ?_, Z.save_secs .., by rw [d1]; rfl⟩
  rw [show sb2 = G.lay 1 4 sb1.sync (R.cut 2 0 z60) from rfl, c2, d1s]
  obtain ⟨s0, h0⟩ : ∃ s, s = (List.replicate 12 (D.full [])).set 5 (R.sector (R.frameOf 1 0 one 0)) := ⟨_, rfl⟩
  have hl0 : s0.length = 12 := by rw [h0]; simp
  rw [← h0]
  have e1 := w1 ⟨s0, []⟩ 1 2 0 z60 0 (by show 1 < s0.length; omega)
  have e2 := w1 ⟨s0, [(1, R.sector (R.frameOf 2 0 z60 0))]⟩ 2 2 0 z60 1 (by show 2 < s0.length; omega)
  show ((D.Dk.write ⟨s0, []⟩ ((1 : Nat) : Int) (R.sector (R.frameOf 2 0 z60 0))).write ((2 : Nat) : Int) (R.sector (R.frameOf 2 0 z60 1))).row = _
  rw [e1]
  exact (congrArg D.Dk.row e2)

theorem sb2_crash : Z.load (sb2.crash [true, false]) 1 4 = some (1, one) := by
  obtain ⟨e1, e2, e3, _⟩ := sb2_is
  obtain ⟨s0, h0⟩ : ∃ s, s = R.sector (R.frameOf 1 0 one 0) := ⟨_, rfl⟩
  obtain ⟨s1, h1⟩ : ∃ s, s = R.sector (R.frameOf 2 0 z60 0) := ⟨_, rfl⟩
  obtain ⟨s2, h2⟩ : ∃ s, s = R.sector (R.frameOf 2 0 z60 1) := ⟨_, rfl⟩
  rw [← h0] at e1
  rw [← h1, ← h2] at e2
  have e4 : sb2 = ⟨(List.replicate 12 (D.full [])).set 5 s0, [(1, s1), (2, s2)]⟩ := by
    have hE : ∀ d : D.Dk, d = ⟨d.secs, d.row⟩ := fun d => by cases d; rfl
    rw [hE sb2, e2, e3, e1]
  rw [e4]
  have e : (D.Dk.mk ((List.replicate 12 (D.full [])).set 5 s0) [(1, s1), (2, s2)]).crash [true, false] = ⟨[D.full [], s1, D.full [], D.full [], D.full [], s0, D.full [], D.full [], D.full [], D.full [], D.full [], D.full []], []⟩ := rfl
  rw [e]
  have p0 : R.parse s0 = some (R.frameOf 1 0 one 0) := by rw [h0]; exact R.parse_sector ⟨by decide, by decide⟩ (G.frameOf_fits _ _ _ _)
  have p1 : R.parse s1 = some (R.frameOf 2 0 z60 0) := by rw [h1]; exact R.parse_sector ⟨by decide, by decide⟩ (G.frameOf_fits _ _ _ _)
  have p2 : R.parse (D.full []) = none := R.zeros_none
  obtain ⟨dk, hD⟩ : ∃ dk : D.Dk, dk = ⟨[D.full [], s1, D.full [], D.full [], D.full [], s0, D.full [], D.full [], D.full [], D.full [], D.full [], D.full []], []⟩ := ⟨_, rfl⟩
  rw [← hD]
  have hl : dk.secs.length = 12 := by rw [hD]; rfl
  have r1 : dk.read 1 = s1 := by rw [hD]; rfl
  have r2 : dk.read 2 = D.full [] := by rw [hD]; rfl
  have r5 : dk.read 5 = s0 := by rw [hD]; rfl
  have g1 : Q.good dk ((1 + 0 : Nat) : Int) 2 0 (decide (0 = 0)) = some (R.frameOf 2 0 z60 0) := Q.good_of (show dk.there 1 from ⟨by decide, by rw [hl]; decide⟩) (show R.parse (dk.read 1) = _ by rw [r1]; exact p1) rfl rfl (by rw [R.frameOf, z60_many]; rfl)
  have g2 : Q.good dk ((1 + 1 : Nat) : Int) 2 1 (decide (1 = 0)) = none := by
    unfold Q.good
    rw [if_pos (show dk.there ((1 + 1 : Nat) : Int) from ⟨by decide, by rw [hl]; decide⟩), show dk.read ((1 + 1 : Nat) : Int).toNat = dk.read 2 from rfl, r2, p2]
  have g5 : Q.good dk ((5 + 0 : Nat) : Int) 1 0 (decide (0 = 0)) = some (R.frameOf 1 0 one 0) := Q.good_of (show dk.there 5 from ⟨by decide, by rw [hl]; decide⟩) (show R.parse (dk.read 5) = _ by rw [r5]; exact p0) rfl rfl rfl
  have o0 : Z.one dk 1 4 0 = none := by
    show (match R.parse (dk.read 1) with | none => none | some f => _) = _
    rw [r1, p1]
    show (if _ then none else (Z.rest dk 1 2 4 0 []).map _) = none
    rw [show Z.rest dk 1 2 4 0 [] = none by
      rw [show (4 : Nat) = 3 + 1 from rfl, Z.rest_more g1 (by rw [R.frameOf, z60_many]; decide)]
      exact Z.rest_none g2]
    split <;> rfl
  have o1 : Z.one dk 1 4 1 = some (1, one) := by
    show (match R.parse (dk.read 5) with | none => none | some f => _) = _
    rw [r5, p0]
    show (if _ then none else (Z.rest dk 5 1 4 0 []).map _) = some (1, one)
    rw [show Z.rest dk 5 1 4 0 [] = some ([] ++ one) by
      rw [show (4 : Nat) = 3 + 1 from rfl, Z.rest_last g5 rfl]
      rfl]
    rw [if_neg (by decide)]
    rfl
  unfold Z.load
  rw [o0, o1]
  rfl

end Go.Proofs.Ytbjbnjpdackloaa
