/-
  Walks of layer scan's laws: the ring's disk synced, crashed, read; a place; the ring that awake makes.
-/
import Derived.Test.YtnjhbmjhldfdpaaScDds
namespace Go.Proofs.Ytnjhbmjhldfdpaa
open Go.RowKit

def uV (l : List Nat) : List Value := l.map fun (n : Nat) => .int .u32 (n : Int)
theorem uV_length (l : List Nat) : (uV l).length = l.length := by simp [uV]
theorem uV_append (a b : List Nat) : uV (a ++ b) = uV a ++ uV b := by simp [uV]
theorem uV_one (l : List Nat) : ∀ u ∈ uV l, u.oneCell' = true := by
  intro u hu
  simp only [uV, List.mem_map] at hu
  obtain ⟨n, _, rfl⟩ := hu
  rfl
theorem uV_at (l : List Nat) (j : Nat) (h : j < l.length) : (uV l)[j]? = some (.int .u32 (l[j] : Int)) := by simp [uV, h]
abbrev SlU (w : World) (F : Nat → Prop) (v : Value) (l : List Nat) : Prop := S.Sg w F 1 v l.length (uV l)
theorem elU : S.El Try.prog 53 23 1 4 := info_el (z := .int .u32 0) Try.underlying53 (by kernel_rfl) rfl
theorem turn_grown {w w' : World} {row : Option Nat} (hg : w.grownBy w' row) : Turn (fun b => row = some b) w w' := ⟨hg.os, hg.tape, hg.output, hg.size, fun k hk hF => hg.block k hk (fun e => hF e.symm)⟩

section
variable {H : World → (Nat → Prop) → Value → D.Dk → Prop}

/-- the ring's disk, turned by itself -/
theorem Rp.lend {w : World} {F : Nat → Prop} {v vd : Value} {r : G.Rg} (h : Rp H w F v vd r) : ∃ Fd, H w Fd vd r.d ∧ (∀ b, Fd b → F b) ∧ ∀ (w' : World) (d' : D.Dk), d'.secs.length = r.d.secs.length → H w' (More Fd w w') vd d' → Turn Fd w w' → Rp H w' (More F w w') v vd { r with d := d' } ∧ Turn F w w' := by
  obtain ⟨hn, hm, hl, p, Fd, rfl, hp, h1, h2, h3, h4⟩ := h
  refine ⟨Fd, h4, h3, fun w' d' hd' a1 a2 => ?_⟩
  have hpl := hl p h1
  refine ⟨⟨⟨hn.e, hn.l, hn.n, hn.f, hn.m1, hn.m⟩, ⟨hm.m1, by show _ ≤ d'.secs.length; rw [hd']; exact hm.fits, hm.ln, hm.nl, hm.top⟩, ?_, p, More Fd w w', rfl, hp.turn a2 h2, Or.inl h1, ?_, ?_, a1⟩, ⟨a2.os, a2.tape, a2.output, a2.size, fun k hk hF => a2.block k hk (fun g => hF (h3 k g))⟩⟩
  · rintro b (g | g)
    · exact Nat.lt_of_lt_of_le (hl b g) a2.size
    · exact g.2
  · rintro (g | g)
    · exact h2 g
    · have := g.1; omega
  · rintro b (g | g)
    · exact Or.inl (h3 b g)
    · exact Or.inr g

theorem ring_sync (K : DiskOk H) {w : World} {F : Nat → Prop} {v vd : Value} {r : G.Rg} (h : Rp H w F v vd r) : Calls Try.prog 23 #[vd] w fun e w' => e = .returned (.tuple #[]) ∧ Rp H w' (More F w w') v vd r.sync ∧ Turn F w w' := by
  obtain ⟨Fd, h4, _, hx⟩ := h.lend
  refine (K.sync h4).mono ?_
  rintro e w' ⟨rfl, a1, a2⟩
  exact ⟨rfl, hx w' _ (D.sync_len _) a1 a2⟩

theorem ring_crash (K : DiskOk H) {w : World} {F G' : Nat → Prop} {v vd vk : Value} {r : G.Rg} {keep : List Bool} (h : Rp H w F v vd r) (hk : SlT w G' vk keep) (hG : ∀ b, G' b → b < w.heap.size) (hGF : ∀ b, G' b → ¬ F b) : Calls Try.prog 22 #[vd, vk] w fun e w' => e = .returned (.tuple #[]) ∧ Rp H w' (More F w w') v vd { r with d := r.d.crash keep } ∧ Turn F w w' := by
  obtain ⟨Fd, h4, h3, hx⟩ := h.lend
  refine (K.crash G' vk keep h4 hk hG (fun b g f => hGF b g (h3 b f))).mono ?_
  rintro e w' ⟨rfl, a1, a2⟩
  exact ⟨rfl, hx w' _ (D.crash_len _ _) a1 a2⟩

/-- the disk of a ring, read at the ring's place -/
theorem ring_scan (K : DiskOk H) (KF : FrameOk) {w : World} {F : Nat → Prop} {v vd : Value} {r : G.Rg} (h : Rp H w F v vd r) (first many : Int) (epoch from_ : Nat) (hf1 : first ≤ 9223372036854775807) (hm : many ≤ 9223372036854775807) (he : epoch < 4294967296) (hn : from_ < 4294967296) :
    Calls Try.prog 14 #[vd, .agg #[.int .i64 first, .int .i64 many, .int .u32 (epoch : Int)], .int .u32 (from_ : Int)] w (Rds w from_ (Q.all r.d first many epoch from_)) := by
  obtain ⟨Fd, h3, h4⟩ := h.disk
  exact scan_read K KF h4 first many epoch from_ hf1 hm he hn
end

/-- what is found at a ring's own place -/
theorem all_of {r : G.Rg} {d : D.Dk} {e from_ : Nat} (hf : r.first = 2) (hm : r.many = 8) : Q.all d 2 8 e from_ = Q.recs d (Q.ixOf r) e r.many from_ true [] := by
  unfold Q.all
  rw [if_pos ⟨by decide, by decide⟩, hm]
  have hix : Q.ixI 2 8 = Q.ixOf r := by
    funext n
    have := Q.ixI_small 2 8 n (by decide) (by decide) (by decide)
    rw [Q.ixOf, hf, hm]
    exact this
  rw [hix]
  rfl

theorem infoPl : (Try.prog.info? 25).map (·.size) = some 3 := by kernel_rfl

set_option maxRecDepth 100000 in
theorem place7_any (w : World) : Calls Try.prog 18 #[] w fun e w' => e = .returned (.agg #[.int .i64 2, .int .i64 8, .int .u32 3]) ∧ Below w.heap.size w w' := by
  go_enter Try.func18, Try.ntmps18
  go_wp2
  exact bodyPost_ret (results_bk rfl _ rfl (Bk.new w [.int .i64 2, .int .i64 8, .int .u32 3] 25 rfl) Try.underlying25 rfl infoPl) rfl ⟨rfl, (Below.refl _ _).alloc (Nat.le_refl _) _⟩

/-! the ring of awake -/
def one : List UInt8 := [111, 110, 101]
def three : List UInt8 := [116, 104, 114, 101, 101]
def z60 : List UInt8 := List.replicate 60 0
theorem z60_len : z60.length = 60 := List.length_replicate
def newD7 (n : Nat) : D.Dk := ⟨List.replicate n (D.full []), []⟩
def rb0 : G.Rg := ⟨newD7 12, 2, 8, 3, 0, 0⟩
def rb1 : G.Rg := rb0.put one
def rb2 : G.Rg := rb1.put z60
def rb3 : G.Rg := rb2.put three
theorem rb_many : R.many z60.length = 2 := by rw [z60_len]; decide
theorem rb0_may : rb0.May := ⟨by decide, by decide, by decide, by decide, by decide⟩
theorem rb0_err : rb0.err one = 0 := by decide
theorem rb1_next : rb1.next = 1 := rfl
theorem rb1_may : rb1.May := rb0_may.put rb0_err
theorem rb1_err : rb1.err z60 = 0 := by rw [G.Rg.err, G.Rg.free, rb_many]; rfl
theorem rb2_next : rb2.next = 3 := by show 1 + R.many z60.length = 3; rw [rb_many]
theorem rb2_may : rb2.May := rb1_may.put rb1_err
theorem rb2_err : rb2.err three = 0 := by rw [G.Rg.err, G.Rg.free, rb2_next]; rfl
theorem rb3_next : rb3.next = 4 := by show rb2.next + 1 = 4; rw [rb2_next]
theorem rb3_may : rb3.May := rb2_may.put rb2_err
theorem rb1_row : rb1.d.row.length = 1 := by rw [rb1, G.put_row rb0_may]; rfl
theorem rb2_row : rb2.d.row.length = 3 := by rw [rb2, G.put_row rb1_may, rb_many, rb1_row]
theorem rb3_kp : Q.Kp rb3 [(0, one), (1, z60), (3, three)] [(0, one), (1, z60), (3, three)] 0 := by
  have h := (((Q.kp_new (n := 12) (first := 2) (many := 8) (epoch := 3) (by decide) (by decide)).put (by decide) rb0_err).put (by decide) rb1_err).put (by decide) rb2_err
  have e : (rb0.put one |>.put z60).next = 3 := rb2_next
  rw [show (⟨⟨List.replicate 12 (D.full []), []⟩, 2, 8, 3, 0, 0⟩ : G.Rg) = rb0 from rfl] at h
  rw [e] at h
  exact h
theorem rb3_all : Q.all rb3.d 2 8 3 0 = [(1, one), (3, z60), (4, three)] := by
  rw [all_of (r := rb3) rfl rfl]
  have h := rb3_kp.found (by decide) []
  refine (show _ = _ from h).trans ?_
  simp only [List.map_cons, List.map_nil, Q.told, rb_many]
  rfl

set_option maxRecDepth 100000 in
theorem rb3_row : rb3.d = ⟨List.replicate 12 (D.full []), [(2, R.sector (R.frameOf 3 0 one 0)), (3, R.sector (R.frameOf 3 1 z60 0)), (4, R.sector (R.frameOf 3 1 z60 1)), (5, R.sector (R.frameOf 3 3 three 0))]⟩ := by
  have w1 (d : D.Dk) (k : Nat) (e s : Nat) (rec : List UInt8) (i : Nat) (h : k < d.secs.length) : d.write (k : Int) (R.sector (R.frameOf e s rec i)) = ⟨d.secs, d.row ++ [(k, R.sector (R.frameOf e s rec i))]⟩ := by
    have hl := G.frameOf_sector e s rec i
    rw [D.Dk.write, if_pos ⟨⟨by omega, by omega⟩, by omega⟩, D.full_whole (by omega)]
    rfl
  have c1 : R.cut 3 0 one = [R.frameOf 3 0 one 0] := rfl
  have c2 : R.cut 3 1 z60 = [R.frameOf 3 1 z60 0, R.frameOf 3 1 z60 1] := by rw [R.cut, rb_many]; rfl
  have c3 : R.cut 3 3 three = [R.frameOf 3 3 three 0] := rfl
  have d1 : rb1.d = ⟨List.replicate 12 (D.full []), [(2, R.sector (R.frameOf 3 0 one 0))]⟩ := by
    rw [show rb1.d = G.lay 2 8 (newD7 12) (R.cut 3 0 one) from rfl, c1]
    exact w1 (newD7 12) 2 3 0 one 0 (by simp [newD7])
  have d2 : rb2.d = ⟨List.replicate 12 (D.full []), [(2, R.sector (R.frameOf 3 0 one 0)), (3, R.sector (R.frameOf 3 1 z60 0)), (4, R.sector (R.frameOf 3 1 z60 1))]⟩ := by
    rw [show rb2.d = G.lay rb1.first rb1.many rb1.d (R.cut rb1.epoch rb1.next z60) from rfl, show rb1.first = 2 from rfl, show rb1.many = 8 from rfl, show rb1.epoch = 3 from rfl, show rb1.next = 1 from rfl, c2, d1]
    refine (congrArg (fun d : D.Dk => d.write ((4 : Nat) : Int) (R.sector (R.frameOf 3 1 z60 1))) (w1 ⟨List.replicate 12 (D.full []), [(2, R.sector (R.frameOf 3 0 one 0))]⟩ 3 3 1 z60 0 (by simp))).trans ?_
    exact w1 ⟨List.replicate 12 (D.full []), [(2, R.sector (R.frameOf 3 0 one 0)), (3, R.sector (R.frameOf 3 1 z60 0))]⟩ 4 3 1 z60 1 (by simp)
  rw [show rb3.d = G.lay rb2.first rb2.many rb2.d (R.cut rb2.epoch rb2.next three) from rfl, show rb2.first = 2 from rfl, show rb2.many = 8 from rfl, show rb2.epoch = 3 from rfl, rb2_next, c3, d2]
  exact w1 ⟨List.replicate 12 (D.full []), [(2, R.sector (R.frameOf 3 0 one 0)), (3, R.sector (R.frameOf 3 1 z60 0)), (4, R.sector (R.frameOf 3 1 z60 1))]⟩ 5 3 3 three 0 (by simp)

theorem rb3_crash : Q.all (rb3.d.crash [true, true, false, true]) 2 8 3 0 = [(1, one)] := by
  rw [rb3_row]
  obtain ⟨s0, h0⟩ : ∃ s, s = R.sector (R.frameOf 3 0 one 0) := ⟨_, rfl⟩
  obtain ⟨s1, h1⟩ : ∃ s, s = R.sector (R.frameOf 3 1 z60 0) := ⟨_, rfl⟩
  obtain ⟨s2, h2⟩ : ∃ s, s = R.sector (R.frameOf 3 1 z60 1) := ⟨_, rfl⟩
  obtain ⟨s3, h3⟩ : ∃ s, s = R.sector (R.frameOf 3 3 three 0) := ⟨_, rfl⟩
  rw [← h0, ← h1, ← h2, ← h3]
  have e : (D.Dk.mk (List.replicate 12 (D.full [])) [(2, s0), (3, s1), (4, s2), (5, s3)]).crash [true, true, false, true] = ⟨[D.full [], D.full [], s0, s1, D.full [], s3, D.full [], D.full [], D.full [], D.full [], D.full [], D.full []], []⟩ := rfl
  rw [e, all_of (r := rb0) rfl rfl]
  have p0 : R.parse s0 = some (R.frameOf 3 0 one 0) := by rw [h0]; exact R.parse_sector ⟨by decide, by decide⟩ (G.frameOf_fits _ _ _ _)
  have p1 : R.parse s1 = some (R.frameOf 3 1 z60 0) := by rw [h1]; exact R.parse_sector ⟨by decide, by decide⟩ (G.frameOf_fits _ _ _ _)
  have p2 : R.parse (D.full []) = none := R.zeros_none
  obtain ⟨dk, hD⟩ : ∃ dk : D.Dk, dk = ⟨[D.full [], D.full [], s0, s1, D.full [], s3, D.full [], D.full [], D.full [], D.full [], D.full [], D.full []], []⟩ := ⟨_, rfl⟩
  rw [← hD]
  have hl : dk.secs.length = 12 := by rw [hD]; rfl
  have r2 : dk.read 2 = s0 := by rw [hD]; rfl
  have r3 : dk.read 3 = s1 := by rw [hD]; rfl
  have r4 : dk.read 4 = D.full [] := by rw [hD]; rfl
  have g0 : Q.good dk (Q.ixOf rb0 0) 3 0 true = some (R.frameOf 3 0 one 0) := Q.good_of (show dk.there 2 from ⟨by decide, by rw [hl]; decide⟩) (show R.parse (dk.read 2) = _ by rw [r2]; exact p0) rfl rfl rfl
  have g1 : Q.good dk (Q.ixOf rb0 1) 3 1 true = some (R.frameOf 3 1 z60 0) := Q.good_of (show dk.there 3 from ⟨by decide, by rw [hl]; decide⟩) (show R.parse (dk.read 3) = _ by rw [r3]; exact p1) rfl rfl (by rw [R.frameOf, rb_many]; rfl)
  have g2 : Q.good dk (Q.ixOf rb0 2) 3 2 false = none := Q.good_no (Q.fnd_none (show dk.there 4 from ⟨by decide, by rw [hl]; decide⟩) (show R.parse (dk.read 4) = _ by rw [r4]; exact p2)) _
  show Q.recs dk (Q.ixOf rb0) 3 (7 + 1) 0 true [] = _
  rw [Q.recs_last g0 rfl]
  show (1, [] ++ one) :: Q.recs dk (Q.ixOf rb0) 3 (6 + 1) 1 true _ = _
  rw [Q.recs_more g1 (by rw [R.frameOf, rb_many]; decide)]
  show _ :: Q.recs dk (Q.ixOf rb0) 3 6 2 false _ = _
  rw [Q.recs_none g2]
  rfl

end Go.Proofs.Ytnjhbmjhldfdpaa
