/-
  The plain mathematics of layer vdisk: sectors, and a row of writes that aren't synced. No program stands here.
  Walks of the document's disk: bytes, and zeros behind them.
  Blocks of three cells that a call keeps for itself (a struct of three fields).
  Walks of the document's disk: a new one.
  Walks of the document's disk: a write.
  Walks of the document's disk: a sector read.
  Walks of the document's disk: a crash, a sync.
  Walks of the document's disk: a sync.
  What the laws of layer vdisk ask of the program's calls: each call's contract, over whatever 'the pointer holds this disk' may mean. And deeds.
-/
import GoSem.Op.String
import Derived.Test.YtbjbnjpdackloaaJA
import Derived.Deep.RegionHeld3
import Derived.Lib.SmallJoins
import Derived.Deep.MidRow
import Derived.Deep.AppendLies
import Derived.Deep.RegionLaw
namespace Go.Proofs.Ytbjbnjpdackloaa.D

abbrev Sec := List UInt8

/-- bytes, and zeros behind them up to 64 -/
def full (l : Sec) : Sec := l ++ List.replicate (64 - l.length) 0

theorem full_len {l : Sec} (h : l.length ≤ 64) : (full l).length = 64 := by simp [full]; omega
theorem full_snoc {l : Sec} (h : l.length < 64) : full (l ++ [0]) = full l := by
  obtain ⟨k, hk⟩ : ∃ k, 64 - l.length = k + 1 := ⟨64 - l.length - 1, by omega⟩
  have hk' : 64 - (l ++ [0]).length = k := by simp; omega
  rw [full, full, hk, hk', List.replicate_succ]
  simp
theorem full_whole {l : Sec} (h : ¬ l.length < 64) : full l = l := by
  rw [full, show 64 - l.length = 0 by omega]; simp

structure Dk where
  secs : List Sec
  row : List (Nat × Sec)

/-- the last of the row's writes to a sector; without one, what it had -/
def lastOf (row : List (Nat × Sec)) (i : Nat) (s : Sec) : Sec := row.foldl (fun s w => if w.1 = i then w.2 else s) s

theorem lastOf_nil (i : Nat) (s : Sec) : lastOf [] i s = s := rfl
theorem lastOf_cons (x : Nat × Sec) (row : List (Nat × Sec)) (i : Nat) (s : Sec) : lastOf (x :: row) i s = lastOf row i (if x.1 = i then x.2 else s) := rfl
theorem lastOf_snoc (row : List (Nat × Sec)) (x : Nat × Sec) (i : Nat) (s : Sec) : lastOf (row ++ [x]) i s = if x.1 = i then x.2 else lastOf row i s := by simp [lastOf]

theorem lastOf_is (row : List (Nat × Sec)) (i : Nat) : ∀ s, lastOf row i s = s ∨ ∃ x ∈ row, x.1 = i ∧ lastOf row i s = x.2 := by
  induction row with
  | nil => intro s; exact Or.inl rfl
  | cons x r ih =>
    intro s
    rw [lastOf_cons]
    rcases ih (if x.1 = i then x.2 else s) with h | ⟨y, hy, h1, h2⟩
    · rw [h]
      by_cases hx : x.1 = i
      · rw [if_pos hx]; exact Or.inr ⟨x, by simp, hx, rfl⟩
      · rw [if_neg hx]; exact Or.inl rfl
    · exact Or.inr ⟨y, by simp [hy], h1, h2⟩

theorem lastOf_none {row : List (Nat × Sec)} {i : Nat} (h : ∀ x ∈ row, x.1 ≠ i) (s : Sec) : lastOf row i s = s := by
  rcases lastOf_is row i s with e | ⟨x, hx, h1, _⟩
  · exact e
  · exact absurd h1 (h x hx)

/-- from the row's end on: the first write to the sector that is met -/
theorem lastOf_back (row : List (Nat × Sec)) (i : Nat) (s : Sec) (k : Nat) (hk : k < row.length) (hi : row[k].1 = i) (hn : ∀ j (hj : j < row.length), k < j → row[j].1 ≠ i) : lastOf row i s = row[k].2 := by
  have e : row = row.take k ++ row[k] :: row.drop (k + 1) := by
    rw [← List.drop_eq_getElem_cons hk, List.take_append_drop]
  have hd : ∀ x ∈ row.drop (k + 1), x.1 ≠ i := by
    intro x hx
    obtain ⟨j, hj, rfl⟩ := List.getElem_of_mem hx
    rw [List.getElem_drop]
    exact hn _ _ (by omega)
  have : lastOf row i s = lastOf (row.drop (k + 1)) i row[k].2 := by
    conv => lhs; rw [e]
    rw [lastOf, List.foldl_append, List.foldl_cons, if_pos hi]
    rfl
  rw [this, lastOf_none hd]

/-- writes done to the sectors, in turn -/
def done (secs : List Sec) (l : List (Nat × Sec)) : List Sec := l.foldl (fun s w => s.set w.1 w.2) secs

theorem done_nil (secs : List Sec) : done secs [] = secs := rfl
theorem done_snoc (secs : List Sec) (l : List (Nat × Sec)) (x : Nat × Sec) : done secs (l ++ [x]) = (done secs l).set x.1 x.2 := by simp [done]
theorem done_len (l : List (Nat × Sec)) : ∀ secs, (done secs l).length = secs.length := by
  induction l with
  | nil => intro secs; rfl
  | cons x r ih => intro secs; show (done (secs.set x.1 x.2) r).length = _; rw [ih]; simp

theorem done_at (l : List (Nat × Sec)) (i : Nat) : ∀ secs : List Sec, (done secs l)[i]? = secs[i]?.map (lastOf l i) := by
  induction l with
  | nil => intro secs; cases h : secs[i]? <;> simp [done, h, lastOf]
  | cons x r ih =>
    intro secs
    show (done (secs.set x.1 x.2) r)[i]? = _
    rw [ih, List.getElem?_set]
    by_cases hx : x.1 = i
    · rw [if_pos hx]
      by_cases hl : x.1 < secs.length
      · rw [if_pos hl]
        have hi : i < secs.length := by omega
        rw [List.getElem?_eq_getElem hi]
        simp [lastOf_cons, hx]
      · rw [if_neg hl, List.getElem?_eq_none (by omega)]
        rfl
    · rw [if_neg hx]
      cases secs[i]? with
      | none => rfl
      | some s => simp [lastOf_cons, hx]

/-- those of the row's writes that are kept -/
def kept : List (Nat × Sec) → List Bool → List (Nat × Sec)
  | [], _ => []
  | _ :: _, [] => []
  | w :: r, b :: k => if b = true then w :: kept r k else kept r k

theorem kept_nil (row : List (Nat × Sec)) : kept row [] = [] := by cases row <;> rfl
theorem kept_all (row : List (Nat × Sec)) : kept row (List.replicate row.length true) = row := by
  induction row with
  | nil => rfl
  | cons x r ih => simp [kept, List.replicate_succ, ih]
theorem kept_mem {x : Nat × Sec} (row : List (Nat × Sec)) : ∀ k, x ∈ kept row k → x ∈ row := by
  induction row with
  | nil => intro k h; simp [kept] at h
  | cons y r ih =>
    intro k h
    cases k with
    | nil => simp [kept] at h
    | cons b k =>
      simp only [kept] at h
      split at h
      · rcases List.mem_cons.1 h with e | e
        · simp [e]
        · simp [ih k e]
      · simp [ih k h]

/-- round by round -/
theorem kept_take (row : List (Nat × Sec)) : ∀ (keep : List Bool) (k : Nat) (h : k < row.length), kept (row.take (k + 1)) keep = if keep[k]? = some true then kept (row.take k) keep ++ [row[k]] else kept (row.take k) keep := by
  induction row with
  | nil => intro keep k h; simp at h
  | cons x r ih =>
    intro keep k h
    cases keep with
    | nil => simp [kept_nil]
    | cons b keep =>
      cases k with
      | zero => cases b <;> simp [kept]
      | succ k =>
        have hk : k < r.length := by simpa using h
        have := ih keep k hk
        simp only [List.take_succ_cons, kept, this, List.getElem?_cons_succ, List.getElem_cons_succ]
        cases b <;> simp <;> split <;> simp

def Dk.crash (d : Dk) (keep : List Bool) : Dk := ⟨done d.secs (kept d.row keep), []⟩
def Dk.sync (d : Dk) : Dk := ⟨done d.secs d.row, []⟩
theorem sync_crash (d : Dk) : d.sync = d.crash (List.replicate d.row.length true) := by rw [Dk.sync, Dk.crash, kept_all]

def Dk.there (d : Dk) (i : Int) : Prop := 0 ≤ i ∧ i < d.secs.length
instance (d : Dk) (i : Int) : Decidable (d.there i) := by unfold Dk.there; infer_instance

def Dk.write (d : Dk) (i : Int) (b : Sec) : Dk := if d.there i ∧ b.length ≤ 64 then ⟨d.secs, d.row ++ [(i.toNat, full b)]⟩ else d
/-- which error a write tells -/
def Dk.bad (d : Dk) (i : Int) (b : Sec) : Int := if d.there i then (if b.length ≤ 64 then 0 else 1) else 11
def Dk.read (d : Dk) (i : Nat) : Sec := lastOf d.row i (d.secs.getD i [])

/-- sectors of 64 bytes; writes of 64 bytes, each to a sector that is there -/
structure Dk.Fit (d : Dk) : Prop where
  secs : ∀ s ∈ d.secs, s.length = 64
  row : ∀ x ∈ d.row, x.1 < d.secs.length ∧ x.2.length = 64

theorem Dk.Fit.write {d : Dk} (h : d.Fit) (i : Int) (b : Sec) : (d.write i b).Fit := by
  unfold Dk.write
  split
  · rename_i hc
    refine ⟨h.secs, fun x hx => ?_⟩
    rcases List.mem_append.1 hx with hx | hx
    · exact h.row x hx
    · simp at hx
      subst hx
      have := hc.1.1
      have := hc.1.2
      exact ⟨by simp; omega, full_len hc.2⟩
  · exact h

theorem done_fit {n : Nat} (l : List (Nat × Sec)) : ∀ secs : List Sec, (∀ s ∈ secs, s.length = n) → (∀ x ∈ l, x.2.length = n) → ∀ s ∈ done secs l, s.length = n := by
  induction l with
  | nil => intro secs h _; exact h
  | cons x r ih =>
    intro secs h h2
    refine ih (secs.set x.1 x.2) (fun s hs => ?_) (fun y hy => h2 y (by simp [hy]))
    rcases List.mem_or_eq_of_mem_set hs with e | e
    · exact h s e
    · rw [e]; exact h2 x (by simp)

theorem Dk.Fit.crash {d : Dk} (h : d.Fit) (keep : List Bool) : (d.crash keep).Fit :=
  ⟨done_fit _ _ h.secs (fun x hx => (h.row x (kept_mem _ _ hx)).2), fun x hx => by simp [Dk.crash] at hx⟩

theorem Dk.Fit.sync {d : Dk} (h : d.Fit) : d.sync.Fit := by rw [sync_crash]; exact h.crash _

theorem write_len (d : Dk) (i : Int) (b : Sec) : (d.write i b).secs.length = d.secs.length := by unfold Dk.write; split <;> rfl
theorem crash_len (d : Dk) (keep : List Bool) : (d.crash keep).secs.length = d.secs.length := done_len _ _
theorem sync_len (d : Dk) : d.sync.secs.length = d.secs.length := done_len _ _

theorem Dk.Fit.read_len {d : Dk} (h : d.Fit) {i : Nat} (hi : i < d.secs.length) : (d.read i).length = 64 := by
  unfold Dk.read
  rcases lastOf_is d.row i (d.secs.getD i []) with e | ⟨x, hx, _, e⟩
  · rw [e, List.getD_eq_getElem?_getD, List.getElem?_eq_getElem hi]
    exact h.secs _ (List.getElem_mem hi)
  · rw [e]; exact (h.row x hx).2

/-- reading behind a sync is reading ahead of it -/
theorem sync_read (d : Dk) (i : Nat) (hi : i < d.secs.length) : d.sync.read i = d.read i := by
  unfold Dk.read Dk.sync
  rw [lastOf_nil, List.getD_eq_getElem?_getD, done_at, List.getD_eq_getElem?_getD, List.getElem?_eq_getElem hi]
  rfl

/-- what was synced stays: a sector to which nothing of the row goes has what it had -/
structure Keeps (d : Dk) (i : Nat) (s : Sec) : Prop where
  at_ : d.secs[i]? = some s
  none : ∀ x ∈ d.row, x.1 ≠ i

theorem Keeps.read {d : Dk} {i : Nat} {s : Sec} (h : Keeps d i s) : d.read i = s := by
  unfold Dk.read; rw [lastOf_none h.none, List.getD_eq_getElem?_getD, h.at_]; rfl
theorem Keeps.write {d : Dk} {i : Nat} {s : Sec} (h : Keeps d i s) (j : Int) (b : Sec) (hj : j ≠ i) : Keeps (d.write j b) i s := by
  unfold Dk.write
  split
  · rename_i hc
    refine ⟨h.at_, fun x hx => ?_⟩
    rcases List.mem_append.1 hx with hx | hx
    · exact h.none x hx
    · simp at hx
      subst hx
      have := hc.1.1
      simp
      omega
  · exact h
theorem Keeps.crash {d : Dk} {i : Nat} {s : Sec} (h : Keeps d i s) (keep : List Bool) : Keeps (d.crash keep) i s :=
  ⟨by rw [Dk.crash, done_at, h.at_, Option.map_some, lastOf_none (fun x hx => h.none x (kept_mem _ _ hx))], fun x hx => by simp [Dk.crash] at hx⟩
theorem Keeps.start (d : Dk) (i : Nat) (b : Sec) (hi : i < d.secs.length) (hb : b.length ≤ 64) : Keeps (d.write i b).sync i (full b) := by
  have hc : d.there (i : Int) ∧ b.length ≤ 64 := ⟨⟨by omega, by omega⟩, hb⟩
  refine ⟨?_, fun x hx => by simp [Dk.sync] at hx⟩
  rw [Dk.write, if_pos hc, Dk.sync, done_at, List.getElem?_eq_getElem hi, Option.map_some, lastOf_snoc, if_pos (by simp)]

/-- a sector is never torn -/
theorem torn (d : Dk) (i : Nat) (keep : List Bool) (hi : i < d.secs.length) : (d.crash keep).read i = d.secs[i] ∨ ∃ x ∈ d.row, x.1 = i ∧ (d.crash keep).read i = x.2 := by
  unfold Dk.read Dk.crash
  rw [lastOf_nil, List.getD_eq_getElem?_getD, done_at, List.getElem?_eq_getElem hi, Option.map_some, Option.getD_some]
  rcases lastOf_is (kept d.row keep) i d.secs[i] with e | ⟨x, hx, h1, e⟩
  · exact Or.inl e
  · exact Or.inr ⟨x, kept_mem _ _ hx, h1, e⟩

end Go.Proofs.Ytbjbnjpdackloaa.D

namespace Go.Proofs.Ytbjbnjpdackloaa
open Go.RowKit

theorem elS : S.El Try.prog 29 9 1 16 := info_el (z := .string ⟨#[]⟩) Try.underlying29 (by kernel_rfl) rfl
theorem elI : S.El Try.prog 30 3 1 8 := info_el (z := .int .i64 0) Try.underlying30 (by kernel_rfl) rfl
theorem elT : S.El Try.prog 38 4 1 1 := info_el (z := .bool false) Try.underlying38 (by kernel_rfl) rfl

theorem own_bytes {w : World} {base : Nat} {v : Value} {a b : List UInt8} (h : w.ownsRow base 5 1 v (a.length + b.length) (bytesV a ++ bytesV b)) : w.ownsRow base 5 1 v (a ++ b).length (bytesV (a ++ b)) := by
  rw [bytesV_append, List.length_append]; exact h

set_option maxHeartbeats 1000000 in
set_option maxRecDepth 100000 in
theorem full_any (v : Value) (l : List UInt8) (w : World) (F : Nat → Prop) (hF : ∀ b, F b → b < w.heap.size) (h : SlB w F v l) (hl : l.length ≤ 1000000) :
    Calls Try.prog 25 #[v] w fun e w' => e = .returned (.string ⟨(D.full l).toArray⟩) ∧ Below w.heap.size w w' := by
  have hb0 : Below w.heap.size w (w.alloc (.cells #[] 5)) := (Below.refl _ _).alloc (Nat.le_refl _) _
  have HS := Lib.hid (h.below hb0 hF)
  go_enter Try.func25, Try.ntmps25
  go_wp2_with (at_builtin; refine S.wpList_append_sg elB rfl _ _ rfl (base := w.heap.size) (xs := []) (cs := bytesV l) rfl rfl (S.own_none 5 1 rfl (Nat.le_refl _)) HS.out (bytesV_one l) (by omega) (by omega) (by simp) ?_)
  intro v1 w1 hown hgrow _
  have hb1 : Below w.heap.size w w1 := hb0.grown hgrow hb0.size (fun j hj => by simp [Value.ownBlock] at hj; omega)
  clear HS hgrow
  go_wp2_with fail
  go_loopw [3] (fun v wr => ∃ L : List UInt8, D.full L = D.full l ∧ L.length ≤ 1000000 ∧ wr.ownsRow w.heap.size 5 1 v L.length (bytesV L) ∧ Below w.heap.size w wr) (fun v _ => 64 - (match v with | .slice _ n _ => n | _ => 0))
  case atStart => exact ⟨l, rfl, hl, hown, hb1⟩
  case round =>
    clear hown hb1
    obtain ⟨L, hL, hLl, hown, hb⟩ := hrel
    have HL := Lib.hid hL
    clear hL
    obtain ⟨A, cap, rfl, hc⟩ : ∃ A cap, u3 = .slice A L.length cap ∧ L.length ≤ cap := by
      obtain ⟨_, A, cap, e, hc, _⟩ := S.Sg.of_own hown
      exact ⟨A, cap, e, hc⟩
    by_cases hlt : L.length < 64
    · go_wp2_with (at_builtin; refine S.wpList_append_sg elB rfl _ _ rfl (base := w.heap.size) (xs := bytesV L) (cs := bytesV [0]) rfl rfl (hown.alloc _) (S.Sg.one wr 5 (.int .u8 0)) (bytesV_one _) (by omega) (by omega) (by have := hb.size; simp; omega) ?_)
      intro v2 w2 hown2 hgrow2 _
      have HN := Lib.hid (own_bytes (b := [0]) hown2)
      have HB := Lib.hid (S.below_app (hb.alloc hb.size _) (Nat.le_refl _) (hown.alloc _) hgrow2)
      obtain ⟨A2, cap2, rfl, hc2⟩ : ∃ A cap, v2 = .slice A (L.length + 1) cap ∧ L.length + 1 ≤ cap := by
        obtain ⟨_, A, cap, e, hc, _⟩ := S.Sg.of_own hown2
        exact ⟨A, cap, e, hc⟩
      clear hown2 hgrow2 hown hb
      go_wp2
      go_roundw
      case rel => exact ⟨L ++ [0], by rw [D.full_snoc hlt, HL.out], by simp; omega, HN.out, HB.out⟩
      case measure => simp; omega
    · have hcv := conv_own hown
      go_wp2
      go_ret
      exact ⟨ret_v (by rw [← HL.out, D.full_whole hlt]; rfl), hb⟩

end Go.Proofs.Ytbjbnjpdackloaa

namespace Go.Proofs.Ytbjbnjpdackloaa
open Go.RowKit

/-- the block p holds x, y, z, and may be written -/
structure B3 (w : World) (p : Nat) (x y z : Value) : Prop where
  lt : p < w.heap.size
  c0 : w.cell? ⟨p, 0, none⟩ = some x
  c1 : w.cell? ⟨p, 1, none⟩ = some y
  c2 : w.cell? ⟨p, 2, none⟩ = some z
  f0 : w.frozen? ⟨p, 0, none⟩ = false
  f1 : w.frozen? ⟨p, 1, none⟩ = false
  f2 : w.frozen? ⟨p, 2, none⟩ = false

section
variable {w w' : World} {p q B : Nat} {x y z u : Value}

theorem B3.new (w : World) (x y z : Value) (t : TypeId) {g : Nat} (hg : g = w.heap.size) : B3 (w.alloc (.cells #[x, y, z] t)) g x y z := by
  subst hg
  exact ⟨by simp, by simp, by simp, by simp, by simp, by simp, by simp⟩

theorem B3.below (h : B3 w p x y z) (hb : Below B w w') (hp : p < B) : B3 w' p x y z :=
  ⟨Nat.lt_of_lt_of_le h.lt hb.size, (hb.cell hp).trans h.c0, (hb.cell hp).trans h.c1, (hb.cell hp).trans h.c2, (hb.frozen hp).trans h.f0, (hb.frozen hp).trans h.f1, (hb.frozen hp).trans h.f2⟩

theorem B3.step (h : B3 w p x y z) (hb : Below w.heap.size w w') : B3 w' p x y z := h.below hb h.lt
theorem B3.alloc (h : B3 w p x y z) (o : Obj) : B3 (w.alloc o) p x y z := h.step ((Below.refl _ _).alloc (Nat.le_refl _) o)
theorem B3.drew (h : B3 w p x y z) : B3 w.drew p x y z := ⟨h.lt, h.c0, h.c1, h.c2, h.f0, h.f1, h.f2⟩

theorem blk_ne {q p : Nat} (h : q ≠ p) (o k : Nat) : (⟨q, o, none⟩ : Addr) ≠ ⟨p, k, none⟩ := fun e => by cases e; exact h rfl
theorem off_ne (q : Nat) {k j : Nat} (h : k ≠ j) : (⟨q, k, none⟩ : Addr) ≠ ⟨q, j, none⟩ := fun e => by cases e; exact h rfl

theorem B3.other (h : B3 w p x y z) (hq : q ≠ p) (o : Nat) (v : Value) : B3 (w.setCell ⟨q, o, none⟩ v) p x y z :=
  ⟨by have := h.lt; simpa [World.setCell] using this, (World.cell?_setCell_other w _ _ v (blk_ne hq o 0)).trans h.c0, (World.cell?_setCell_other w _ _ v (blk_ne hq o 1)).trans h.c1, (World.cell?_setCell_other w _ _ v (blk_ne hq o 2)).trans h.c2,
    by rw [World.frozen?_setCell]; exact h.f0, by rw [World.frozen?_setCell]; exact h.f1, by rw [World.frozen?_setCell]; exact h.f2⟩

theorem B3.set0 (h : B3 w p x y z) (v : Value) : B3 (w.setCell ⟨p, 0, none⟩ v) p v y z :=
  ⟨by have := h.lt; simpa [World.setCell] using this, World.cell?_setCell_same w _ v h.c0, (World.cell?_setCell_other w _ _ v (off_ne p (by decide))).trans h.c1, (World.cell?_setCell_other w _ _ v (off_ne p (by decide))).trans h.c2,
    by rw [World.frozen?_setCell]; exact h.f0, by rw [World.frozen?_setCell]; exact h.f1, by rw [World.frozen?_setCell]; exact h.f2⟩
theorem B3.set1 (h : B3 w p x y z) (v : Value) : B3 (w.setCell ⟨p, 1, none⟩ v) p x v z :=
  ⟨by have := h.lt; simpa [World.setCell] using this, (World.cell?_setCell_other w _ _ v (off_ne p (by decide))).trans h.c0, World.cell?_setCell_same w _ v h.c1, (World.cell?_setCell_other w _ _ v (off_ne p (by decide))).trans h.c2,
    by rw [World.frozen?_setCell]; exact h.f0, by rw [World.frozen?_setCell]; exact h.f1, by rw [World.frozen?_setCell]; exact h.f2⟩
theorem B3.set2 (h : B3 w p x y z) (v : Value) : B3 (w.setCell ⟨p, 2, none⟩ v) p x y v :=
  ⟨by have := h.lt; simpa [World.setCell] using this, (World.cell?_setCell_other w _ _ v (off_ne p (by decide))).trans h.c0, (World.cell?_setCell_other w _ _ v (off_ne p (by decide))).trans h.c1, World.cell?_setCell_same w _ v h.c2,
    by rw [World.frozen?_setCell]; exact h.f0, by rw [World.frozen?_setCell]; exact h.f1, by rw [World.frozen?_setCell]; exact h.f2⟩

/-- all three stored -/
theorem B3.setAll (h : B3 w p x y z) (x' y' z' : Value) : B3 (((w.setCell ⟨p, 0, none⟩ x').setCell ⟨p, 1, none⟩ y').setCell ⟨p, 2, none⟩ z') p x' y' z' := ((h.set0 x').set1 y').set2 z'

theorem load_b3 {P : Program} {ty : TypeId} {d : TypeDesc} (h : B3 w p x y z) (hu : P.underlying ty = some d) (hd : d.isRow = true) (hi : (P.info? ty).map (·.size) = some 3) : (loadVar ty ⟨p, 0, none⟩).run P w = .ok (.agg #[x, y, z]) w := by
  refine run_loadVar_mid (P := P) w p 0 ty [x, y, z] d ?_ hu hd hi
  intro j v hj
  match j, hj with
  | 0, hj => cases hj; exact h.c0
  | 1, hj => cases hj; exact h.c1
  | 2, hj => cases hj; exact h.c2

theorem results_b3 {P : Program} {fn : Func} {r : Tmp} {ty : TypeId} {d : TypeDesc} (hr : fn.results = #[.cell r ty]) (tmps : Array Value) (hp : tmps.getD r undef = .pointer (some ⟨p, 0, none⟩)) (h : B3 w p x y z)
    (hu : P.underlying ty = some d) (hd : d.isRow = true) (hi : (P.info? ty).map (·.size) = some 3) : (results fn tmps).run P w = .ok (.agg #[x, y, z]) w := by
  have hl := load_b3 h hu hd hi
  have hp' : tmps[r]?.getD undef = .pointer (some ⟨p, 0, none⟩) := by simpa using hp
  simp [results, hr, hp', asAddr, hl]

theorem results_b3_1 {P : Program} {fn : Func} {r s : Tmp} {ty : TypeId} {d : TypeDesc} (hr : fn.results = #[.cell r ty, .tmp s]) (tmps : Array Value) (hp : tmps.getD r undef = .pointer (some ⟨p, 0, none⟩)) (h : B3 w p x y z)
    (hu : P.underlying ty = some d) (hd : d.isRow = true) (hi : (P.info? ty).map (·.size) = some 3) : (results fn tmps).run P w = .ok (.tuple #[.agg #[x, y, z], tmps.getD s undef]) w := by
  have hl := load_b3 h hu hd hi
  have hp' : tmps[r]?.getD undef = .pointer (some ⟨p, 0, none⟩) := by simpa using hp
  simp [results, hr, hp', asAddr, hl]
end

end Go.Proofs.Ytbjbnjpdackloaa

namespace Go.Proofs.Ytbjbnjpdackloaa
open Go.RowKit

/-- v is the document's disk d, in blocks of which F holds -/
def Rd (w : World) (F : Nat → Prop) (v : Value) (d : D.Dk) : Prop :=
  ∃ a b c, v = .agg #[a, b, c] ∧ SlS w F a d.secs ∧ SlI w F b (d.row.map (·.1)) ∧ SlS w F c (d.row.map (·.2))

section
variable {w w' : World} {F G : Nat → Prop} {B : Nat} {v : Value} {d : D.Dk}

theorem Rd.keep (h : Rd w F v d) (hk : ∀ p : Addr, F p.block → w'.cell? p = w.cell? p) : Rd w' F v d := by
  obtain ⟨a, b, c, e, h1, h2, h3⟩ := h
  exact ⟨a, b, c, e, h1.keep hk, h2.keep hk, h3.keep hk⟩
theorem Rd.below (h : Rd w F v d) (hb : Below B w w') (hF : ∀ b, F b → b < B) : Rd w' F v d := h.keep fun _ hp => hb.cell (hF _ hp)
theorem Rd.wider (h : Rd w F v d) (hF : ∀ b, F b → G b) : Rd w G v d := by
  obtain ⟨a, b, c, e, h1, h2, h3⟩ := h
  exact ⟨a, b, c, e, h1.wider hF, h2.wider hF, h3.wider hF⟩
theorem Rd.set (h : Rd w F v d) {p : Nat} (hp : ¬ F p) (o : Nat) (u : Value) : Rd (w.setCell ⟨p, o, none⟩ u) F v d := by
  obtain ⟨a, b, c, e, h1, h2, h3⟩ := h
  exact ⟨a, b, c, e, h1.set hp o u, h2.set hp o u, h3.set hp o u⟩
theorem Rd.form (h : Rd w F v d) : ∃ A1 c1 A2 c2 A3 c3, v = .agg #[.slice A1 d.secs.length c1, .slice A2 d.row.length c2, .slice A3 d.row.length c3] := by
  obtain ⟨a, b, c, rfl, ⟨_, A1, c1, rfl, _⟩, ⟨_, A2, c2, rfl, _⟩, ⟨_, A3, c3, rfl, _⟩⟩ := h
  exact ⟨A1, c1, A2, c2, A3, c3, by rw [List.length_map, List.length_map]⟩
end

theorem undDisk : Try.prog.underlying 32 = some (.struct (Try.prog.fieldsOf 32)) := by kernel_rfl
theorem infoDisk : (Try.prog.info? 32).map (·.size) = some 3 := by kernel_rfl

abbrev nilV : Value := .slice none 0 0

theorem own_str {w : World} {base : Nat} {v : Value} {a b : List (List UInt8)} (h : w.ownsRow base 9 1 v (a.length + b.length) (strV a ++ strV b)) : w.ownsRow base 9 1 v (a ++ b).length (strV (a ++ b)) := by
  rw [strV_append, List.length_append]; exact h

set_option maxRecDepth 100000 in
set_option maxHeartbeats 1000000 in
theorem rnew_any (n : Nat) (w : World) (hn : n ≤ 1024) :
    Calls Try.prog 12 #[.int .i64 n] w fun e w' => ∃ v, e = .returned v ∧ Rd w' (S.New w w') v ⟨List.replicate n (D.full []), []⟩ ∧ Below w.heap.size w w' := by
  have I0 := (B3.new w nilV nilV nilV 32 rfl).alloc (.cells #[nilV, nilV, nilV] 32)
  have J0 := B3.new (w.alloc (.cells #[nilV, nilV, nilV] 32)) nilV nilV nilV 32 (g := w.heap.size + 1) (by simp)
  have hb0 : Below w.heap.size w ((w.alloc (.cells #[nilV, nilV, nilV] 32)).alloc (.cells #[nilV, nilV, nilV] 32)) := ((Below.refl _ _).alloc (Nat.le_refl _) _).alloc (by simp) _
  have hz0 : ((w.alloc (.cells #[nilV, nilV, nilV] 32)).alloc (.cells #[nilV, nilV, nilV] 32)).heap.size = w.heap.size + 2 := by simp
  go_enter Try.func12, Try.ntmps12
  go_wp2_with fail
  go_loopw [4] (fun i wr => ∃ (k : Nat) (vs : Value), k ≤ n ∧ i = .int .i64 k ∧ B3 wr w.heap.size nilV nilV nilV ∧ B3 wr (w.heap.size + 1) vs nilV nilV ∧ wr.ownsRow (w.heap.size + 2) 9 1 vs (List.replicate k (D.full [])).length (strV (List.replicate k (D.full []))) ∧ Below w.heap.size w wr ∧ w.heap.size + 2 ≤ wr.heap.size) (fun i _ => n - (intOf i).toNat)
  case atStart => exact ⟨0, nilV, Nat.zero_le _, rfl, I0, J0, S.own_nil _ _ _ _, hb0, by simp⟩
  case round =>
    clear I0 J0 hb0 hz0
    obtain ⟨k, vs, hk, rfl, I, J, hown, hb, hz⟩ := hrel
    have hlen : (List.replicate k (D.full [])).length = k := by simp
    by_cases hlt : k < n
    · generalize hq : w.heap.size + 1 = q at J ⊢
      have hq2 : w.heap.size + 2 = q + 1 := by omega
      rw [hq2] at hown hz
      obtain ⟨A, cap, rfl, hc⟩ : ∃ A cap, vs = .slice A (List.replicate k (D.full [])).length cap ∧ (List.replicate k (D.full [])).length ≤ cap := by
        obtain ⟨_, A, cap, e, hc, _⟩ := S.Sg.of_own hown
        exact ⟨A, cap, e, hc⟩
      obtain ⟨z, hz'⟩ : ∃ z, z = D.full [] := ⟨_, rfl⟩
      have HF := Lib.hid (fun w => by have := full_any (.slice none 0 0) [] w (fun _ => False) (fun _ h => h.elim) (S.Sg.nil ..) (by simp); rw [← hz'] at this; exact this)
      rw [← hz'] at hown hlen hc J
      have HZ := Lib.hid hz'
      clear hz'
      obtain ⟨L, hL⟩ : ∃ L, L = List.replicate k z := ⟨_, rfl⟩
      rw [← hL] at hown hlen hc J
      have HL := Lib.hid hL
      clear hL
      have c0 := J.c0
      have hl' : L.length < 1024 := by omega
      clear hlen
      go_wp2_with fail
      go_region_law
        (first
          | (go_simp
             go_at_call 25
             refine (HF.out _).mono ?_
             rintro e w2 ⟨rfl, hbn⟩
             have I2 := I.drew.step hbn
             have J2 := J.drew.step hbn
             have hown2 := S.own_below hown.drew hbn
             have hb2 := hb.drew.trans (hbn.mono hb.drew.size)
             have hz2 : q + 1 ≤ w2.heap.size := Nat.le_trans hz hbn.size
             have hA := J2.c0
             have hA' := (J2.alloc (.cells #[.string ⟨z.toArray⟩] 9)).c0
             go_simp)
          | (refine S.step_append_sg elS (by rfl) _ _ (by rfl) (base := q + 1) (xs := strV L) (cs := strV [z]) (by rfl) (by rfl) (hown2.alloc _) (S.Sg.one w2 9 (.string ⟨z.toArray⟩)) (strV_one _) (by omega) (by omega) (by simp; omega) ?_
             intro v3 w3 hown3 hgrow3 _hbl
             obtain ⟨_, A3, cap3, rfl, hc3, _⟩ := S.Sg.of_own hown3
             have hbb := S.below_base (hown2.alloc _) (by simp; omega) hgrow3
             have I3 := (I2.alloc (.cells #[.string ⟨z.toArray⟩] 9)).below hbb (by omega)
             have J3 := (J2.alloc (.cells #[.string ⟨z.toArray⟩] 9)).below hbb (by omega)
             have hb3 := (hb2.alloc hb2.size (.cells #[.string ⟨z.toArray⟩] 9)).trans (hbb.mono (by omega))
             have hz3 : q + 1 ≤ w3.heap.size := Nat.le_trans hz2 (Nat.le_trans (by simp) hbb.size)
             have hA := J3.c0
             have hF := J3.f0))
      all_goals (try go_wp2)
      all_goals go_roundw
      all_goals first
        | exact ⟨k + 1, _, by omega, by go_num, I3.other (by omega) _ _, J3.set0 _, by
            rw [List.replicate_succ', ← HZ.out, ← HL.out, hq2]; exact S.own_set (own_str hown3) (by omega) _ _, hb3.setCell (by show _ ≤ q; omega) _, by
            rw [hq2]; simpa [World.setCell] using hz3⟩
        | (simp [intOf]; omega)
    · obtain rfl : k = n := by omega
      obtain ⟨A, cap, rfl, hc⟩ : ∃ A cap, vs = .slice A (List.replicate k (D.full [])).length cap ∧ (List.replicate k (D.full [])).length ≤ cap := by
        obtain ⟨_, A, cap, e, hc, _⟩ := S.Sg.of_own hown
        exact ⟨A, cap, e, hc⟩
      generalize hq : w.heap.size + 1 = q at J ⊢
      generalize hL : (List.replicate k (D.full [])).length = m at *
      obtain ⟨_, c0, c1, c2, f0, f1, f2⟩ := id I
      obtain ⟨_, d0, d1, d2, _⟩ := id J
      have I4 := I.setAll (.slice A m cap) nilV nilV
      have hown4 := S.own_set (S.own_set (S.own_set hown (p := w.heap.size) (by omega) 0 (.slice A m cap)) (p := w.heap.size) (by omega) 1 nilV) (p := w.heap.size) (by omega) 2 nilV
      have hb4 := ((hb.setCell (p := ⟨w.heap.size, 0, none⟩) (Nat.le_refl _) (.slice A m cap)).setCell (p := ⟨w.heap.size, 1, none⟩) (Nat.le_refl _) nilV).setCell (p := ⟨w.heap.size, 2, none⟩) (Nat.le_refl _) nilV
      clear hlen
      go_wp2_with fail
      refine bodyPost_ret (results_b3 rfl _ rfl I4 undDisk rfl infoDisk) rfl ?_
      subst hL
      exact ⟨_, rfl, ⟨_, _, _, rfl, (S.Sg.of_own hown4).wider (fun b h => ⟨by omega, h.2⟩), S.Sg.nil .., S.Sg.nil ..⟩, hb4⟩

end Go.Proofs.Ytbjbnjpdackloaa

namespace Go.Proofs.Ytbjbnjpdackloaa
open Go.RowKit

theorem own_int {w : World} {base : Nat} {v : Value} {a b : List Nat} (h : w.ownsRow base 3 1 v (a.length + b.length) (intV a ++ intV b)) : w.ownsRow base 3 1 v (a ++ b).length (intV (a ++ b)) := by
  rw [intV_append, List.length_append]; exact h

theorem Sg_form {w : World} {F : Nat → Prop} {k n : Nat} {v : Value} {cs : List Value} (h : S.Sg w F k v n cs) : ∃ A cap, v = .slice A n cap ∧ n ≤ cap := by
  obtain ⟨_, A, cap, e, hc, _⟩ := h
  exact ⟨A, cap, e, hc⟩

theorem two_new {w : World} {o o' : Obj} : Below w.heap.size w ((w.alloc o).alloc o') := ((Below.refl _ _).alloc (Nat.le_refl _) _).alloc (by simp) _

set_option maxRecDepth 100000 in
set_option maxHeartbeats 1000000 in
/-- where nothing is written -/
theorem rwrite_no (v vb : Value) (d : D.Dk) (i : Int) (l : List UInt8) (w : World) (F : Nat → Prop) (hF : ∀ b, F b → b < w.heap.size) (h : Rd w F v d) (G : Nat → Prop) (hb : SlB w G vb l) (hl : l.length ≤ 1000000) (hno : ¬ (d.there i ∧ l.length ≤ 64)) :
    Calls Try.prog 30 #[v, .int .i64 i, vb] w fun e w' => ∃ v', e = .returned (.tuple #[v', .int .i64 (d.bad i l)]) ∧ Rd w' (fun b => F b ∨ S.New w w' b) v' (d.write i l) ∧ Below w.heap.size w w' := by
  have HR := Lib.hid h
  obtain ⟨a, b, c, rfl, h1, h2, h3⟩ := h
  obtain ⟨A1, cap1, rfl, hc1⟩ := Sg_form h1
  obtain ⟨A2, cap2, rfl, hc2⟩ := Sg_form h2
  obtain ⟨A3, cap3, rfl, hc3⟩ := Sg_form h3
  obtain ⟨Ab, capb, rfl, hcb⟩ := Sg_form hb
  rw [show d.write i l = d by rw [D.Dk.write, if_neg hno]]
  simp only [List.length_map] at hc1 hc2 hc3 h1 h2 h3
  clear h1 h2 h3 hb
  generalize hm : (List.map (fun x => x.1) d.row).length = m at *
  generalize hm' : (List.map (fun x => x.2) d.row).length = m' at *
  have R1 := B3.new (w.alloc (.cells #[.slice A1 d.secs.length cap1, .slice A2 m cap2, .slice A3 m' cap3] 32)) (.slice A1 d.secs.length cap1) (.slice A2 m cap2) (.slice A3 m' cap3) 32 (g := w.heap.size + 1) (by simp)
  have hb2 := two_new (w := w) (o := .cells #[.slice A1 d.secs.length cap1, .slice A2 m cap2, .slice A3 m' cap3] 32) (o' := .cells #[.slice A1 d.secs.length cap1, .slice A2 m cap2, .slice A3 m' cap3] 32)
  have HR2 := Lib.hid (HR.out.below hb2 hF)
  by_cases h0 : i < 0
  · rw [show d.bad i l = 11 by rw [D.Dk.bad, if_neg (fun g => by have := g.1; omega)]]
    go_enter Try.func30, Try.ntmps30
    go_wp2
    refine bodyPost_ret (results_b3_1 rfl _ rfl R1 undDisk rfl infoDisk) rfl ?_
    exact ⟨_, rfl, HR2.out.wider (fun b h => Or.inl h), hb2⟩
  · by_cases h1 : (d.secs.length : Int) ≤ i
    · rw [show d.bad i l = 11 by rw [D.Dk.bad, if_neg (fun g => by have := g.2; omega)]]
      go_enter Try.func30, Try.ntmps30
      go_wp2
      refine bodyPost_ret (results_b3_1 rfl _ rfl R1 undDisk rfl infoDisk) rfl ?_
      exact ⟨_, rfl, HR2.out.wider (fun b h => Or.inl h), hb2⟩
    · have ht : d.there i := ⟨by omega, by omega⟩
      have hl64 : 64 < l.length := by
        have : ¬ l.length ≤ 64 := fun g => hno ⟨ht, g⟩
        omega
      rw [show d.bad i l = 1 by rw [D.Dk.bad, if_pos ht, if_neg (by omega)]]
      go_enter Try.func30, Try.ntmps30
      go_wp2
      refine bodyPost_ret (results_b3_1 rfl _ rfl R1 undDisk rfl infoDisk) rfl ?_
      exact ⟨_, rfl, HR2.out.wider (fun b h => Or.inl h), hb2⟩

set_option maxRecDepth 100000 in
set_option maxHeartbeats 2000000 in
/-- where something is written -/
theorem rwrite_yes (v vb : Value) (d : D.Dk) (i : Nat) (l : List UInt8) (w : World) (F : Nat → Prop) (hF : ∀ b, F b → b < w.heap.size) (h : Rd w F v d) (G : Nat → Prop) (hG : ∀ b, G b → b < w.heap.size) (hb : SlB w G vb l) (hr : d.row.length ≤ 1000000) (hi : i < d.secs.length) (hl : l.length ≤ 64) :
    Calls Try.prog 30 #[v, .int .i64 i, vb] w fun e w' => ∃ v', e = .returned (.tuple #[v', .int .i64 (d.bad i l)]) ∧ Rd w' (fun b => F b ∨ S.New w w' b) v' (d.write i l) ∧ Below w.heap.size w w' := by
  have ht : d.there (i : Int) := ⟨by omega, by omega⟩
  rw [show d.bad (i : Int) l = 0 by rw [D.Dk.bad, if_pos ht, if_pos hl], show d.write (i : Int) l = ⟨d.secs, d.row ++ [(i, D.full l)]⟩ by rw [D.Dk.write, if_pos ⟨ht, hl⟩]; rfl]
  have HB := Lib.hid hb
  obtain ⟨a, b, c, rfl, h1, h2, h3⟩ := h
  have H1 := Lib.hid h1
  obtain ⟨A1, cap1, rfl, hc1⟩ := Sg_form h1
  obtain ⟨A2, cap2, rfl, hc2⟩ := Sg_form h2
  obtain ⟨A3, cap3, rfl, hc3⟩ := Sg_form h3
  obtain ⟨Ab, capb, rfl, hcb⟩ := Sg_form hb
  have H2 := Lib.hid h2
  have H3 := Lib.hid h3
  clear h1 h2 h3 hb ht
  have hm : (List.map (fun x => x.1) d.row).length ≤ 1000000 := by simp; exact hr
  have hm' : (List.map (fun x => x.2) d.row).length ≤ 1000000 := by simp; exact hr
  obtain ⟨r1, hr1⟩ : ∃ r1, r1 = List.map (fun x => x.1) d.row := ⟨_, rfl⟩
  obtain ⟨r2, hr2⟩ : ∃ r2, r2 = List.map (fun x => x.2) d.row := ⟨_, rfl⟩
  rw [← hr1] at H2 hc2 hm ⊢
  rw [← hr2] at H3 hc3 hm' ⊢
  have HR := Lib.hid (And.intro hr1 hr2)
  clear hr1 hr2
  have P0 := ((B3.new w (.slice A1 d.secs.length cap1) (.slice A2 r1.length cap2) (.slice A3 r2.length cap3) 32 rfl).alloc (.cells #[nilV, nilV, nilV] 32)).alloc (.cells #[.slice A1 d.secs.length cap1, nilV, nilV] 32)
  have R0 := (B3.new (w.alloc (.cells #[.slice A1 d.secs.length cap1, .slice A2 r1.length cap2, .slice A3 r2.length cap3] 32)) nilV nilV nilV 32 (g := w.heap.size + 1) (by simp)).alloc (.cells #[.slice A1 d.secs.length cap1, nilV, nilV] 32)
  have O0 := B3.new ((w.alloc (.cells #[.slice A1 d.secs.length cap1, .slice A2 r1.length cap2, .slice A3 r2.length cap3] 32)).alloc (.cells #[nilV, nilV, nilV] 32)) (.slice A1 d.secs.length cap1) nilV nilV 32 (g := w.heap.size + 1 + 1) (by simp)
  have hb0 := (two_new (w := w) (o := .cells #[.slice A1 d.secs.length cap1, .slice A2 r1.length cap2, .slice A3 r2.length cap3] 32) (o' := .cells #[nilV, nilV, nilV] 32)).alloc (by simp; omega) (.cells #[.slice A1 d.secs.length cap1, nilV, nilV] 32)
  have hz0 : (((w.alloc (.cells #[.slice A1 d.secs.length cap1, .slice A2 r1.length cap2, .slice A3 r2.length cap3] 32)).alloc (.cells #[nilV, nilV, nilV] 32)).alloc (.cells #[.slice A1 d.secs.length cap1, nilV, nilV] 32)).heap.size = w.heap.size + 1 + 1 + 1 := by simp
  have P0 := Lib.hid P0
  have R0 := Lib.hid R0
  have O0 := Lib.hid O0
  have hz0 := Lib.hid hz0
  go_enter Try.func30, Try.ntmps30
  go_wp2_with (at_builtin; refine S.wpList_append_sg elI rfl _ _ rfl (base := w.heap.size + 1 + 1 + 1) (xs := []) (cs := intV r1) rfl rfl (S.own_none 3 1 hz0.out.symm (Nat.le_refl _)) (H2.out.below (hb0.alloc hb0.size _) hF) (intV_one _) (by omega) (by omega) (by rw [← hz0.out]; simp) ?_)
  intro v1 w1 hown1 hgrow1 _
  have hbb1 := S.below_base (S.own_none 3 1 hz0.out.symm (Nat.le_refl _)) (by rw [← hz0.out]; simp) hgrow1
  have P1 := (P0.out.alloc (.cells #[] 3)).below hbb1 (by omega)
  have R1 := (R0.out.alloc (.cells #[] 3)).below hbb1 (by omega)
  have O1 := (O0.out.alloc (.cells #[] 3)).below hbb1 (by omega)
  have hb1 := (hb0.alloc hb0.size (.cells #[] 3)).trans (hbb1.mono (by omega))
  have hz1 : w.heap.size + 1 + 1 + 1 ≤ w1.heap.size := Nat.le_trans (Nat.le_trans (Nat.le_of_eq hz0.out.symm) (by simp)) hbb1.size
  clear hbb1 P0 R0 O0 hb0 hz0 hgrow1
  generalize hbs : w.heap.size + 1 + 1 + 1 = base at *
  generalize ho : w.heap.size + 1 + 1 = o at *
  generalize hrr : w.heap.size + 1 = r at *
  have P1 := Lib.hid P1
  have R1 := Lib.hid R1
  have O1 := Lib.hid O1
  go_wp2_with (at_builtin; refine S.wpList_append_sg elI rfl _ _ rfl (base := base) (xs := intV r1) (cs := intV [i]) rfl rfl (hown1.alloc _) (S.Sg.one w1 3 (.int .i64 (i : Int))) (intV_one _) (by omega) (by omega) (by simp; omega) ?_)
  intro v2 w2 hown2 hgrow2 _
  have hbb2 := S.below_base (hown1.alloc (.cells #[.int .i64 (i : Int)] 3)) (by simp; omega) hgrow2
  have P2 := (P1.out.alloc (.cells #[.int .i64 (i : Int)] 3)).below hbb2 (by omega)
  have R2 := (R1.out.alloc (.cells #[.int .i64 (i : Int)] 3)).below hbb2 (by omega)
  have O2 := (O1.out.alloc (.cells #[.int .i64 (i : Int)] 3)).below hbb2 (by omega)
  have hb2 := (hb1.alloc hb1.size (.cells #[.int .i64 (i : Int)] 3)).trans (hbb2.mono (by omega))
  have hz2 : base ≤ w2.heap.size := Nat.le_trans (Nat.le_trans hz1 (by simp)) hbb2.size
  have hownA := own_int (b := [i]) hown2
  obtain ⟨A4, cap4, rfl, hc4⟩ := Sg_form (S.Sg.of_own hown2)
  clear hbb2 P1 R1 O1 hb1 hz1 hgrow2 hown1 hown2
  have P3 := P2.other (q := o) (by omega) 1 (.slice A4 (r1.length + 1) cap4)
  have R3 := R2.other (q := o) (by omega) 1 (.slice A4 (r1.length + 1) cap4)
  have O3 := O2.set1 (.slice A4 (r1.length + 1) cap4)
  have hb3 := hb2.setCell (p := ⟨o, 1, none⟩) (by show _ ≤ o; omega) (.slice A4 (r1.length + 1) cap4)
  have hltA : ∀ j, (Value.slice A4 (r1.length + 1) cap4).ownBlock = some j → j < w2.heap.size := fun j hj => (World.ownsRow.lt hownA j hj).2
  have hA3 := S.own_set hownA (p := o) (by omega) 1 (.slice A4 (r1.length + 1) cap4)
  have hz3 : base ≤ (w2.setCell ⟨o, 1, none⟩ (.slice A4 (r1.length + 1) cap4)).heap.size := by simpa [World.setCell] using hz2
  have hsz : (w2.setCell ⟨o, 1, none⟩ (.slice A4 (r1.length + 1) cap4)).heap.size = w2.heap.size := by simp [World.setCell]
  have P3 := Lib.hid P3
  have R3 := Lib.hid R3
  have O3 := Lib.hid O3
  have hA3 := Lib.hid hA3
  have hb3 := Lib.hid hb3
  have hsz := Lib.hid hsz
  obtain ⟨_, p0, p1, p2, _⟩ := P2
  obtain ⟨_, o0, o1, o2, of0, of1, of2⟩ := O2
  clear hb2 hownA R2 hz3
  go_wp2_with (at_builtin; refine S.wpList_append_sg elS rfl _ _ rfl (base := w2.heap.size) (xs := []) (cs := strV r2) rfl rfl (S.own_none 9 1 hsz.out.symm (Nat.le_refl _)) (H3.out.below (hb3.out.alloc hb3.out.size _) hF) (strV_one _) (by omega) (by omega) (by rw [← hsz.out]; simp) ?_)
  intro v5 w5 hown5 hgrow5 _
  have hbb5 := S.below_base (S.own_none 9 1 hsz.out.symm (Nat.le_refl _)) (by rw [← hsz.out]; simp) hgrow5
  have P5 := (P3.out.alloc (.cells #[] 9)).below hbb5 (by omega)
  have R5 := (R3.out.alloc (.cells #[] 9)).below hbb5 (by omega)
  have O5 := (O3.out.alloc (.cells #[] 9)).below hbb5 (by omega)
  have hA5 := S.own_under (hA3.out.alloc (.cells #[] 9)) hbb5 hltA
  have hb5 := (hb3.out.alloc hb3.out.size (.cells #[] 9)).trans (hbb5.mono (by omega))
  have hz5 : w2.heap.size ≤ w5.heap.size := Nat.le_trans (Nat.le_trans (Nat.le_of_eq hsz.out.symm) (by simp)) hbb5.size
  clear hbb5 P3 R3 O3 hA3 hb3 hsz hgrow5 p0 p1 p2 o0 o1 o2 of0 of1 of2
  have HF := Lib.hid (full_any (.slice Ab l.length capb) l w5 G (fun b h => Nat.lt_of_lt_of_le (hG b h) hb5.size) (HB.out.below hb5 hG) (by omega))
  go_wp2_with fail
  refine HF.out.mono ?_
  rintro e w6 ⟨rfl, hbn⟩
  have P6 := P5.step hbn
  have R6 := R5.step hbn
  have O6 := O5.step hbn
  have hA6 := S.own_below hA5 hbn
  have hb6 := hb5.trans (hbn.mono hb5.size)
  have hown6 := S.own_below hown5 hbn
  have hz6 : w2.heap.size ≤ w6.heap.size := Nat.le_trans hz5 hbn.size
  clear HF hbn P5 R5 O5 hA5 hb5 hown5 hz5
  obtain ⟨zl, hzl⟩ : ∃ zl, zl = D.full l := ⟨_, rfl⟩
  rw [← hzl]
  have HZ := Lib.hid hzl
  clear hzl
  go_wp2_with (at_builtin; refine S.wpList_append_sg elS rfl _ _ rfl (base := w2.heap.size) (xs := strV r2) (cs := strV [zl]) rfl rfl (hown6.alloc _) (S.Sg.one w6 9 (.string ⟨zl.toArray⟩)) (strV_one _) (by omega) (by omega) (by simp; omega) ?_)
  intro v7 w7 hown7 hgrow7 _
  have hbb7 := S.below_base (hown6.alloc (.cells #[.string ⟨zl.toArray⟩] 9)) (by simp; omega) hgrow7
  have P7 := (P6.alloc (.cells #[.string ⟨zl.toArray⟩] 9)).below hbb7 (by omega)
  have R7 := (R6.alloc (.cells #[.string ⟨zl.toArray⟩] 9)).below hbb7 (by omega)
  have O7 := (O6.alloc (.cells #[.string ⟨zl.toArray⟩] 9)).below hbb7 (by omega)
  have hA7 := S.own_under (hA6.alloc (.cells #[.string ⟨zl.toArray⟩] 9)) hbb7 hltA
  have hb7 := (hb6.alloc hb6.size (.cells #[.string ⟨zl.toArray⟩] 9)).trans (hbb7.mono (by omega))
  have hz7 : w2.heap.size ≤ w7.heap.size := Nat.le_trans (Nat.le_trans hz6 (by simp)) hbb7.size
  have hownB := own_str (b := [zl]) hown7
  obtain ⟨A8, cap8, rfl, hc8⟩ := Sg_form (S.Sg.of_own hown7)
  clear hbb7 P6 R6 O6 hA6 hb6 hown6 hown7 hz6 hgrow7 P7
  obtain ⟨_, o0, o1, o2, of0, of1, of2⟩ := id O7
  obtain ⟨_, q0, q1, q2, qf0, qf1, qf2⟩ := id R7
  have R8 := (R7.other (q := o) (by omega) 2 (.slice A8 (r2.length + 1) cap8)).setAll (.slice A1 d.secs.length cap1) (.slice A4 (r1.length + 1) cap4) (.slice A8 (r2.length + 1) cap8)
  have hA8 := S.own_set (S.own_set (S.own_set (S.own_set hA7 (p := o) (by omega) 2 (.slice A8 (r2.length + 1) cap8)) (p := r) (by omega) 0 (.slice A1 d.secs.length cap1)) (p := r) (by omega) 1 (.slice A4 (r1.length + 1) cap4)) (p := r) (by omega) 2 (.slice A8 (r2.length + 1) cap8)
  have hB8 := S.own_set (S.own_set (S.own_set (S.own_set hownB (p := o) (by omega) 2 (.slice A8 (r2.length + 1) cap8)) (p := r) (by omega) 0 (.slice A1 d.secs.length cap1)) (p := r) (by omega) 1 (.slice A4 (r1.length + 1) cap4)) (p := r) (by omega) 2 (.slice A8 (r2.length + 1) cap8)
  have hb8 := (((hb7.setCell (p := ⟨o, 2, none⟩) (by show _ ≤ o; omega) (.slice A8 (r2.length + 1) cap8)).setCell (p := ⟨r, 0, none⟩) (by show _ ≤ r; omega) (.slice A1 d.secs.length cap1)).setCell (p := ⟨r, 1, none⟩) (by show _ ≤ r; omega) (.slice A4 (r1.length + 1) cap4)).setCell (p := ⟨r, 2, none⟩) (by show _ ≤ r; omega) (.slice A8 (r2.length + 1) cap8)
  have HE := Lib.hid (And.intro hA8 hB8)
  have HS := Lib.hid (H1.out.below hb8 hF)
  have nor : ¬ o = r := by omega
  have nro : ¬ r = o := by omega
  clear hA8 hB8 hA7 hownB R7 O7 hb7
  go_wp2_with fail
  refine bodyPost_ret (results_b3_1 rfl _ rfl R8 undDisk rfl infoDisk) rfl ?_
  refine ⟨_, rfl, ⟨_, _, _, rfl, HS.out.wider (fun b h => Or.inl h), ?_, ?_⟩, hb8⟩
  · rw [List.map_append, ← HR.out.1]; exact (S.Sg.of_own HE.out.1).wider (fun b h => Or.inr ⟨by omega, h.2⟩)
  · rw [List.map_append, ← HR.out.2, ← HZ.out]; exact (S.Sg.of_own HE.out.2).wider (fun b h => Or.inr ⟨by omega, h.2⟩)

theorem rwrite_any (v vb : Value) (d : D.Dk) (i : Int) (l : List UInt8) (w : World) (F : Nat → Prop) (hF : ∀ b, F b → b < w.heap.size) (h : Rd w F v d) (G : Nat → Prop) (hG : ∀ b, G b → b < w.heap.size) (hb : SlB w G vb l) (hr : d.row.length ≤ 1000000) (hl : l.length ≤ 1000000) :
    Calls Try.prog 30 #[v, .int .i64 i, vb] w fun e w' => ∃ v', e = .returned (.tuple #[v', .int .i64 (d.bad i l)]) ∧ Rd w' (fun b => F b ∨ S.New w w' b) v' (d.write i l) ∧ Below w.heap.size w w' := by
  by_cases hc : d.there i ∧ l.length ≤ 64
  · obtain ⟨⟨h0, h1⟩, h2⟩ := hc
    obtain ⟨k, rfl⟩ := Int.eq_ofNat_of_zero_le h0
    exact rwrite_yes v vb d k l w F hF h G hG hb hr (by omega) h2
  · exact rwrite_no v vb d i l w F hF h G hb hl hc

end Go.Proofs.Ytbjbnjpdackloaa

namespace Go.Proofs.Ytbjbnjpdackloaa
open Go.RowKit

theorem Sg_at {w : World} {F : Nat → Prop} {n : Nat} {v : Value} {cs : List Value} (h : S.Sg w F 1 v n cs) (k : Nat) (hk : k < n) : ∃ a cap, v = .slice (some a) n cap ∧ n ≤ cap ∧ F a.block ∧ w.cell? (a.add k) = cs[k]? := by
  obtain ⟨hl, A, cap, e, hc, hx⟩ := h
  obtain ⟨a, rfl, hb, hx⟩ := hx (by omega)
  have hk' : k < cs.length := by omega
  exact ⟨a, cap, e, hc, hb, by rw [hx k _ (List.getElem?_eq_getElem hk'), List.getElem?_eq_getElem hk']⟩

/-- what a read tells -/
def rdV (d : D.Dk) (i : Int) : Value := if d.there i then .tuple #[.string ⟨(d.read i.toNat).toArray⟩, .int .i64 0] else .tuple #[.string ⟨#[]⟩, .int .i64 11]

set_option maxRecDepth 100000 in
set_option maxHeartbeats 1000000 in
theorem rread_any (v : Value) (d : D.Dk) (i : Int) (w : World) (F : Nat → Prop) (hF : ∀ b, F b → b < w.heap.size) (h : Rd w F v d) (hr : d.row.length ≤ 1000000) (_hn : d.secs.length ≤ 1000000) :
    Calls Try.prog 36 #[v, .int .i64 i] w fun e w' => e = .returned (rdV d i) ∧ Below w.heap.size w w' := by
  obtain ⟨a, b, c, rfl, h1, h2, h3⟩ := h
  have h2 : S.Sg w F 1 b (d.row.map (·.1)).length (intV (d.row.map (·.1))) := h2
  have h3 : S.Sg w F 1 c (d.row.map (·.2)).length (strV (d.row.map (·.2))) := h3
  rw [List.length_map] at h2 h3
  obtain ⟨A1, cap1, rfl, hc1⟩ := Sg_form h1
  obtain ⟨A2, cap2, rfl, hc2⟩ := Sg_form h2
  obtain ⟨A3, cap3, rfl, hc3⟩ := Sg_form h3
  have H1 := Lib.hid h1
  have H2 := Lib.hid h2
  have H3 := Lib.hid h3
  clear h1 h2 h3
  have hb1 : Below w.heap.size w (w.alloc (.cells #[.slice A1 d.secs.length cap1, .slice A2 d.row.length cap2, .slice A3 d.row.length cap3] 32)) := (Below.refl _ _).alloc (Nat.le_refl _) _
  have hP := B3.new w (.slice A1 d.secs.length cap1) (.slice A2 d.row.length cap2) (.slice A3 d.row.length cap3) 32 rfl
  by_cases ht : d.there i
  · obtain ⟨k, rfl⟩ := Int.eq_ofNat_of_zero_le ht.1
    have hi := ht.2
    have hi' : k < d.secs.length := by omega
    rw [rdV, if_pos ht, Int.toNat_natCast]
    clear ht
    go_enter Try.func36, Try.ntmps36
    go_wp2_with fail
    generalize w.alloc (.cells #[.slice A1 d.secs.length cap1, .slice A2 d.row.length cap2, .slice A3 d.row.length cap3] 32) = w1 at hb1 hP
    generalize w.heap.size = p at hP
    obtain ⟨_, p0, p1, p2, _⟩ := hP
    go_loop [6] (fun x => ∃ m : Nat, m ≤ d.row.length ∧ x = .int .i64 ((m : Int) - 1) ∧ Hid (∀ j (hj : j < d.row.length), m ≤ j → d.row[j].1 ≠ k)) (fun x => (intOf x + 1).toNat)
    case atStart => exact ⟨d.row.length, Nat.le_refl _, by go_num, Lib.hid (fun j hj hm => by omega)⟩
    case round =>
      obtain ⟨m, hm, rfl, HN⟩ := hrel
      cases m with
      | zero =>
        obtain ⟨a1, cap1', e1, _, hab, hcell⟩ := Sg_at H1.out k hi'
        cases e1
        have hc : w1.cell? (a1.add k) = some (.string ⟨d.secs[k].toArray⟩) := by
          rw [hb1.cell (by rw [S.add_block]; exact hF _ hab), hcell, strV_at _ _ hi']
        clear hcell
        have HQ : Hid (d.read k = d.secs[k]) := Lib.hid (by
          rw [D.Dk.read, D.lastOf_none (fun x hx => by
            obtain ⟨j, hj, rfl⟩ := List.getElem_of_mem hx
            exact HN.out j hj (Nat.zero_le _)), List.getD_eq_getElem?_getD, List.getElem?_eq_getElem hi']; rfl)
        obtain ⟨sec, hsec⟩ : ∃ sec, sec = d.secs[k] := ⟨_, rfl⟩
        rw [← hsec] at hc HQ
        clear hsec
        go_wp2
        go_ret2
        exact ⟨ret_v (by rw [HQ.out]; rfl), hb1⟩
      | succ m =>
        obtain ⟨a2, cap2', e2, _, hab2, hcell2⟩ := Sg_at H2.out m (by omega)
        obtain ⟨a3, cap3', e3, _, hab3, hcell3⟩ := Sg_at H3.out m (by omega)
        cases e2
        cases e3
        have hm' : m < d.row.length := by omega
        have hc2' : w1.cell? (a2.add m) = some (.int .i64 (d.row[m].1 : Int)) := by
          rw [hb1.cell (by rw [S.add_block]; exact hF _ hab2), hcell2, intV_at _ _ (by simp; omega), List.getElem_map]
        have hc3' : w1.cell? (a3.add m) = some (.string ⟨d.row[m].2.toArray⟩) := by
          rw [hb1.cell (by rw [S.add_block]; exact hF _ hab3), hcell3, strV_at _ _ (by simp; omega), List.getElem_map]
        clear hcell2 hcell3
        have hcast : ((m + 1 : Nat) : Int) - 1 = (m : Int) := by omega
        rw [hcast]
        by_cases he : d.row[m].1 = k
        · have HQ : Hid (d.read k = d.row[m].2) := Lib.hid (D.lastOf_back d.row k _ m hm' he (fun j hj hmj => HN.out j hj (by omega)))
          have hbq : ((d.row[m].1 : Int) == (k : Int)) = true := by rw [he]; simp
          obtain ⟨x1, hx1⟩ : ∃ x1, x1 = d.row[m].1 := ⟨_, rfl⟩
          obtain ⟨x2, hx2⟩ : ∃ x2, x2 = d.row[m].2 := ⟨_, rfl⟩
          rw [← hx1] at hc2' hbq
          rw [← hx2] at hc3' HQ
          clear hx1 hx2 he
          go_wp2
          go_ret2
          exact ⟨ret_v (by rw [HQ.out]; rfl), hb1⟩
        · have HN2 : Hid (∀ j (hj : j < d.row.length), m ≤ j → d.row[j].1 ≠ k) := Lib.hid (fun j hj hmj => by
            by_cases hjm : j = m
            · subst hjm; exact he
            · exact HN.out j hj (by omega))
          have hbq : ((d.row[m].1 : Int) == (k : Int)) = false := by rw [beq_eq_false_iff_ne]; omega
          obtain ⟨x1, hx1⟩ : ∃ x1, x1 = d.row[m].1 := ⟨_, rfl⟩
          rw [← hx1] at hc2' hbq
          clear hx1 he hc3'
          go_wp2
          go_round
          case rel => exact ⟨m, by omega, by go_num, HN2⟩
          case measure => simp [intOf]
  · rw [rdV, if_neg ht]
    by_cases h0 : i < 0
    · go_enter Try.func36, Try.ntmps36
      go_wp2
      go_ret2
      exact ⟨rfl, hb1⟩
    · have h1 : (d.secs.length : Int) ≤ i := by
        have : ¬ i < d.secs.length := fun g => ht ⟨by omega, g⟩
        omega
      go_enter Try.func36, Try.ntmps36
      go_wp2
      go_ret2
      exact ⟨rfl, hb1⟩

end Go.Proofs.Ytbjbnjpdackloaa

namespace Go.Proofs.Ytbjbnjpdackloaa
open Go.RowKit

theorem cell_other {w : World} {a : Addr} {v : Value} (h : w.cell? a = some v) {g : Nat} (hg : g ≠ a.block) (j : Nat) (u : Value) : (w.setCell ⟨g, j, none⟩ u).cell? a = some v :=
  (World.cell?_setCell_other w _ _ u (fun e => hg (congrArg Addr.block e))).trans h

theorem kept_step {row : List (Nat × D.Sec)} {keep : List Bool} {k : Nat} (h : k < row.length) (hk : keep[k]? = some true) : D.kept (row.take (k + 1)) keep = D.kept (row.take k) keep ++ [row[k]] := by
  rw [D.kept_take row keep k h, if_pos hk]
theorem kept_skip {row : List (Nat × D.Sec)} {keep : List Bool} {k : Nat} (h : k < row.length) (hk : ¬ keep[k]? = some true) : D.kept (row.take (k + 1)) keep = D.kept (row.take k) keep := by
  rw [D.kept_take row keep k h, if_neg hk]

set_option maxRecDepth 100000 in
set_option maxHeartbeats 2000000 in
theorem rcrash_any (v vk : Value) (d : D.Dk) (keep : List Bool) (w : World) (F : Nat → Prop) (hF : ∀ b, F b → b < w.heap.size) (h : Rd w F v d) (G : Nat → Prop) (hG : ∀ b, G b → b < w.heap.size) (hk : SlT w G vk keep) (hr : d.row.length ≤ 1000000) (hn : d.secs.length ≤ 1000000) (_hkl : keep.length ≤ 9223372036854775807) (hf : ∀ x ∈ d.row, x.1 < d.secs.length) :
    Calls Try.prog 28 #[v, vk] w fun e w' => ∃ v', e = .returned v' ∧ Rd w' (S.New w w') v' (d.crash keep) ∧ Below w.heap.size w w' := by
  obtain ⟨a, b, c, rfl, h1, h2, h3⟩ := h
  have h2 : S.Sg w F 1 b (d.row.map (·.1)).length (intV (d.row.map (·.1))) := h2
  have h3 : S.Sg w F 1 c (d.row.map (·.2)).length (strV (d.row.map (·.2))) := h3
  rw [List.length_map] at h2 h3
  obtain ⟨A1, cap1, rfl, hc1⟩ := Sg_form h1
  obtain ⟨A2, cap2, rfl, hc2⟩ := Sg_form h2
  obtain ⟨A3, cap3, rfl, hc3⟩ := Sg_form h3
  obtain ⟨Ak, capk, rfl, hck⟩ := Sg_form hk
  have H1 := Lib.hid h1
  have H2 := Lib.hid h2
  have H3 := Lib.hid h3
  have HK := Lib.hid hk
  have HF := Lib.hid hf
  clear h1 h2 h3 hk hf
  have P0 := (B3.new w (.slice A1 d.secs.length cap1) (.slice A2 d.row.length cap2) (.slice A3 d.row.length cap3) 32 rfl).alloc (.cells #[nilV, nilV, nilV] 32)
  have R0 := B3.new (w.alloc (.cells #[.slice A1 d.secs.length cap1, .slice A2 d.row.length cap2, .slice A3 d.row.length cap3] 32)) nilV nilV nilV 32 (g := w.heap.size + 1) (by simp)
  have hb0 := two_new (w := w) (o := .cells #[.slice A1 d.secs.length cap1, .slice A2 d.row.length cap2, .slice A3 d.row.length cap3] 32) (o' := .cells #[nilV, nilV, nilV] 32)
  have hz0 : ((w.alloc (.cells #[.slice A1 d.secs.length cap1, .slice A2 d.row.length cap2, .slice A3 d.row.length cap3] 32)).alloc (.cells #[nilV, nilV, nilV] 32)).heap.size = w.heap.size + 1 + 1 := by simp
  have P0 := Lib.hid P0
  have R0 := Lib.hid R0
  have hz0 := Lib.hid hz0
  go_enter Try.func28, Try.ntmps28
  go_wp2_with (at_builtin; refine S.wpList_append_sg elS rfl _ _ rfl (base := w.heap.size + 1 + 1) (xs := []) (cs := strV d.secs) rfl rfl (S.own_none 9 1 hz0.out.symm (Nat.le_refl _)) (H1.out.below (hb0.alloc hb0.size _) hF) (strV_one _) (by omega) (by omega) (by rw [← hz0.out]; simp) ?_)
  intro v1 w1 hown1 hgrow1 _
  have hbb1 := S.below_base (S.own_none 9 1 hz0.out.symm (Nat.le_refl _)) (by rw [← hz0.out]; simp) hgrow1
  have P1 := (P0.out.alloc (.cells #[] 9)).below hbb1 (by omega)
  have R1 := (R0.out.alloc (.cells #[] 9)).below hbb1 (by omega)
  have hb1 := (hb0.alloc hb0.size (.cells #[] 9)).trans (hbb1.mono (by omega))
  have hz1 : w.heap.size + 1 + 1 ≤ w1.heap.size := Nat.le_trans (Nat.le_trans (Nat.le_of_eq hz0.out.symm) (by simp)) hbb1.size
  obtain ⟨A4, cap4, rfl, hc4⟩ := Sg_form (S.Sg.of_own hown1)
  clear hbb1 P0 R0 hb0 hz0 hgrow1
  have hlt1 : ∀ j, (Value.slice A4 d.secs.length cap4).ownBlock = some j → j < w1.heap.size := fun j hj => (World.ownsRow.lt hown1 j hj).2
  have P2 := P1.alloc (.cells #[.slice A4 d.secs.length cap4, nilV, nilV] 32)
  have R2 := R1.alloc (.cells #[.slice A4 d.secs.length cap4, nilV, nilV] 32)
  have O2 := B3.new w1 (.slice A4 d.secs.length cap4) nilV nilV 32 rfl
  have hb2 := hb1.alloc hb1.size (.cells #[.slice A4 d.secs.length cap4, nilV, nilV] 32)
  have hown2 := hown1.alloc (.cells #[.slice A4 d.secs.length cap4, nilV, nilV] 32)
  have hO := hz1
  generalize ho : w1.heap.size = o at *
  clear P1 R1 hb1 hown1 hz1
  go_wp2_with fail
  generalize w1.alloc (.cells #[.slice A4 d.secs.length cap4, nilV, nilV] 32) = w2 at *
  go_loopw [6] (fun i wr => ∃ k : Nat, k ≤ d.row.length ∧ i = .int .i64 k ∧ B3 wr w.heap.size (.slice A1 d.secs.length cap1) (.slice A2 d.row.length cap2) (.slice A3 d.row.length cap3) ∧ B3 wr (w.heap.size + 1) nilV nilV nilV ∧ B3 wr o (.slice A4 d.secs.length cap4) nilV nilV ∧ wr.ownsRow (w.heap.size + 1 + 1) 9 1 (.slice A4 d.secs.length cap4) d.secs.length (strV (D.done d.secs (D.kept (d.row.take k) keep))) ∧ Below w.heap.size w wr) (fun i _ => d.row.length - (intOf i).toNat)
  case atStart => exact ⟨0, Nat.zero_le _, rfl, P2, R2, O2, hown2, hb2⟩
  case round =>
    clear P2 R2 O2 hown2 hb2
    obtain ⟨k, hk, rfl, P, R, O, hown, hb⟩ := hrel
    obtain ⟨_, p0, p1, p2, _⟩ := id P
    obtain ⟨_, o0, o1, o2, _⟩ := id O
    by_cases hlt : k < d.row.length
    · by_cases hkk : k < keep.length
      · obtain ⟨ak, capk', ek, _, habk, hcellk⟩ := Sg_at HK.out k hkk
        cases ek
        have hck' : wr.cell? (ak.add k) = some (.bool keep[k]) := by
          rw [hb.cell (by rw [S.add_block]; exact hG _ habk), hcellk, boolV_at _ _ hkk]
        clear hcellk
        cases hkb : keep[k]
        · have HN := Lib.hid (kept_skip hlt (fun e => by rw [List.getElem?_eq_getElem hkk, hkb] at e; cases e))
          rw [hkb] at hck'
          go_wp2
          go_roundw
          case rel => exact ⟨k + 1, by omega, by go_num, P, R, O, by rw [HN.out]; exact hown, hb⟩
          case measure => simp [intOf]; omega
        · have HN := Lib.hid (kept_step hlt (by rw [List.getElem?_eq_getElem hkk, hkb]))
          rw [hkb] at hck'
          obtain ⟨a2, cap2', e2, _, hab2, hcell2⟩ := Sg_at H2.out k hlt
          obtain ⟨a3, cap3', e3, _, hab3, hcell3⟩ := Sg_at H3.out k hlt
          cases e2
          cases e3
          have hc2' : wr.cell? (a2.add k) = some (.int .i64 (d.row[k].1 : Int)) := by
            rw [hb.cell (by rw [S.add_block]; exact hF _ hab2), hcell2, intV_at _ _ (by simp; omega), List.getElem_map]
          have hc3' : wr.cell? (a3.add k) = some (.string ⟨d.row[k].2.toArray⟩) := by
            rw [hb.cell (by rw [S.add_block]; exact hF _ hab3), hcell3, strV_at _ _ (by simp; omega), List.getElem_map]
          clear hcell2 hcell3
          have hx := HF.out d.row[k] (List.getElem_mem hlt)
          obtain ⟨g, cap5, e4, hg1, _⟩ := World.ownsRow.form hown (by omega)
          cases e4
          have hgo : g < o := hlt1 g rfl
          have HN2 := Lib.hid (show D.done d.secs (D.kept (d.row.take (k + 1)) keep) = (D.done d.secs (D.kept (d.row.take k) keep)).set d.row[k].1 d.row[k].2 by rw [HN.out, D.done_snoc])
          have hst := hown.stored d.row[k].1 (.string ⟨d.row[k].2.toArray⟩)
          have hfz := hown.frozenAt d.row[k].1
          obtain ⟨u, hu⟩ : ∃ u, wr.cell? ⟨g, d.row[k].1, none⟩ = some (.string u) := by
            rw [hown.cellAt d.row[k].1 (by omega), strV_at _ _ (by rw [D.done_len]; exact hx)]
            exact ⟨_, rfl⟩
          have hown3 := hst.1
          rw [← strV_set, ← HN2.out] at hown3
          have HO3 := Lib.hid hown3
          clear hown3 hst HN hown
          obtain ⟨x1, hx1⟩ : ∃ x1, x1 = d.row[k].1 := ⟨_, rfl⟩
          obtain ⟨x2, hx2⟩ : ∃ x2, x2 = d.row[k].2 := ⟨_, rfl⟩
          rw [← hx1] at hc2' hx hu hfz HO3
          rw [← hx2] at hc3' HO3
          clear hx1 hx2 HN2
          have hS' := And.intro (cell_other (g := g) o0 (by show g ≠ o; omega) x1 (.string ⟨x2.toArray⟩)) (And.intro (cell_other (g := g) p1 (by show g ≠ w.heap.size; omega) x1 (.string ⟨x2.toArray⟩)) (And.intro (cell_other (g := g) hc2' (by rw [S.add_block]; have := hF _ hab2; omega) x1 (.string ⟨x2.toArray⟩)) (And.intro (cell_other (g := g) p2 (by show g ≠ w.heap.size; omega) x1 (.string ⟨x2.toArray⟩)) (cell_other (g := g) hc3' (by rw [S.add_block]; have := hF _ hab3; omega) x1 (.string ⟨x2.toArray⟩)))))
          have P' := P.other (q := g) (by omega) x1 (.string ⟨x2.toArray⟩)
          have R' := R.other (q := g) (by omega) x1 (.string ⟨x2.toArray⟩)
          have O' := O.other (q := g) (by omega) x1 (.string ⟨x2.toArray⟩)
          have hb' := hb.setCell (p := ⟨g, x1, none⟩) (by show _ ≤ g; omega) (.string ⟨x2.toArray⟩)
          have HP := Lib.hid (And.intro P' (And.intro R' O'))
          clear P' R' O' P R O
          have i0 : (0 : Int) ≤ (x1 : Int) := by omega
          have i1 : (x1 : Int) < (d.secs.length : Int) := by omega
          have i2 : (0 : Int) ≤ (k : Int) := by omega
          have i3 : (k : Int) < (d.row.length : Int) := by omega
          go_wp2_with fail
          go_region_held3 (fun w' => w'.cell? ⟨o, 0, none⟩ = some (.slice (some ⟨g, 0, none⟩) d.secs.length cap4) ∧ w'.cell? ⟨w.heap.size, 1, none⟩ = some (.slice (some a2) d.row.length cap2) ∧ w'.cell? (a2.add k) = some (.int .i64 (x1 : Int)) ∧ w'.cell? ⟨w.heap.size, 2, none⟩ = some (.slice (some a3) d.row.length cap3) ∧ w'.cell? (a3.add k) = some (.string ⟨x2.toArray⟩))
            (first | exact hS' | assumption | go_keep)
            (fail)
          all_goals (try go_wp2)
          all_goals go_roundw
          case rel => exact ⟨k + 1, by omega, by go_num, HP.out.1.drew, HP.out.2.1.drew, HP.out.2.2.drew, HO3.out.drew, hb'.drew⟩
          case measure => simp [intOf]; omega
      · have HN := Lib.hid (kept_skip hlt (fun e => by have := (List.getElem?_eq_some_iff.1 e).1; exact hkk this))
        go_wp2
        go_roundw
        case rel => exact ⟨k + 1, by omega, by go_num, P, R, O, by rw [HN.out]; exact hown, hb⟩
        case measure => simp [intOf]; omega
    · obtain rfl : k = d.row.length := by omega
      obtain ⟨_, q0, q1, q2, qf0, qf1, qf2⟩ := id R
      have R4 := R.setAll (.slice A4 d.secs.length cap4) nilV nilV
      have hown4 := S.own_set (S.own_set (S.own_set hown (p := w.heap.size + 1) (by omega) 0 (.slice A4 d.secs.length cap4)) (p := w.heap.size + 1) (by omega) 1 nilV) (p := w.heap.size + 1) (by omega) 2 nilV
      have hb4 := ((hb.setCell (p := ⟨w.heap.size + 1, 0, none⟩) (by show _ ≤ w.heap.size + 1; omega) (.slice A4 d.secs.length cap4)).setCell (p := ⟨w.heap.size + 1, 1, none⟩) (by show _ ≤ w.heap.size + 1; omega) nilV).setCell (p := ⟨w.heap.size + 1, 2, none⟩) (by show _ ≤ w.heap.size + 1; omega) nilV
      go_wp2_with fail
      refine bodyPost_ret (results_b3 rfl _ rfl R4 undDisk rfl infoDisk) rfl ?_
      refine ⟨_, rfl, ⟨_, _, _, rfl, ?_, S.Sg.nil .., S.Sg.nil ..⟩, hb4⟩
      rw [List.take_length] at hown4
      have := (S.Sg.of_own hown4).wider (G := S.New w _) (fun b h => ⟨by omega, h.2⟩)
      rw [SlS, D.crash_len]
      exact this

end Go.Proofs.Ytbjbnjpdackloaa

namespace Go.Proofs.Ytbjbnjpdackloaa
open Go.RowKit

theorem own_bool {w : World} {base : Nat} {v : Value} {a b : List Bool} (h : w.ownsRow base 4 1 v (a.length + b.length) (boolV a ++ boolV b)) : w.ownsRow base 4 1 v (a ++ b).length (boolV (a ++ b)) := by
  rw [boolV_append, List.length_append]; exact h

set_option maxRecDepth 100000 in
set_option maxHeartbeats 2000000 in
theorem rsync_any (v : Value) (d : D.Dk) (w : World) (F : Nat → Prop) (hF : ∀ b, F b → b < w.heap.size) (h : Rd w F v d) (hr : d.row.length ≤ 1000000) (hn : d.secs.length ≤ 1000000) (hf : ∀ x ∈ d.row, x.1 < d.secs.length) :
    Calls Try.prog 27 #[v] w fun e w' => ∃ v', e = .returned v' ∧ Rd w' (S.New w w') v' d.sync ∧ Below w.heap.size w w' := by
  have HR := Lib.hid h
  have HF := Lib.hid hf
  obtain ⟨A1, cap1, A2, cap2, A3, cap3, rfl⟩ := h.form
  clear h hf
  have P0 := (B3.new w (.slice A1 d.secs.length cap1) (.slice A2 d.row.length cap2) (.slice A3 d.row.length cap3) 32 rfl).alloc (.cells #[nilV, nilV, nilV] 32)
  have R0 := B3.new (w.alloc (.cells #[.slice A1 d.secs.length cap1, .slice A2 d.row.length cap2, .slice A3 d.row.length cap3] 32)) nilV nilV nilV 32 (g := w.heap.size + 1) (by simp)
  have hb0 := two_new (w := w) (o := .cells #[.slice A1 d.secs.length cap1, .slice A2 d.row.length cap2, .slice A3 d.row.length cap3] 32) (o' := .cells #[nilV, nilV, nilV] 32)
  go_enter Try.func27, Try.ntmps27
  go_wp2_with fail
  go_loopw [3, 4] (fun s i wr => ∃ k : Nat, k ≤ d.row.length ∧ i = .int .i64 k ∧ B3 wr w.heap.size (.slice A1 d.secs.length cap1) (.slice A2 d.row.length cap2) (.slice A3 d.row.length cap3) ∧ B3 wr (w.heap.size + 1) nilV nilV nilV ∧ wr.ownsRow (w.heap.size + 1 + 1) 4 1 s (List.replicate k true).length (boolV (List.replicate k true)) ∧ Below w.heap.size w wr ∧ w.heap.size + 1 + 1 ≤ wr.heap.size) (fun _ i _ => d.row.length - (intOf i).toNat)
  case atStart => exact ⟨0, Nat.zero_le _, rfl, P0, R0, S.own_nil _ _ _ _, hb0, by simp⟩
  case round =>
    clear P0 R0 hb0
    obtain ⟨k, hk, rfl, P, R, hown, hb, hz⟩ := hrel
    obtain ⟨_, p0, p1, p2, _⟩ := id P
    have hlk : (List.replicate k true).length ≤ 1000000 := by simp; omega
    obtain ⟨L, hL⟩ : ∃ L, L = List.replicate k true := ⟨_, rfl⟩
    rw [← hL] at hown hlk
    have HL := Lib.hid hL
    clear hL
    obtain ⟨A4, cap4, rfl, hc4⟩ := Sg_form (S.Sg.of_own hown)
    by_cases hlt : k < d.row.length
    · go_wp2_with (at_builtin; refine S.wpList_append_sg elT rfl _ _ rfl (base := w.heap.size + 1 + 1) (xs := boolV L) (cs := boolV [true]) rfl rfl (hown.alloc _) (S.Sg.one wr 4 (.bool true)) (boolV_one _) (by omega) (by omega) (by simp; omega) ?_)
      intro v2 w2 hown2 hgrow2 _
      have hbb2 := S.below_base (hown.alloc (.cells #[.bool true] 4)) (by simp; omega) hgrow2
      have P2 := (P.alloc (.cells #[.bool true] 4)).below hbb2 (by omega)
      have R2 := (R.alloc (.cells #[.bool true] 4)).below hbb2 (by omega)
      have hb2 := (hb.alloc hb.size (.cells #[.bool true] 4)).trans (hbb2.mono (by omega))
      have hz2 : w.heap.size + 1 + 1 ≤ w2.heap.size := Nat.le_trans (Nat.le_trans hz (by simp)) hbb2.size
      have HO := Lib.hid (own_bool (b := [true]) hown2)
      clear hbb2 hgrow2 hown2
      go_wp2
      go_roundw
      case rel => exact ⟨k + 1, by omega, by go_num, P2, R2, by rw [List.replicate_succ', ← HL.out]; exact HO.out, hb2, hz2⟩
      case measure => simp [intOf]; omega
    · obtain rfl : k = d.row.length := by omega
      have HC := Lib.hid (rcrash_any (.agg #[.slice A1 d.secs.length cap1, .slice A2 d.row.length cap2, .slice A3 d.row.length cap3]) (.slice A4 L.length cap4) d L wr F
        (fun b h => Nat.lt_of_lt_of_le (hF b h) hb.size) (HR.out.below hb hF) (fun b => w.heap.size + 1 + 1 ≤ b ∧ b < wr.heap.size) (fun b h => h.2) (S.Sg.of_own hown) hr hn (by omega) HF.out)
      go_wp2_with fail
      refine HC.out.mono ?_
      rintro e w3 ⟨v3, rfl, hR3, hbn⟩
      have R3 := R.step hbn
      have hb3 := hb.trans (hbn.mono hb.size)
      rw [show d.crash L = d.sync by rw [D.sync_crash, HL.out]] at hR3
      have hsz := hbn.size
      have HR3 := Lib.hid hR3
      obtain ⟨B1, cb1, B2, cb2, B3', cb3, rfl⟩ := hR3.form
      have hnr : ¬ S.New wr w3 (w.heap.size + 1) := fun h => by have := h.1; omega
      generalize d.sync.secs.length = n1 at *
      generalize d.sync.row.length = n2 at *
      obtain ⟨_, q0, q1, q2, qf0, qf1, qf2⟩ := id R3
      have R4 := R3.setAll (.slice B1 n1 cb1) (.slice B2 n2 cb2) (.slice B3' n2 cb3)
      have HR4 := Lib.hid (((HR3.out.set hnr 0 (.slice B1 n1 cb1)).set hnr 1 (.slice B2 n2 cb2)).set hnr 2 (.slice B3' n2 cb3))
      have hb4 := ((hb3.setCell (p := ⟨w.heap.size + 1, 0, none⟩) (by show _ ≤ w.heap.size + 1; omega) (.slice B1 n1 cb1)).setCell (p := ⟨w.heap.size + 1, 1, none⟩) (by show _ ≤ w.heap.size + 1; omega) (.slice B2 n2 cb2)).setCell (p := ⟨w.heap.size + 1, 2, none⟩) (by show _ ≤ w.heap.size + 1; omega) (.slice B3' n2 cb3)
      clear hR3 HR3 hb3 hbn HC R3
      go_wp2_with fail
      refine bodyPost_ret (results_b3 rfl _ rfl R4 undDisk rfl infoDisk) rfl ?_
      exact ⟨_, rfl, HR4.out.wider (fun b h => ⟨by have := h.1; omega, by have := h.2; simpa [World.setCell] using this⟩), hb4⟩

end Go.Proofs.Ytbjbnjpdackloaa

namespace Go.Proofs.Ytbjbnjpdackloaa
open Go.RowKit

/-- outside of the blocks of which F holds the world w' is as w was -/
structure Turn (F : Nat → Prop) (w w' : World) : Prop where
  os : w'.os = w.os
  tape : w'.tape = w.tape
  output : w'.output = w.output
  size : w.heap.size ≤ w'.heap.size
  block : ∀ k, k < w.heap.size → ¬ F k → w'.heap[k]? = w.heap[k]?

section
variable {F G : Nat → Prop} {B : Nat} {w w1 w' : World}

theorem Turn.below (h : Turn F w w') (hB : B ≤ w.heap.size) (hF : ∀ b, F b → B ≤ b) : Below B w w' :=
  ⟨h.os, h.tape, h.output, h.size, fun k hk => h.block k (by omega) (fun g => by have := hF k g; omega)⟩
theorem Turn.of_below (h : Below w.heap.size w w') : Turn F w w' := ⟨h.os, h.tape, h.output, h.size, fun k hk _ => h.block k hk⟩
theorem Turn.cell (h : Turn F w w') {p : Addr} (hp : p.block < w.heap.size) (hF : ¬ F p.block) : w'.cell? p = w.cell? p := World.cell?_of_block (h.block _ hp hF)
theorem Turn.frozen (h : Turn F w w') {p : Addr} (hp : p.block < w.heap.size) (hF : ¬ F p.block) : w'.frozen? p = w.frozen? p := World.frozen?_of_block (h.block _ hp hF)

theorem Rd.turn {v : Value} {d : D.Dk} (h : Rd w G v d) (ht : Turn F w w') (hlt : ∀ b, G b → b < w.heap.size) (hd : ∀ b, G b → ¬ F b) : Rd w' G v d :=
  h.keep fun _ hp => ht.cell (hlt _ hp) (hd _ hp)
theorem B3.turn {p : Nat} {x y z : Value} (h : B3 w p x y z) (ht : Turn F w w') (hp : ¬ F p) : B3 w' p x y z :=
  have hl := h.lt
  ⟨Nat.lt_of_lt_of_le hl ht.size, (ht.cell hl hp).trans h.c0, (ht.cell hl hp).trans h.c1, (ht.cell hl hp).trans h.c2, (ht.frozen hl hp).trans h.f0, (ht.frozen hl hp).trans h.f1, (ht.frozen hl hp).trans h.f2⟩
end

/-- blocks of F, and those that were made since -/
abbrev More (F : Nat → Prop) (w w' : World) : Nat → Prop := fun b => F b ∨ S.New w w' b

/-- the program's calls do what the document says; H w F v d: the pointer v holds the disk d, in blocks of which F holds -/
structure DiskOk (H : World → (Nat → Prop) → Value → D.Dk → Prop) : Prop where
  ptr : ∀ {w F v d}, H w F v d → ∃ a : Addr, v = .pointer (some a)
  lt : ∀ {w F v d}, H w F v d → ∀ b, F b → b < w.heap.size
  keep : ∀ {w F v d w'}, H w F v d → (∀ b, F b → w'.heap[b]? = w.heap[b]?) → w.heap.size ≤ w'.heap.size → H w' F v d
  fit : ∀ {w F v d}, H w F v d → d.Fit ∧ 1 ≤ d.secs.length ∧ d.secs.length ≤ 1024
  row : ∀ {w F v d}, H w F v d → d.row.length ≤ 9223372036854775807
  no : ∀ (n : Int) (w : World), (n < 1 ∨ 1024 < n) → Calls Try.prog 10 #[.int .i64 n] w fun e w' => e = .returned (.pointer none) ∧ Below w.heap.size w w'
  new : ∀ (n : Nat) (w : World), 1 ≤ n → n ≤ 1024 → Calls Try.prog 10 #[.int .i64 n] w fun e w' => ∃ v, e = .returned v ∧ H w' (S.New w w') v ⟨List.replicate n (D.full []), []⟩ ∧ Below w.heap.size w w'
  write : ∀ {w F v d} (G : Nat → Prop) (vb : Value) (l : List UInt8) (i : Int), H w F v d → SlB w G vb l → (∀ b, G b → b < w.heap.size) → d.row.length ≤ 1000 → l.length ≤ 1000000 → -9223372036854775808 ≤ i → i ≤ 9223372036854775807 →
    Calls Try.prog 29 #[v, .int .i64 i, vb] w fun e w' => e = .returned (.int .i64 (d.bad i l)) ∧ H w' (More F w w') v (d.write i l) ∧ Turn F w w'
  read : ∀ {w F v d} (i : Int), H w F v d → -9223372036854775808 ≤ i → i ≤ 9223372036854775807 →
    Calls Try.prog 24 #[v, .int .i64 i] w fun e w' => ∃ vb l k, e = .returned (.tuple #[vb, .int .i64 k]) ∧ rdV d i = .tuple #[.string ⟨l.toArray⟩, .int .i64 k] ∧ SlB w' (S.New w w') vb l ∧ Below w.heap.size w w'
  sync : ∀ {w F v d}, H w F v d → Calls Try.prog 21 #[v] w fun e w' => e = .returned (.tuple #[]) ∧ H w' (More F w w') v d.sync ∧ Turn F w w'
  crash : ∀ {w F v d} (G : Nat → Prop) (vk : Value) (keep : List Bool), H w F v d → SlT w G vk keep → (∀ b, G b → b < w.heap.size) → (∀ b, G b → ¬ F b) →
    Calls Try.prog 22 #[v, vk] w fun e w' => e = .returned (.tuple #[]) ∧ H w' (More F w w') v (d.crash keep) ∧ Turn F w w'
  len : ∀ {w F v d}, H w F v d → Calls Try.prog 32 #[v] w fun e w' => e = .returned (.int .i64 d.secs.length) ∧ Below w.heap.size w w'
  pending : ∀ {w F v d}, H w F v d → Calls Try.prog 18 #[v] w fun e w' => e = .returned (.int .i64 d.row.length) ∧ Below w.heap.size w w'
  copy : ∀ {w F v d}, H w F v d → Calls Try.prog 23 #[v] w fun e w' => ∃ v', e = .returned v' ∧ H w' (S.New w w') v' d ∧ Below w.heap.size w w'

section
variable {H : World → (Nat → Prop) → Value → D.Dk → Prop} {w w' : World} {F G : Nat → Prop} {v : Value} {d : D.Dk}

theorem DiskOk.below (K : DiskOk H) (h : H w F v d) (hb : Below w.heap.size w w') : H w' F v d := K.keep h (fun b hF => hb.block b (K.lt h b hF)) hb.size
theorem DiskOk.turn (K : DiskOk H) (h : H w F v d) (ht : Turn G w w') (hd : ∀ b, F b → ¬ G b) : H w' F v d := K.keep h (fun b hF => ht.block b (K.lt h b hF) (hd b hF)) ht.size
theorem DiskOk.set (K : DiskOk H) (h : H w F v d) {p : Nat} (hp : ¬ F p) (o : Nat) (u : Value) : H (w.setCell ⟨p, o, none⟩ u) F v d :=
  K.keep h (fun b hF => Below.heap_setCell w ⟨p, o, none⟩ u b (fun e => hp (by have e : b = p := e; rw [← e]; exact hF))) (by simp [World.setCell])
end

/-- a deed -/
structure Deed where
  kind : Int
  at_ : Int
  b : List UInt8
  keep : List Bool

/-- numbers of a Go int -/
structure Deed.Ok (x : Deed) : Prop where
  k0 : -9223372036854775808 ≤ x.kind
  k1 : x.kind ≤ 9223372036854775807
  a0 : -9223372036854775808 ≤ x.at_
  a1 : x.at_ ≤ 9223372036854775807
  kl : x.keep.length ≤ 9223372036854775807
  bl : x.b.length ≤ 9223372036854775807

/-- the four cells of a deed -/
def DeedV (w : World) (G : Nat → Prop) (c0 c1 c2 c3 : Value) (x : Deed) : Prop :=
  c0 = .int .i64 x.kind ∧ c1 = .int .i64 x.at_ ∧ SlB w G c2 x.b ∧ SlT w G c3 x.keep

/-- the slice v holds the deeds l, in blocks of which G holds -/
def Deeds (w : World) (G : Nat → Prop) (v : Value) (l : List Deed) : Prop :=
  ∃ A cap, v = .slice A l.length cap ∧ l.length ≤ cap ∧ (∀ x ∈ l, x.Ok) ∧ (l ≠ [] → ∃ a, A = some a ∧ G a.block ∧
    ∀ i (h : i < l.length), ∃ c0 c1 c2 c3, w.cell? (a.add (i * 4 + 0)) = some c0 ∧ w.cell? (a.add (i * 4 + 1)) = some c1 ∧ w.cell? (a.add (i * 4 + 2)) = some c2 ∧ w.cell? (a.add (i * 4 + 3)) = some c3 ∧ DeedV w G c0 c1 c2 c3 l[i])

theorem DeedV.keep {w w' : World} {G : Nat → Prop} {c0 c1 c2 c3 : Value} {x : Deed} (h : DeedV w G c0 c1 c2 c3 x) (hk : ∀ p : Addr, G p.block → w'.cell? p = w.cell? p) : DeedV w' G c0 c1 c2 c3 x :=
  ⟨h.1, h.2.1, h.2.2.1.keep hk, h.2.2.2.keep hk⟩

theorem Deeds.keep {w w' : World} {G : Nat → Prop} {v : Value} {l : List Deed} (h : Deeds w G v l) (hk : ∀ p : Addr, G p.block → w'.cell? p = w.cell? p) : Deeds w' G v l := by
  obtain ⟨A, cap, e, hc, ho, hx⟩ := h
  refine ⟨A, cap, e, hc, ho, fun hn => ?_⟩
  obtain ⟨a, e2, hg, hx⟩ := hx hn
  refine ⟨a, e2, hg, fun i hi => ?_⟩
  obtain ⟨c0, c1, c2, c3, h0, h1, h2, h3, hv⟩ := hx i hi
  have hb : ∀ j, w'.cell? (a.add j) = w.cell? (a.add j) := fun j => hk _ (by rw [S.add_block]; exact hg)
  exact ⟨c0, c1, c2, c3, (hb _).trans h0, (hb _).trans h1, (hb _).trans h2, (hb _).trans h3, hv.keep hk⟩

theorem Deeds.below {w w' : World} {G : Nat → Prop} {B : Nat} {v : Value} {l : List Deed} (h : Deeds w G v l) (hb : Below B w w') (hG : ∀ b, G b → b < B) : Deeds w' G v l := h.keep fun _ hp => hb.cell (hG _ hp)

def fewM (l : List Deed) : Bool := decide (l.length ≤ 60 ∧ ∀ x ∈ l, x.b.length ≤ 100)

end Go.Proofs.Ytbjbnjpdackloaa
