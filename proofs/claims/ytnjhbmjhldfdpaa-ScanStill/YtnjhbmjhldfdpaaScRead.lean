/-
  Package scan: Read: the records that it finds, number by number.
-/
import Derived.Test.YtnjhbmjhldfdpaaScFind
import Derived.WalkMore
namespace Go.Proofs.Ytnjhbmjhldfdpaa.Q

theorem behind_snoc (s : Nat) (l : List (Nat × List UInt8)) (x : Nat × List UInt8) : behind s (l ++ [x]) = x.1 := by
  unfold behind; simp

section
variable {d : D.Dk} {ix : Nat → Int} {e M k n : Nat} {b : Bool} {body : List UInt8} {out all : List (Nat × List UInt8)} {f : R.Fr}

theorem go_last (heq : out ++ recs d ix e (M - k) n b body = all) (hk : k < M) (hg : good d (ix n) e n b = some f) (hf : f.flag.toNat / 2 % 2 = 1) :
    (out ++ [((n + 1) % 4294967296, (if b then [] else body) ++ f.body)]) ++ recs d ix e (M - (k + 1)) ((n + 1) % 4294967296) true ((if b then [] else body) ++ f.body) = all := by
  rw [show M - k = (M - (k + 1)) + 1 by omega, recs_last hg hf] at heq
  rw [List.append_assoc]
  exact heq
theorem go_more (heq : out ++ recs d ix e (M - k) n b body = all) (hk : k < M) (hg : good d (ix n) e n b = some f) (hf : ¬ f.flag.toNat / 2 % 2 = 1) :
    out ++ recs d ix e (M - (k + 1)) ((n + 1) % 4294967296) false ((if b then [] else body) ++ f.body) = all := by
  rw [show M - k = (M - (k + 1)) + 1 by omega, recs_more hg hf] at heq
  exact heq
theorem go_end (heq : out ++ recs d ix e (M - k) n b body = all) (hg : good d (ix n) e n b = none) : out = all := by
  rw [recs_none hg, List.append_nil] at heq
  exact heq
theorem go_done (heq : out ++ recs d ix e (M - k) n b body = all) (hk : M ≤ k) : out = all := by
  rw [show M - k = 0 by omega, recs, List.append_nil] at heq
  exact heq
end

/-- what is found of a disk, whatever the place -/
def all (d : D.Dk) (first many : Int) (epoch from_ : Nat) : List (Nat × List UInt8) := if 1 ≤ many ∧ 0 ≤ first then recs d (ixI first many) epoch many.toNat from_ true [] else []
end Go.Proofs.Ytnjhbmjhldfdpaa.Q

namespace Go.Proofs.Ytnjhbmjhldfdpaa
open Go.RowKit

/-- the slice v holds the records L, each with the number behind it, in blocks of which F holds -/
def Recs (w : World) (F : Nat → Prop) (v : Value) (L : List (Nat × List UInt8)) : Prop :=
  ∃ A cap, v = .slice A L.length cap ∧ L.length ≤ cap ∧ (L ≠ [] → ∃ a, A = some a ∧ F a.block ∧
    ∀ i (h : i < L.length), ∃ vb, w.cell? (a.add (i * 2)) = some (.int .u32 (L[i].1 : Int)) ∧ w.cell? (a.add (i * 2 + 1)) = some vb ∧ SlB w F vb L[i].2)

section
variable {w w' : World} {F G' : Nat → Prop} {B : Nat} {v : Value} {L : List (Nat × List UInt8)}

theorem Recs.keep (h : Recs w F v L) (hk : ∀ p : Addr, F p.block → w'.cell? p = w.cell? p) : Recs w' F v L := by
  obtain ⟨A, cap, e, hc, hx⟩ := h
  refine ⟨A, cap, e, hc, fun hn => ?_⟩
  obtain ⟨a, e2, hg, hx⟩ := hx hn
  refine ⟨a, e2, hg, fun i hi => ?_⟩
  obtain ⟨vb, h0, h1, hv⟩ := hx i hi
  have hb : ∀ j, w'.cell? (a.add j) = w.cell? (a.add j) := fun j => hk _ (by rw [S.add_block]; exact hg)
  exact ⟨vb, (hb _).trans h0, (hb _).trans h1, hv.keep hk⟩
theorem Recs.below (h : Recs w F v L) (hb : Below B w w') (hF : ∀ b, F b → b < B) : Recs w' F v L := h.keep fun _ hp => hb.cell (hF _ hp)
theorem Recs.wider (h : Recs w F v L) (hF : ∀ b, F b → G' b) : Recs w G' v L := by
  obtain ⟨A, cap, e, hc, hx⟩ := h
  refine ⟨A, cap, e, hc, fun hn => ?_⟩
  obtain ⟨a, e2, hg, hx⟩ := hx hn
  refine ⟨a, e2, hF _ hg, fun i hi => ?_⟩
  obtain ⟨vb, h0, h1, hv⟩ := hx i hi
  exact ⟨vb, h0, h1, hv.wider hF⟩
theorem Recs.form (h : Recs w F v L) : ∃ A cap, v = .slice A L.length cap ∧ L.length ≤ cap := by
  obtain ⟨A, cap, e, hc, _⟩ := h
  exact ⟨A, cap, e, hc⟩
theorem Recs.nth (h : Recs w F v L) (i : Nat) (hi : i < L.length) : ∃ a cap vb, v = .slice (some a) L.length cap ∧ L.length ≤ cap ∧ F a.block ∧
    w.cell? (a.add (i * 2)) = some (.int .u32 (L[i].1 : Int)) ∧ w.cell? ⟨(a.add (i * 2)).block, (a.add (i * 2)).off + 1, none⟩ = some vb ∧ SlB w F vb L[i].2 := by
  obtain ⟨A, cap, e, hc, hx⟩ := h
  obtain ⟨a, rfl, hg, hx⟩ := hx (by intro e; rw [e] at hi; simp at hi)
  obtain ⟨vb, h0, h1, hv⟩ := hx i hi
  refine ⟨a, cap, vb, e, hc, hg, h0, ?_, hv⟩
  rw [← h1, ← S.add_add, ap_add (a.add (i * 2)) 0]
end

/-- the two cells of a record -/
def rcC (x : Nat × Value) : List Value := [.int .u32 (x.1 : Int), x.2]

theorem elRc : S.El Try.prog 39 46 2 32 := by
  obtain ⟨i0, hi, hz0, hz1, hz2⟩ := info_parts (show (Try.prog.info? 46).map (fun i => (i.zero, i.size, i.bytes)) = some (some (.agg #[.int .u32 0, .slice none 0 0]), 2, 32) by kernel_rfl)
  exact ⟨Try.underlying39, ⟨i0, _, hi, hz0, hz1, hz2, rfl⟩, by decide⟩

theorem rows_apart7 {W : World} {b b' k k' n n' : Nat} {e e' : TypeId} {u v : Value} {xs ys : List Value} (h : W.ownsRow b e k u n xs) (h' : W.ownsRow b' e' k' v n' ys) (hne : e ≠ e') : u.ownBlock = none ∨ u.ownBlock ≠ v.ownBlock := by
  rcases h.2 with ⟨rfl, _⟩ | ⟨g, cap, cur, rfl, _, hg, _⟩
  · exact .inl rfl
  · refine .inr fun ex => ?_
    rcases h'.2 with ⟨rfl, _⟩ | ⟨g', cap', cur', rfl, _, hg', _⟩
    · cases ex
    · have e1 : g = g' := by simpa [Value.ownBlock] using ex
      subst e1
      rw [hg] at hg'
      simp at hg'
      exact hne hg'.2
theorem sg_own7 {w : World} {base k n : Nat} {e : TypeId} {v : Value} {cs : List Value} {G : Nat → Prop} (h : w.ownsRow base e k v n cs) (hG : ∀ b, v.ownBlock = some b → G b) : S.Sg w G k v n cs := by
  have h0 := h
  rcases h.2 with ⟨rfl, rfl⟩ | ⟨g, cap, cur, rfl, _, _, hc, _⟩
  · exact ⟨h.1, none, 0, rfl, Nat.zero_le _, fun h => absurd rfl h⟩
  · refine ⟨h.1, _, cap, rfl, hc, fun _ => ⟨_, rfl, hG g rfl, fun j u hj => ?_⟩⟩
    have hjl := (List.getElem?_eq_some_iff.1 hj).1
    rw [Addr.add_lit, Nat.zero_add, World.ownsRow.cellAt h0 j (by rw [h.1] at hjl; exact hjl)]
    exact hj
/-- records on their way: the row, and each one's bytes -/
structure RdI (w wr : World) (vs : Value) (ps : List (Nat × Value)) (L : List (Nat × List UInt8)) (Fb : Nat → Prop) : Prop where
  row : wr.ownsRow w.heap.size 46 2 vs L.length (ps.flatMap rcC)
  len : ps.length = L.length
  is : ∀ i (h : i < L.length) (h' : i < ps.length), ps[i].1 = L[i].1 ∧ SlB wr Fb ps[i].2 L[i].2
  fb : ∀ b, Fb b → w.heap.size ≤ b ∧ b < wr.heap.size
  off : ∀ j, vs.ownBlock = some j → ¬ Fb j
  low : Below w.heap.size w wr

section
variable {w wr w2 : World} {vs : Value} {ps : List (Nat × Value)} {L : List (Nat × List UInt8)} {Fb : Nat → Prop}

theorem RdI.below (h : RdI w wr vs ps L Fb) (hb : Below wr.heap.size wr w2) : RdI w w2 vs ps L Fb where
  row := S.own_below h.row hb
  len := h.len
  is := fun i hi h' => ⟨(h.is i hi h').1, (h.is i hi h').2.below hb (fun b g => (h.fb b g).2)⟩
  fb := fun b g => ⟨(h.fb b g).1, Nat.lt_of_lt_of_le (h.fb b g).2 hb.size⟩
  off := h.off
  low := h.low.trans (hb.mono h.low.size)

/-- bytes of another row appended -/
theorem RdI.grown (h : RdI w wr vs ps L Fb) {row : Option Nat} (hg : wr.grownBy w2 row) (h1 : ∀ j, row = some j → w.heap.size ≤ j ∧ ¬ Fb j ∧ vs.ownBlock ≠ some j) : RdI w w2 vs ps L Fb where
  row := V.own_keep h.row fun j hj => hg.block j (World.ownsRow.lt h.row j hj).2 (fun e => (h1 j e.symm).2.2 hj)
  len := h.len
  is := fun i hi h' => ⟨(h.is i hi h').1, (h.is i hi h').2.keep fun p hp => World.cell?_of_block (hg.block p.block (h.fb _ hp).2 (fun e => (h1 _ e.symm).2.1 hp))⟩
  fb := fun b g => ⟨(h.fb b g).1, Nat.lt_of_lt_of_le (h.fb b g).2 hg.size⟩
  off := h.off
  low := h.low.grown hg h.low.size fun k e => (h1 k e).1

/-- a record more -/
theorem RdI.push (h : RdI w wr vs ps L Fb) {v' vb : Value} {n : Nat} {body : List UInt8} {Fc : Nat → Prop} (hown : w2.ownsRow w.heap.size 46 2 v' (L.length + 1) (ps.flatMap rcC ++ [.int .u32 (n : Int), vb])) (hg : wr.grownBy w2 vs.ownBlock) (hbl : v'.ownBlock = vs.ownBlock ∨ v'.ownBlock = some wr.heap.size)
    (hB : SlB wr Fc vb body) (hF1 : ∀ b, Fb b → Fc b) (hF2 : ∀ b, Fc b → w.heap.size ≤ b ∧ b < wr.heap.size) (hF3 : ∀ j, vs.ownBlock = some j → ¬ Fc j) : RdI w w2 v' (ps ++ [(n, vb)]) (L ++ [(n, body)]) Fc where
  row := by
    rw [List.length_append, List.flatMap_append]
    exact hown
  len := by simp [h.len]
  is := fun i hi h' => by
    have hk : ∀ p : Addr, Fc p.block → w2.cell? p = wr.cell? p := fun p hp => World.cell?_of_block (hg.block p.block (hF2 _ hp).2 (fun e => hF3 _ e.symm hp))
    have hl := h.len
    by_cases hi2 : i < L.length
    · rw [List.getElem_append_left (by omega), List.getElem_append_left hi2]
      exact ⟨(h.is i hi2 (by omega)).1, ((h.is i hi2 (by omega)).2.wider hF1).keep hk⟩
    · have hie : i = L.length := by simp at hi; omega
      subst hie
      rw [List.getElem_append_right (by omega), List.getElem_append_right (by omega)]
      simp only [hl, Nat.sub_self, List.getElem_cons_zero]
      exact ⟨trivial, hB.keep hk⟩
  fb := fun b g => ⟨(hF2 b g).1, Nat.lt_of_lt_of_le (hF2 b g).2 hg.size⟩
  off := fun j hj g => by
    rcases hbl with e | e
    · exact hF3 j (e ▸ hj) g
    · rw [e] at hj; cases hj; have := (hF2 _ g).2; omega
  low := h.low.grown hg h.low.size fun k e => (World.ownsRow.lt h.row k e).1

theorem RdI.fin (h : RdI w wr vs ps L Fb) : Recs wr (S.New w wr) vs L := by
  have hl := h.len
  obtain ⟨_, A, cap, e, hc, hx⟩ := S.Sg.of_own h.row
  refine ⟨A, cap, e, hc, fun hn => ?_⟩
  obtain ⟨a, e2, hg, hx⟩ := hx (by intro e; exact hn (List.length_eq_zero_iff.1 e))
  refine ⟨a, e2, hg, fun i hi => ?_⟩
  obtain ⟨h1, h2⟩ := h.is i hi (by omega)
  have f0 := V.flat_at (f := rcC) (m := 2) ps (fun x _ => rfl) i (by omega) 0 (by decide)
  have f1 := V.flat_at (f := rcC) (m := 2) ps (fun x _ => rfl) i (by omega) 1 (by decide)
  refine ⟨ps[i].2, hx (i * 2) _ (by rw [← Nat.add_zero (i * 2), f0, ← h1]; rfl), hx _ _ (by rw [f1]; rfl), h2.wider (fun b g => h.fb b g)⟩
end

theorem beq_last {c : UInt8} (h : (c.toNat / 2 % 2 == 1) = true) : c.toNat / 2 % 2 = 1 := by simpa using h
theorem beq_more {c : UInt8} (h : (c.toNat / 2 % 2 == 1) = false) : ¬ c.toNat / 2 % 2 = 1 := by simpa using h

/-- what the loop holds -/
structure RLs (w w0 wr : World) (d : D.Dk) (first many : Int) (epoch from_ k : Nat) (out all : List (Nat × List UInt8)) (b : Bool) (body : List UInt8) (rs bd : Value) (ps : List (Nat × Value)) (Fb : Nat → Prop) : Prop where
  i : RdI w0 wr rs ps out Fb
  bd : b = false → wr.ownsRow w0.heap.size 5 1 bd body.length (bytesV body) ∧ ∀ j, bd.ownBlock = some j → ¬ Fb j
  bl : body.length ≤ 50 * k
  ol : out.length ≤ k
  good : ∀ j, j < k → ∃ b f, Q.good d (Q.ixI first many ((from_ + j) % 4294967296)) epoch ((from_ + j) % 4294967296) b = some f
  eq : out ++ Q.recs d (Q.ixI first many) epoch (many.toNat - k) ((from_ + k) % 4294967296) b body = all

section
variable {H : World → (Nat → Prop) → Value → D.Dk → Prop}

/-- what Read tells -/
def Rds (w : World) (from_ : Nat) (L : List (Nat × List UInt8)) (e : Ending) (w' : World) : Prop :=
  ∃ v, e = .returned (.tuple #[v, .int .u32 (Q.behind from_ L : Nat)]) ∧ Recs w' (S.New w w') v L ∧ Below w.heap.size w w'

set_option maxRecDepth 100000 in
set_option maxHeartbeats 4000000 in
theorem scan_yes (K : DiskOk H) (KF : FrameOk) {w : World} {F : Nat → Prop} {vd : Value} {d : D.Dk} (h : H w F vd d) (first many : Int) (epoch from_ : Nat) (hf0 : 0 ≤ first) (hf1 : first ≤ 9223372036854775807) (h1 : 1 ≤ many) (hm : many ≤ 9223372036854775807) (he : epoch < 4294967296) (hn : from_ < 4294967296) :
    Calls Try.prog 14 #[vd, .agg #[.int .i64 first, .int .i64 many, .int .u32 (epoch : Int)], .int .u32 (from_ : Int)] w (Rds w from_ (Q.recs d (Q.ixI first many) epoch many.toNat from_ true [])) := by
  obtain ⟨va, rfl⟩ := K.ptr h
  have HH := Lib.hid h
  have hfit := (K.fit h).2.2
  clear h
  obtain ⟨all, hall⟩ : ∃ all, all = Q.recs d (Q.ixI first many) epoch many.toNat from_ true [] := ⟨_, rfl⟩
  rw [← hall]
  have HAll := Lib.hid hall
  clear hall
  have P0 := Bk.new w [.int .i64 first, .int .i64 many, .int .u32 (epoch : Int)] 25 rfl
  have hb0 : Below w.heap.size w (w.alloc (.cells #[.int .i64 first, .int .i64 many, .int .u32 (epoch : Int)] 25)) := (Below.refl _ _).alloc (Nat.le_refl _) _
  have hz0 : (w.alloc (.cells #[.int .i64 first, .int .i64 many, .int .u32 (epoch : Int)] 25)).heap.size = w.heap.size + 1 := by simp
  have hz0a := Nat.le_of_eq hz0
  have hz0b := Nat.le_of_eq hz0.symm
  clear hz0
  have hm1 : ¬ many < 1 := by omega
  have hf2 : ¬ first < 0 := by omega
  go_enter Try.func14, Try.ntmps14
  go_wp2_with fail
  go_step3
  go_wp2_with fail
  go_step3
  go_wp2_with fail
  generalize w.alloc (.cells #[.int .i64 first, .int .i64 many, .int .u32 (epoch : Int)] 25) = w0 at *
  generalize hp : w.heap.size = p at *
  have HS : Hid (RLs w w0 w0 d first many epoch from_ 0 [] all true [] (.slice none 0 0) (.slice none 0 0) [] (fun _ => False)) := Lib.hid
    ⟨⟨S.own_nil _ _ _ _, rfl, fun i hi => absurd hi (Nat.not_lt_zero _), fun b g => g.elim, (fun j hj => by cases hj), Below.refl _ _⟩, (fun e => by cases e), by simp, by simp, fun j hj => absurd hj (Nat.not_lt_zero _), by rw [HAll.out, Nat.add_zero, Nat.mod_eq_of_lt hn]; rfl⟩
  go_loopw [8, 9, 10, 11, 32] (fun rs bd en bg i wr => ∃ k out b body ps Fb, k ≤ many.toNat ∧ i = .int .i64 ((k : Nat) : Int) ∧ bg = .bool b ∧ en = .int .u32 ((Q.behind from_ out : Nat) : Int) ∧ RLs w w0 wr d first many epoch from_ k out all b body rs bd ps Fb) (fun _ _ _ _ i _ => many.toNat - (intOf i).toNat)
  case atStart => exact ⟨0, [], true, [], [], _, Nat.zero_le _, rfl, rfl, rfl, HS.out⟩
  case round =>
    obtain ⟨k, out, b, body, ps, Fb, hk, rfl, rfl, rfl, hL⟩ := hrel
    obtain ⟨E, hE⟩ : ∃ E, E = Q.behind from_ out := ⟨_, rfl⟩
    rw [← hE]
    have HE := Lib.hid hE
    clear hE HS
    have HL := Lib.hid hL
    obtain ⟨Ar, capr, rfl, hcr⟩ : ∃ A cap, u8 = .slice A out.length cap ∧ out.length ≤ cap := by
      obtain ⟨_, A, cap, e, hc, _⟩ := S.Sg.of_own hL.i.row
      exact ⟨A, cap, e, hc⟩
    by_cases hlt : k < many.toNat
    · have hlt' : (k : Int) < many := by omega
      have hk12 : k ≤ 1024 := Nat.le_trans (Q.good_few hfit k hL.good) hfit
      have hlow := hL.i.low
      have hol := hL.ol
      have hbl := hL.bl
      clear hL
      obtain ⟨n, hnn⟩ : ∃ n, n = (from_ + k) % 4294967296 := ⟨_, rfl⟩
      have hn1 : n < 4294967296 := by omega
      have hn2 : ((from_ : Int) + (k : Int)) % 4294967296 = (n : Int) := by omega
      have HN := Lib.hid hnn
      clear hnn
      have P1 := P0.step hlow
      have p0 : wr.cell? ⟨p, 0, none⟩ = some (.int .i64 first) := P1.cell 0 _ rfl
      have p1 : wr.cell? ⟨p, 1, none⟩ = some (.int .i64 many) := P1.cell 1 _ rfl
      have p2 : wr.cell? ⟨p, 2, none⟩ = some (.int .u32 (epoch : Int)) := P1.cell 2 _ rfl
      have hbw : Below w.heap.size w wr := by rw [hp]; exact hb0.trans (hlow.mono (by omega))
      have HFd := Lib.hid (find_any K KF (K.below HH.out hbw) first many epoch n hf0 hf1 h1 hm he hn1)
      obtain ⟨o, ho⟩ : ∃ o, o = Q.fnd d (Q.ixI first many n) epoch n := ⟨_, rfl⟩
      rw [← ho] at HFd
      have HO := Lib.hid ho
      have hsr := hlow.size
      clear ho P1
      go_wp2_with fail
      refine HFd.out.mono ?_
      rintro e w1 ⟨vf, f, rfl, hFV, hnum, hfl, hof, hb1⟩
      have HFV := Lib.hid hFV
      obtain ⟨vb, rfl, hB1⟩ := hFV
      obtain ⟨Ab, capb, rfl, hcb⟩ := Sg_form hB1
      have hs1 := hb1.size
      clear p0 p1 p2 HFd hB1
      have R2 := Bk.new w1 [.int .u32 (f.epoch : Int), .int .u32 (f.seq : Int), .int .u8 (f.flag.toNat : Int), .slice Ab f.body.length capb] 89 rfl
      have hba : Below w1.heap.size w1 (w1.alloc (.cells #[.int .u32 (f.epoch : Int), .int .u32 (f.seq : Int), .int .u8 (f.flag.toNat : Int), .slice Ab f.body.length capb] 89)) := (Below.refl _ _).alloc (Nat.le_refl _) _
      have hza : (w1.alloc (.cells #[.int .u32 (f.epoch : Int), .int .u32 (f.seq : Int), .int .u8 (f.flag.toNat : Int), .slice Ab f.body.length capb] 89)).heap.size = w1.heap.size + 1 := by simp
      have hzaa := Nat.le_of_eq hza
      have hzab := Nat.le_of_eq hza.symm
      clear hza
      have HI2 := Lib.hid ((HL.out.i.below hb1).below hba)
      have HFV2 := Lib.hid (HFV.out.below hba (fun b g => g.2))
      have HBA := Lib.hid hba
      cases o with
      | none =>
        have HG := Lib.hid (Q.go_end (all := all) (n := n) (by rw [HN.out]; exact HL.out.eq) (Q.good_no HO.out.symm b))
        clear hba HFV R2
        dsimp only [Option.isSome] at *
        go_wp2_with fail
        try rw [Exit.noGoto_ret]
        go_ret2
        refine ⟨.slice Ar out.length capr, ret_v (by rw [← HG.out, ← HE.out]; rfl), ?_, ?_⟩
        · rw [← HG.out]
          exact HI2.out.fin.wider (fun b g => ⟨by have := g.1; omega, g.2⟩)
        · rw [hp]
          exact hb0.trans (HI2.out.low.mono (by omega))
      | some f' =>
        obtain rfl : f = f' := hof f' rfl
        dsimp only [Option.isSome] at *
        clear hof
        have HGd := Lib.hid (Q.good_yes (d := d) HO.out.symm b)
        obtain ⟨c, hc⟩ : ∃ c, c = (f.flag.toNat % 2 == 1) := ⟨_, rfl⟩
        rw [← hc] at HGd
        have HHf := Lib.hid (has_first HFV2.out)
        rw [← hc] at HHf
        clear hc
        have r0 := R2.cell 0 _ rfl
        have r1 := R2.cell 1 _ rfl
        have r2 := R2.cell 2 _ rfl
        have r3 := R2.cell 3 _ rfl
        clear hba HFV
        have HR2 := Lib.hid R2
        clear R2
        go_wp2_with fail
        refine HHf.out.mono ?_
        rintro e w3 ⟨rfl, hb3⟩
        clear r0 r1 r2 r3 HHf
        generalize w1.alloc (.cells #[.int .u32 (f.epoch : Int), .int .u32 (f.seq : Int), .int .u8 (f.flag.toNat : Int), .slice Ab f.body.length capb] 89) = w2 at *
        have hs3 := hb3.size
        have HI3 := Lib.hid (HI2.out.below hb3)
        have HFV3 := Lib.hid (HFV2.out.below hb3 (fun b g => by have := g.2; omega))
        have R3 := HR2.out.step hb3
        generalize hr : w1.heap.size = r at *
        clear HI2 HFV2 HR2
        cases c <;> cases b
        · have HGd2 : Hid (Q.good d (Q.ixI first many n) epoch n false = some f) := Lib.hid (by rw [HGd.out]; rfl)
          have r3 : w3.cell? ⟨r, 3, none⟩ = some (.slice Ab f.body.length capb) := R3.cell 3 _ rfl
          obtain ⟨vb3, e3, hB3⟩ := HFV3.out
          obtain rfl : Value.slice Ab f.body.length capb = vb3 := by simpa using e3
          clear e3
          obtain ⟨hown0, hfr0⟩ := HL.out.bd rfl
          obtain ⟨Ao, capo, rfl, hco⟩ : ∃ A cap, u9 = .slice A body.length cap ∧ body.length ≤ cap := by
            obtain ⟨_, A, cap, e, hc, _⟩ := S.Sg.of_own hown0
            exact ⟨A, cap, e, hc⟩
          have hbl0 := fun j hj => World.ownsRow.lt hown0 j hj
          have hap := rows_apart7 hown0 HL.out.i.row (by decide)
          have hown0 := S.own_below (S.own_below hown0 hb1) (by rw [hr]; exact HBA.out)
          have hown0 := S.own_below hown0 hb3
          go_wp2_with (at_builtin; refine S.wpList_append_sg elB rfl _ _ rfl (base := w0.heap.size) (xs := bytesV body) (cs := bytesV f.body) rfl rfl hown0 hB3 (bytesV_one _) (by omega) (by omega) (by have := HI3.out.low.size; omega) ?_)
          intro v4 w4 hown4 hgrow4 hbl4
          have HI4 := Lib.hid (HI3.out.grown hgrow4 (fun j hj => ⟨(hbl0 j hj).1, hfr0 j hj, fun e => hap.elim (fun g => by rw [g] at hj; cases hj) (fun g => g (hj.trans e.symm))⟩))
          have hfr4 : ∀ j, v4.ownBlock = some j → ¬ Fb j := fun j hj g => by
            rcases hbl4 with e | e
            · rw [e] at hj; exact hfr0 j hj g
            · rw [e] at hj; cases hj; have := (HI3.out.fb _ g).2; omega
          have R4 : Bk w4 r [.int .u32 (f.epoch : Int), .int .u32 (f.seq : Int), .int .u8 (f.flag.toNat : Int), .slice Ab f.body.length capb] := R3.keep (hgrow4.block r R3.lt (fun e => by have := (hbl0 r e.symm).2; omega)) hgrow4.size
          have hB4 : SlB w4 (S.New wr w1) (.slice Ab f.body.length capb) f.body := hB3.keep fun a ha => World.cell?_of_block (hgrow4.block _ (by have := ha.2; omega) (fun e => by have := (hbl0 _ e.symm).2; have := ha.1; omega))
          have hown4 : w4.ownsRow w0.heap.size 5 1 v4 (body ++ f.body).length (bytesV (body ++ f.body)) := by rw [List.length_append, bytesV_append]; exact hown4
          obtain ⟨Z, hZ⟩ : ∃ Z, Z = body ++ f.body := ⟨_, rfl⟩
          rw [← hZ] at hown4
          have hZl : Z.length ≤ 50 * (k + 1) := by rw [hZ]; rw [List.length_append]; omega
          have HZ := Lib.hid hZ
          clear hZ
          obtain ⟨Az, capz, rfl, hcz⟩ : ∃ A cap, v4 = .slice A Z.length cap ∧ Z.length ≤ cap := by
            obtain ⟨_, A, cap, e, hc, _⟩ := S.Sg.of_own hown4
            exact ⟨A, cap, e, hc⟩
          have HFV4 : Hid (FrV w4 (S.New wr w1) (.agg #[.int .u32 (f.epoch : Int), .int .u32 (f.seq : Int), .int .u8 (f.flag.toNat : Int), .slice Ab f.body.length capb]) f) := Lib.hid ⟨_, rfl, hB4⟩
          have HHl := Lib.hid (has_last HFV4.out)
          obtain ⟨g, hg⟩ : ∃ g, g = (f.flag.toNat / 2 % 2 == 1) := ⟨_, rfl⟩
          rw [← hg] at HHl
          have HGG := Lib.hid hg
          clear hg
          have q0 : w4.cell? ⟨r, 0, none⟩ = some (.int .u32 (f.epoch : Int)) := R4.cell 0 _ rfl
          have q1 : w4.cell? ⟨r, 1, none⟩ = some (.int .u32 (f.seq : Int)) := R4.cell 1 _ rfl
          have q2 : w4.cell? ⟨r, 2, none⟩ = some (.int .u8 (f.flag.toNat : Int)) := R4.cell 2 _ rfl
          have q3 : w4.cell? ⟨r, 3, none⟩ = some (.slice Ab f.body.length capb) := R4.cell 3 _ rfl
          clear r3 hB3 hB4 hown0 R3 R4 hgrow4 hbl4
          go_wp2_with fail
          refine HHl.out.mono ?_
          rintro e w5 ⟨rfl, hb5⟩
          clear q0 q1 q2 q3 HHl
          have HI5 := Lib.hid (HI4.out.below hb5)
          have HO5 := Lib.hid (S.own_below hown4 hb5)
          have hbz := fun j hj => World.ownsRow.lt hown4 j hj
          have hs5 := hb5.size
          clear hown4 HI4
          have HGo : Hid (∀ j, j < k + 1 → ∃ b f, Q.good d (Q.ixI first many ((from_ + j) % 4294967296)) epoch ((from_ + j) % 4294967296) b = some f) := Lib.hid (fun j hj => by
            by_cases hjk : j < k
            · exact HL.out.good j hjk
            · obtain rfl : j = k := by omega
              rw [← HN.out]
              exact ⟨_, _, HGd2.out⟩)
          cases g with
          | true =>
            have HQ := Lib.hid (Q.go_last (all := all) (n := n) (by rw [HN.out]; exact HL.out.eq) hlt HGd2.out (beq_last HGG.out.symm))
            obtain ⟨n', hn'⟩ : ∃ n', n' = (n + 1) % 4294967296 := ⟨_, rfl⟩
            have hnx : ((n : Int) + 1) % 4294967296 = (n' : Int) := by omega
            have HNX := Lib.hid hn'
            clear hn'
            have HI6 := Lib.hid (HI5.out.below (w2 := w5.alloc (.cells #[.int .u32 (n' : Int), .slice Az Z.length capz] 46)) ((Below.refl _ _).alloc (Nat.le_refl _) _))
            have HO6 := Lib.hid (S.own_below (w' := w5.alloc (.cells #[.int .u32 (n' : Int), .slice Az Z.length capz] 46)) HO5.out ((Below.refl _ _).alloc (Nat.le_refl _) _))
            have hz6 : (w5.alloc (.cells #[.int .u32 (n' : Int), .slice Az Z.length capz] 46)).heap.size = w5.heap.size + 1 := by simp
            have hz6a := Nat.le_of_eq hz6
            have hz6b := Nat.le_of_eq hz6.symm
            clear hz6
            go_wp2_with (at_builtin; refine S.wpList_append_sg elRc rfl _ _ rfl (base := w0.heap.size) (n := out.length) (xs := ps.flatMap rcC) (cs := [.int .u32 (n' : Int), .slice Az Z.length capz]) rfl rfl HI6.out.row (sg_row1 w5 46 #[.int .u32 (n' : Int), .slice Az Z.length capz] rfl) (by simp [Value.oneCell']) (by omega) (by omega) (by have := HI6.out.low.size; omega) ?_)
            intro v7 w7 hown7 hgrow7 hbl7
            generalize w5.alloc (.cells #[.int .u32 (n' : Int), .slice Az Z.length capz] 46) = w6 at *
            have hbl7 : v7.ownBlock = (Value.slice Ar out.length capr).ownBlock ∨ v7.ownBlock = some w6.heap.size := by rw [show w6.heap.size = w5.heap.size + 1 by omega]; exact hbl7
            have HI7 := Lib.hid (HI6.out.push (Fc := fun b => Fb b ∨ (Value.slice Az Z.length capz).ownBlock = some b) hown7 hgrow7 hbl7 (sg_own7 HO6.out (fun b g => Or.inr g)) (fun b g => Or.inl g) (fun b g => g.elim (HI6.out.fb b) (fun g => World.ownsRow.lt HO6.out b g)) (fun j hj g => g.elim (HI6.out.off j hj) (fun g => (rows_apart7 HO6.out HI6.out.row (by decide)).elim (fun e => by rw [e] at g; cases g) (fun e => e (g.trans hj.symm)))))
            obtain ⟨A7, cap7, rfl, hc7⟩ : ∃ A cap, v7 = .slice A (out.length + 1) cap ∧ (out.length + 1) ≤ cap := by
              obtain ⟨_, A, cap, e, hc, _⟩ := S.Sg.of_own hown7
              exact ⟨A, cap, e, hc⟩
            clear hown7 hgrow7 hbl7 HI6 HO6 HI5 HO5 hb5 hb3 hb1
            go_wp2_with fail
            go_roundw
            case rel =>
              refine ⟨k + 1, out ++ [(n', Z)], true, Z, _, _, by omega, by go_num, rfl, by rw [Q.behind_snoc], ⟨HI7.out, (fun e => by cases e), hZl, by simp; omega, HGo.out, ?_⟩⟩
              have hq := HQ.out
              rw [show (from_ + (k + 1)) % 4294967296 = n' by rw [HNX.out, HN.out]; omega, HNX.out, HZ.out]
              exact hq
            case measure => simp [intOf]; omega
          | false =>
            have HQ := Lib.hid (Q.go_more (all := all) (n := n) (by rw [HN.out]; exact HL.out.eq) hlt HGd2.out (beq_more HGG.out.symm))
            clear hb5 hb3 hb1
            go_wp2_with fail
            go_roundw
            case rel =>
              refine ⟨k + 1, out, false, Z, ps, Fb, by omega, by go_num, rfl, by rw [← HE.out], ⟨HI5.out, (fun _ => ⟨HO5.out, hfr4⟩), hZl, by omega, HGo.out, ?_⟩⟩
              have hq := HQ.out
              rw [show (from_ + (k + 1)) % 4294967296 = (n + 1) % 4294967296 by rw [HN.out]; omega, HZ.out]
              exact hq
            case measure => simp [intOf]; omega
        · have HG := Lib.hid (Q.go_end (all := all) (n := n) (by rw [HN.out]; exact HL.out.eq) (by rw [HGd.out]; rfl))
          clear R3
          go_wp2_with fail
          try rw [Exit.noGoto_ret]
          go_ret2
          refine ⟨.slice Ar out.length capr, ret_v (by rw [← HG.out, ← HE.out]; rfl), ?_, ?_⟩
          · rw [← HG.out]
            exact HI3.out.fin.wider (fun b g => ⟨by have := g.1; omega, g.2⟩)
          · rw [hp]
            exact hb0.trans (HI3.out.low.mono (by omega))
        · have HG := Lib.hid (Q.go_end (all := all) (n := n) (by rw [HN.out]; exact HL.out.eq) (by rw [HGd.out]; rfl))
          clear R3
          go_wp2_with fail
          try rw [Exit.noGoto_ret]
          go_ret2
          refine ⟨.slice Ar out.length capr, ret_v (by rw [← HG.out, ← HE.out]; rfl), ?_, ?_⟩
          · rw [← HG.out]
            exact HI3.out.fin.wider (fun b g => ⟨by have := g.1; omega, g.2⟩)
          · rw [hp]
            exact hb0.trans (HI3.out.low.mono (by omega))
        · have HGd2 : Hid (Q.good d (Q.ixI first many n) epoch n true = some f) := Lib.hid (by rw [HGd.out]; rfl)
          have r3 : w3.cell? ⟨r, 3, none⟩ = some (.slice Ab f.body.length capb) := R3.cell 3 _ rfl
          obtain ⟨vb3, e3, hB3⟩ := HFV3.out
          obtain rfl : Value.slice Ab f.body.length capb = vb3 := by simpa using e3
          clear e3
          have hown0 : w3.ownsRow w0.heap.size 5 1 (.slice none 0 0) 0 [] := S.own_nil _ _ _ _
          go_wp2_with (at_builtin; refine S.wpList_append_sg elB rfl _ _ rfl (base := w0.heap.size) (xs := []) (cs := bytesV f.body) rfl rfl hown0 hB3 (bytesV_one _) (by omega) (by omega) (by have := HI3.out.low.size; omega) ?_)
          intro v4 w4 hown4 hgrow4 hbl4
          have HI4 := Lib.hid (HI3.out.grown hgrow4 (fun j hj => by cases hj))
          have hfr4 : ∀ j, v4.ownBlock = some j → ¬ Fb j := fun j hj g => by
            rcases hbl4 with e | e
            · rw [e] at hj; cases hj
            · rw [e] at hj; cases hj; have := (HI3.out.fb _ g).2; omega
          have R4 : Bk w4 r [.int .u32 (f.epoch : Int), .int .u32 (f.seq : Int), .int .u8 (f.flag.toNat : Int), .slice Ab f.body.length capb] := R3.keep (hgrow4.block r R3.lt (fun e => by cases e)) hgrow4.size
          have hB4 : SlB w4 (S.New wr w1) (.slice Ab f.body.length capb) f.body := hB3.keep fun a ha => World.cell?_of_block (hgrow4.block _ (by have := ha.2; omega) (fun e => by cases e))
          have hown4 : w4.ownsRow w0.heap.size 5 1 v4 ([] ++ f.body).length (bytesV ([] ++ f.body)) := by simpa using hown4
          obtain ⟨Z, hZ⟩ : ∃ Z, Z = [] ++ f.body := ⟨_, rfl⟩
          rw [← hZ] at hown4
          have hZl : Z.length ≤ 50 * (k + 1) := by rw [hZ]; rw [List.nil_append]; omega
          have HZ := Lib.hid hZ
          clear hZ
          obtain ⟨Az, capz, rfl, hcz⟩ : ∃ A cap, v4 = .slice A Z.length cap ∧ Z.length ≤ cap := by
            obtain ⟨_, A, cap, e, hc, _⟩ := S.Sg.of_own hown4
            exact ⟨A, cap, e, hc⟩
          have HFV4 : Hid (FrV w4 (S.New wr w1) (.agg #[.int .u32 (f.epoch : Int), .int .u32 (f.seq : Int), .int .u8 (f.flag.toNat : Int), .slice Ab f.body.length capb]) f) := Lib.hid ⟨_, rfl, hB4⟩
          have HHl := Lib.hid (has_last HFV4.out)
          obtain ⟨g, hg⟩ : ∃ g, g = (f.flag.toNat / 2 % 2 == 1) := ⟨_, rfl⟩
          rw [← hg] at HHl
          have HGG := Lib.hid hg
          clear hg
          have q0 : w4.cell? ⟨r, 0, none⟩ = some (.int .u32 (f.epoch : Int)) := R4.cell 0 _ rfl
          have q1 : w4.cell? ⟨r, 1, none⟩ = some (.int .u32 (f.seq : Int)) := R4.cell 1 _ rfl
          have q2 : w4.cell? ⟨r, 2, none⟩ = some (.int .u8 (f.flag.toNat : Int)) := R4.cell 2 _ rfl
          have q3 : w4.cell? ⟨r, 3, none⟩ = some (.slice Ab f.body.length capb) := R4.cell 3 _ rfl
          clear r3 hB3 hB4 hown0 R3 R4 hgrow4 hbl4
          go_wp2_with fail
          refine HHl.out.mono ?_
          rintro e w5 ⟨rfl, hb5⟩
          clear q0 q1 q2 q3 HHl
          have HI5 := Lib.hid (HI4.out.below hb5)
          have HO5 := Lib.hid (S.own_below hown4 hb5)
          have hbz := fun j hj => World.ownsRow.lt hown4 j hj
          have hs5 := hb5.size
          clear hown4 HI4
          have HGo : Hid (∀ j, j < k + 1 → ∃ b f, Q.good d (Q.ixI first many ((from_ + j) % 4294967296)) epoch ((from_ + j) % 4294967296) b = some f) := Lib.hid (fun j hj => by
            by_cases hjk : j < k
            · exact HL.out.good j hjk
            · obtain rfl : j = k := by omega
              rw [← HN.out]
              exact ⟨_, _, HGd2.out⟩)
          cases g with
          | true =>
            have HQ := Lib.hid (Q.go_last (all := all) (n := n) (by rw [HN.out]; exact HL.out.eq) hlt HGd2.out (beq_last HGG.out.symm))
            obtain ⟨n', hn'⟩ : ∃ n', n' = (n + 1) % 4294967296 := ⟨_, rfl⟩
            have hnx : ((n : Int) + 1) % 4294967296 = (n' : Int) := by omega
            have HNX := Lib.hid hn'
            clear hn'
            have HI6 := Lib.hid (HI5.out.below (w2 := w5.alloc (.cells #[.int .u32 (n' : Int), .slice Az Z.length capz] 46)) ((Below.refl _ _).alloc (Nat.le_refl _) _))
            have HO6 := Lib.hid (S.own_below (w' := w5.alloc (.cells #[.int .u32 (n' : Int), .slice Az Z.length capz] 46)) HO5.out ((Below.refl _ _).alloc (Nat.le_refl _) _))
            have hz6 : (w5.alloc (.cells #[.int .u32 (n' : Int), .slice Az Z.length capz] 46)).heap.size = w5.heap.size + 1 := by simp
            have hz6a := Nat.le_of_eq hz6
            have hz6b := Nat.le_of_eq hz6.symm
            clear hz6
            go_wp2_with (at_builtin; refine S.wpList_append_sg elRc rfl _ _ rfl (base := w0.heap.size) (n := out.length) (xs := ps.flatMap rcC) (cs := [.int .u32 (n' : Int), .slice Az Z.length capz]) rfl rfl HI6.out.row (sg_row1 w5 46 #[.int .u32 (n' : Int), .slice Az Z.length capz] rfl) (by simp [Value.oneCell']) (by omega) (by omega) (by have := HI6.out.low.size; omega) ?_)
            intro v7 w7 hown7 hgrow7 hbl7
            generalize w5.alloc (.cells #[.int .u32 (n' : Int), .slice Az Z.length capz] 46) = w6 at *
            have hbl7 : v7.ownBlock = (Value.slice Ar out.length capr).ownBlock ∨ v7.ownBlock = some w6.heap.size := by rw [show w6.heap.size = w5.heap.size + 1 by omega]; exact hbl7
            have HI7 := Lib.hid (HI6.out.push (Fc := fun b => Fb b ∨ (Value.slice Az Z.length capz).ownBlock = some b) hown7 hgrow7 hbl7 (sg_own7 HO6.out (fun b g => Or.inr g)) (fun b g => Or.inl g) (fun b g => g.elim (HI6.out.fb b) (fun g => World.ownsRow.lt HO6.out b g)) (fun j hj g => g.elim (HI6.out.off j hj) (fun g => (rows_apart7 HO6.out HI6.out.row (by decide)).elim (fun e => by rw [e] at g; cases g) (fun e => e (g.trans hj.symm)))))
            obtain ⟨A7, cap7, rfl, hc7⟩ : ∃ A cap, v7 = .slice A (out.length + 1) cap ∧ (out.length + 1) ≤ cap := by
              obtain ⟨_, A, cap, e, hc, _⟩ := S.Sg.of_own hown7
              exact ⟨A, cap, e, hc⟩
            clear hown7 hgrow7 hbl7 HI6 HO6 HI5 HO5 hb5 hb3 hb1
            go_wp2_with fail
            go_roundw
            case rel =>
              refine ⟨k + 1, out ++ [(n', Z)], true, Z, _, _, by omega, by go_num, rfl, by rw [Q.behind_snoc], ⟨HI7.out, (fun e => by cases e), hZl, by simp; omega, HGo.out, ?_⟩⟩
              have hq := HQ.out
              rw [show (from_ + (k + 1)) % 4294967296 = n' by rw [HNX.out, HN.out]; omega, HNX.out, HZ.out]
              exact hq
            case measure => simp [intOf]; omega
          | false =>
            have HQ := Lib.hid (Q.go_more (all := all) (n := n) (by rw [HN.out]; exact HL.out.eq) hlt HGd2.out (beq_more HGG.out.symm))
            clear hb5 hb3 hb1
            go_wp2_with fail
            go_roundw
            case rel =>
              refine ⟨k + 1, out, false, Z, ps, Fb, by omega, by go_num, rfl, by rw [← HE.out], ⟨HI5.out, (fun _ => ⟨HO5.out, hfr4⟩), hZl, by omega, HGo.out, ?_⟩⟩
              have hq := HQ.out
              rw [show (from_ + (k + 1)) % 4294967296 = (n + 1) % 4294967296 by rw [HN.out]; omega, HZ.out]
              exact hq
            case measure => simp [intOf]; omega
    · obtain rfl : k = many.toNat := by omega
      have hlt' : ¬ ((many.toNat : Nat) : Int) < many := by omega
      have HG := Lib.hid (Q.go_done HL.out.eq (Nat.le_refl _))
      clear hL
      go_wp2_with fail
      try rw [Exit.noGoto_ret]
      go_ret2
      refine ⟨.slice Ar out.length capr, ret_v (by rw [← HG.out, ← HE.out]; rfl), ?_, ?_⟩
      · rw [← HG.out]
        exact HL.out.i.fin.wider (fun b g => ⟨by have := g.1; omega, g.2⟩)
      · rw [hp]
        exact hb0.trans (HL.out.i.low.mono (by omega))
end

end Go.Proofs.Ytnjhbmjhldfdpaa
