/-
  Package scan: Read where there is nothing to read; the document's Read.
-/
import Derived.Test.YtnjhbmjhldfdpaaScRead
import Derived.Deep.RegionHeld3
namespace Go.Proofs.Ytnjhbmjhldfdpaa
open Go.RowKit

theorem rds_nil {w w' : World} {from_ : Nat} (hb : Below w.heap.size w w') : Rds w from_ [] (.returned (.tuple #[.slice none 0 0, .int .u32 (from_ : Int)])) w' :=
  ⟨_, rfl, ⟨none, 0, rfl, Nat.le_refl _, fun h => absurd rfl h⟩, hb⟩

set_option maxRecDepth 100000 in
set_option maxHeartbeats 1000000 in
theorem scan_nil (first many : Int) (epoch from_ : Nat) (w : World) :
    Calls Try.prog 14 #[.pointer none, .agg #[.int .i64 first, .int .i64 many, .int .u32 (epoch : Int)], .int .u32 (from_ : Int)] w (Rds w from_ []) := by
  have hb0 : Below w.heap.size w (w.alloc (.cells #[.int .i64 first, .int .i64 many, .int .u32 (epoch : Int)] 25)) := (Below.refl _ _).alloc (Nat.le_refl _) _
  go_enter Try.func14, Try.ntmps14
  go_wp2_with fail
  go_step3
  go_wp2_with fail
  try rw [Exit.noGoto_ret]
  go_ret2
  exact rds_nil hb0

set_option maxRecDepth 100000 in
set_option maxHeartbeats 1000000 in
theorem scan_no (va : Addr) (first many : Int) (epoch from_ : Nat) (w : World) (h : ¬ (1 ≤ many ∧ 0 ≤ first)) :
    Calls Try.prog 14 #[.pointer (some va), .agg #[.int .i64 first, .int .i64 many, .int .u32 (epoch : Int)], .int .u32 (from_ : Int)] w (Rds w from_ []) := by
  have hb0 : Below w.heap.size w (w.alloc (.cells #[.int .i64 first, .int .i64 many, .int .u32 (epoch : Int)] 25)) := (Below.refl _ _).alloc (Nat.le_refl _) _
  by_cases h1 : many < 1
  · clear h
    go_enter Try.func14, Try.ntmps14
    go_wp2_with fail
    go_step3
    go_wp2_with fail
    try rw [Exit.noGoto_ret]
    go_ret2
    exact rds_nil hb0
  · have h2 : first < 0 := by omega
    clear h
    go_enter Try.func14, Try.ntmps14
    go_wp2_with fail
    go_step3
    go_wp2_with fail
    try rw [Exit.noGoto_ret]
    go_ret2
    exact rds_nil hb0

section
variable {H : World → (Nat → Prop) → Value → D.Dk → Prop}
theorem scan_read (K : DiskOk H) (KF : FrameOk) {w : World} {F : Nat → Prop} {vd : Value} {d : D.Dk} (h : H w F vd d) (first many : Int) (epoch from_ : Nat) (hf1 : first ≤ 9223372036854775807) (hm : many ≤ 9223372036854775807) (he : epoch < 4294967296) (hn : from_ < 4294967296) :
    Calls Try.prog 14 #[vd, .agg #[.int .i64 first, .int .i64 many, .int .u32 (epoch : Int)], .int .u32 (from_ : Int)] w (Rds w from_ (Q.all d first many epoch from_)) := by
  unfold Q.all
  by_cases hc : 1 ≤ many ∧ 0 ≤ first
  · rw [if_pos hc]
    exact scan_yes K KF h first many epoch from_ hc.2 hf1 hc.1 hm he hn
  · rw [if_neg hc]
    obtain ⟨va, rfl⟩ := K.ptr h
    exact scan_no va first many epoch from_ w hc
end

/-! the document's -/

def rfC (x : Nat × List UInt8) : List Value := [.int .u32 (x.1 : Int), .string ⟨x.2.toArray⟩]
theorem rfC_one (x : Nat × List UInt8) : ∀ u ∈ rfC x, u.oneCell' = true := by
  intro u hu
  simp only [rfC, List.mem_cons, List.not_mem_nil, or_false] at hu
  rcases hu with rfl | rfl <;> rfl
theorem elR7 : S.El Try.prog 42 48 2 24 := by
  obtain ⟨i0, hi, hz0, hz1, hz2⟩ := info_parts (show (Try.prog.info? 48).map (fun i => (i.zero, i.size, i.bytes)) = some (some (.agg #[.int .u32 0, .string ⟨#[]⟩]), 2, 24) by kernel_rfl)
  exact ⟨Try.underlying42, ⟨i0, _, hi, hz0, hz1, hz2, rfl⟩, by decide⟩
theorem own_r7 {w : World} {base : Nat} {v : Value} {a : List (Nat × List UInt8)} {x : Nat × List UInt8} (h : w.ownsRow base 48 2 v (a.length + 1) (a.flatMap rfC ++ rfC x)) : w.ownsRow base 48 2 v (a ++ [x]).length ((a ++ [x]).flatMap rfC) := by
  rw [List.flatMap_append, List.length_append]
  simpa using h

theorem rdV_is (d : D.Dk) (i : Int) (hfit : d.Fit) : ∃ l k, rdV d i = .tuple #[.string ⟨l.toArray⟩, .int .i64 k] ∧ l.length ≤ 64 ∧ (d.there i → l = d.read i.toNat ∧ k = 0) ∧ (¬ d.there i → k = 11) := by
  by_cases ht : d.there i
  · refine ⟨d.read i.toNat, 0, by rw [rdV, if_pos ht], Nat.le_of_eq (hfit.read_len (by have := ht.1; have := ht.2; omega)), fun _ => ⟨rfl, rfl⟩, fun g => absurd ht g⟩
  · exact ⟨[], 11, by rw [rdV, if_neg ht], by simp, fun g => absurd g ht, fun _ => rfl⟩

/-- what is told, and found -/
theorem fnd_told {d : D.Dk} {i : Int} {l : List UInt8} {k : Int} (h1 : d.there i → l = d.read i.toNat ∧ k = 0) (h2 : ¬ d.there i → k = 11) (e n : Nat) :
    (k = 0 → parseE l = 0 → (parseF l).seq = n → (parseF l).epoch = e → Q.fnd d i e n = some (parseF l)) ∧ ((k ≠ 0 ∨ parseE l ≠ 0 ∨ (parseF l).seq ≠ n ∨ (parseF l).epoch ≠ e) → Q.fnd d i e n = none) := by
  by_cases ht : d.there i
  · obtain ⟨rfl, rfl⟩ := h1 ht
    cases hp : R.parse (d.read i.toNat) with
    | none =>
      refine ⟨fun _ g => ?_, fun _ => Q.fnd_none ht hp⟩
      unfold parseE at g; rw [hp] at g; cases g
    | some f =>
      have e1 : parseE (d.read i.toNat) = 0 := by unfold parseE; rw [hp]
      have e2 : parseF (d.read i.toNat) = f := by unfold parseF; rw [hp]
      rw [e1, e2, Q.fnd_of ht hp]
      refine ⟨fun _ _ a b => if_pos ⟨a, b⟩, fun g => if_neg (fun c => ?_)⟩
      rcases g with g | g | g | g
      · exact g rfl
      · exact g rfl
      · exact g c.1
      · exact g c.2
  · obtain rfl := h2 ht
    exact ⟨(fun g => by cases g), fun _ => Q.fnd_out ht⟩

theorem sg_row1' (w : World) (e : TypeId) (X : Array Value) {k : Nat} (hX : X.size = k) {g : Nat} (hg : g = w.heap.size) : S.Sg (w.alloc (.cells X e)) (fun b => b = g) k (.slice (some ⟨g, 0, none⟩) 1 1) 1 X.toList := by
  subst hg; exact sg_row1 w e X hX
theorem ba_join (a b : List UInt8) : (⟨a.toArray⟩ ++ ⟨b.toArray⟩ : ByteArray) = ⟨(a ++ b).toArray⟩ := by
  apply ByteArray.ext
  apply Array.toList_inj.1
  simp

/-- what the loop holds -/
structure RLr (w0 wr : World) (d : D.Dk) (first many : Int) (epoch from_ k : Nat) (out all : List (Nat × List UInt8)) (b : Bool) (body : List UInt8) (rs : Value) : Prop where
  row : wr.ownsRow w0.heap.size 48 2 rs out.length (out.flatMap rfC)
  low : Below w0.heap.size w0 wr
  bl : body.length ≤ 50 * k
  ol : out.length ≤ k
  good : ∀ j, j < k → ∃ b f, Q.good d (Q.ixI first many ((from_ + j) % 4294967296)) epoch ((from_ + j) % 4294967296) b = some f
  eq : out ++ Q.recs d (Q.ixI first many) epoch (many.toNat - k) ((from_ + k) % 4294967296) b body = all

/-- what the document's Read tells -/
def Rdr (w : World) (from_ : Nat) (L : List (Nat × List UInt8)) (e : Ending) (w' : World) : Prop :=
  ∃ v, e = .returned (.tuple #[v, .int .u32 (Q.behind from_ L : Nat)]) ∧ w'.ownsRow w.heap.size 48 2 v L.length (L.flatMap rfC) ∧ Below w.heap.size w w'

theorem own_lower7 {w : World} {base base' k n : Nat} {e : TypeId} {v : Value} {xs : List Value} (h : w.ownsRow base e k v n xs) (hb : base' ≤ base) : w.ownsRow base' e k v n xs :=
  V.own_raise h (fun j hj => Nat.le_trans hb (World.ownsRow.lt h j hj).1)

set_option maxRecDepth 100000 in
set_option maxHeartbeats 4000000 in
theorem rread7_yes (x : Value) (d : D.Dk) (w : World) (F : Nat → Prop) (hF : ∀ b, F b → b < w.heap.size) (h : Rd w F x d) (hfit : d.Fit) (hd : d.secs.length ≤ 1024) (hr : d.row.length ≤ 1000000) (first many : Int) (epoch from_ : Nat) (hf0 : 0 ≤ first) (hf1 : first ≤ 9223372036854775807) (h1 : 1 ≤ many) (hm : many ≤ 9223372036854775807) (hn : from_ < 4294967296) :
    Calls Try.prog 15 #[x, .int .i64 first, .int .i64 many, .int .u32 (epoch : Int), .int .u32 (from_ : Int)] w (Rdr w from_ (Q.recs d (Q.ixI first many) epoch many.toNat from_ true [])) := by
  obtain ⟨a, b, c, rfl, hx⟩ := h
  have HX : Hid (Rd w F (.agg #[a, b, c]) d) := Lib.hid ⟨a, b, c, rfl, hx⟩
  obtain ⟨A1, m1, e1, A2, m2, e2, A3, m3, e3, rfl, rfl, rfl⟩ := rd_form HX.out
  clear hx
  obtain ⟨all, hall⟩ : ∃ all, all = Q.recs d (Q.ixI first many) epoch many.toNat from_ true [] := ⟨_, rfl⟩
  rw [← hall]
  have HAll := Lib.hid hall
  clear hall
  have P0 := Bk.new w [.slice A1 m1 e1, .slice A2 m2 e2, .slice A3 m3 e3] 32 rfl
  have hb0 : Below w.heap.size w (w.alloc (.cells #[.slice A1 m1 e1, .slice A2 m2 e2, .slice A3 m3 e3] 32)) := (Below.refl _ _).alloc (Nat.le_refl _) _
  have hz0 : (w.alloc (.cells #[.slice A1 m1 e1, .slice A2 m2 e2, .slice A3 m3 e3] 32)).heap.size = w.heap.size + 1 := by simp
  have hz0a := Nat.le_of_eq hz0
  have hz0b := Nat.le_of_eq hz0.symm
  clear hz0
  have hm1 : ¬ many < 1 := by omega
  have hf2 : ¬ first < 0 := by omega
  go_enter Try.func15, Try.ntmps15
  go_wp2_with fail
  generalize w.alloc (.cells #[.slice A1 m1 e1, .slice A2 m2 e2, .slice A3 m3 e3] 32) = w0 at *
  generalize hp : w.heap.size = p at *
  have HS : Hid (RLr w0 w0 d first many epoch from_ 0 [] all true [] (.slice none 0 0)) := Lib.hid
    ⟨S.own_nil _ _ _ _, Below.refl _ _, by simp, by simp, fun j hj => absurd hj (Nat.not_lt_zero _), by rw [HAll.out, Nat.add_zero, Nat.mod_eq_of_lt hn]; rfl⟩
  go_loopw [12, 13, 14, 15, 16] (fun rs en bd bg i wr => ∃ k out b body, k ≤ many.toNat ∧ i = .int .i64 ((k : Nat) : Int) ∧ bg = .bool b ∧ en = .int .u32 ((Q.behind from_ out : Nat) : Int) ∧ bd = .string ⟨body.toArray⟩ ∧ RLr w0 wr d first many epoch from_ k out all b body rs) (fun _ _ _ _ i _ => many.toNat - (intOf i).toNat)
  case atStart => exact ⟨0, [], true, [], Nat.zero_le _, rfl, rfl, rfl, rfl, HS.out⟩
  case round =>
    obtain ⟨k, out, b, body, hk, rfl, rfl, rfl, rfl, hL⟩ := hrel
    obtain ⟨E, hE⟩ : ∃ E, E = Q.behind from_ out := ⟨_, rfl⟩
    rw [← hE]
    have HE := Lib.hid hE
    clear hE HS
    have HL := Lib.hid hL
    obtain ⟨Ar, capr, rfl, hcr⟩ : ∃ A cap, u12 = .slice A out.length cap ∧ out.length ≤ cap := by
      obtain ⟨_, A, cap, e, hc, _⟩ := S.Sg.of_own hL.row
      exact ⟨A, cap, e, hc⟩
    have HFin : Hid (∀ w' : World, Below wr.heap.size wr w' → out = all → Rdr w from_ all (.returned (.tuple #[.slice Ar out.length capr, .int .u32 (E : Int)])) w') := Lib.hid (fun w' hb ho => by
      subst ho
      refine ⟨_, ret_v (by rw [HE.out]), own_lower7 (S.own_below HL.out.row hb) (by omega), ?_⟩
      rw [hp]
      exact hb0.trans ((HL.out.low.trans (hb.mono HL.out.low.size)).mono (by omega)))
    by_cases hlt : k < many.toNat
    · have hlt' : (k : Int) < many := by omega
      have hk12 : k ≤ 1024 := Nat.le_trans (Q.good_few hd k hL.good) hd
      have hlow := hL.low
      have hol := hL.ol
      have hbl := hL.bl
      clear hL
      obtain ⟨n, hnn⟩ : ∃ n, n = (from_ + k) % 4294967296 := ⟨_, rfl⟩
      have hn1 : n < 4294967296 := by omega
      have hn2 : ((from_ : Int) + (k : Int)) % 4294967296 = (n : Int) := by omega
      have HN := Lib.hid hnn
      clear hnn
      have hsr := hlow.size
      have P1 := P0.step hlow
      have hXr : Rd wr F (.agg #[.slice A1 m1 e1, .slice A2 m2 e2, .slice A3 m3 e3]) d := (HX.out.below (B := w.heap.size) (by rw [hp]; exact hb0) (by rw [hp]; exact hF)).below hlow (fun b g => by have := hF b g; omega)
      have HXr := Lib.hid hXr
      clear hXr
      obtain ⟨ix, hix⟩ : ∃ ix, ix = Q.ixI first many n := ⟨_, rfl⟩
      obtain ⟨l, bad, hrd, hll, ht1, ht2⟩ := rdV_is d ix hfit
      have HIX := Lib.hid hix
      have HK : Hid (∀ w' : World, Below wr.heap.size wr w' → w'.cell? ⟨p, 0, none⟩ = some (.slice A1 m1 e1) ∧ w'.cell? ⟨p, 1, none⟩ = some (.slice A2 m2 e2) ∧ w'.cell? ⟨p, 2, none⟩ = some (.slice A3 m3 e3) ∧ Below wr.heap.size wr w') := Lib.hid fun w' hb => ⟨(P1.step hb).cell 0 _ rfl, (P1.step hb).cell 1 _ rfl, (P1.step hb).cell 2 _ rfl, hb⟩
      have HAt : Hid (∀ w' : World, (w'.cell? ⟨p, 0, none⟩ = some (.slice A1 m1 e1) ∧ w'.cell? ⟨p, 1, none⟩ = some (.slice A2 m2 e2) ∧ w'.cell? ⟨p, 2, none⟩ = some (.slice A3 m3 e3) ∧ Below wr.heap.size wr w') → Calls Try.prog 36 #[.int .i64 first, .int .i64 many, .int .u32 (n : Int)] w' fun e w'' => e = .returned (.int .i64 ix) ∧ (w''.cell? ⟨p, 0, none⟩ = some (.slice A1 m1 e1) ∧ w''.cell? ⟨p, 1, none⟩ = some (.slice A2 m2 e2) ∧ w''.cell? ⟨p, 2, none⟩ = some (.slice A3 m3 e3) ∧ Below wr.heap.size wr w'')) :=
        Lib.hid fun w' hS => (rat_all first many n w' hf0 hf1 h1 hm hn1).mono (fun e w'' ⟨he, hw⟩ => ⟨by rw [HIX.out]; exact he, by rw [hw]; exact hS⟩)
      have HRd : Hid (∀ w' : World, (w'.cell? ⟨p, 0, none⟩ = some (.slice A1 m1 e1) ∧ w'.cell? ⟨p, 1, none⟩ = some (.slice A2 m2 e2) ∧ w'.cell? ⟨p, 2, none⟩ = some (.slice A3 m3 e3) ∧ Below wr.heap.size wr w') → Calls Try.prog 35 #[.agg #[.slice A1 m1 e1, .slice A2 m2 e2, .slice A3 m3 e3], .int .i64 ix] w' fun e w'' => e = .returned (.tuple #[.string ⟨l.toArray⟩, .int .i64 bad]) ∧ (w''.cell? ⟨p, 0, none⟩ = some (.slice A1 m1 e1) ∧ w''.cell? ⟨p, 1, none⟩ = some (.slice A2 m2 e2) ∧ w''.cell? ⟨p, 2, none⟩ = some (.slice A3 m3 e3) ∧ Below wr.heap.size wr w'')) :=
        Lib.hid fun w' hS => (rread_any _ d ix w' F (fun b g => by have := hF b g; have := hS.2.2.2.size; omega) (HXr.out.below hS.2.2.2 (fun b g => by have := hF b g; omega)) hr (by omega)).mono (fun e w'' ⟨he, hb⟩ => ⟨by rw [← hrd]; exact he, HK.out _ (hS.2.2.2.trans (hb.mono hS.2.2.2.size))⟩)
      have HT := Lib.hid (And.intro ht1 ht2)
      have hbd : Below wr.heap.size wr wr.drew := (Below.refl _ _).drew
      clear hix hrd ht1 ht2 P1
      go_wp2_with fail
      go_region_held3 (fun w' => w'.cell? ⟨p, 0, none⟩ = some (.slice A1 m1 e1) ∧ w'.cell? ⟨p, 1, none⟩ = some (.slice A2 m2 e2) ∧ w'.cell? ⟨p, 2, none⟩ = some (.slice A3 m3 e3) ∧ Below wr.heap.size wr w')
        (first | exact HK.out _ hbd | assumption)
        (first
          | (go_at_call 36
             with_reducible refine (HAt.out _ (by assumption)).mono ?_
             rintro e1 w1 ⟨rfl, hS1⟩)
          | (go_at_call 35
             with_reducible refine (HRd.out _ (by assumption)).mono ?_
             rintro e2 w2 ⟨rfl, hS2⟩))
      have hb2 := hS2.2.2.2
      clear HAt HRd hbd hS1 hS2 HK
      have hs2 := hb2.size
      have HPs := Lib.hid (rparse_any ⟨l.toArray⟩ w2 (by simp [ByteArray.size]; omega))
      have hpok := parseF_ok l
      rw [show (⟨l.toArray⟩ : ByteArray).data.toList = l from rfl, psV_eq] at HPs
      have HTd := Lib.hid (fnd_told HT.out.1 HT.out.2 epoch n)
      obtain ⟨f, hf⟩ : ∃ f, f = parseF l := ⟨_, rfl⟩
      obtain ⟨W, hW⟩ : ∃ W, W = parseE l := ⟨_, rfl⟩
      rw [← hf, ← hW] at HPs HTd
      rw [← hf] at hpok
      rw [HIX.out] at HTd
      clear hf hW
      have HPs : Hid (Calls Try.prog 37 #[.string ⟨l.toArray⟩] w2 fun e w' => e = .returned (.tuple #[.agg #[.int .u32 (f.epoch : Int), .int .u32 (f.seq : Int), .int .u8 (f.flag.toNat : Int), .string ⟨f.body.toArray⟩], .int .i64 W]) ∧ Below w2.heap.size w2 w') := Lib.hid HPs.out
      go_wp2_with fail
      refine HPs.out.mono ?_
      rintro e w3 ⟨rfl, hb3⟩
      have hb23 := below_two hb2 hb3
      have hs3 := hb3.size
      clear HPs
      have R4 := Bk.new w3 [.int .u32 (f.epoch : Int), .int .u32 (f.seq : Int), .int .u8 (f.flag.toNat : Int), .string ⟨f.body.toArray⟩] 97 rfl
      have hb4 : Below wr.heap.size wr (w3.alloc (.cells #[.int .u32 (f.epoch : Int), .int .u32 (f.seq : Int), .int .u8 (f.flag.toNat : Int), .string ⟨f.body.toArray⟩] 97)) := hb23.alloc (by omega) _
      have hz4 : (w3.alloc (.cells #[.int .u32 (f.epoch : Int), .int .u32 (f.seq : Int), .int .u8 (f.flag.toNat : Int), .string ⟨f.body.toArray⟩] 97)).heap.size = w3.heap.size + 1 := by simp
      have hz4a := Nat.le_of_eq hz4
      clear hz4
      have r0 : (w3.alloc (.cells #[.int .u32 (f.epoch : Int), .int .u32 (f.seq : Int), .int .u8 (f.flag.toNat : Int), .string ⟨f.body.toArray⟩] 97)).cell? ⟨w3.heap.size, 0, none⟩ = some (.int .u32 (f.epoch : Int)) := R4.cell 0 _ rfl
      have r1 : (w3.alloc (.cells #[.int .u32 (f.epoch : Int), .int .u32 (f.seq : Int), .int .u8 (f.flag.toNat : Int), .string ⟨f.body.toArray⟩] 97)).cell? ⟨w3.heap.size, 1, none⟩ = some (.int .u32 (f.seq : Int)) := R4.cell 1 _ rfl
      have r2 : (w3.alloc (.cells #[.int .u32 (f.epoch : Int), .int .u32 (f.seq : Int), .int .u8 (f.flag.toNat : Int), .string ⟨f.body.toArray⟩] 97)).cell? ⟨w3.heap.size, 2, none⟩ = some (.int .u8 (f.flag.toNat : Int)) := R4.cell 2 _ rfl
      have r3 : (w3.alloc (.cells #[.int .u32 (f.epoch : Int), .int .u32 (f.seq : Int), .int .u8 (f.flag.toNat : Int), .string ⟨f.body.toArray⟩] 97)).cell? ⟨w3.heap.size, 3, none⟩ = some (.string ⟨f.body.toArray⟩) := R4.cell 3 _ rfl
      clear R4
      by_cases c1 : bad = 0
      · subst c1
        by_cases c2 : W = 0
        · subst c2
          by_cases c3 : f.seq = n
          · have c3' : ((f.seq : Int) != (n : Int)) = false := by simp; omega
            by_cases c4 : f.epoch = epoch
            · have c4' : ((f.epoch : Int) != (epoch : Int)) = false := by simp; omega
              have HGd := Lib.hid (Q.good_yes (d := d) (HTd.out.1 rfl rfl c3 c4) b)
              clear c3 c4 HTd
              obtain ⟨c, hc⟩ : ∃ c, c = (f.flag.toNat % 2 == 1) := ⟨_, rfl⟩
              have hc' : (((f.flag.toNat : Int) % 2) == 1) = c := by rw [hc, Bool.eq_iff_iff]; simp; omega
              rw [← hc] at HGd
              clear hc
              obtain ⟨g, hg⟩ : ∃ g, g = (f.flag.toNat / 2 % 2 == 1) := ⟨_, rfl⟩
              have hg' : ((f.flag.toNat : Int) / 2 % 2 == 1) = g := by rw [hg, Bool.eq_iff_iff]; simp; omega
              have HGG := Lib.hid hg
              clear hg
              cases c <;> cases b
              · have HGd2 : Hid (Q.good d (Q.ixI first many n) epoch n false = some f) := Lib.hid (by rw [HGd.out]; rfl)
                have HGo : Hid (∀ j, j < k + 1 → ∃ b f, Q.good d (Q.ixI first many ((from_ + j) % 4294967296)) epoch ((from_ + j) % 4294967296) b = some f) := Lib.hid (fun j hj => by
                  by_cases hjk : j < k
                  · exact HL.out.good j hjk
                  · obtain rfl : j = k := by omega
                    rw [← HN.out]
                    exact ⟨_, _, HGd2.out⟩)
                cases g with
                | true =>
                  have HQ := Lib.hid (Q.go_last (all := all) (n := n) (by rw [HN.out]; exact HL.out.eq) hlt HGd2.out (beq_last HGG.out.symm))
                  obtain ⟨n', hn'⟩ : ∃ n', n' = (n + 1) % 4294967296 := ⟨_, rfl⟩
                  have hnx : ((n : Int) + 1) % 4294967296 = (n' : Int) := by omega
                  have HNX := Lib.hid hn'
                  clear hn'
                  have HX7 : Hid ([.int .u32 (n' : Int), .string ((⟨body.toArray⟩ : ByteArray) ++ ⟨f.body.toArray⟩)] = rfC (n', body ++ f.body)) := Lib.hid (by rw [rfC, ← ba_join])
                  have hown4 : (w3.alloc (.cells #[.int .u32 (f.epoch : Int), .int .u32 (f.seq : Int), .int .u8 (f.flag.toNat : Int), .string ⟨f.body.toArray⟩] 97)).ownsRow w0.heap.size 48 2 (.slice Ar out.length capr) out.length (out.flatMap rfC) := S.own_below HL.out.row hb4
                  go_wp2_with (at_builtin; refine S.wpList_append_sg elR7 rfl _ _ rfl (base := w0.heap.size) (n := out.length) (m := 1) (xs := out.flatMap rfC) (cs := [.int .u32 (n' : Int), .string ((⟨body.toArray⟩ : ByteArray) ++ ⟨f.body.toArray⟩)]) rfl rfl (hown4.alloc _) (sg_row1' (w3.alloc (.cells #[.int .u32 (f.epoch : Int), .int .u32 (f.seq : Int), .int .u8 (f.flag.toNat : Int), .string ⟨f.body.toArray⟩] 97)) 48 #[.int .u32 (n' : Int), .string ((⟨body.toArray⟩ : ByteArray) ++ ⟨f.body.toArray⟩)] rfl (g := w3.heap.size + 1) (by simp)) (by rw [HX7.out]; exact rfC_one _) (by omega) (by omega) (by simp; omega) ?_)
                  intro v7 w7 hown7 hgrow7 _
                  have HB7 := Lib.hid ((HL.out.low.trans ((hb4.alloc hb4.size _).mono HL.out.low.size)).trans (S.below_base (hown4.alloc (.cells #[.int .u32 (n' : Int), .string ((⟨body.toArray⟩ : ByteArray) ++ ⟨f.body.toArray⟩)] 48)) (by simp; omega) hgrow7))
                  rw [HX7.out] at hown7
                  have HO7 := Lib.hid (own_r7 hown7)
                  obtain ⟨A7, cap7, rfl, hc7⟩ : ∃ A cap, v7 = .slice A (out.length + 1) cap ∧ (out.length + 1) ≤ cap := by
                    obtain ⟨_, A, cap, e, hc, _⟩ := S.Sg.of_own hown7
                    exact ⟨A, cap, e, hc⟩
                  clear hown7 hgrow7 hown4
                  go_wp2_with fail
                  go_roundw
                  case rel =>
                    refine ⟨k + 1, out ++ [(n', body ++ f.body)], true, body ++ f.body, by omega, by go_num, rfl, by rw [Q.behind_snoc], congrArg Value.string (ba_join _ _), ⟨HO7.out, HB7.out, by simp; omega, by simp; omega, HGo.out, ?_⟩⟩
                    have hq := HQ.out
                    rw [show (from_ + (k + 1)) % 4294967296 = n' by rw [HNX.out, HN.out]; omega, HNX.out]
                    exact hq
                  case measure => simp [intOf]; omega
                | false =>
                  have HQ := Lib.hid (Q.go_more (all := all) (n := n) (by rw [HN.out]; exact HL.out.eq) hlt HGd2.out (beq_more HGG.out.symm))
                  go_wp2_with fail
                  go_roundw
                  case rel =>
                    refine ⟨k + 1, out, false, body ++ f.body, by omega, by go_num, rfl, by rw [← HE.out], ?_, ⟨S.own_below HL.out.row hb4, HL.out.low.trans (hb4.mono HL.out.low.size), by simp; omega, by omega, HGo.out, ?_⟩⟩
                    · exact congrArg Value.string (ba_join _ _)
                    · have hq := HQ.out
                      rw [show (from_ + (k + 1)) % 4294967296 = (n + 1) % 4294967296 by rw [HN.out]; omega]
                      exact hq
                  case measure => simp [intOf]; omega
              · have HG := Lib.hid (Q.go_end (all := all) (n := n) (by rw [HN.out]; exact HL.out.eq) (by rw [HGd.out]; rfl))
                go_wp2_with fail
                go_ret2
                exact HFin.out _ hb4 HG.out
              · have HG := Lib.hid (Q.go_end (all := all) (n := n) (by rw [HN.out]; exact HL.out.eq) (by rw [HGd.out]; rfl))
                go_wp2_with fail
                go_ret2
                exact HFin.out _ hb4 HG.out
              · have HGd2 : Hid (Q.good d (Q.ixI first many n) epoch n true = some f) := Lib.hid (by rw [HGd.out]; rfl)
                have HGo : Hid (∀ j, j < k + 1 → ∃ b f, Q.good d (Q.ixI first many ((from_ + j) % 4294967296)) epoch ((from_ + j) % 4294967296) b = some f) := Lib.hid (fun j hj => by
                  by_cases hjk : j < k
                  · exact HL.out.good j hjk
                  · obtain rfl : j = k := by omega
                    rw [← HN.out]
                    exact ⟨_, _, HGd2.out⟩)
                cases g with
                | true =>
                  have HQ := Lib.hid (Q.go_last (all := all) (n := n) (by rw [HN.out]; exact HL.out.eq) hlt HGd2.out (beq_last HGG.out.symm))
                  obtain ⟨n', hn'⟩ : ∃ n', n' = (n + 1) % 4294967296 := ⟨_, rfl⟩
                  have hnx : ((n : Int) + 1) % 4294967296 = (n' : Int) := by omega
                  have HNX := Lib.hid hn'
                  clear hn'
                  have HX7 : Hid ([.int .u32 (n' : Int), .string ((⟨#[]⟩ : ByteArray) ++ ⟨f.body.toArray⟩)] = rfC (n', [] ++ f.body)) := Lib.hid (by rw [rfC, ← ba_join])
                  have hown4 : (w3.alloc (.cells #[.int .u32 (f.epoch : Int), .int .u32 (f.seq : Int), .int .u8 (f.flag.toNat : Int), .string ⟨f.body.toArray⟩] 97)).ownsRow w0.heap.size 48 2 (.slice Ar out.length capr) out.length (out.flatMap rfC) := S.own_below HL.out.row hb4
                  go_wp2_with (at_builtin; refine S.wpList_append_sg elR7 rfl _ _ rfl (base := w0.heap.size) (n := out.length) (m := 1) (xs := out.flatMap rfC) (cs := [.int .u32 (n' : Int), .string ((⟨#[]⟩ : ByteArray) ++ ⟨f.body.toArray⟩)]) rfl rfl (hown4.alloc _) (sg_row1' (w3.alloc (.cells #[.int .u32 (f.epoch : Int), .int .u32 (f.seq : Int), .int .u8 (f.flag.toNat : Int), .string ⟨f.body.toArray⟩] 97)) 48 #[.int .u32 (n' : Int), .string ((⟨#[]⟩ : ByteArray) ++ ⟨f.body.toArray⟩)] rfl (g := w3.heap.size + 1) (by simp)) (by rw [HX7.out]; exact rfC_one _) (by omega) (by omega) (by simp; omega) ?_)
                  intro v7 w7 hown7 hgrow7 _
                  have HB7 := Lib.hid ((HL.out.low.trans ((hb4.alloc hb4.size _).mono HL.out.low.size)).trans (S.below_base (hown4.alloc (.cells #[.int .u32 (n' : Int), .string ((⟨#[]⟩ : ByteArray) ++ ⟨f.body.toArray⟩)] 48)) (by simp; omega) hgrow7))
                  rw [HX7.out] at hown7
                  have HO7 := Lib.hid (own_r7 hown7)
                  obtain ⟨A7, cap7, rfl, hc7⟩ : ∃ A cap, v7 = .slice A (out.length + 1) cap ∧ (out.length + 1) ≤ cap := by
                    obtain ⟨_, A, cap, e, hc, _⟩ := S.Sg.of_own hown7
                    exact ⟨A, cap, e, hc⟩
                  clear hown7 hgrow7 hown4
                  go_wp2_with fail
                  go_roundw
                  case rel =>
                    refine ⟨k + 1, out ++ [(n', [] ++ f.body)], true, [] ++ f.body, by omega, by go_num, rfl, by rw [Q.behind_snoc], congrArg Value.string (ba_join _ _), ⟨HO7.out, HB7.out, by simp; omega, by simp; omega, HGo.out, ?_⟩⟩
                    have hq := HQ.out
                    rw [show (from_ + (k + 1)) % 4294967296 = n' by rw [HNX.out, HN.out]; omega, HNX.out]
                    exact hq
                  case measure => simp [intOf]; omega
                | false =>
                  have HQ := Lib.hid (Q.go_more (all := all) (n := n) (by rw [HN.out]; exact HL.out.eq) hlt HGd2.out (beq_more HGG.out.symm))
                  go_wp2_with fail
                  go_roundw
                  case rel =>
                    refine ⟨k + 1, out, false, [] ++ f.body, by omega, by go_num, rfl, by rw [← HE.out], ?_, ⟨S.own_below HL.out.row hb4, HL.out.low.trans (hb4.mono HL.out.low.size), by simp; omega, by omega, HGo.out, ?_⟩⟩
                    · exact congrArg Value.string (ba_join _ _)
                    · have hq := HQ.out
                      rw [show (from_ + (k + 1)) % 4294967296 = (n + 1) % 4294967296 by rw [HN.out]; omega]
                      exact hq
                  case measure => simp [intOf]; omega
            · have c4' : ((f.epoch : Int) != (epoch : Int)) = true := by simp; omega
              have HG := Lib.hid (Q.go_end (all := all) (n := n) (by rw [HN.out]; exact HL.out.eq) (Q.good_no (HTd.out.2 (Or.inr (Or.inr (Or.inr c4)))) b))
              clear c3 c4 HTd
              go_wp2_with fail
              go_ret2
              exact HFin.out _ hb4 HG.out
          · have c3' : ((f.seq : Int) != (n : Int)) = true := by simp; omega
            have HG := Lib.hid (Q.go_end (all := all) (n := n) (by rw [HN.out]; exact HL.out.eq) (Q.good_no (HTd.out.2 (Or.inr (Or.inr (Or.inl c3)))) b))
            clear c3 HTd
            go_wp2_with fail
            go_ret2
            exact HFin.out _ hb4 HG.out
        · have c2' : (W != 0) = true := by simpa using c2
          have HG := Lib.hid (Q.go_end (all := all) (n := n) (by rw [HN.out]; exact HL.out.eq) (Q.good_no (HTd.out.2 (Or.inr (Or.inl c2))) b))
          clear c2 HTd
          go_wp2_with fail
          go_ret2
          exact HFin.out _ hb4 HG.out
      · have c1' : (bad != 0) = true := by simpa using c1
        have HG := Lib.hid (Q.go_end (all := all) (n := n) (by rw [HN.out]; exact HL.out.eq) (Q.good_no (HTd.out.2 (Or.inl c1)) b))
        clear c1 HTd
        go_wp2_with fail
        go_ret2
        exact HFin.out _ hb4 HG.out
    · obtain rfl : k = many.toNat := by omega
      have hlt' : ¬ ((many.toNat : Nat) : Int) < many := by omega
      have HG := Lib.hid (Q.go_done HL.out.eq (Nat.le_refl _))
      clear hL
      go_wp2_with fail
      go_ret2
      exact HFin.out _ (Below.refl _ _) HG.out

set_option maxRecDepth 100000 in
set_option maxHeartbeats 1000000 in
theorem rread7_no (a b c : Value) (first many : Int) (epoch from_ : Nat) (w : World) (h : ¬ (1 ≤ many ∧ 0 ≤ first)) {F : Nat → Prop} {d : D.Dk} (hd : Rd w F (.agg #[a, b, c]) d) :
    Calls Try.prog 15 #[.agg #[a, b, c], .int .i64 first, .int .i64 many, .int .u32 (epoch : Int), .int .u32 (from_ : Int)] w (Rdr w from_ []) := by
  obtain ⟨A1, m1, e1, A2, m2, e2, A3, m3, e3, rfl, rfl, rfl⟩ := rd_form hd
  have hb0 : Below w.heap.size w (w.alloc (.cells #[.slice A1 m1 e1, .slice A2 m2 e2, .slice A3 m3 e3] 32)) := (Below.refl _ _).alloc (Nat.le_refl _) _
  have HF : Hid (Rdr w from_ [] (.returned (.tuple #[.slice none 0 0, .int .u32 (from_ : Int)])) (w.alloc (.cells #[.slice A1 m1 e1, .slice A2 m2 e2, .slice A3 m3 e3] 32))) := Lib.hid ⟨_, rfl, S.own_nil _ _ _ _, hb0⟩
  by_cases h1 : many < 1
  · clear h hd
    go_enter Try.func15, Try.ntmps15
    go_wp2_with fail
    go_ret2
    exact HF.out
  · have h2 : first < 0 := by omega
    clear h hd
    go_enter Try.func15, Try.ntmps15
    go_wp2_with fail
    go_ret2
    exact HF.out

theorem rscan_read (x : Value) (d : D.Dk) (w : World) (F : Nat → Prop) (hF : ∀ b, F b → b < w.heap.size) (h : Rd w F x d) (hfit : d.Fit) (hd : d.secs.length ≤ 1024) (hr : d.row.length ≤ 1000000) (first many : Int) (epoch from_ : Nat) (hf1 : first ≤ 9223372036854775807) (hm : many ≤ 9223372036854775807) (hn : from_ < 4294967296) :
    Calls Try.prog 15 #[x, .int .i64 first, .int .i64 many, .int .u32 (epoch : Int), .int .u32 (from_ : Int)] w (Rdr w from_ (Q.all d first many epoch from_)) := by
  unfold Q.all
  by_cases hc : 1 ≤ many ∧ 0 ≤ first
  · rw [if_pos hc]
    exact rread7_yes x d w F hF h hfit hd hr first many epoch from_ hc.2 hf1 hc.1 hm hn
  · rw [if_neg hc]
    obtain ⟨a, b, c, rfl, hx⟩ := h
    exact rread7_no a b c first many epoch from_ w hc ⟨a, b, c, rfl, hx⟩

end Go.Proofs.Ytnjhbmjhldfdpaa
