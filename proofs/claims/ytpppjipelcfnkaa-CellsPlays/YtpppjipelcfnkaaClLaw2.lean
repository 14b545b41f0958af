/-
  Walks of layer cells' laws' helpers: do.
-/
import Derived.Test.YtpppjipelcfnkaaClLaw1
namespace Go.Proofs.Ytpppjipelcfnkaa
open Go.RowKit

set_option maxRecDepth 100000 in
theorem eqlR_self (a b : Int) (s : ByteArray) (q : Bool) (w : World) : (binOp .eql 76 (.agg #[.int .i64 a, .int .i64 b, .string s, .bool q]) (.agg #[.int .i64 a, .int .i64 b, .string s, .bool q])).run Try.prog w = .ok (.bool true) w := by
  rw [run_eql_struct, equalIn_self undRv heldRv ⟨_, _, _, _, rfl, rfl, rfl, rfl, rfl⟩ 9998]; rfl

/-- the cells of a deed -/
def ddC (d : Dd11) (vl : Value) : List Value := [.int .i64 d.kind, .int .i64 d.k.kind, .int .i64 d.k.a, .int .i64 d.k.b, .int .i64 d.ts, .string d.val, vl]

theorem Bk.turn {w w' : World} {F : Nat → Prop} {p : Nat} {vs : List Value} (h : Bk w p vs) (ht : Turn F w w') (hF : ¬ F p) : Bk w' p vs := h.keep (ht.block p h.lt hF) ht.size

section
variable {H : World → (Nat → Prop) → Value → Cl.Cs → Prop}

/-- what a deed leaves: the object in F', and the document's cells outside of it -/
def Did11 (H : World → (Nat → Prop) → Value → Cl.Cs → Prop) (w : World) (F : Nat → Prop) (v : Value) (Y : Cl.Cs) (e : Ending) (w' : World) : Prop :=
  ∃ vx' F', e = .returned (.tuple #[vx', .bool true]) ∧ H w' F' v Y ∧ Cls w' (Out F' w') vx' Y ∧ (∀ b, F' b → More F w w' b) ∧ Turn F w w'

theorem Cls.turn {w w' : World} {F F' : Nat → Prop} {v : Value} {X : Cl.Cs} (h : Cls w (Out F w) v X) (ht : Turn F w w') (hF : ∀ b, F' b → More F w w' b) : Cls w' (Out F' w') v X :=
  (h.keep (fun _ hp => ht.cell hp.1 hp.2)).wider (fun _ hb => hb.next ht.size hF)
theorem SlC.turn {w w' : World} {F F' : Nat → Prop} {v : Value} {c : Cn.Ch} (h : SlC w (Out F w) v c) (ht : Turn F w w') (hF : ∀ b, F' b → More F w w' b) : SlC w' (Out F' w') v c :=
  (S.Sg.keep h (fun _ hp => ht.cell hp.1 hp.2)).wider (fun _ hb => hb.next ht.size hF)
theorem out_low {w w' : World} {F : Nat → Prop} {b : Nat} (h : Out F w b ∨ S.New w w' b) (hs : w.heap.size ≤ w'.heap.size) (hF : ∀ b, F b → b < w.heap.size) : Out F w' b :=
  h.elim (fun q => ⟨Nat.lt_of_lt_of_le q.1 hs, q.2⟩) (fun q => Out.made q hF)
theorem more_low {w w1 w2 : World} {F : Nat → Prop} {b : Nat} (h : More F w w1 b) (hs : w1.heap.size ≤ w2.heap.size) : More F w w2 b := h.elim Or.inl (fun q => Or.inr ⟨q.1, Nat.lt_of_lt_of_le q.2 hs⟩)

theorem Did11.fin (K : CellsOk H) {w w1 w2 w5 : World} {F : Nat → Prop} {v vx' : Value} {Y : Cl.Cs} {e : Ending} {T F2 : Nat → Prop} (hb1 : Below w.heap.size w w1) (hh : H w2 F2 v Y) (hF2 : ∀ b, F2 b → More F w1 w2 b) (ht : Turn F w1 w2) (hx : Cls w5 T vx' Y) (hT : ∀ b, T b → Out F2 w2 b ∨ S.New w2 w5 b) (hb : Below w2.heap.size w2 w5) (he : e = .returned (.tuple #[vx', .bool true])) : Did11 H w F v Y e w5 := by
  have hl := K.lt hh
  refine ⟨vx', F2, he, K.below hh hb, hx.wider (fun b q => out_low (hT b q) hb.size hl), fun b q => ?_, (Turn.after hb1 ht).trans' hb⟩
  exact (hF2 b q).elim Or.inl (fun g => Or.inr ⟨Nat.le_trans hb1.size g.1, Nat.lt_of_lt_of_le g.2 hb.size⟩)
theorem drewN_below (w : World) (n : Nat) : Below w.heap.size w (w.drewN n) := still_b n

theorem commitW_len {n : Nat} {X : Cl.Cs} (h : Cl.Fit n X) (ts : Int) (hn : n ≤ 1000 := by omega) : (Cl.commitW X ts).length ≤ 10000000 := by
  have : ∀ Y : Cl.Cs, (∀ p ∈ Y, p.2.length ≤ n + 20) → (Cl.commitW Y ts).length ≤ Y.length * (n + 20) := by
    intro Y
    induction Y with
    | nil => intro _; simp [Cl.commitW]
    | cons p Y ih =>
      intro hy
      have h1 := ih (fun q hq => hy q (by simp [hq]))
      have h2 : (Cl.tells ts p).length ≤ n + 20 := by
        unfold Cl.tells
        rw [List.length_map]
        exact Nat.le_trans (List.length_filter_le ..) (hy p (by simp))
      show ((Cl.tells ts p) ++ Cl.commitW Y ts).length ≤ (Y.length + 1) * (n + 20)
      rw [List.length_append, Nat.add_mul]
      omega
  have h1 := this X h.ch
  have h2 : X.length * (n + 20) ≤ 1000 * 1020 := Nat.mul_le_mul (Nat.le_trans h.len hn) (by omega)
  omega

set_option maxRecDepth 100000 in
set_option maxHeartbeats 4000000 in
theorem do11_read (K : CellsOk H) {w : World} {F : Nat → Prop} {v vx vl : Value} {X : Cl.Cs} (h : H w F v X) (hx : Cls w (Out F w) vx X) (hf : Cl.Fit 100 X) (k : Cl.Ky) (ts : Int) (val : ByteArray) (A : Option Addr) (nl cl : Nat) (hvl : vl = .slice A nl cl) (t0 : -9223372036854775808 ≤ ts) (t1 : ts ≤ 9223372036854775807) :
    Calls Try.prog 12 #[v, vx, .agg #[.int .i64 1, .int .i64 k.kind, .int .i64 k.a, .int .i64 k.b, .int .i64 ts, .string val, vl]] w (Did11 H w F v (Cl.readX X k ts)) := by
  subst hvl
  have hFlt := K.lt h
  have hb1 : Below w.heap.size w (w.alloc (.cells #[.int .i64 1, .int .i64 k.kind, .int .i64 k.a, .int .i64 k.b, .int .i64 ts, .string val, .slice A nl cl] 34)) := (Below.refl _ _).alloc (Nat.le_refl _) _
  have HP := Lib.hid (Bk.new w [.int .i64 1, .int .i64 k.kind, .int .i64 k.a, .int .i64 k.b, .int .i64 ts, .string val, .slice A nl cl] 34 rfl)
  have h1 := K.below h hb1
  have hx1 : Cls (w.alloc (.cells #[.int .i64 1, .int .i64 k.kind, .int .i64 k.a, .int .i64 k.b, .int .i64 ts, .string val, .slice A nl cl] 34)) (Out F _) vx X := (hx.below hb1 (fun b hb => hb.1)).wider (fun b hb => ⟨Nat.lt_of_lt_of_le hb.1 hb1.size, hb.2⟩)
  have HR := Lib.hid (K.read h1 (hf.more (by omega)) k ts t0 t1)
  have HX1 := Lib.hid hx1
  have HB1 := Lib.hid hb1
  have HNP : Hid (¬ F w.heap.size) := Lib.hid (fun q => by have := hFlt _ q; omega)
  have HF := Lib.hid hf
  have HFl := Lib.hid hFlt
  have HK := Lib.hid K
  obtain ⟨rv, hrv⟩ : ∃ rv, rv = Cl.readW X k ts := ⟨_, rfl⟩
  have HRV := Lib.hid hrv
  rw [← hrv] at HR
  obtain ⟨A0, c0, rfl, _⟩ := Cls.form hx
  clear h1 hx1 hb1 h hx hf hrv hFlt
  have q := eqlR_self rv.ts rv.rd rv.val rv.done
  have p0 := HP.out.cell 0 _ rfl
  have p1 := HP.out.cell 1 _ rfl
  have p2 := HP.out.cell 2 _ rfl
  have p3 := HP.out.cell 3 _ rfl
  have p4 := HP.out.cell 4 _ rfl
  unfold verA keyA at HR
  have HRR : Hid (∀ w1 G, Cls w1 G (.slice A0 X.length c0) X → (∀ b, G b → b < w1.heap.size) → Calls Try.prog 32 #[.slice A0 X.length c0, .agg #[.int .i64 k.kind, .int .i64 k.a, .int .i64 k.b], .int .i64 ts] w1 fun e w' => ∃ v', e = .returned (.tuple #[v', .agg #[.int .i64 rv.ts, .int .i64 rv.rd, .string rv.val, .bool rv.done]]) ∧ Cls w' (fun b => G b ∨ S.New w1 w' b) v' (Cl.readX X k ts) ∧ Below w1.heap.size w1 w') := Lib.hid (fun w1 G hc hG => by
    have := rread11_any hc hG (by have := HF.out.len; omega) k (by have := HF.out.chain k; omega) ts
    rw [← HRV.out] at this
    exact this)
  go_enter Try.func12, Try.ntmps12
  go_wp2_with (first
    | (go_at_call 21; refine HR.out.mono ?_; rintro e w2 ⟨rfl, hh2, ht2⟩
       have HH2 := Lib.hid hh2
       have HT2 := Lib.hid ht2
       have HX2 := Lib.hid (HX1.out.turn ht2 (fun b hb => hb))
       have HFl2 := Lib.hid (HK.out.lt hh2)
       have HP2 := Lib.hid (HP.out.turn ht2 HNP.out)
       have P3 := HP2.out.alloc (.cells #[.int .i64 rv.ts, .int .i64 rv.rd, .string rv.val, .bool rv.done] 49)
       have p1 := P3.cell 1 _ rfl
       have p2 := P3.cell 2 _ rfl
       have p3 := P3.cell 3 _ rfl
       have p4 := P3.cell 4 _ rfl
       clear hh2 ht2 P3)
    | (go_at_call 32
       refine (HRR.out _ _ (HX2.out.below ((Below.refl w2.heap.size w2).alloc (Nat.le_refl _) (.cells #[.int .i64 rv.ts, .int .i64 rv.rd, .string rv.val, .bool rv.done] 49)) (fun b hb => hb.1)) (fun b hb => by have := hb.1; simp; omega)).mono ?_
       rintro e w3 ⟨v3, rfl, hx3, hb3⟩
       have HX3 := Lib.hid hx3
       have HB3 := Lib.hid (((Below.refl w2.heap.size w2).alloc (Nat.le_refl _) (.cells #[.int .i64 rv.ts, .int .i64 rv.rd, .string rv.val, .bool rv.done] 49)).trans (hb3.mono (by simp)))
       have Q3 := Lib.hid ((Bk.new w2 [.int .i64 rv.ts, .int .i64 rv.rd, .string rv.val, .bool rv.done] 49 rfl).step hb3)
       have Q4 := Q3.out.alloc (.cells #[.int .i64 rv.ts, .int .i64 rv.rd, .string rv.val, .bool rv.done] 76)
       have q0 := Q4.cell 0 _ rfl
       have q1 := Q4.cell 1 _ rfl
       have q2 := Q4.cell 2 _ rfl
       have q3 := Q4.cell 3 _ rfl
       have R4 := Bk.new w3 [.int .i64 rv.ts, .int .i64 rv.rd, .string rv.val, .bool rv.done] 76 rfl
       have r0 := R4.cell 0 _ rfl
       have r1 := R4.cell 1 _ rfl
       have r2 := R4.cell 2 _ rfl
       have r3 := R4.cell 3 _ rfl
       clear Q4 R4
       clear hx3 hb3))
  go_quiet (fail)
  rename_i nq
  go_wp2_with fail
  go_ret2
  have hb5 := (HB3.out.alloc HB3.out.size (.cells #[.int .i64 rv.ts, .int .i64 rv.rd, .string rv.val, .bool rv.done] 76)).trans ((drewN_below (w3.alloc (.cells #[.int .i64 rv.ts, .int .i64 rv.rd, .string rv.val, .bool rv.done] 76)) nq).mono (HB3.out.alloc HB3.out.size _).size)
  exact Did11.fin K HB1.out HH2.out (fun b q => q) HT2.out ((HX3.out.keep (w' := (w3.alloc (.cells #[.int .i64 rv.ts, .int .i64 rv.rd, .string rv.val, .bool rv.done] 76)).drewN nq) (fun p hp => by
    have hl : p.block < w3.heap.size := hp.elim (fun q => Nat.lt_of_lt_of_le q.1 HB3.out.size) (fun q => q.2)
    exact (((Below.refl w3.heap.size w3).alloc (Nat.le_refl _) (.cells #[.int .i64 rv.ts, .int .i64 rv.rd, .string rv.val, .bool rv.done] 76)).cell hl))) ) (fun b q => q.imp id (fun g => ⟨by have := g.1; simp at this; omega, by have := g.2; simp [World.drewN]; omega⟩)) hb5 rfl

set_option maxRecDepth 100000 in
set_option maxHeartbeats 4000000 in
theorem do11_write (K : CellsOk H) {w : World} {F : Nat → Prop} {v vx vl : Value} {X : Cl.Cs} (h : H w F v X) (hx : Cls w (Out F w) vx X) (hf : Cl.Fit 100 X) (k : Cl.Ky) (ts : Int) (val : ByteArray) (A : Option Addr) (nl cl : Nat) (hvl : vl = .slice A nl cl) (t0 : -9223372036854775808 ≤ ts) (t1 : ts ≤ 9223372036854775807) :
    Calls Try.prog 12 #[v, vx, .agg #[.int .i64 2, .int .i64 k.kind, .int .i64 k.a, .int .i64 k.b, .int .i64 ts, .string val, vl]] w (Did11 H w F v (Cl.writeX X k ts val)) := by
  subst hvl
  have hFlt := K.lt h
  have hb1 : Below w.heap.size w (w.alloc (.cells #[.int .i64 2, .int .i64 k.kind, .int .i64 k.a, .int .i64 k.b, .int .i64 ts, .string val, .slice A nl cl] 34)) := (Below.refl _ _).alloc (Nat.le_refl _) _
  have HP := Lib.hid (Bk.new w [.int .i64 2, .int .i64 k.kind, .int .i64 k.a, .int .i64 k.b, .int .i64 ts, .string val, .slice A nl cl] 34 rfl)
  have h1 := K.below h hb1
  have hx1 : Cls (w.alloc (.cells #[.int .i64 2, .int .i64 k.kind, .int .i64 k.a, .int .i64 k.b, .int .i64 ts, .string val, .slice A nl cl] 34)) (Out F _) vx X := (hx.below hb1 (fun b hb => hb.1)).wider (fun b hb => ⟨Nat.lt_of_lt_of_le hb.1 hb1.size, hb.2⟩)
  have HR := Lib.hid (K.write h1 (hf.more (by omega)) k ts val t0 t1)
  have HX1 := Lib.hid hx1
  have HB1 := Lib.hid hb1
  have HNP : Hid (¬ F w.heap.size) := Lib.hid (fun q => by have := hFlt _ q; omega)
  have HF := Lib.hid hf
  have HK := Lib.hid K
  obtain ⟨rv, hrv⟩ : ∃ rv, rv = Cl.writeF X k ts := ⟨_, rfl⟩
  have HRV := Lib.hid hrv
  rw [← hrv] at HR
  obtain ⟨A0, c0, rfl, _⟩ := Cls.form hx
  clear h1 hx1 hb1 h hx hf hrv hFlt
  have p0 := HP.out.cell 0 _ rfl
  have p1 := HP.out.cell 1 _ rfl
  have p2 := HP.out.cell 2 _ rfl
  have p3 := HP.out.cell 3 _ rfl
  have p4 := HP.out.cell 4 _ rfl
  have p5 := HP.out.cell 5 _ rfl
  have p6 := HP.out.cell 6 _ rfl
  unfold keyA at HR
  have HRR : Hid (∀ w1 G, Cls w1 G (.slice A0 X.length c0) X → (∀ b, G b → b < w1.heap.size) → Calls Try.prog 33 #[.slice A0 X.length c0, .agg #[.int .i64 k.kind, .int .i64 k.a, .int .i64 k.b], .int .i64 ts, .string val] w1 fun e w' => ∃ v', e = .returned (.tuple #[v', .int .i64 rv]) ∧ Cls w' (fun b => G b ∨ S.New w1 w' b) v' (Cl.writeX X k ts val) ∧ Below w1.heap.size w1 w') := Lib.hid (fun w1 G hc hG => by
    have := rwrite11_any hc hG (by have := HF.out.len; omega) k (by have := HF.out.chain k; omega) ts val
    rw [← HRV.out] at this
    exact this)
  go_enter Try.func12, Try.ntmps12
  go_wp2_with (first
    | (go_at_call 22; refine HR.out.mono ?_; rintro e w2 ⟨rfl, hh2, ht2⟩
       have HH2 := Lib.hid hh2
       have HT2 := Lib.hid ht2
       have HX2 := Lib.hid (HX1.out.turn ht2 (fun b hb => hb))
       have HP2 := Lib.hid (HP.out.turn ht2 HNP.out)
       have p1 := HP2.out.cell 1 _ rfl
       have p2 := HP2.out.cell 2 _ rfl
       have p3 := HP2.out.cell 3 _ rfl
       have p4 := HP2.out.cell 4 _ rfl
       have p5 := HP2.out.cell 5 _ rfl
       have p6 := HP2.out.cell 6 _ rfl
       clear hh2 ht2)
    | (go_at_call 33
       refine (HRR.out _ _ HX2.out (fun b hb => hb.1)).mono ?_
       rintro e w3 ⟨v3, rfl, hx3, hb3⟩
       have HX3 := Lib.hid hx3
       have HB3 := Lib.hid hb3
       clear hx3 hb3))
  go_ret2
  exact Did11.fin K HB1.out HH2.out (fun b q => q) HT2.out HX3.out (fun b q => q) HB3.out rfl

set_option maxRecDepth 100000 in
set_option maxHeartbeats 4000000 in
theorem do11_commit (K : CellsOk H) {w : World} {F : Nat → Prop} {v vx vl : Value} {X : Cl.Cs} (h : H w F v X) (hx : Cls w (Out F w) vx X) (hf : Cl.Fit 100 X) (k : Cl.Ky) (ts : Int) (val : ByteArray) (A : Option Addr) (nl cl : Nat) (hvl : vl = .slice A nl cl) (t0 : -9223372036854775808 ≤ ts) (t1 : ts ≤ 9223372036854775807) :
    Calls Try.prog 12 #[v, vx, .agg #[.int .i64 3, .int .i64 k.kind, .int .i64 k.a, .int .i64 k.b, .int .i64 ts, .string val, vl]] w (Did11 H w F v (Cl.commitX X ts)) := by
  subst hvl
  have hFlt := K.lt h
  have hb1 : Below w.heap.size w (w.alloc (.cells #[.int .i64 3, .int .i64 k.kind, .int .i64 k.a, .int .i64 k.b, .int .i64 ts, .string val, .slice A nl cl] 34)) := (Below.refl _ _).alloc (Nat.le_refl _) _
  have HP := Lib.hid (Bk.new w [.int .i64 3, .int .i64 k.kind, .int .i64 k.a, .int .i64 k.b, .int .i64 ts, .string val, .slice A nl cl] 34 rfl)
  have h1 := K.below h hb1
  have hx1 : Cls (w.alloc (.cells #[.int .i64 3, .int .i64 k.kind, .int .i64 k.a, .int .i64 k.b, .int .i64 ts, .string val, .slice A nl cl] 34)) (Out F _) vx X := (hx.below hb1 (fun b hb => hb.1)).wider (fun b hb => ⟨Nat.lt_of_lt_of_le hb.1 hb1.size, hb.2⟩)
  have HR := Lib.hid (K.commit h1 (hf.more (by omega)) ts t0 t1)
  have HOr := Lib.hid (K.ord h)
  have HX1 := Lib.hid hx1
  have HB1 := Lib.hid hb1
  have HNP : Hid (¬ F w.heap.size) := Lib.hid (fun q => by have := hFlt _ q; omega)
  have HF := Lib.hid hf
  have HK := Lib.hid K
  obtain ⟨A0, c0, rfl, _⟩ := Cls.form hx
  clear h1 hx1 hb1 h hx hf hFlt
  have p0 := HP.out.cell 0 _ rfl
  have p1 := HP.out.cell 1 _ rfl
  have p2 := HP.out.cell 2 _ rfl
  have p3 := HP.out.cell 3 _ rfl
  have p4 := HP.out.cell 4 _ rfl
  have p5 := HP.out.cell 5 _ rfl
  have p6 := HP.out.cell 6 _ rfl
  have hwl : Hid ((Cl.commitW X ts).length ≤ 10000000) := Lib.hid (commitW_len HF.out ts)
  have HRR : Hid (∀ w1 G, Cls w1 G (.slice A0 X.length c0) X → (∀ b, G b → b < w1.heap.size) → Calls Try.prog 34 #[.slice A0 X.length c0, .int .i64 ts] w1 fun e w' => ∃ v' wv, e = .returned (.tuple #[v', wv]) ∧ Cls w' (fun b => G b ∨ S.New w1 w' b) v' (Cl.commitX X ts) ∧ S.Sg w' (S.New w1 w') 4 wv (Cl.commitW X ts).length ((Cl.commitW X ts).flatMap clW) ∧ Below w1.heap.size w1 w') := Lib.hid (fun w1 G hc hG => rcommit11_any hc hG (by have := HF.out.len; omega) HOr.out ts)
  go_enter Try.func12, Try.ntmps12
  go_wp2_with (first
    | (go_at_call 25; refine HR.out.mono ?_; rintro e w2 ⟨vl2, F2, T2, rfl, hh2, hs2, hf2, hT2, ht2⟩
       have HH2 := Lib.hid hh2
       have HT2 := Lib.hid ht2
       have HF2 := Lib.hid hf2
       have HS2 := Lib.hid (And.intro hs2 hT2)
       have HX2 := Lib.hid (HX1.out.turn ht2 hf2)
       have HP2 := Lib.hid (HP.out.turn ht2 HNP.out)
       have p1 := HP2.out.cell 1 _ rfl
       have p2 := HP2.out.cell 2 _ rfl
       have p3 := HP2.out.cell 3 _ rfl
       have p4 := HP2.out.cell 4 _ rfl
       have p5 := HP2.out.cell 5 _ rfl
       have p6 := HP2.out.cell 6 _ rfl
       clear hh2 ht2 hs2 hf2 hT2)
    | (go_at_call 34
       refine (HRR.out _ _ HX2.out (fun b hb => hb.1)).mono ?_
       rintro e w3 ⟨v3, wv3, rfl, hx3, hw3, hb3⟩
       have HX3 := Lib.hid hx3
       have HB3 := Lib.hid hb3
       have HW3 := Lib.hid hw3
       clear hx3 hb3 hw3)
    | (go_at_call 14
       refine (rwrites11_any (HS2.out.1.below HB3.out (fun b hb => (HS2.out.2 b hb).1.2)) HW3.out hwl.out).mono ?_
       rintro e w4 ⟨rfl, hs4⟩
       have HS4 := Lib.hid hs4
       clear hs4))
  go_ret2
  have hb4 := below_two HB3.out HS4.out.low
  exact Did11.fin K HB1.out HH2.out HF2.out HT2.out (HX3.out.keep (fun p _ => HS4.out.cell p)) (fun b q => q.imp id (fun g => ⟨g.1, Nat.lt_of_lt_of_le g.2 HS4.out.low.size⟩)) hb4 rfl

set_option maxRecDepth 100000 in
set_option maxHeartbeats 4000000 in
theorem do11_abort (K : CellsOk H) {w : World} {F : Nat → Prop} {v vx vl : Value} {X : Cl.Cs} (h : H w F v X) (hx : Cls w (Out F w) vx X) (hf : Cl.Fit 100 X) (k : Cl.Ky) (ts : Int) (val : ByteArray) (A : Option Addr) (nl cl : Nat) (hvl : vl = .slice A nl cl) (t0 : -9223372036854775808 ≤ ts) (t1 : ts ≤ 9223372036854775807) :
    Calls Try.prog 12 #[v, vx, .agg #[.int .i64 4, .int .i64 k.kind, .int .i64 k.a, .int .i64 k.b, .int .i64 ts, .string val, vl]] w (Did11 H w F v (Cl.abortX X ts)) := by
  subst hvl
  have hFlt := K.lt h
  have hb1 : Below w.heap.size w (w.alloc (.cells #[.int .i64 4, .int .i64 k.kind, .int .i64 k.a, .int .i64 k.b, .int .i64 ts, .string val, .slice A nl cl] 34)) := (Below.refl _ _).alloc (Nat.le_refl _) _
  have HP := Lib.hid (Bk.new w [.int .i64 4, .int .i64 k.kind, .int .i64 k.a, .int .i64 k.b, .int .i64 ts, .string val, .slice A nl cl] 34 rfl)
  have h1 := K.below h hb1
  have hx1 : Cls (w.alloc (.cells #[.int .i64 4, .int .i64 k.kind, .int .i64 k.a, .int .i64 k.b, .int .i64 ts, .string val, .slice A nl cl] 34)) (Out F _) vx X := (hx.below hb1 (fun b hb => hb.1)).wider (fun b hb => ⟨Nat.lt_of_lt_of_le hb.1 hb1.size, hb.2⟩)
  have HR := Lib.hid (K.abort h1 (hf.more (by omega)) ts t0 t1)
  have HOr := Lib.hid (K.ord h)
  have HX1 := Lib.hid hx1
  have HB1 := Lib.hid hb1
  have HNP : Hid (¬ F w.heap.size) := Lib.hid (fun q => by have := hFlt _ q; omega)
  have HF := Lib.hid hf
  have HK := Lib.hid K
  obtain ⟨A0, c0, rfl, _⟩ := Cls.form hx
  clear h1 hx1 hb1 h hx hf hFlt
  have p0 := HP.out.cell 0 _ rfl
  have p1 := HP.out.cell 1 _ rfl
  have p2 := HP.out.cell 2 _ rfl
  have p3 := HP.out.cell 3 _ rfl
  have p4 := HP.out.cell 4 _ rfl
  have p5 := HP.out.cell 5 _ rfl
  have p6 := HP.out.cell 6 _ rfl
  have HRR : Hid (∀ w1 G, Cls w1 G (.slice A0 X.length c0) X → (∀ b, G b → b < w1.heap.size) → Calls Try.prog 35 #[.slice A0 X.length c0, .int .i64 ts] w1 fun e w' => ∃ v', e = .returned v' ∧ Cls w' (fun b => G b ∨ S.New w1 w' b) v' (Cl.abortX X ts) ∧ Below w1.heap.size w1 w') := Lib.hid (fun w1 G hc hG => rabort11_any hc hG (by have := HF.out.len; omega) HOr.out ts)
  go_enter Try.func12, Try.ntmps12
  go_wp2_with (first
    | (go_at_call 27; refine HR.out.mono ?_; rintro e w2 ⟨rfl, hh2, ht2⟩
       have HH2 := Lib.hid hh2
       have HT2 := Lib.hid ht2
       have HX2 := Lib.hid (HX1.out.turn ht2 (fun b hb => hb))
       have HP2 := Lib.hid (HP.out.turn ht2 HNP.out)
       have p1 := HP2.out.cell 1 _ rfl
       have p2 := HP2.out.cell 2 _ rfl
       have p3 := HP2.out.cell 3 _ rfl
       have p4 := HP2.out.cell 4 _ rfl
       have p5 := HP2.out.cell 5 _ rfl
       have p6 := HP2.out.cell 6 _ rfl
       clear hh2 ht2)
    | (go_at_call 35
       refine (HRR.out _ _ HX2.out (fun b hb => hb.1)).mono ?_
       rintro e w3 ⟨v3, rfl, hx3, hb3⟩
       have HX3 := Lib.hid hx3
       have HB3 := Lib.hid hb3
       clear hx3 hb3))
  go_ret2
  exact Did11.fin K HB1.out HH2.out (fun b q => q) HT2.out HX3.out (fun b q => q) HB3.out rfl

set_option maxRecDepth 100000 in
set_option maxHeartbeats 4000000 in
theorem do11_set (K : CellsOk H) {w : World} {F : Nat → Prop} {v vx vl : Value} {X : Cl.Cs} (h : H w F v X) (hx : Cls w (Out F w) vx X) (hf : Cl.Fit 100 X) (k : Cl.Ky) (ts : Int) (val : ByteArray) (A : Option Addr) (cl : Nat) (l : Cn.Ch) (hvl : vl = .slice A l.length cl) (hl : SlC w (Out F w) vl l) (hll : l.length ≤ 20) :
    Calls Try.prog 12 #[v, vx, .agg #[.int .i64 5, .int .i64 k.kind, .int .i64 k.a, .int .i64 k.b, .int .i64 ts, .string val, vl]] w (Did11 H w F v (Cl.setX X k l)) := by
  subst hvl
  have hFlt := K.lt h
  have hb1 : Below w.heap.size w (w.alloc (.cells #[.int .i64 5, .int .i64 k.kind, .int .i64 k.a, .int .i64 k.b, .int .i64 ts, .string val, .slice A l.length cl] 34)) := (Below.refl _ _).alloc (Nat.le_refl _) _
  have HP := Lib.hid (Bk.new w [.int .i64 5, .int .i64 k.kind, .int .i64 k.a, .int .i64 k.b, .int .i64 ts, .string val, .slice A l.length cl] 34 rfl)
  have h1 := K.below h hb1
  have hx1 : Cls (w.alloc (.cells #[.int .i64 5, .int .i64 k.kind, .int .i64 k.a, .int .i64 k.b, .int .i64 ts, .string val, .slice A l.length cl] 34)) (Out F _) vx X := (hx.below hb1 (fun b hb => hb.1)).wider (fun b hb => ⟨Nat.lt_of_lt_of_le hb.1 hb1.size, hb.2⟩)
  have HX1 := Lib.hid hx1
  have HB1 := Lib.hid hb1
  have HNP : Hid (¬ F w.heap.size) := Lib.hid (fun q => by have := hFlt _ q; omega)
  have HF := Lib.hid hf
  have HK := Lib.hid K
  have HSL : Hid (SlC (w.alloc (.cells #[.int .i64 5, .int .i64 k.kind, .int .i64 k.a, .int .i64 k.b, .int .i64 ts, .string val, .slice A l.length cl] 34)) (Out F (w.alloc (.cells #[.int .i64 5, .int .i64 k.kind, .int .i64 k.a, .int .i64 k.b, .int .i64 ts, .string val, .slice A l.length cl] 34))) (.slice A l.length cl) l) := Lib.hid ((S.Sg.below hl hb1 (fun b hb => hb.1)).wider (fun b hb => ⟨Nat.lt_of_lt_of_le hb.1 hb1.size, hb.2⟩))
  have HH1 := Lib.hid h1
  obtain ⟨A0, c0, rfl, _⟩ := Cls.form hx
  clear h1 hx1 hb1 h hx hf hFlt hl
  have p0 := HP.out.cell 0 _ rfl
  have p1 := HP.out.cell 1 _ rfl
  have p2 := HP.out.cell 2 _ rfl
  have p3 := HP.out.cell 3 _ rfl
  have p4 := HP.out.cell 4 _ rfl
  have p5 := HP.out.cell 5 _ rfl
  have p6 := HP.out.cell 6 _ rfl
  have HLL := Lib.hid hll
  clear hll
  have HSet : Hid (∀ w2 vc, Below (w.alloc (.cells #[.int .i64 5, .int .i64 k.kind, .int .i64 k.a, .int .i64 k.b, .int .i64 ts, .string val, .slice A l.length cl] 34)).heap.size (w.alloc (.cells #[.int .i64 5, .int .i64 k.kind, .int .i64 k.a, .int .i64 k.b, .int .i64 ts, .string val, .slice A l.length cl] 34)) w2 → SlC w2 (S.New (w.alloc (.cells #[.int .i64 5, .int .i64 k.kind, .int .i64 k.a, .int .i64 k.b, .int .i64 ts, .string val, .slice A l.length cl] 34)) w2) vc l → Calls Try.prog 23 #[v, .agg #[.int .i64 k.kind, .int .i64 k.a, .int .i64 k.b], vc] w2 fun e w' => e = .returned (.tuple #[]) ∧ H w' (More F w2 w') v (Cl.setX X k l) ∧ Turn F w2 w') := Lib.hid (fun w2 vc hb hs => HK.out.set (HK.out.below HH1.out hb) (HF.out.more (by omega)) (S.Sg.wider hs (fun b q => Out.made q (HK.out.lt HH1.out))) (by have := HLL.out; omega) k)
  have HRR : Hid (∀ w1 G vc, Cls w1 G (.slice A0 X.length c0) X → SlC w1 G vc l → (∀ b, G b → b < w1.heap.size) → Calls Try.prog 36 #[.slice A0 X.length c0, .agg #[.int .i64 k.kind, .int .i64 k.a, .int .i64 k.b], vc] w1 fun e w' => ∃ v', e = .returned v' ∧ Cls w' (fun b => G b ∨ S.New w1 w' b) v' (Cl.setX X k l) ∧ Below w1.heap.size w1 w') := Lib.hid (fun w1 G vc hc hs hG => rset11_any hc hs hG (by have := HF.out.len; omega) (by have := HLL.out; omega) k)
  have HMd : Hid (∀ wd, Below (w.alloc (.cells #[.int .i64 5, .int .i64 k.kind, .int .i64 k.a, .int .i64 k.b, .int .i64 ts, .string val, .slice A l.length cl] 34)).heap.size (w.alloc (.cells #[.int .i64 5, .int .i64 k.kind, .int .i64 k.a, .int .i64 k.b, .int .i64 ts, .string val, .slice A l.length cl] 34)) wd → Calls Try.prog 24 #[.slice A l.length cl] wd fun e w' => ∃ A', ∃ c', e = .returned (.slice A' l.length c') ∧ SlC w' (S.New wd w') (.slice A' l.length c') l ∧ Below wd.heap.size wd w') := Lib.hid (fun wd hb => (made11_any (S.Sg.below HSL.out hb (fun b q => q.1)) (fun b q => Nat.lt_of_lt_of_le q.1 hb.size) (by have := HLL.out; omega)).mono (fun _ _ hh => by
    obtain ⟨v', e, hs, hb⟩ := hh
    obtain ⟨A', c', rfl, _⟩ := SlC.form hs
    exact ⟨A', c', e, hs, hb⟩))
  go_enter Try.func12, Try.ntmps12
  go_wp2_with fail
  generalize hw1 : w.alloc (.cells #[.int .i64 5, .int .i64 k.kind, .int .i64 k.a, .int .i64 k.b, .int .i64 ts, .string val, .slice A l.length cl] 34) = w1 at *
  have hbd := Lib.hid (Below.drew (Below.refl w1.heap.size w1))
  have hSd : w1.drew.cell? ⟨w.heap.size, 1, none⟩ = some (.int .i64 k.kind) ∧ w1.drew.cell? ⟨w.heap.size, 2, none⟩ = some (.int .i64 k.a) ∧ w1.drew.cell? ⟨w.heap.size, 3, none⟩ = some (.int .i64 k.b) ∧ w1.drew.cell? ⟨w.heap.size, 6, none⟩ = some (.slice A l.length cl) := ⟨p1, p2, p3, p6⟩
  go_region_held3 (fun w' => w'.cell? ⟨w.heap.size, 1, none⟩ = some (.int .i64 k.kind) ∧ w'.cell? ⟨w.heap.size, 2, none⟩ = some (.int .i64 k.a) ∧ w'.cell? ⟨w.heap.size, 3, none⟩ = some (.int .i64 k.b) ∧ w'.cell? ⟨w.heap.size, 6, none⟩ = some (.slice A l.length cl))
    (first | with_reducible assumption | go_keep)
    (first
      | (go_at_call 24
         (with_reducible refine (HMd.out _ hbd.out).mono ?_)
         rintro e w2 ⟨A2, c2, rfl, hs2, b2⟩
         have hb2 := below_two hbd.out b2
         have HB2 := Lib.hid hb2
         have HS2 : Hid (SlC w2 (S.New w1 w2) (.slice A2 l.length c2) l) := Lib.hid (S.Sg.wider hs2 (fun b q => q))
         have HP2 := Lib.hid (HP.out.step hb2)
         have hA2 : w2.cell? ⟨w.heap.size, 1, none⟩ = some (.int .i64 k.kind) ∧ w2.cell? ⟨w.heap.size, 2, none⟩ = some (.int .i64 k.a) ∧ w2.cell? ⟨w.heap.size, 3, none⟩ = some (.int .i64 k.b) ∧ w2.cell? ⟨w.heap.size, 6, none⟩ = some (.slice A l.length cl) := ⟨HP2.out.cell 1 _ rfl, HP2.out.cell 2 _ rfl, HP2.out.cell 3 _ rfl, HP2.out.cell 6 _ rfl⟩)
      | (go_at_call 23
         (with_reducible refine (HSet.out _ _ HB2.out HS2.out).mono ?_)
         rintro e w3 ⟨rfl, hh3, ht3⟩
         have HH3 := Lib.hid hh3
         have HT3 := Lib.hid ht3
         have HP3 := Lib.hid (HP2.out.turn ht3 HNP.out)
         have hA3 : w3.cell? ⟨w.heap.size, 1, none⟩ = some (.int .i64 k.kind) ∧ w3.cell? ⟨w.heap.size, 2, none⟩ = some (.int .i64 k.a) ∧ w3.cell? ⟨w.heap.size, 3, none⟩ = some (.int .i64 k.b) ∧ w3.cell? ⟨w.heap.size, 6, none⟩ = some (.slice A l.length cl) := ⟨HP3.out.cell 1 _ rfl, HP3.out.cell 2 _ rfl, HP3.out.cell 3 _ rfl, HP3.out.cell 6 _ rfl⟩))
  have HX2 : Hid (Cls w2 (Out F w2) (.slice A0 X.length c0) X) := Lib.hid ((HX1.out.below HB2.out (fun b q => q.1)).wider (fun b q => ⟨Nat.lt_of_lt_of_le q.1 HB2.out.size, q.2⟩))
  have HL2 : Hid (SlC w2 (Out F w2) (.slice A l.length cl) l) := Lib.hid (S.Sg.wider (S.Sg.below HSL.out HB2.out (fun b q => q.1)) (fun b q => ⟨Nat.lt_of_lt_of_le q.1 HB2.out.size, q.2⟩))
  have HX3 := Lib.hid (HX2.out.turn HT3.out (fun b q => q))
  have HL3 := Lib.hid (HL2.out.turn HT3.out (fun b q => q))
  have y1 := HP3.out.cell 1 _ rfl
  have y2 := HP3.out.cell 2 _ rfl
  have y3 := HP3.out.cell 3 _ rfl
  have y6 := HP3.out.cell 6 _ rfl
  go_wp2_with (first
    | (go_at_call 36
       refine (HRR.out _ _ _ HX3.out HL3.out (fun b hb => hb.1)).mono ?_
       rintro e w4 ⟨v4, rfl, hx4, hb4⟩
       have HX4 := Lib.hid hx4
       have HB4 := Lib.hid hb4
       clear hx4 hb4))
  go_ret2
  exact Did11.fin K (HB1.out.trans (HB2.out.mono HB1.out.size)) HH3.out (fun b q => q) HT3.out HX4.out (fun b q => q) HB4.out rfl

set_option maxRecDepth 100000 in
set_option maxHeartbeats 4000000 in
theorem do11_none (K : CellsOk H) {w : World} {F : Nat → Prop} {v vx vl : Value} {X : Cl.Cs} (h : H w F v X) (hx : Cls w (Out F w) vx X) (k : Cl.Ky) (kd ts : Int) (val : ByteArray) (A : Option Addr) (nl cl : Nat) (hvl : vl = .slice A nl cl) (h1 : kd ≠ 1) (h2 : kd ≠ 2) (h3 : kd ≠ 3) (h4 : kd ≠ 4) (h5 : kd ≠ 5) :
    Calls Try.prog 12 #[v, vx, .agg #[.int .i64 kd, .int .i64 k.kind, .int .i64 k.a, .int .i64 k.b, .int .i64 ts, .string val, vl]] w (Did11 H w F v X) := by
  subst hvl
  have HB1 : Hid (Below w.heap.size w (w.alloc (.cells #[.int .i64 kd, .int .i64 k.kind, .int .i64 k.a, .int .i64 k.b, .int .i64 ts, .string val, .slice A nl cl] 34))) := Lib.hid ((Below.refl _ _).alloc (Nat.le_refl _) _)
  have HP := Lib.hid (Bk.new w [.int .i64 kd, .int .i64 k.kind, .int .i64 k.a, .int .i64 k.b, .int .i64 ts, .string val, .slice A nl cl] 34 rfl)
  have HH := Lib.hid h
  have HX := Lib.hid hx
  have p0 := HP.out.cell 0 _ rfl
  have d1 : (kd == 1) = false := by simpa using h1
  have d2 : (kd == 2) = false := by simpa using h2
  have d3 : (kd == 3) = false := by simpa using h3
  have d4 : (kd == 4) = false := by simpa using h4
  have d5 : (kd == 5) = false := by simpa using h5
  clear h hx h1 h2 h3 h4 h5
  go_enter Try.func12, Try.ntmps12
  go_wp2
  go_ret2
  exact Did11.fin K (Below.refl _ _) HH.out (fun b q => Or.inl q) (Turn.refl F w) (HX.out.below HB1.out (fun b q => q.1)) (fun b q => Or.inl q) HB1.out rfl


theorem do11_any (K : CellsOk H) {w : World} {F : Nat → Prop} {v vx vl : Value} {X : Cl.Cs} (d : Dd11) (h : H w F v X) (hx : Cls w (Out F w) vx X) (hf : Cl.Fit 100 X) (hd : d.Ok) (hl : SlC w (Out F w) vl d.l) (hll : d.l.length ≤ 20) :
    Calls Try.prog 12 #[v, vx, .agg #[.int .i64 d.kind, .int .i64 d.k.kind, .int .i64 d.k.a, .int .i64 d.k.b, .int .i64 d.ts, .string d.val, vl]] w (Did11 H w F v (Cl.deedX X d)) := by
  obtain ⟨kd, k, ts, val, l⟩ := d
  obtain ⟨_, _, t0, t1⟩ := hd
  obtain ⟨A, cl, hvl, _⟩ := SlC.form hl
  dsimp only at *
  unfold Cl.deedX
  dsimp only
  by_cases h1 : kd = 1
  · subst h1
    rw [if_pos rfl]
    exact do11_read K h hx hf k ts val A _ cl hvl t0 t1
  · rw [if_neg h1]
    by_cases h2 : kd = 2
    · subst h2
      rw [if_pos rfl]
      exact do11_write K h hx hf k ts val A _ cl hvl t0 t1
    · rw [if_neg h2]
      by_cases h3 : kd = 3
      · subst h3
        rw [if_pos rfl]
        exact do11_commit K h hx hf k ts val A _ cl hvl t0 t1
      · rw [if_neg h3]
        by_cases h4 : kd = 4
        · subst h4
          rw [if_pos rfl]
          exact do11_abort K h hx hf k ts val A _ cl hvl t0 t1
        · rw [if_neg h4]
          by_cases h5 : kd = 5
          · subst h5
            rw [if_pos rfl]
            exact do11_set K h hx hf k ts val A cl l hvl hl hll
          · rw [if_neg h5]
            exact do11_none K h hx k kd ts val A _ cl hvl h1 h2 h3 h4 h5
end
end Go.Proofs.Ytpppjipelcfnkaa
