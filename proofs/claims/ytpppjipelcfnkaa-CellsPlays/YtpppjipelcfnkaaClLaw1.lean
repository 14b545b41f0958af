/-
  Layer cells' calls as contracts (CellsOk); walks of its laws' helpers: real, made, key, few.
-/
import Derived.Test.YtpppjipelcfnkaaClDds
import Derived.Test.YtpppjipelcfnkaaChLaw1
import Derived.Test.YtpppjipelcfnkaaTn
namespace Go.Proofs.Ytpppjipelcfnkaa
open Go.RowKit

/-- the three cells of a key -/
def keyC (p : Cl.Ky × Cn.Ch) : List Value := [.int .i64 p.1.kind, .int .i64 p.1.a, .int .i64 p.1.b]

/-- the calls of package cells; H w F v X: the pointer v holds the cells X, in blocks of which F holds -/
structure CellsOk (H : World → (Nat → Prop) → Value → Cl.Cs → Prop) : Prop where
  lt : ∀ {w F v X}, H w F v X → ∀ b, F b → b < w.heap.size
  keep : ∀ {w F v X w'}, H w F v X → (∀ b, F b → w'.heap[b]? = w.heap[b]?) → w.heap.size ≤ w'.heap.size → H w' F v X
  ord : ∀ {w F v X}, H w F v X → Cl.Ord X
  ptr : ∀ {w F v X}, H w F v X → ∃ a : Addr, v = .pointer (some a)
  less : ∀ (x y : Cl.Ky) (w : World), Calls Try.prog 29 #[keyA x, keyA y] w fun e w' => e = .returned (.bool (Cl.less x y)) ∧ Below w.heap.size w w'
  new : ∀ w : World, Calls Try.prog 10 #[] w fun e w' => ∃ v, e = .returned v ∧ H w' (S.New w w') v [] ∧ Below w.heap.size w w'
  read : ∀ {w F v X}, H w F v X → Cl.Fit 200 X → ∀ (k : Cl.Ky) (ts : Int), -9223372036854775808 ≤ ts → ts ≤ 9223372036854775807 →
    Calls Try.prog 21 #[v, keyA k, .int .i64 ts] w fun e w' => e = .returned (verA (Cl.readW X k ts)) ∧ H w' (More F w w') v (Cl.readX X k ts) ∧ Turn F w w'
  write : ∀ {w F v X}, H w F v X → Cl.Fit 200 X → ∀ (k : Cl.Ky) (ts : Int) (val : ByteArray), -9223372036854775808 ≤ ts → ts ≤ 9223372036854775807 →
    Calls Try.prog 22 #[v, keyA k, .int .i64 ts, .string val] w fun e w' => e = .returned (.int .i64 (Cl.writeF X k ts)) ∧ H w' (More F w w') v (Cl.writeX X k ts val) ∧ Turn F w w'
  commit : ∀ {w F v X}, H w F v X → Cl.Fit 200 X → ∀ (ts : Int), -9223372036854775808 ≤ ts → ts ≤ 9223372036854775807 →
    Calls Try.prog 25 #[v, .int .i64 ts] w fun e w' => ∃ (v' : Value) (F' T : Nat → Prop), e = .returned v' ∧ H w' F' v (Cl.commitX X ts) ∧ S.Sg w' T 4 v' (Cl.commitW X ts).length ((Cl.commitW X ts).flatMap clW) ∧ (∀ b, F' b → More F w w' b) ∧ (∀ b, T b → S.New w w' b ∧ ¬ F' b) ∧ Turn F w w'
  abort : ∀ {w F v X}, H w F v X → Cl.Fit 200 X → ∀ (ts : Int), -9223372036854775808 ≤ ts → ts ≤ 9223372036854775807 →
    Calls Try.prog 27 #[v, .int .i64 ts] w fun e w' => e = .returned (.tuple #[]) ∧ H w' (More F w w') v (Cl.abortX X ts) ∧ Turn F w w'
  set : ∀ {w F v X} {vc : Value} {c : Cn.Ch}, H w F v X → Cl.Fit 200 X → SlC w (Out F w) vc c → c.length ≤ 200 → ∀ (k : Cl.Ky),
    Calls Try.prog 23 #[v, keyA k, vc] w fun e w' => e = .returned (.tuple #[]) ∧ H w' (More F w w') v (Cl.setX X k c) ∧ Turn F w w'
  chain : ∀ {w F v X}, H w F v X → Cl.Fit 200 X → ∀ (k : Cl.Ky),
    Calls Try.prog 19 #[v, keyA k] w fun e w' => ∃ v', e = .returned v' ∧ SlC w' (S.New w w') v' (Cl.chain X k) ∧ Below w.heap.size w w'
  keys : ∀ {w F v X}, H w F v X → Cl.Fit 200 X →
    Calls Try.prog 13 #[v] w fun e w' => ∃ v', e = .returned v' ∧ S.Sg w' (S.New w w') 3 v' X.length (X.flatMap keyC) ∧ Below w.heap.size w w'
  newest : ∀ {w F v X}, H w F v X → Cl.Fit 200 X →
    Calls Try.prog 15 #[v] w fun e w' => ∃ v', e = .returned v' ∧ S.Sg w' (S.New w w') 4 v' (Cl.newest X).length ((Cl.newest X).flatMap clW) ∧ Below w.heap.size w w'

/-- the calls of a Cells that is nil -/
structure CellsNil : Prop where
  read : ∀ (k : Cl.Ky) (ts : Int) (w : World), Calls Try.prog 21 #[.pointer none, keyA k, .int .i64 ts] w fun e w' => e = .returned (verA Cn.zero) ∧ Below w.heap.size w w'
  write : ∀ (k : Cl.Ky) (ts : Int) (val : ByteArray) (w : World), Calls Try.prog 22 #[.pointer none, keyA k, .int .i64 ts, .string val] w fun e w' => e = .returned (.int .i64 1) ∧ Below w.heap.size w w'
  commit : ∀ (ts : Int) (w : World), Calls Try.prog 25 #[.pointer none, .int .i64 ts] w fun e w' => (∃ A c, e = .returned (.slice A 0 c)) ∧ Below w.heap.size w w'
  abort : ∀ (ts : Int) (w : World), Calls Try.prog 27 #[.pointer none, .int .i64 ts] w fun e w' => e = .returned (.tuple #[]) ∧ Below w.heap.size w w'
  set : ∀ {w G} {vc : Value} {c : Cn.Ch}, SlC w G vc c → (∀ b, G b → b < w.heap.size) → c.length ≤ 200 → ∀ (k : Cl.Ky), Calls Try.prog 23 #[.pointer none, keyA k, vc] w fun e w' => e = .returned (.tuple #[]) ∧ Below w.heap.size w w'
  chain : ∀ (k : Cl.Ky) (w : World), Calls Try.prog 19 #[.pointer none, keyA k] w fun e w' => ∃ v', e = .returned v' ∧ SlC w' (S.New w w') v' Cn.fresh ∧ Below w.heap.size w w'
  keys : ∀ w : World, Calls Try.prog 13 #[.pointer none] w fun e w' => (∃ A c, e = .returned (.slice A 0 c)) ∧ Below w.heap.size w w'
  newest : ∀ w : World, Calls Try.prog 15 #[.pointer none] w fun e w' => (∃ A c, e = .returned (.slice A 0 c)) ∧ Below w.heap.size w w'

section
variable {H : World → (Nat → Prop) → Value → Cl.Cs → Prop} {w w' : World} {F G : Nat → Prop} {v : Value} {X : Cl.Cs}
theorem CellsOk.below (K : CellsOk H) (h : H w F v X) (hb : Below w.heap.size w w') : H w' F v X := K.keep h (fun b hF => hb.block b (K.lt h b hF)) hb.size
theorem CellsOk.turn (K : CellsOk H) (h : H w F v X) (ht : Turn G w w') (hd : ∀ b, F b → ¬ G b) : H w' F v X := K.keep h (fun b hF => ht.block b (K.lt h b hF) (hd b hF)) ht.size
end

set_option maxRecDepth 100000 in
set_option maxHeartbeats 4000000 in
theorem real11_any {w : World} {F : Nat → Prop} {v : Value} {c : Cn.Ch} (h : SlC w F v c) (hF : ∀ b, F b → b < w.heap.size) (hl : c.length ≤ 1000000) :
    Calls Try.prog 18 #[v] w fun e w' => ∃ v', e = .returned v' ∧ SlC w' (S.New w w') v' c ∧ Below w.heap.size w w' := by
  have HS := Lib.hid h
  obtain ⟨A, cap, rfl, hcap⟩ := SlC.form h
  clear h
  go_enter Try.func18, Try.ntmps18
  go_wp2
  go_loopw [3, 4] (fun r i wr => ∃ k : Nat, k ≤ c.length ∧ i = .int .i64 (k : Int) ∧ wr.ownsRow w.heap.size 76 4 r k (verV (c.take k)) ∧ Below w.heap.size w wr) (fun _ i _ => c.length - (intOf i).toNat)
  case atStart => exact ⟨0, Nat.zero_le _, rfl, S.own_nil .., Below.refl _ _⟩
  case round =>
    obtain ⟨k, hk, rfl, hown, hbr⟩ := hrel
    have HB := Lib.hid hbr
    have HO := Lib.hid hown
    obtain ⟨Ar, cr, rfl⟩ := own_slice hown
    clear hbr hown
    by_cases hlt : k < c.length
    · have hlt' : (k : Int) < (c.length : Int) := by omega
      have hk0 : (0 : Int) ≤ (k : Int) := by omega
      obtain ⟨a, _, ea, _, _, y0, y1, y2, y3⟩ := SlC.nth (HS.out.below HB.out hF) k hlt
      cases ea
      have HT : Hid (c.take (k + 1) = c.take k ++ [c[k]]) := Lib.hid (List.take_succ_eq_append_getElem hlt)
      generalize c[k] = u at *
      go_wp2_with (at_builtin; refine S.wpList_append_sg elVr rfl _ _ rfl (base := w.heap.size) (n := k) (m := 1) (xs := verV (c.take k)) (cs := verC u) rfl rfl (HO.out.alloc _) (sg_row4 wr 76 #[.int .i64 u.ts, .int .i64 u.rd, .string u.val, .bool u.done] rfl) (verC_one u) (by omega) (by omega) (Nat.le_trans HB.out.size (by simp)) ?_)
      intro v5 w5 hown5 hgrow5 _
      have hb5 := HB.out.trans (((Below.refl wr.heap.size wr).alloc (Nat.le_refl _) (.cells #[.int .i64 u.ts, .int .i64 u.rd, .string u.val, .bool u.done] 76)).mono HB.out.size)
      have hb5 := hb5.trans (S.below_base (HO.out.alloc _) hb5.size hgrow5)
      have HB5 := Lib.hid hb5
      have HO5 : Hid (w5.ownsRow w.heap.size 76 4 v5 (k + 1) (verV (c.take (k + 1)))) := Lib.hid (by
        rw [HT.out, verV_snoc]
        exact hown5)
      clear hown5 hgrow5 hb5
      go_wp2_with fail
      go_roundw
      case rel => exact ⟨k + 1, by omega, by go_num, HO5.out, HB5.out⟩
      case measure => simp [intOf]; omega
    · obtain rfl : k = c.length := by omega
      have hlt' : ¬ (c.length : Int) < (c.length : Int) := by omega
      go_wp2
      go_ret
      refine ⟨_, rfl, ?_, HB.out⟩
      have h9 := S.Sg.of_own HO.out
      rw [List.take_length] at h9
      exact h9.wider (fun b q => q)

set_option maxRecDepth 100000 in
set_option maxHeartbeats 4000000 in
theorem made11_any {w : World} {F : Nat → Prop} {v : Value} {c : Cn.Ch} (h : SlC w F v c) (hF : ∀ b, F b → b < w.heap.size) (hl : c.length ≤ 1000000) :
    Calls Try.prog 24 #[v] w fun e w' => ∃ v', e = .returned v' ∧ SlC w' (S.New w w') v' c ∧ Below w.heap.size w w' := by
  have HS := Lib.hid h
  obtain ⟨A, cap, rfl, hcap⟩ := SlC.form h
  clear h
  go_enter Try.func24, Try.ntmps24
  go_wp2
  go_loopw [3, 4] (fun r i wr => ∃ k : Nat, k ≤ c.length ∧ i = .int .i64 (k : Int) ∧ wr.ownsRow w.heap.size 49 4 r k (verV (c.take k)) ∧ Below w.heap.size w wr) (fun _ i _ => c.length - (intOf i).toNat)
  case atStart => exact ⟨0, Nat.zero_le _, rfl, S.own_nil .., Below.refl _ _⟩
  case round =>
    obtain ⟨k, hk, rfl, hown, hbr⟩ := hrel
    have HB := Lib.hid hbr
    have HO := Lib.hid hown
    obtain ⟨Ar, cr, rfl⟩ := own_slice hown
    clear hbr hown
    by_cases hlt : k < c.length
    · have hlt' : (k : Int) < (c.length : Int) := by omega
      have hk0 : (0 : Int) ≤ (k : Int) := by omega
      obtain ⟨a, _, ea, _, _, y0, y1, y2, y3⟩ := SlC.nth (HS.out.below HB.out hF) k hlt
      cases ea
      have HT : Hid (c.take (k + 1) = c.take k ++ [c[k]]) := Lib.hid (List.take_succ_eq_append_getElem hlt)
      generalize c[k] = u at *
      go_wp2_with (at_builtin; refine S.wpList_append_sg elCv rfl _ _ rfl (base := w.heap.size) (n := k) (m := 1) (xs := verV (c.take k)) (cs := verC u) rfl rfl (HO.out.alloc _) (sg_row4 wr 49 #[.int .i64 u.ts, .int .i64 u.rd, .string u.val, .bool u.done] rfl) (verC_one u) (by omega) (by omega) (Nat.le_trans HB.out.size (by simp)) ?_)
      intro v5 w5 hown5 hgrow5 _
      have hb5 := HB.out.trans (((Below.refl wr.heap.size wr).alloc (Nat.le_refl _) (.cells #[.int .i64 u.ts, .int .i64 u.rd, .string u.val, .bool u.done] 49)).mono HB.out.size)
      have hb5 := hb5.trans (S.below_base (HO.out.alloc _) hb5.size hgrow5)
      have HB5 := Lib.hid hb5
      have HO5 : Hid (w5.ownsRow w.heap.size 49 4 v5 (k + 1) (verV (c.take (k + 1)))) := Lib.hid (by
        rw [HT.out, verV_snoc]
        exact hown5)
      clear hown5 hgrow5 hb5
      go_wp2_with fail
      go_roundw
      case rel => exact ⟨k + 1, by omega, by go_num, HO5.out, HB5.out⟩
      case measure => simp [intOf]; omega
    · obtain rfl : k = c.length := by omega
      have hlt' : ¬ (c.length : Int) < (c.length : Int) := by omega
      go_wp2
      go_ret
      refine ⟨_, rfl, ?_, HB.out⟩
      have h9 := S.Sg.of_own HO.out
      rw [List.take_length] at h9
      exact h9.wider (fun b q => q)


theorem infoKy : (Try.prog.info? 31).map (·.size) = some 3 := by kernel_rfl
def keyN (n : Int) : Cl.Ky := ⟨1, n, 0⟩

set_option maxRecDepth 100000 in
theorem key11_any (n : Int) (w : World) : Calls Try.prog 26 #[.int .i64 n] w fun e w' => e = .returned (keyA (keyN n)) ∧ Below w.heap.size w w' := by
  have HX := Lib.hid (Bk.new w [.int .i64 1, .int .i64 n, .int .i64 0] 31 rfl)
  have HB : Hid (Below w.heap.size w (w.alloc (.cells #[.int .i64 1, .int .i64 n, .int .i64 0] 31))) := Lib.hid ((Below.refl _ _).alloc (Nat.le_refl _) _)
  go_enter Try.func26, Try.ntmps26
  go_wp2
  refine bodyPost_ret (results_bk rfl _ rfl HX.out Try.underlying31 rfl infoKy) rfl ?_
  exact ⟨rfl, HB.out⟩

set_option maxRecDepth 100000 in
set_option maxHeartbeats 4000000 in
theorem few11_any {w : World} {G : Nat → Prop} {v : Value} {l : List Dd11} (h : Dds11 w G v l) (hG : ∀ b, G b → b < w.heap.size) :
    Calls Try.prog 11 #[v] w fun e w' => (e = .returned (.bool false) ∧ ¬ Few l ∨ e = .returned (.bool true) ∧ Few l) ∧ Below w.heap.size w w' := by
  have HS := Lib.hid h
  obtain ⟨A, cap, rfl, hcap⟩ := h.form
  clear h
  go_enter Try.func11, Try.ntmps11
  go_wp2
  go_loopw [3] (fun i wr => ∃ k : Nat, k ≤ l.length ∧ k ≤ 51 ∧ i = .int .i64 (k : Int) ∧ Hid (∀ j (hj : j < l.length), j < k → l[j].l.length ≤ 20) ∧ Hid (Below w.heap.size w wr)) (fun i _ => l.length - (intOf i).toNat)
  case atStart => exact ⟨0, Nat.zero_le _, by omega, rfl, Lib.hid (fun j _ h => absurd h (Nat.not_lt_zero _)), Lib.hid (Below.refl _ _)⟩
  case round =>
    obtain ⟨k, hk, hk5, rfl, HI, HB⟩ := hrel
    by_cases hlt : k < l.length ∧ k < 51
    · obtain ⟨hlt, h51⟩ := hlt
      have hlt' : (k : Int) < (l.length : Int) := by omega
      have h51' : (k : Int) < 51 := by omega
      have hk0 : (0 : Int) ≤ (k : Int) := by omega
      obtain ⟨a, _, ea, _, _, _, hd⟩ := (HS.out.below HB.out hG).nth k hlt
      cases ea
      obtain ⟨A6, c6, y6, _⟩ := hd.last
      clear hd
      by_cases h20 : l[k].l.length ≤ 20
      · have h20' : ¬ ((l[k].l.length : Int) > 20) := by omega
        have HN : Hid (∀ j (hj : j < l.length), j < k + 1 → l[j].l.length ≤ 20) := Lib.hid (fun j hj hjk => by
          by_cases e : j = k
          · subst e; exact h20
          · exact HI.out j hj (by omega))
        clear h20
        generalize l[k].l.length = n at *
        go_wp2
        go_roundw
        case rel => exact ⟨k + 1, by omega, by omega, by go_num, HN, HB⟩
        case measure => simp [intOf]; omega
      · have h20' : (l[k].l.length : Int) > 20 := by omega
        have HN : Hid (¬ Few l) := Lib.hid (fun f => h20 (f.ch _ (List.getElem_mem hlt)))
        clear h20
        generalize l[k].l.length = n at *
        go_wp2
        go_ret
        exact ⟨Or.inl ⟨rfl, HN.out⟩, HB.out⟩
    · have hNo : ¬ ((k : Int) < (l.length : Int)) ∨ ((k : Int) < (l.length : Int) ∧ ¬ ((k : Int) < 51)) := by omega
      by_cases h50 : l.length ≤ 50
      · have h50' : (l.length : Int) ≤ 50 := by omega
        have HF : Hid (Few l) := Lib.hid ⟨h50, fun x hx => by
          obtain ⟨j, hj, rfl⟩ := List.getElem_of_mem hx
          exact HI.out j hj (by omega)⟩
        clear hlt h50
        rcases hNo with hNo | ⟨hNo1, hNo⟩
        · go_wp2
          go_ret
          exact ⟨Or.inr ⟨rfl, HF.out⟩, HB.out⟩
        · go_wp2
          go_ret
          exact ⟨Or.inr ⟨rfl, HF.out⟩, HB.out⟩
      · have h50' : ¬ (l.length : Int) ≤ 50 := by omega
        have HN : Hid (¬ Few l) := Lib.hid (fun f => h50 f.len)
        clear hlt h50
        rcases hNo with hNo | ⟨hNo1, hNo⟩
        · go_wp2
          go_ret
          exact ⟨Or.inl ⟨rfl, HN.out⟩, HB.out⟩
        · go_wp2
          go_ret
          exact ⟨Or.inl ⟨rfl, HN.out⟩, HB.out⟩

theorem few11_yes {w : World} {G : Nat → Prop} {v : Value} {l : List Dd11} (h : Dds11 w G v l) (hG : ∀ b, G b → b < w.heap.size) (hf : Few l) :
    Calls Try.prog 11 #[v] w fun e w' => e = .returned (.bool true) ∧ Below w.heap.size w w' :=
  (few11_any h hG).mono (fun _ _ hh => ⟨hh.1.elim (fun q => absurd hf q.2) (fun q => q.1), hh.2⟩)
theorem few11_no {w : World} {G : Nat → Prop} {v : Value} {l : List Dd11} (h : Dds11 w G v l) (hG : ∀ b, G b → b < w.heap.size) (hf : ¬ Few l) :
    Calls Try.prog 11 #[v] w fun e w' => e = .returned (.bool false) ∧ Below w.heap.size w w' :=
  (few11_any h hG).mono (fun _ _ hh => ⟨hh.1.elim (fun q => q.1) (fun q => absurd q.2 hf), hh.2⟩)

end Go.Proofs.Ytpppjipelcfnkaa
