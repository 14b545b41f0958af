/-
  The program's frames: a record's frames.
-/
import Derived.Test.YtfpojbnidoeohaaFpBodies
import Derived.Test.YtfpojbnidoeohaaVrCells
namespace Go.Proofs.Ytfpojbnidoeohaa
open Go.RowKit Go.Shelf

attribute [local go_sem] Oper.semAt_some

/-- a frame in a row: its number, its flag, its body's value -/
structure Pf where
  seq : Nat
  flag : UInt8
  vb : Value

def pfCQ (e : Nat) (f : Pf) : List Value := [.int .u32 (e : Int), .int .u32 (f.seq : Int), .int .u8 (f.flag.toNat : Int), f.vb]
/-- the frames before any flag is laid -/
def pfs (s : Nat) (vs : List Value) : List Pf := vs.zipIdx.map fun x => ⟨(s + x.2) % 4294967296, 0, x.1⟩

theorem pfs_len (s : Nat) (vs : List Value) : (pfs s vs).length = vs.length := by simp [pfs]
theorem pfs_snoc (s : Nat) (vs : List Value) (u : Value) : pfs s (vs ++ [u]) = pfs s vs ++ [⟨(s + vs.length) % 4294967296, 0, u⟩] := by simp [pfs, List.zipIdx_append]
theorem pfs_at (s : Nat) (vs : List Value) (i : Nat) (h : i < (pfs s vs).length) : (pfs s vs)[i] = ⟨(s + i) % 4294967296, 0, vs[i]'(by rw [pfs_len] at h; exact h)⟩ := by simp [pfs]

theorem rows_apart {W : World} {b b' k k' n n' : Nat} {e e' : TypeId} {u v : Value} {xs ys : List Value} (h : W.ownsRow b e k u n xs) (h' : W.ownsRow b' e' k' v n' ys) (hne : e ≠ e') : u.ownBlock = none ∨ u.ownBlock ≠ v.ownBlock := by
  rcases h.2 with ⟨rfl, _⟩ | ⟨g, cap, cur, rfl, _, hg, _⟩
  · exact .inl rfl
  · refine .inr fun ex => ?_
    rcases h'.2 with ⟨rfl, _⟩ | ⟨g', cap', cur', rfl, _, hg', _⟩
    · cases ex
    · have e1 : g = g' := by simpa [Value.ownBlock] using ex
      subst e1
      rw [hg] at hg'
      simp at hg'
      exact hne hg'.2

theorem row_kept {W W' : World} {row : Option Nat} {b k n : Nat} {e : TypeId} {v : Value} {xs : List Value} (h : W.ownsRow b e k v n xs) (hg : W.grownBy W' row) (hr : ∀ r, row = some r → ∃ o : Obj, W.heap[r]? = some o ∧ o.isCells = false) : W'.ownsRow b e k v n xs := by
  refine h.kept hg ?_
  rcases h.2 with ⟨rfl, _⟩ | ⟨g, cap, cur, rfl, _, hgb, _⟩
  · exact .inl rfl
  · refine .inr fun ex => ?_
    obtain ⟨o, ho, hc⟩ := hr g (by simpa [Value.ownBlock] using ex.symm)
    rw [hgb] at ho
    cases ho
    cases hc

theorem box_kept {W W' : World} {row : Option Nat} {B : Nat} {t : TypeId} {v : Value} (h : Boxed W B t v) (hg : W.grownBy W' row) (hr : ∀ r, row = some r → ∃ o : Obj, W.heap[r]? = some o ∧ o.isCells = false) : Boxed W' B t v := by
  refine h.kept hg fun ex => ?_
  obtain ⟨o, ho, hc⟩ := hr B ex.symm
  rw [show W.heap[B]? = _ from h] at ho
  cases ho
  cases hc

/-- what holds between two rounds: the bodies pre have come -/
structure Inv (w W : World) (e s : Nat) (pre : List (List UInt8)) (v : Value) (vs : List Value) : Prop where
  be : Boxed W w.heap.size 22 (.int .u32 (e : Int))
  bs : Boxed W (w.heap.size + 1) 22 (.int .u32 (s : Int))
  bf : Boxed W (w.heap.size + 1 + 1) 98 v
  row : W.ownsRow w.heap.size 61 4 v pre.length ((pfs s vs).flatMap (pfCQ e))
  len : vs.length = pre.length
  own : ∀ (i : Nat) (u : Value) (x : List UInt8), vs[i]? = some u → pre[i]? = some x → Own w.heap.size W u x
  low : Below w.heap.size w W

def InvE (w : World) (e s : Nat) (pre : List (List UInt8)) (W : World) : Prop := ∃ v vs, Inv w W e s pre v vs

theorem Inv.kept {w W W' : World} {e s : Nat} {pre : List (List UInt8)} {v : Value} {vs : List Value} {row : Option Nat} (h : Inv w W e s pre v vs) (hg : W.grownBy W' row) (hr : ∀ r, row = some r → w.heap.size ≤ r ∧ ∃ o : Obj, W.heap[r]? = some o ∧ o.isCells = false) : Inv w W' e s pre v vs where
  be := box_kept h.be hg fun r e => (hr r e).2
  bs := box_kept h.bs hg fun r e => (hr r e).2
  bf := box_kept h.bf hg fun r e => (hr r e).2
  row := row_kept h.row hg fun r e => (hr r e).2
  len := h.len
  own := fun i u x hu hx => row_kept (h.own i u x hu hx) hg fun r e => (hr r e).2
  low := h.low.grown hg h.low.size fun k e => (hr k e).1

theorem invE_own (w : World) (e s : Nat) (B : Nat) (hB : w.heap.size ≤ B) : OwnFrom B (InvE w e s) := by
  rintro pre W W' row ⟨v, vs, h⟩ hg hr
  exact ⟨v, vs, h.kept hg fun r e => ⟨Nat.le_trans hB (hr r e).1, (hr r e).2⟩⟩

/-- one frame more -/
theorem Inv.more {w W w1 : World} {e s : Nat} {pre : List (List UInt8)} {v v' : Value} {vs : List Value} {u : Value} {x : List UInt8} {tmp : Obj} (h : Inv w W e s pre v vs) (hu : Own w.heap.size W u x)
    (hown : w1.ownsRow w.heap.size 61 4 v' (pre.length + 1) ((pfs s vs).flatMap (pfCQ e) ++ pfCQ e ⟨(s + pre.length) % 4294967296, 0, u⟩)) (hg : (W.alloc tmp).grownBy w1 v.ownBlock) :
    Boxed w1 (w.heap.size + 1 + 1) 98 v ∧ Inv w (w1.setCell ⟨w.heap.size + 1 + 1, 0, none⟩ v') e s (pre ++ [x]) v' (vs ++ [u]) ∧ KeepsOthers W (w1.setCell ⟨w.heap.size + 1 + 1, 0, none⟩ v') ∧ Below w.heap.size W (w1.setCell ⟨w.heap.size + 1 + 1, 0, none⟩ v') := by
  obtain ⟨hv1, hv2, hr2, hk2, hb2⟩ := h.bf.appended (by decide) h.row h.low.size (by omega) hown hg
  have hset := grownBy_setCell' w1 (w.heap.size + 1 + 1) v'
  have kx : ∀ (u : Value) (x : List UInt8), Own w.heap.size W u x → Own w.heap.size (w1.setCell ⟨w.heap.size + 1 + 1, 0, none⟩ v') u x := fun u x ho => by
    have o1 : w1.ownsRow w.heap.size 5 1 u x.length (bytesV x) := World.ownsRow.kept (World.ownsRow.alloc ho tmp) hg (rows_apart ho h.row (by decide))
    exact o1.kept hset (.inr (fun ex => (hv1.not_row (by decide) o1) ex.symm))
  refine ⟨hv1, ?_, hk2, hb2⟩
  exact {
    be := ((h.be.alloc tmp).kept hg (h.be.not_row (by decide) h.row)).kept hset (fun ex => by have := Option.some.inj ex; omega)
    bs := ((h.bs.alloc tmp).kept hg (h.bs.not_row (by decide) h.row)).kept hset (fun ex => by have := Option.some.inj ex; omega)
    bf := hv2
    row := by rw [pfs_snoc, List.flatMap_append, List.length_append, h.len]; simpa using hr2
    len := by simp [h.len]
    own := fun i u' x' h1 h2 => by
      by_cases hi : i < pre.length
      · rw [List.getElem?_append_left (by rw [h.len]; exact hi)] at h1
        rw [List.getElem?_append_left hi] at h2
        exact kx _ _ (h.own i u' x' h1 h2)
      · have hi2 : i = pre.length := by
          have := (List.getElem?_eq_some_iff.1 h2).1
          simp at this
          omega
        subst hi2
        rw [List.getElem?_append_right (by rw [h.len]; omega), h.len] at h1
        rw [List.getElem?_append_right (by omega)] at h2
        simp at h1 h2
        subst h1 h2
        exact kx _ _ hu
    low := h.low.trans hb2 }

theorem infoPf4 : (Try.prog.info? 61).map (fun i => (i.zero, i.size, i.bytes)) = some (some (.agg #[.int .u32 0, .int .u32 0, .int .u8 0, .slice none 0 0]), 4, 40) := by kernel_rfl

theorem row_cells (w : World) (e : TypeId) (X : Array Value) : ∀ (j : Nat) (x : Value), X.toList[j]? = some x → (w.alloc (.cells X e)).cell? ((⟨w.heap.size, 0, none⟩ : Addr).add j) = some x := fun j x hj => by
  rw [Addr.add_mid]
  rw [cell_of_row _ _ _ X e (0, 0) (heap_alloc_new w _), Nat.zero_add]
  simpa using hj

theorem grown_set (w : World) (g o : Nat) (v : Value) : w.grownBy (w.setCell ⟨g, o, none⟩ v) (some g) :=
  ⟨rfl, rfl, rfl, by simp [World.setCell], fun k _ hk => Below.heap_setCell w ⟨g, o, none⟩ v k (fun e => hk (by rw [e]))⟩

theorem own_put {w : World} {base k n g cap : Nat} {e : TypeId} {xs : List Value} (h : w.ownsRow base e k (.slice (some ⟨g, 0, none⟩) n cap) n xs) (o : Nat) (c : Value) (ho : o < n * k) (h1 : c.oneCell' = true) :
    (w.setCell ⟨g, o, none⟩ c).ownsRow base e k (.slice (some ⟨g, 0, none⟩) n cap) n (xs.set o c) := by
  have := (V.own_stored Try.prog h o [c] (by simp; omega) (by simp [h1])).1
  have e : splice xs o [c] = xs.set o c := by rw [splice, List.set_eq_take_append_cons_drop, if_pos (by rw [h.1]; exact ho)]; rfl
  rw [e] at this
  exact this

theorem or_0_1 : bits .or .u8 0 1 = 1 := by kernel_rfl
theorem or_1_2 : bits .or .u8 1 2 = 3 := by kernel_rfl
theorem or_0_2 : bits .or .u8 0 2 = 2 := by kernel_rfl
attribute [local go_sem] or_0_1 or_1_2 or_0_2
theorem many_few {n : Nat} (h : n ≤ 2000) : R.many n ≤ 41 := by unfold R.many; split <;> omega

theorem pfC_len (e : Nat) (f : Pf) : (pfCQ e f).length = 4 := rfl

/-- the flags laid, the frames are what the document says -/
theorem cut_done {w W : World} {e s D g cap K : Nat} {l : List UInt8} {vs : List Value} (fl : UInt8) (hi : Inv w W e s (chunks l (K + 1)) (.slice (some ⟨g, 0, none⟩) (K + 1) cap) vs) (hm : K + 1 = R.many l.length) (hfl : fl = if K = 0 then 3 else 2)
    (hD : W.heap[D]? = some (.deferred (some []))) (hDw : w.heap.size ≤ D) :
    ((W.setCell ⟨g, 2, none⟩ (.int .u8 1)).setCell ⟨g, K * 4 + 2, none⟩ (.int .u8 (fl.toNat : Int))).heap[D]? = some (.deferred (some [])) ∧
    Frs (((W.setCell ⟨g, 2, none⟩ (.int .u8 1)).setCell ⟨g, K * 4 + 2, none⟩ (.int .u8 (fl.toNat : Int))).putObj D (.deferred none)) (S.New w (((W.setCell ⟨g, 2, none⟩ (.int .u8 1)).setCell ⟨g, K * 4 + 2, none⟩ (.int .u8 (fl.toNat : Int))).putObj D (.deferred none))) (.slice (some ⟨g, 0, none⟩) (K + 1) cap) (R.cut e s l) ∧
    Below w.heap.size w (((W.setCell ⟨g, 2, none⟩ (.int .u8 1)).setCell ⟨g, K * 4 + 2, none⟩ (.int .u8 (fl.toNat : Int))).putObj D (.deferred none)) := by
  have hlen : (chunks l (K + 1)).length = K + 1 := chunks_len _ _
  have hrow := hi.row
  rw [hlen] at hrow
  have hvl : vs.length = K + 1 := by rw [hi.len, hlen]
  have hgw := (World.ownsRow.lt hrow g rfl)
  have r1 := own_put hrow 2 (.int .u8 1) (by omega) rfl
  have r2 := own_put r1 (K * 4 + 2) (.int .u8 (fl.toNat : Int)) (by omega) rfl
  have g1 := grown_set W g 2 (.int .u8 1)
  have g2 := grown_set (W.setCell ⟨g, 2, none⟩ (.int .u8 1)) g (K * 4 + 2) (.int .u8 (fl.toNat : Int))
  have hD2 := (KeepsOthers.setCell (W.setCell ⟨g, 2, none⟩ (.int .u8 1)) ⟨g, K * 4 + 2, none⟩ (.int .u8 (fl.toNat : Int))).same D _ ((KeepsOthers.setCell W ⟨g, 2, none⟩ (.int .u8 1)).same D _ hD rfl) rfl
  have hb2 : Below w.heap.size w ((W.setCell ⟨g, 2, none⟩ (.int .u8 1)).setCell ⟨g, K * 4 + 2, none⟩ (.int .u8 (fl.toNat : Int))) := (hi.low.setCell (p := ⟨g, 2, none⟩) hgw.1 _).setCell (p := ⟨g, K * 4 + 2, none⟩) hgw.1 _
  have kx : ∀ (u : Value) (x : List UInt8), Own w.heap.size W u x → Own w.heap.size (((W.setCell ⟨g, 2, none⟩ (.int .u8 1)).setCell ⟨g, K * 4 + 2, none⟩ (.int .u8 (fl.toNat : Int))).putObj D (.deferred none)) u x := fun u x ho => by
    have a0 := rows_apart ho hrow (by decide)
    have o1 := World.ownsRow.kept ho g1 a0
    have o2 := o1.kept g2 a0
    exact ownsRow_putObj o2 _ hD2 rfl
  generalize (W.setCell ⟨g, 2, none⟩ (.int .u8 1)).setCell ⟨g, K * 4 + 2, none⟩ (.int .u8 (fl.toNat : Int)) = W2 at r2 hD2 hb2 kx ⊢
  refine ⟨hD2, ?_, hb2.trans (Y.below_put hDw hb2.size _)⟩
  have r3 := ownsRow_putObj r2 (.deferred none) hD2 rfl
  have hg3 := World.ownsRow.lt r3 g rfl
  have hcl : (R.cut e s l).length = K + 1 := by rw [R.cut_len, hm]
  refine ⟨some ⟨g, 0, none⟩, cap, by rw [hcl], by rw [hcl]; obtain ⟨_, A, c, ex, hc, _⟩ := S.Sg.of_own hrow; cases ex; exact hc, fun _ => ⟨_, rfl, ⟨hg3.1, hg3.2⟩, fun i h => ?_⟩⟩
  have hik : i < K + 1 := by rw [← hcl]; exact h
  have hpl : i < (pfs s vs).length := by rw [pfs_len, hvl]; exact hik
  have hfx : ∀ j, j < 4 → ((pfs s vs).flatMap (pfCQ e))[i * 4 + j]? = (pfCQ e (pfs s vs)[i])[j]? := fun j hj => V.flat_at (pfs s vs) (fun x _ => pfC_len e x) i hpl j hj
  have hxl : ((pfs s vs).flatMap (pfCQ e)).length = (K + 1) * 4 := hrow.1
  have hci : (chunks l (K + 1))[i]? = some (chunk l i) := by simp [chunks, List.getElem?_map, List.getElem?_range hik]
  have hat : ∀ j u, j < 4 → j ≠ 2 → (pfCQ e (pfs s vs)[i])[j]? = some u → (W2.putObj D (.deferred none)).cell? ((⟨g, 0, none⟩ : Addr).add (i * 4 + j)) = some u := fun j u hj hj2 hu => by
    rw [Addr.add_mid, Nat.zero_add]
    refine V.own_cell r3 ?_
    rw [List.getElem?_set_ne (by omega), List.getElem?_set_ne (by omega), hfx j hj]
    exact hu
  have hfr : (R.cut e s l)[i] = R.frameOf e s l i := R.cut_at e s l i h
  rw [hfr]
  refine ⟨vs[i]'(by omega), ?_, ?_, ?_, ?_, ?_⟩
  · exact hat 0 _ (by decide) (by decide) rfl
  · refine (hat 1 _ (by decide) (by decide) rfl).trans ?_
    rw [pfs_at]
    rfl
  · rw [Addr.add_mid, Nat.zero_add]
    refine V.own_cell r3 ?_
    simp only [R.frameOf, R.flagOf, ← hm]
    by_cases hl : i = K
    · subst hl
      rw [List.getElem?_set_self (by rw [List.length_set, hxl]; omega)]
      by_cases h0 : i = 0
      · rw [hfl, if_pos h0, if_pos h0, if_pos rfl]; rfl
      · rw [hfl, if_neg h0, if_neg h0, if_pos rfl]; rfl
    · rw [List.getElem?_set_ne (by omega)]
      by_cases h0 : i = 0
      · subst h0
        rw [List.getElem?_set_self (by rw [hxl]; omega), if_pos rfl, if_neg (by omega)]
        rfl
      · rw [List.getElem?_set_ne (by omega), hfx 2 (by decide), if_neg h0, if_neg (by omega), pfs_at]
        rfl
  · refine (hat 3 _ (by decide) (by decide) rfl).trans ?_
    rw [pfs_at]
  · have ho := kx _ _ (hi.own i (vs[i]'(by omega)) (chunk l i) (List.getElem?_eq_getElem (by omega)) hci)
    exact (S.Sg.of_own ho).wider (fun b hb => hb)

set_option maxRecDepth 100000 in
set_option maxHeartbeats 1000000 in
theorem cut_in {w : World} {F : Nat → Prop} {v : Value} {l : List UInt8} (e s : Nat) (h : SlB w F v l) (hF : ∀ b, F b → b < w.heap.size) (_he : e < 4294967296) (_hs : s < 4294967296) (hl : l.length ≤ 2000) :
    CallsIn Fence.wide 3 Try.prog 44 #[.int .u32 e, .int .u32 s, v] w fun r w' => ∃ v', r = .returned v' ∧ Frs w' (S.New w w') v' (R.cut e s l) ∧ Below w.heap.size w w' := by
  obtain ⟨A0, cap0, rfl, hc0⟩ : ∃ A cap, v = .slice A l.length cap ∧ l.length ≤ cap := by obtain ⟨_, A, cap, e, hc, _⟩ := h; exact ⟨A, cap, e, hc⟩
  obtain ⟨i0, hi, hz0, hz1, hz2⟩ := info_parts infoPf4
  have HH := Lib.hid h
  clear h
  refine callsIn_of_wp_marks Try.func44 rfl trivial ?_ rfl
  simp only [Try.ntmps44, List.size_toArray, List.length_cons, List.length_nil, Nat.reduceAdd, Nat.reduceSub, Array.replicate_succ, Array.replicate_zero, List.push_toArray, List.append_toArray, List.nil_append, List.cons_append]
  gi_wp2_with (refine ⟨trivial, ?_⟩; gi_at_call 53; refine (callsIn_wide.2 (bodies_in _ _ ⟨_, _, _, rfl⟩)).mono ?_; rintro r w' ⟨rfl, rfl⟩)
  obtain ⟨W0, hW0⟩ : ∃ W0, (((w.alloc (.cells #[.int .u32 (e : Int)] 22)).alloc (.cells #[.int .u32 (s : Int)] 22)).alloc (.cells #[.slice none 0 0] 98)).alloc (.cells #[.slice A0 l.length cap0] 44) = W0 := ⟨_, rfl⟩
  have hsz0 : W0.heap.size = w.heap.size + 4 := by rw [← hW0]; simp
  have hlow : Below w.heap.size w W0 := by
    rw [← hW0]
    exact ((((Below.refl _ w).alloc (Nat.le_refl _) _).alloc (by simp) _).alloc (by simp; omega) _).alloc (by simp; omega) _
  have hbox : Boxed W0 (w.heap.size + 1 + 1 + 1) 44 (.slice A0 l.length cap0) := by
    rw [← hW0]
    have := Boxed.new (((w.alloc (.cells #[.int .u32 (e : Int)] 22)).alloc (.cells #[.int .u32 (s : Int)] 22)).alloc (.cells #[.slice none 0 0] 98)) 44 (.slice A0 l.length cap0)
    simpa using this
  have hinv : InvE w e s [] W0 := by
    rw [← hW0]
    refine ⟨.slice none 0 0, [], ?_⟩
    have b1 := Boxed.new w 22 (.int .u32 (e : Int))
    have b2 := Boxed.new (w.alloc (.cells #[.int .u32 (e : Int)] 22)) 22 (.int .u32 (s : Int))
    have b3 := Boxed.new ((w.alloc (.cells #[.int .u32 (e : Int)] 22)).alloc (.cells #[.int .u32 (s : Int)] 22)) 98 (.slice none 0 0)
    simp only [World.size_alloc] at b2 b3
    exact { be := ((b1.alloc _).alloc _).alloc _, bs := (b2.alloc _).alloc _, bf := b3.alloc _, row := S.own_nil _ _ _ _, len := rfl, own := fun i u x h _ => by simp at h, low := by rw [hW0]; exact hlow }
  rw [hW0]
  have HINV := Lib.hid hinv
  have HBOX := Lib.hid hbox
  clear hW0 hinv hbox
  refine Y.loop (n := 3) (gf := 58) (lb := #[.pointer (some ⟨w.heap.size + 1 + 1 + 1, 0, none⟩)]) rfl (enters_of Try.func58 (by kernel_rfl) rfl) rfl (H := Own w.heap.size) (n₀ := w.heap.size) (xs := chunks l (R.many l.length))
    (fun W hW => bodies_feeds 2 (by decide) _ w.heap.size _ l F hF hl W (by have := hW.size; omega) ((hW.cell (p := ⟨w.heap.size + 1 + 1 + 1, 0, none⟩) (show w.heap.size + 1 + 1 + 1 < W0.heap.size by omega)).trans HBOX.out.cell) (HH.out.below (hlow.trans (hW.mono (by omega))) hF)) (by omega)
    (fun A v x l o o' hO hl ho => ownsRow_putObj hO o' hl ho) (InvE w e s) (invE_own w e s _ (by omega)) HINV.out
    (fun v => { tmps := #[.int .u32 (e : Int), .int .u32 (s : Int), .slice A0 l.length cap0, .pointer (some ⟨w.heap.size, 0, none⟩), .pointer (some ⟨w.heap.size + 1, 0, none⟩), undef, .slice none 0 0, .pointer (some ⟨w.heap.size + 1 + 1, 0, none⟩), v, .slice A0 l.length cap0, .func (.func 58) #[] #[.pointer (some ⟨w.heap.size + 1 + 1 + 1, 0, none⟩)], v, undef, undef, undef, undef, undef, undef, undef, undef, undef, undef, undef, undef, undef, undef, undef, undef, undef, undef, undef, undef, undef, undef, undef, undef, undef, undef, undef, undef, undef], defers := [] }) ?assign ?body ?done
  case assign =>
    intro L v W K hK
    gi_wp2
    exact hK
  case body =>
    rintro L pre x u W ⟨v, vs, hi⟩ hu ⟨rest, hx⟩
    have hpre : pre.length ≤ 41 := by
      have := congrArg List.length hx
      rw [chunks_len, List.length_append] at this
      have h2 : R.many l.length ≤ 41 := by unfold R.many; split <;> omega
      omega
    obtain ⟨Av, capv, rfl, hcv⟩ : ∃ A cap, v = .slice A pre.length cap ∧ pre.length ≤ cap := by
      obtain ⟨_, A, cap, e, hc, _⟩ := S.Sg.of_own hi.row
      exact ⟨A, cap, e, hc⟩
    obtain ⟨Au, capu, rfl, hcu⟩ : ∃ A cap, u = .slice A x.length cap ∧ x.length ≤ cap := by
      obtain ⟨_, A, cap, e, hc, _⟩ := S.Sg.of_own hu
      exact ⟨A, cap, e, hc⟩
    obtain ⟨q, hq⟩ : ∃ q, q = (s + pre.length) % 4294967296 := ⟨_, rfl⟩
    have hq' : ((s : Int) + (pre.length : Int)) % 4294967296 = (q : Int) := by omega
    have c1 := hi.be.cell
    have c2 := hi.bs.cell
    have c3 := hi.bf.cell
    have HI := Lib.hid hi
    have HU := Lib.hid hu
    have HQ := Lib.hid hq
    clear hi hu hq hx
    dsimp only
    have hrow := HI.out.row
    gi_wp2_with (gi_at_builtin; refine wpListIn_append_own _ rfl _ _ 98 rfl w.heap.size 61 i0 (.agg #[.int .u32 0, .int .u32 0, .int .u8 0, .slice none 0 0]) 4 40 Try.underlying98 hi hz0 hz1 hz2 rfl (by decide) _ pre.length ((pfs s vs).flatMap (pfCQ e)) rfl (hrow.alloc _) ⟨W.heap.size, 0, none⟩ 1 1 [.int .u32 (e : Int), .int .u32 (q : Int), .int .u8 0, .slice Au x.length capu] rfl rfl (row_cells _ _ #[.int .u32 (e : Int), .int .u32 (q : Int), .int .u8 0, .slice Au x.length capu]) (by simp [Value.oneCell']) (by unfold maxLen; omega) (by omega) (by have := HI.out.low.size; simp; omega) ?_; intro v' w1 hown' hgrow _; obtain ⟨g', cap', rfl⟩ := ownsRow_succ hown'; obtain ⟨hv1, hinv, hk2, hb2⟩ := HI.out.more HU.out (by rw [HQ.out] at hown'; exact hown') hgrow; have hcc1 := hv1.cell; have hff1 := hv1.frozen; have HN := Lib.hid hinv; clear hinv hown' hgrow)
    exact ⟨_, _, HN.out⟩
  case done =>
    rintro D W hD ⟨v, vs, hi⟩ hK
    obtain ⟨K, hm⟩ : ∃ K, K + 1 = R.many l.length := ⟨R.many l.length - 1, by have := R.many_pos l.length; omega⟩
    rw [← hm] at hi
    have hrow := hi.row
    rw [chunks_len] at hrow
    obtain ⟨g, cap, rfl⟩ := ownsRow_succ hrow
    have hgw := World.ownsRow.lt hrow g rfl
    have hvl : vs.length = K + 1 := by rw [hi.len, chunks_len]
    have hpl : (pfs s vs).length = K + 1 := by rw [pfs_len, hvl]
    have hxl : ((pfs s vs).flatMap (pfCQ e)).length = (K + 1) * 4 := hrow.1
    have hx0 : ((pfs s vs).flatMap (pfCQ e))[2]? = some (.int .u8 0) := by
      have := V.flat_at (pfs s vs) (fun x _ => pfC_len e x) 0 (by omega) 2 (by decide)
      rw [Nat.zero_mul, Nat.zero_add] at this
      rw [this, pfs_at]
      rfl
    have c2 := V.own_cell hrow hx0
    have f2 := V.own_frozen hrow 2
    have r1 := own_put hrow 2 (.int .u8 1) (by omega) rfl
    have fk := V.own_frozen r1 (K * 4 + 2)
    have hbf := hi.bf
    have hcf := hbf.cell
    have hbf1 : Boxed (W.setCell ⟨g, 2, none⟩ (.int .u8 1)) (w.heap.size + 1 + 1) 98 (.slice (some ⟨g, 0, none⟩) (K + 1) cap) := hbf.kept (grown_set W g 2 _) (hbf.not_row (by decide) hrow)
    have hcf1 := hbf1.cell
    have hbf2 : ∀ c, Boxed ((W.setCell ⟨g, 2, none⟩ (.int .u8 1)).setCell ⟨g, K * 4 + 2, none⟩ c) (w.heap.size + 1 + 1) 98 (.slice (some ⟨g, 0, none⟩) (K + 1) cap) := fun c => hbf1.kept (grown_set _ g _ c) (hbf.not_row (by decide) hrow)
    have hK1 : (0 : Int) < ((K + 1 : Nat) : Int) := by omega
    have hkl : K ≤ 41 := by have := many_few hl; omega
    by_cases h0 : K = 0
    · have ck : (W.setCell ⟨g, 2, none⟩ (.int .u8 1)).cell? ⟨g, K * 4 + 2, none⟩ = some (.int .u8 1) := V.own_cell r1 (by rw [h0]; exact List.getElem?_set_self (by omega))
      have HF := Lib.hid (cut_done 3 hi hm (by rw [if_pos h0]) hK (by omega))
      rw [show ((3 : UInt8).toNat : Int) = 3 from rfl] at HF
      have hcf2 := (hbf2 (.int .u8 3)).cell
      clear hbf2 hi hrow r1 hx0 hxl hpl hvl hbf hbf1 hm h0
      gi_wp2
      refine ⟨by simp, .inl ⟨_, _, rfl, run_takeDeferred HF.out.1, ?_⟩⟩
      exact ⟨_, results_tmp rfl _ _ _, .slice (some ⟨g, 0, none⟩) (K + 1) cap, rfl, HF.out.2.1, HF.out.2.2⟩
    · have hxk : (((pfs s vs).flatMap (pfCQ e)).set 2 (.int .u8 1))[K * 4 + 2]? = some (.int .u8 0) := by
        rw [List.getElem?_set_ne (by omega)]
        have := V.flat_at (pfs s vs) (fun x _ => pfC_len e x) K (by omega) 2 (by decide)
        rw [this, pfs_at]
        rfl
      have ck : (W.setCell ⟨g, 2, none⟩ (.int .u8 1)).cell? ⟨g, K * 4 + 2, none⟩ = some (.int .u8 0) := V.own_cell r1 hxk
      have HF := Lib.hid (cut_done 2 hi hm (by rw [if_neg h0]) hK (by omega))
      rw [show ((2 : UInt8).toNat : Int) = 2 from rfl] at HF
      have hcf2 := (hbf2 (.int .u8 2)).cell
      clear hbf2 hi hrow r1 hx0 hxl hpl hvl hbf hbf1 hm h0 hxk
      gi_wp2
      refine ⟨by simp, .inl ⟨_, _, rfl, run_takeDeferred HF.out.1, ?_⟩⟩
      exact ⟨_, results_tmp rfl _ _ _, .slice (some ⟨g, 0, none⟩) (K + 1) cap, rfl, HF.out.2.1, HF.out.2.2⟩

theorem cut_any {w : World} {F : Nat → Prop} {v : Value} {l : List UInt8} (e s : Nat) (h : SlB w F v l) (hF : ∀ b, F b → b < w.heap.size) (he : e < 4294967296) (hs : s < 4294967296) (hl : l.length ≤ 2000) :
    Calls Try.prog 44 #[.int .u32 e, .int .u32 s, v] w fun r w' => ∃ v', r = .returned v' ∧ Frs w' (S.New w w') v' (R.cut e s l) ∧ Below w.heap.size w w' :=
  callsIn_wide.1 (cut_in e s h hF he hs hl)

end Go.Proofs.Ytfpojbnidoeohaa
