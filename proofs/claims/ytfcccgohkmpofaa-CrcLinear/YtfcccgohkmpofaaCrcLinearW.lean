/-
  The law CrcLinear, walked: the table's number of two bytes, by exclusive or, is that of both; sums of three texts of one length are the sum of all three.
-/
import Derived.Test.YtfcccgohkmpofaaCrcW5
import Derived.Deep.RegionHeld3
import Derived.Deep.MidRow
namespace Go.Proofs.Ytfcccgohkmpofaa
open Go.RowKit

/-- the cells of an array of bytes -/
def arr (l : List UInt8) : Array Value := (C.bytesV l).toArray
theorem arr_size (l : List UInt8) : (arr l).size = l.length := by simp [arr, C.bytesV_length]
theorem arr_at (l : List UInt8) (j : Nat) (h : j < l.length) : (arr l)[j]? = some (.int .u8 (l[j].toNat : Int)) := by
  simp only [arr, List.getElem?_toArray]; exact C.bytesV_at l j h
theorem arr_one (l : List UInt8) : (arr l).all (·.oneCell') = true := by
  rw [Array.all_eq_true_iff_forall_mem]
  intro x hx
  exact C.bytesV_one l x (by simpa [arr] using hx)
theorem arr_set (l : List UInt8) (k : Nat) (y : UInt8) : (arr l).setIfInBounds k (.int .u8 (y.toNat : Int)) = arr (l.set k y) := by
  simp [arr, C.bytesV, List.map_set]

/-- the law's own blocks: the three texts and the fourth one -/
structure J (w : World) (g : Nat) (a b c x : List UInt8) (wr : World) : Prop where
  bel : Below w.heap.size w wr
  ha : wr.heap[w.heap.size]? = some (.cells (arr a) 34 (0, 0))
  hb : wr.heap[w.heap.size + 1]? = some (.cells (arr b) 34 (0, 0))
  hc : wr.heap[w.heap.size + 1 + 1]? = some (.cells (arr c) 34 (0, 0))
  hx : wr.heap[g]? = some (.cells (arr x) 34 (0, 0))
  gt : w.heap.size + 1 + 1 < g
  lt : g < wr.heap.size

theorem J.step {w wr w' : World} {g : Nat} {a b c x : List UInt8} (h : J w g a b c x wr) (hb : Below wr.heap.size wr w') : J w g a b c x w' := by
  have hz := h.lt
  have hg := h.gt
  have hs := hb.size
  exact ⟨h.bel.trans (hb.mono h.bel.size), (hb.block _ (by omega)).trans h.ha, (hb.block _ (by omega)).trans h.hb, (hb.block _ (by omega)).trans h.hc, (hb.block _ (by omega)).trans h.hx, h.gt, by omega⟩

theorem J.drew {w wr : World} {g : Nat} {a b c x : List UInt8} (h : J w g a b c x wr) : J w g a b c x wr.drew := ⟨h.bel.drew, h.ha, h.hb, h.hc, h.hx, h.gt, h.lt⟩

theorem J.set {w wr : World} {g k : Nat} {a b c x : List UInt8} (h : J w g a b c x wr) (y : UInt8) : J w g a b c (x.set k y) (wr.setCell ⟨g, k, none⟩ (.int .u8 (y.toNat : Int))) := by
  have hg := h.gt
  have hz := h.bel.size
  refine ⟨h.bel.setCell (by show w.heap.size ≤ g; omega) _, ?_, ?_, ?_, ?_, h.gt, by simpa using h.lt⟩
  · rw [Below.heap_setCell _ _ _ _ (by show _ ≠ g; omega)]; exact h.ha
  · rw [Below.heap_setCell _ _ _ _ (by show _ ≠ g; omega)]; exact h.hb
  · rw [Below.heap_setCell _ _ _ _ (by show _ ≠ g; omega)]; exact h.hc
  · rw [Joins.block_setCell h.hx, arr_set]

/-- an array's bytes, all of them, as a slice -/
theorem sl_arr {w : World} {g B : Nat} {l : List UInt8} {t : TypeId} (h : w.heap[g]? = some (.cells (arr l) t (0, 0))) (hl : l.length = 9) (hg : g < B) : Sl w B (.slice (some ⟨g, 0, none⟩) 9 9) l := by
  have := Sl.laid (w := w) (g := g) (cap := 9) (l := l) (by omega) hg (fun j hj => by rw [cell_of_row w g j _ _ _ h]; exact arr_at l j hj)
  rw [hl] at this
  exact this

theorem three_new (w : World) (A B D : Obj) : (((w.alloc A).alloc B).alloc D).heap[w.heap.size]? = some A ∧ (((w.alloc A).alloc B).alloc D).heap[w.heap.size + 1]? = some B ∧ (((w.alloc A).alloc B).alloc D).heap[w.heap.size + 1 + 1]? = some D ∧ (((w.alloc A).alloc B).alloc D).heap.size = w.heap.size + 3 := by
  refine ⟨?_, ?_, ?_, by simp⟩
  · rw [heap_alloc_old _ _ (by simp; omega), heap_alloc_old _ _ (by simp)]; exact heap_alloc_new w A
  · rw [heap_alloc_old _ _ (by simp)]
    have := heap_alloc_new (w.alloc A) B
    simpa using this
  · have := heap_alloc_new ((w.alloc A).alloc B) D
    simpa using this

theorem J.start (w w1 : World) (a b c : List UInt8)
    (hb : Below (((w.alloc (.cells (arr a) 34)).alloc (.cells (arr b) 34)).alloc (.cells (arr c) 34)).heap.size (((w.alloc (.cells (arr a) 34)).alloc (.cells (arr b) 34)).alloc (.cells (arr c) 34)) w1) :
    J w w1.heap.size a b c (List.replicate 9 0) (w1.alloc (.cells (arr (List.replicate 9 0)) 34)) := by
  obtain ⟨h0, h1, h2, hz⟩ := three_new w (.cells (arr a) 34) (.cells (arr b) 34) (.cells (arr c) 34)
  have hb0 : Below w.heap.size w (((w.alloc (.cells (arr a) 34)).alloc (.cells (arr b) 34)).alloc (.cells (arr c) 34)) :=
    (((Below.refl _ _).alloc (Nat.le_refl _) _).alloc (by simp) _).alloc (by simp; omega) _
  have hs := hb.size
  have hb1 : Below w.heap.size w w1 := hb0.trans (hb.mono hb0.size)
  have e0 := (hb.block w.heap.size (by omega)).trans h0
  have e1 := (hb.block (w.heap.size + 1) (by omega)).trans h1
  have e2 := (hb.block (w.heap.size + 1 + 1) (by omega)).trans h2
  refine ⟨hb1.alloc hb1.size _, (Below.heap_alloc _ _ _ (by omega)).trans e0, (Below.heap_alloc _ _ _ (by omega)).trans e1, (Below.heap_alloc _ _ _ (by omega)).trans e2, heap_alloc_new _ _, by omega, by simp⟩

theorem join3_length : ∀ (a b c : List UInt8), a.length = b.length → b.length = c.length → (C.join3 a b c).length = a.length
  | [], [], [], _, _ => rfl
  | _ :: a, _ :: b, _ :: c, h1, h2 => by
    simp only [C.join3, List.length_cons]
    rw [join3_length a b c (by simpa using h1) (by simpa using h2)]

theorem join3_get : ∀ (a b c : List UInt8) (j : Nat), a.length = b.length → b.length = c.length → j < a.length → (C.join3 a b c)[j]? = some (a.getD j 0 ^^^ b.getD j 0 ^^^ c.getD j 0)
  | [], [], [], j, _, _, h => by simp at h
  | x :: a, y :: b, z :: c, 0, _, _, _ => rfl
  | x :: a, y :: b, z :: c, j + 1, h1, h2, h => by
    simp only [C.join3, List.getElem?_cons_succ]
    rw [join3_get a b c j (by simpa using h1) (by simpa using h2) (by simpa using h)]
    simp

/-- behind k rounds -/
def Upto3 (a b c x : List UInt8) (k : Nat) : Prop := x.length = 9 ∧ ∀ j, j < k → x[j]? = some (a.getD j 0 ^^^ b.getD j 0 ^^^ c.getD j 0)

theorem Upto3.next {a b c x : List UInt8} {k : Nat} (h : Upto3 a b c x k) (hk : k < 9) (la : a.length = 9) (lb : b.length = 9) (lc : c.length = 9) : Upto3 a b c (x.set k (a[k] ^^^ b[k] ^^^ c[k])) (k + 1) := by
  refine ⟨by rw [List.length_set]; exact h.1, fun j hj => ?_⟩
  by_cases e : k = j
  · subst e
    rw [List.getElem?_set_self (by rw [h.1]; exact hk)]
    simp [List.getD, la, lb, lc, hk]
  · rw [List.getElem?_set_ne e]
    exact h.2 j (by omega)

theorem Upto3.all {a b c x : List UInt8} (h : Upto3 a b c x 9) (la : a.length = 9) (lb : b.length = 9) (lc : c.length = 9) : x = C.join3 a b c := by
  have hl := join3_length a b c (by omega) (by omega)
  apply List.ext_getElem?
  intro j
  by_cases hj : j < 9
  · rw [h.2 j hj, join3_get a b c j (by omega) (by omega) (by omega)]
  · rw [List.getElem?_eq_none (by rw [h.1]; omega), List.getElem?_eq_none (by omega)]

theorem u8_two (x y : UInt8) : bits .xor .u8 (x.toNat : Int) (y.toNat : Int) = (((x ^^^ y).toNat : Nat) : Int) := by
  rw [UInt8.toNat_xor]; exact u8_xor_nat _ _ x.toNat_lt y.toNat_lt

/-- and the table -/
structure K (w : World) (g gt : Nat) (a b c x : List UInt8) (wr : World) : Prop where
  j : J w g a b c x wr
  ht : wr.heap[gt]? = some (.cells (tbl 256) 27 (0, 0))
  lt : gt < wr.heap.size

theorem K.step {w wr w' : World} {g gt : Nat} {a b c x : List UInt8} (h : K w g gt a b c x wr) (hb : Below wr.heap.size wr w') : K w g gt a b c x w' :=
  ⟨h.j.step hb, (hb.block _ h.lt).trans h.ht, Nat.lt_of_lt_of_le h.lt hb.size⟩
theorem K.drew {w wr : World} {g gt : Nat} {a b c x : List UInt8} (h : K w g gt a b c x wr) : K w g gt a b c x wr.drew := ⟨h.j.drew, h.ht, h.lt⟩
theorem K.ca {w wr : World} {g gt : Nat} {a b c x : List UInt8} (h : K w g gt a b c x wr) (la : 0 < a.length) : wr.cell? ⟨w.heap.size, 0, none⟩ = some (.int .u8 (a[0].toNat : Int)) := by
  rw [cell_of_row wr _ 0 _ _ _ h.j.ha]; exact arr_at a 0 la
theorem K.cb {w wr : World} {g gt : Nat} {a b c x : List UInt8} (h : K w g gt a b c x wr) (lb : 0 < b.length) : wr.cell? ⟨w.heap.size + 1, 0, none⟩ = some (.int .u8 (b[0].toNat : Int)) := by
  rw [cell_of_row wr _ 0 _ _ _ h.j.hb]; exact arr_at b 0 lb
theorem K.ct {w wr : World} {g gt : Nat} {a b c x : List UInt8} (h : K w g gt a b c x wr) (m : UInt8) : wr.cell? ⟨gt, m.toNat, none⟩ = some (.int .u32 (C.s8 m.toNat : Nat)) := by
  rw [cell_of_row wr _ _ _ _ _ h.ht]; exact tbl_at _ m.toNat_lt

/-- five cells that are read -/
structure K5 (A B T pa pb pm ta tb tm : Nat) (wr : World) : Prop where
  c1 : wr.cell? ⟨A, 0, none⟩ = some (.int .u8 (pa : Int))
  c2 : wr.cell? ⟨B, 0, none⟩ = some (.int .u8 (pb : Int))
  c3 : wr.cell? ⟨T, pm, none⟩ = some (.int .u32 (tm : Int))
  c4 : wr.cell? ⟨T, pa, none⟩ = some (.int .u32 (ta : Int))
  c5 : wr.cell? ⟨T, pb, none⟩ = some (.int .u32 (tb : Int))

theorem K5.step {A B T pa pb pm ta tb tm : Nat} {wr w' : World} (h : K5 A B T pa pb pm ta tb tm wr) (hb : Below wr.heap.size wr w') : K5 A B T pa pb pm ta tb tm w' :=
  ⟨(hb.cell (World.block_lt_of_cell? wr _ h.c1)).trans h.c1, (hb.cell (World.block_lt_of_cell? wr _ h.c2)).trans h.c2, (hb.cell (World.block_lt_of_cell? wr _ h.c3)).trans h.c3, (hb.cell (World.block_lt_of_cell? wr _ h.c4)).trans h.c4, (hb.cell (World.block_lt_of_cell? wr _ h.c5)).trans h.c5⟩

set_option maxRecDepth 1000000 in
set_option maxHeartbeats 2000000 in
theorem crcLinear_walk (a b c : List UInt8) (w : World) (la : a.length = 9) (lb : b.length = 9) (lc : c.length = 9) :
    Calls Try.prog 6 #[.agg (arr a), .agg (arr b), .agg (arr c)] w fun e w' => e = .returned (.bool true) ∧ Below w.heap.size w w' := by
  have hz0 := zeroTab
  have hts := tbl_size 256
  go_enter Try.func6, Try.ntmps6
  go_wp2_with fail
  refine (awake_any _).mono ?_
  rintro e w1 ⟨rfl, hb1⟩
  have hJ := J.start w w1 a b c hb1
  have hz1 : w.heap.size + 3 ≤ w1.heap.size := by have := hb1.size; simp at this; omega
  clear hb1
  have HJ := Lib.hid hJ
  clear hJ
  go_wp2_with fail
  obtain ⟨g, hg⟩ : ∃ g, g = w1.heap.size := ⟨_, rfl⟩
  rw [← hg] at HJ ⊢
  clear hg hz1
  go_loopw [9] (fun i wr => ∃ (k : Nat) (x : List UInt8), k ≤ 9 ∧ i = .int .i64 k ∧ Hid (Upto3 a b c x k) ∧ Hid (J w g a b c x wr)) (fun i _ => 9 - (intOf i).toNat)
  case atStart => exact ⟨0, List.replicate 9 0, by omega, rfl, Lib.hid ⟨by simp, fun j hj => by omega⟩, HJ⟩
  case round =>
    clear HJ
    obtain ⟨k, x, hk, rfl, HU, HJ⟩ := hrel
    by_cases hlt : k < 9
    · have hja := HJ.out
      have hxl := HU.out.1
      have ca : wr.cell? ⟨w.heap.size, k, none⟩ = some (.int .u8 (a[k].toNat : Int)) := by rw [cell_of_row wr _ k _ _ _ hja.ha]; exact arr_at a k (by omega)
      have cb : wr.cell? ⟨w.heap.size + 1, k, none⟩ = some (.int .u8 (b[k].toNat : Int)) := by rw [cell_of_row wr _ k _ _ _ hja.hb]; exact arr_at b k (by omega)
      have cc : wr.cell? ⟨w.heap.size + 1 + 1, k, none⟩ = some (.int .u8 (c[k].toNat : Int)) := by rw [cell_of_row wr _ k _ _ _ hja.hc]; exact arr_at c k (by omega)
      have cx : wr.cell? ⟨g, k, none⟩ = some (.int .u8 (x[k].toNat : Int)) := by rw [cell_of_row wr _ k _ _ _ hja.hx]; exact arr_at x k (by omega)
      have fx : wr.frozen? ⟨g, k, none⟩ = false := Joins.unfrozen_of_block hja.hx k
      have hgt := hja.gt
      have HN := Lib.hid (HU.out.next hlt la lb lc)
      have HJ2 := Lib.hid ((hja.drew.set (k := k) (a[k] ^^^ b[k] ^^^ c[k])))
      clear hja
      have x1 := u8_two a[k] b[k]
      have x2 := u8_two (a[k] ^^^ b[k]) c[k]
      obtain ⟨y1, hy1⟩ : ∃ y, y = a[k] ^^^ b[k] := ⟨_, rfl⟩
      rw [← hy1] at x1 x2 HN HJ2
      obtain ⟨y2, hy2⟩ : ∃ y, y = y1 ^^^ c[k] := ⟨_, rfl⟩
      rw [← hy2] at x2 HN HJ2
      clear hy1 hy2
      have k0 : (0 : Int) ≤ (k : Int) := by omega
      have k9 : (k : Int) < 9 := by omega
      have n1 : w.heap.size ≠ g := by omega
      have n2 : w.heap.size + 1 ≠ g := by omega
      have n3 : w.heap.size + 1 + 1 ≠ g := by omega
      have ka := Lib.hid ((World.cell?_setCell_other wr ⟨g, k, none⟩ ⟨w.heap.size, k, none⟩ (.int .u8 (y2.toNat : Int)) (fun e => by injection e; omega)).trans ca)
      have kb := Lib.hid ((World.cell?_setCell_other wr ⟨g, k, none⟩ ⟨w.heap.size + 1, k, none⟩ (.int .u8 (y2.toNat : Int)) (fun e => by injection e; omega)).trans cb)
      have kc := Lib.hid ((World.cell?_setCell_other wr ⟨g, k, none⟩ ⟨w.heap.size + 1 + 1, k, none⟩ (.int .u8 (y2.toNat : Int)) (fun e => by injection e; omega)).trans cc)
      go_wp2_with fail
      go_region_held3 (fun w' => w'.cell? ⟨w.heap.size, k, none⟩ = some (.int .u8 (a[k].toNat : Int)) ∧ w'.cell? ⟨w.heap.size + 1, k, none⟩ = some (.int .u8 (b[k].toNat : Int)) ∧ w'.cell? ⟨w.heap.size + 1 + 1, k, none⟩ = some (.int .u8 (c[k].toNat : Int)))
        (first | exact ⟨ka.out, kb.out, kc.out⟩ | go_keep) (fail)
      go_wp2
      go_roundw
      case rel => exact ⟨k + 1, x.set k y2, by omega, by go_num, HN, HJ2⟩
      case measure => simp [intOf]; omega
    · obtain rfl : k = 9 := by omega
      obtain rfl : x = C.join3 a b c := HU.out.all la lb lc
      have lx := HU.out.1
      clear HU
      go_wp2_with fail
      refine (table_any wr).mono ?_
      rintro e w2 ⟨rfl, hb2⟩
      have hst := run_storeCells_new (P := Try.prog) w2 27 (tbl 0) (tbl 256) (sizeTab 256) (by rw [tbl_size, tbl_size]) (tbl_one 256)
      have hj2 := HJ.out.step hb2
      have hj3 := hj2.step ((Below.refl w2.heap.size w2).alloc (Nat.le_refl _) (.cells (tbl 256) 27))
      have hK : K w g w2.heap.size a b c (C.join3 a b c) (w2.alloc (.cells (tbl 256) 27)) := ⟨hj3, heap_alloc_new _ _, by simp⟩
      have n2 : g ≠ w2.heap.size := by have := hj2.lt; omega
      clear hb2 HJ hj2 hj3
      go_wp2_with fail
      clear hst hz0 hts
      have hgj := hK.j.gt
      generalize w2.alloc (.cells (tbl 256) 27) = w3 at hK
      generalize w2.heap.size = gt at hK n2
      have k1 := hK.ca (show 0 < a.length by omega)
      have k2 := hK.cb (show 0 < b.length by omega)
      have x1 := u8_two a[0] b[0]
      have k3 := hK.ct (a[0] ^^^ b[0])
      have k4 := hK.ct a[0]
      have k5 := hK.ct b[0]
      have s3 := C.sum3 a b c (by omega) (by omega)
      have e8 : C.s8 (a[0] ^^^ b[0]).toNat = C.s8 a[0].toNat ^^^ C.s8 b[0].toNat := by rw [UInt8.toNat_xor, C.s8_xor]
      have lxx : (C.join3 a b c).length = 9 := lx
      have q1 := u32_xor_nat (C.s8 a[0].toNat) (C.s8 b[0].toNat) (C.s8_lt (by have := a[0].toNat_lt; omega)) (C.s8_lt (by have := b[0].toNat_lt; omega))
      rw [← e8] at q1
      have q2 := u32_xor_nat (C.sum a) (C.sum b) (C.sum_lt a) (C.sum_lt b)
      have q3 := u32_xor_nat (C.sum a ^^^ C.sum b) (C.sum c) (Nat.xor_lt_two_pow (n := 32) (C.sum_lt a) (C.sum_lt b)) (C.sum_lt c)
      rw [← s3] at q3
      clear s3 e8 lx
      have pa1 := a[0].toNat_lt
      have pb1 := b[0].toNat_lt
      have pm1 := (a[0] ^^^ b[0]).toNat_lt
      generalize (a[0] ^^^ b[0]).toNat = pm at x1 k3 q1 pm1
      generalize a[0].toNat = pa at x1 k1 k4 q1 pa1
      generalize b[0].toNat = pb at x1 k2 k5 q1 pb1
      have i1 : (0 : Int) ≤ (pa : Int) := by omega
      have i2 : (pa : Int) < 256 := by omega
      have i3 : (0 : Int) ≤ (pb : Int) := by omega
      have i4 : (pb : Int) < 256 := by omega
      have i5 : (0 : Int) ≤ (pm : Int) := by omega
      have i6 : (pm : Int) < 256 := by omega
      generalize C.join3 a b c = x at hK q3 lxx
      generalize C.sum a ^^^ C.sum b = sab at q2 q3
      have hK0 := hK.drew
      clear hK
      have HA : a.length ≤ maxLen := by unfold maxLen; omega
      have HB : b.length ≤ maxLen := by unfold maxLen; omega
      have HC : c.length ≤ maxLen := by unfold maxLen; omega
      have HX : x.length ≤ maxLen := by unfold maxLen; omega
      have h50 : K5 w.heap.size (w.heap.size + 1) gt pa pb pm (C.s8 pa) (C.s8 pb) (C.s8 pm) w3.drew := ⟨k1, k2, k3, k4, k5⟩
      have t1 := hK0.j.lt
      generalize C.s8 pa = ta at *
      generalize C.s8 pb = tb at *
      generalize C.s8 pm = tm at *
      go_region_held3 (fun w' => w'.cell? ⟨w.heap.size, 0, none⟩ = some (.int .u8 (pa : Int)) ∧ w'.cell? ⟨w.heap.size + 1, 0, none⟩ = some (.int .u8 (pb : Int)) ∧ w'.cell? ⟨gt, pm, none⟩ = some (.int .u32 (tm : Int)) ∧ w'.cell? ⟨gt, pa, none⟩ = some (.int .u32 (ta : Int)) ∧ w'.cell? ⟨gt, pb, none⟩ = some (.int .u32 (tb : Int)))
        (first | exact ⟨k1, k2, k3, k4, k5⟩ | go_keep)
        (first
          | (go_at_call_of 10 (Value.slice (some ⟨g, 0, none⟩) 9 9)
             refine (of_any _ x _ (g + 1) hK0.j.lt (sl_arr hK0.j.hx lxx (Nat.lt_succ_self _)) HX).mono ?_
             rintro e w4 ⟨rfl, hbn⟩
             have hK1 := hK0.step hbn
             have h51 := h50.step hbn
             have k1 := h51.c1
             have k2 := h51.c2
             have k3 := h51.c3
             have k4 := h51.c4
             have k5 := h51.c5)
          | (go_at_call_of 10 (Value.slice (some ⟨w.heap.size, 0, none⟩) 9 9)
             refine (of_any _ a _ (w.heap.size + 1) (by have := hK1.j.lt; have := hK1.j.gt; omega) (sl_arr hK1.j.ha la (Nat.lt_succ_self _)) HA).mono ?_
             rintro e w5 ⟨rfl, hbn⟩
             have hK2 := hK1.step hbn
             have h52 := h51.step hbn
             have k1 := h52.c1
             have k2 := h52.c2
             have k3 := h52.c3
             have k4 := h52.c4
             have k5 := h52.c5)
          | (go_at_call 10
             refine (of_any _ b _ (w.heap.size + 1 + 1) (by have := hK2.j.lt; have := hK2.j.gt; omega) (sl_arr hK2.j.hb lb (Nat.lt_succ_self _)) HB).mono ?_
             rintro e w6 ⟨rfl, hbn⟩
             have hK3 := hK2.step hbn
             have h53 := h52.step hbn
             have k1 := h53.c1
             have k2 := h53.c2
             have k3 := h53.c3
             have k4 := h53.c4
             have k5 := h53.c5)
          | (go_at_call 10
             refine (of_any _ c _ (w.heap.size + 1 + 1 + 1) (by have := hK3.j.lt; have := hK3.j.gt; omega) (sl_arr hK3.j.hc lc (Nat.lt_succ_self _)) HC).mono ?_
             rintro e w7 ⟨rfl, hbn⟩
             have hK4 := hK3.step hbn
             have h54 := h53.step hbn
             have k1 := h54.c1
             have k2 := h54.c2
             have k3 := h54.c3
             have k4 := h54.c4
             have k5 := h54.c5))
      all_goals (try go_wp2)
      all_goals go_ret
      all_goals exact ⟨rfl, hK4.j.bel⟩

end Go.Proofs.Ytfcccgohkmpofaa
