/-
  The landed cells: the keys of a map keyed by api.Key, collected (maps.Keys, slices.AppendSeq, slices.Collect), in whatever order they come.
-/
import Derived.Test.YtmlocdfjjgbnjaaJM
import Derived.Test.YtmlocdfjjgbnjaaRf
import Derived.Test.YtmlocdfjjgbnjaaJA
import Derived.Sort.MapsRangeIn
import Derived.RangeFuncCalls
import Derived.Shelf.Abstract
import Derived.OwnWalkIn
import Derived.TacticsInMore
import Derived.LoopNIn
import Derived.LoopIn
namespace Go.Proofs.Ytmlocdfjjgbnjaa
open Go.RowKit Go.Shelf

section
variable {F : Fence} {N : Nat} {ops : Array Oper} {rest : List Oper} {o : Oper} {a : Act} {Q : Exit → Act → World → Prop} {w : World} {b r n : Nat} {m : Cl.Ky → Option Value} {T : List En}

theorem Rng.left_eq (h : Rng w b r n m T) : w.rangeLeft b r = T.length := by
  obtain ⟨L, c, since, seen, c0, hb, hr, _, _, _, _, _, _, _, _, rfl⟩ := h
  simp only [World.rangeLeft, hb, hr]
  have hleft : leftOf (ens L) seen = ens (L.filter (fun x => !seen.contains x.born)) := by
    unfold leftOf ens
    apply Array.ext'
    simp [List.filter_map]
    rfl
  rw [hleft]
  simp [ens]
theorem Rng.walks {w' : World} (h : Rng w b r n m T) (hk : KeepsWalks w w') : Rng w' b r n m T := by
  have h0 := h
  obtain ⟨L, c, since, seen, c0, hb, hr, _⟩ := h
  exact h0.keep ((hk.same b _ hb rfl).trans hb.symm) ((hk.same r _ hr rfl).trans hr.symm)
theorem Rng.iter (h : Rng w b r n m T) : ∃ o : Obj, w.heap[r]? = some o ∧ o.isWalk = true := by
  obtain ⟨L, c, since, seen, c0, _, hr, _⟩ := h
  exact ⟨_, hr, rfl⟩

theorem wpListIn_range_k (hg : o.guard = none) (mo : Operand) (t e : TypeId) (hop : o.op = Op.range t mo) (ht : Try.prog.underlying t = some (.map 50 e)) (hm : a.eval mo = .map (some b)) (h : Mk w b n m)
    (hK : ∀ w' T, Rng w' b w.heap.size n m T → T.length ≤ n → T.Pairwise (fun x y => x.k ≠ y.k) → (∀ k v, (∃ x ∈ T, x.k = k ∧ x.v = v) ↔ m k = some v) → Below w.heap.size w w' → wpListIn F N Try.prog ops Q rest (a.put o.dst (.pointer (some ⟨w.heap.size, 0, none⟩))) w') :
    wpListIn F N Try.prog ops Q (o :: rest) a w := by
  refine wpListIn_plain hg fun K' hK' => ?_
  obtain ⟨w', T, hrun, r1, r2, r3, r4, r5⟩ := h.range ht
  unfold Oper.wpIn
  refine ⟨by simp [Oper.about, hop], ?_⟩
  rw [Oper.semAt_plain F _ _ (by rw [hop]; intro c hc'; cases hc')]
  simp [execOp, hop, hm, hrun, Result.andThen]
  exact hK' _ _ (hK w' T r1 r2 r3 r4 r5)
theorem wpListIn_next_k (hg : o.guard = none) (it : Operand) (hop : o.op = Op.next it false) (hit : a.eval it = .pointer (some ⟨r, 0, none⟩)) (h : Rng w b r n m T) (hbr : b ≠ r)
    (hDone : T = [] → wpListIn F N Try.prog ops Q rest (a.put o.dst (.tuple #[.bool false])) w)
    (hMore : ∀ A x B w', T = A ++ x :: B → Rng w' b r n m (A ++ B) → w.grownBy w' (some r) → (Instr.entry (.pointer (some ⟨r, 0, none⟩))).run Try.prog w' = .ok (.tuple #[keyA x.k, x.v]) w' → wpListIn F N Try.prog ops Q rest (a.put o.dst (.tuple #[.bool true, keyA x.k, x.v])) w') :
    wpListIn F N Try.prog ops Q (o :: rest) a w := by
  refine wpListIn_plain hg fun K' hK' => ?_
  unfold Oper.wpIn
  refine ⟨by simp [Oper.about, hop], ?_⟩
  rw [Oper.semAt_plain F _ _ (by rw [hop]; intro c hc'; cases hc')]
  rcases h.next o.type hbr with ⟨h0, hrun⟩ | ⟨A, x, B, w', h0, hrun, h1, h2, h3⟩
  · simp [execOp, hop, hit, hrun, Result.andThen]
    exact hK' _ _ (hDone h0)
  · simp [execOp, hop, hit, hrun, Result.andThen]
    exact hK' _ _ (hMore A x B w' h0 h1 h2 h3)
end

/-- the keys that came, and those still to come -/
structure Got (m : Cl.Ky → Option Value) (ks : List Cl.Ky) (T : List En) : Prop where
  nod : (ks ++ T.map En.k).Nodup
  all : ∀ k, k ∈ ks ++ T.map En.k ↔ (m k).isSome = true

theorem Got.start {m : Cl.Ky → Option Value} {T : List En} (h1 : T.Pairwise (fun x y => x.k ≠ y.k)) (h2 : ∀ k v, (∃ x ∈ T, x.k = k ∧ x.v = v) ↔ m k = some v) : Got m [] T := by
  refine ⟨?_, fun k => ?_⟩
  · rw [List.nil_append, List.Nodup, List.pairwise_map]
    exact h1
  · rw [List.nil_append, List.mem_map]
    constructor
    · rintro ⟨x, hx, rfl⟩
      rw [(h2 x.k x.v).1 ⟨x, hx, rfl, rfl⟩]
      rfl
    · intro h
      obtain ⟨v, hv⟩ := Option.isSome_iff_exists.1 h
      obtain ⟨x, hx, hk, _⟩ := (h2 k v).2 hv
      exact ⟨x, hx, hk⟩
theorem Got.step {m : Cl.Ky → Option Value} {ks : List Cl.Ky} {A B : List En} {x : En} (h : Got m ks (A ++ x :: B)) : Got m (ks ++ [x.k]) (A ++ B) := by
  have hp : (ks ++ (A ++ x :: B).map En.k).Perm (ks ++ [x.k] ++ (A ++ B).map En.k) := by
    rw [List.append_assoc]
    refine List.Perm.append_left ks ?_
    simp only [List.map_append, List.map_cons, List.singleton_append]
    exact List.perm_middle
  exact ⟨hp.nodup_iff.1 h.nod, fun k => by rw [← hp.mem_iff]; exact h.all k⟩
/-- what is given: each key once -/
structure Ks (m : Cl.Ky → Option Value) (ks : List Cl.Ky) : Prop where
  nod : ks.Nodup
  all : ∀ k, k ∈ ks ↔ (m k).isSome = true
theorem Got.fin {m : Cl.Ky → Option Value} {ks : List Cl.Ky} (h : Got m ks []) : Ks m ks := ⟨by simpa using h.nod, fun k => by simpa using h.all k⟩

set_option maxRecDepth 100000 in
set_option maxHeartbeats 1000000 in
theorem keysF1 (N : Nat) (hN : 1 ≤ N) (l Bm b n : Nat) (m : Cl.Ky → Option Value) (J : List Cl.Ky → World → Prop)
    (hY : ∀ pre x W, J pre W → pre.length < n → YieldAt Fence.wide (N - 1) Try.prog l #[keyA x] W fun e W' => e = .returned (.bool true) ∧ J (pre ++ [x]) W' ∧ KeepsWalks W W')
    (W : World) (hJ : AbidesFrom W.heap.size J) (hm : W.cell? ⟨Bm, 0, none⟩ = some (.map (some b))) (hown : Mk W b n m) (h0 : J [] W) :
    CallsIn Fence.wide N Try.prog 56 #[.func (.yield l) #[] #[], .pointer (some ⟨Bm, 0, none⟩)] W fun e W' => (∃ v, e = .returned v) ∧ ∃ ks, Ks m ks ∧ J ks W' := by
  have HY := Lib.hid hY
  have HJ := Lib.hid hJ
  have H0 := Lib.hid h0
  have hbl : b < W.heap.size := by
    obtain ⟨_, _, hb, _⟩ := hown
    exact (Array.getElem?_eq_some_iff.1 hb).1
  clear hY hJ h0
  refine callsIn_of_wp Try.func56 rfl trivial ?_ rfl
  simp only [Try.ntmps56, List.size_toArray, List.length_cons, List.length_nil, Nat.reduceAdd, Nat.reduceSub, Array.replicate_succ, Array.replicate_zero, List.push_toArray, List.append_toArray, List.nil_append, List.cons_append]
  gi_wp2_with (first
    | (gi_at_range; refine wpListIn_range_k rfl _ 90 25 rfl Try.underlying90 rfl hown ?_; intro w0 T hrg0 hl0 hp0 ha0 hb0)
    | gi_in)
  have HG0 := Lib.hid (Got.start hp0 ha0)
  have HB0 := Lib.hid hb0
  clear hp0 ha0 hb0
  go_frame
  gi_loopw [3] (fun _ wr => ∃ (T : List En) (ks : List Cl.Ky), Rng wr b W.heap.size n m T ∧ ks.length + T.length ≤ n ∧ Hid (Got m ks T) ∧ Hid (J ks wr)) (fun _ wr => wr.rangeLeft b W.heap.size)
  case atStart => exact ⟨T, [], hrg0, by simpa using hl0, HG0, Lib.hid (HJ.out _ _ _ none H0.out (Y.grown_under HB0.out) (fun r e => by cases e))⟩
  case round =>
    obtain ⟨T, ks, hrg, hl, HG, HJS⟩ := hrel
    gi_wp2_with (first
      | (gi_at_next; refine wpListIn_next_k rfl _ rfl rfl hrg (Nat.ne_of_lt hbl) ?_ ?_)
      | gi_in)
    · intro hT
      have HGF := Lib.hid hT
      clear hT
      gi_wp2
      go_end0
      exact ⟨⟨_, rfl⟩, ks, (by have := HG.out; rw [HGF.out] at this; exact this.fin), HJS.out⟩
    · intro A x B w2 hT hrg2 hg2 hen
      have hl2 : ks.length + (A.length + B.length + 1) ≤ n := by rw [hT] at hl; simp at hl; omega
      have HG2 : Hid (Got m (ks ++ [x.k]) (A ++ B)) := Lib.hid (by have := HG.out; rw [hT] at this; exact this.step)
      have hJ2 : J ks w2 := HJ.out ks wr w2 (some W.heap.size) HJS.out hg2 (fun r e => by cases e; exact ⟨Nat.le_refl _, hrg.iter⟩)
      have HM : Hid ((A ++ B).length < T.length) := Lib.hid (by rw [hT]; simp)
      have HLE := Lib.hid hrg.left_eq
      have hJ4 : J ks (w2.alloc (.cells #[.int .i64 x.k.kind, .int .i64 x.k.a, .int .i64 x.k.b] 50)) := HJ.out _ _ _ none hJ2 (World.grownBy_alloc _ _ none) (fun r e => by cases e)
      have HK4 := Lib.hid (KeepsWalks.alloc w2 (.cells #[.int .i64 x.k.kind, .int .i64 x.k.a, .int .i64 x.k.b] 50))
      obtain ⟨fn, tmps, assign, body, hy, hR⟩ := HY.out ks x.k _ hJ4 (by omega)
      unfold keyA at hen hy ⊢
      clear hT hg2 hJ2 hJ4 hrg hl
      gi_wp2
      refine hR.mono ?_
      rintro e W3 ⟨rfl, hJ3, hk3⟩
      have HJ3 := Lib.hid hJ3
      have hrg3 := hrg2.walks (HK4.out.trans hk3)
      clear hJ3 hk3 hrg2 hy hR hen
      gi_wp2
      go_roundw
      case rel => exact ⟨A ++ B, ks ++ [x.k], hrg3, by simp; omega, HG2, HJ3⟩
      case measure => rw [hrg3.left_eq, HLE.out]; exact HM.out

theorem Mk.below {w w' : World} {b n : Nat} {m : Cl.Ky → Option Value} (h : Mk w b n m) (hb : Below w.heap.size w w') : Mk w' b n m := by
  obtain ⟨L, c, hbl, rest⟩ := h
  exact ⟨L, c, (hb.block b (Array.getElem?_eq_some_iff.1 hbl).1).trans hbl, rest⟩

/-- maps.Keys(m) gives m's keys, each once -/
theorem keysGive (N : Nat) (hN : 1 ≤ N) (Bm b n : Nat) (m : Cl.Ky → Option Value) (w : World) (hBm : Bm < w.heap.size) (hm : w.cell? ⟨Bm, 0, none⟩ = some (.map (some b))) (hown : Mk w b n m) :
    SeqGives Fence.wide N Try.prog 56 #[.pointer (some ⟨Bm, 0, none⟩)] keyA (Ks m) n w := fun l J W hW hJ hY h0 =>
  keysF1 N hN l Bm b n m J hY W hJ ((hW.cell (p := ⟨Bm, 0, none⟩) hBm).trans hm) (hown.below hW) h0

set_option maxHeartbeats 1000000 in
theorem keysF (N : Nat) (mb : Option Nat) (w : World) :
    CallsIn Fence.wide N Try.prog 48 #[.map mb] w fun e w' => e = .returned (.func (.func 56) #[] #[.pointer (some ⟨w.heap.size, 0, none⟩)]) ∧ w' = w.alloc (.cells #[.map mb] 90) := by
  refine callsIn_of_wp Try.func48 rfl trivial ?_ rfl
  simp only [Try.ntmps48, List.size_toArray, List.length_cons, List.length_nil, Nat.reduceAdd, Nat.reduceSub, Array.replicate_succ, Array.replicate_zero, List.push_toArray, List.append_toArray, List.nil_append, List.cons_append]
  gi_wp2
  go_ret
  exact ⟨rfl, rfl⟩

/-! ### slices.AppendSeq, slices.Collect -/
attribute [local go_sem] Oper.semAt_some

def keyV (k : Cl.Ky) : List Value := [.int .i64 k.kind, .int .i64 k.a, .int .i64 k.b]

theorem elKy : S.El Try.prog 60 50 3 24 := by
  obtain ⟨i0, hi, hz0, hz1, hz2⟩ := info_parts (show (Try.prog.info? 50).map (fun i => (i.zero, i.size, i.bytes)) = some (some (.agg #[.int .i64 0, .int .i64 0, .int .i64 0]), 3, 24) by kernel_rfl)
  exact ⟨Try.underlying60, ⟨i0, _, hi, hz0, hz1, hz2, rfl⟩, by decide⟩

theorem row_cellsK (w : World) (e : TypeId) (X : Array Value) : ∀ (j : Nat) (x : Value), X.toList[j]? = some x → (w.alloc (.cells X e)).cell? ((⟨w.heap.size, 0, none⟩ : Addr).add j) = some x := fun j x hj => by
  rw [Addr.add_mid]
  rw [cell_of_row _ _ _ X e (0, 0) (heap_alloc_new w _), Nat.zero_add]
  simpa using hj
theorem own_sliceK {w : World} {base k n : Nat} {e : TypeId} {v : Value} {xs : List Value} (h : w.ownsRow base e k v n xs) : ∃ A c, v = .slice A n c := by
  rcases h.2 with ⟨rfl, rfl⟩ | ⟨g, cap, _, rfl, _⟩
  · exact ⟨_, _, rfl⟩
  · exact ⟨_, _, rfl⟩
theorem grown_put {n D : Nat} {W : World} {o o' : Obj} (hD : W.heap[D]? = some o) (hn : n ≤ D) : Below n W (W.putObj D o') :=
  (Below.refl n W).grown (grownBy_putObj' W D o') (Nat.le_trans hn (Nat.le_of_lt (Array.getElem?_eq_some_iff.1 hD).1)) (fun k e => by cases e; exact hn)

set_option maxRecDepth 100000 in
set_option maxHeartbeats 2000000 in
theorem appendSeqK (N : Nat) (_ : 1 ≤ N) (g : Nat) (lb : Array Value) (eg : ∀ args w, (callFunc g args).run Try.prog w = .ok (.enter g args) w) (Sx : List Cl.Ky → Prop) (n : Nat) (hn : n ≤ 1000000) (w : World) (hseq : SeqGives Fence.wide (N - 1) Try.prog g lb keyA Sx n w) :
    CallsIn Fence.wide N Try.prog 60 #[.slice none 0 0, .func (.func g) #[] lb] w fun e w' => ∃ (v : Value) (ks : List Cl.Ky), e = .returned v ∧ Sx ks ∧ w'.ownsRow w.heap.size 50 3 v ks.length (ks.flatMap keyV) ∧ Below w.heap.size w w' := by
  refine callsIn_of_wp_marks Try.func60 rfl trivial ?_ rfl
  simp only [Try.ntmps60, List.size_toArray, List.length_cons, List.length_nil, Nat.reduceAdd, Nat.reduceSub, Array.replicate_succ, Array.replicate_zero, List.push_toArray, List.append_toArray, List.nil_append, List.cons_append]
  gi_wp2
  have hb0 : Below w.heap.size w (w.alloc (.cells #[.slice none 0 0] 60)) := (Below.refl _ _).alloc (Nat.le_refl _) _
  have hv0 : Boxed (w.alloc (.cells #[.slice none 0 0] 60)) w.heap.size 60 (.slice none 0 0) := Boxed.new _ _ _
  have hs0 : w.heap.size ≤ (w.alloc (.cells #[.slice none 0 0] 60)).heap.size := hb0.size
  generalize w.alloc (.cells #[.slice none 0 0] 60) = w1 at hb0 hv0 hs0 ⊢
  refine Y.loopG rfl eg rfl hseq hb0 (fun ks W => (∃ v, Boxed W w.heap.size 60 v ∧ W.ownsRow w.heap.size 50 3 v ks.length (ks.flatMap keyV) ∧ True) ∧ Below w.heap.size w W)
    (((holdsRow_own w.heap.size w.heap.size 60 50 3 (fun ks : List Cl.Ky => ks.length) (fun ks => ks.flatMap keyV) (fun _ _ => True)).from _).and (ownFrom_below (Nat.le_refl _) hs0))
    ⟨⟨_, hv0, S.own_nil _ _ _ _, trivial⟩, hb0⟩
    (fun k p => { tmps := #[.slice none 0 0, .func (.func g) #[] lb, .pointer (some ⟨w.heap.size, 0, none⟩), undef, .slice none 0 0, .pointer (some ⟨p, 0, none⟩), .func (.func g) #[] lb, keyA k, undef, undef, undef, undef, undef], defers := [] })
    (fun k => .cells #[.int .i64 k.kind, .int .i64 k.a, .int .i64 k.b] 50) ?_ ?_ ?_
  · intro l x W K hK
    unfold keyA at *
    simp only [Array.zip]
    gi_wp2
    exact hK
  · rintro l pre x p W ⟨⟨v, hv, hrow, _⟩, hb⟩ hlen hp hpx
    have c0 : W.cell? ⟨p, 0, none⟩ = some (.int .i64 x.kind) := by simp [World.cell?, hpx]
    have c1 : W.cell? ⟨p, 1, none⟩ = some (.int .i64 x.a) := by simp [World.cell?, hpx]
    have c2 : W.cell? ⟨p, 2, none⟩ = some (.int .i64 x.b) := by simp [World.cell?, hpx]
    have hcB := hv.cell
    have hfB := hv.frozen
    have HV := Lib.hid hv
    have HB := Lib.hid hb
    obtain ⟨i0, hi, hz0, hz1, hz2⟩ := info_parts (show (Try.prog.info? 50).map (fun i => (i.zero, i.size, i.bytes)) = some (some (.agg #[.int .i64 0, .int .i64 0, .int .i64 0]), 3, 24) by kernel_rfl)
    have HT : Hid (∀ (w3 : World) (v' : Value), w3.ownsRow w.heap.size 50 3 v' (pre.length + 1) (pre.flatMap keyV ++ keyV x) → (W.alloc (.cells #[.int .i64 x.kind, .int .i64 x.a, .int .i64 x.b] 50)).grownBy w3 v.ownBlock →
        w3.cell? ⟨w.heap.size, 0, none⟩ = some v ∧ w3.frozen? ⟨w.heap.size, 0, none⟩ = false ∧
        Hid (KeepsOthers W (w3.setCell ⟨w.heap.size, 0, none⟩ v') ∧ (∃ v, Boxed (w3.setCell ⟨w.heap.size, 0, none⟩ v') w.heap.size 60 v ∧ (w3.setCell ⟨w.heap.size, 0, none⟩ v').ownsRow w.heap.size 50 3 v (pre ++ [x]).length ((pre ++ [x]).flatMap keyV) ∧ True) ∧ Below w.heap.size w (w3.setCell ⟨w.heap.size, 0, none⟩ v'))) := Lib.hid (fun w3 v' h1 h2 => by
      obtain ⟨a1, a2, a3, a4, a5⟩ := HV.out.appended (by decide) hrow HB.out.size (Nat.le_refl _) h1 h2
      refine ⟨a1.cell, a1.frozen, Lib.hid ⟨a4, ⟨v', a2, ?_, trivial⟩, HB.out.trans a5⟩⟩
      rw [List.flatMap_append, List.length_append]
      simpa using a3)
    clear hb hv
    unfold keyA
    gi_wp2_with (gi_at_builtin; refine wpListIn_append_own _ rfl _ _ 60 rfl w.heap.size 50 i0 (.agg #[.int .i64 0, .int .i64 0, .int .i64 0]) 3 24 Try.underlying60 hi hz0 hz1 hz2 rfl (by decide) _ pre.length (pre.flatMap keyV) rfl (hrow.alloc _) ⟨W.heap.size, 0, none⟩ 1 1 (keyV x) rfl rfl (row_cellsK _ _ #[.int .i64 x.kind, .int .i64 x.a, .int .i64 x.b]) (by simp [keyV, Value.oneCell']) (by unfold maxLen; omega) (by omega) (by have := HB.out.size; simp; omega) ?_; intro v' w3 hown' hgrow _; obtain ⟨hcc1, hff1, HN⟩ := HT.out w3 v' hown' hgrow; obtain ⟨g', cap', rfl⟩ := ownsRow_succ hown'; clear hown' hgrow hcB hfB c0 c1 c2)
    simpa using HN.out
  · rintro D ks W hD hS ⟨⟨v, hv, hrow, _⟩, hb⟩ hK
    have hcB := hv.cell
    have HV := Lib.hid hv
    have HB := Lib.hid hb
    have HR := Lib.hid hrow
    have HK := Lib.hid hK
    have HS := Lib.hid hS
    obtain ⟨A, c, rfl⟩ := own_sliceK hrow
    clear hv hb hrow hK hS
    dsimp only
    gi_wp2
    refine ⟨by simp, .inl ⟨_, _, rfl, run_takeDeferred HK.out, ?_⟩⟩
    exact ⟨_, results_tmp rfl _ _ _, _, ks, rfl, HS.out, ownsRow_putObj HR.out _ HK.out rfl, HB.out.trans (grown_put HK.out (Nat.le_trans hs0 hD))⟩

set_option maxHeartbeats 1000000 in
theorem collectK (N : Nat) (hN : 2 ≤ N) (g : Nat) (lb : Array Value) (eg : ∀ args w, (callFunc g args).run Try.prog w = .ok (.enter g args) w) (Sx : List Cl.Ky → Prop) (n : Nat) (hn : n ≤ 1000000) (w : World) (hseq : SeqGives Fence.wide (N - 1 - 1) Try.prog g lb keyA Sx n w) :
    CallsIn Fence.wide N Try.prog 54 #[.func (.func g) #[] lb] w fun e w' => ∃ (v : Value) (ks : List Cl.Ky), e = .returned v ∧ Sx ks ∧ w'.ownsRow w.heap.size 50 3 v ks.length (ks.flatMap keyV) ∧ Below w.heap.size w w' := by
  have h1 : 1 ≤ N := by omega
  refine callsIn_of_wp Try.func54 rfl trivial ?_ rfl
  simp only [Try.ntmps54, List.size_toArray, List.length_cons, List.length_nil, Nat.reduceAdd, Nat.reduceSub, Array.replicate_succ, Array.replicate_zero, List.push_toArray, List.append_toArray, List.nil_append, List.cons_append]
  have hC := Lib.hid (appendSeqK (N - 1) (by omega) g lb eg Sx n hn w hseq)
  have hT : Fence.wide.fn 60 := trivial
  clear hseq
  gi_wp2_with (gi_at_call 60; refine hC.out.mono ?_; rintro e w' ⟨v, ks, rfl, hS, hrow, hb⟩; obtain ⟨A, c, rfl⟩ := own_sliceK hrow; have HS := Lib.hid hS; have HR := Lib.hid hrow; have HB := Lib.hid hb; clear hS hrow hb)
  go_ret
  exact ⟨_, ks, rfl, HS.out, HR.out, HB.out⟩
end Go.Proofs.Ytmlocdfjjgbnjaa
