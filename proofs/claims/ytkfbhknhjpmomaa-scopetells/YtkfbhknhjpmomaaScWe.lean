/- Walk of the document's own Resolve, SameBinds and Of. -/
import Derived.Test.YtkfbhknhjpmomaaScWd
import Derived.Test.YtkfbhknhjpmomaaScCA
import Derived.Test.YtkfbhknhjpmomaaScTu
import Derived.BigRegion
import Derived.Maps.AppendAt
namespace Go.Proofs.Ytkfbhknhjpmomaa
open Go.RowKit Go.Shelf Go.Maps Go.WideMaps
section
variable {base r ob : Nat} {la : Option Addr} {lc : Nat} {L : List Tk}
theorem wk_all (hlo : ∀ b off, la = some ⟨b, off, none⟩ → L ≠ [] → b < base) (hbr : base ≤ r) (hbo : base ≤ ob) (hts : ∀ t ∈ L, t.text.size ≤ 3000) (hfew : L.length ≤ 6000) : ∀ N, WkC base r ob la lc L N
  | 0 => fun n x w v nm st M hz => by have := zN_pos n; omega
  | N + 1 => wk_step hlo hbr hbo hts hfew N (wk_all hlo hbr hbo hts hfew N)
end
theorem lookO_hit {b : List (Nat × Nat)} (hr : Rise b) {k : Nat} {p : Nat × Nat} (hp : b[k]? = some p) : lookO b (p.1 : Int) = some p.2 := by
  unfold lookO
  cases hf : b.reverse.find? (fun q => (q.1 : Int) == (p.1 : Int)) with
  | none =>
    have := List.find?_eq_none.1 hf p (List.mem_reverse.2 (List.mem_of_getElem? hp))
    simp at this
  | some q =>
    have h1 := List.find?_some hf
    have h2 := List.mem_reverse.1 (List.mem_of_find?_eq_some hf)
    obtain ⟨j, hj⟩ := List.getElem?_of_mem h2
    have h3 : q.1 = p.1 := by have : (q.1 : Int) = (p.1 : Int) := by simpa using h1
                              omega
    have hjk : j = k := by
      apply Classical.byContradiction
      intro hn
      rcases Nat.lt_or_gt_of_ne hn with h | h
      · have := hr j k q p h hj hp; omega
      · have := hr k j p q h hp hj; omega
    subst hjk
    rw [hj] at hp
    cases hp
    rfl
theorem lookO_miss {b : List (Nat × Nat)} {x : Int} (h : ∀ (k : Nat) p, b[k]? = some p → (p.1 : Int) ≠ x) : lookO b x = none := by
  unfold lookO
  rw [List.find?_eq_none.2 (fun p hp => ?_)]
  · rfl
  · obtain ⟨k, hk⟩ := List.getElem?_of_mem (List.mem_reverse.1 hp)
    simpa using h k p hk
set_option maxRecDepth 10000 in
theorem ob_look {w : World} {ob m : Nat} {D : DataW Unit} {b : List (Nat × Nat)} (hO : w.ownsMap Try.prog 3 (plainElem Try.prog 3) ob m D) (hD : OutIs D b) (t : Nat) (ht : t ≤ 1000000) :
    (Instr.lookup 68 (.map (some ob)) (.int .i64 (t : Int)) true).run Try.prog w = .ok (.tuple #[.int .i64 (((lookO b (t : Int)).getD 0 : Nat) : Int), .bool (lookO b (t : Int)).isSome]) w := by
  obtain ⟨es, clock, hb, F, _, rfl⟩ := hO
  have hat2 := hD.2 (t : Int)
  rcases Go.Maps.fit_look true (Go.Maps.int_keyed Try.underlying3) Try.underlying68 (scZero w) hb F (Go.Maps.keyOf_int_mk Try.underlying3 (wf_smallS (t := (t : Int)) (by omega) (by omega))) with ⟨hrun, _, hat⟩ | ⟨e0, y, _, _, hrun, hRv, hat, _⟩
  · rcases hl : lookO b (t : Int) with _ | d
    · rw [hrun]; rfl
    · rw [hl] at hat2
      have e1 := hat (.lit (.bool true))
      rw [hat2] at e1
      cases e1
  · rcases hl : lookO b (t : Int) with _ | d
    · rw [hl] at hat2
      have e1 := hat (.lit (.bool true))
      have e2 := hat (.lit (.bool false))
      rw [hat2] at e1 e2
      dsimp only at e1 e2
      rw [← e1] at e2
      cases e2
    · rw [hl] at hat2
      have e1 := hat (.lit (.bool true))
      rw [hat2] at e1
      obtain ⟨a, hv, hz, _⟩ := plainElem_int_inv (H := Unit) Try.underlying3 hRv
      rw [hz] at e1
      dsimp only at e1
      cases e1
      rw [hrun, hv]
      rfl
/-- What Resolve answers. -/
def RsPost (L : List Tk) (n : Nd) (w : World) (e : Ending) (w' : World) : Prop := Below w.heap.size w w' ∧ match resR L n with
  | .ok b => ∃ a c, e = .returned (.tuple #[.slice a b.length c, .agg #[.int .i64 0, .int .i64 (-1), .int .i64 0]]) ∧ BdAt w' a b
  | .error y => e = .returned (.tuple #[.slice none 0 0, .agg #[.int .i64 y.1, .int .i64 (placeT L y.2).1, .int .i64 (placeT L y.2).2]])
/-- Results of a list and a fault in a cell. -/
theorem sfret {f : Func} {k j : Nat} (hr : f.results = #[.tmp j, .cell k 29]) {w : World} {g : Nat} {e1 f1 a1 v : Value} (hQ : w.heap[g]? = some (.cells #[e1, f1, a1] 29)) (tmps : Array Value) (hp : tmps.getD k undef = .pointer (some ⟨g, 0, none⟩)) (hv : tmps.getD j undef = v) :
    (results f tmps).run Try.prog w = .ok (.tuple #[v, .agg #[e1, f1, a1]]) w := by
  obtain ⟨⟨d0, d1, d2⟩, _⟩ := scFlt hQ
  simp at hp hv
  simp [results, hr, go_sem, hp, hv, d0, d1, d2]
/-- Ahead of the tree's walk. -/
def rsW (w : World) (la : Option Addr) (n lc : Nat) (x : Nv) : World := (((w.alloc (boxN x)).alloc (.cells #[.int .i64 0, .int .i64 0, .int .i64 0] 29)).alloc (.map #[] 0)).alloc (.cells #[.slice la n lc, .map (some (w.heap.size + 1 + 1)), .int .i64 0, .int .i64 (-1), .int .i64 0] 70)
theorem rsW_facts (w : World) (la : Option Addr) (n lc : Nat) (x : Nv) : Below w.heap.size w (rsW w la n lc x) ∧ (rsW w la n lc x).heap.size = w.heap.size + 4 ∧ (rsW w la n lc x).heap[w.heap.size]? = some (boxN x) ∧ (rsW w la n lc x).heap[w.heap.size + 1]? = some (.cells #[.int .i64 0, .int .i64 0, .int .i64 0] 29) ∧ (rsW w la n lc x).ownsMap Try.prog 3 (plainElem Try.prog 3) (w.heap.size + 2) 0 (.map [] : DataW Unit) ∧ (rsW w la n lc x).heap[w.heap.size + 3]? = some (.cells #[.slice la n lc, .map (some (w.heap.size + 2)), .int .i64 0, .int .i64 (-1), .int .i64 0] 70) := by
  unfold rsW
  have h1 := below_new w (boxN x)
  have k1 := heap_alloc_new w (boxN x)
  have s1 : (w.alloc (boxN x)).heap.size = w.heap.size + 1 := by simp
  generalize w.alloc (boxN x) = w1 at *
  have h2 := below_new w1 (.cells #[.int .i64 0, .int .i64 0, .int .i64 0] 29)
  have k2 := heap_alloc_new w1 (.cells #[.int .i64 0, .int .i64 0, .int .i64 0] 29)
  have s2 : (w1.alloc (.cells #[.int .i64 0, .int .i64 0, .int .i64 0] 29)).heap.size = w.heap.size + 2 := by simp [s1]
  rw [s1] at k2
  generalize w1.alloc (.cells #[.int .i64 0, .int .i64 0, .int .i64 0] 29) = w2 at *
  have h3 := below_new w2 (.map #[] 0)
  have k3 := World.ownsMap_made (H := Unit) w2 Try.prog 3 (plainElem Try.prog 3)
  have s3 : (w2.alloc (.map #[] 0)).heap.size = w.heap.size + 3 := by simp [s2]
  rw [s2] at k3
  generalize w2.alloc (.map #[] 0) = w3 at *
  have h4 := below_new w3 (.cells #[.slice la n lc, .map (some (w.heap.size + 1 + 1)), .int .i64 0, .int .i64 (-1), .int .i64 0] 70)
  have k4 := heap_alloc_new w3 (.cells #[.slice la n lc, .map (some (w.heap.size + 1 + 1)), .int .i64 0, .int .i64 (-1), .int .i64 0] 70)
  have s4 : (w3.alloc (.cells #[.slice la n lc, .map (some (w.heap.size + 1 + 1)), .int .i64 0, .int .i64 (-1), .int .i64 0] 70)).heap.size = w.heap.size + 4 := by simp [s3]
  rw [s3] at k4
  exact ⟨((h1.trans (h2.mono (by omega))).trans (h3.mono (by omega))).trans (h4.mono (by omega)), s4, (h4.block _ (by omega)).trans ((h3.block _ (by omega)).trans ((h2.block _ (by omega)).trans k1)), (h4.block _ (by omega)).trans ((h3.block _ (by omega)).trans k2), omap_same k3 (h4.block _ (by omega)), k4⟩
set_option maxRecDepth 100000 in
set_option maxHeartbeats 4000000 in
theorem RResolve_any {la : Option Addr} {lc : Nat} {L : List Tk} {n : Nd} {x : Nv} (hts : ∀ t ∈ L, t.text.size ≤ 3000) (hfew : L.length ≤ 6000) (hcv : Cv L 0 L.length (mtN L n)) (hz : zN n ≤ 90000) (w : World) (hT : TAt w la L) (hx : NdIs w (· < w.heap.size) x n) :
    Calls Try.prog 9 #[.slice la L.length lc, aggN x] w (RsPost L n w) := by
  have hmm := @run_makeMap Try.prog
  obtain ⟨xk, xt, xa, xn, xc⟩ := x
  obtain ⟨f1, f2, f3, f4, f5, f6⟩ := rsW_facts w la L.length lc ⟨xk, xt, xa, xn, xc⟩
  have hlo : ∀ b off, la = some ⟨b, off, none⟩ → L ≠ [] → b < w.heap.size := fun b off e hL => by
    rcases hT with h0 | ⟨b', off', e', hlt, _⟩
    · exact absurd h0 hL
    · rw [e] at e'; cases e'; exact hlt
  have hb2 := below_new (rsW w la L.length lc ⟨xk, xt, xa, xn, xc⟩) (.map #[] 0)
  have hm2 := World.ownsMap_made (H := Unit) (rsW w la L.length lc ⟨xk, xt, xa, xn, xc⟩) Try.prog 9 (plainElem Try.prog 3)
  have hz2 : ((rsW w la L.length lc ⟨xk, xt, xa, xn, xc⟩).alloc (.map #[] 0)).heap.size = w.heap.size + 5 := by simp [f2]
  have hb3 := below_new ((rsW w la L.length lc ⟨xk, xt, xa, xn, xc⟩).alloc (.map #[] 0)) (.map #[] 0)
  have hm3 := World.ownsMap_made (H := Unit) ((rsW w la L.length lc ⟨xk, xt, xa, xn, xc⟩).alloc (.map #[] 0)) Try.prog 9 (plainElem Try.prog 3)
  rw [f2] at hm2
  rw [hz2] at hm3
  have hb13 := hb2.trans (hb3.mono hb2.size)
  have hS0 : SrAt (rsW w la L.length lc ⟨xk, xt, xa, xn, xc⟩) (w.heap.size + 3) (w.heap.size + 2) la lc L (.ok []) 0 := ⟨f6, ⟨_, 0, Nat.le_refl _, f5, fun b hb => by cases hb; exact OutIs.nil⟩, (fun y hy => by cases hy), hT.below f1, fun b off e hL => by have := hlo b off e hL; omega⟩
  have HW := hid (wk_all (base := w.heap.size) (r := w.heap.size + 3) (ob := w.heap.size + 2) (la := la) (lc := lc) hlo (by omega) (by omega) hts hfew (zN n) n ⟨xk, xt, xa, xn, xc⟩ _ (.agg #[.map (some (w.heap.size + 4)), .map (some (w.heap.size + 5))]) ([], []) (.ok []) 0 (Nat.le_refl _) (fun t ht => (hcv.2.1 t ht).2.1) (hx.kept fun b _ hlt => (f1.trans (hb13.mono (by omega))).block b hlt) ⟨_, _, rfl, ⟨.map [], map_same hm2 (hb3.block _ (by omega)), ScTold.none⟩, ⟨.map [], hm3, ScTold.none⟩, by omega, by omega⟩ ⟨fun p hp => by (cases hp), fun p hp => by (cases hp)⟩ (hS0.below hb13) (by omega) (by simp; omega) (by simp; omega))
  have hRe : (rfN L n ([], []) (.ok [])).2 = resR L n := resF_eq hcv
  have HB1 := hid f1
  have HBx := hid (And.intro f3 f4)
  have H13 := hid hb13
  have HMd : Hid (∀ b, resR L n = .ok b → Rise b ∧ (∀ (k : Nat) p, b[k]? = some p → p.1 < L.length) ∧ b.length ≤ 90000) := fun b hb => by
    obtain ⟨hm, _⟩ := resR_md hcv hb
    refine ⟨rise_of (by rw [hm]; exact hcv.2.2.1), fun k p hk => ?_, Nat.le_trans (res_few hb) hz⟩
    have : p.1 ∈ mtN L n := by rw [← hm]; exact List.mem_map_of_mem (List.mem_of_getElem? hk)
    exact (hcv.2.1 _ this).2.1
  unfold WkPost aggN at HW
  rw [hRe] at HW
  unfold RsPost
  generalize resR L n = R at *
  have hw1 : w.heap.size < (rsW w la L.length lc ⟨xk, xt, xa, xn, xc⟩).heap.size := by omega
  obtain ⟨⟨x0, x1, x2⟩, _⟩ := boxN_facts f3
  dsimp only at x0 x1 x2
  unfold aggN
  clear f1 f3 f4 f5 f6 hb2 hm2 hb3 hm3 hb13 hS0 hx hT hRe hcv hz
  go_enter Try.func9, Try.ntmps9
  go_upto_region 2 with fail
  change Code.wp _ _ _ _ (rsW w la L.length lc ⟨xk, xt, xa, xn, xc⟩)
  generalize rsW w la L.length lc ⟨xk, xt, xa, xn, xc⟩ = w1 at *
  go_wp2_with fail
  refine HW.out.mono ?_
  rintro e w5 ⟨v', rfl, _, _, hS5, hk5⟩
  have hz15 := H13.out.size
  have hz5 := hk5.size
  have hbw := HB1.out.trans ((H13.out.mono (Nat.le_of_lt hw1)).trans (hk5.below (B := w.heap.size) (by omega) (fun k hk h => by rcases h with h | h <;> omega)))
  have hq5 := (hk5.block (w.heap.size + 1) (by omega) (by omega)).trans ((H13.out.block (w.heap.size + 1) (by omega)).trans HBx.out.2)
  obtain ⟨⟨q0, q1, q2⟩, q3, q4, q5⟩ := scFlt hq5
  obtain ⟨⟨c0, c1, c2, c3, c4⟩, _⟩ := hS5.facts
  have hrl := hS5.lt
  have hol := hS5.olt
  have hql := lt_of_block hq5
  have HBw := hid hbw
  have HQ5 := hid hq5
  have HS5 := hid hS5
  clear hS5 hk5 hbw hq5 HW x0 x1 x2 H13 HB1 HBx
  cases R with
  | error y =>
    have hy := HS5.out.err y rfl
    have hy1 : (y.1 == 0) = false := beq_eq_false_iff_ne.2 hy
    have hy2 : (y.1 != 0) = true := by simp [bne, hy1]
    change w5.cell? _ = some (.int .i64 y.1) at c2
    change w5.cell? _ = some (.int .i64 (placeT L y.2).1) at c3
    change w5.cell? _ = some (.int .i64 (placeT L y.2).2) at c4
    obtain ⟨p1, hp1⟩ : ∃ p1, p1 = (placeT L y.2).1 := ⟨_, rfl⟩
    obtain ⟨p2, hp2⟩ : ∃ p2, p2 = (placeT L y.2).2 := ⟨_, rfl⟩
    rw [← hp1] at c3
    rw [← hp2] at c4
    have HP := hid (And.intro hp1 hp2)
    clear hp1 hp2
    go_wp2_with fail
    go_region
    all_goals go_wp2_with fail
    all_goals exact bodyPost_ret (sfret (v := .slice none 0 0) (w := (scPutF w5 (w.heap.size + 1) y.1 p1 p2).drew) Try.results9 (scPutF_block y.1 p1 p2 HQ5.out) _ rfl rfl) rfl ⟨(scPutF_below HBw.out (by omega) _ _ _).drew, by rw [← HP.out.1, ← HP.out.2]⟩
  | ok b =>
    change w5.cell? _ = some (.int .i64 0) at c2
    change w5.cell? _ = some (.int .i64 (-1)) at c3
    change w5.cell? _ = some (.int .i64 0) at c4
    obtain ⟨hri, hlt, hbl⟩ := HMd.out b rfl
    obtain ⟨D, m, _, hown, hD⟩ := HS5.out.out
    have hD := hD b rfl
    obtain ⟨i0, hi0, hz0, hzz1, hzz2⟩ := info_parts info_bind
    have HLk := hid (fun W (hW : Below w5.heap.size w5 W) (t : Nat) (ht : t ≤ 1000000) => ob_look (omap_same hown (hW.block _ hown.lt)) hD t ht)
    have HRi := hid hri
    have HLt := hid hlt
    have hN5 : World.ownsRow w5 w5.heap.size 40 2 (.slice none 0 0) 0 (cellsBd (b.take 0)) := by
      rw [List.take_zero]
      exact World.ownsRow_nil _ _ _ _
    have HN5 := hid hN5
    clear hri hlt hown hD hN5
    go_wp2_with fail
    go_loopw [7, 34] (fun u v wr => ∃ (j k : Nat) (va : Option Addr) (vc : Nat), u = .slice va k vc ∧ v = .int .i64 (j : Int) ∧ j ≤ L.length ∧ k ≤ b.length ∧ Hid (wr.ownsRow w5.heap.size 40 2 (.slice va k vc) k (cellsBd (b.take k))) ∧ Hid ((∀ (q : Nat) p, q < k → b[q]? = some p → p.1 < j) ∧ ∀ (q : Nat) p, k ≤ q → b[q]? = some p → j ≤ p.1) ∧ Hid (Below w5.heap.size w5 wr)) (fun _ v _ => L.length - (intOf v).toNat)
    case atStart => exact ⟨0, 0, none, 0, rfl, rfl, Nat.zero_le _, Nat.zero_le _, HN5.out, ⟨fun q p h => by omega, fun q p _ _ => Nat.zero_le _⟩, Below.refl _ _⟩
    case round =>
      obtain ⟨j, k, va, vc, rfl, rfl, hj, hk, HRow, HI, HB⟩ := hrel
      have hzr := HB.out.size
      have d1 := (HB.out.cell (p := ⟨w.heap.size + 3, 1, none⟩) hrl).trans c1
      by_cases hjl : j < L.length
      · have hji : (j : Int) < (L.length : Int) := by omega
        have hj0 : (0 : Int) ≤ (j : Int) := by omega
        have hw2 : IntKind.i64.wrap ((j : Int) + 1) = (j : Int) + 1 := by rw [IntKind.wrap_i64]; omega
        have hlk := HLk.out wr HB.out j (by omega)
        by_cases hit : ∃ p, b[k]? = some p ∧ p.1 = j
        · obtain ⟨⟨pj, d⟩, hp, rfl⟩ := hit
          have hlo2 := lookO_hit HRi.out hp
          dsimp only at hlo2 hji hj0 hw2 hlk hjl
          rw [hlo2] at hlk
          simp only [Option.getD_some, Option.isSome_some] at hlk
          have hb := below_new wr (.cells (cellsBd [(pj, d)]).toArray 40)
          have HB2 := hid hb
          have HRow2 := hid (row_same HRow.out (w' := wr.alloc (.cells (cellsBd [(pj, d)]).toArray 40)) fun b _ hlt => hb.block b hlt)
          have HSrc : Hid (∀ j u, (cellsBd [(pj, d)])[j]? = some u → (wr.alloc (.cells (cellsBd [(pj, d)]).toArray 40)).cell? ((⟨wr.heap.size, 0, none⟩ : Addr).add j) = some u) := fun j u hu => by
            rw [Addr.add_lit, Nat.zero_add, World.cell?_alloc_mark]
            simpa using hu
          have hbz : w5.heap.size ≤ (wr.alloc (.cells (cellsBd [(pj, d)]).toArray 40)).heap.size := by have := hb.size; omega
          have HP := hid hp
          have hkl : k < b.length := (List.getElem?_eq_some_iff.1 hp).1
          have hkb : k ≤ 90000 := by omega
          clear hb hp hlo2
          go_wp2_with (first
            | (at_builtin; refine wpList_append_own_at _ rfl _ _ 32 rfl w5.heap.size 40 i0 _ 2 16 Try.underlying32 hi0 hz0 hzz1 hzz2 rfl (by decide) _ _ _ rfl HRow2.out ⟨wr.heap.size, 0, none⟩ 1 1 (cellsBd [(pj, d)]) rfl (cellsBd_length _) HSrc.out (by intro u hu; simp [cellsBd, encBd] at hu; rcases hu with rfl | rfl <;> rfl) (by unfold maxLen; omega) (by omega) hbz ?_; intro v' w7 hown7 hg7 _ hob7)
            | go_in)
          obtain ⟨a1, c1', rfl⟩ := sl_of hown7
          have hbl7 : Below w5.heap.size w5 w7 := ⟨hg7.os.trans (HB2.out.os.trans HB.out.os), hg7.tape.trans (HB2.out.tape.trans HB.out.tape), hg7.output.trans (HB2.out.output.trans HB.out.output), Nat.le_trans HB.out.size (Nat.le_trans HB2.out.size hg7.size), fun q hq => (hg7.block q (by simp; omega) (fun e => by have := (HRow2.out.lt q e.symm).1; omega)).trans ((HB2.out.block q (by have := HB.out.size; omega)).trans (HB.out.block q hq))⟩
          have HB7 := hid hbl7
          have HRow7 : Hid (w7.ownsRow w5.heap.size 40 2 (.slice a1 (k + 1) c1') (k + 1) (cellsBd (b.take (k + 1)))) := by
            have e : b.take (k + 1) = b.take k ++ [(pj, d)] := by
              rw [List.take_add_one, HP.out]
              rfl
            show World.ownsRow _ _ _ _ _ _ _
            rw [e, cellsBd_append]
            exact hown7
          have HI7 : Hid ((∀ (q : Nat) p, q < k + 1 → b[q]? = some p → p.1 < pj + 1) ∧ ∀ (q : Nat) p, k + 1 ≤ q → b[q]? = some p → pj + 1 ≤ p.1) := ⟨fun q p h1 hq => by
            by_cases h2 : q = k
            · subst h2; have := HP.out; rw [this] at hq; cases hq; exact Nat.lt_succ_self _
            · have := HI.out.1 q p (by omega) hq; omega, fun q p h1 hq => by
            have := HRi.out k q (pj, d) p (by omega) HP.out hq
            exact this⟩
          clear hown7 hg7 hob7 hbl7
          go_wp2_with fail
          go_roundw
          case rel => exact ⟨pj + 1, k + 1, a1, c1', rfl, by go_num, by omega, by omega, HRow7, HI7, HB7⟩
          case measure => simp [intOf]; omega
        · have hlo2 : lookO b (j : Int) = none := lookO_miss fun q p hq e => by
            by_cases h1 : q < k
            · have := HI.out.1 q p h1 hq; omega
            · by_cases h2 : q = k
              · subst h2; exact hit ⟨p, hq, by omega⟩
              · obtain ⟨z, hz⟩ : ∃ z, b[k]? = some z := ⟨_, List.getElem?_eq_getElem (by have := (List.getElem?_eq_some_iff.1 hq).1; omega)⟩
                have h3 := HI.out.2 k z (Nat.le_refl _) hz
                have h4 := HRi.out k q z p (by omega) hz hq
                omega
          rw [hlo2] at hlk
          simp only [Option.getD_none, Option.isSome_none] at hlk
          have HI2 : Hid ((∀ (q : Nat) p, q < k → b[q]? = some p → p.1 < j + 1) ∧ ∀ (q : Nat) p, k ≤ q → b[q]? = some p → j + 1 ≤ p.1) := ⟨fun q p h1 hq => by have := HI.out.1 q p h1 hq; omega, fun q p h1 hq => by
            have h2 := HI.out.2 q p h1 hq
            by_cases h3 : p.1 = j
            · exfalso
              by_cases h4 : q = k
              · subst h4; exact hit ⟨p, hq, h3⟩
              · obtain ⟨z, hz⟩ : ∃ z, b[k]? = some z := ⟨_, List.getElem?_eq_getElem (by have := (List.getElem?_eq_some_iff.1 hq).1; omega)⟩
                have h5 := HI.out.2 k z (Nat.le_refl _) hz
                have h6 := HRi.out k q z p (by omega) hz hq
                omega
            · omega⟩
          clear hit hlo2
          go_wp2_with fail
          go_roundw
          case rel => exact ⟨j + 1, k, va, vc, rfl, by go_num, by omega, hk, HRow, HI2, HB⟩
          case measure => simp [intOf]; omega
      · have hjk : j = L.length := by omega
        subst hjk
        have hji : ¬ ((L.length : Int) < (L.length : Int)) := by omega
        have hkb : k = b.length := by
          apply Classical.byContradiction
          intro hn
          obtain ⟨z, hz⟩ : ∃ z, b[k]? = some z := ⟨_, List.getElem?_eq_getElem (by omega)⟩
          have h1 := HI.out.2 k z (Nat.le_refl _) hz
          have h2 := HLt.out k z hz
          omega
        subst hkb
        have hqr := (HB.out.block (w.heap.size + 1) hql).trans HQ5.out
        obtain ⟨⟨s0, s1, s2⟩, s3, s4, s5⟩ := scFlt hqr
        have t2 := (HB.out.cell (p := ⟨w.heap.size + 3, 2, none⟩) hrl).trans c2
        have t3 := (HB.out.cell (p := ⟨w.heap.size + 3, 3, none⟩) hrl).trans c3
        have t4 := (HB.out.cell (p := ⟨w.heap.size + 3, 4, none⟩) hrl).trans c4
        have HQr := hid hqr
        have hqlr := lt_of_block hqr
        have HBd : Hid (BdAt (scPutF wr (w.heap.size + 1) 0 (-1) 0).drew va b) := by
          have h := HRow.out
          rw [List.take_length] at h
          refine BdAt.of (base := w5.heap.size) (n := b.length) (c := vc) (row_same h fun q hq hlt => scPutF_other wr _ _ _ _ q fun e => ?_)
          have := (h.lt q hq).1
          omega
        have HBe := hid (scPutF_below (HBw.out.trans (HB.out.mono HBw.out.size)) (Nat.le_succ w.heap.size) 0 (-1) 0).drew
        clear hqr q0 q1 q2 q3 q4 q5 c0 c1 c2 c3 c4 d1
        go_wp2_with fail
        go_region
        all_goals go_wp2_with fail
        all_goals exact bodyPost_ret (sfret (v := .slice va b.length vc) (w := (scPutF wr (w.heap.size + 1) 0 (-1) 0).drew) Try.results9 (scPutF_block 0 (-1) 0 HQr.out) _ rfl rfl) rfl ⟨HBe.out, va, ⟨vc, rfl⟩, HBd.out⟩
set_option maxRecDepth 100000 in
set_option maxHeartbeats 2000000 in
theorem same_any (a1 a2 : Option Addr) (c1 c2 : Nat) (b : List (Nat × Nat)) (w : World) (h1 : BdAt w a1 b) (h2 : BdAt w a2 b) (hl : b.length ≤ 1000000) :
    Calls Try.prog 10 #[.slice a1 b.length c1, .slice a2 b.length c2] w fun e w' => e = .returned (.bool true) ∧ Below w.heap.size w w' := by
  have H1 := hid (fun W (hW : Below w.heap.size w W) => h1.below hW)
  have H2 := hid (fun W (hW : Below w.heap.size w W) => h2.below hW)
  have hnn : ((b.length : Int) != (b.length : Int)) = false := by simp
  clear h1 h2
  go_enter Try.func10, Try.ntmps10
  go_wp2_with fail
  go_loopw [13] (fun v wr => ∃ j : Nat, j ≤ b.length ∧ v = .int .i64 (j : Int) ∧ Hid (Below w.heap.size w wr)) (fun v _ => b.length - (intOf v).toNat)
  case atStart => exact ⟨0, Nat.zero_le _, rfl, Below.refl _ _⟩
  case round =>
    obtain ⟨j, hj, rfl, hst⟩ := hrel
    by_cases hjl : j < b.length
    · have hji : (j : Int) < (b.length : Int) := by omega
      have hj0 : (0 : Int) ≤ (j : Int) := by omega
      have hw2 : IntKind.i64.wrap ((j : Int) + 1) = (j : Int) + 1 := by rw [IntKind.wrap_i64]; omega
      obtain ⟨p, hp⟩ : ∃ p, b[j]? = some p := ⟨_, List.getElem?_eq_getElem hjl⟩
      rcases H1.out wr hst.out with h0 | ⟨g1, rfl, hg1, hc1⟩
      · rw [h0] at hjl; simp at hjl
      rcases H2.out wr hst.out with h0 | ⟨g2, rfl, hg2, hc2⟩
      · rw [h0] at hjl; simp at hjl
      obtain ⟨x0, x1⟩ := hc1 j p hp
      obtain ⟨y0, y1⟩ := hc2 j p hp
      obtain ⟨pt, pd⟩ := p
      dsimp only at x0 x1 y0 y1
      clear hc1 hc2 hp
      go_wp2_with fail
      go_quiet (fail)
      have HB2 := hid (hst.out.trans ((dN_below (Below.refl wr.heap.size wr) nq).mono hst.out.size))
      generalize World.drewN _ nq = w2 at *
      go_wp2_with fail
      go_roundw
      case rel => exact ⟨j + 1, by omega, by go_num, HB2.out⟩
      case measure => simp [intOf]; omega
    · have hjk : j = b.length := by omega
      subst hjk
      have hji : ¬ ((b.length : Int) < (b.length : Int)) := by omega
      go_wp2_with fail
      go_ret
      exact ⟨rfl, hst.out⟩
set_option maxRecDepth 100000 in
set_option maxHeartbeats 2000000 in
theorem rof_any (a1 : Option Addr) (c1 : Nat) (b : List (Nat × Nat)) (y : Int) (w : World) (h1 : BdAt w a1 b) (hr : Rise b) (hl : b.length ≤ 1000000) :
    Calls Try.prog 12 #[.slice a1 b.length c1, .int .i64 y] w fun e w' => e = .returned (.int .i64 (ofR b y)) ∧ Below w.heap.size w w' := by
  have H1 := hid (fun W (hW : Below w.heap.size w W) => h1.below hW)
  have HRi := hid hr
  generalize hO : ofR b y = o
  have HO := hid hO
  clear h1 hr hO
  go_enter Try.func12, Try.ntmps12
  go_wp2_with fail
  go_loopw [9] (fun v wr => ∃ j : Nat, j ≤ b.length ∧ v = .int .i64 (j : Int) ∧ Hid (∀ (q : Nat) p, q < j → b[q]? = some p → (p.1 : Int) ≠ y) ∧ Hid (Below w.heap.size w wr)) (fun v _ => b.length - (intOf v).toNat)
  case atStart => exact ⟨0, Nat.zero_le _, rfl, fun q p h => by omega, Below.refl _ _⟩
  case round =>
    obtain ⟨j, hj, rfl, hno, hst⟩ := hrel
    by_cases hjl : j < b.length
    · have hji : (j : Int) < (b.length : Int) := by omega
      have hj0 : (0 : Int) ≤ (j : Int) := by omega
      have hw2 : IntKind.i64.wrap ((j : Int) + 1) = (j : Int) + 1 := by rw [IntKind.wrap_i64]; omega
      obtain ⟨p, hp⟩ : ∃ p, b[j]? = some p := ⟨_, List.getElem?_eq_getElem hjl⟩
      rcases H1.out wr hst.out with h0 | ⟨g1, rfl, hg1, hc1⟩
      · rw [h0] at hjl; simp at hjl
      obtain ⟨x0, x1⟩ := hc1 j p hp
      have hbt := below_new wr (.cells #[.int .i64 (p.1 : Int), .int .i64 (p.2 : Int)] 40)
      have HBt := hid (hst.out.trans (hbt.mono hst.out.size))
      have HP := hid hp
      clear hc1 hp hbt
      by_cases hy : (p.1 : Int) = y
      · have hyb : ((p.1 : Int) == y) = true := beq_iff_eq.2 hy
        have HE : Hid (o = (p.2 : Int)) := by
          show o = _
          rw [← HO.out, ← hy]
          exact of_at HRi.out HP.out
        clear hy
        obtain ⟨pt, pd⟩ := p
        dsimp only at x0 x1 HBt hyb HE
        go_wp2_with fail
        go_ret
        exact ⟨by rw [HE.out]; rfl, HBt.out⟩
      · have hyb : ((p.1 : Int) == y) = false := beq_eq_false_iff_ne.2 hy
        have HN : Hid (∀ (q : Nat) z, q < j + 1 → b[q]? = some z → (z.1 : Int) ≠ y) := fun q z h1 hz => by
          by_cases h2 : q = j
          · subst h2; have := HP.out; rw [this] at hz; cases hz; exact hy
          · exact hno.out q z (by omega) hz
        clear hy HP
        obtain ⟨pt, pd⟩ := p
        dsimp only at x0 x1 HBt hyb
        go_wp2_with fail
        go_roundw
        case rel => exact ⟨j + 1, by omega, by go_num, HN, HBt.out⟩
        case measure => simp [intOf]; omega
    · have hjk : j = b.length := by omega
      subst hjk
      have hji : ¬ ((b.length : Int) < (b.length : Int)) := by omega
      have HE : Hid (o = -1) := by
        show o = -1
        rw [← HO.out]
        exact of_noneB fun k p hk => hno.out k p (List.getElem?_eq_some_iff.1 hk).1 hk
      go_wp2_with fail
      go_ret
      exact ⟨by rw [HE.out]; rfl, hst.out⟩
end Go.Proofs.Ytkfbhknhjpmomaa
