/- Some texts in one. -/
import Derived.Test.YtienjifhkmekcaaDoorCmC
import Derived.Defers
import Derived.Recover
import Derived.Laws.Pointers
import Derived.Test.YtienjifhkmekcaaDoorCmB
namespace Go.Proofs.YtienjifhkmekcaaDoor
open Go.RowKit Go.Shelf

theorem assert_none (T : TypeId) (w : World) : (Instr.typeAssert .nilIface T 45 true).run Tryd.prog w = .ok (.tuple #[.agg #[.int .i64 0, .int .i64 0, .int .i64 0], .bool false]) w := by kernel_rfl
theorem assert_stop (T : TypeId) (v : Value) (w : World) : (Instr.typeAssert (.iface 45 v) T 45 true).run Tryd.prog w = .ok (.tuple #[v, .bool true]) w := by kernel_rfl

set_option maxRecDepth 100000 in
set_option maxHeartbeats 1000000 in
theorem catch_idle (p q : Addr) (w : World) :
    CallsD Tryd.prog 15 #[.pointer (some p), .pointer (some q)] .returning w fun e u' w' => e = .returned (.tuple #[]) ∧ u' = .returning ∧ Below w.heap.size w w' := by
  refine callsD_of_wpS Tryd.func15 rfl fun c₀ cs hu => ?_
  apply wpS_seq
  apply wpS_region
  simp [wpOpsS, go_sem, recoverD, hu, Tryd.ntmps15, Exit.thenS, assert_none, Array.replicate]
  refine wpS_of_wp ?_
  go_wp2_with fail
  have HB := hid (below_new w (.cells #[.int .i64 0, .int .i64 0, .int .i64 0] 45))
  generalize w.alloc (.cells #[.int .i64 0, .int .i64 0, .int .i64 0] 45) = w2 at HB ⊢
  cases c₀
  simp_all [bodyPostS, results, Tryd.results15]
  exact HB.out

theorem laid_p {w : World} {p q : Nat} {x : Value} {v u0 u1 u2 : Value} {T : TypeId} (hp : w.heap[p]? = some (.cells #[x] T)) (hpq : p ≠ q) :
    (((((w.setCell ⟨p, 0, none⟩ v).setCell ⟨q, 0, none⟩ u0).setCell ⟨q, 1, none⟩ u1).setCell ⟨q, 2, none⟩ u2).drew).heap[p]? = some (.cells #[v] T) := by
  have h1 := Go.Joins.block_setCell (i := 0) hp v
  show ((((w.setCell ⟨p, 0, none⟩ v).setCell ⟨q, 0, none⟩ u0).setCell ⟨q, 1, none⟩ u1).setCell ⟨q, 2, none⟩ u2).heap[p]? = _
  rw [Below.heap_setCell _ _ _ p hpq, Below.heap_setCell _ _ _ p hpq, Below.heap_setCell _ _ _ p hpq, h1]
  rfl
theorem laid_q {w : World} {p q : Nat} {x0 x1 x2 : Value} {v u0 u1 u2 : Value} {T : TypeId} (hq : w.heap[q]? = some (.cells #[x0, x1, x2] T)) (hpq : p ≠ q) :
    (((((w.setCell ⟨p, 0, none⟩ v).setCell ⟨q, 0, none⟩ u0).setCell ⟨q, 1, none⟩ u1).setCell ⟨q, 2, none⟩ u2).drew).heap[q]? = some (.cells #[u0, u1, u2] T) := by
  have h0 : (w.setCell ⟨p, 0, none⟩ v).heap[q]? = some (.cells #[x0, x1, x2] T) := by rw [Below.heap_setCell _ _ _ q (fun e => hpq e.symm), hq]
  have h1 := Go.Joins.block_setCell (i := 0) h0 u0
  have h2 := Go.Joins.block_setCell (i := 1) h1 u1
  have h3 := Go.Joins.block_setCell (i := 2) h2 u2
  show ((((w.setCell ⟨p, 0, none⟩ v).setCell ⟨q, 0, none⟩ u0).setCell ⟨q, 1, none⟩ u1).setCell ⟨q, 2, none⟩ u2).heap[q]? = _
  rw [h3]
  rfl
theorem kept_catch {w w2 : World} {p q : Nat} (hb : Below w.heap.size w w2) (v u0 u1 u2 : Value) : Kept (fun j => j = p ∨ j = q) w (((((w2.setCell ⟨p, 0, none⟩ v).setCell ⟨q, 0, none⟩ u0).setCell ⟨q, 1, none⟩ u1).setCell ⟨q, 2, none⟩ u2).drew) := by
  have h0 : Kept (fun j => j = p ∨ j = q) w w2 := kept_of_below hb
  have h1 : Kept (fun j => j = p ∨ j = q) w (w2.setCell ⟨p, 0, none⟩ v) := h0.setCell (a := ⟨p, 0, none⟩) (.inl rfl) _
  have h2 : Kept (fun j => j = p ∨ j = q) w ((w2.setCell ⟨p, 0, none⟩ v).setCell ⟨q, 0, none⟩ u0) := h1.setCell (a := ⟨q, 0, none⟩) (.inr rfl) _
  have h3 : Kept (fun j => j = p ∨ j = q) w (((w2.setCell ⟨p, 0, none⟩ v).setCell ⟨q, 0, none⟩ u0).setCell ⟨q, 1, none⟩ u1) := h2.setCell (a := ⟨q, 1, none⟩) (.inr rfl) _
  have h4 : Kept (fun j => j = p ∨ j = q) w ((((w2.setCell ⟨p, 0, none⟩ v).setCell ⟨q, 0, none⟩ u0).setCell ⟨q, 1, none⟩ u1).setCell ⟨q, 2, none⟩ u2) := h3.setCell (a := ⟨q, 2, none⟩) (.inr rfl) _
  exact h4.trans (kept_of_below (Below.refl _ _).drew)

set_option maxRecDepth 100000 in
set_option maxHeartbeats 1000000 in
theorem catch_stop (p q : Nat) (x : Int) (y0 y1 y2 : Value) (e f a : Int) (older : List PanicEntry) (w : World) (hp : w.heap[p]? = some (.cells #[.int .i64 x] 3)) (hq : w.heap[q]? = some (.cells #[y0, y1, y2] 25)) (hpq : p ≠ q) :
    CallsD Tryd.prog 15 #[.pointer (some ⟨p, 0, none⟩), .pointer (some ⟨q, 0, none⟩)] (.panicking ({ v := .iface 45 (.agg #[.int .i64 e, .int .i64 f, .int .i64 a]), recovered := false } :: older)) w fun e' u' w' =>
      e' = .returned (.tuple #[]) ∧ u' = .panicking ({ v := .iface 45 (.agg #[.int .i64 e, .int .i64 f, .int .i64 a]), recovered := true } :: older) ∧ w'.heap[p]? = some (.cells #[.int .i64 0] 3) ∧ w'.heap[q]? = some (.cells #[.int .i64 e, .int .i64 f, .int .i64 a] 25) ∧ Kept (fun j => j = p ∨ j = q) w w' := by
  refine callsD_of_wpS Tryd.func15 rfl fun c₀ cs hu => ?_
  apply wpS_seq
  apply wpS_region
  simp [wpOpsS, go_sem, recoverD, hu, Tryd.ntmps15, Exit.thenS, assert_stop, Array.replicate]
  refine wpS_of_wp ?_
  have hpl := lt_of_block hp
  have hql := lt_of_block hq
  have n0 : (w.alloc (.cells #[.int .i64 e, .int .i64 f, .int .i64 a] 45)).heap[w.heap.size]? = some (.cells #[.int .i64 e, .int .i64 f, .int .i64 a] 45) := by first | exact heap_alloc_new w _ | exact Array.getElem?_push_size
  have p0 := (below_new w (.cells #[.int .i64 e, .int .i64 f, .int .i64 a] 45)).block p hpl
  have q0 := (below_new w (.cells #[.int .i64 e, .int .i64 f, .int .i64 a] 45)).block q hql
  rw [hp] at p0
  rw [hq] at q0
  have HB := hid (below_new w (.cells #[.int .i64 e, .int .i64 f, .int .i64 a] 45))
  obtain ⟨N, hN⟩ : ∃ N, N = w.heap.size := ⟨_, rfl⟩
  rw [← hN] at n0 ⊢
  generalize w.alloc (.cells #[.int .i64 e, .int .i64 f, .int .i64 a] 45) = w2 at n0 p0 q0 HB ⊢
  have hpN : p ≠ N := by omega
  have hqN : q ≠ N := by omega
  have HN := hid hN
  have HP := hid p0
  have HQ := hid q0
  have k0 := (block_facts n0 0).1
  have k1 := (block_facts n0 1).1
  have k2 := (block_facts n0 2).1
  have m0 := block_facts p0 0
  have q1 := block_facts q0 0
  have q2 := block_facts q0 1
  have q3 := block_facts q0 2
  simp at k0 k1 k2 m0 q1 q2 q3
  obtain ⟨m01, m02⟩ := m0
  obtain ⟨q11, q12⟩ := q1
  obtain ⟨q21, q22⟩ := q2
  obtain ⟨q31, q32⟩ := q3
  clear hN hp hq hpl hql n0 p0 q0
  go_wp2_with fail
  go_region_held3 (fun W => W.cell? ⟨N, 0, none⟩ = some (.int .i64 e) ∧ W.cell? ⟨N, 1, none⟩ = some (.int .i64 f) ∧ W.cell? ⟨N, 2, none⟩ = some (.int .i64 a))
    (first | exact ⟨k0, k1, k2⟩ | (simp [go_sem, *]))
    (fail)
  all_goals (have HK : Hid (Kept (fun j => j = p ∨ j = q) w ((((w2.setCell ⟨p, 0, none⟩ (.int .i64 0)).setCell ⟨q, 0, none⟩ (.int .i64 e)).setCell ⟨q, 1, none⟩ (.int .i64 f)).setCell ⟨q, 2, none⟩ (.int .i64 a)).drew) := kept_catch HB.out _ _ _ _)
  all_goals (have HE1 : Hid ((((((w2.setCell ⟨p, 0, none⟩ (.int .i64 0)).setCell ⟨q, 0, none⟩ (.int .i64 e)).setCell ⟨q, 1, none⟩ (.int .i64 f)).setCell ⟨q, 2, none⟩ (.int .i64 a)).drew).heap[p]? = some (.cells #[.int .i64 0] 3)) := laid_p HP.out hpq)
  all_goals (have HE2 : Hid ((((((w2.setCell ⟨p, 0, none⟩ (.int .i64 0)).setCell ⟨q, 0, none⟩ (.int .i64 e)).setCell ⟨q, 1, none⟩ (.int .i64 f)).setCell ⟨q, 2, none⟩ (.int .i64 a)).drew).heap[q]? = some (.cells #[.int .i64 e, .int .i64 f, .int .i64 a] 25)) := laid_q HQ.out hpq)
  all_goals generalize ((((w2.setCell ⟨p, 0, none⟩ (.int .i64 0)).setCell ⟨q, 0, none⟩ (.int .i64 e)).setCell ⟨q, 1, none⟩ (.int .i64 f)).setCell ⟨q, 2, none⟩ (.int .i64 a)).drew = w5 at HK HE1 HE2 ⊢
  all_goals go_wp2_with fail
  all_goals simp [bodyPostS, results, Tryd.results15]
  all_goals exact ⟨HE1.out, HE2.out, HK.out⟩
end Go.Proofs.YtienjifhkmekcaaDoor
namespace Go.Proofs.YtienjifhkmekcaaDoor
open Go.RowKit Go.Shelf

theorem kept_low {X : Nat → Prop} {B : Nat} {w w' : World} (h : Kept X w w') (hX : ∀ k, X k → B ≤ k) (hB : B ≤ w.heap.size) : Below B w w' :=
  ⟨h.os, h.tape, h.output, h.size, fun k hk => h.block k (by omega) (fun hx => by have := hX k hx; omega)⟩

/-- The world in which reading begins: both results, and the reader. -/
def beginW (a : Option Addr) (c n : Nat) (w : World) : World := ((w.alloc (.cells #[.int .i64 0] 3)).alloc (.cells #[.int .i64 0, .int .i64 0, .int .i64 0] 25)).alloc (.cells #[.slice a n c, .int .i64 0, .int .i64 0] 50)
theorem begin_facts (a : Option Addr) (c n : Nat) (w : World) : (beginW a c n w).heap.size = w.heap.size + 3 ∧ (beginW a c n w).heap[w.heap.size]? = some (.cells #[.int .i64 0] 3) ∧
    (beginW a c n w).heap[w.heap.size + 1]? = some (.cells #[.int .i64 0, .int .i64 0, .int .i64 0] 25) ∧ (beginW a c n w).heap[w.heap.size + 1 + 1]? = some (.cells #[.slice a n c, .int .i64 0, .int .i64 0] 50) ∧ Below w.heap.size w (beginW a c n w) := by
  unfold beginW
  have b1 := below_new w (.cells #[.int .i64 0] 3)
  have b2 := below_new (w.alloc (.cells #[.int .i64 0] 3)) (.cells #[.int .i64 0, .int .i64 0, .int .i64 0] 25)
  have b3 := below_new ((w.alloc (.cells #[.int .i64 0] 3)).alloc (.cells #[.int .i64 0, .int .i64 0, .int .i64 0] 25)) (.cells #[.slice a n c, .int .i64 0, .int .i64 0] 50)
  refine ⟨by simp, ?_, ?_, ?_, b1.trans ((b2.trans (b3.mono (by simp))).mono (by simp))⟩
  · rw [b3.block _ (by simp; omega), b2.block _ (by simp)]; exact heap_alloc_new w _
  · rw [b3.block _ (by simp)]
    have := heap_alloc_new (w.alloc (.cells #[.int .i64 0] 3)) (.cells #[.int .i64 0, .int .i64 0, .int .i64 0] 25)
    rwa [World.size_alloc] at this
  · have := heap_alloc_new ((w.alloc (.cells #[.int .i64 0] 3)).alloc (.cells #[.int .i64 0, .int .i64 0, .int .i64 0] 25)) (.cells #[.slice a n c, .int .i64 0, .int .i64 0] 50)
    rwa [World.size_alloc, World.size_alloc] at this

set_option maxRecDepth 100000 in
set_option maxHeartbeats 2000000 in
theorem Eval_any (num : NumS) (hN : NumC num) (a : Option Addr) (c : Nat) (ts : List Tk) (w : World) (hT : TAt w a ts) (hEv : Ev w) (hl : ts.length ≤ 3000) (hts : ∀ t ∈ ts, t.text.size ≤ 3000) :
    Calls Tryd.prog 5 #[.slice a ts.length c] w fun e w' => e = .returned (.tuple #[.int .i64 (evalL num ts).1, .agg #[.int .i64 (evalL num ts).2.1, .int .i64 (evalL num ts).2.2.1, .int .i64 (evalL num ts).2.2.2]]) ∧ Below w.heap.size w w' := by
  have hmf : ∀ (fn : Fn) (first cap : Array Value) (w : World), (Instr.makeFunc fn first cap).run Tryd.prog w = .ok (.func fn first cap) w := fun _ _ _ _ => rfl
  have HCh := hid (fun R W (h : CurAt W R a c ts 0 0) => choice_any num hN R a c ts hl hts W h)
  have HE : Hid (evalL num ts = match rdF num ts (12 * ts.length + 40) 0 0 0 0 0 true with
    | .inr (e, i) => (0, (e, (placeOf ts i).1, (placeOf ts i).2))
    | .inl (n, k) => if k < ts.length then (0, (2, (placeOf ts k).1, (placeOf ts k).2)) else (n, (0, -1, 0))) := rfl
  generalize evalL num ts = E at HE ⊢
  rcases hr : rdF num ts (12 * ts.length + 40) 0 0 0 0 0 true with ⟨n, k⟩ | ⟨er, i⟩
  · rw [hr] at HE HCh
    dsimp only at HE
    unfold RdOk at HCh
    dsimp only at HCh
    obtain ⟨s0, s1, s2, s3, s4⟩ := begin_facts a c ts.length w
    have HC := hid (HCh.out (w.heap.size + 1 + 1) (beginW a c ts.length w) ⟨s3, hT.below s4, hEv.below s4⟩)
    have HS : Hid (∀ w1, Kept (· = w.heap.size + 1 + 1) (beginW a c ts.length w) w1 → w1.heap[w.heap.size]? = some (.cells #[.int .i64 0] 3) ∧ w1.heap[w.heap.size + 1]? = some (.cells #[.int .i64 0, .int .i64 0, .int .i64 0] 25) ∧ Below w.heap.size w w1) := fun w1 h =>
      ⟨(h.block _ (by omega) (by omega)).trans s1, (h.block _ (by omega) (by omega)).trans s2, s4.trans (kept_low h (fun k hk => by omega) (by omega))⟩
    unfold beginW at HC HS
    by_cases hkl : k < ts.length
    · rw [if_pos hkl] at HE
      rw [HE.out]
      dsimp only
      have HF := hid (fun W (h : CurAt W (w.heap.size + 1 + 1) a c ts k 0) => fail_any (w.heap.size + 1 + 1) a c ts k 0 2 k W h hl (by omega))
      unfold thrown at HF
      have hkd : decide ((k : Int) < (ts.length : Int)) = true := decide_eq_true (by omega)
      have hki : (k : Int) < (ts.length : Int) := by omega
      have HTt := hid hT
      clear HCh hr hT s0 s1 s2 s3 s4 HE hkl
      go_enter_defers Tryd.func5, Tryd.ntmps5
      go_wp2_with fail
      refine HC.out.mono ?_
      rintro e w1 ⟨rfl, hk1, hc1, hle1⟩
      obtain ⟨t1, t2, t3⟩ := HS.out w1 hk1
      have HT1 := hid t1
      have HT2 := hid t2
      have HT3 := hid t3
      have HC1 := hid hc1
      have n1 := block_facts t1 0
      have b1 := block_facts hc1.box 1
      simp at n1 b1
      obtain ⟨n11, n12⟩ := n1
      obtain ⟨b11, b12⟩ := b1
      have HTw := hid (HTt.out.below (HT3.out.setCell (p := ⟨w.heap.size, 0, none⟩) (Nat.le_refl _) (.int .i64 n)))
      have HEw := hid (hEv.below (HT3.out.setCell (p := ⟨w.heap.size, 0, none⟩) (Nat.le_refl _) (.int .i64 n)))
      have HB2 := hid (HT3.out.setCell (p := ⟨w.heap.size, 0, none⟩) (Nat.le_refl _) (.int .i64 n))
      have HG1 : Hid ((w1.setCell ⟨w.heap.size, 0, none⟩ (.int .i64 n)).heap[w.heap.size]? = some (.cells #[.int .i64 n] 3)) := by
        have := Go.Joins.block_setCell (i := 0) t1 (.int .i64 n)
        show _ = _
        simpa using this
      have HG2 : Hid ((w1.setCell ⟨w.heap.size, 0, none⟩ (.int .i64 n)).heap[w.heap.size + 1]? = some (.cells #[.int .i64 0, .int .i64 0, .int .i64 0] 25)) := (Below.heap_setCell _ _ _ _ (by show w.heap.size + 1 ≠ w.heap.size; omega)).trans t2
      have HCw : Hid (CurAt (w1.setCell ⟨w.heap.size, 0, none⟩ (.int .i64 n)) (w.heap.size + 1 + 1) a c ts k 0) := ⟨(Below.heap_setCell _ _ _ _ (by show w.heap.size + 1 + 1 ≠ w.heap.size; omega)).trans hc1.box, HTw.out, HEw.out⟩
      clear t1 t2 t3 hk1 hc1 HC HS
      go_wp2_with fail
      refine (HF.out _ HCw.out).mono ?_
      rintro e w3 ⟨rfl, hb3⟩
      have HP3 := hid ((hb3.block _ (lt_of_block HG1.out)).trans HG1.out)
      have HQ3 := hid ((hb3.block _ (lt_of_block HG2.out)).trans HG2.out)
      have HB3 := hid (HB2.out.trans (hb3.mono HB2.out.size))
      clear hb3 HF HCw HG1 HG2 HB2 HTw n11 n12 b11 b12
      go_wp2_with fail
      refine leaves_cons (f := 15) (args := #[.pointer (some ⟨w.heap.size, 0, none⟩), .pointer (some ⟨w.heap.size + 1, 0, none⟩)]) (by simp) (by simp [go_sem]) ?_
      refine (catch_stop w.heap.size (w.heap.size + 1) n _ _ _ _ _ _ [] w3 HP3.out HQ3.out (by omega)).mono ?_
      rintro e u' w2 ⟨rfl, rfl, g1, g2, hk2⟩
      have HB4 := hid (HB3.out.trans (kept_low hk2 (fun k hk => by rcases hk with h | h <;> omega) HB3.out.size))
      have c1 := (block_facts g1 0).1
      have d1 := (block_facts g2 0).1
      have d2 := (block_facts g2 1).1
      have d3 := (block_facts g2 2).1
      simp at c1 d1 d2 d3
      simp [Leaves, settle, results, Tryd.results5, go_sem, c1, d1, d2, d3]
      exact HB4.out
    · rw [if_neg hkl] at HE
      rw [HE.out]
      dsimp only
      have hkd : decide ((k : Int) < (ts.length : Int)) = false := decide_eq_false (by omega)
      have hki : ¬ ((k : Int) < (ts.length : Int)) := by omega
      clear HCh hr hT s0 s1 s2 s3 s4 HE hkl
      go_enter_defers Tryd.func5, Tryd.ntmps5
      go_wp2_with fail
      refine HC.out.mono ?_
      rintro e w1 ⟨rfl, hk1, hc1, hle1⟩
      obtain ⟨t1, t2, t3⟩ := HS.out w1 hk1
      have HT1 := hid t1
      have HT2 := hid t2
      have HT3 := hid t3
      have HC1 := hid hc1
      have n1 := block_facts t1 0
      have b1 := block_facts hc1.box 1
      simp at n1 b1
      obtain ⟨n11, n12⟩ := n1
      obtain ⟨b11, b12⟩ := b1
      have f0 := block_facts t2 0
      have f1 := block_facts t2 1
      have f2 := block_facts t2 2
      simp at f0 f1 f2
      obtain ⟨f01, f02⟩ := f0
      obtain ⟨f11, f12⟩ := f1
      obtain ⟨f21, f22⟩ := f2
      have hz1 : w.heap.size < w1.heap.size := lt_of_block t1
      have hA : (w1.setCell ⟨w.heap.size, 0, none⟩ (.int .i64 n)).heap[w.heap.size]? = some (.cells #[.int .i64 n] 3) := by
        have := Go.Joins.block_setCell (i := 0) t1 (.int .i64 n)
        simpa using this
      have hA2 : (w1.setCell ⟨w.heap.size, 0, none⟩ (.int .i64 n)).heap[w.heap.size + 1]? = some (.cells #[.int .i64 0, .int .i64 0, .int .i64 0] 25) := (Below.heap_setCell _ _ _ _ (by show w.heap.size + 1 ≠ w.heap.size; omega)).trans t2
      have HG1 := hid (laid_p (q := w.heap.size + 1) (v := .int .i64 n) (u0 := .int .i64 0) (u1 := .int .i64 (-1)) (u2 := .int .i64 0) hA (by omega))
      have HG2 := hid (laid_q (p := w.heap.size) (v := .int .i64 n) (u0 := .int .i64 0) (u1 := .int .i64 (-1)) (u2 := .int .i64 0) hA2 (by omega))
      have HB2 := hid (((((t3.setCell (p := ⟨w.heap.size, 0, none⟩) (Nat.le_refl _) (.int .i64 n)).setCell (p := ⟨w.heap.size, 0, none⟩) (Nat.le_refl _) (.int .i64 n)).setCell (p := ⟨w.heap.size + 1, 0, none⟩) (Nat.le_succ _) (.int .i64 0)).setCell (p := ⟨w.heap.size + 1, 1, none⟩) (Nat.le_succ _) (.int .i64 (-1))).setCell (p := ⟨w.heap.size + 1, 2, none⟩) (Nat.le_succ _) (.int .i64 0))
      clear t1 t2 t3 hk1 hc1 HC HS hA hA2
      go_wp2_with fail
      have HE1 : Hid (∀ W, Below (((((w1.setCell ⟨w.heap.size, 0, none⟩ (.int .i64 n)).setCell ⟨w.heap.size, 0, none⟩ (.int .i64 n)).setCell ⟨w.heap.size + 1, 0, none⟩ (.int .i64 0)).setCell ⟨w.heap.size + 1, 1, none⟩ (.int .i64 (-1))).setCell ⟨w.heap.size + 1, 2, none⟩ (.int .i64 0)).heap.size (((((w1.setCell ⟨w.heap.size, 0, none⟩ (.int .i64 n)).setCell ⟨w.heap.size, 0, none⟩ (.int .i64 n)).setCell ⟨w.heap.size + 1, 0, none⟩ (.int .i64 0)).setCell ⟨w.heap.size + 1, 1, none⟩ (.int .i64 (-1))).setCell ⟨w.heap.size + 1, 2, none⟩ (.int .i64 0)) W →
          W.heap[w.heap.size]? = some (.cells #[.int .i64 n] 3) ∧ W.heap[w.heap.size + 1]? = some (.cells #[.int .i64 0, .int .i64 (-1), .int .i64 0] 25) ∧ Below w.heap.size w W) := fun W h =>
        ⟨(h.block _ (lt_of_block HG1.out)).trans HG1.out, (h.block _ (lt_of_block HG2.out)).trans HG2.out, HB2.out.trans (h.mono HB2.out.size)⟩
      clear f01 f02 f11 f12 f21 f22 n11 n12 b11 b12 HG1 HG2 HB2
      generalize ((((w1.setCell ⟨w.heap.size, 0, none⟩ (.int .i64 n)).setCell ⟨w.heap.size, 0, none⟩ (.int .i64 n)).setCell ⟨w.heap.size + 1, 0, none⟩ (.int .i64 0)).setCell ⟨w.heap.size + 1, 1, none⟩ (.int .i64 (-1))).setCell ⟨w.heap.size + 1, 2, none⟩ (.int .i64 0) = w5 at HE1 ⊢
      refine leaves_cons (f := 15) (args := #[.pointer (some ⟨w.heap.size, 0, none⟩), .pointer (some ⟨w.heap.size + 1, 0, none⟩)]) (by simp) (by simp [go_sem]) ?_
      refine (catch_idle ⟨w.heap.size, 0, none⟩ ⟨w.heap.size + 1, 0, none⟩ w5).mono ?_
      rintro e u' w2 ⟨rfl, rfl, hb2⟩
      obtain ⟨g1, g2, g3⟩ := HE1.out w2 hb2
      have HB4 := hid g3
      have c1 := (block_facts g1 0).1
      have d1 := (block_facts g2 0).1
      have d2 := (block_facts g2 1).1
      have d3 := (block_facts g2 2).1
      simp at c1 d1 d2 d3
      simp [Leaves, settle, results, Tryd.results5, go_sem, c1, d1, d2, d3]
      exact HB4.out
  · rw [hr] at HE HCh
    dsimp only at HE
    rw [HE.out]
    unfold RdOk thrown at HCh
    dsimp only at HCh ⊢
    obtain ⟨s0, s1, s2, s3, s4⟩ := begin_facts a c ts.length w
    have HC := hid (HCh.out (w.heap.size + 1 + 1) (beginW a c ts.length w) ⟨s3, hT.below s4, hEv.below s4⟩)
    have HS : Hid (∀ w1, Kept (· = w.heap.size + 1 + 1) (beginW a c ts.length w) w1 → w1.heap[w.heap.size]? = some (.cells #[.int .i64 0] 3) ∧ w1.heap[w.heap.size + 1]? = some (.cells #[.int .i64 0, .int .i64 0, .int .i64 0] 25) ∧ Below w.heap.size w w1) := fun w1 h =>
      ⟨(h.block _ (by omega) (by omega)).trans s1, (h.block _ (by omega) (by omega)).trans s2, s4.trans (kept_low h (fun k hk => by omega) (by omega))⟩
    unfold beginW at HC HS
    clear HCh hr hT s0 s1 s2 s3 s4 HE
    go_enter_defers Tryd.func5, Tryd.ntmps5
    go_wp2_with fail
    refine HC.out.mono ?_
    rintro e w1 ⟨rfl, hk1⟩
    obtain ⟨t1, t2, t3⟩ := HS.out w1 hk1
    have HT1 := hid t1
    have HT2 := hid t2
    have HT3 := hid t3
    clear t1 t2 t3 hk1 HC HS
    go_wp2_with fail
    refine leaves_cons (f := 15) (args := #[.pointer (some ⟨w.heap.size, 0, none⟩), .pointer (some ⟨w.heap.size + 1, 0, none⟩)]) (by simp) (by simp [go_sem]) ?_
    refine (catch_stop w.heap.size (w.heap.size + 1) 0 _ _ _ _ _ _ [] w1 HT1.out HT2.out (by omega)).mono ?_
    rintro e u' w2 ⟨rfl, rfl, g1, g2, hk2⟩
    have HB2 := hid (HT3.out.trans (kept_low hk2 (fun k hk => by rcases hk with h | h <;> omega) HT3.out.size))
    have c1 := (block_facts g1 0).1
    have d1 := (block_facts g2 0).1
    have d2 := (block_facts g2 1).1
    have d3 := (block_facts g2 2).1
    simp at c1 d1 d2 d3
    simp [Leaves, settle, results, Tryd.results5, go_sem, c1, d1, d2, d3]
    exact HB2.out
end Go.Proofs.YtienjifhkmekcaaDoor
namespace Go.Proofs.YtienjifhkmekcaaDoor
open Go.RowKit Go.Shelf

theorem num_ok : NumC numL := fun s W hE hs => Num_any s W hE (Nat.le_trans hs (by decide))

/-- Eval, at whatever tokens: evalL numL. -/
theorem Eval_whole (a : Option Addr) (c : Nat) (ts : List Tk) (w : World) (hT : TAt w a ts) (hEv : Ev w) (hl : ts.length ≤ 3000) (hts : ∀ t ∈ ts, t.text.size ≤ 3000) :
    Calls Tryd.prog 5 #[.slice a ts.length c] w fun e w' => e = .returned (.tuple #[.int .i64 (evalL numL ts).1, .agg #[.int .i64 (evalL numL ts).2.1, .int .i64 (evalL numL ts).2.2.1, .int .i64 (evalL numL ts).2.2.2]]) ∧ Below w.heap.size w w' :=
  Eval_any numL num_ok a c ts w hT hEv hl hts
end Go.Proofs.YtienjifhkmekcaaDoor
