/- Walk of Beside: a call returns the path that a path means in a file, or nothing, and leaves all that lay in memory as it was. -/
import Derived.Test.YthklodlhbafehaaDoorSeq
namespace Go.Proofs.YthklodlhbafehaaDoor
open Go.RowKit Go.Shelf
attribute [local go_sem] Oper.semAt_some

def stepWay (way : Option (List UInt8)) (x : ByteArray) : Option (List UInt8) :=
  way.bind fun l => if x.toList == [46] then some l else if x.toList == [46, 46] then (if lastS l < 0 then none else some (l.take (lastS l).toNat)) else some (l ++ [47] ++ x.data.toList)
def wayOf (s path : ByteArray) : Option (List UInt8) := (pcsB path).foldl stepWay (some (folderL s.data.toList))
def outOf (l : List UInt8) : ByteArray := ⟨(Lib.trimPrefix l [47]).toArray⟩
def besideB (s path : ByteArray) : ByteArray := match wayOf s path with | none => ⟨#[]⟩ | some l => if cleanB (outOf l) then outOf l else ⟨#[]⟩

def bulk (ps : List ByteArray) : Nat := (ps.map fun p => p.size + 1).sum
theorem bulk_pcsB (s : ByteArray) : bulk (pcsB s) = s.size + 1 := by
  generalize hk : s.size = k
  induction k using Nat.strongRecOn generalizing s with
  | ind k ih =>
    by_cases hm : Lib.indexByte s.data.toList 47 = -1
    · rw [pcsB_miss s hm]; simp [bulk, hk]
    · obtain ⟨i, hi⟩ : ∃ i : Nat, Lib.indexByte s.data.toList 47 = i := ⟨(Lib.indexByte s.data.toList 47).toNat, by have := Lib.indexByte_ge s.data.toList 47; omega⟩
      have hlt : i < s.size := by have := indexByte_lt _ _ _ hi; simpa using this
      rw [pcsB_hit s i hi]
      have h2 : (s.extract (i + 1) s.size).size = s.size - (i + 1) := by simp [ByteArray.size_extract]
      have h1 : (s.extract 0 i).size = i := by simp [ByteArray.size_extract]; omega
      have := ih (s.size - (i + 1)) (by omega) (s.extract (i + 1) s.size) h2
      simp only [bulk, List.map_cons, List.sum_cons] at this ⊢
      rw [this, h1]; omega
theorem bulk_append (a b : List ByteArray) : bulk (a ++ b) = bulk a + bulk b := by simp [bulk]
theorem bulk_prefix {a b : List ByteArray} (h : a <+: b) : bulk a ≤ bulk b := by
  obtain ⟨c, rfl⟩ := h; rw [bulk_append]; omega

theorem folderL_length (l : List UInt8) : (folderL l).length ≤ l.length + 1 := by
  unfold folderL; split
  · simp
  · simp; omega

theorem splitSeq_any (path : ByteArray) (w : World) :
    Calls Tryd.prog 30 #[.string path, .string { data := #[47] }] w fun e w' =>
      e = .returned (.func (.func 56) #[] #[.pointer (some ⟨w.heap.size + 1, 0, none⟩), .pointer (some ⟨w.heap.size, 0, none⟩), .pointer (some ⟨w.heap.size + 2, 0, none⟩)]) ∧
      w' = ((w.alloc (.cells #[.string path] 9)).alloc (.cells #[.string { data := #[47] }] 9)).alloc (.cells #[.int .i64 0] 3) := by
  go_enter Tryd.func30, Tryd.ntmps30
  go_wp2
  go_ret
  exact ⟨rfl, rfl⟩

theorem below_cells {w w' : World} {B : Nat} (hb : Below B w w') {k : Nat} (hk : k < B) {o : Obj} (h : w.heap[k]? = some o) : w'.heap[k]? = some o := (hb.block k hk).trans h

/-- What holds between two rounds: the way so far lies in its box; the result's box is empty; the rest is as it was. R: the result's box; B: the way's; behind it the iterator's three. -/
structure WayAt (R B : Nat) (w0 : World) (way : List UInt8) (W : World) : Prop where
  own : ∃ v, W.heap[B]? = some (.cells #[v] 52 (0, 0)) ∧ OwnsB 5 (R + 1) W v way
  res : W.heap[R]? = some (.cells #[.string ⟨#[]⟩] 9 (0, 0))
  box : ∀ k, B < k → k < B + 4 → ∃ cs t fr, W.heap[k]? = some (.cells cs t fr) ∧ t ≠ 5
  old : Below R w0 W

theorem keep_cells {X Y : World} {row : Option Nat} {n k : Nat} {cs : Array Value} {t : TypeId} {fr : Nat × Nat} (hg : X.grownBy Y row) (hr : ∀ r, row = some r → n ≤ r ∧ ∃ o : Obj, X.heap[r]? = some o ∧ o.isCells = false)
    (h : X.heap[k]? = some (.cells cs t fr)) : Y.heap[k]? = some (.cells cs t fr) := by
  refine (hg.block k (Array.getElem?_eq_some_iff.1 h).1 (fun e => ?_)).trans h
  obtain ⟨_, o, ho, hc⟩ := hr k e.symm
  rw [h] at ho; cases ho; cases hc

theorem OwnsB.slice {e : TypeId} {base : Nat} {w : World} {v : Value} {l : List UInt8} (h : OwnsB e base w v l) : ∃ a n c, v = .slice a n c := by
  obtain ⟨a, c, h, _⟩ := h.shape
  exact ⟨a, _, c, h⟩

theorem OwnsB.block {e : TypeId} {base : Nat} {w : World} {v : Value} {l : List UInt8} (h : OwnsB e base w v l) : ∀ k, v.ownBlock = some k → base ≤ k ∧ ∃ cs fr, w.heap[k]? = some (.cells cs e fr) := by
  intro k hk
  rcases h with ⟨rfl, _⟩ | ⟨g, cap, cur, fz, rfl, hb, hg, _⟩
  · simp [Value.ownBlock] at hk
  · simp [Value.ownBlock] at hk
    subst hk
    exact ⟨hb, _, _, hg⟩

/-- A block of another element type is not the bytes' own. -/
theorem OwnsB.ne {e : TypeId} {base : Nat} {w : World} {v : Value} {l : List UInt8} (h : OwnsB e base w v l) {k : Nat} {cs : Array Value} {t : TypeId} {fr : Nat × Nat} (hk : w.heap[k]? = some (.cells cs t fr)) (ht : t ≠ e) : v.ownBlock ≠ some k := by
  intro hv
  obtain ⟨_, cs', fr', h'⟩ := h.block k hv
  rw [hk] at h'; cases h'; exact ht rfl

theorem OwnsB.keep_cells {X Y : World} {row : Option Nat} {n : Nat} {e : TypeId} {base : Nat} {v : Value} {l : List UInt8} (hg : X.grownBy Y row) (hr : ∀ r, row = some r → n ≤ r ∧ ∃ o : Obj, X.heap[r]? = some o ∧ o.isCells = false)
    (h : OwnsB e base X v l) : OwnsB e base Y v l := by
  refine h.kept hg ?_
  cases hv : v.ownBlock with
  | none => exact .inl rfl
  | some k =>
    refine .inr (fun e => ?_)
    obtain ⟨_, cs, fr, hc⟩ := h.block k hv
    obtain ⟨_, o, ho, hc'⟩ := hr k e.symm
    rw [hc] at ho; cases ho; cases hc'

theorem OwnsB.setCell {e : TypeId} {base : Nat} {w : World} {v : Value} {l : List UInt8} (h : OwnsB e base w v l) {k : Nat} (u : Value) (hk : v.ownBlock ≠ some k) : OwnsB e base (w.setCell ⟨k, 0, none⟩ u) v l :=
  h.kept (grownBy_setCell' w k u) (.inr hk)

theorem WayAt.from {R B : Nat} {w0 : World} {way : List UInt8} {X Y : World} {row : Option Nat} (h : WayAt R B w0 way X) (hRB : R < B) (hg : X.grownBy Y row) (hr : ∀ r, row = some r → B + 4 ≤ r ∧ ∃ o : Obj, X.heap[r]? = some o ∧ o.isCells = false) : WayAt R B w0 way Y := by
  obtain ⟨v, hv, ho⟩ := h.own
  have hlt : R < X.heap.size := (Array.getElem?_eq_some_iff.1 h.res).1
  refine ⟨⟨v, keep_cells hg hr hv, ho.keep_cells hg hr⟩, keep_cells hg hr h.res, fun k h1 h2 => ?_, h.old.grown hg (by omega) (fun k e => by have := (hr k e).1; omega)⟩
  obtain ⟨cs, t, fr, hc, ht⟩ := h.box k h1 h2
  exact ⟨cs, t, fr, keep_cells hg hr hc, ht⟩

/-- The iterator's own store. -/
theorem WayAt.seq {R B : Nat} {w0 : World} {way : List UInt8} {X : World} (h : WayAt R B w0 way X) (hRB : R < B) (u : Value) : WayAt R B w0 way (X.setCell ⟨B + 1, 0, none⟩ u) := by
  obtain ⟨v, hv, ho⟩ := h.own
  obtain ⟨cs, t, fr, hc, ht⟩ := h.box (B + 1) (by omega) (by omega)
  refine ⟨⟨v, (Below.heap_setCell X _ u B (by simp)).trans hv, ho.setCell u (ho.ne hc ht)⟩, (Below.heap_setCell X _ u R (by simp; omega)).trans h.res, fun k h1 h2 => ?_, h.old.setCell (p := ⟨B + 1, 0, none⟩) (by simp; omega) u⟩
  by_cases e : k = B + 1
  · subst e; exact ⟨_, t, fr, Go.Joins.block_setCell (i := 0) hc u, ht⟩
  · obtain ⟨cs', t', fr', hc', ht'⟩ := h.box k h1 h2
    exact ⟨cs', t', fr', (Below.heap_setCell X _ u k (by simpa using e)).trans hc', ht'⟩

/-- A new way is stored in its box. -/
theorem WayAt.store {R B : Nat} {w0 : World} {way : List UInt8} {X Y : World} {row : Option Nat} {way' : List UInt8} {v' v : Value} (h : WayAt R B w0 way X) (hRB : R < B) (hv : X.heap[B]? = some (.cells #[v] 52 (0, 0))) (hov : OwnsB 5 (R + 1) X v way) (hrow : row = v.ownBlock) (hg : X.grownBy Y row) (ho : OwnsB 5 (R + 1) Y v' way') :
    WayAt R B w0 way' (Y.setCell ⟨B, 0, none⟩ v') ∧ KeepsBoxes (B + 1) X (Y.setCell ⟨B, 0, none⟩ v') ∧ KeepsFrom (B + 4) X (Y.setCell ⟨B, 0, none⟩ v') ∧
    (Y.setCell ⟨B, 0, none⟩ v').heap[B]? = some (.cells #[v'] 52 (0, 0)) ∧ OwnsB 5 (R + 1) (Y.setCell ⟨B, 0, none⟩ v') v' way' ∧ Y.cell? ⟨B, 0, none⟩ = some v ∧ Y.frozen? ⟨B, 0, none⟩ = false := by
  subst hrow
  have hlt : R < X.heap.size := (Array.getElem?_eq_some_iff.1 h.res).1
  have kc : ∀ {k : Nat} {cs : Array Value} {t : TypeId} {fr : Nat × Nat}, X.heap[k]? = some (.cells cs t fr) → t ≠ 5 → Y.heap[k]? = some (.cells cs t fr) := fun {k cs t fr} hc ht =>
    (hg.block k (Array.getElem?_eq_some_iff.1 hc).1 (fun e => hov.ne hc ht e.symm)).trans hc
  have hB := kc hv (by decide)
  have hB' : (Y.setCell ⟨B, 0, none⟩ v').heap[B]? = some (.cells #[v'] 52 (0, 0)) := by have := Go.Joins.block_setCell (i := 0) hB v'; simpa using this
  have ho' := ho.setCell v' (ho.ne hB (by decide))
  refine ⟨⟨⟨v', hB', ho'⟩, (Below.heap_setCell Y _ v' R (by simp; omega)).trans (kc h.res (by decide)), fun k h1 h2 => ?_, ?_⟩, ?_, ?_, hB', ho', by simp [World.cell?, hB], by simp [World.frozen?, hB]⟩
  · obtain ⟨cs, t, fr, hc, ht⟩ := h.box k h1 h2
    exact ⟨cs, t, fr, (Below.heap_setCell Y _ v' k (by simp; omega)).trans (kc hc ht), ht⟩
  · refine (h.old.grown hg (by omega) (fun k e => ?_)).setCell (p := ⟨B, 0, none⟩) (by simp; omega) v'
    have := (hov.block k e).1; omega
  · intro k h1 h2
    obtain ⟨cs, t, fr, hc, ht⟩ := h.box k (by omega) (by omega)
    rw [hc]
    exact (Below.heap_setCell Y _ v' k (by simp; omega)).trans (kc hc ht)
  · refine ⟨by have := hg.size; simpa using this, fun k o hk hX ho' => ?_⟩
    have hne : k ≠ B := by omega
    refine (Below.heap_setCell Y _ v' k (by simpa using hne)).trans ((hg.block k (Array.getElem?_eq_some_iff.1 hX).1 (fun e => ?_)).trans hX)
    obtain ⟨_, cs, fr, hc⟩ := hov.block k e.symm
    rw [hX] at hc; cases hc; cases ho'

theorem wayStart {w w1 : World} {v : Value} {l : List UInt8} (path : ByteArray) (hb1 : Below (w.alloc (.cells #[.string ⟨#[]⟩] 9)).heap.size (w.alloc (.cells #[.string ⟨#[]⟩] 9)) w1) (ho : OwnsB 5 (w.alloc (.cells #[.string ⟨#[]⟩] 9)).heap.size w1 v l) :
    WayAt w.heap.size w1.heap.size w l ((((w1.alloc (.cells #[v] 52)).alloc (.cells #[.string path] 9)).alloc (.cells #[.string { data := #[47] }] 9)).alloc (.cells #[.int .i64 0] 3)) ∧
    SeqBoxes (w1.heap.size + 1) path ((((w1.alloc (.cells #[v] 52)).alloc (.cells #[.string path] 9)).alloc (.cells #[.string { data := #[47] }] 9)).alloc (.cells #[.int .i64 0] 3)) ∧
    w.heap.size < w1.heap.size := by
  have hlt : w.heap.size < w1.heap.size := by have := hb1.size; simp at this; omega
  have hres : w1.heap[w.heap.size]? = some (.cells #[.string ⟨#[]⟩] 9 (0, 0)) := (hb1.block _ (by simp)).trans (World.alloc_heap_new w _)
  rw [World.size_alloc] at ho
  have hb : Below w.heap.size w w1 := ((Below.refl _ w).alloc (Nat.le_refl _) _).trans (hb1.mono (by simp))
  have n1 : ∀ (o o1 o2 o3 : Obj), ((((w1.alloc o).alloc o1).alloc o2).alloc o3).heap[w1.heap.size]? = some o ∧ ((((w1.alloc o).alloc o1).alloc o2).alloc o3).heap[w1.heap.size + 1]? = some o1 ∧ ((((w1.alloc o).alloc o1).alloc o2).alloc o3).heap[w1.heap.size + 2]? = some o2 ∧ ((((w1.alloc o).alloc o1).alloc o2).alloc o3).heap[w1.heap.size + 3]? = some o3 := by
    intro o o1 o2 o3
    have e0 := World.alloc_heap_new w1 o
    have e1 := World.alloc_heap_new (w1.alloc o) o1
    have e2 := World.alloc_heap_new ((w1.alloc o).alloc o1) o2
    have e3 := World.alloc_heap_new (((w1.alloc o).alloc o1).alloc o2) o3
    simp only [World.size_alloc] at e1 e2 e3
    refine ⟨?_, ?_, ?_, ?_⟩
    · rw [Below.heap_alloc _ _ _ (by simp; omega), Below.heap_alloc _ _ _ (by simp; omega), Below.heap_alloc _ _ _ (by simp)]; exact e0
    · rw [Below.heap_alloc _ _ _ (by simp), Below.heap_alloc _ _ _ (by simp)]; exact e1
    · rw [Below.heap_alloc _ _ _ (by simp)]; exact e2
    · exact e3
  refine ⟨⟨⟨v, (n1 _ _ _ _).1, (((ho.alloc _).alloc _).alloc _).alloc _⟩, ?_, ?_, ?_⟩, ⟨(n1 _ _ _ _).2.1, (n1 _ _ _ _).2.2.1, (n1 _ _ _ _).2.2.2⟩, hlt⟩
  · have := ((((Below.refl w1.heap.size w1).alloc (Nat.le_refl _) (.cells #[v] 52)).alloc (by simp) (.cells #[.string path] 9)).alloc (by simp; omega) (.cells #[.string { data := #[47] }] 9)).alloc (by simp; omega) (.cells #[.int .i64 0] 3)
    exact (this.block _ hlt).trans hres
  · intro k h1 h2
    have : k = w1.heap.size + 1 ∨ k = w1.heap.size + 2 ∨ k = w1.heap.size + 3 := by omega
    rcases this with rfl | rfl | rfl
    · exact ⟨_, _, _, (n1 _ _ _ _).2.1, by decide⟩
    · exact ⟨_, _, _, (n1 _ _ _ _).2.2.1, by decide⟩
    · exact ⟨_, _, _, (n1 _ _ _ _).2.2.2, by decide⟩
  · exact (((hb.alloc (by omega) _).alloc (by simp; omega) _).alloc (by simp; omega) _).alloc (by simp; omega) _

/-- An append whose run is known, inside a fence. -/
theorem appendIn_run {F : Fence} {n' : Nat} {P : Program} {ops : Array Oper} {rest : List Oper} {o : Oper} {a : Act} {Q : Exit → Act → World → Prop} {w : World} {s x : Operand} {t u : TypeId} {v vx v' : Value} {w' : World} {ty : TypeId}
    (hr : (Builtin.append_ #[t, u] ty #[v, vx]).run P w = .ok v' w') (hgd : o.guard = none) (ho : o.op = .call { callee := .builtin .append, args := #[s, x], argTypes := #[t, u] }) (hty : o.type = ty)
    (hs : a.eval s = v) (hx : a.eval x = vx) (h : wpListIn F n' P ops Q rest (a.put o.dst v') w') : wpListIn F n' P ops Q (o :: rest) a w := by
  subst hty
  refine wpListIn_plain hgd fun K hK => ?_
  unfold Oper.wpIn
  refine ⟨?_, ?_⟩
  · simp [Oper.about, ho, resolve, Target.leads, Sem.run_pure]
  · rw [Oper.semAt_plain F _ _ (by rw [ho]; intro c hc'; cases hc')]
    simp [execOp, ho, resolve, invoke, builtin, hs, hx, hr, Result.andThen]
    exact hK _ _ h

theorem Beside_ret0 {s path : ByteArray} {W w : World} {tmps : Array Value} {D R : Nat} {out : ByteArray} (hR : W.heap[R]? = some (.cells #[.string out] 9 (0, 0))) (hK : W.heap[D]? = some (.deferred (some [])))
    (hp : tmps.getD 4 undef = .pointer (some ⟨R, 0, none⟩)) (hB : Below w.heap.size w W) (hD : w.heap.size ≤ D) (he : besideB s path = out) :
    bodyPostM Fence.wide 3 Tryd.prog Tryd.f15 (fun e w' => e = .returned (.string (besideB s path)) ∧ Below w.heap.size w w') Exit.ret { tmps := tmps, defers := [{ target := .collected D, args := #[] }] } W := by
  have hne : D ≠ R := by intro e; subst e; rw [hR] at hK; cases hK
  have hR2 : (W.putObj D (.deferred none)).heap[R]? = some (.cells #[.string out] 9 (0, 0)) := (World.putObj_heap_other (fun e => hne e.symm)).trans hR
  have hc : (W.putObj D (.deferred none)).cell? ⟨R, 0, none⟩ = some (.string out) := by simp [World.cell?, hR2]
  have hb : Below w.heap.size w (W.putObj D (.deferred none)) := hB.grown (grownBy_putObj' _ D _) hB.size (fun k e => by cases e; exact hD)
  have hp' : tmps[4]?.getD undef = .pointer (some ⟨R, 0, none⟩) := by simpa using hp
  refine ⟨by simp, .inl ⟨_, _, rfl, run_takeDeferred hK, ?_⟩⟩
  refine ⟨.string out, ?_, by rw [he], hb⟩
  simp [results, Tryd.results15, go_sem, hp', hc]

theorem Beside_ret {s path : ByteArray} {W w : World} {tmps : Array Value} {D R : Nat} {u : Value} {out : ByteArray} (hR : W.heap[R]? = some (.cells #[u] 9 (0, 0))) (hK : W.heap[D]? = some (.deferred (some [])))
    (hp : tmps.getD 4 undef = .pointer (some ⟨R, 0, none⟩)) (hB : Below w.heap.size w W) (hRw : w.heap.size ≤ R) (hD : w.heap.size ≤ D) (he : besideB s path = out) :
    bodyPostM Fence.wide 3 Tryd.prog Tryd.f15 (fun e w' => e = .returned (.string (besideB s path)) ∧ Below w.heap.size w w') Exit.ret { tmps := tmps, defers := [{ target := .collected D, args := #[] }] } (W.setCell ⟨R, 0, none⟩ (.string out)) := by
  have hne : D ≠ R := by intro e; subst e; rw [hR] at hK; cases hK
  refine Beside_ret0 ?_ ((Below.heap_setCell W _ _ D (by simpa using hne)).trans hK) hp (hB.setCell (p := ⟨R, 0, none⟩) hRw _) hD he
  have := Go.Joins.block_setCell (i := 0) hR (.string out); simpa using this

theorem info_byte : (Tryd.prog.info? 5).map (fun i => (i.zero, i.size, i.bytes)) = some (some (.int .u8 0), 1, 1) := by kernel_rfl

set_option maxRecDepth 100000 in
set_option maxHeartbeats 1000000 in
theorem Beside_any (s path : ByteArray) (w : World) (hm : Mx w) (hz : s.size + path.size ≤ 70368744177664) :
    Calls Tryd.prog 15 #[.string s, .string path] w fun e w' => e = .returned (.string (besideB s path)) ∧ Below w.heap.size w w' := by
  have hfol := folder_any s (w.alloc (.cells #[.string ⟨#[]⟩] 9)) (by omega)
  refine (callsIn_wide (n := 3)).1 ?_
  refine callsIn_of_wp_marks Tryd.func15 rfl trivial ?_ rfl
  simp only [Tryd.ntmps15, List.size_toArray, List.length_cons, List.length_nil, Nat.reduceAdd, Nat.reduceSub, Array.replicate_succ, Array.replicate_zero, List.push_toArray, List.append_toArray, List.nil_append, List.cons_append]
  gi_wp2
  refine ⟨trivial, (callsIn_wide.2 hfol).mono ?_⟩
  rintro e w1 ⟨v0, rfl, hown0, hb1⟩
  obtain ⟨a0, c0, rfl, hc1, hc2, hc3⟩ := hown0.shape
  gi_wp2
  refine ⟨trivial, (callsIn_wide.2 (splitSeq_any path _)).mono ?_⟩
  rintro e w2 ⟨rfl, rfl⟩
  gi_wp2
  obtain ⟨hst, hsb, hlt⟩ := wayStart path hb1 hown0
  clear hfol
  have hF0 := folderL_length s.data.toList
  generalize hfl : folderL s.data.toList = F0 at hst hsb hown0 hF0 ⊢
  have HF := hid hfl
  clear hfl hown0 hc1 hc2 hc3
  have hseq := fun n => splitSeq_cell n (w1.heap.size + 1) path _ (by simp) (by unfold maxLen; omega) hsb
  refine rangeFunc_cell (α := ByteArray) (encs := fun x => #[.string x]) (Kp := KeepsBoxes (w1.heap.size + 1)) (c := w1.heap.size + 1) (xs := pcsB path) rfl (by decide) (gf := 56) rfl trivial (enters_of Tryd.func56 (by kernel_rfl) rfl) (hseq _) (by simp) ?hKt ?hKb (fun _ => rfl)
    (fun pre W => ∃ way, pre.foldl stepWay (some F0) = some way ∧ way.length ≤ F0.length + bulk pre ∧ WayAt w.heap.size w1.heap.size w way W)
    (fun j pre W => j = .ret ∧ pre.foldl stepWay (some F0) = none ∧ W.heap[w.heap.size]? = some (.cells #[.string ⟨#[]⟩] 9 (0, 0)) ∧ Below w.heap.size w W)
    ?hI ?hIx ?hIc ?hIxc ⟨F0, rfl, by omega, hst⟩ (fun x => { tmps := #[.string s, .string path, undef, undef, .pointer (some ⟨w.heap.size, 0, none⟩), .pointer (some ⟨w1.heap.size, 0, none⟩), .string x, undef, undef, .string s,
          .slice a0 F0.length c0, .string path, .func (.func 56) #[] #[.pointer (some ⟨w1.heap.size + 1 + 1, 0, none⟩), .pointer (some ⟨w1.heap.size + 1, 0, none⟩), .pointer (some ⟨w1.heap.size + 1 + 2, 0, none⟩)],
          .string x, undef, undef, undef, undef, undef, undef, undef, undef, undef, undef, undef, undef, undef, undef, undef, undef, undef, undef, undef, undef, undef, undef, undef, undef, undef], defers := [] }) ?assign ?body ?done ?stop
  case hKt => intro A B C h1 h2 k h3 h4; rw [h2 k h3 h4, h1 k h3 h4]
  case hKb => intro W l o' hl k h3 h4; exact World.putObj_heap_other (by simp at hl; omega)
  case hI =>
    rintro pre X Y row ⟨way, h1, h2, h3⟩ hg hr
    exact ⟨way, h1, h2, h3.from hlt hg (fun r e => by have := hr r e; simp at this; exact ⟨by omega, this.2⟩)⟩
  case hIx =>
    rintro j pre X Y row ⟨rfl, h1, h2, h3⟩ hg hr
    have hlt' : w.heap.size < X.heap.size := (Array.getElem?_eq_some_iff.1 h2).1
    exact ⟨rfl, h1, keep_cells hg hr h2, h3.grown hg (by omega) (fun k e => by have := (hr k e).1; simp at this; omega)⟩
  case hIc => rintro pre X v ⟨way, h1, h2, h3⟩; exact ⟨way, h1, h2, h3.seq hlt v⟩
  case hIxc =>
    rintro j pre X v ⟨rfl, h1, h2, h3⟩
    exact ⟨rfl, h1, (Below.heap_setCell X _ v _ (by simp; omega)).trans h2, h3.setCell (p := ⟨w1.heap.size + 1, 0, none⟩) (by simp; omega) v⟩
  case assign =>
    intro l x W K hK
    gi_wp2
    exact hK
  case body =>
    rintro l pre x W ⟨way, hf, hl, hW⟩ hpre
    have hbk := bulk_prefix hpre
    rw [bulk_pcsB, bulk_append] at hbk
    have hbx : bulk [x] = x.size + 1 := by simp [bulk]
    have hsl : s.data.toList.length = s.size := by simp
    have hsz4 : ((((w1.alloc (.cells #[.slice a0 F0.length c0] 52)).alloc (.cells #[.string path] 9)).alloc (.cells #[.string { data := #[47] }] 9)).alloc (.cells #[.int .i64 0] 3)).heap.size = w1.heap.size + 4 := by simp
    have HN : ∀ way', stepWay (some way) x = some way' → Hid ((pre ++ [x]).foldl stepWay (some F0) = some way') := fun way' h => by show _ = _; rw [List.foldl_append, hf]; exact h
    have HX : stepWay (some way) x = none → Hid ((pre ++ [x]).foldl stepWay (some F0) = none) := fun h => by show _ = _; rw [List.foldl_append, hf]; exact h
    clear hf
    have hrf : W.frozen? ⟨w.heap.size, 0, none⟩ = false ∧ W.cell? ⟨w.heap.size, 0, none⟩ = some (.string ⟨#[]⟩) := by
      constructor <;> simp [World.frozen?, World.cell?, hW.res]
    obtain ⟨v, hv, hov⟩ := hW.own
    have hvf : W.frozen? ⟨w1.heap.size, 0, none⟩ = false ∧ W.cell? ⟨w1.heap.size, 0, none⟩ = some v := by
      constructor <;> simp [World.frozen?, World.cell?, hv]
    cases hx1 : (x.toList == [46]) with
    | true =>
      have HN' := HN way (by simp [stepWay, hx1])
      clear HN HX
      gi_wp2
      exact ⟨KeepsFrom.refl _ _, fun _ _ _ => rfl, way, HN'.out, by rw [bulk_append]; omega, hW⟩
    | false =>
      cases hx2 : (x.toList == [46, 46]) with
      | true =>
        have hlast := lastIndex_owned way W (by omega) hov
        rcases lastS_spec way with hlm | ⟨i, hil, hli⟩
        · have HX' := HX (by simp [stepWay, hx1, hx2, hlm])
          rw [hlm] at hlast
          obtain ⟨a, c, rfl, _⟩ := hov.shape
          obtain ⟨hr1, hr2⟩ := hrf
          obtain ⟨hv1, hv2⟩ := hvf
          clear HN HX hlm hpre hbk
          gi_wp2
          refine ⟨trivial, (CallsIn.inRound l (callsIn_wide.2 hlast)).mono ?_⟩
          rintro e w' ⟨rfl, rfl⟩
          gi_wp2
          exact ⟨(KeepsOthers.setCell _ _ _).from _, rfl, HX'.out, by have := Go.Joins.block_setCell (i := 0) hW.res (.string ⟨#[]⟩); simpa using this, hW.old.setCell (p := ⟨w.heap.size, 0, none⟩) (Nat.le_refl _) _⟩
        · have HN' := HN (way.take i) (by simp [stepWay, hx1, hx2, hli])
          rw [hli] at hlast
          rcases id hov with ⟨_, hnil⟩ | ⟨g, cap, cur, fz, rfl, _⟩
          · rw [hnil] at hil; simp at hil
          obtain ⟨hs0, hs1, hs2, _⟩ := hW.store hlt hv hov rfl ⟨rfl, rfl, rfl, Nat.le_refl _, fun _ _ _ => rfl⟩ (hov.cut (k := i) (by omega))
          obtain ⟨hr1, hr2⟩ := hrf
          obtain ⟨hv1, hv2⟩ := hvf
          clear HN HX hli
          gi_wp2
          refine ⟨trivial, (CallsIn.inRound l (callsIn_wide.2 hlast)).mono ?_⟩
          rintro e w' ⟨rfl, rfl⟩
          gi_wp2
          exact ⟨by rw [hsz4]; exact hs2, hs1, way.take i, HN'.out, by rw [bulk_append]; simp; omega, hs0⟩
      | false =>
        have HN' := HN (way ++ [47] ++ x.data.toList) (by simp [stepWay, hx1, hx2])
        obtain ⟨i0, hi, hz0, hz1, hz2⟩ := info_parts info_byte
        have hg1 := World.grownBy_alloc W (.cells #[.int .u8 47] 5) none
        have hW1 := hW.from hlt hg1 (fun r e => by cases e)
        have hv1 : (W.alloc (.cells #[.int .u8 47] 5)).heap[w1.heap.size]? = some (.cells #[v] 52 (0, 0)) := (Below.heap_alloc W _ _ (Array.getElem?_eq_some_iff.1 hv).1).trans hv
        have hov1 := hov.alloc (.cells #[.int .u8 47] 5)
        have hlr : w.heap.size < W.heap.size := (Array.getElem?_eq_some_iff.1 hW.res).1
        obtain ⟨va, Wa, hra, hoa, hga⟩ := append_byte (P := Tryd.prog) (t := 52) (ty := 52) Tryd.underlying52 hi hz0 hz1 hz2 hov1 47 ⟨W.heap.size, 0, none⟩ 1 (by rw [World.cell?_alloc_mark]; rfl) (by omega) (by simp; omega)
        obtain ⟨hs0, hs1, hs2, hva, hoa2, hca, hfa⟩ := hW1.store hlt hv1 hov1 rfl hga hoa
        have hlr2 : w.heap.size < (Wa.setCell ⟨w1.heap.size, 0, none⟩ va).heap.size := (Array.getElem?_eq_some_iff.1 hs0.res).1
        obtain ⟨vb, Wb, hrb, hob, hgb⟩ := append_str (P := Tryd.prog) (t := 52) (u := 9) (ty := 52) Tryd.underlying52 Tryd.underlying9 hi hz0 hz1 hz2 hoa2 x (by simp; omega) (by omega)
        obtain ⟨ht0, ht1, ht2, _, _, hcb, hfb⟩ := hs0.store hlt hva hoa2 rfl hgb hob
        have hcab : (Wa.setCell ⟨w1.heap.size, 0, none⟩ va).cell? ⟨w1.heap.size, 0, none⟩ = some va := by simp [World.cell?, hva]
        obtain ⟨aa, na, ca, rfl⟩ := hoa.slice
        obtain ⟨ab, nb, cb, rfl⟩ := hob.slice
        obtain ⟨av, nv, cv, rfl⟩ := hov.slice
        obtain ⟨hvf1, hvf2⟩ := hvf
        have HK := hid (show KeepsFrom (w1.heap.size + 4) W _ from ((KeepsOthers.alloc _ _).from _).trans (hs2.trans ht2))
        have HB : Hid (KeepsBoxes (w1.heap.size + 1) W _) := fun k h1 h2 => by
          rw [ht1 k h1 h2, hs1 k h1 h2]
          obtain ⟨cs, t, fr, hc, _⟩ := hW.box k (by omega) (by omega)
          exact Below.heap_alloc W _ k (Array.getElem?_eq_some_iff.1 hc).1
        have HT := hid ht0
        clear HN HX hi hz0 hz1 hz2 hg1 hW1 hv1 hov1 hoa hga hs0 hs1 hs2 hva hoa2 hob hgb ht0 ht1 ht2 hrf
        gi_wp2_with (first | (gi_at_builtin; refine appendIn_run hra rfl rfl rfl rfl rfl ?_; clear hra) | (gi_at_builtin; refine appendIn_run hrb rfl rfl rfl rfl rfl ?_; clear hrb))
        exact ⟨by rw [hsz4]; exact HK.out, HB.out, _, HN'.out, by rw [bulk_append]; simp; omega, HT.out⟩
  case done =>
    rintro D W hD ⟨way, hf, hl, hW⟩ hK
    have HWay : Hid (wayOf s path = some way) := by show _ = _; rw [wayOf, HF.out]; exact hf
    have hMx : Mx W := hm.below hW.old
    have hoz : (outOf way).size ≤ maxLen := by
      have h1 : (outOf way).size ≤ way.length := by
        have : (outOf way).size = (Lib.trimPrefix way [47]).length := by simp [outOf, ByteArray.size]
        rw [this]; unfold Lib.trimPrefix; split <;> simp
      have h2 : s.data.toList.length = s.size := by simp
      rw [bulk_pcsB] at hl
      unfold maxLen; omega
    obtain ⟨v, hv, hov⟩ := hW.own
    have hconv := string_of_owned (P := Tryd.prog) (src := 52) (dst := 9) Tryd.underlying52 Tryd.underlying5 Tryd.underlying9 hov
    have hvc : W.cell? ⟨w1.heap.size, 0, none⟩ = some v := by simp [World.cell?, hv]
    have htrim := Tryd.strings_TrimPrefix ⟨way.toArray⟩ { data := #[47] } W
    have hte : (⟨(Lib.trimPrefix (⟨way.toArray⟩ : ByteArray).data.toList ({ data := #[47] } : ByteArray).data.toList).toArray⟩ : ByteArray) = outOf way := rfl
    rw [hte] at htrim
    obtain ⟨m, hmx⟩ := hMx
    have hclean := Clean_any (outOf way) W m hmx hoz
    obtain ⟨av, nv, cv, rfl⟩ := hov.slice
    have HWA := hid hW
    have HOW : Hid (besideB s path = if cleanB (outOf way) then outOf way else ⟨#[]⟩) := by show _ = _; unfold besideB; rw [HWay.out]
    have HK := hid hK
    generalize outOf way = out at htrim hclean HOW hoz
    clear hf hl hov hte hmx HWay hW hst hsb hseq hK hv hoz hb1
    gi_wp2
    refine ⟨trivial, (callsIn_wide.2 htrim).mono ?_⟩
    rintro e w' ⟨rfl, rfl⟩
    gi_wp2
    refine ⟨trivial, (callsIn_wide.2 hclean).mono ?_⟩
    rintro e w3 ⟨rfl, hb3⟩
    have hres3 : w3.heap[w.heap.size]? = some (.cells #[.string ⟨#[]⟩] 9 (0, 0)) := (hb3.block _ (Array.getElem?_eq_some_iff.1 HWA.out.res).1).trans HWA.out.res
    have hK3 : w3.heap[D]? = some (.deferred (some [])) := (hb3.block _ (Array.getElem?_eq_some_iff.1 HK.out).1).trans HK.out
    have HB3 := hid (HWA.out.old.trans (hb3.mono (Nat.le_of_lt (Array.getElem?_eq_some_iff.1 HWA.out.res).1)))
    have hrc : w3.cell? ⟨w.heap.size, 0, none⟩ = some (.string ⟨#[]⟩) := by simp [World.cell?, hres3]
    have hrf : w3.frozen? ⟨w.heap.size, 0, none⟩ = false := by simp [World.frozen?, hres3]
    have HR3 := hid hres3
    have HK3 := hid hK3
    clear hres3 hK3 hb3 hclean htrim hconv
    cases hcl : cleanB out with
    | true =>
      have HE : Hid (besideB s path = out) := by show _ = _; rw [HOW.out, hcl]; rfl
      gi_wp2
      exact Beside_ret HR3.out HK3.out rfl HB3.out (Nat.le_refl _) (by simp at hD; omega) HE.out
    | false =>
      have HE : Hid (besideB s path = ⟨#[]⟩) := by show _ = _; rw [HOW.out, hcl]; rfl
      gi_wp2
      exact Beside_ret HR3.out HK3.out rfl HB3.out (Nat.le_refl _) (by simp at hD; omega) HE.out
  case stop =>
    rintro D j pre W hD hpre ⟨rfl, hf, hres, hold⟩ hK
    have HE : Hid (besideB s path = ⟨#[]⟩) := by
      show _ = _
      obtain ⟨rest, hrest⟩ := hpre
      have : wayOf s path = none := by
        rw [wayOf, HF.out, ← hrest, List.foldl_append, hf]
        clear hrest
        induction rest with
        | nil => rfl
        | cons a r ih => exact ih
      unfold besideB; rw [this]
    gi_wp2
    exact Beside_ret0 hres hK rfl hold (by simp at hD; omega) HE.out

end Go.Proofs.YthklodlhbafehaaDoor
