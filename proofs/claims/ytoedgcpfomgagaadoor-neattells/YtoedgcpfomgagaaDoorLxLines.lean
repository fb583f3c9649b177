/- Walk of Lines: tokens parted into lines, each with memory of its own. -/
import Derived.Test.YtoedgcpfomgagaaDoorLxTokens
import Derived.OneCell
import Derived.Deep.RegionLaw
namespace Go.Proofs.YtoedgcpfomgagaaDoor
open Go.RowKit Go.Shelf

def addTk (gs : List (List Tk)) (t : Tk) : List (List Tk) := match gs.reverse with
  | [] => [[t]]
  | g :: r => if t.first then gs ++ [[t]] else r.reverse ++ [g ++ [t]]
def linesF (ts : List Tk) : List (List Tk) := ts.foldl addTk []

/-- The lines so far, in memory. -/
structure LnSt (w : World) (gs : List (List Tk)) (vs : List Value) (v : Value) (wr : World) : Prop where
  old : Below w.heap.size w wr
  len : vs.length = gs.length
  outer : wr.ownsRow w.heap.size 29 1 v gs.length vs
  inner : ∀ (j : Nat) g u, gs[j]? = some g → vs[j]? = some u → wr.ownsRow w.heap.size 35 11 u g.length (cellsT g)
  apart : ∀ (i j : Nat) u u', i ≠ j → vs[i]? = some u → vs[j]? = some u' → u.ownBlock = none ∨ u.ownBlock ≠ u'.ownBlock

theorem owns_below {w w' : World} {base : Nat} {e : TypeId} {size : Nat} {v : Value} {n : Nat} {xs : List Value} (h : w.ownsRow base e size v n xs) (hb : Below w.heap.size w w') : w'.ownsRow base e size v n xs :=
  owns_same h (fun g _ hl => hb.block g hl)

theorem LnSt.below {w : World} {gs : List (List Tk)} {vs : List Value} {v : Value} {wr wr' : World} (h : LnSt w gs vs v wr) (hb : Below wr.heap.size wr wr') : LnSt w gs vs v wr' :=
  ⟨h.old.trans (hb.mono h.old.size), h.len, owns_below h.outer hb, fun j g u hg hu => owns_below (h.inner j g u hg hu) hb, h.apart⟩

/-- A line more, with nothing in it. -/
theorem LnSt.line {w : World} {gs : List (List Tk)} {vs : List Value} {v v' : Value} {wr w2 : World} (h : LnSt w gs vs v wr) (hg : wr.grownBy w2 v.ownBlock) (ho : w2.ownsRow w.heap.size 29 1 v' (gs.length + 1) (vs ++ [.slice none 0 0])) :
    LnSt w (gs ++ [[]]) (vs ++ [.slice none 0 0]) v' w2 := by
  have hl := h.len
  refine ⟨h.old.grown hg h.old.size (fun k e => (h.outer.lt k e).1), by simp [hl], by rw [List.length_append]; exact ho, fun j g u hg' hu => ?_, fun i j u u' hij hu hu' => ?_⟩
  · by_cases hj : j < gs.length
    · rw [List.getElem?_append_left hj] at hg'
      rw [List.getElem?_append_left (by omega)] at hu
      have hi := h.inner j g u hg' hu
      exact hi.kept hg (row_apart (by decide) hi h.outer)
    · rw [List.getElem?_append_right (by omega)] at hg' hu
      rw [hl] at hu
      cases hj0 : j - gs.length with
      | zero => rw [hj0] at hg' hu; simp at hg' hu; subst hg' hu; exact ⟨by simp [cellsT], .inl ⟨rfl, rfl⟩⟩
      | succ m => rw [hj0] at hg'; simp at hg'
  · by_cases hi : i < vs.length
    · rw [List.getElem?_append_left hi] at hu
      by_cases hj : j < vs.length
      · rw [List.getElem?_append_left hj] at hu'
        exact h.apart i j u u' hij hu hu'
      · rw [List.getElem?_append_right (by omega)] at hu'
        cases hj0 : j - vs.length with
        | zero =>
          rw [hj0] at hu'; simp at hu'; subst hu'
          cases hb : u.ownBlock with
          | none => exact .inl rfl
          | some g => exact .inr (by simp [Value.ownBlock])
        | succ m => rw [hj0] at hu'; simp at hu'
    · rw [List.getElem?_append_right (by omega)] at hu
      cases hi0 : i - vs.length with
      | zero => rw [hi0] at hu; simp at hu; subst hu; exact .inl rfl
      | succ m => rw [hi0] at hu; simp at hu

theorem owns_set {w : World} {base : Nat} {e : TypeId} {g n cap i : Nat} {xs : List Value} (h : w.ownsRow base e 1 (.slice (some ⟨g, 0, none⟩) n cap) n xs) (x : Value) : (w.setCell ⟨g, i, none⟩ x).ownsRow base e 1 (.slice (some ⟨g, 0, none⟩) n cap) n (xs.set i x) := by
  obtain ⟨hl, h⟩ := h
  rcases h with ⟨hv, _⟩ | ⟨g', cap', cur, hv, hb, hh, h1, h2, h3, h4⟩
  · cases hv
  · cases hv
    refine ⟨by simp [hl], .inr ⟨g, cap, cur.setIfInBounds i x, rfl, hb, Go.Joins.block_setCell hh x, h1, h2, by simpa using h3, ?_⟩⟩
    rw [Array.toList_setIfInBounds, ← h4, List.take_set]

/-- A token more, in the last line. -/
theorem LnSt.add {w : World} {gs : List (List Tk)} {g : List Tk} {t : Tk} {vs : List Value} {u u' : Value} {gO cO : Nat} {wr W0 w2 : World} (h : LnSt w (gs ++ [g]) (vs ++ [u]) (.slice (some ⟨gO, 0, none⟩) (gs.length + 1) cO) wr) (hb : Below wr.heap.size wr W0)
    (hg : W0.grownBy w2 u.ownBlock) (hown : w2.ownsRow w.heap.size 35 11 u' (g.length + 1) (cellsT g ++ encT t)) (hat : u'.ownBlock = u.ownBlock ∨ u'.ownBlock = some W0.heap.size) :
    LnSt w (gs ++ [g ++ [t]]) (vs ++ [u']) (.slice (some ⟨gO, 0, none⟩) (gs.length + 1) cO) (w2.setCell ⟨gO, gs.length, none⟩ u') := by
  have hl : vs.length = gs.length := by have := h.len; simpa using this
  have h0 := h.below hb
  have hu := h0.inner gs.length g u (by simp) (by rw [← hl]; simp)
  have hO0 : W0.ownsRow w.heap.size 29 1 (.slice (some ⟨gO, 0, none⟩) (gs.length + 1) cO) (gs.length + 1) (vs ++ [u]) := by have := h0.outer; simpa using this
  have hO2 := hO0.kept hg (row_apart (by decide) hO0 hu)
  have hO3 := owns_set hO2 (i := gs.length) u'
  have hset : (vs ++ [u]).set gs.length u' = vs ++ [u'] := by rw [← hl, List.set_append_right _ _ (Nat.le_refl _)]; simp
  rw [hset] at hO3
  have hOb : w.heap.size ≤ gO := (hO0.lt gO rfl).1
  have ne : ∀ (x : Value) (n : Nat) (cs : List Value), w2.ownsRow w.heap.size 35 11 x n cs → x.ownBlock ≠ some gO := fun x n cs hx e => by
    rcases row_apart (by decide) hx hO2 with h | h
    · rw [h] at e; cases e
    · exact h (by rw [e]; rfl)
  refine ⟨(h0.old.grown hg h0.old.size (fun k e => (hu.lt k e).1)).setCell hOb _, by simp [hl], by rw [List.length_append]; exact hO3, fun j g' x hg' hx => ?_, fun i j x x' hij hx hx' => ?_⟩
  · by_cases hj : j < gs.length
    · rw [List.getElem?_append_left hj] at hg'
      rw [List.getElem?_append_left (by omega)] at hx
      have h1 := h0.inner j g' x (by rw [List.getElem?_append_left hj]; exact hg') (by rw [List.getElem?_append_left (by omega)]; exact hx)
      have h2 := h1.kept hg (h0.apart j gs.length x u (by omega) (by rw [List.getElem?_append_left (by omega)]; exact hx) (by rw [← hl]; simp))
      exact ownsRow_setCell_other h2 (ne _ _ _ h2) u'
    · rw [List.getElem?_append_right (by omega)] at hg' hx
      rw [hl] at hx
      cases hj0 : j - gs.length with
      | zero =>
        rw [hj0] at hg' hx; simp at hg' hx; subst hg' hx
        have : w2.ownsRow w.heap.size 35 11 u' (g ++ [t]).length (cellsT (g ++ [t])) := by rw [cellsT_snoc, List.length_append]; exact hown
        exact ownsRow_setCell_other this (ne _ _ _ this) u'
      | succ m => rw [hj0] at hg'; simp at hg'
  · have old : ∀ (q : Nat) (y : Value), q < vs.length → vs[q]? = some y → y.ownBlock = none ∨ y.ownBlock ≠ u'.ownBlock := fun q y hq hy => by
      have hy' : (vs ++ [u])[q]? = some y := by rw [List.getElem?_append_left hq]; exact hy
      rcases hat with e | e
      · rw [e]; exact h0.apart q gs.length y u (by omega) hy' (by rw [← hl]; simp)
      · cases hb' : y.ownBlock with
        | none => exact .inl rfl
        | some k =>
          refine .inr ?_
          rw [e]
          intro e2
          have hq2 : q < gs.length := by omega
          have := (h.inner q _ y (by rw [List.getElem?_append_left hq2]; exact List.getElem?_eq_getElem hq2) hy').lt k hb'
          have h3 := hb.size
          injection e2 with e2
          omega
    by_cases hi : i < vs.length
    · rw [List.getElem?_append_left hi] at hx
      by_cases hj : j < vs.length
      · rw [List.getElem?_append_left hj] at hx'
        exact h0.apart i j x x' hij (by rw [List.getElem?_append_left hi]; exact hx) (by rw [List.getElem?_append_left hj]; exact hx')
      · rw [List.getElem?_append_right (by omega)] at hx'
        cases hj0 : j - vs.length with
        | zero => rw [hj0] at hx'; simp at hx'; subst hx'; exact old i x hi hx
        | succ m => rw [hj0] at hx'; simp at hx'
    · rw [List.getElem?_append_right (by omega)] at hx
      cases hi0 : i - vs.length with
      | zero =>
        rw [hi0] at hx; simp at hx; subst hx
        have hj : j < vs.length := by
          rcases Nat.lt_or_ge j vs.length with h | h
          · exact h
          · rw [List.getElem?_append_right h] at hx'
            cases hj0 : j - vs.length with
            | zero => omega
            | succ m => rw [hj0] at hx'; simp at hx'
        rw [List.getElem?_append_left hj] at hx'
        rcases old j x' hj hx' with h | h
        · cases hb' : u'.ownBlock with
          | none => exact .inl rfl
          | some k => exact .inr (by rw [h]; simp)
        · exact .inr (fun e => h e.symm)
      | succ m => rw [hi0] at hx; simp at hx

theorem LnSt.cellO {w : World} {gs : List (List Tk)} {g : List Tk} {vs : List Value} {u : Value} {gO cO : Nat} {wr W0 w2 : World} (h : LnSt w (gs ++ [g]) (vs ++ [u]) (.slice (some ⟨gO, 0, none⟩) (gs.length + 1) cO) wr) (hb : Below wr.heap.size wr W0)
    (hg : W0.grownBy w2 u.ownBlock) : w2.cell? ⟨gO, gs.length, none⟩ = some u ∧ w2.frozen? ⟨gO, gs.length, none⟩ = false := by
  have hl : vs.length = gs.length := by have := h.len; simpa using this
  have h0 := h.below hb
  have hu := h0.inner gs.length g u (by simp) (by rw [← hl]; simp)
  have hO0 : W0.ownsRow w.heap.size 29 1 (.slice (some ⟨gO, 0, none⟩) (gs.length + 1) cO) (gs.length + 1) (vs ++ [u]) := by have := h0.outer; simpa using this
  have hO2 := hO0.kept hg (row_apart (by decide) hO0 hu)
  refine ⟨row_cell hO2 gs.length u (by rw [← hl]; simp), ?_⟩
  rcases hO2.2 with ⟨h, _⟩ | ⟨g', cap, cur, h, _, hh, _⟩
  · injection h with h _ _; cases h
  · injection h with h _ _; injection h with h; injection h with h _ _; subst h; exact (block_facts hh _).2

theorem info_row : (Tryd.prog.info? 29).map (fun i => (i.zero, i.size, i.bytes)) = some (some (.slice none 0 0), 1, 24) := by kernel_rfl

theorem lines_step (ts : List Tk) (k : Nat) (t : Tk) (h : ts[k]? = some t) : linesF (ts.take (k + 1)) = addTk (linesF (ts.take k)) t := by
  rw [List.take_add_one, h]; simp [linesF]
theorem lines_ne (ts : List Tk) : ∀ k, 0 < k → k ≤ ts.length → linesF (ts.take k) ≠ []
  | 0, h, _ => by omega
  | k + 1, _, hk => by
    rw [lines_step ts k ts[k] (List.getElem?_eq_getElem (by omega))]
    unfold addTk
    split
    · simp
    · split <;> simp

/-- What a slice of lines holds. -/
def LAt (w : World) (v : Value) (gs : List (List Tk)) : Prop :=
  ∃ a c, v = .slice a gs.length c ∧ (gs = [] ∨ ∃ b, a = some ⟨b, 0, none⟩ ∧ b < w.heap.size ∧ ∀ (j : Nat) g, gs[j]? = some g → ∃ aj cj, w.cell? ⟨b, j, none⟩ = some (.slice aj g.length cj) ∧ TAt w aj g ∧ g.length ≤ cj)

theorem LnSt.lat {w : World} {gs : List (List Tk)} {vs : List Value} {v : Value} {wr : World} (h : LnSt w gs vs v wr) : LAt wr v gs := by
  rcases h.outer.2 with ⟨rfl, h0⟩ | ⟨g, cap, cur, rfl, hb, hh, h1, h2, h3, h4⟩
  · exact ⟨none, 0, by rw [h0], .inl (List.eq_nil_of_length_eq_zero h0)⟩
  · refine ⟨_, _, rfl, .inr ⟨g, rfl, lt_of_block hh, fun j x hx => ?_⟩⟩
    have hj : j < gs.length := (List.getElem?_eq_some_iff.1 hx).1
    have hjv : j < vs.length := by rw [h.len]; exact hj
    obtain ⟨aj, cj, hv, hta⟩ := TAt.of_row (h.inner j x _ hx (List.getElem?_eq_getElem hjv))
    refine ⟨aj, cj, ?_, hta, row_cap (h.inner j x _ hx (List.getElem?_eq_getElem hjv)) hv⟩
    rw [← hv]
    exact row_cell h.outer j _ (List.getElem?_eq_getElem hjv)

theorem addTk_len (gs : List (List Tk)) (t : Tk) (n : Nat) (h1 : gs.length ≤ n) (h2 : ∀ g ∈ gs, g.length ≤ n) : (addTk gs t).length ≤ n + 1 ∧ ∀ g ∈ addTk gs t, g.length ≤ n + 1 := by
  unfold addTk
  split
  · exact ⟨by simp, fun g hg => by simp at hg; subst hg; simp⟩
  · rename_i x r hr
    have hgs : gs = r.reverse ++ [x] := by have := congrArg List.reverse hr; simpa using this
    split
    · refine ⟨by simp; omega, fun g hg => ?_⟩
      rcases List.mem_append.1 hg with h | h
      · have := h2 g h; omega
      · simp at h; subst h; simp
    · subst hgs
      refine ⟨by simp at h1 ⊢; omega, fun g hg => ?_⟩
      rcases List.mem_append.1 hg with h | h
      · have := h2 g (List.mem_append_left _ h); omega
      · simp at h; subst h; have := h2 x (by simp); simp; omega
theorem lines_len (ts : List Tk) : ∀ k, k ≤ ts.length → (linesF (ts.take k)).length ≤ k ∧ ∀ g ∈ linesF (ts.take k), g.length ≤ k
  | 0, _ => ⟨by simp [linesF], fun g hg => by simp [linesF] at hg⟩
  | k + 1, hk => by
    obtain ⟨h1, h2⟩ := lines_len ts k (by omega)
    rw [lines_step ts k ts[k] (List.getElem?_eq_getElem (by omega))]
    exact addTk_len _ _ k h1 h2

theorem addTk_new (gs : List (List Tk)) (t : Tk) (h : gs = [] ∨ t.first = true) : addTk gs t = gs ++ [[] ++ [t]] := by
  unfold addTk
  rcases h with rfl | h
  · rfl
  · split
    · rename_i hr
      have : gs = [] := by simpa using hr
      subst this; rfl
    · rw [if_pos h]; rfl
theorem addTk_on (g0 : List (List Tk)) (g : List Tk) (t : Tk) (h : t.first = false) : addTk (g0 ++ [g]) t = g0 ++ [g ++ [t]] := by
  unfold addTk
  rw [List.reverse_append]
  simp [h]

theorem LnSt.last {w : World} {gs : List (List Tk)} {vs : List Value} {v : Value} {wr : World} (h : LnSt w gs vs v wr) (hne : gs ≠ []) : ∃ g0 g vs0 u gO cO, gs = g0 ++ [g] ∧ vs = vs0 ++ [u] ∧ v = .slice (some ⟨gO, 0, none⟩) (g0.length + 1) cO := by
  obtain ⟨g0, g, hg⟩ : ∃ g0 g, gs = g0 ++ [g] := ⟨gs.dropLast, gs.getLast hne, (List.dropLast_concat_getLast hne).symm⟩
  have hvn : vs ≠ [] := fun e => by have := h.len; rw [e, hg] at this; simp at this
  obtain ⟨vs0, u, hv⟩ : ∃ vs0 u, vs = vs0 ++ [u] := ⟨vs.dropLast, vs.getLast hvn, (List.dropLast_concat_getLast hvn).symm⟩
  rcases h.outer.2 with ⟨_, h0⟩ | ⟨gO, cO, cur, hv', _⟩
  · rw [hg] at h0; simp at h0
  · exact ⟨g0, g, vs0, u, gO, cO, hg, hv, by rw [hv', hg]; simp⟩

set_option maxRecDepth 100000 in
set_option maxHeartbeats 2000000 in
theorem Lines_st (a : Option Addr) (c : Nat) (ts : List Tk) (w : World) (hT : TAt w a ts) (hl : ts.length ≤ 1048576) :
    Calls Tryd.prog 11 #[.slice a ts.length c] w fun e w' => ∃ v vs, e = .returned v ∧ LnSt w (linesF ts) vs v w' := by
  obtain ⟨ti, hti, htz0, htz1, htz2⟩ := info_parts info_tok
  obtain ⟨ri, hri, hrz0, hrz1, hrz2⟩ := info_parts info_row
  go_enter Tryd.func11, Tryd.ntmps11
  go_wp2_with fail
  go_loopw [3, 9] (fun v x wr => ∃ (k : Nat) (vs : List Value), k ≤ ts.length ∧ x = .int .i64 k ∧ (∃ av nv cv, v = .slice av nv cv) ∧ Hid (LnSt w (linesF (ts.take k)) vs v wr)) (fun _ x _ => ts.length - (intOf x).toNat)
  case atStart => exact ⟨0, [], Nat.zero_le _, rfl, ⟨_, _, _, rfl⟩, ⟨Below.refl _ _, rfl, ⟨rfl, .inl ⟨rfl, rfl⟩⟩, fun j g u hg => (by simp [linesF] at hg), fun i j u u' _ hu => (by simp at hu)⟩⟩
  case round =>
    obtain ⟨k, vs, hk, rfl, ⟨av, nv, cv, rfl⟩, HL⟩ := hrel
    by_cases hlt : k < ts.length
    · rcases hT with rfl | ⟨b0, off, rfl, hb0, hc⟩
      · simp at hlt
      have hxk : ts[k]? = some ts[k] := List.getElem?_eq_getElem hlt
      have hcx : ∀ i v, (encT ts[k])[i]? = some v → wr.cell? ⟨b0, off + k * 11 + i, none⟩ = some v := fun i v hv => (HL.out.old.cell (p := ⟨b0, _, none⟩) hb0).trans (hc k _ hxk i v hv)
      have HSt := hid (lines_step ts k ts[k] hxk)
      have HNe := hid (lines_ne ts k)
      have HN := hid (lines_len ts k hk)
      have HZ0 : Hid (k = 0 → linesF (ts.take k) = []) := fun e => by rw [e]; rfl
      generalize ts[k] = t at hcx HSt
      generalize hgs : linesF (ts.take k) = gs at HL HN HSt HNe HZ0
      obtain ⟨tk, tt, tsp, tfi, tf, tl, th, tn⟩ := t
      have c0 := hcx 0 _ rfl
      have c1 := hcx 1 _ rfl
      have c2 := hcx 2 _ rfl
      have c3 := hcx 3 _ rfl
      have c4 := hcx 4 _ rfl
      have c5 := hcx 5 _ rfl
      have c6 := hcx 6 _ rfl
      have c7 := hcx 7 _ rfl
      have c8 := hcx 8 _ rfl
      have c9 := hcx 9 _ rfl
      have c10 := hcx 10 _ rfl
      simp only [Nat.add_zero] at c0
      clear hcx hxk hc hgs
      have HL2 := hid (HL.out.below ((Below.refl _ wr).alloc (Nat.le_refl _) (.cells #[.int .i64 tk, .string tt, .bool tsp, .bool tfi, .int .i64 tf, .int .i64 tl, .int .i64 th, .int .i64 tn, .slice none 0 0, .slice none 0 0, .int .i64 0] 35)))
      have HXb := hid (heap_alloc_new wr (.cells #[.int .i64 tk, .string tt, .bool tsp, .bool tfi, .int .i64 tf, .int .i64 tl, .int .i64 th, .int .i64 tn, .slice none 0 0, .slice none 0 0, .int .i64 0] 35))
      have hsz : (wr.alloc (.cells #[.int .i64 tk, .string tt, .bool tsp, .bool tfi, .int .i64 tf, .int .i64 tl, .int .i64 th, .int .i64 tn, .slice none 0 0, .slice none 0 0, .int .i64 0] 35)).heap.size = wr.heap.size + 1 := by simp
      have hwz := HL.out.old.size
      have hnl := HN.out.1
      have HVl : Hid (∀ k, some k = (Value.slice av nv cv).ownBlock → k < wr.heap.size) := fun k e => (HL.out.outer.lt k e.symm).2
      clear HL
      by_cases hnew : k = 0 ∨ tfi = true
      · have hgb : gs.length ≤ 1048576 := by omega
        rcases Nat.eq_zero_or_pos k with rfl | hkp
        · simp only [Nat.zero_mul, Nat.add_zero] at c0 c1 c2 c3 c4 c5 c6 c7 c8 c9 c10
          go_wp2_with (at_builtin; refine wpList_append_own _ rfl _ _ 40 rfl w.heap.size 29 ri _ 1 24 Tryd.underlying40 hri hrz0 hrz1 hrz2 rfl (by decide) _ _ _ rfl (HL2.out.outer.alloc _) ⟨wr.heap.size + 1, 0, none⟩ 1 1 [.slice none 0 0] rfl rfl (by rw [← hsz]; exact one_new _ _ _) (by simp; rfl) (by unfold maxLen; omega) (by omega) (by simp; omega) ?_)
          intro v' w3 hown3 hg3 hat3
          have HS := hid ((HL2.out.below ((Below.refl _ _).alloc (Nat.le_refl _) _)).line hg3 hown3)
          have HXs := hid ((hg3.block wr.heap.size (by simp; omega) (fun e => absurd (HVl.out _ e) (by omega))).trans ((Below.refl _ _).alloc (Nat.le_refl _) (.cells #[.slice none 0 0] 29) |>.block wr.heap.size (by simp)) |>.trans HXb.out)
          have HSt2 : Hid (linesF (ts.take (0 + 1)) = gs ++ [[] ++ [⟨tk, tt, tsp, tfi, tf, tl, th, tn⟩]]) := HSt.out.trans (addTk_new _ _ (.inl (HZ0.out (by first | trivial | rfl))))
          obtain ⟨g0, g, vs0, u, gO, cO, hg0, hv0, rfl⟩ := HS.out.last (by simp)
          obtain ⟨rfl, hq⟩ := List.append_inj' hg0 rfl
          injection hq with hq _
          subst hq
          obtain ⟨rfl, hq⟩ := List.append_inj' hv0 rfl
          injection hq with hq _
          subst hq
          clear HL2 HXb hnew hg3 hown3 hat3 hg0 hv0 hsz HSt
          have hgb2 : (0 : Int) ≤ (gs.length : Int) := by omega
          have hgb3 : (gs.length : Int) ≤ 1048576 := by omega
          have hlg : vs.length = gs.length := by have := HS.out.len; simpa using this
          have hOc : w3.cell? ⟨gO, gs.length, none⟩ = some (.slice none 0 0) := row_cell (n := gs.length + 1) (by have := HS.out.outer; simpa using this) gs.length _ (by rw [← hlg]; simp)
          have hin := HS.out.inner gs.length [] (.slice none 0 0) (by simp) (by rw [← hlg]; simp)
          have hX := block_facts HXs.out
          have X0 := (hX 0).1
          have X1 := (hX 1).1
          have X2 := (hX 2).1
          have X3 := (hX 3).1
          have X4 := (hX 4).1
          have X5 := (hX 5).1
          have X6 := (hX 6).1
          have X7 := (hX 7).1
          have X8 := (hX 8).1
          have X9 := (hX 9).1
          have X10 := (hX 10).1
          simp at X0 X1 X2 X3 X4 X5 X6 X7 X8 X9 X10
          have hwq : IntKind.i64.wrap ((gs.length : Int) + 1 - 1) = (gs.length : Int) := by rw [IntKind.wrap_i64]; omega
          have hgO : gO < w3.heap.size := (HS.out.outer.lt gO rfl).2
          have hfO : w3.frozen? ⟨gO, gs.length, none⟩ = false := by
            rcases HS.out.outer.2 with ⟨h, _⟩ | ⟨g', cap, cur, h, _, hh, _⟩
            · injection h with h _ _; cases h
            · injection h with h _ _; injection h with h; injection h with h _ _; subst h; exact (block_facts hh _).2
          have hwS := HS.out.old.size
          have hXl := lt_of_block HXs.out
          have HIn := hid hin
          have hlt2 : (gs.length : Int) < (gs.length : Int) + 1 := by omega
          clear hX hin c0 c1 c2 c3 c4 c5 c6 c7 c8 c9 c10
          go_wp2_with fail
          go_region_law ((refine step_append_any (by rfl) _ _ 29 (by rfl) w.heap.size 35 ti _ 11 120 Tryd.underlying29 hti htz0 htz1 htz2 (by rfl) (by decide) _ _ _ (by rfl) (owns_below HIn.out (by repeat' (first | exact Below.refl _ _ | apply Below.drew | apply Below.alloc | (simp; done) | (simp; omega)))) _ 1 1 (encT ⟨tk, tt, tsp, tfi, tf, tl, th, tn⟩) (by rfl) (by rfl) (by exact eleven_new w3 ⟨tk, tt, tsp, tfi, tf, tl, th, tn⟩ _) (eleven_one _) (by unfold maxLen; simp) (by simp) (by simp; omega) ?_; intro u' w4 hown2 hg2 hat2; obtain ⟨hO4, hF4⟩ := HS.out.cellO (by repeat' (first | exact Below.refl _ _ | apply Below.drew | apply Below.alloc | (simp; done) | (simp; omega))) hg2; obtain ⟨a4, n4, c4, rfl⟩ := row_slice hown2))
          all_goals
            have HA := hid (HS.out.add (t := ⟨tk, tt, tsp, tfi, tf, tl, th, tn⟩) (by repeat' (first | exact Below.refl _ _ | apply Below.drew | apply Below.alloc | (simp; done) | (simp; omega))) hg2 hown2 hat2)
            rw [← HSt2.out] at HA
            generalize w4.setCell ⟨gO, gs.length, none⟩ (.slice a4 n4 c4) = w5 at HA ⊢
            clear hown2 hg2 hat2 hO4 hF4
            go_wp2
            go_roundw
            case rel => exact ⟨0 + 1, _, by omega, by go_num, ⟨_, _, _, rfl⟩, HA⟩
            case measure => simp [intOf]; omega
        · obtain ⟨m, rfl⟩ : ∃ m, k = m + 1 := ⟨k - 1, by omega⟩
          have hfi : tfi = true := by rcases hnew with h | h; exact absurd h (by omega); exact h
          subst hfi
          have hk0 : (((m : Int) + 1) == 0) = false := by simp; omega
          push_cast
          go_wp2_with (at_builtin; refine wpList_append_own _ rfl _ _ 40 rfl w.heap.size 29 ri _ 1 24 Tryd.underlying40 hri hrz0 hrz1 hrz2 rfl (by decide) _ _ _ rfl (HL2.out.outer.alloc _) ⟨wr.heap.size + 1, 0, none⟩ 1 1 [.slice none 0 0] rfl rfl (by rw [← hsz]; exact one_new _ _ _) (by simp; rfl) (by unfold maxLen; omega) (by omega) (by simp; omega) ?_)
          intro v' w3 hown3 hg3 hat3
          have HS := hid ((HL2.out.below ((Below.refl _ _).alloc (Nat.le_refl _) _)).line hg3 hown3)
          have HXs := hid ((hg3.block wr.heap.size (by simp; omega) (fun e => absurd (HVl.out _ e) (by omega))).trans ((Below.refl _ _).alloc (Nat.le_refl _) (.cells #[.slice none 0 0] 29) |>.block wr.heap.size (by simp)) |>.trans HXb.out)
          have HSt2 : Hid (linesF (ts.take ((m + 1) + 1)) = gs ++ [[] ++ [⟨tk, tt, tsp, true, tf, tl, th, tn⟩]]) := HSt.out.trans (addTk_new _ _ (.inr rfl))
          obtain ⟨g0, g, vs0, u, gO, cO, hg0, hv0, rfl⟩ := HS.out.last (by simp)
          obtain ⟨rfl, hq⟩ := List.append_inj' hg0 rfl
          injection hq with hq _
          subst hq
          obtain ⟨rfl, hq⟩ := List.append_inj' hv0 rfl
          injection hq with hq _
          subst hq
          clear HL2 HXb hnew hg3 hown3 hat3 hg0 hv0 hsz HSt
          have hgb2 : (0 : Int) ≤ (gs.length : Int) := by omega
          have hgb3 : (gs.length : Int) ≤ 1048576 := by omega
          have hlg : vs.length = gs.length := by have := HS.out.len; simpa using this
          have hOc : w3.cell? ⟨gO, gs.length, none⟩ = some (.slice none 0 0) := row_cell (n := gs.length + 1) (by have := HS.out.outer; simpa using this) gs.length _ (by rw [← hlg]; simp)
          have hin := HS.out.inner gs.length [] (.slice none 0 0) (by simp) (by rw [← hlg]; simp)
          have hX := block_facts HXs.out
          have X0 := (hX 0).1
          have X1 := (hX 1).1
          have X2 := (hX 2).1
          have X3 := (hX 3).1
          have X4 := (hX 4).1
          have X5 := (hX 5).1
          have X6 := (hX 6).1
          have X7 := (hX 7).1
          have X8 := (hX 8).1
          have X9 := (hX 9).1
          have X10 := (hX 10).1
          simp at X0 X1 X2 X3 X4 X5 X6 X7 X8 X9 X10
          have hwq : IntKind.i64.wrap ((gs.length : Int) + 1 - 1) = (gs.length : Int) := by rw [IntKind.wrap_i64]; omega
          have hgO : gO < w3.heap.size := (HS.out.outer.lt gO rfl).2
          have hfO : w3.frozen? ⟨gO, gs.length, none⟩ = false := by
            rcases HS.out.outer.2 with ⟨h, _⟩ | ⟨g', cap, cur, h, _, hh, _⟩
            · injection h with h _ _; cases h
            · injection h with h _ _; injection h with h; injection h with h _ _; subst h; exact (block_facts hh _).2
          have hwS := HS.out.old.size
          have hXl := lt_of_block HXs.out
          have HIn := hid hin
          have hlt2 : (gs.length : Int) < (gs.length : Int) + 1 := by omega
          clear hX hin c0 c1 c2 c3 c4 c5 c6 c7 c8 c9 c10
          go_wp2_with fail
          go_region_law ((refine step_append_any (by rfl) _ _ 29 (by rfl) w.heap.size 35 ti _ 11 120 Tryd.underlying29 hti htz0 htz1 htz2 (by rfl) (by decide) _ _ _ (by rfl) (owns_below HIn.out (by repeat' (first | exact Below.refl _ _ | apply Below.drew | apply Below.alloc | (simp; done) | (simp; omega)))) _ 1 1 (encT ⟨tk, tt, tsp, true, tf, tl, th, tn⟩) (by rfl) (by rfl) (by exact eleven_new w3 ⟨tk, tt, tsp, true, tf, tl, th, tn⟩ _) (eleven_one _) (by unfold maxLen; simp) (by simp) (by simp; omega) ?_; intro u' w4 hown2 hg2 hat2; obtain ⟨hO4, hF4⟩ := HS.out.cellO (by repeat' (first | exact Below.refl _ _ | apply Below.drew | apply Below.alloc | (simp; done) | (simp; omega))) hg2; obtain ⟨a4, n4, c4, rfl⟩ := row_slice hown2))
          all_goals
            have HA := hid (HS.out.add (t := ⟨tk, tt, tsp, true, tf, tl, th, tn⟩) (by repeat' (first | exact Below.refl _ _ | apply Below.drew | apply Below.alloc | (simp; done) | (simp; omega))) hg2 hown2 hat2)
            rw [← HSt2.out] at HA
            generalize w4.setCell ⟨gO, gs.length, none⟩ (.slice a4 n4 c4) = w5 at HA ⊢
            clear hown2 hg2 hat2 hO4 hF4
            go_wp2
            go_roundw
            case rel => exact ⟨(m + 1) + 1, _, by omega, by go_num, ⟨_, _, _, rfl⟩, HA⟩
            case measure => simp [intOf]; omega
      · obtain ⟨m, rfl⟩ : ∃ m, k = m + 1 := ⟨k - 1, by omega⟩
        have hfi : tfi = false := by cases tfi with | true => exact absurd (.inr rfl) hnew | false => rfl
        subst hfi
        obtain ⟨g0, g, vs0, u, gO, cO, rfl, rfl, hvv⟩ := HL2.out.last (HNe.out (by omega) (by omega))
        injection hvv with h1 h2 h3
        subst h1 h2 h3
        have hk0 : (((m : Int) + 1) == 0) = false := by simp; omega
        push_cast
        have hgb : g0.length ≤ 1048576 := by simp at hnl; omega
        have hgb2 : (0 : Int) ≤ (g0.length : Int) := by omega
        have hgb3 : (g0.length : Int) ≤ 1048576 := by omega
        go_wp2_with fail
        have HS := HL2
        have HXs := HXb
        have HGl : Hid (g.length ≤ 1048576) := by have := HN.out.2 g (by simp); show _ ≤ _; omega
        generalize wr.alloc (.cells #[.int .i64 tk, .string tt, .bool tsp, .bool false, .int .i64 tf, .int .i64 tl, .int .i64 th, .int .i64 tn, .slice none 0 0, .slice none 0 0, .int .i64 0] 35) = wS at HS HXs hsz ⊢
        clear HL2 HXb hnew
        have hlg : vs0.length = g0.length := by have := HS.out.len; simpa using this
        have hOc : wS.cell? ⟨gO, g0.length, none⟩ = some u := row_cell (n := g0.length + 1) (by have := HS.out.outer; simpa using this) g0.length u (by rw [← hlg]; simp)
        have hin := HS.out.inner g0.length g u (by simp) (by rw [← hlg]; simp)
        obtain ⟨au, nu, cu, rfl⟩ := row_slice hin
        have hX := block_facts HXs.out
        have X0 := (hX 0).1
        have X1 := (hX 1).1
        have X2 := (hX 2).1
        have X3 := (hX 3).1
        have X4 := (hX 4).1
        have X5 := (hX 5).1
        have X6 := (hX 6).1
        have X7 := (hX 7).1
        have X8 := (hX 8).1
        have X9 := (hX 9).1
        have X10 := (hX 10).1
        simp at X0 X1 X2 X3 X4 X5 X6 X7 X8 X9 X10
        have hwq : IntKind.i64.wrap ((g0.length : Int) + 1 - 1) = (g0.length : Int) := by rw [IntKind.wrap_i64]; omega
        have hq0 : (0 : Int) ≤ (g0.length : Int) := by omega
        have hgO : gO < wS.heap.size := (HS.out.outer.lt gO rfl).2
        have hgO2 : gO < wr.heap.size + 1 := by omega
        have hfO : wS.frozen? ⟨gO, g0.length, none⟩ = false := by
          rcases HS.out.outer.2 with ⟨h, _⟩ | ⟨g', cap, cur, h, _, hh, _⟩
          · injection h with h _ _; cases h
          · injection h with h _ _; injection h with h; injection h with h _ _; subst h; exact (block_facts hh _).2
        have hwS := HS.out.old.size
        have hXl := lt_of_block HXs.out
        have hgl : g.length ≤ 1048576 := HGl.out
        have HIn := hid hin
        have hlt2 : (g0.length : Int) < (g0.length : Int) + 1 := by omega
        clear hX hin c0 c1 c2 c3 c4 c5 c6 c7 c8 c9 c10
        go_wp2_with fail
        go_region_law ((refine step_append_any (by rfl) _ _ 29 (by rfl) w.heap.size 35 ti _ 11 120 Tryd.underlying29 hti htz0 htz1 htz2 (by rfl) (by decide) _ _ _ (by rfl) (owns_below HIn.out (by repeat' (first | exact Below.refl _ _ | apply Below.drew | apply Below.alloc | (simp; done) | (simp; omega)))) _ 1 1 (encT ⟨tk, tt, tsp, false, tf, tl, th, tn⟩) (by rfl) (by rfl) (by rw [← hsz]; exact eleven_new wS ⟨tk, tt, tsp, false, tf, tl, th, tn⟩ _) (eleven_one _) (by unfold maxLen; omega) (by omega) (by simp; omega) ?_; intro u' w4 hown2 hg2 hat2; obtain ⟨hO4, hF4⟩ := HS.out.cellO (by repeat' (first | exact Below.refl _ _ | apply Below.drew | apply Below.alloc | (simp; done) | (simp; omega))) hg2; obtain ⟨a4, n4, c4, rfl⟩ := row_slice hown2))
        all_goals
          have HA := hid (HS.out.add (t := ⟨tk, tt, tsp, false, tf, tl, th, tn⟩) (by repeat' (first | exact Below.refl _ _ | apply Below.drew | apply Below.alloc | (simp; done) | (simp; omega))) hg2 hown2 hat2)
          rw [← addTk_on _ _ _ rfl, ← HSt.out] at HA
          generalize w4.setCell ⟨gO, g0.length, none⟩ (.slice a4 n4 c4) = w5 at HA ⊢
          clear hown2 hg2 hat2 hO4 hF4
          go_wp2
          go_roundw
          case rel => exact ⟨m + 1 + 1, _, by omega, by go_num, ⟨_, _, _, rfl⟩, HA⟩
          case measure => simp [intOf]; omega
    · have he : ts.take k = ts := List.take_of_length_le (by omega)
      rw [he] at HL
      go_wp2
      go_ret
      exact ⟨_, _, rfl, HL.out⟩

theorem Lines_tok (a : Option Addr) (c : Nat) (ts : List Tk) (w : World) (hT : TAt w a ts) (hl : ts.length ≤ 1048576) :
    Calls Tryd.prog 11 #[.slice a ts.length c] w fun e w' => ∃ v, e = .returned v ∧ LAt w' v (linesF ts) ∧ Below w.heap.size w w' :=
  (Lines_st a c ts w hT hl).mono fun _ _ ⟨v, _, he, h⟩ => ⟨v, he, h.lat, h.old⟩
end Go.Proofs.YtoedgcpfomgagaaDoor
