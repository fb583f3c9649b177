/- Walks of what reads expressions. · Walks of what reads a part of an expression: single, expression. · Walk of innermost. · Walk of listed, at what reads an expression without a comma. · A region that draws its order: a load is taken first, though the last operation writes there; then one operation after the other. · Walk of behind. · Walk of part; and all that reads expressions, by induction. -/
import Derived.Test.YtkfbhknhjpmomaaTgA
import Derived.Deep.LoopGhost
import Derived.Test.YtkfbhknhjpmomaaLtA
import Derived.Deep.RegionHeld2
import Derived.Test.YtkfbhknhjpmomaaApA
namespace Go.Proofs.Ytkfbhknhjpmomaa
section
open Go.RowKit Go.Shelf

section
variable (r : Nat) (la : Option Addr) (lc : Nat) (L : List Tk) (vn : Value)
end

abbrev boxN (x : Nv) : Obj := .cells #[.int .i64 x.kind, .int .i64 x.tok, .slice x.a x.n x.c] 26
def zeroN : Nv := ⟨0, 0, none, 0, 0⟩
/-- A node stored in a block. -/
def putN (W : World) (B : Nat) (x : Nv) : World := ((W.setCell ⟨B, 0, none⟩ (.int .i64 x.kind)).setCell ⟨B, 1, none⟩ (.int .i64 x.tok)).setCell ⟨B, 2, none⟩ (.slice x.a x.n x.c)
theorem putN_other (W : World) (B : Nat) (x : Nv) (g : Nat) (h : g ≠ B) : (putN W B x).heap[g]? = W.heap[g]? := by
  unfold putN
  rw [Below.heap_setCell _ _ _ g h, Below.heap_setCell _ _ _ g h, Below.heap_setCell _ _ _ g h]
theorem putN_block {W : World} {B : Nat} (x : Nv) {u : Nv} (h : W.heap[B]? = some (boxN u)) : (putN W B x).heap[B]? = some (boxN x) := by
  unfold putN
  have g1 := Go.Joins.block_setCell (i := 0) h (.int .i64 x.kind)
  have g2 := Go.Joins.block_setCell (i := 1) g1 (.int .i64 x.tok)
  have g3 := Go.Joins.block_setCell (i := 2) g2 (.slice x.a x.n x.c)
  simpa using g3
theorem putN_size (W : World) (B : Nat) (x : Nv) : (putN W B x).heap.size = W.heap.size := by simp [putN]
theorem putN_kept {X : Nat → Prop} {w W : World} (h : Kept X w W) {B : Nat} (hB : w.heap.size ≤ B) (x : Nv) : Kept X w (putN W B x) := by
  unfold putN
  iterate 3 refine Kept.setFar ?_ hB _
  exact h
theorem boxN_facts {W : World} {g : Nat} {x : Nv} (h : W.heap[g]? = some (boxN x)) : (W.cell? ⟨g, 0, none⟩ = some (.int .i64 x.kind) ∧ W.cell? ⟨g, 1, none⟩ = some (.int .i64 x.tok) ∧ W.cell? ⟨g, 2, none⟩ = some (.slice x.a x.n x.c)) ∧ W.frozen? ⟨g, 0, none⟩ = false ∧ W.frozen? ⟨g, 1, none⟩ = false ∧ W.frozen? ⟨g, 2, none⟩ = false := by
  simp [World.cell?, World.frozen?, h]
theorem ite_most {c : Prop} [Decidable c] {a b n : Nat} (ha : a ≤ n) (hb : b ≤ n) : (if c then a else b) ≤ n := by
  by_cases h : c
  · rw [if_pos h]; exact ha
  · rw [if_neg h]; exact hb
theorem rightW_le (s : List UInt8) : levelW s ≤ 12 := by
  unfold levelW
  iterate 12 refine ite_most (by omega) ?_
  omega
theorem level_pos {L : List Tk} {i l : Nat} (h : ¬ levelW (wordT L i) < l) (hl : 1 ≤ l) : i < L.length := by
  by_cases hi : i < L.length
  · exact hi
  · have : wordT L i = [] := by unfold wordT; rw [List.getElem?_eq_none (by omega)]
    rw [this] at h
    exact absurd (show levelW [] < l by unfold levelW; simp; omega) h

theorem dN_size (w : World) (n : Nat) : (w.drewN n).heap.size = w.heap.size := rfl
end
section
open Go.RowKit Go.Shelf

end
section
open Go.RowKit Go.Shelf

/-- What innermost comes to. -/
def inR (L : List Tk) (f d i : Nat) (n : Nd) (ks : List Nd) : Option (Got (Nd × List Nd × Nat)) :=
  if wordT L i = [40] then match exF L f 0 1 d (i + 1) n ks with
    | none => none
    | some (.error x) => some (.error x)
    | some (.ok (m, ks', j)) => if wordT L j = [41] then some (.ok (m, ks', j + 1)) else some (.error (2, j))
  else if nameT L i = true then some (.ok (.mk 10 (i : Int) [], ks, i + 1)) else some (.ok (.mk 11 (i : Int) [], ks, i + 1))

end
section
open Go.RowKit Go.Shelf

theorem info_node : (Try.prog.info? 26).map (fun i => (i.zero, i.size, i.bytes)) = some (some (.agg #[.int .i64 0, .int .i64 0, .slice none 0 0]), 3, 40) := by kernel_rfl
theorem n3_new (w : World) (x : Nv) (T : TypeId) : ∀ j u, (encN x)[j]? = some u → (w.alloc (.cells (encN x).toArray T)).cell? ((⟨w.heap.size, 0, none⟩ : Addr).add j) = some u := by
  intro j u hu
  rw [Addr.add_lit, Nat.zero_add, World.cell?_alloc_mark]
  simpa using hu
theorem n3_one (x : Nv) : ∀ u ∈ encN x, u.oneCell' = true := by
  intro u hu
  simp [encN] at hu
  rcases hu with rfl | rfl | rfl <;> rfl
/-- A row of nodes grows. -/
theorem grow_nds {W w4 : World} {B : Nat} {v v' : Value} {nvs : List Nv} {ks : List Nd} (hg : W.grownBy w4 v.ownBlock) (hob : v'.ownBlock = v.ownBlock ∨ v'.ownBlock = some W.heap.size) (hn : NdsIs W (fun b => B ≤ b ∧ v.ownBlock ≠ some b) nvs ks) : NdsIs w4 (fun b => B ≤ b ∧ v'.ownBlock ≠ some b) nvs ks := by
  refine ((hn.mono (Q := fun b => B ≤ b ∧ v.ownBlock ≠ some b ∧ b < W.heap.size) fun b hb hlt => ⟨hb.1, hb.2, hlt⟩).kept fun b hb hlt => hg.block b hlt (fun e => hb.2.1 e.symm)).mono fun b hb _ => ⟨hb.1, ?_⟩
  rcases hob with e | e
  · rw [e]; exact hb.2.1
  · rw [e]; intro h; cases h; omega
theorem row_base {w : World} {base base' e size n : Nat} {v : Value} {xs : List Value} (h : w.ownsRow base e size v n xs) (hb : base' ≤ base) : w.ownsRow base' e size v n xs := ⟨h.1, h.2.imp id fun ⟨g, cap, cur, e, hg, r⟩ => ⟨g, cap, cur, e, Nat.le_trans hb hg, r⟩⟩
theorem kept_grown {r : Nat} {w W w4 : World} {v : Value} {n : Nat} {xs : List Value} {e size : Nat} (hk : Kept (· = r) w W) (hown : W.ownsRow w.heap.size e size v n xs) (hg : W.grownBy w4 v.ownBlock) : Kept (· = r) w w4 ∧ ∀ b, b < w.heap.size → w4.heap[b]? = W.heap[b]? := by
  have key : ∀ b, b < w.heap.size → w4.heap[b]? = W.heap[b]? := fun b hb => hg.block b (Nat.lt_of_lt_of_le hb hk.size) fun e => by have := (hown.lt b e.symm).1; omega
  exact ⟨⟨hg.os.trans hk.os, hg.tape.trans hk.tape, hg.output.trans hk.output, Nat.le_trans hk.size hg.size, fun b hb hx => (key b hb).trans (hk.block b hb hx)⟩, key⟩

theorem row_val {w : World} {base e size n : Nat} {v : Value} {xs : List Value} (h : w.ownsRow base e size v n xs) : ∃ a c, v = .slice a n c := by
  rcases h.2 with ⟨rfl, rfl⟩ | ⟨g, cap, cur, rfl, _⟩
  · exact ⟨_, _, rfl⟩
  · exact ⟨_, _, rfl⟩
end
section
open Go.RowKit

section
variable {P : Program} {ops : Array Oper} {Q : Exit → Act → World → Prop} {md : Region.Mode} {C : World → Prop} {i : Nat}
theorem takeT {oi : Oper} {v : Value} {fuel : Nat} {listed : Array Bool} {a : Act} {w : World} (hi : ops[i]? = some oi) (hs : Region.noSelect ops = true) (hf : Region.free md ops listed i = true) (hr : (Region.ready md ops listed).contains i = true)
    (hQ : ∀ c a w, Q (.panic c) (a.put oi.dst v) w → Q (.panic c) a w) (hy : YieldsIf P ops C oi v a) (hC : C w) (h : anyT P md ops Q C i fuel (listed.setIfInBounds i true) (a.put oi.dst v) w) : wpAny P md ops Q (fuel + 1) listed a w :=
  first_of_T hi (Region.noSelect_spec hs) hQ fuel listed a w (Region.free_spec hi hf) (by simpa using hr) hy hC h
theorem anyT_one {fuel k : Nat} {o : Oper} {listed : Array Bool} {a : Act} {w : World} (hr : Region.ready md ops listed = [k]) (ho : ops[k]? = some o)
    (h : ∀ K' : Act → World → Prop, Shut (∀ a w, (NoWait md ops i k → C w) → anyT P md ops Q C i fuel (listed.setIfInBounds k true) a w → K' a w) → if Region.wanted o (yielded ops a.tmps) = true then Oper.wp P o a w K' Q else K' (a.put o.dst undef) w) : anyT P md ops Q C i (fuel + 1) listed a w := by
  refine ⟨fun h0 => (by rw [hr] at h0; cases h0), fun j hj => ?_⟩
  rw [hr, List.mem_singleton] at hj
  subst hj
  exact wpOp_step ho (fun K' hK => h K' (fun a w hS hW => hK a w ⟨hS, hW⟩))
theorem anyT_done {fuel : Nat} {listed : Array Bool} {a : Act} {w : World} (hr : Region.ready md ops listed = []) (h : Q .normal a w) : anyT P md ops Q C i fuel listed a w := by
  cases fuel with
  | zero => exact ⟨hr, h⟩
  | succ f => exact ⟨fun _ => h, fun j hj => by rw [hr] at hj; cases hj⟩
end
end
section
open Go.RowKit Go.Shelf

section
variable (r : Nat) (la : Option Addr) (lc : Nat) (L : List Tk) (vn : Value)
end

theorem NdsIs.app {w : World} {P : Nat → Prop} {vs us : List Nv} {ks ms : List Nd} (h : NdsIs w P vs ks) (h' : NdsIs w P us ms) : NdsIs w P (vs ++ us) (ks ++ ms) := by
  refine ⟨by simp [h.1, h'.1], fun j v t hv ht => ?_⟩
  by_cases hj : j < vs.length
  · rw [List.getElem?_append_left hj] at hv
    rw [List.getElem?_append_left (by rw [← h.1]; exact hj)] at ht
    exact h.2 j v t hv ht
  · rw [List.getElem?_append_right (by omega)] at hv
    rw [List.getElem?_append_right (by rw [← h.1]; omega), ← h.1] at ht
    exact h'.2 _ v t hv ht
theorem grow_ndsS {W w4 : World} {S : Nat → Prop} {v v' : Value} {nvs : List Nv} {ks : List Nd} (hg : W.grownBy w4 v.ownBlock) (hob : v'.ownBlock = v.ownBlock ∨ v'.ownBlock = some W.heap.size) (hn : NdsIs W (fun b => S b ∧ v.ownBlock ≠ some b) nvs ks) : NdsIs w4 (fun b => S b ∧ v'.ownBlock ≠ some b) nvs ks := by
  refine ((hn.mono (Q := fun b => S b ∧ v.ownBlock ≠ some b ∧ b < W.heap.size) fun b hb hlt => ⟨hb.1, hb.2, hlt⟩).kept fun b hb hlt => hg.block b hlt (fun e => hb.2.1 e.symm)).mono fun b hb _ => ⟨hb.1, ?_⟩
  rcases hob with e | e
  · rw [e]; exact hb.2.1
  · rw [e]; intro h; cases h; omega
theorem cellsN_one_cell (vs : List Nv) : ∀ u ∈ cellsN vs, u.oneCell' = true := by
  intro u hu
  unfold cellsN at hu
  rw [List.mem_flatMap] at hu
  obtain ⟨x, _, hx⟩ := hu
  exact n3_one x u hx
theorem row_cells {w : World} {base g n c : Nat} {nvs : List Nv} (h : w.ownsRow base 26 3 (.slice (some ⟨g, 0, none⟩) n c) nvs.length (cellsN nvs)) : ∀ j u, (cellsN nvs)[j]? = some u → w.cell? ((⟨g, 0, none⟩ : Addr).add j) = some u := by
  intro j u hu
  rcases h.2 with ⟨e, _⟩ | ⟨g', cap, cur, e, _, hh, _, _, _, ht⟩
  · cases e
  · cases e
    rw [Addr.add_lit, Nat.zero_add, Go.Joins.cell_of_block hh]
    rw [← ht] at hu
    have hj : j < nvs.length * 3 := by have := (List.getElem?_eq_some_iff.1 hu).1; simp at this; omega
    rw [List.getElem?_take_of_lt hj, Array.getElem?_toList] at hu
    exact hu
theorem own_ne {g n c b : Nat} (h : g ≠ b) : (Value.slice (some ⟨g, 0, none⟩) n c).ownBlock ≠ some b := fun e => h (by simpa [Value.ownBlock] using e)
/-- An append of a row, or of nothing, to a row of nodes. -/
theorem step_append_row {w : World} {ops : Array Oper} {o : Oper} {a : Act} {K : Act → World → Prop} {Q : Exit → Act → World → Prop} {E : Prop} (hgd : o.guard = none) (s x : Operand) (ho : o.op = .call { callee := .builtin .append, args := #[s, x], argTypes := #[24, 24] })
    (base base2 g n cap : Nat) (nvs us : List Nv) (av : Option Addr) (c : Nat) (hs : a.eval s = .slice (some ⟨g, 0, none⟩) n cap) (hx : a.eval x = .slice av us.length c) (hnl : nvs.length = n) (hown : w.ownsRow base 26 3 (.slice (some ⟨g, 0, none⟩) n cap) n (cellsN nvs)) (hown2 : w.ownsRow base2 26 3 (.slice av us.length c) us.length (cellsN us))
    (h1 : n ≤ 2000000) (h2 : us.length ≤ 2000000) (hbase : base ≤ w.heap.size)
    (h : ∀ v' w', w'.ownsRow base 26 3 v' (nvs ++ us).length (cellsN (nvs ++ us)) → w.grownBy w' (some g) → (v'.ownBlock = some g ∨ v'.ownBlock = some w.heap.size) → K (a.put o.dst v') w') :
    if Region.wanted o (yielded ops a.tmps) = true then Oper.wp Try.prog o a w K Q else E := by
  obtain ⟨i0, hi, hz0, hzz1, hzz2⟩ := info_parts info_node
  have hle : n ≤ cap := by
    rcases hown.2 with ⟨e, _⟩ | ⟨g', cap', cur, e, _, _, hle, _⟩
    · cases e
    · cases e; exact hle
  rcases hown2.2 with ⟨e, h0⟩ | ⟨g5, cap5, cur, e, _⟩
  · have hu : us = [] := List.eq_nil_of_length_eq_zero h0
    subst hu
    cases e
    refine step_append_none hgd s x 24 ho 26 i0 Try.underlying24 hi ⟨g, 0, none⟩ n cap 0 hs hx hle (h _ w ?_ ⟨rfl, rfl, rfl, Nat.le_refl _, fun _ _ _ => rfl⟩ (.inl rfl))
    rw [List.append_nil, hnl]
    exact hown
  · cases e
    refine step_append_any hgd s x 24 ho base 26 i0 _ 3 40 Try.underlying24 hi hz0 hzz1 hzz2 (by rfl) (by decide) _ n (cellsN nvs) hs hown ⟨g5, 0, none⟩ us.length _ (cellsN us) hx (cellsN_length us) (row_cells hown2) (cellsN_one_cell us) (by unfold maxLen; omega) (by omega) hbase ?_
    intro v' w' hown' hg' hob'
    refine h v' w' ?_ hg' hob'
    rw [List.length_append, hnl, cellsN_append]
    exact hown'

end
section
open Go.RowKit Go.Shelf

/-- What stands between a part's beginning, and what is behind its innermost one. -/
theorem part_in {L : List Tk} {f d i : Nat} {n : Nd} {ks : List Nd} {R : Got (Nd × List Nd × Nat)}
    (hR : (if wordT L i = [40] then match exF L f 0 1 d (i + 1) n ks with
        | none => none
        | some (.error x) => some (.error x)
        | some (.ok (m, _, j)) => if wordT L j = [41] then exF L f 3 0 d (j + 1) m ks else some (.error (2, j))
      else if nameT L i = true then exF L f 3 0 d (i + 1) (.mk 10 (i : Int) []) ks
      else exF L f 3 0 d (i + 1) (.mk 11 (i : Int) []) ks) = some R) :
    ∃ R1, inR L f d i n ks = some R1 ∧ match R1 with
      | .error x => R = .error x
      | .ok (m, _, j) => exF L f 3 0 d j m ks = some R := by
  unfold inR
  by_cases hp : wordT L i = [40]
  · rw [if_pos hp] at hR ⊢
    cases he : exF L f 0 1 d (i + 1) n ks with
    | none => rw [he] at hR; cases hR
    | some R0 =>
      rw [he] at hR
      cases R0 with
      | error x => cases hR; exact ⟨_, rfl, rfl⟩
      | ok y =>
        obtain ⟨m, ks', j⟩ := y
        dsimp only at hR ⊢
        by_cases hq : wordT L j = [41]
        · rw [if_pos hq] at hR ⊢
          exact ⟨_, rfl, hR⟩
        · rw [if_neg hq] at hR ⊢
          cases hR
          exact ⟨_, rfl, rfl⟩
  · rw [if_neg hp] at hR ⊢
    by_cases hq : nameT L i = true
    · rw [if_pos hq] at hR ⊢
      exact ⟨_, rfl, hR⟩
    · rw [if_neg hq] at hR ⊢
      exact ⟨_, rfl, hR⟩

end
end Go.Proofs.Ytkfbhknhjpmomaa
