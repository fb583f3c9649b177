/- A statement's state behind its kind's own part, and its end. · The statements under `if` and `while`, as the loop reads them. · States of `if` and `while`: what stands in parentheses, the kids so far. -/
import Derived.Test.YtkfbhknhjpmomaaScBA
namespace Go.Proofs.Ytkfbhknhjpmomaa
section
open Go.RowKit Go.Shelf
/-- Behind a statement's own part. -/
structure SmSt (r : Nat) (la : Option Addr) (lc : Nat) (L : List Tk) (d K : Nat) (R : Got (Nd × Nat × En)) (w : World) (B k : Nat) (ev : Option Nat) (x : Nv) (wr : World) : Prop where
  kept : Kept (· = r) w wr
  res : wr.heap[w.heap.size]? = some (boxN zeroN)
  box : wr.heap[B]? = some (boxN x)
  ans : (∃ n en, R = .ok (n, k, en) ∧ NdIs wr (fun b => w.heap.size < b ∧ b ≠ B) x n ∧ PkAt wr r la lc L d ∧ k ≤ L.length ∧ en.length ≤ k ∧ EnAt wr (.map ev) en) ∨ (∃ y, R = .error y ∧ k ≤ K ∧ PbAt wr r la lc L y)
section
variable {r : Nat} {la : Option Addr} {lc : Nat} {L : List Tk} {w w' : World}
theorem SmSt.end {d K B k : Nat} {R : Got (Nd × Nat × En)} {ev : Option Nat} {x : Nv} {wr : World} (h : SmSt r la lc L (d + 1) K R w B k ev x wr) (hd : d < 1000) (hrw : r < w.heap.size) (hU : ∀ b off, la = some ⟨b, off, none⟩ → L ≠ [] → b < w.heap.size) :
    ∃ (e f a d0 d1 : Int), PxAt wr r la lc L e f a d0 ∧ wrap64 (d0 - 1) = d1 ∧ (wr.setCell ⟨r, 4, none⟩ (.int .i64 d1)).heap[w.heap.size]? = some (boxN zeroN) ∧ ∀ K', K ≤ K' → CPost r la lc L d K' R w (.returned (.tuple #[aggN x, .int .i64 (k : Int), .map ev])) (putN (wr.setCell ⟨r, 4, none⟩ (.int .i64 d1)) w.heap.size x) := by
  rcases h.ans with ⟨n, en, h1, h2, h3, h4, h5, h6⟩ | ⟨y, h1, h2, h3, d0, h4⟩
  · obtain ⟨s1, s2, s3, s4⟩ := sink_put h3 hrw hU h.res (d : Int) x
    obtain ⟨t1, t2⟩ := h3.sinks (Below.refl _ _) (d : Int)
    refine ⟨_, _, _, _, d, h3, by unfold wrap64; omega, s2, fun K' hK => RPost.good h1 (s4 h.kept (Nat.le_refl _)) ?_ s1 h4 h5 ((h6.kept h3.box t2).put s2 x)⟩
    exact (h2.kept fun b hb hlt => s3 b (by omega) (by omega)).mono fun b hb _ => by omega
  · obtain ⟨s1, s2, s3, s4⟩ := sink_put h4 hrw hU h.res (wrap64 (d0 - 1)) x
    exact ⟨_, _, _, d0, _, h4, rfl, s2, fun K' hK => RPost.bad h1 (s4 h.kept (Nat.le_refl _)) (by omega) ⟨h3, _, s1⟩⟩
/-- A node that was read, stored as the statement's. -/
theorem sm_node {d K B k : Nat} {R : Got (Nd × Nat × En)} {ev : Option Nat} {v : Nv} {w1 w5 : World} (hrw : r < w.heap.size) (hU : ∀ b off, la = some ⟨b, off, none⟩ → L ≠ [] → b < w.heap.size) (hHB : w.heap.size < B) (hz1 : B < w1.heap.size) (hK : Kept (· = r) w w1) (hH : w1.heap[w.heap.size]? = some (boxN zeroN)) (hB : w1.heap[B]? = some (boxN zeroN)) (hk5 : Kept (· = r) w1 w5)
    (hc : (∃ n en, R = .ok (n, k, en) ∧ NdIs w5 (w1.heap.size ≤ ·) v n ∧ PkAt w5 r la lc L d ∧ k ≤ L.length ∧ en.length ≤ k ∧ EnAt w5 (.map ev) en) ∨ (∃ y, R = .error y ∧ k ≤ K ∧ PbAt w5 r la lc L y)) : SmSt r la lc L d K R w B k ev v (putN w5 B v) := by
  have hB5 := (hk5.block _ hz1 (by omega)).trans hB
  refine ⟨putN_kept (hK.trans hk5) (by omega) _, (putN_other _ _ _ _ (by omega)).trans ((hk5.block _ (lt_of_block hH) (by omega)).trans hH), putN_block _ hB5, ?_⟩
  rcases hc with ⟨n, en, h1, h2, h3, h4, h5, h6⟩ | ⟨y, h1, h2, h3⟩
  · refine .inl ⟨n, en, h1, ?_, h3.far_put (B := B) (by omega) (fun g hg => putN_other _ _ _ _ hg) (putN_size _ _ _) (fun b off e hL => by have := hU b off e hL; omega), h4, h5, h6.put hB5 v⟩
    exact (h2.mono (Q := fun b => w.heap.size < b ∧ b ≠ B) fun b hb _ => ⟨by omega, by omega⟩).kept fun b hb _ => putN_other _ _ _ _ hb.2
  · exact .inr ⟨y, h1, h2, h3.far_put (B := B) (by omega) (fun g hg => putN_other _ _ _ _ hg) (putN_size _ _ _) (fun b off e hL => by have := hU b off e hL; omega)⟩
end
end
section
open Go.RowKit Go.Shelf
/-- The kids so far, one or two; one more statement, and once more behind `else`. -/
def whL (L : List Tk) (m : Nat) (en : En) (b : Bool) : Nat → List Nd → Nat → Got (Nd × Nat × En)
  | 0, _, i => .error (0, i)
  | f + 1, ks, i => match stR L m 0 en i with
    | .error x => .error x
    | .ok (y, j, _) => if b = true ∧ ks.length + 1 ≤ 2 ∧ wordT L j = wElse then whL L m en b f (ks ++ [y]) (j + 1) else .ok (.mk (if b = true then 6 else 7) (-1) (ks ++ [y]), j, en)
/-- All of `if` and `while`. -/
def whR (L : List Tk) (m : Nat) (en : En) (b : Bool) (i : Nat) : Got (Nd × Nat × En) :=
  if wordT L (i + 1) = [40] then match exR L m 0 1 (i + 2) with
    | .error x => .error x
    | .ok (x, k) => if wordT L k = [41] then whL L m en b 2 [x] (k + 1) else .error (2, k)
  else .error (2, i + 1)
theorem wh_is (L : List Tk) (m : Nat) (en : En) (i : Nat) (h1 : wordT L i ≠ [123]) (h : wordT L i = wIf ∨ wordT L i = wWhile) : stR L (m + 1) 0 en i = whR L m en (decide (wordT L i = wIf)) i := by
  simp only [stR, whR]
  rw [if_neg h1, if_pos h]
  by_cases h40 : wordT L (i + 1) = [40]
  · rw [if_neg (by simp [h40]), if_pos h40]
    rcases exR L m 0 1 (i + 2) with y | ⟨x, k⟩
    · rfl
    · dsimp only
      by_cases h41 : wordT L k = [41]
      · rw [if_neg (by simp [h41]), if_pos h41]
        simp only [whL]
        rcases stR L m 0 en (k + 1) with y | ⟨y, j, e2⟩
        · rfl
        · dsimp only
          by_cases hi : wordT L i = wIf
          · by_cases he : wordT L j = wElse
            · rw [if_pos ⟨hi, he⟩, if_pos ⟨decide_eq_true hi, by simp, he⟩]
              rcases stR L m 0 en (j + 1) with y2 | ⟨z, j2, e3⟩
              · rfl
              · simp [hi]
            · simp [hi, he]
          · simp [hi]
      · rw [if_pos h41, if_neg h41]
  · rw [if_pos h40, if_neg h40]
end
section
open Go.RowKit Go.Shelf
/-- What stands in parentheses. -/
def whX (L : List Tk) (m i : Nat) : Got (Nd × Nat) :=
  if wordT L (i + 1) = [40] then match exR L m 0 1 (i + 2) with
    | .error x => .error x
    | .ok (x, k) => if wordT L k = [41] then .ok (x, k + 1) else .error (2, k)
  else .error (2, i + 1)
theorem whR_is (L : List Tk) (m : Nat) (en : En) (b : Bool) (i : Nat) : whR L m en b i = match whX L m i with
    | .error x => .error x
    | .ok (x, k) => whL L m en b 2 [x] k := by
  unfold whR whX
  split
  · rcases exR L m 0 1 (i + 2) with y | ⟨x, k⟩
    · rfl
    · dsimp only
      split <;> rfl
  · rfl
/-- Ahead of a statement under it: the kids so far. -/
def WhSt (r : Nat) (la : Option Addr) (lc : Nat) (L : List Tk) (m : Nat) (en : En) (b : Bool) (kd : Int) (d K : Nat) (R : Got (Nd × Nat × En)) (w : World) (B g k : Nat) (wr : World) : Prop :=
  Kept (· = r) w wr ∧ wr.heap[w.heap.size]? = some (boxN zeroN) ∧ ∃ nvs a c, GrowAt w.heap.size (fun b => b = w.heap.size ∨ b = B) B kd (-1) nvs a c wr ∧
    ((∃ ks, whL L m en b g ks k = R ∧ NdsIs wr (kidP w.heap.size (fun b => b = w.heap.size ∨ b = B) a nvs.length c) nvs ks ∧ PkAt wr r la lc L d ∧ k ≤ L.length ∧ en.length ≤ k ∧ nvs.length + g = 3 ∧ 1 ≤ g) ∨ (∃ y, R = .error y ∧ PbAt wr r la lc L y ∧ k ≤ K))
/-- Behind a statement under it. -/
def WeSt (r : Nat) (la : Option Addr) (lc : Nat) (L : List Tk) (m : Nat) (en : En) (b : Bool) (kd : Int) (d K : Nat) (R : Got (Nd × Nat × En)) (w : World) (B g : Nat) (nvs : List Nv) (a : Option Addr) (c k : Nat) (wr : World) : Prop :=
  Kept (· = r) w wr ∧ wr.heap[w.heap.size]? = some (boxN zeroN) ∧ GrowAt w.heap.size (fun b => b = w.heap.size ∨ b = B) B kd (-1) nvs a c wr ∧
    ((∃ ks, (if b = true ∧ nvs.length ≤ 2 ∧ wordT L k = wElse then whL L m en b g ks (k + 1) else .ok (.mk kd (-1) ks, k, en)) = R ∧ NdsIs wr (kidP w.heap.size (fun b => b = w.heap.size ∨ b = B) a nvs.length c) nvs ks ∧ PkAt wr r la lc L d ∧ k ≤ L.length ∧ en.length ≤ k ∧ nvs.length + g = 3) ∨ (∃ y, R = .error y ∧ PbAt wr r la lc L y ∧ k ≤ K))
section
variable {r : Nat} {la : Option Addr} {lc : Nat} {L : List Tk} {w w' : World}
theorem WeSt.px {m : Nat} {en : En} {b : Bool} {kd : Int} {d K : Nat} {R : Got (Nd × Nat × En)} {B g : Nat} {nvs : List Nv} {a : Option Addr} {c k : Nat} {wr : World} (h : WeSt r la lc L m en b kd d K R w B g nvs a c k wr) : ∃ (e f aa dd : Int), PxAt wr r la lc L e f aa dd := by
  obtain ⟨_, _, _, ⟨ks, _, _, hp, _⟩ | ⟨y, _, ⟨_, d', hp⟩, _⟩⟩ := h
  · exact ⟨_, _, _, _, hp⟩
  · exact ⟨_, _, _, _, hp⟩
theorem WeSt.end {m : Nat} {en : En} {b : Bool} {kd : Int} {d K : Nat} {R : Got (Nd × Nat × En)} {B g : Nat} {nvs : List Nv} {a : Option Addr} {c k : Nat} {wr : World} {ev : Option Nat} (h : WeSt r la lc L m en b kd d K R w B g nvs a c k wr) (hev : ∀ W, Kept (· = r) w W → EnAt W (.map ev) en) (hn : ¬ (b = true ∧ nvs.length ≤ 2 ∧ wordT L k = wElse)) (K' : Nat) (hK : K ≤ K') :
    SmSt r la lc L d K' R w B k ev ⟨kd, -1, a, nvs.length, c⟩ wr := by
  obtain ⟨hk, hH, hG, hc⟩ := h
  refine ⟨hk, hH, hG.box, ?_⟩
  rcases hc with ⟨ks, h1, h2, h3, h4, h5, h6⟩ | ⟨y, h1, h2, h3⟩
  · rw [if_neg hn] at h1
    exact .inl ⟨_, en, h1.symm, hG.nd h2 (fun b h1 h2 => ⟨by omega, by omega⟩), h3, h4, h5, hev _ hk⟩
  · exact .inr ⟨y, h1, by omega, h2⟩
theorem WeSt.more {m : Nat} {en : En} {b : Bool} {kd : Int} {d K : Nat} {R : Got (Nd × Nat × En)} {B g : Nat} {nvs : List Nv} {a : Option Addr} {c k : Nat} {wr : World} (h : WeSt r la lc L m en b kd d K R w B g nvs a c k wr) (hy : b = true ∧ nvs.length ≤ 2 ∧ wordT L k = wElse) (K' : Nat) (hK : K + 1 ≤ K') :
    WhSt r la lc L m en b kd d K' R w B g (k + 1) wr := by
  obtain ⟨hk, hH, hG, hc⟩ := h
  refine ⟨hk, hH, nvs, a, c, hG, ?_⟩
  rcases hc with ⟨ks, h1, h2, h3, h4, h5, h6⟩ | ⟨y, h1, h2, h3⟩
  · rw [if_pos hy] at h1
    have := wrd_lt hy.2.2 (by unfold wElse; simp)
    exact .inl ⟨ks, h1, h2, h3, by omega, by omega, h6, by omega⟩
  · exact .inr ⟨y, h1, h2, by omega⟩
/-- One that went wrong, and the end. -/
theorem WhSt.bad {kd : Int} {d K : Nat} {R : Got (Nd × Nat × En)} {B k : Nat} {nvs : List Nv} {a : Option Addr} {c : Nat} {wr : World} {ev : Option Nat} {y : Int × Nat} (hk : Kept (· = r) w wr) (hH : wr.heap[w.heap.size]? = some (boxN zeroN)) (hG : GrowAt w.heap.size (fun b => b = w.heap.size ∨ b = B) B kd (-1) nvs a c wr) (hR : R = .error y) (hp : PbAt wr r la lc L y) (hkK : k ≤ K) :
    SmSt r la lc L d K R w B k ev ⟨kd, -1, a, nvs.length, c⟩ wr := ⟨hk, hH, hG.box, .inr ⟨y, hR, hkK, hp⟩⟩
/-- What is in parentheses is its first kid. -/
theorem wh_first {m i : Nat} {en : En} {b : Bool} {kd : Int} {d K B k Z : Nat} {R : Got (Nd × Nat × En)} {w w5 w9 W w7 : World} {v9 : Nv} {v' : Value} (hrw : r < w.heap.size) (hU : ∀ b off, la = some ⟨b, off, none⟩ → L ≠ [] → b < w.heap.size) (hHB : w.heap.size < B)
    (hK : Kept (· = r) w w5) (hH : w5.heap[w.heap.size]? = some (boxN zeroN)) (hB : w5.heap[B]? = some (boxN ⟨kd, -1, none, 0, 0⟩)) (hR : R = whR L m en b i) (hel : en.length ≤ i)
    (hk9 : Kept (· = r) w5 w9) (hb : Below w9.heap.size w9 W) (hown : w7.ownsRow w.heap.size 26 3 v' (([] : List Nv).length + 1) (cellsN [] ++ cellsN [v9])) (hg : W.grownBy w7 (Value.slice none ([] : List Nv).length 0).ownBlock) (hob : v'.ownBlock = (Value.slice none ([] : List Nv).length 0).ownBlock ∨ v'.ownBlock = some Z) (hZ : Z = W.heap.size)
    (hc : (∃ n, whX L m i = .ok (n, k) ∧ NdIs w9 (w5.heap.size ≤ ·) v9 n ∧ PkAt w9 r la lc L d ∧ k ≤ L.length ∧ i ≤ k) ∨ (∃ y, whX L m i = .error y ∧ PbAt w9 r la lc L y ∧ k ≤ K)) :
    ∃ a1 c1, v' = .slice a1 1 c1 ∧ w7.heap[B]? = some (boxN ⟨kd, -1, none, 0, 0⟩) ∧ WhSt r la lc L m en b kd d K R w B 2 k (w7.setCell ⟨B, 2, none⟩ v') := by
  have hG := grow_nil (base := w.heap.size) (S := fun b => b = w.heap.size ∨ b = B) hB
  have hBl := lt_of_block hG.box
  have hHl := lt_of_block hH
  obtain ⟨a1, c1, hv7, hB7, hG8, hN8, hV8, hK8, hS8, hP8, hE8⟩ := grow_next (r := r) (la := la) (lc := lc) (L := L) (v9 := v9) rfl hrw hU (fun b hs => by rcases hs with rfl | rfl <;> omega) (.inr rfl) hG hk9 hb hown hg hob hZ
  refine ⟨a1, c1, hv7, hB7, hK8 hK, (hS8 _ (.inl rfl) (by omega)).trans hH, _, a1, c1, hG8, ?_⟩
  rw [whR_is] at hR
  rcases hc with ⟨n, h1, h2, h3, h4, h5⟩ | ⟨y, h1, ⟨h2, d', h3⟩, h4⟩
  · rw [h1] at hR
    exact .inl ⟨[n], hR.symm, NdsIs.one (hV8 n h2), hP8 h3, h4, by omega, rfl, by omega⟩
  · rw [h1] at hR
    exact .inr ⟨y, hR, ⟨h2, d', hP8 h3⟩, h4⟩
/-- One more statement under it. -/
theorem wh_next {m : Nat} {en : En} {b : Bool} {kd : Int} {d K B g k k9 Z : Nat} {R : Got (Nd × Nat × En)} {w wr w9 W w7 : World} {nvs : List Nv} {a : Option Addr} {c : Nat} {ks : List Nd} {v9 : Nv} {v' : Value} (hF : ∀ t ∈ L, t.text.size ≠ 0) (hrw : r < w.heap.size) (hU : ∀ b off, la = some ⟨b, off, none⟩ → L ≠ [] → b < w.heap.size) (hHB : w.heap.size < B) (hkd : kd = if b = true then 6 else 7)
    (hK : Kept (· = r) w wr) (hH : wr.heap[w.heap.size]? = some (boxN zeroN)) (hG : GrowAt w.heap.size (fun b => b = w.heap.size ∨ b = B) B kd (-1) nvs a c wr)
    (hR : whL L m en b (g + 1) ks k = R) (hn : NdsIs wr (kidP w.heap.size (fun b => b = w.heap.size ∨ b = B) a nvs.length c) nvs ks) (hel : en.length ≤ k) (hng : nvs.length + (g + 1) = 3)
    (hk9 : Kept (· = r) wr w9) (hb : Below w9.heap.size w9 W) (hown : w7.ownsRow w.heap.size 26 3 v' (nvs.length + 1) (cellsN nvs ++ cellsN [v9])) (hg : W.grownBy w7 (Value.slice a nvs.length c).ownBlock) (hob : v'.ownBlock = (Value.slice a nvs.length c).ownBlock ∨ v'.ownBlock = some Z) (hZ : Z = W.heap.size)
    (hc : (∃ n en', stR L m 0 en k = .ok (n, k9, en') ∧ NdIs w9 (wr.heap.size ≤ ·) v9 n ∧ PkAt w9 r la lc L d ∧ k9 ≤ L.length) ∨ (∃ y, stR L m 0 en k = .error y ∧ k9 ≤ K ∧ PbAt w9 r la lc L y)) :
    ∃ a1 c1, v' = .slice a1 (nvs ++ [v9]).length c1 ∧ w7.heap[B]? = some (boxN ⟨kd, -1, a, nvs.length, c⟩) ∧ WeSt r la lc L m en b kd d K R w B g (nvs ++ [v9]) a1 c1 k9 (w7.setCell ⟨B, 2, none⟩ v') := by
  have hBl := lt_of_block hG.box
  have hHl := lt_of_block hH
  obtain ⟨a1, c1, hv7, hB7, hG8, hN8, hV8, hK8, hS8, hP8, hE8⟩ := grow_next (r := r) (la := la) (lc := lc) (L := L) (v9 := v9) rfl hrw hU (fun b hs => by rcases hs with rfl | rfl <;> omega) (.inr rfl) hG hk9 hb hown hg hob hZ
  refine ⟨a1, c1, hv7, hB7, hK8 hK, (hS8 _ (.inl rfl) (by omega)).trans hH, hG8, ?_⟩
  have hlen := hn.1
  have hR2 : (match stR L m 0 en k with
    | .error x => .error x
    | .ok (y, j, _) => if b = true ∧ ks.length + 1 ≤ 2 ∧ wordT L j = wElse then whL L m en b g (ks ++ [y]) (j + 1) else .ok (.mk (if b = true then 6 else 7) (-1) (ks ++ [y]), j, en)) = R := by
    rw [← hR]; simp only [whL] <;> (cases stR L m 0 en k <;> rfl)
  rcases hc with ⟨n, en', h1, h2, h3, h4⟩ | ⟨y, h1, h2, ⟨h3, d', h4⟩⟩
  · have hf := ((stR_facts hF m).1 _ _ _ _ _ h1).1
    rw [h1] at hR2
    refine .inl ⟨ks ++ [n], ?_, (hN8 ks hn).app (NdsIs.one (hV8 n h2)), hP8 h3, h4, by omega, by simp; omega⟩
    rw [← hR2, show (nvs ++ [v9]).length = ks.length + 1 by simp; omega, hkd]
  · rw [h1] at hR2
    exact .inr ⟨y, hR2.symm, ⟨h3, d', hP8 h4⟩, h2⟩
/-- Behind the first (: nothing wrong, or that. -/
def WaSt (r : Nat) (la : Option Addr) (lc : Nat) (L : List Tk) (d i : Nat) (W : World) : Prop :=
  (wordT L (i + 1) = [40] ∧ PkAt W r la lc L d) ∨ (wordT L (i + 1) ≠ [40] ∧ PbAt W r la lc L (2, i + 1))
theorem wa_need {d i : Nat} {W : World} (h : PkAt W r la lc L d) (hi : i + 1 ≤ 1000000) :
    Calls Try.prog 36 #[.pointer (some ⟨r, 0, none⟩), .int .i64 ((i + 1 : Nat) : Int), .string ⟨#[40]⟩] W fun x w' => x = .returned (.int .i64 ((i + 1 + 1 : Nat) : Int)) ∧ WaSt r la lc L d i w' ∧ Kept (· = r) W w' := by
  by_cases h40 : wordT L (i + 1) = [40]
  · refine (need_hit W h (i + 1) hi ⟨#[40]⟩ h40).mono ?_
    rintro x w' ⟨rfl, rfl⟩
    exact ⟨rfl, .inl ⟨h40, h⟩, kept_below (Below.refl _ _)⟩
  · refine (need_miss W h (i + 1) hi ⟨#[40]⟩ h40).mono ?_
    rintro x w' ⟨rfl, hp, hk⟩
    exact ⟨rfl, .inr ⟨h40, show (2 : Int) ≠ 0 by decide, _, hp⟩, hk⟩
/-- Behind the expression. -/
def WxSt (r : Nat) (la : Option Addr) (lc : Nat) (L : List Tk) (m d i K : Nat) (w : World) (v : Nv) (k : Nat) (W : World) : Prop :=
  (wordT L (i + 1) = [40] ∧ ∃ n, exR L m 0 1 (i + 2) = .ok (n, k) ∧ NdIs W (w.heap.size ≤ ·) v n ∧ PkAt W r la lc L d ∧ k ≤ L.length) ∨ (∃ y, whX L m i = .error y ∧ PbAt W r la lc L y ∧ k ≤ K)
theorem wa_expr {m d i : Nat} {W : World} {ev : Option Nat} (hd : d + m = 30) (h : WaSt r la lc L d i W) (hi : i + 2 ≤ kbX L m + 1) :
    Calls Try.prog 57 #[.pointer (some ⟨r, 0, none⟩), .map ev, .int .i64 ((i + 1 + 1 : Nat) : Int), .int .i64 0] W fun x w' => ∃ (v : Nv) (k : Nat), x = .returned (.tuple #[aggN v, .int .i64 (k : Int)]) ∧ Kept (· = r) W w' ∧ WxSt r la lc L m d i (kbX L m + 1) W v k w' := by
  rcases h with ⟨h40, hp⟩ | ⟨h40, hp⟩
  · have hil := wrd_lt h40 (by simp)
    refine ((ex_all_r r la lc L m (by omega)).1 d 1 (i + 1 + 1) ev W hd hp (by omega) (by decide) (by decide)).mono ?_
    intro x w' hx
    obtain ⟨v, k, rfl, hk, hc⟩ := hx.any
    refine ⟨v, k, rfl, hk, ?_⟩
    rcases hc with ⟨n, h1, h2, h3, h4⟩ | ⟨y, h1, h2, h3⟩
    · exact .inl ⟨h40, n, h1, h2, h3, h4⟩
    · exact .inr ⟨y, by unfold whX; rw [if_pos h40]; rw [show i + 1 + 1 = i + 2 from rfl] at h1; rw [h1], h3, by omega⟩
  · refine (rexpr_bad W hp (i + 1 + 1) ev 0).mono ?_
    rintro x w' ⟨rfl, hp2, hk⟩
    exact ⟨_, _, rfl, hk, .inr ⟨_, by unfold whX; rw [if_neg h40], hp2, by omega⟩⟩
theorem WxSt.below {m d i K k : Nat} {w W W' : World} {v : Nv} (h : WxSt r la lc L m d i K w v k W) (hb : Below W.heap.size W W') : WxSt r la lc L m d i K w v k W' := by
  rcases h with ⟨h40, n, h1, h2, h3, h4⟩ | ⟨y, h1, h2, h4⟩
  · exact .inl ⟨h40, n, h1, h2.kept (fun b _ hlt => hb.block b hlt), h3.below hb, h4⟩
  · exact .inr ⟨y, h1, h2.below hb, h4⟩
/-- Behind ). -/
def WySt (r : Nat) (la : Option Addr) (lc : Nat) (L : List Tk) (m d i K : Nat) (w : World) (v : Nv) (k : Nat) (W : World) : Prop :=
  (∃ n, whX L m i = .ok (n, k) ∧ NdIs W (w.heap.size ≤ ·) v n ∧ PkAt W r la lc L d ∧ k ≤ L.length ∧ i ≤ k) ∨ (∃ y, whX L m i = .error y ∧ PbAt W r la lc L y ∧ k ≤ K)
theorem wx_need {m d i K k : Nat} {w W : World} {v : Nv} (h : WxSt r la lc L m d i K w v k W) (hL : L.length ≤ K) (hK : K ≤ 900000) :
    Calls Try.prog 36 #[.pointer (some ⟨r, 0, none⟩), .int .i64 (k : Int), .string ⟨#[41]⟩] W fun x w' => x = .returned (.int .i64 ((k + 1 : Nat) : Int)) ∧ Kept (· = r) W w' ∧ WySt r la lc L m d i (K + 1) w v (k + 1) w' := by
  rcases h with ⟨h40, n, h1, h2, h3, h4⟩ | ⟨y, h1, ⟨h2, d', h3⟩, h4⟩
  · have had := (exR_adv L m).1 1 (i + 2) n k (Nat.le_refl _) h1
    by_cases h41 : wordT L k = [41]
    · have hkl := wrd_lt h41 (by simp)
      refine (need_hit W h3 k (by omega) ⟨#[41]⟩ h41).mono ?_
      rintro x w' ⟨rfl, rfl⟩
      exact ⟨rfl, kept_below (Below.refl _ _), .inl ⟨n, by unfold whX; rw [if_pos h40, h1]; dsimp only; rw [if_pos h41], h2, h3, by omega, by omega⟩⟩
    · refine (need_miss W h3 k (by omega) ⟨#[41]⟩ h41).mono ?_
      rintro x w' ⟨rfl, hp, hk⟩
      exact ⟨rfl, hk, .inr ⟨_, by unfold whX; rw [if_pos h40, h1]; dsimp only; rw [if_neg h41], ⟨show (2 : Int) ≠ 0 by decide, _, hp⟩, by omega⟩⟩
  · refine (need_bad W h3 h2 k (by omega) ⟨#[41]⟩).mono ?_
    rintro x w' ⟨rfl, rfl⟩
    exact ⟨rfl, kept_below (Below.refl _ _), .inr ⟨y, h1, ⟨h2, d', h3⟩, by omega⟩⟩
end
end
end Go.Proofs.Ytkfbhknhjpmomaa
