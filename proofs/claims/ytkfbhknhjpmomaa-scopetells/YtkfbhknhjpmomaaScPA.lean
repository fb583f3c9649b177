/- Walk of the document's own Post: a part, and what stands behind it. · All that the document's own reads of expressions, by induction over what is left of its depth. -/
import Derived.Test.YtkfbhknhjpmomaaScLA
import Derived.Deep.CutBlock
import Derived.Deep.DeepCutAuto
namespace Go.Proofs.Ytkfbhknhjpmomaa
section
open Go.RowKit Go.Shelf
section
variable {r : Nat} {la : Option Addr} {lc : Nat} {L : List Tk} {w w' : World}
/-- A part so far, or what is wrong. -/
def PoSt (r : Nat) (la : Option Addr) (lc : Nat) (L : List Tk) (X : Nat → Nat → Got (Nd × Nat)) (d K : Nat) (R : Got (Nd × Nat)) (w : World) (B g k : Nat) (wr : World) : Prop :=
  Kept (· = r) w wr ∧ wr.heap[w.heap.size]? = some (boxN zeroN) ∧ ∃ x : Nv, wr.heap[B]? = some (boxN x) ∧
    ((∃ n, postLoop L X g n k = R ∧ NdIs wr (fun b => B < b) x n ∧ k ≤ L.length ∧ L.length + 1 ≤ g + k ∧ PkAt wr r la lc L d) ∨ (∃ y, R = .error y ∧ PbAt wr r la lc L y ∧ k ≤ K))
/-- Its block is written: what lies elsewhere stays. -/
theorem px_put {e f a d : Int} {B : Nat} (h : PxAt w r la lc L e f a d) (hB : w'.heap.size ≤ B) (hr : r < w'.heap.size) (hU : ∀ b off, la = some ⟨b, off, none⟩ → L ≠ [] → b < w'.heap.size) (x : Nv) : PxAt (putN w B x) r la lc L e f a d :=
  h.far_put (B := B) (by omega) (fun g hg => putN_other _ _ _ _ hg) (putN_size _ _ _) (fun b off e hL => by have := hU b off e hL; omega)

/-- It stays where all that lay below some block stays. -/
theorem PxAt.low {e f a d : Int} {base : Nat} (h : PxAt w r la lc L e f a d) (hb : ∀ b, b < base → w'.heap[b]? = w.heap[b]?) (hr : r < base) (hU : ∀ b off, la = some ⟨b, off, none⟩ → L ≠ [] → b < base) (hz : w.heap.size ≤ w'.heap.size) : PxAt w' r la lc L e f a d := by
  refine ⟨(hb r hr).trans h.box, ?_, h.far, h.few⟩
  by_cases hL : L = []
  · exact .inl hL
  rcases h.toks with h0 | ⟨b, off, rfl, hlt, hc⟩
  · exact .inl h0
  · refine .inr ⟨b, off, rfl, by omega, fun j x hx k v hv => ?_⟩
    have e := hb b (hU b off rfl hL)
    have := hc j x hx k v hv
    simpa [World.cell?, e] using this
theorem wrd_lit (L : List Tk) (i : Nat) (l : List UInt8) : ((wrdB L i).toList == l) = decide (wordT L i = l) := by
  rw [toList_data, wrdB_is]
  by_cases h : wordT L i = l
  · rw [decide_eq_true h, h, beq_self_eq_true]
  · rw [decide_eq_false h, beq_eq_false_iff_ne]; exact h
theorem wrd_lin (L : List Tk) (i : Nat) (l : List UInt8) : ((wrdB L i).toList != l) = !decide (wordT L i = l) := by
  show (!((wrdB L i).toList == l)) = _
  rw [wrd_lit]
theorem kind_at (i : Nat) (hi : i < L.length) : kindT L i = L[i].kind := by unfold kindT; rw [List.getElem?_eq_getElem hi]
/-- A leaf is stored. -/
theorem po_leaf {X : Nat → Nat → Got (Nd × Nat)} {d K B i : Nat} {R : Got (Nd × Nat)} {w w2 : World} (kd : Int) (hrw : r < w.heap.size) (hU : ∀ b off, la = some ⟨b, off, none⟩ → L ≠ [] → b < w.heap.size) (hB : w.heap.size < B) (hk : Kept (· = r) w w2) (hH : w2.heap[w.heap.size]? = some (boxN zeroN)) (hBx : w2.heap[B]? = some (boxN zeroN))
    (hc : (postLoop L X (L.length + 1) (.mk kd (i : Int) []) (i + 1) = R ∧ PkAt w2 r la lc L d ∧ i < L.length) ∨ (∃ y, R = .error y ∧ PbAt w2 r la lc L y ∧ i + 1 ≤ K)) :
    PoSt r la lc L X d K R w B (L.length + 1) (i + 1) (putN w2 B ⟨kd, i, none, 0, 0⟩) := by
  refine ⟨putN_kept hk (by omega) _, (putN_other _ _ _ _ (by omega)).trans hH, _, putN_block _ hBx, ?_⟩
  rcases hc with ⟨h1, h2, h3⟩ | ⟨y, h1, ⟨h2, d', h3⟩, h4⟩
  · exact .inl ⟨_, h1, ⟨rfl, rfl, KidsAt.nil⟩, by omega, by omega, px_put (w' := w) h2 (by omega) hrw hU _⟩
  · exact .inr ⟨y, h1, ⟨h2, d', px_put (w' := w) h3 (by omega) hrw hU _⟩, h4⟩

/-- Arguments so far, or what is wrong. -/
def ArSt (r : Nat) (la : Option Addr) (lc : Nat) (L : List Tk) (X : Nat → Nat → Got (Nd × Nat)) (d K : Nat) (Ra : Got (List Nd × Nat)) (w : World) (B k : Nat) (n : Nd) (g j : Nat) (wq : World) : Prop :=
  Kept (· = r) w wq ∧ wq.heap[w.heap.size]? = some (boxN zeroN) ∧
    ((∃ nvs ks a c, GrowAt w.heap.size (fun b => b = w.heap.size ∨ b = B) B 14 (-1) nvs a c wq ∧ NdsIs wq (kidP w.heap.size (fun b => b = w.heap.size ∨ b = B) a nvs.length c) nvs (n :: ks) ∧ argLoop L X g ks j = Ra ∧ PkAt wq r la lc L d ∧ j ≤ L.length ∧ L.length + 1 ≤ g + j ∧ k + 1 ≤ j ∧ nvs.length ≤ j) ∨
     (∃ y x', Ra = .error y ∧ wq.heap[B]? = some (boxN x') ∧ PbAt wq r la lc L y ∧ j ≤ K))
/-- Behind them. -/
def AfSt (r : Nat) (la : Option Addr) (lc : Nat) (L : List Tk) (d K : Nat) (Ra : Got (List Nd × Nat)) (w : World) (B k : Nat) (n : Nd) (j : Nat) (wq : World) : Prop :=
  Kept (· = r) w wq ∧ wq.heap[w.heap.size]? = some (boxN zeroN) ∧ ∃ x', wq.heap[B]? = some (boxN x') ∧
    ((∃ ks, Ra = .ok (ks, j) ∧ NdIs wq (fun b => B < b) x' (.mk 14 (-1) (n :: ks)) ∧ PkAt wq r la lc L d ∧ j < L.length ∧ k + 1 ≤ j) ∨ (∃ y, Ra = .error y ∧ PbAt wq r la lc L y ∧ j ≤ K))
/-- The first of a call's kids: what is called. -/
theorem ar_start {X : Nat → Nat → Got (Nd × Nat)} {d K B k : Nat} {w wr : World} {x : Nv} {n : Nd} (hrw : r < w.heap.size) (hU : ∀ b off, la = some ⟨b, off, none⟩ → L ≠ [] → b < w.heap.size) (hB : w.heap.size < B) (hBr : B < wr.heap.size) (hx : NdIs wr (fun b => B < b) x n) (hk : Kept (· = r) w wr) (hH : wr.heap[w.heap.size]? = some (boxN zeroN)) (hBx : wr.heap[B]? = some (boxN x)) (hp : PkAt wr r la lc L d) (hkl : k < L.length) :
    ArSt r la lc L X d K (argLoop L X (L.length + 1) [] (k + 1)) w B k n (L.length + 1) (k + 1) (putN (wr.alloc (.cells (cellsN [x]).toArray 26)) B ⟨14, -1, some ⟨wr.heap.size, 0, none⟩, 1, 1⟩) := by
  have hb := below_new wr (.cells (cellsN [x]).toArray 26)
  refine ⟨putN_kept (hk.trans (kept_below hb)) (by omega) _, (putN_other _ _ _ _ (by omega)).trans ((hb.block _ (by omega)).trans hH), .inl ⟨[x], [], _, _, grow_one 14 (-1) hBr (by omega) (fun b hs => by omega) hBx, NdsIs.one ?_, rfl, px_put (w' := w) (hp.below hb) (by omega) hrw hU _, by omega, by omega, Nat.le_refl _, by simp⟩⟩
  have h1 := hx.mono (Q := fun b => B < b ∧ b < wr.heap.size) (fun b hb2 hlt => ⟨hb2, hlt⟩)
  have h2 := h1.kept (w' := wr.alloc (.cells (cellsN [x]).toArray 26)) fun b _ hlt => hb.block b hlt
  have h3 := h2.kept (w' := putN (wr.alloc (.cells (cellsN [x]).toArray 26)) B ⟨14, -1, some ⟨wr.heap.size, 0, none⟩, 1, 1⟩) fun b hb2 _ => putN_other _ _ _ _ (by omega)
  exact h3.mono fun b hb2 _ => ⟨by omega, by omega, fun e => by
    have : wr.heap.size = b := by simpa [Value.ownBlock] using e
    omega⟩
/-- One more argument, which is read; the world behind its append. -/
theorem ar_next {X : Nat → Nat → Got (Nd × Nat)} {d K B k g k9 c : Nat} {Ra : Got (List Nd × Nat)} {w wq w9 w7 : World} {nvs : List Nv} {ks : List Nd} {a : Option Addr} {v9 : Nv} {n : Nd} {v' : Value} (hrw : r < w.heap.size) (hU : ∀ b off, la = some ⟨b, off, none⟩ → L ≠ [] → b < w.heap.size) (hB : w.heap.size < B)
    (hG : GrowAt w.heap.size (fun b => b = w.heap.size ∨ b = B) B 14 (-1) nvs a c wq) (hn : NdsIs wq (kidP w.heap.size (fun b => b = w.heap.size ∨ b = B) a nvs.length c) nvs (n :: ks)) (hk : Kept (· = r) w wq) (hH : wq.heap[w.heap.size]? = some (boxN zeroN)) (hk9 : Kept (· = r) wq w9)
    (hc : (∃ b, argLoop L X g (ks ++ [b]) k9 = Ra ∧ NdIs w9 (wq.heap.size ≤ ·) v9 b ∧ PkAt w9 r la lc L d ∧ k9 ≤ L.length ∧ L.length + 1 ≤ g + k9 ∧ k + 1 ≤ k9 ∧ nvs.length + 1 ≤ k9) ∨ (∃ y, Ra = .error y ∧ PbAt w9 r la lc L y ∧ k9 ≤ K))
    (hown : w7.ownsRow w.heap.size 26 3 v' (nvs.length + 1) (cellsN nvs ++ cellsN [v9])) (hg : ((w9.alloc (boxN v9)).alloc (.cells (cellsN [v9]).toArray 26)).grownBy w7 (Value.slice a nvs.length c).ownBlock)
    (hob : v'.ownBlock = (Value.slice a nvs.length c).ownBlock ∨ v'.ownBlock = some (w9.heap.size + 1 + 1)) :
    ∃ a1 c1, v' = .slice a1 (nvs ++ [v9]).length c1 ∧ w7.heap[B]? = some (boxN ⟨14, -1, a, nvs.length, c⟩) ∧ ArSt r la lc L X d K Ra w B k n g k9 (w7.setCell ⟨B, 2, none⟩ v') := by
  have hz9 := hk9.size
  have hb1 := below_new w9 (boxN v9)
  have hs1 : (w9.alloc (boxN v9)).heap.size = w9.heap.size + 1 := by simp
  have hb2 := below_new (w9.alloc (boxN v9)) (.cells (cellsN [v9]).toArray 26)
  have hb : Below w9.heap.size w9 ((w9.alloc (boxN v9)).alloc (.cells (cellsN [v9]).toArray 26)) := hb1.trans (hb2.mono hb1.size)
  have hBl := lt_of_block hG.box
  have hHl := lt_of_block hH
  have hS9 : ∀ b, (b = w.heap.size ∨ b = B) → b < ((w9.alloc (boxN v9)).alloc (.cells (cellsN [v9]).toArray 26)).heap.size := fun b hs => by have := hb.size; rcases hs with rfl | rfl <;> omega
  have hG9 : GrowAt w.heap.size (fun b => b = w.heap.size ∨ b = B) B 14 (-1) nvs a c ((w9.alloc (boxN v9)).alloc (.cells (cellsN [v9]).toArray 26)) := (hG.kept hk9 (by omega) (fun b hb => by omega)).below hb
  have hn9 : NdsIs ((w9.alloc (boxN v9)).alloc (.cells (cellsN [v9]).toArray 26)) (kidP w.heap.size (fun b => b = w.heap.size ∨ b = B) a nvs.length c) nvs (n :: ks) := (hn.kept fun b hb2 hlt => hk9.block b hlt (by have := hb2.1; omega)).kept fun b _ hlt => hb.block b hlt
  have e1 : (nvs ++ [v9]).length = nvs.length + 1 := by simp
  rw [← cellsN_append, ← e1] at hown
  rw [show w9.heap.size + 1 + 1 = ((w9.alloc (boxN v9)).alloc (.cells (cellsN [v9]).toArray 26)).heap.size by simp] at hob
  obtain ⟨a1, c1, rfl, h1, h2, h3, h4, h5⟩ := hG9.more (.inr rfl) hS9 hown hg hob
  have hnr : (Value.slice a nvs.length c).ownBlock ≠ some w.heap.size := hG.ne _ (.inl rfl)
  have hH9 := (hb.block _ (by omega)).trans ((hk9.block _ hHl (by omega)).trans hH)
  have hlow : ∀ b, b < w.heap.size → (w7.setCell ⟨B, 2, none⟩ (.slice a1 (nvs ++ [v9]).length c1)).heap[b]? = ((w9.alloc (boxN v9)).alloc (.cells (cellsN [v9]).toArray 26)).heap[b]? := fun b hlt => h3 b (by have := hb.size; omega) (fun e => by have := (own_at hG.row e).1; omega) (by omega)
  have hzz : ((w9.alloc (boxN v9)).alloc (.cells (cellsN [v9]).toArray 26)).heap.size ≤ (w7.setCell ⟨B, 2, none⟩ (.slice a1 (nvs ++ [v9]).length c1)).heap.size := by rw [World.size_setCell]; exact hg.size
  have hpx : ∀ {e f aa dd : Int}, PxAt w9 r la lc L e f aa dd → PxAt (w7.setCell ⟨B, 2, none⟩ (.slice a1 (nvs ++ [v9]).length c1)) r la lc L e f aa dd := fun {e f aa dd} h => (h.below hb).low hlow hrw hU hzz
  refine ⟨a1, c1, rfl, h1, h5 ((hk.trans hk9).trans (kept_below hb)) (Nat.le_refl _) (by omega), (h3 _ (by have := hb.size; omega) hnr (by omega)).trans hH9, ?_⟩
  rcases hc with ⟨b, c1', c2, c3, c4, c5, c6, c7⟩ | ⟨y, c1', ⟨c2, d', c3⟩, c4⟩
  · refine .inl ⟨nvs ++ [v9], ks ++ [b], a1, c1, ?_, ?_, c1', hpx c3, c4, c5, c6, by rw [e1]; exact c7⟩
    · exact h2
    · have q : NdsIs ((w9.alloc (boxN v9)).alloc (.cells (cellsN [v9]).toArray 26)) (kidP w.heap.size (fun b => b = w.heap.size ∨ b = B) a nvs.length c) [v9] [b] := by
        refine NdsIs.one ((c2.kept (w' := (w9.alloc (boxN v9)).alloc (.cells (cellsN [v9]).toArray 26)) fun b _ hlt => hb.block b hlt).mono fun b hb2 _ => ⟨by omega, by omega, fun e => ?_⟩)
        have := (own_at hG.row e).2
        omega
      exact (h4 hn9).app (h4 q)
  · exact .inr ⟨y, _, c1', h2.box, ⟨c2, d', hpx c3⟩, c4⟩

/-- A node of two kids, one of them just read. -/
theorem po_pair {B : Nat} {w wr w8 : World} {x v8 : Nv} {n : Nd} {C : Nd → Prop} {E : Prop} {d : Nat} {y : Int × Nat} (kd : Int) (hrw : r < w.heap.size) (hU : ∀ b off, la = some ⟨b, off, none⟩ → L ≠ [] → b < w.heap.size) (hB : w.heap.size < B) (hBr : B < wr.heap.size)
    (hx : NdIs wr (fun b => B < b) x n) (hk : Kept (· = r) w wr) (hH : wr.heap[w.heap.size]? = some (boxN zeroN)) (hBx : wr.heap[B]? = some (boxN x)) (hk8 : Kept (· = r) wr w8)
    (hc : (∃ b, C b ∧ NdIs w8 (wr.heap.size ≤ ·) v8 b ∧ PkAt w8 r la lc L d) ∨ (E ∧ PbAt w8 r la lc L y)) :
    Kept (· = r) w (((putN w8 B ⟨kd, -1, some ⟨w8.heap.size + 1, 0, none⟩, 2, 2⟩).alloc (boxN v8)).alloc (.cells (cellsN [x, v8]).toArray 26)) ∧
    (((putN w8 B ⟨kd, -1, some ⟨w8.heap.size + 1, 0, none⟩, 2, 2⟩).alloc (boxN v8)).alloc (.cells (cellsN [x, v8]).toArray 26)).heap[w.heap.size]? = some (boxN zeroN) ∧
    (((putN w8 B ⟨kd, -1, some ⟨w8.heap.size + 1, 0, none⟩, 2, 2⟩).alloc (boxN v8)).alloc (.cells (cellsN [x, v8]).toArray 26)).heap[B]? = some (boxN ⟨kd, -1, some ⟨w8.heap.size + 1, 0, none⟩, 2, 2⟩) ∧
    ((∃ b, C b ∧ NdIs (((putN w8 B ⟨kd, -1, some ⟨w8.heap.size + 1, 0, none⟩, 2, 2⟩).alloc (boxN v8)).alloc (.cells (cellsN [x, v8]).toArray 26)) (fun b => B < b) ⟨kd, -1, some ⟨w8.heap.size + 1, 0, none⟩, 2, 2⟩ (.mk kd (-1) [n, b]) ∧
      PkAt (((putN w8 B ⟨kd, -1, some ⟨w8.heap.size + 1, 0, none⟩, 2, 2⟩).alloc (boxN v8)).alloc (.cells (cellsN [x, v8]).toArray 26)) r la lc L d) ∨
     (E ∧ PbAt (((putN w8 B ⟨kd, -1, some ⟨w8.heap.size + 1, 0, none⟩, 2, 2⟩).alloc (boxN v8)).alloc (.cells (cellsN [x, v8]).toArray 26)) r la lc L y)) := by
  have hz8 := hk8.size
  have hb1 := below_new w8 (boxN v8)
  have hs1 : (w8.alloc (boxN v8)).heap.size = w8.heap.size + 1 := by simp
  have hb2 := below_new (w8.alloc (boxN v8)) (.cells (cellsN [x, v8]).toArray 26)
  have hb : Below w8.heap.size w8 ((w8.alloc (boxN v8)).alloc (.cells (cellsN [x, v8]).toArray 26)) := hb1.trans (hb2.mono hb1.size)
  have hH8 : w8.heap[w.heap.size]? = _ := (hk8.block _ (by omega) (by omega)).trans hH
  have hB8 : w8.heap[B]? = _ := (hk8.block _ (by omega) (by omega)).trans hBx
  rw [← putN_past _ _ _ _ (by omega), ← putN_past _ _ _ _ (by simp; omega)]
  refine ⟨putN_kept ((hk.trans hk8).trans (kept_below hb)) (by omega) _, ?_, putN_block _ (u := x) ((hb.block _ (by omega)).trans hB8), ?_⟩
  · rw [putN_other _ _ _ _ (by omega)]; exact (hb.block _ (by omega)).trans hH8
  · rcases hc with ⟨b, h1, h2, h3⟩ | ⟨h1, h2, d', h3⟩
    · refine .inl ⟨b, h1, ⟨rfl, rfl, ?_⟩, px_put (w' := w) (h3.below hb) (by omega) hrw hU _⟩
      have q1 : NdIs (w8.alloc (boxN v8)) (fun b => B < b) x n := (hx.kept fun b hb hlt => hk8.block b hlt (by omega)).kept fun b _ hlt => hb1.block b hlt
      have q2 : NdIs (w8.alloc (boxN v8)) (fun b => B < b) v8 b := (h2.mono (Q := fun b => B < b) fun b hb _ => by omega).kept fun b _ hlt => hb1.block b hlt
      have hkk : KidsAt ((w8.alloc (boxN v8)).alloc (.cells (cellsN [x, v8]).toArray 26)) (fun b => B < b) (.slice (some ⟨(w8.alloc (boxN v8)).heap.size, 0, none⟩) 2 2) [n, b] :=
        kids_new (P := fun b => B < b) (NdsIs.two q1 q2) (by simp) (fun b hb _ => hb) (by omega)
      rw [hs1] at hkk
      exact hkk.kept fun b hb _ => putN_other _ _ _ _ (by omega)
    · exact .inr ⟨h1, h2, d', px_put (w' := w) (h3.below hb) (by omega) hrw hU _⟩

set_option maxRecDepth 100000 in
set_option maxHeartbeats 4000000 in
theorem pok_step (m : Nat) (hm : m ≤ 30) (hX : XOk r la lc L m) : POk r la lc L m := by
  intro d i ev w hd h hi
  have hrw := h.lt
  have HUn := hid h.under
  have hfew := h.few
  have HXk := hid (fun l' i' W (hW : PkAt W r la lc L d) (h1 : i' ≤ L.length) (h2 : 1 ≤ l') (h3 : l' ≤ 13) => hX d l' i' ev W (by omega) hW h1 h2 h3)
  have HAdv := hid (exR_adv L m).1
  have hkl : kbX L m ≤ 100000 := by unfold kbX; omega
  have hkL : L.length + 10 ≤ kbX L m := by unfold kbX; omega
  generalize hR : postR L (fun l i => exR L m 0 l i) i = R
  have HR := hid hR
  unfold postR at HR
  have hB1 := below_new w (boxN zeroN)
  have hB2 := below_new (w.alloc (boxN zeroN)) (boxN zeroN)
  have hs1 : (w.alloc (boxN zeroN)).heap.size = w.heap.size + 1 := by simp
  have HP2 := hid ((h.below hB1).below hB2)
  have HK2 := hid ((kept_below (X := (· = r)) hB1).trans (kept_below hB2))
  have HH2 := hid ((hB2.block _ (by omega)).trans (heap_alloc_new w (boxN zeroN)))
  have hBB := heap_alloc_new (w.alloc (boxN zeroN)) (boxN zeroN)
  rw [hs1] at hBB
  have HB2 := hid hBB
  clear h hX hB1 hB2 hBB hs1 hR
  go_enter Try.func70, Try.ntmps70
  go_upto_block 0 with fail
  change Code.wp _ _ _ _ ((w.alloc (boxN zeroN)).alloc (boxN zeroN))
  generalize (w.alloc (boxN zeroN)).alloc (boxN zeroN) = w2 at HP2 HK2 HH2 HB2 ⊢
  generalize hBe : w.heap.size + 1 = B at HB2 ⊢
  have hBw : w.heap.size < B := by omega
  have hB2l := lt_of_block HB2.out
  have hrB : r ≠ B := by omega
  have hBr : B ≠ r := by omega
  have hHB : w.heap.size ≠ B := by omega
  have hBH : B ≠ w.heap.size := by omega
  have hHr : w.heap.size ≠ r := by omega
  have hrH : r ≠ w.heap.size := by omega
  have hH2l := lt_of_block HH2.out
  have HBe := hid hBe
  clear hBe
  go_cut [2] (fun x wx => ∃ k : Nat, x = .int .i64 (k : Int) ∧ Hid (PoSt r la lc L (fun l i => exR L m 0 l i) d (kbX L m + 2) R w B (L.length + 1) k wx))
  case first =>
    obtain ⟨⟨b0, b1, b2, b3, b4⟩, g1, g2, g3, g4⟩ := HP2.out.facts
    have hr2 := HP2.out.lt
    clear b1 b2 b3 b4 g1 g2 g3 g4
    by_cases hil : L.length ≤ i
    · have hili : (L.length : Int) ≤ (i : Int) := by omega
      rw [if_pos hil] at HR
      have HS := hid (pstop_ok w2 HP2.out i 9)
      go_wp2_with fail
      refine HS.out.mono ?_
      rintro e3 w3 ⟨rfl, hp3, hk3⟩
      have hH3 := (hk3.block _ hH2l (by omega)).trans HH2.out
      have hB3 := (hk3.block _ hB2l (by omega)).trans HB2.out
      obtain ⟨⟨a0, a1, a2⟩, _⟩ := boxN_facts hB3
      obtain ⟨⟨z0, z1, z2⟩, z3, z4, z5⟩ := boxN_facts hH3
      have hlt3 := lt_of_block hH3
      have hltB := lt_of_block hB3
      have HH3 := hid hH3
      have HKe := hid (putN_kept (HK2.out.trans hk3) (Nat.le_refl _) zeroN)
      have HPe := hid (px_put (w' := w) hp3 (Nat.le_refl _) hrw HUn.out zeroN)
      clear hk3 hp3 hH3 hB3
      go_wp2_with fail
      exact bodyPost_ret (nret2 Try.results70 (putN_block zeroN HH3.out) _ rfl rfl) rfl (EPost.bad HR.out.symm HKe.out (by omega) ⟨show (9 : Int) ≠ 0 by decide, _, HPe.out⟩)
    · have hili : ¬ (L.length : Int) ≤ (i : Int) := by omega
      have hi1 : i < L.length := by omega
      have hiI : (i : Int) < (L.length : Int) := by omega
      have hi0 : (0 : Int) ≤ (i : Int) := by omega
      have hwk : IntKind.i64.wrap ((i : Int) + 1) = ((i + 1 : Nat) : Int) := by rw [IntKind.wrap_i64]; omega
      rw [if_neg hil] at HR
      have HW := hid (pword_any w2 HP2.out i)
      have hw40 := wrd_lit L i [40]
      obtain ⟨⟨z0, z1, z2⟩, z3, z4, z5⟩ := boxN_facts HB2.out
      by_cases h40 : wordT L i = [40]
      · rw [decide_eq_true h40] at hw40
        rw [if_pos h40] at HR
        generalize wrdB L i = wb at HW hw40
        have hx1 := HXk.out 1 (i + 1) w2 HP2.out (by omega) (Nat.le_refl _) (by decide)
        rw [show (((1 : Nat) : Int) - 1) = 0 from rfl] at hx1
        have HX1 := hid hx1
        clear h40 hil hx1
        go_wp2_with fail
        refine HW.out.mono ?_
        rintro e3 w3 ⟨rfl, rfl⟩
        go_wp2_with fail
        refine HX1.out.mono ?_
        rintro e5 w5 hq5
        obtain ⟨v5, k5, rfl, hk5, hc5⟩ := hq5.any
        have hz5 := hk5.size
        have hH5 := (hk5.block _ hH2l (by omega)).trans HH2.out
        have hB5 := (hk5.block _ hB2l (by omega)).trans HB2.out
        obtain ⟨⟨y0, y1, y2⟩, y3, y4, y5⟩ := boxN_facts hB5
        have hB5l := lt_of_block hB5
        have HB5 := hid hB5
        have HH5 := hid hH5
        have HK6 := hid (putN_kept (HK2.out.trans hk5) (Nat.le_of_lt hBw) v5)
        have HH6 := hid ((putN_other w5 B v5 w.heap.size (by omega)).trans hH5)
        have HB6 := hid (putN_block v5 hB5)
        have HC6 : Hid ((∃ n, exR L m 0 1 (i + 1) = .ok (n, k5) ∧ NdIs (putN w5 B v5) (fun b => B < b) v5 n ∧ PkAt (putN w5 B v5) r la lc L d ∧ k5 ≤ L.length) ∨ (∃ y, exR L m 0 1 (i + 1) = .error y ∧ k5 ≤ kbX L m ∧ PbAt (putN w5 B v5) r la lc L y)) := by
          rcases hc5 with ⟨n, h1, h2, h3, h4⟩ | ⟨y, h1, h2, ⟨h3, d', h4⟩⟩
          · exact .inl ⟨n, h1, (h2.mono (Q := fun b => B < b) fun b hb _ => by omega).kept fun b hb _ => putN_other _ _ _ _ (by omega), px_put (w' := w) h3 (by omega) hrw HUn.out v5, h4⟩
          · exact .inr ⟨y, h1, h2, ⟨h3, d', px_put (w' := w) h4 (by omega) hrw HUn.out v5⟩⟩
        clear hk5 hc5 hq5 hH5 hB5 z0 z1 z2 z3 z4 z5
        unfold aggN
        go_upto_region 10 with fail
        change Code.wp _ _ _ _ (putN w5 B v5)
        clear y0 y1 y2 y3 y4 y5
        generalize putN w5 B v5 = w6 at HK6 HH6 HB6 HC6 ⊢
        rcases HC6.out with ⟨n, h1, h2, h3, h4⟩ | ⟨y, h1, h2, ⟨h3, d', h4⟩⟩
        · rw [h1] at HR
          by_cases h41 : wordT L k5 = [41]
          · have HNd := hid (need_hit w6 h3 k5 (by omega) ⟨#[41]⟩ h41)
            have hR2 : postLoop L (fun l i => exR L m 0 l i) (L.length + 1) n (k5 + 1) = R := by have := HR.out; dsimp only at this; rw [if_pos h41] at this; exact this
            have hkk := wrd_lt h41 (by simp)
            have HSt : Hid (PoSt r la lc L (fun l i => exR L m 0 l i) d (kbX L m + 2) R w B (L.length + 1) (k5 + 1) w6) := ⟨HK6.out, HH6.out, v5, HB6.out, .inl ⟨n, hR2, h2, by omega, by omega, h3⟩⟩
            clear h1 h2 h3 h41 hR2
            go_wp2_with fail
            refine HNd.out.mono ?_
            rintro e7 w7 ⟨rfl, rfl⟩
            go_wp2_with fail
            go_meet
            exact ⟨k5 + 1, rfl, HSt.out⟩
          · have HNd := hid (need_miss w6 h3 k5 (by omega) ⟨#[41]⟩ h41)
            have hR2 : R = .error (2, k5) := by have := HR.out; dsimp only at this; rw [if_neg h41] at this; exact this.symm
            have HRy := hid hR2
            clear h1 h2 h3 h41 hR2
            go_wp2_with fail
            refine HNd.out.mono ?_
            rintro e7 w7 ⟨rfl, hp7, hk7⟩
            have HSt : Hid (PoSt r la lc L (fun l i => exR L m 0 l i) d (kbX L m + 2) R w B (L.length + 1) (k5 + 1) w7) := ⟨HK6.out.trans hk7, (hk7.block _ (lt_of_block HH6.out) (by omega)).trans HH6.out, v5, (hk7.block _ (lt_of_block HB6.out) (by omega)).trans HB6.out, .inr ⟨_, HRy.out, ⟨show (2 : Int) ≠ 0 by decide, _, hp7⟩, by omega⟩⟩
            clear hp7 hk7
            go_wp2_with fail
            go_meet
            exact ⟨k5 + 1, rfl, HSt.out⟩
        · rw [h1] at HR
          have hR2 : R = .error y := HR.out.symm
          have HNd := hid (need_bad w6 h4 h3 k5 (by omega) ⟨#[41]⟩)
          have HSt : Hid (PoSt r la lc L (fun l i => exR L m 0 l i) d (kbX L m + 2) R w B (L.length + 1) (k5 + 1) w6) := ⟨HK6.out, HH6.out, v5, HB6.out, .inr ⟨y, hR2, ⟨h3, d', h4⟩, by omega⟩⟩
          clear h1 h3 h4 hR2
          go_wp2_with fail
          refine HNd.out.mono ?_
          rintro e7 w7 ⟨rfl, rfl⟩
          go_wp2_with fail
          go_meet
          exact ⟨k5 + 1, rfl, HSt.out⟩
      · rw [decide_eq_false h40] at hw40
        rw [if_neg h40] at HR
        have HNh := hid (fun hn => pnamed_hit w2 HP2.out i hn)
        have HNm := hid (fun hn => pnamed_miss w2 HP2.out i hn)
        obtain ⟨b, off, hla, hb, hne, hc⟩ := HP2.out.at i hi1
        have c0 := hc 0 _ rfl
        simp only [Nat.add_zero] at c0
        have hkd := kind_at i hi1
        rw [← hkd] at c0
        generalize wrdB L i = wb at HW hw40
        subst hla
        clear h40 hil hc hkd
        by_cases hlit : kindT L i = 2 ∨ kindT L i = 3 ∨ kindT L i = 4
        · rw [if_pos hlit] at HR
          have HSt := hid (po_leaf (X := fun l i => exR L m 0 l i) (K := kbX L m + 2) 11 hrw HUn.out hBw HK2.out HH2.out HB2.out (.inl ⟨HR.out, HP2.out, hi1⟩))
          generalize kindT L i = kd at c0 hlit
          clear HNh HNm HR
          rcases hlit with rfl | rfl | rfl
          · go_wp2_with fail
            refine HW.out.mono ?_
            rintro e3 w3 ⟨rfl, rfl⟩
            go_wp2_with fail
            go_meet
            exact ⟨i + 1, by go_num, HSt.out⟩
          · go_wp2_with fail
            refine HW.out.mono ?_
            rintro e3 w3 ⟨rfl, rfl⟩
            go_wp2_with fail
            go_meet
            exact ⟨i + 1, by go_num, HSt.out⟩
          · go_wp2_with fail
            refine HW.out.mono ?_
            rintro e3 w3 ⟨rfl, rfl⟩
            go_wp2_with fail
            go_meet
            exact ⟨i + 1, by go_num, HSt.out⟩
        · rw [if_neg hlit] at HR
          have hk2 : (kindT L i == 2) = false := by simp; omega
          have hk3 : (kindT L i == 3) = false := by simp; omega
          have hk4 : (kindT L i == 4) = false := by simp; omega
          generalize kindT L i = kd at c0 hlit hk2 hk3 hk4
          clear hlit
          by_cases hnm : nameT L i = true
          · rw [if_pos hnm] at HR
            have HN := hid (HNh.out hnm)
            clear HNh HNm hnm z0 z1 z2 z3 z4 z5
            go_wp2_with fail
            refine HW.out.mono ?_
            rintro e3 w3 ⟨rfl, rfl⟩
            go_wp2_with fail
            refine HN.out.mono ?_
            rintro e4 w4 ⟨rfl, hb4⟩
            have hH4 := (hb4.block _ hH2l).trans HH2.out
            have hB4 := (hb4.block _ hB2l).trans HB2.out
            have HSt := hid (po_leaf (X := fun l i => exR L m 0 l i) (K := kbX L m + 2) 10 hrw HUn.out hBw (HK2.out.trans (kept_below hb4)) hH4 hB4 (.inl ⟨HR.out, HP2.out.below hb4, hi1⟩))
            obtain ⟨⟨z0, z1, z2⟩, z3, z4, z5⟩ := boxN_facts hB4
            have hB4l := lt_of_block hB4
            clear hb4 hH4 hB4
            go_wp2_with fail
            go_meet
            exact ⟨i + 1, by go_num, HSt.out⟩
          · rw [if_neg hnm] at HR
            have HN := hid (HNm.out (by simpa using hnm))
            clear HNh HNm hnm z0 z1 z2 z3 z4 z5
            go_wp2_with fail
            refine HW.out.mono ?_
            rintro e3 w3 ⟨rfl, rfl⟩
            go_wp2_with fail
            refine HN.out.mono ?_
            rintro e4 w4 ⟨rfl, hp4, hk4⟩
            have hH4 := (hk4.block _ hH2l (by omega)).trans HH2.out
            have hB4 := (hk4.block _ hB2l (by omega)).trans HB2.out
            have HSt := hid (po_leaf (X := fun l i => exR L m 0 l i) (d := d) (K := kbX L m + 2) (i := i) 10 hrw HUn.out hBw (HK2.out.trans hk4) hH4 hB4 (.inr ⟨_, HR.out.symm, ⟨show (2 : Int) ≠ 0 by decide, _, hp4⟩, by omega⟩))
            obtain ⟨⟨z0, z1, z2⟩, z3, z4, z5⟩ := boxN_facts hB4
            have hB4l := lt_of_block hB4
            clear hk4 hp4 hH4 hB4
            go_wp2_with fail
            go_meet
            exact ⟨i + 1, by go_num, HSt.out⟩
  case rest =>
    obtain ⟨k0, rfl, HSt⟩ := hcut
    clear HR HP2 HK2 HH2 HB2 hB2l hH2l hi
    go_wp2_with fail
    go_loopg [2] (L.length + 1) (fun g x wr => ∃ k : Nat, x = .int .i64 (k : Int) ∧ Hid (PoSt r la lc L (fun l i => exR L m 0 l i) d (kbX L m + 2) R w B g k wr))
    case atStart => exact ⟨k0, rfl, HSt.out⟩
    case round =>
      obtain ⟨k, rfl, HS⟩ := hrel
      obtain ⟨hK, hH, x, hBx, hcase⟩ := HS.out
      clear HS HSt
      have hBl := lt_of_block hBx
      have hHl := lt_of_block hH
      have HKp := hid hK
      have HHp := hid hH
      have HBp := hid hBx
      clear hK hH hBx
      rcases hcase with ⟨n, hR, hx, hkL2, hfu, hp⟩ | ⟨y, hy, hp, hkK⟩
      · obtain ⟨g, rfl⟩ : ∃ g, gk = g + 1 := ⟨gk - 1, by omega⟩
        have HRl := hid hR
        simp only [postLoop] at HRl
        have HO := hid (pok_any wr hp)
        have HW := hid (pword_any wr hp k)
        have hw40 := wrd_lit L k [40]
        have hw91 := wrd_lit L k [91]
        have HPx := hid hp
        have HXn := hid hx
        have hrl := hp.lt
        have hwk : IntKind.i64.wrap ((k : Int) + 1) = ((k + 1 : Nat) : Int) := by rw [IntKind.wrap_i64]; omega
        have hk16 : k ≤ 6000 := by omega
        clear hR hp hx
        by_cases h40 : wordT L k = [40]
        · rw [decide_eq_true h40] at hw40
          rw [if_pos h40] at HRl
          have hkl1 := wrd_lt h40 (by simp)
          have hA0 := ar_start (X := fun l i => exR L m 0 l i) (K := kbX L m + 1) (k := k) hrw HUn.out hBw hBl HXn.out HKp.out HHp.out HBp.out HPx.out hkl1
          rw [putN_past _ _ _ _ hBl] at hA0
          have HA0 := hid hA0
          obtain ⟨⟨a0, a1, a2⟩, a3, a4, a5⟩ := boxN_facts HBp.out
          obtain ⟨i0, hi0, hz0, hzz1, hzz2⟩ := info_parts info_node
          generalize argLoop L (fun l i => exR L m 0 l i) (L.length + 1) [] (k + 1) = Ra at HA0 HRl
          generalize wrdB L k = wb at HW hw40 hw91
          clear h40 hA0 hw91
          go_wp2_with fail
          refine HO.out.mono ?_
          rintro e3 w3 ⟨rfl, rfl⟩
          go_wp2_with fail
          refine HW.out.mono ?_
          rintro e3 w4 ⟨rfl, rfl⟩
          go_upto_block 4 with fail
          change Code.wp _ _ _ _ ((putN w4 B ⟨14, -1, some ⟨w4.heap.size, 0, none⟩, 1, 1⟩).alloc (.cells (cellsN [x]).toArray 26))
          clear a0 a1 a2 a3 a4 a5
          generalize (putN w4 B ⟨14, -1, some ⟨w4.heap.size, 0, none⟩, 1, 1⟩).alloc (.cells (cellsN [x]).toArray 26) = w5 at HA0 ⊢
          clear HO HW HPx HXn HKp HHp HBp hBl hHl hrl
          go_cut [2] (fun xk wx => ∃ j : Nat, xk = .int .i64 (j : Int) ∧ Hid (AfSt r la lc L d (kbX L m + 1) Ra w B k n j wx))
          case first =>
            go_wp2_with fail
            go_loopg [2] (L.length + 1) (fun g' xk wq => ∃ j : Nat, xk = .int .i64 (j : Int) ∧ Hid (ArSt r la lc L (fun l i => exR L m 0 l i) d (kbX L m + 1) Ra w B k n g' j wq))
            case atStart => exact ⟨k + 1, by go_num, HA0.out⟩
            case round =>
              obtain ⟨j, rfl, HS⟩ := hrel
              obtain ⟨hKq, hHq, hcase⟩ := HS.out
              have HKq := hid hKq
              have HHq := hid hHq
              clear HS HA0 hKq hHq
              rcases hcase with ⟨nvs, ks, a, c, hG, hN, hRa, hp, hjL, hfu2, hkj, hnl⟩ | ⟨y, x', hRa, hBq, hp, hjK⟩
              · obtain ⟨g', rfl⟩ : ∃ g', gk = g' + 1 := ⟨gk - 1, by omega⟩
                have HRb := hid hRa
                simp only [argLoop] at HRb
                have HO := hid (pok_any wr hp)
                have HW := hid (pword_any wr hp j)
                have hw41 := wrd_lin L j [41]
                have hw41e := wrd_lit L j [41]
                have HG := hid hG
                have HN := hid hN
                have HPx := hid hp
                have hnlk : nvs.length = ks.length + 1 := hN.1
                obtain ⟨⟨a0, a1, a2⟩, a3, a4, a5⟩ := boxN_facts hG.box
                have hBl := lt_of_block hG.box
                have hwj : IntKind.i64.wrap ((j : Int) + 1) = ((j + 1 : Nat) : Int) := by rw [IntKind.wrap_i64]; omega
                clear hG hN hRa hp
                by_cases h41 : wordT L j = [41]
                · rw [if_pos h41] at HRb
                  have hjl := wrd_lt h41 (by simp)
                  rw [decide_eq_true h41] at hw41 hw41e
                  have HAf : Hid (AfSt r la lc L d (kbX L m + 1) Ra w B k n j wr) := ⟨HKq.out, HHq.out, _, HG.out.box, .inl ⟨ks, HRb.out.symm, HG.out.nd HN.out fun b h1 h2 => by have := HBe.out; omega, HPx.out, hjl, hkj⟩⟩
                  generalize wrdB L j = wj at HW hw41 hw41e
                  clear h41 a0 a1 a2 a3 a4 a5 hnlk
                  go_wp2_with fail
                  refine HO.out.mono ?_
                  rintro e3 w6 ⟨rfl, rfl⟩
                  go_wp2_with fail
                  refine HW.out.mono ?_
                  rintro e3 w7 ⟨rfl, rfl⟩
                  go_wp2_with fail
                  go_meet
                  exact ⟨j, rfl, HAf.out⟩
                · rw [if_neg h41] at HRb
                  rw [decide_eq_false h41] at hw41 hw41e
                  generalize wrdB L j = wj at HW hw41 hw41e
                  clear h41
                  by_cases hke : ks = []
                  · subst hke
                    rw [if_neg (by simp)] at HRb
                    simp only [List.isEmpty_nil, if_true] at HRb
                    have hnl1 : ¬ (1 : Int) < (nvs.length : Int) := by simp at hnlk; omega
                    have hnl2 : decide ((1 : Int) < (nvs.length : Int)) = false := decide_eq_false hnl1
                    have hx2 := HXk.out 2 j wr HPx.out hjL (by decide) (by decide)
                    rw [show (((2 : Nat) : Int) - 1) = 1 from rfl] at hx2
                    have HX2 := hid hx2
                    have HAd := hid (fun b k' (h : exR L m 0 2 j = .ok (b, k')) => HAdv.out 2 j b k' (by decide) h)
                    have HHnl := hid hnlk
                    clear hx2 hnlk
                    go_wp2_with fail
                    refine HO.out.mono ?_
                    rintro e3 w6 ⟨rfl, rfl⟩
                    go_wp2_with fail
                    refine HW.out.mono ?_
                    rintro e3 w7 ⟨rfl, rfl⟩
                    go_wp2_with fail
                    refine HO.out.mono ?_
                    rintro e3 w8 ⟨rfl, rfl⟩
                    go_wp2_with fail
                    refine (HX2.out).mono ?_
                    rintro e9 w9 hq9
                    obtain ⟨v9, k9, rfl, hk9, hc9⟩ := hq9.any
                    have hz9 := hk9.size
                    have hb1 := below_new w9 (boxN v9)
                    have hs1 : (w9.alloc (boxN v9)).heap.size = w9.heap.size + 1 := by simp
                    have hb2 := below_new (w9.alloc (boxN v9)) (.cells (cellsN [v9]).toArray 26)
                    have hb : Below w9.heap.size w9 ((w9.alloc (boxN v9)).alloc (.cells (cellsN [v9]).toArray 26)) := hb1.trans (hb2.mono hb1.size)
                    have hG9 := HG.out.kept hk9 (by omega) (fun b hb => by omega)
                    have HRow := hid (hG9.below hb).row
                    have hsrc := row_cells (new_row (w9.alloc (boxN v9)) [v9] (by simp))
                    rw [hs1] at hsrc
                    have HSrc := hid hsrc
                    obtain ⟨⟨y0, y1, y2⟩, y3, y4, y5⟩ := boxN_facts hG9.box
                    have hB9l := lt_of_block hG9.box
                    have HC9 : Hid ((∃ b, argLoop L (fun l i => exR L m 0 l i) g' ([] ++ [b]) k9 = Ra ∧ NdIs w9 (w8.heap.size ≤ ·) v9 b ∧ PkAt w9 r la lc L d ∧ k9 ≤ L.length ∧ L.length + 1 ≤ g' + k9 ∧ k + 1 ≤ k9 ∧ nvs.length + 1 ≤ k9) ∨ (∃ y, Ra = .error y ∧ PbAt w9 r la lc L y ∧ k9 ≤ kbX L m + 1)) := by
                      have hR := HRb.out
                      rcases hc9 with ⟨b, h1, h2, h3, h4⟩ | ⟨y, h1, h2, h3⟩
                      · rw [h1] at hR
                        have := HAd.out _ _ h1
                        exact .inl ⟨b, hR, h2, h3, h4, by omega, by omega, by omega⟩
                      · rw [h1] at hR
                        exact .inr ⟨y, hR.symm, h3, by omega⟩
                    have HK9 := hid hk9
                    have hwb : w.heap.size ≤ ((w9.alloc (boxN v9)).alloc (.cells (cellsN [v9]).toArray 26)).heap.size := by have := hb.size; omega
                    have hnl3 : nvs.length ≤ 6000 := by omega
                    clear hk9 hc9 hq9 hb1 hb2 hb hG9 hsrc hs1
                    unfold aggN
                    go_wp2_with (at_builtin; refine wpList_append_own_at _ rfl _ _ 24 rfl w.heap.size 26 i0 _ 3 40 Try.underlying24 hi0 hz0 hzz1 hzz2 rfl (by decide) _ _ _ rfl HRow.out ⟨w9.heap.size + 1, 0, none⟩ 1 1 (cellsN [v9]) rfl (cellsN_length _) HSrc.out (cellsN_one_cell _) (by unfold maxLen; omega) (by omega) hwb ?_)
                    intro v' w7 hown7 hg7 _ hob7
                    obtain ⟨a1, c1, hv7, hB7, hAr⟩ := ar_next hrw HUn.out hBw HG.out HN.out HKq.out HHq.out HK9.out HC9.out hown7 hg7 hob7
                    rw [show (nvs ++ [v9]).length = nvs.length + 1 by simp] at hv7
                    subst hv7
                    have HAr := hid hAr
                    obtain ⟨⟨u0, u1, u2⟩, u3, u4, u5⟩ := boxN_facts hB7
                    have hB7l := lt_of_block hB7
                    clear hown7 hg7 hob7 hAr hB7 y0 y1 y2 y3 y4 y5 HC9 HK9 HRow HSrc
                    go_wp2_with fail
                    go_roundg g'
                    case measure => omega
                    case rel => exact ⟨k9, rfl, HAr.out⟩
                  · have hem : ks.isEmpty = false := by cases ks with
                      | nil => exact absurd rfl hke
                      | cons a b => rfl
                    have hnl1 : (1 : Int) < (nvs.length : Int) := by
                      have : ks.length ≠ 0 := fun e => hke (List.eq_nil_of_length_eq_zero e)
                      omega
                    have hnl2 : decide ((1 : Int) < (nvs.length : Int)) = true := decide_eq_true hnl1
                    rw [hem] at HRb
                    have HHnl := hid hnlk
                    clear hke hem hnlk
                    by_cases h44 : wordT L j = [44]
                    · rw [if_neg (by simp [h44])] at HRb
                      simp only [Bool.false_eq_true, if_false] at HRb
                      have hjl := wrd_lt h44 (by simp)
                      have HNd := hid (need_hit wr HPx.out j (by omega) ⟨#[44]⟩ h44)
                      have hx2 := HXk.out 2 (j + 1) wr HPx.out hjl (by decide) (by decide)
                      rw [show (((2 : Nat) : Int) - 1) = 1 from rfl] at hx2
                      have HX2 := hid hx2
                      have HAd := hid (fun b k' (h : exR L m 0 2 (j + 1) = .ok (b, k')) => HAdv.out 2 (j + 1) b k' (by decide) h)
                      clear hx2 h44
                      go_wp2_with fail
                      refine HO.out.mono ?_
                      rintro e3 w6 ⟨rfl, rfl⟩
                      go_wp2_with fail
                      refine HW.out.mono ?_
                      rintro e3 w7 ⟨rfl, rfl⟩
                      go_wp2_with fail
                      refine HNd.out.mono ?_
                      rintro e3 w7 ⟨rfl, rfl⟩
                      go_wp2_with fail
                      refine HO.out.mono ?_
                      rintro e3 w8 ⟨rfl, rfl⟩
                      go_wp2_with fail
                      refine (HX2.out).mono ?_
                      rintro e9 w9 hq9
                      obtain ⟨v9, k9, rfl, hk9, hc9⟩ := hq9.any
                      have hz9 := hk9.size
                      have hb1 := below_new w9 (boxN v9)
                      have hs1 : (w9.alloc (boxN v9)).heap.size = w9.heap.size + 1 := by simp
                      have hb2 := below_new (w9.alloc (boxN v9)) (.cells (cellsN [v9]).toArray 26)
                      have hb : Below w9.heap.size w9 ((w9.alloc (boxN v9)).alloc (.cells (cellsN [v9]).toArray 26)) := hb1.trans (hb2.mono hb1.size)
                      have hG9 := HG.out.kept hk9 (by omega) (fun b hb => by omega)
                      have HRow := hid (hG9.below hb).row
                      have hsrc := row_cells (new_row (w9.alloc (boxN v9)) [v9] (by simp))
                      rw [hs1] at hsrc
                      have HSrc := hid hsrc
                      obtain ⟨⟨y0, y1, y2⟩, y3, y4, y5⟩ := boxN_facts hG9.box
                      have hB9l := lt_of_block hG9.box
                      have HC9 : Hid ((∃ b, argLoop L (fun l i => exR L m 0 l i) g' (ks ++ [b]) k9 = Ra ∧ NdIs w9 (w8.heap.size ≤ ·) v9 b ∧ PkAt w9 r la lc L d ∧ k9 ≤ L.length ∧ L.length + 1 ≤ g' + k9 ∧ k + 1 ≤ k9 ∧ nvs.length + 1 ≤ k9) ∨ (∃ y, Ra = .error y ∧ PbAt w9 r la lc L y ∧ k9 ≤ kbX L m + 1)) := by
                        have hR := HRb.out
                        rcases hc9 with ⟨b, h1, h2, h3, h4⟩ | ⟨y, h1, h2, h3⟩
                        · rw [h1] at hR
                          have := HAd.out _ _ h1
                          exact .inl ⟨b, hR, h2, h3, h4, by omega, by omega, by omega⟩
                        · rw [h1] at hR
                          exact .inr ⟨y, hR.symm, h3, by omega⟩
                      have HK9 := hid hk9
                      have hwb : w.heap.size ≤ ((w9.alloc (boxN v9)).alloc (.cells (cellsN [v9]).toArray 26)).heap.size := by have := hb.size; omega
                      have hnl3 : nvs.length ≤ 6000 := by omega
                      clear hk9 hc9 hq9 hb1 hb2 hb hG9 hsrc hs1
                      unfold aggN
                      go_wp2_with (at_builtin; refine wpList_append_own_at _ rfl _ _ 24 rfl w.heap.size 26 i0 _ 3 40 Try.underlying24 hi0 hz0 hzz1 hzz2 rfl (by decide) _ _ _ rfl HRow.out ⟨w9.heap.size + 1, 0, none⟩ 1 1 (cellsN [v9]) rfl (cellsN_length _) HSrc.out (cellsN_one_cell _) (by unfold maxLen; omega) (by omega) hwb ?_)
                      intro v' w7 hown7 hg7 _ hob7
                      obtain ⟨a1, c1, hv7, hB7, hAr⟩ := ar_next hrw HUn.out hBw HG.out HN.out HKq.out HHq.out HK9.out HC9.out hown7 hg7 hob7
                      rw [show (nvs ++ [v9]).length = nvs.length + 1 by simp] at hv7
                      subst hv7
                      have HAr := hid hAr
                      obtain ⟨⟨u0, u1, u2⟩, u3, u4, u5⟩ := boxN_facts hB7
                      have hB7l := lt_of_block hB7
                      clear hown7 hg7 hob7 hAr hB7 y0 y1 y2 y3 y4 y5 HC9 HK9 HRow HSrc
                      go_wp2_with fail
                      go_roundg g'
                      case measure => omega
                      case rel => exact ⟨k9, rfl, HAr.out⟩
                    · rw [if_pos ⟨rfl, h44⟩] at HRb
                      have HNd := hid (need_miss wr HPx.out j (by omega) ⟨#[44]⟩ h44)
                      clear h44
                      go_wp2_with fail
                      refine HO.out.mono ?_
                      rintro e3 w6 ⟨rfl, rfl⟩
                      go_wp2_with fail
                      refine HW.out.mono ?_
                      rintro e3 w7 ⟨rfl, rfl⟩
                      go_wp2_with fail
                      refine HNd.out.mono ?_
                      rintro e3 w8 ⟨rfl, hp8, hk8⟩
                      have HAr : Hid (ArSt r la lc L (fun l i => exR L m 0 l i) d (kbX L m + 1) Ra w B k n g' (j + 1) w8) := ⟨HKq.out.trans hk8, (hk8.block _ (lt_of_block HHq.out) (by omega)).trans HHq.out, .inr ⟨_, _, HRb.out.symm, (hk8.block _ hBl (by omega)).trans HG.out.box, ⟨show (2 : Int) ≠ 0 by decide, _, hp8⟩, by omega⟩⟩
                      have HO2 := hid (pok_any w8 hp8)
                      rw [show ((2 : Int) == 0) = false from rfl] at HO2
                      clear hp8 hk8
                      go_wp2_with fail
                      refine HO2.out.mono ?_
                      rintro e3 w9 ⟨rfl, rfl⟩
                      go_wp2_with fail
                      go_roundg g'
                      case measure => omega
                      case rel => exact ⟨j + 1, rfl, HAr.out⟩
              · obtain ⟨hy0, d0, hp⟩ := hp
                have he0 : (y.1 == 0) = false := by simpa using hy0
                have HO := hid (pok_any wr hp)
                rw [he0] at HO
                have HAf : Hid (AfSt r la lc L d (kbX L m + 1) Ra w B k n j wr) := ⟨HKq.out, HHq.out, _, hBq, .inr ⟨y, hRa, ⟨hy0, d0, hp⟩, hjK⟩⟩
                clear hp hRa hBq hy0 he0
                go_wp2_with fail
                refine HO.out.mono ?_
                rintro e3 w6 ⟨rfl, rfl⟩
                go_wp2_with fail
                go_meet
                exact ⟨j, rfl, HAf.out⟩
          case rest =>
            obtain ⟨j, rfl, HAf⟩ := hcut
            obtain ⟨hKq, hHq, x', hBq, hcase⟩ := HAf.out
            have HSt : Hid (PoSt r la lc L (fun l i => exR L m 0 l i) d (kbX L m + 2) R w B g (j + 1) wc) := by
              refine ⟨hKq, hHq, x', hBq, ?_⟩
              have hR := HRl.out
              rcases hcase with ⟨ks, h1, h2, h3, h4, h5⟩ | ⟨y, h1, h2, h3⟩
              · rw [h1] at hR
                exact .inl ⟨_, hR, h2, by omega, by omega, h3⟩
              · rw [h1] at hR
                exact .inr ⟨y, hR.symm, h2, by omega⟩
            have hjb : j ≤ 200000 := by
              rcases hcase with ⟨ks, h1, h2, h3, h4, h5⟩ | ⟨y, h1, h2, h3⟩ <;> omega
            have hwj : IntKind.i64.wrap ((j : Int) + 1) = ((j + 1 : Nat) : Int) := by rw [IntKind.wrap_i64]; omega
            clear hKq hHq hBq hcase HAf HA0
            go_wp2_with fail
            go_roundg g
            case measure => omega
            case rel => exact ⟨j + 1, by go_num, HSt.out⟩
        · rw [decide_eq_false h40] at hw40
          rw [if_neg h40] at HRl
          by_cases h91 : wordT L k = [91]
          · rw [decide_eq_true h91] at hw91
            rw [if_pos h91] at HRl
            have hkl1 := wrd_lt h91 (by simp)
            have hx1 := HXk.out 1 (k + 1) wr HPx.out (by omega) (Nat.le_refl _) (by decide)
            rw [show (((1 : Nat) : Int) - 1) = 0 from rfl] at hx1
            have HX1 := hid hx1
            have HAd := hid (fun b k' (h : exR L m 0 1 (k + 1) = .ok (b, k')) => HAdv.out 1 (k + 1) b k' (Nat.le_refl _) h)
            generalize wrdB L k = wb at HW hw40 hw91
            clear h40 h91 hx1
            go_wp2_with fail
            refine HO.out.mono ?_
            rintro e3 w3 ⟨rfl, rfl⟩
            go_wp2_with fail
            refine HW.out.mono ?_
            rintro e3 w4 ⟨rfl, rfl⟩
            go_wp2_with fail
            refine HX1.out.mono ?_
            rintro e8 w8 hq8
            obtain ⟨v8, k8, rfl, hk8, hc8⟩ := hq8.any
            have hB8 := (hk8.block _ hBl (by omega)).trans HBp.out
            obtain ⟨⟨a0, a1, a2⟩, a3, a4, a5⟩ := boxN_facts hB8
            have hB8l := lt_of_block hB8
            have HQ : Hid (((∃ b, (exR L m 0 1 (k + 1) = .ok (b, k8) ∧ k8 ≤ L.length) ∧ NdIs w8 (w4.heap.size ≤ ·) v8 b ∧ PkAt w8 r la lc L d) ∨ (∃ y, (exR L m 0 1 (k + 1) = .error y ∧ k8 ≤ kbX L m) ∧ PbAt w8 r la lc L y))) := by
              rcases hc8 with ⟨n, h1, h2, h3, h4⟩ | ⟨y, h1, h2, h3⟩
              · exact .inl ⟨n, ⟨h1, h4⟩, h2, h3⟩
              · exact .inr ⟨y, ⟨h1, h2⟩, h3⟩
            have HK8 := hid hk8
            clear hk8 hc8 hq8 hB8
            unfold aggN
            go_upto_region 31 with fail
            change Code.wp _ _ _ _ (((putN w8 B ⟨15, -1, some ⟨w8.heap.size + 1, 0, none⟩, 2, 2⟩).alloc (boxN v8)).alloc (.cells (cellsN [x, v8]).toArray 26))
            clear a0 a1 a2 a3 a4 a5
            rcases HQ.out with ⟨b, ⟨h1, h4⟩, h2, h3⟩ | ⟨y, ⟨h1, h4⟩, h3⟩
            · obtain ⟨hK9, hH9, hB9, hC9⟩ := po_pair (C := fun z => z = b) (E := False) (y := (0, 0)) 15 hrw HUn.out hBw hBl HXn.out HKp.out HHp.out HBp.out HK8.out (.inl ⟨b, rfl, h2, h3⟩)
              rcases hC9 with ⟨_, rfl, hN9, hP9⟩ | ⟨hf, _⟩
              rotate_left
              · exact hf.elim
              generalize ((putN w8 B ⟨15, -1, some ⟨w8.heap.size + 1, 0, none⟩, 2, 2⟩).alloc (boxN v8)).alloc (.cells (cellsN [x, v8]).toArray 26) = w9 at hK9 hH9 hB9 hN9 hP9 ⊢
              rw [h1] at HRl
              dsimp only at HRl
              have had := HAd.out _ _ h1
              clear h1 h2 h3
              by_cases h93 : wordT L k8 = [93]
              · rw [if_pos h93] at HRl
                have HNd := hid (need_hit w9 hP9 k8 (by omega) ⟨#[93]⟩ h93)
                have hkk := wrd_lt h93 (by simp)
                have HSt : Hid (PoSt r la lc L (fun l i => exR L m 0 l i) d (kbX L m + 2) R w B g (k8 + 1) w9) := ⟨hK9, hH9, _, hB9, .inl ⟨_, HRl.out, hN9, by omega, by omega, hP9⟩⟩
                clear hK9 hH9 hB9 hN9 hP9 h93
                go_wp2_with fail
                refine HNd.out.mono ?_
                rintro e7 w7 ⟨rfl, rfl⟩
                go_wp2_with fail
                go_roundg g
                case measure => omega
                case rel => exact ⟨k8 + 1, rfl, HSt.out⟩
              · rw [if_neg h93] at HRl
                have HNd := hid (need_miss w9 hP9 k8 (by omega) ⟨#[93]⟩ h93)
                have HK9 := hid hK9
                have HH9 := hid hH9
                have HB9 := hid hB9
                clear hK9 hH9 hB9 hN9 hP9 h93
                go_wp2_with fail
                refine HNd.out.mono ?_
                rintro e7 w7 ⟨rfl, hp7, hk7⟩
                have HSt : Hid (PoSt r la lc L (fun l i => exR L m 0 l i) d (kbX L m + 2) R w B g (k8 + 1) w7) := ⟨HK9.out.trans hk7, (hk7.block _ (lt_of_block HH9.out) (by omega)).trans HH9.out, _, (hk7.block _ (lt_of_block HB9.out) (by omega)).trans HB9.out, .inr ⟨_, HRl.out.symm, ⟨show (2 : Int) ≠ 0 by decide, _, hp7⟩, by omega⟩⟩
                clear hp7 hk7
                go_wp2_with fail
                go_roundg g
                case measure => omega
                case rel => exact ⟨k8 + 1, rfl, HSt.out⟩
            · obtain ⟨hK9, hH9, hB9, hC9⟩ := po_pair (C := fun z => False) (E := True) (d := d) 15 hrw HUn.out hBw hBl HXn.out HKp.out HHp.out HBp.out HK8.out (.inr ⟨trivial, h3⟩)
              rcases hC9 with ⟨_, hf, _⟩ | ⟨_, hy0, d0, hP9⟩
              · exact hf.elim
              generalize ((putN w8 B ⟨15, -1, some ⟨w8.heap.size + 1, 0, none⟩, 2, 2⟩).alloc (boxN v8)).alloc (.cells (cellsN [x, v8]).toArray 26) = w9 at hK9 hH9 hB9 hP9 ⊢
              rw [h1] at HRl
              dsimp only at HRl
              have HNd := hid (need_bad w9 hP9 hy0 k8 (by omega) ⟨#[93]⟩)
              have HSt : Hid (PoSt r la lc L (fun l i => exR L m 0 l i) d (kbX L m + 2) R w B g (k8 + 1) w9) := ⟨hK9, hH9, _, hB9, .inr ⟨y, HRl.out.symm, ⟨hy0, d0, hP9⟩, by omega⟩⟩
              clear hK9 hH9 hB9 hP9 h1 h3 hy0
              go_wp2_with fail
              refine HNd.out.mono ?_
              rintro e7 w7 ⟨rfl, rfl⟩
              go_wp2_with fail
              go_roundg g
              case measure => omega
              case rel => exact ⟨k8 + 1, rfl, HSt.out⟩
          · rw [decide_eq_false h91] at hw91
            rw [if_neg h91] at HRl
            obtain ⟨⟨a0, a1, a2⟩, _⟩ := boxN_facts HBp.out
            obtain ⟨⟨z0, z1, z2⟩, z3, z4, z5⟩ := boxN_facts HHp.out
            have HKe := hid (putN_kept HKp.out (Nat.le_refl _) x)
            have HPe := hid (px_put (w' := w) HPx.out (Nat.le_refl _) hrw HUn.out x)
            have HNe := hid ((HXn.out.kept (w' := putN wr w.heap.size x) fun b hb _ => putN_other _ _ _ _ (by omega)).mono (Q := fun b => w.heap.size ≤ b) fun b hb _ => by omega)
            generalize wrdB L k = wb at HW hw40 hw91
            clear h40 h91
            go_wp2_with fail
            refine HO.out.mono ?_
            rintro e3 w3 ⟨rfl, rfl⟩
            go_wp2_with fail
            refine HW.out.mono ?_
            rintro e3 w4 ⟨rfl, rfl⟩
            go_wp2_with fail
            exact bodyPost_ret (nret2 Try.results70 (putN_block x HHp.out) _ rfl rfl) rfl (EPost.good HRl.out.symm HKe.out HNe.out HPe.out hkL2)
      · obtain ⟨hy0, d0, hp⟩ := hp
        have he0 : (y.1 == 0) = false := by simpa using hy0
        have HO := hid (pok_any wr hp)
        rw [he0] at HO
        obtain ⟨⟨a0, a1, a2⟩, _⟩ := boxN_facts HBp.out
        obtain ⟨⟨z0, z1, z2⟩, z3, z4, z5⟩ := boxN_facts HHp.out
        have HKe := hid (putN_kept HKp.out (Nat.le_refl _) x)
        have HPe := hid (px_put (w' := w) hp (Nat.le_refl _) hrw HUn.out x)
        have HY := hid (And.intro hy0 hy)
        clear hp hy hy0 he0
        go_wp2_with fail
        refine HO.out.mono ?_
        rintro e3 w3 ⟨rfl, rfl⟩
        go_wp2_with fail
        exact bodyPost_ret (nret2 Try.results70 (putN_block x HHp.out) _ rfl rfl) rfl (EPost.bad HY.out.2 HKe.out hkK ⟨HY.out.1, _, HPe.out⟩)
end
end
section
open Go.RowKit Go.Shelf
theorem ex_all_r (r : Nat) (la : Option Addr) (lc : Nat) (L : List Tk) : ∀ m, m ≤ 30 → XOk r la lc L m ∧ UOk r la lc L m
  | 0, _ => ⟨xok_zero, uok_zero⟩
  | m + 1, h => by
    obtain ⟨h1, h2⟩ := ex_all_r r la lc L m (by omega)
    exact ⟨xok_step m (by omega) h1 h2, uok_step m (by omega) h2 (pok_step m (by omega) h1)⟩
end
end Go.Proofs.Ytkfbhknhjpmomaa
