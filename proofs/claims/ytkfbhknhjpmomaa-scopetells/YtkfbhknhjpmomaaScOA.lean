/- States of a function's parameters, as the document's own reader has them. · Walk of the document's own Outer. · Walk of the document's own Parse. -/
import Derived.Test.YtkfbhknhjpmomaaScIA
import Derived.Test.YtkfbhknhjpmomaaScSA
namespace Go.Proofs.Ytkfbhknhjpmomaa
section
open Go.RowKit Go.Shelf
/-- Where a parameter's type stands. -/
abbrev prmI (ks : List Nd) (k : Nat) : Nat := if ks.isEmpty = true then k else k + 1
/-- Parameters so far, behind the type and the name. -/
def PrSt (r : Nat) (la : Option Addr) (lc : Nat) (L : List Tk) (X : Nat → Nat → Got (Nd × Nat)) (d K : Nat) (RP : Got (List Nd × Nat × En)) (w : World) (B : Nat) (h2 : List Nd) (e2v : Option Nat) (e2 : En) (g k : Nat) (ev : Option Nat) (wr : World) : Prop :=
  Kept (· = r) w wr ∧ wr.heap[w.heap.size]? = some (boxN zeroN) ∧ ∃ nvs a c, GrowAt w.heap.size (fun b => b = w.heap.size ∨ b = B) B 3 (-1) nvs a c wr ∧
    ((∃ ks en, prmF L X g en k ks = RP ∧ NdsIs wr (kidP w.heap.size (fun b => b = w.heap.size ∨ b = B) a nvs.length c) nvs (h2 ++ ks) ∧ PkAt wr r la lc L d ∧ k ≤ L.length ∧ L.length + 1 ≤ g + k ∧ en.length ≤ k ∧ typN en [] = false ∧ EnAt wr (.map ev) en ∧ nvs.length ≤ k + 2 ∧ EnAt wr (.map e2v) e2 ∧ e2.length ≤ k) ∨ (∃ y, RP = .error y ∧ PbAt wr r la lc L y ∧ k ≤ K))
/-- Behind them. -/
def PfSt (r : Nat) (la : Option Addr) (lc : Nat) (L : List Tk) (d K : Nat) (RP : Got (List Nd × Nat × En)) (w : World) (B : Nat) (h2 : List Nd) (e2v : Option Nat) (e2 : En) (k : Nat) (ev : Option Nat) (wr : World) : Prop :=
  Kept (· = r) w wr ∧ wr.heap[w.heap.size]? = some (boxN zeroN) ∧ ∃ nvs a c, GrowAt w.heap.size (fun b => b = w.heap.size ∨ b = B) B 3 (-1) nvs a c wr ∧
    ((∃ ks en, RP = .ok (ks, k, en) ∧ NdsIs wr (kidP w.heap.size (fun b => b = w.heap.size ∨ b = B) a nvs.length c) nvs (h2 ++ ks) ∧ PkAt wr r la lc L d ∧ k + 1 ≤ L.length ∧ en.length ≤ k ∧ typN en [] = false ∧ EnAt wr (.map ev) en ∧ nvs.length ≤ k + 2 ∧ EnAt wr (.map e2v) e2 ∧ e2.length ≤ k) ∨ (∃ y, RP = .error y ∧ PbAt wr r la lc L y ∧ k ≤ K))
section
variable {r : Nat} {la : Option Addr} {lc : Nat} {L : List Tk} {w w' : World}
/-- A row of two, just made. -/
theorem grow_two {base : Nat} {S : Nat → Prop} {B : Nat} {W : World} {x y : Nv} (kd tk : Int) (hB : B < W.heap.size) (hbase : base ≤ W.heap.size) (hS : ∀ b, S b → b < W.heap.size) {u : Nv} (hb : W.heap[B]? = some (boxN u)) :
    GrowAt base S B kd tk [x, y] (some ⟨W.heap.size, 0, none⟩) 2 (putN (W.alloc (.cells (cellsN [x, y]).toArray 26)) B ⟨kd, tk, some ⟨W.heap.size, 0, none⟩, 2, 2⟩) := by
  refine ⟨putN_block _ (u := u) (((below_new W _).block B hB).trans hb), ?_, fun b hs e => ?_⟩
  · have h := new_row W [x, y] (by simp)
    refine row_same (h := ⟨h.1, h.2.imp id fun ⟨g, cap, cur, e, hg, r⟩ => ⟨g, cap, cur, e, by omega, r⟩⟩) fun b hb _ => putN_other _ _ _ _ ?_
    have : W.heap.size = b := by simpa [Value.ownBlock] using hb
    omega
  · have : W.heap.size = b := by simpa [Value.ownBlock] using e
    have := hS b hs
    omega
/-- The same, its node's block made behind its row. -/
theorem grow_two_new {base : Nat} {S : Nat → Prop} {W : World} {x y : Nv} (kd tk : Int) (hbase : base ≤ W.heap.size) (hS : ∀ b, S b → b < W.heap.size ∨ b = W.heap.size + 1) :
    GrowAt base S (W.heap.size + 1) kd tk [x, y] (some ⟨W.heap.size, 0, none⟩) 2 ((W.alloc (.cells (cellsN [x, y]).toArray 26)).alloc (boxN ⟨kd, tk, some ⟨W.heap.size, 0, none⟩, 2, 2⟩)) := by
  have hs1 : (W.alloc (.cells (cellsN [x, y]).toArray 26)).heap.size = W.heap.size + 1 := by simp
  have hbox := heap_alloc_new (W.alloc (.cells (cellsN [x, y]).toArray 26)) (boxN ⟨kd, tk, some ⟨W.heap.size, 0, none⟩, 2, 2⟩)
  rw [hs1] at hbox
  refine ⟨hbox, ?_, fun b hs e => ?_⟩
  · have h := new_row W [x, y] (by simp)
    refine row_same (h := ⟨h.1, h.2.imp id fun ⟨g, cap, cur, e, hg, r⟩ => ⟨g, cap, cur, e, by omega, r⟩⟩) fun b hb hlt => (below_new _ _).block b hlt
  · have : W.heap.size = b := by simpa [Value.ownBlock] using e
    have := hS b hs
    omega
/-- The type and the name. -/
theorem prm_start {X : Nat → Nat → Got (Nd × Nat)} {d K k : Nat} {en : En} {ev : Option Nat} {w wq : World} {x y : Nv} {m n : Nd} {RP : Got (List Nd × Nat × En)} (hk : Kept (· = r) w wq) (hH : wq.heap[w.heap.size]? = some (boxN zeroN)) (hx : NdIs wq (w.heap.size < ·) x m) (hy : NdIs wq (w.heap.size < ·) y n) (hp : PkAt wq r la lc L d) (hkL : k ≤ L.length) (hel : en.length ≤ k) (hnil : typN en [] = false) (hev : EnAt wq (.map ev) en) (hR : prmF L X (L.length + 1) en k [] = RP) :
    PrSt r la lc L X d K RP w (wq.heap.size + 1) [m, n] ev en (L.length + 1) k ev ((wq.alloc (.cells (cellsN [x, y]).toArray 26)).alloc (boxN ⟨3, -1, some ⟨wq.heap.size, 0, none⟩, 2, 2⟩)) := by
  have hHl := lt_of_block hH
  have hb1 := below_new wq (.cells (cellsN [x, y]).toArray 26)
  have hb2 := below_new (wq.alloc (.cells (cellsN [x, y]).toArray 26)) (boxN ⟨3, -1, some ⟨wq.heap.size, 0, none⟩, 2, 2⟩)
  have hb := hb1.trans (hb2.mono hb1.size)
  refine ⟨hk.trans (kept_below hb), (hb.block _ hHl).trans hH, [x, y], _, 2, grow_two_new 3 (-1) (by omega) (fun b hs => by rcases hs with rfl | rfl <;> omega), .inl ⟨[], en, hR, ?_, hp.below hb, hkL, by omega, hel, hnil, hev.below hb, by simp, hev.below hb, hel⟩⟩
  have q := (((NdsIs.two hx hy).mono (Q := fun b => w.heap.size < b ∧ b < wq.heap.size) fun b hb2 hlt => ⟨hb2, hlt⟩).kept (w' := (wq.alloc (.cells (cellsN [x, y]).toArray 26)).alloc (boxN ⟨3, -1, some ⟨wq.heap.size, 0, none⟩, 2, 2⟩)) fun b _ hlt => hb.block b hlt)
  exact q.mono fun b hb3 _ => ⟨by omega, by omega, fun e => by
    have : wq.heap.size = b := by simpa [Value.ownBlock] using e
    omega⟩
theorem prm_bad {d K B k : Nat} {h2 : List Nd} {e2v : Option Nat} {e2 : En} {ev : Option Nat} {RP : Got (List Nd × Nat × En)} {wq wr : World} {nvs : List Nv} {a : Option Addr} {c : Nat} {y : Int × Nat} (hk : Kept (· = r) w wq) (hH : wq.heap[w.heap.size]? = some (boxN zeroN)) (hG : GrowAt w.heap.size (fun b => b = w.heap.size ∨ b = B) B 3 (-1) nvs a c wq) (hrw : r < w.heap.size) (hk2 : Kept (· = r) wq wr) (hHB : w.heap.size < B) (hR : RP = .error y) (hp : PbAt wr r la lc L y) (hkK : k ≤ K) : PfSt r la lc L d K RP w B h2 e2v e2 k ev wr :=
  ⟨hk.trans hk2, (hk2.block _ (lt_of_block hH) (by omega)).trans hH, nvs, a, c, hG.kept hk2 (by omega) (fun b hb => by omega), .inr ⟨y, hR, hp, hkK⟩⟩
/-- One more parameter: its node, of a type and a declarator. -/
theorem prm_next {j m d K B g k k9 Z : Nat} {RP : Got (List Nd × Nat × En)} {h2 : List Nd} {w wr w9 W w7 : World} {nvs : List Nv} {a : Option Addr} {c : Nat} {ks : List Nd} {en e2 : En} {v9 : Nv} {ev9 e2v : Option Nat} {v' : Value} (hp : PkAt wr r la lc L d) (he2 : EnAt wr (.map e2v) e2) (he2l : e2.length ≤ k) (hj : prmI ks k = j) (hF : ∀ t ∈ L, t.text.size ≠ 0) (hrw : r < w.heap.size) (hU : ∀ b off, la = some ⟨b, off, none⟩ → L ≠ [] → b < w.heap.size) (hHB : w.heap.size < B)
    (hK : Kept (· = r) w wr) (hH : wr.heap[w.heap.size]? = some (boxN zeroN)) (hG : GrowAt w.heap.size (fun b => b = w.heap.size ∨ b = B) B 3 (-1) nvs a c wr)
    (hR : prmF L (fun l i => exR L m 0 l i) (g + 1) en k ks = RP) (hw41 : wordT L k ≠ [41]) (hcm : ks.isEmpty = true ∨ wordT L k = [44]) (hty : typT L en (j) = true) (hn : NdsIs wr (kidP w.heap.size (fun b => b = w.heap.size ∨ b = B) a nvs.length c) nvs (h2 ++ ks)) (hfu : L.length + 1 ≤ g + 1 + k) (hnil : typN en [] = false) (hnk : nvs.length ≤ k + 2)
    (hk9 : Kept (· = r) wr w9) (hb : Below w9.heap.size w9 W)
    (hc : (∃ n en', dclR L (fun l i => exR L m 0 l i) en (j + 1) false = .ok (n, k9, en') ∧ NdAp w9 (wr.heap.size ≤ ·) v9 n ∧ PkAt w9 r la lc L d ∧ k9 ≤ L.length ∧ en'.length ≤ k9 ∧ EnAt w9 (.map ev9) en') ∨ (∃ y, dclR L (fun l i => exR L m 0 l i) en (j + 1) false = .error y ∧ k9 ≤ K ∧ PbAt w9 r la lc L y))
    (hown : w7.ownsRow w.heap.size 26 3 v' (nvs.length + 1) (cellsN nvs ++ cellsN [⟨2, -1, some ⟨W.heap.size, 0, none⟩, 2, 2⟩]))
    (hg : ((W.alloc (.cells (cellsN [⟨16, (j : Nat), none, 0, 0⟩, v9]).toArray 26)).alloc (.cells (cellsN [⟨2, -1, some ⟨W.heap.size, 0, none⟩, 2, 2⟩]).toArray 26)).grownBy w7 (Value.slice a nvs.length c).ownBlock)
    (hob : v'.ownBlock = (Value.slice a nvs.length c).ownBlock ∨ v'.ownBlock = some Z) (hZ : Z = ((W.alloc (.cells (cellsN [⟨16, (j : Nat), none, 0, 0⟩, v9]).toArray 26)).alloc (.cells (cellsN [⟨2, -1, some ⟨W.heap.size, 0, none⟩, 2, 2⟩]).toArray 26)).heap.size) :
    ∃ a1 c1, v' = .slice a1 (nvs ++ ([⟨2, -1, some ⟨W.heap.size, 0, none⟩, 2, 2⟩] : List Nv)).length c1 ∧ w7.heap[B]? = some (boxN ⟨3, -1, a, nvs.length, c⟩) ∧ PrSt r la lc L (fun l i => exR L m 0 l i) d K RP w B h2 e2v e2 g k9 ev9 (w7.setCell ⟨B, 2, none⟩ v') := by
  subst hj
  have hBl := lt_of_block hG.box
  have hHl := lt_of_block hH
  have hWz := hb.size
  have hz9 := hk9.size
  have hb1 := below_new W (.cells (cellsN [⟨16, (prmI ks k : Nat), none, 0, 0⟩, v9]).toArray 26)
  have hb2 := below_new (W.alloc (.cells (cellsN [⟨16, (prmI ks k : Nat), none, 0, 0⟩, v9]).toArray 26)) (.cells (cellsN [⟨2, -1, some ⟨W.heap.size, 0, none⟩, 2, 2⟩]).toArray 26)
  have hbV := hb1.trans (hb2.mono hb1.size)
  have hb9V := hb.trans (hbV.mono hWz)
  have hk9V := hk9.trans (kept_below (X := (· = r)) hb9V)
  obtain ⟨a1, c1, hv7, hB7, hG8, hN8, hV8, hK8, hS8, hP8, hE8⟩ := grow_next (r := r) (la := la) (lc := lc) (L := L) (v9 := ⟨2, -1, some ⟨W.heap.size, 0, none⟩, 2, 2⟩) rfl hrw hU (fun b hs => by rcases hs with rfl | rfl <;> omega) (.inr rfl) hG hk9V (Below.refl _ _) hown hg hob hZ
  refine ⟨a1, c1, hv7, hB7, hK8 hK, (hS8 _ (.inl rfl) (by omega)).trans hH, _, a1, c1, hG8, ?_⟩
  have hR2 : (match dclR L (fun l i => exR L m 0 l i) en (prmI ks k + 1) false with
      | .error x => .error x
      | .ok (y, k3, e2) => prmF L (fun l i => exR L m 0 l i) g e2 k3 (ks ++ [.mk 2 (-1) [.mk 16 ((prmI ks k : Nat) : Int) [], y]])) = RP := by
    rw [← hR]
    simp only [prmF]
    rw [if_neg hw41, if_neg (by rcases hcm with h | h <;> simp [h]), if_neg (by show ¬ typT L en (prmI ks k) = false; rw [hty]; simp)]
    rfl
  rcases hc with ⟨n, en', h1, h3, h4, h5, h6, h7⟩ | ⟨y, h1, h3, ⟨h4, d', h5⟩⟩
  · rw [h1] at hR2
    have hf := dclR_facts (exR_adv L m).1 h1
    have hkk : k < k9 := by have := hf.2; unfold prmI at this; split at this <;> omega
    have q1 : NdsIs W (fun b => wr.heap.size ≤ b ∧ b < W.heap.size) [⟨16, (prmI ks k : Nat), none, 0, 0⟩, v9] [.mk 16 ((prmI ks k : Nat) : Int) [], n] := NdsIs.two ⟨rfl, rfl, KidsAt.nil⟩ ((h3.is.kept (w' := W) fun b _ hlt => hb.block b hlt).mono fun b hb hlt => ⟨hb, hlt⟩)
    have q2 : NdIs (W.alloc (.cells (cellsN [⟨16, (prmI ks k : Nat), none, 0, 0⟩, v9]).toArray 26)) (wr.heap.size ≤ ·) ⟨2, -1, some ⟨W.heap.size, 0, none⟩, 2, 2⟩ (.mk 2 (-1) [.mk 16 ((prmI ks k : Nat) : Int) [], n]) := ⟨rfl, rfl, kids_new q1 (by simp) (fun b hb _ => hb.1) (by omega)⟩
    have q3 := q2.kept fun b _ hlt => hb2.block b hlt
    refine .inl ⟨_, en', hR2, ?_, hP8 (h4.below hb9V), h5, by omega, h6, dclR_nil hF h1 hnil, hE8 _ _ (h7.below hb9V), by simp; omega, hE8 _ _ ((he2.kept hp.box hk9).below hb9V), by omega⟩
    have q4 := (hN8 _ hn).app (NdsIs.one (hV8 _ q3))
    rw [List.append_assoc] at q4
    exact q4
  · rw [h1] at hR2
    exact .inr ⟨y, hR2.symm, ⟨h4, d', hP8 (h5.below hb9V)⟩, h3⟩
/-- As it stands it is answered: its node is stored as the result. -/
theorem SmSt.fin {d K B k : Nat} {R : Got (Nd × Nat × En)} {ev : Option Nat} {x : Nv} {wr : World} (h : SmSt r la lc L d K R w B k ev x wr) (hrw : r < w.heap.size) (hU : ∀ b off, la = some ⟨b, off, none⟩ → L ≠ [] → b < w.heap.size) (K' : Nat) (hK : K ≤ K') :
    CPost r la lc L d K' R w (.returned (.tuple #[aggN x, .int .i64 (k : Int), .map ev])) (putN wr w.heap.size x) := by
  rcases h.ans with ⟨n, en, h1, h2, h3, h4, h5, h6⟩ | ⟨y, h1, h2, h3, d0, h4⟩
  · refine RPost.good h1 (putN_kept h.kept (Nat.le_refl _) x) ?_ (px_put (w' := w) h3 (Nat.le_refl _) hrw hU x) h4 h5 (h6.put h.res x)
    exact (h2.kept fun b hb hlt => putN_other _ _ _ _ (by omega)).mono fun b hb _ => by omega
  · exact RPost.bad h1 (putN_kept h.kept (Nat.le_refl _) x) (by omega) ⟨h3, d0, px_put (w' := w) h4 (Nat.le_refl _) hrw hU x⟩
/-- The block, behind the parameters. -/
theorem prm_block {d K B k k9 Z : Nat} {Rb : Got (Nd × Nat)} {R : Got (Nd × Nat × En)} {e2 : En} {e2v : Option Nat} {w wr w9 W w7 : World} {nvs : List Nv} {a : Option Addr} {c : Nat} {ps : List Nd} {v9 : Nv} {v' : Value} (hrw : r < w.heap.size) (hU : ∀ b off, la = some ⟨b, off, none⟩ → L ≠ [] → b < w.heap.size) (hHB : w.heap.size < B)
    (hK : Kept (· = r) w wr) (hH : wr.heap[w.heap.size]? = some (boxN zeroN)) (hG : GrowAt w.heap.size (fun b => b = w.heap.size ∨ b = B) B 3 (-1) nvs a c wr)
    (hR : R = match Rb with
      | .error x => .error x
      | .ok (b, k3) => .ok (.mk 3 (-1) (ps ++ [b]), k3, e2)) (hn : NdsIs wr (kidP w.heap.size (fun b => b = w.heap.size ∨ b = B) a nvs.length c) nvs ps) (hel : e2.length ≤ k) (hen : EnAt w9 (.map e2v) e2)
    (hk9 : Kept (· = r) wr w9) (hb : Below w9.heap.size w9 W) (hown : w7.ownsRow w.heap.size 26 3 v' (nvs.length + 1) (cellsN nvs ++ cellsN [v9])) (hg : W.grownBy w7 (Value.slice a nvs.length c).ownBlock) (hob : v'.ownBlock = (Value.slice a nvs.length c).ownBlock ∨ v'.ownBlock = some Z) (hZ : Z = W.heap.size)
    (hc : (∃ n, Rb = .ok (n, k9) ∧ NdIs w9 (wr.heap.size ≤ ·) v9 n ∧ PkAt w9 r la lc L d ∧ k9 ≤ L.length ∧ k ≤ k9) ∨ (∃ y, Rb = .error y ∧ k9 ≤ K ∧ PbAt w9 r la lc L y)) :
    ∃ a1 c1, v' = .slice a1 (nvs ++ [v9]).length c1 ∧ w7.heap[B]? = some (boxN ⟨3, -1, a, nvs.length, c⟩) ∧ SmSt r la lc L d K R w B k9 e2v ⟨3, -1, a1, (nvs ++ [v9]).length, c1⟩ (w7.setCell ⟨B, 2, none⟩ v') := by
  have hBl := lt_of_block hG.box
  have hHl := lt_of_block hH
  obtain ⟨a1, c1, hv7, hB7, hG8, hN8, hV8, hK8, hS8, hP8, hE8⟩ := grow_next (r := r) (la := la) (lc := lc) (L := L) (v9 := v9) rfl hrw hU (fun b hs => by rcases hs with rfl | rfl <;> omega) (.inr rfl) hG hk9 hb hown hg hob hZ
  refine ⟨a1, c1, hv7, hB7, hK8 hK, (hS8 _ (.inl rfl) (by omega)).trans hH, hG8.box, ?_⟩
  rcases hc with ⟨n, h1, h2, h3, h4, h5⟩ | ⟨y, h1, h2, ⟨h3, d', h4⟩⟩
  · rw [h1] at hR
    exact .inl ⟨_, e2, hR, hG8.nd ((hN8 _ hn).app (NdsIs.one (hV8 n h2))) (fun b h1 h2 => ⟨by omega, by omega⟩), hP8 h3, h4, by omega, hE8 _ _ hen⟩
  · rw [h1] at hR
    exact .inr ⟨y, hR, h2, ⟨h3, d', hP8 h4⟩⟩
end
end
section
open Go.RowKit Go.Shelf
/-- No function: as a declaration. -/
theorem out_rest {L : List Tk} {X : Nat → Nat → Got (Nd × Nat)} {B : En → Nat → Got (Nd × Nat × En)} {e : En} {i : Nat} (h0 : wordT L i ≠ wTypedef) (hty : typT L e i = true) (h : ∀ n k e2, dclR L X e (i + 1) false = .ok (n, k, e2) → (n.kids.isEmpty = false ∨ wordT L k ≠ [40])) : outR L X B e i = tailR L X false e i := by
  unfold outR tailR
  rw [if_neg h0, if_neg (by rw [hty]; simp)]
  cases hd : dclR L X e (i + 1) false with
  | error x => rfl
  | ok y =>
    obtain ⟨n, k, e2⟩ := y
    dsimp only
    rw [if_pos (h n k e2 hd)]
/-- A function, behind its (. -/
def funR (B : En → Nat → Got (Nd × Nat × En)) (e2 : En) (n : Nd) (i : Nat) : Got (List Nd × Nat × En) → Got (Nd × Nat × En)
  | .error x => .error x
  | .ok (ps, j, e3) => match noEn (B e3 (j + 1)) with
    | .error x => .error x
    | .ok (b, k3) => .ok (.mk 3 (-1) (([.mk 16 (i : Int) [], n] ++ ps) ++ [b]), k3, e2)
theorem out_fun {L : List Tk} {X : Nat → Nat → Got (Nd × Nat)} {B : En → Nat → Got (Nd × Nat × En)} {e e2 : En} {i k : Nat} {n : Nd} (h0 : wordT L i ≠ wTypedef) (hty : typT L e i = true) (hd : dclR L X e (i + 1) false = .ok (n, k, e2)) (hn : n.kids.isEmpty = true) (hw : wordT L k = [40]) : outR L X B e i = funR B e2 n i (prmF L X (L.length + 1) e2 (k + 1) []) := by
  unfold outR funR
  rw [if_neg h0, if_neg (by rw [hty]; simp), hd]
  dsimp only
  rw [if_neg (by rw [hn, hw]; simp)]
  rcases prmF L X (L.length + 1) e2 (k + 1) [] with x | ⟨ps, j, e3⟩
  · rfl
  · dsimp only
    rcases B e3 (j + 1) with x | ⟨b, k3, e4⟩
    · rfl
    · rfl
section
variable {r : Nat} {la : Option Addr} {lc : Nat} {L : List Tk} {w w' : World}
set_option maxRecDepth 100000 in
set_option maxHeartbeats 4000000 in
theorem outer_any (hF : ∀ t ∈ L, t.text.size ≠ 0) (hs : ∀ t ∈ L, t.text.size ≤ 3000) (en : En) (i : Nat) (ev : Option Nat) (w : World) (h : PkAt w r la lc L 0) (hi : i ≤ L.length) (hel : en.length ≤ i) (hnil : typN en [] = false) (hev : EnAt w (.map ev) en) :
    Calls Try.prog 17 #[.pointer (some ⟨r, 0, none⟩), .map ev, .int .i64 (i : Int)] w (CPost r la lc L 0 (ksX L 31) (outR L (fun l i => exR L 30 0 l i) (fun e i => stR L 30 1 e i) en i) w) := by
  have hrw := h.lt
  have HUn := hid h.under
  have hfew := h.few
  have hbox := h.box
  have hkx : kbX L 30 + 8 ≤ ksX L 31 := by unfold kbX ksX; omega
  have hkl : ksX L 31 ≤ 100000 := by unfold ksX; omega
  have hkb : L.length + 10 ≤ kbX L 30 := by unfold kbX; omega
  have hkk : kbX L 30 + 8 ≤ ksX L 30 := by unfold kbX ksX; omega
  have hk3 : ksX L 30 + 4 ≤ ksX L 31 := by unfold ksX; omega
  have hB1 := below_new w (boxN zeroN)
  have HP1 := hid (h.below hB1)
  have HK1 := hid (kept_below (X := (· = r)) hB1)
  have HH1 := hid (heap_alloc_new w (boxN zeroN))
  have HE1 := hid (hev.below hB1)
  have HW := hid (pword_any _ HP1.out i)
  have HNil := hid hnil
  have hwt := wrd_lit L i wTypedef
  have hw1 : w.heap.size < (w.alloc (boxN zeroN)).heap.size := by simp
  clear h hB1 hbox hev hnil
  by_cases h0 : wordT L i = wTypedef
  · rw [decide_eq_true h0] at hwt
    have hR : outR L (fun l i => exR L 30 0 l i) (fun e i => stR L 30 1 e i) en i = declR L (fun l i => exR L 30 0 l i) en i := by unfold outR; rw [if_pos h0]
    rw [hR]
    have HDc := hid (decl_any (r := r) (la := la) (lc := lc) 0 30 rfl hs en i ev _ HP1.out hi hel HNil.out HE1.out)
    generalize wrdB L i = wb at HW hwt
    clear h0 hR
    go_enter Try.func17, Try.ntmps17
    go_wp2_with fail
    refine HW.out.mono ?_
    rintro e3 w3 ⟨rfl, rfl⟩
    go_wp2_with fail
    refine HDc.out.mono ?_
    rintro e9 w9 hq9
    obtain ⟨v9, k9, ev9, rfl, hk9, hc9⟩ := hq9.any
    have hH9 := (hk9.block _ hw1 (by omega)).trans HH1.out
    have HH9 := hid hH9
    have HKe := hid (putN_kept (HK1.out.trans hk9) (Nat.le_refl _) v9)
    have HC : Hid (CPost r la lc L 0 (ksX L 31) (declR L (fun l i => exR L 30 0 l i) en i) w (.returned (.tuple #[aggN v9, .int .i64 (k9 : Int), .map ev9])) (putN w9 w.heap.size v9)) := by
      show RPost _ _ _ _ _ _ _ _ _ _ _ _
      rcases hc9 with ⟨n, en2, h1, h2, h3, h4, h5, h6⟩ | ⟨y, h1, h2, h3, d', h4⟩
      · refine RPost.good h1 HKe.out ?_ (px_put (w' := w) h3 (Nat.le_refl _) hrw HUn.out v9) h4 h5 (h6.put hH9 v9)
        exact (h2.kept (w' := putN w9 w.heap.size v9) fun b hb _ => putN_other _ _ _ _ (by omega)).mono fun b hb _ => by omega
      · exact RPost.bad h1 HKe.out (by omega) ⟨h3, d', px_put (w' := w) h4 (Nat.le_refl _) hrw HUn.out v9⟩
    obtain ⟨⟨z0, z1, z2⟩, z3, z4, z5⟩ := boxN_facts hH9
    have hHl9 := lt_of_block hH9
    clear hk9 hc9 hH9 hq9
    unfold aggN at HC ⊢
    go_wp2_with fail
    exact bodyPost_ret (nret3 Try.results17 (putN_block v9 HH9.out) _ rfl rfl rfl) rfl HC.out
  · rw [decide_eq_false h0] at hwt
    have HW0 := hid h0
    cases hty : typT L en i with
    | false =>
      have HT := hid (ptype_miss _ HP1.out hs HE1.out i (by omega) hty)
      have HR : Hid (outR L (fun l i => exR L 30 0 l i) (fun e i => stR L 30 1 e i) en i = .error (2, i)) := by show _ = _; unfold outR; rw [if_neg h0, if_pos hty]
      generalize wrdB L i = wb at HW hwt
      clear hty h0
      go_enter Try.func17, Try.ntmps17
      go_wp2_with fail
      refine HW.out.mono ?_
      rintro e3 w3 ⟨rfl, rfl⟩
      go_wp2_with fail
      refine HT.out.mono ?_
      rintro e4 w4 ⟨rfl, hp4, hk4⟩
      have hb5 := below_new w4 (boxN ⟨16, i, none, 0, 0⟩)
      have hp5 := hp4.below hb5
      have HO := hid (pok_any _ hp5)
      rw [show ((2 : Int) == 0) = false from rfl] at HO
      have hH5 := (hb5.block _ (by have := hk4.size; omega)).trans ((hk4.block _ hw1 (by omega)).trans HH1.out)
      have HH5 := hid hH5
      have HT5 := hid (heap_alloc_new w4 (boxN ⟨16, i, none, 0, 0⟩))
      have HKe := hid (putN_kept ((HK1.out.trans hk4).trans (kept_below hb5)) (Nat.le_refl _) ⟨16, i, none, 0, 0⟩)
      have HPe := hid (px_put (w' := w) hp5 (Nat.le_refl _) hrw HUn.out ⟨16, i, none, 0, 0⟩)
      have hz4 := hk4.size
      clear hp4 hk4 hb5 hp5 hH5
      unfold aggN
      go_wp2_with fail
      refine HO.out.mono ?_
      rintro e5 w5 ⟨rfl, rfl⟩
      generalize w4.alloc (boxN ⟨16, i, none, 0, 0⟩) = w5 at HH5 HT5 HKe HPe ⊢
      obtain ⟨⟨a0, a1, a2⟩, _⟩ := boxN_facts HT5.out
      obtain ⟨⟨z0, z1, z2⟩, z3, z4, z5⟩ := boxN_facts HH5.out
      have hHl := lt_of_block HH5.out
      have hTl := lt_of_block HT5.out
      go_wp2_with fail
      exact bodyPost_ret (nret3 Try.results17 (putN_block ⟨16, i, none, 0, 0⟩ HH5.out) _ rfl rfl rfl) rfl (RPost.bad (k := i + 1) HR.out HKe.out (by omega) ⟨show (2 : Int) ≠ 0 by decide, _, HPe.out⟩)
    | true =>
      have HT := hid (ptype_hit _ HP1.out hs HE1.out i (by omega) hty)
      have HTy := hid hty
      generalize hRR : outR L (fun l i => exR L 30 0 l i) (fun e i => stR L 30 1 e i) en i = R
      have HRR := hid hRR
      generalize wrdB L i = wb at HW hwt
      clear hty h0 hRR
      go_enter Try.func17, Try.ntmps17
      go_wp2_with fail
      refine HW.out.mono ?_
      rintro e3 w3 ⟨rfl, rfl⟩
      go_wp2_with fail
      refine HT.out.mono ?_
      rintro e4 w4 ⟨rfl, hb4⟩
      have hb5 := below_new w4 (boxN ⟨16, i, none, 0, 0⟩)
      have hz4 := hb4.size
      have hp5 := (HP1.out.below hb4).below hb5
      have HP5 := hid hp5
      have HO := hid (pok_any _ hp5)
      have HE5 := hid ((HE1.out.below hb4).below hb5)
      have HH5 := hid ((hb5.block _ (by omega)).trans ((hb4.block _ hw1).trans HH1.out))
      have HT5 := hid (heap_alloc_new w4 (boxN ⟨16, i, none, 0, 0⟩))
      have HK5 := hid ((HK1.out.trans (kept_below hb4)).trans (kept_below hb5))
      have hz5 : w4.heap.size < (w4.alloc (boxN ⟨16, i, none, 0, 0⟩)).heap.size := by simp
      clear hb4 hb5 hp5 HT
      unfold aggN
      go_wp2_with fail
      refine HO.out.mono ?_
      rintro e5 w5 ⟨rfl, rfl⟩
      generalize w4.alloc (boxN ⟨16, i, none, 0, 0⟩) = w5 at HP5 HE5 HH5 HT5 HK5 hz5 ⊢
      have hjl2 : i + 1 ≤ L.length := typ_len HNil.out HTy.out
      have HDc := hid (dcl_any (r := r) (la := la) (lc := lc) 0 30 rfl hs en (i + 1) false ev w5 HP5.out hjl2 (by omega) HE5.out)
      clear HO
      go_wp2_with fail
      refine HDc.out.mono ?_
      rintro e7 w7 hq7
      obtain ⟨v7, k7, ev7, rfl, hk7, hc7⟩ := hq7.any
      have hz7 := hk7.size
      have HC7 := hid hc7
      have HK7 := hid hk7
      have hbN := below_new w7 (boxN v7)
      have HBN := hid hbN
      have HTw := hid ((hbN.block _ (by omega)).trans ((hk7.block _ hz5 (by omega)).trans HT5.out))
      have HHw := hid ((hbN.block _ (by omega)).trans ((hk7.block _ (lt_of_block HH5.out) (by omega)).trans HH5.out))
      have HNw := hid (heap_alloc_new w7 (boxN v7))
      have hsN : (w7.alloc (boxN v7)).heap.size = w7.heap.size + 1 := by simp
      clear hk7 hq7 hbN hc7 HDc
      by_cases hfun : ∃ n e2, dclR L (fun l i => exR L 30 0 l i) en (i + 1) false = .ok (n, k7, e2) ∧ n.kids.isEmpty = true ∧ wordT L k7 = [40]
      · obtain ⟨n, e2, hd, hne, h40⟩ := hfun
        have HRf := hid (out_fun (B := fun e i => stR L 30 1 e i) HW0.out HTy.out hd hne h40)
        rw [HRR.out] at HRf
        generalize hRP : prmF L (fun l i => exR L 30 0 l i) (L.length + 1) e2 (k7 + 1) [] = RP at HRf
        have hk7l := wrd_lt h40 (by simp)
        obtain ⟨h2, h3, h5, h6⟩ : NdAp w7 (w5.heap.size ≤ ·) v7 n ∧ PkAt w7 r la lc L 0 ∧ e2.length ≤ k7 ∧ EnAt w7 (.map ev7) e2 := by
          rcases HC7.out with ⟨n', e', q1, q2, q3, q4, q5, q6⟩ | ⟨y, q1, _⟩
          · rw [hd] at q1; cases q1; exact ⟨q2, q3, q5, q6⟩
          · rw [hd] at q1; cases q1
        have hvn : v7.n = 0 := by
          obtain ⟨nvs, q1, _, _, q4⟩ := h2.kids
          rw [q1, q4.1]
          cases hk : n.kids with
          | nil => rfl
          | cons a b => rw [hk] at hne; cases hne
        obtain ⟨vk, vt, va, vn, vc⟩ := v7
        obtain rfl : vn = 0 := hvn
        unfold aggN
        go_upto_region 7 with fail
        change Code.wp _ _ _ _ (w7.alloc (boxN ⟨vk, vt, va, 0, vc⟩))
        generalize w7.alloc (boxN ⟨vk, vt, va, 0, vc⟩) = w8 at HBN HTw HHw HNw hsN ⊢
        have hz8 : w7.heap.size < w8.heap.size := by omega
        clear hsN
        have HTl := hid (decl_tail (w := w) (r := r) (la := la) (lc := lc) 0 30 rfl hs w5 w7 i en false ⟨vk, vt, va, 0, vc⟩ k7 ev7 (by omega) hrw HUn.out HK7.out HC7.out w8 HBN.out)
        obtain ⟨⟨n0, n1, n2⟩, _⟩ := boxN_facts HNw.out
        obtain ⟨⟨t0, t1, t2⟩, _⟩ := boxN_facts HTw.out
        have hTl8 : w4.heap.size < w8.heap.size := by omega
        have HK8 : Hid (Kept (· = r) w w8) := (HK5.out.trans HK7.out).trans (kept_below HBN.out)
        have hnil2 : typN e2 [] = false := dclR_nil hF hd HNil.out
        have HSt := hid (prm_start (r := r) (la := la) (lc := lc) (X := fun l i => exR L 30 0 l i) (d := 0) (K := kbX L 30 + 3) (x := ⟨16, i, none, 0, 0⟩) (y := ⟨vk, vt, va, 0, vc⟩) (m := .mk 16 (i : Int) []) (n := n) (k := k7 + 1) HK8.out HHw.out ⟨rfl, rfl, KidsAt.nil⟩ ((h2.is.kept (w' := w8) fun b _ hlt => HBN.out.block b hlt).mono fun b hb _ => by omega) (h3.below HBN.out) (by omega) (by omega) hnil2 (h6.below HBN.out) hRP)
        have HO := hid (pok_any w8 (h3.below HBN.out))
        have HWk := hid (pword_any w8 (h3.below HBN.out) k7)
        have hw40n := wrd_lin L k7 [40]
        rw [decide_eq_true h40, Bool.not_true] at hw40n
        have hw40e := wrd_lit L k7 [40]
        rw [decide_eq_true h40] at hw40e
        generalize wrdB L k7 = wj at HWk hw40n hw40e
        have hwk : IntKind.i64.wrap ((k7 : Int) + 1) = ((k7 + 1 : Nat) : Int) := by rw [IntKind.wrap_i64]; omega
        have hFB : w.heap.size < w8.heap.size + 1 := by omega
        clear hRP h2 h3 h5 h6 hnil2 hd hne h40 HTl HC7 HP5 HE5 HH5 HT5 HK5 HP1 HK1 HH1 HE1
        go_upto_region 11 with (first | (go_at_call 16; refine HO.out.mono ?_; rintro e9 wz ⟨rfl, hwz⟩; subst wz) | (go_at_call 31; refine HWk.out.mono ?_; rintro e9 wz ⟨rfl, hwz⟩; subst wz))
        change Code.wp _ _ _ _ ((w8.alloc (.cells (cellsN [⟨16, i, none, 0, 0⟩, ⟨vk, vt, va, 0, vc⟩]).toArray 26)).alloc (boxN ⟨3, -1, some ⟨w8.heap.size, 0, none⟩, 2, 2⟩))
        generalize (w8.alloc (.cells (cellsN [⟨16, i, none, 0, 0⟩, ⟨vk, vt, va, 0, vc⟩]).toArray 26)).alloc (boxN ⟨3, -1, some ⟨w8.heap.size, 0, none⟩, 2, 2⟩) = w10 at HSt ⊢
        generalize w8.heap.size + 1 = F at HSt hFB ⊢
        clear n0 n1 n2 t0 t1 t2 HO HWk
        obtain ⟨i0, hi0, hz0, hzz1, hzz2⟩ := info_parts info_node
        go_upto_block 0 with fail
        go_cut [2, 12] (fun a b wx => ∃ (k : Nat) (e' : Option Nat), a = .int .i64 (k : Int) ∧ b = .map e' ∧ Hid (PfSt r la lc L 0 (kbX L 30 + 4) RP w F [.mk 16 (i : Int) [], n] ev7 e2 k e' wx))
        case first =>
          go_wp2_with fail
          go_loopg [2, 12] (L.length + 1) (fun g a b wr => ∃ (k : Nat) (e' : Option Nat), a = .int .i64 (k : Int) ∧ b = .map e' ∧ Hid (PrSt r la lc L (fun l i => exR L 30 0 l i) 0 (kbX L 30 + 3) RP w F [.mk 16 (i : Int) [], n] ev7 e2 g k e' wr))
          case atStart => exact ⟨k7 + 1, ev7, by go_num, rfl, HSt.out⟩
          case round =>
            obtain ⟨k, e', rfl, rfl, HS⟩ := hrel
            obtain ⟨hK, hH, nvs, a, c, hG, hcase⟩ := HS.out
            clear HS HSt hwk
            rcases hcase with ⟨ks, en1, hRw, hN, hp, hkL2, hfu, hel1, hnil1, hen1, hnk, he2, he2l⟩ | ⟨y, hy, ⟨hy0, d0, hp⟩, hkK⟩
            · obtain ⟨g, rfl⟩ : ∃ g, gk = g + 1 := ⟨gk - 1, by omega⟩
              have HO := hid (pok_any wr hp)
              have HW := hid (pword_any wr hp k)
              have hwn := wrd_lin L k [41]
              have hwe := wrd_lit L k [41]
              have HKq := hid hK
              have HHq := hid hH
              have HG := hid hG
              have HNs := hid hN
              have HPx := hid hp
              have HRw := hid hRw
              have HNl := hid hnil1
              have HEq := hid hen1
              have HE2 := hid he2
              have hlen : nvs.length = ks.length + 2 := by have := hN.1; simp at this; omega
              have hFl := lt_of_block hG.box
              have hHl := lt_of_block hH
              obtain ⟨⟨f0, f1, f2⟩, _⟩ := boxN_facts hG.box
              have hnl3 : nvs.length ≤ 7000 := by omega
              clear hK hH hG hN hp hnil1 hen1 he2 hRw
              by_cases h41 : wordT L k = [41]
              · have hkl2 := wrd_lt h41 (by simp)
                rw [decide_eq_true h41] at hwn hwe
                rw [Bool.not_true] at hwn
                have hRe : RP = .ok (ks, k, en1) := by rw [← HRw.out]; simp only [prmF]; rw [if_pos h41]
                have HPf : Hid (PfSt r la lc L 0 (kbX L 30 + 4) RP w F [.mk 16 (i : Int) [], n] ev7 e2 k e' wr) := ⟨HKq.out, HHq.out, nvs, a, c, HG.out, .inl ⟨ks, en1, hRe, HNs.out, HPx.out, by omega, hel1, HNl.out, HEq.out, hnk, HE2.out, he2l⟩⟩
                generalize wrdB L k = wq at HW hwn hwe
                clear h41 hRe
                go_wp2_with fail
                refine HO.out.mono ?_
                rintro e3 w6 ⟨rfl, rfl⟩
                go_wp2_with fail
                refine HW.out.mono ?_
                rintro e3 w7 ⟨rfl, rfl⟩
                go_wp2_with fail
                go_meet
                exact ⟨k, e', rfl, rfl, HPf.out⟩
              · have HW41 := hid h41
                rw [decide_eq_false h41] at hwn hwe
                rw [Bool.not_false] at hwn
                generalize wrdB L k = wq at HW hwn hwe
                by_cases hC : ks.isEmpty = false ∧ wordT L k ≠ [44]
                · have hRe : RP = .error (2, k) := by rw [← HRw.out]; simp only [prmF]; rw [if_neg h41, if_pos hC]
                  have HRe := hid hRe
                  have HNd := hid (need_miss wr HPx.out k (by omega) ⟨#[44]⟩ hC.2)
                  have hkn : ks.length ≠ 0 := fun e => by rw [List.eq_nil_of_length_eq_zero e] at hC; cases hC.1
                  have hgt : (2 : Int) < (nvs.length : Int) := by omega
                  have hgd : decide ((2 : Int) < (nvs.length : Int)) = true := decide_eq_true hgt
                  have HLn := hid hlen
                  clear h41 hC hRe hkn hlen
                  go_wp2_with fail
                  refine HO.out.mono ?_
                  rintro e3 w6 ⟨rfl, rfl⟩
                  go_wp2_with fail
                  refine HW.out.mono ?_
                  rintro e3 w7 ⟨rfl, rfl⟩
                  go_wp2_with fail
                  refine HNd.out.mono ?_
                  rintro e3 wz ⟨rfl, hpz, hkz⟩
                  have HPf : Hid (PfSt r la lc L 0 (kbX L 30 + 4) RP w F [.mk 16 (i : Int) [], n] ev7 e2 (k + 1) e' wz) := prm_bad HKq.out HHq.out HG.out hrw hkz hFB HRe.out ⟨show (2 : Int) ≠ 0 by decide, _, hpz⟩ (by omega)
                  have HOz := hid (pok_any wz hpz)
                  rw [show ((2 : Int) == 0) = false from rfl] at HOz
                  clear hpz hkz
                  go_wp2_with fail
                  refine HOz.out.mono ?_
                  rintro e3 w8 ⟨rfl, rfl⟩
                  go_wp2_with fail
                  go_meet
                  exact ⟨k + 1, e', by go_num, rfl, HPf.out⟩
                · have hcm : ks.isEmpty = true ∨ wordT L k = [44] := by
                    cases hke : ks.isEmpty with
                    | true => exact .inl rfl
                    | false => exact .inr (Classical.byContradiction fun h => hC ⟨hke, h⟩)
                  have HCm := hid hcm
                  have HLn := hid hlen
                  generalize hb94 : decide ((2 : Int) < (nvs.length : Int)) = b94
                  have HB94 := hid hb94
                  obtain ⟨j, hj⟩ : ∃ j, prmI ks k = j := ⟨_, rfl⟩
                  have HJ := hid hj
                  have hjk : j = k ∨ j = k + 1 := by rw [← hj]; unfold prmI; split <;> simp
                  have hjL : j ≤ L.length := by
                    rw [← hj]
                    unfold prmI
                    split
                    · exact hkL2
                    · rename_i h0
                      rcases hcm with h1 | h1
                      · exact absurd h1 h0
                      · have := wrd_lt h1 (by simp); omega
                  have hjk2 : k ≤ j := by omega
                  have hjk3 : j ≤ k + 1 := by omega
                  clear h41 hC hcm hj hjk hlen
                  go_wp2_with fail
                  refine HO.out.mono ?_
                  rintro e3 w6 ⟨rfl, rfl⟩
                  go_wp2_with fail
                  refine HW.out.mono ?_
                  rintro e3 w7 ⟨rfl, rfl⟩
                  go_upto_if 94 with fail
                  clear hb94
                  go_cut [2] (fun x wx => x = .int .i64 (j : Int) ∧ w7 = wx)
                  case first =>
                    cases hke : ks.isEmpty with
                    | true =>
                      have hj0 : j = k := by rw [← HJ.out]; unfold prmI; rw [if_pos hke]
                      have hk0 : ks.length = 0 := by
                        cases ks with
                        | nil => rfl
                        | cons a b => cases hke
                      obtain rfl : b94 = false := by rw [← HB94.out]; have := HLn.out; exact decide_eq_false (by omega)
                      clear hke hk0
                      go_wp2_with fail
                      go_meet
                      exact ⟨by rw [hj0], rfl⟩
                    | false =>
                      have hj0 : j = k + 1 := by rw [← HJ.out]; unfold prmI; rw [if_neg (by rw [hke]; simp)]
                      have hk0 : ks.length ≠ 0 := by
                        cases ks with
                        | nil => cases hke
                        | cons a b => simp
                      obtain rfl : b94 = true := by rw [← HB94.out]; have := HLn.out; exact decide_eq_true (by omega)
                      have h44 : wordT L k = [44] := by
                        rcases HCm.out with h | h
                        · rw [hke] at h; cases h
                        · exact h
                      have HNd := hid (need_hit w7 HPx.out k (by omega) ⟨#[44]⟩ h44)
                      have HJ0 := hid hj0
                      clear hke hk0 h44 hj0
                      go_wp2_with fail
                      refine HNd.out.mono ?_
                      rintro e3 w9 ⟨rfl, rfl⟩
                      go_wp2_with fail
                      go_meet
                      exact ⟨by rw [HJ0.out]; go_num, rfl⟩
                  case rest =>
                    obtain ⟨rfl, rfl⟩ := hcut
                    clear HW hwn hwe HB94 HLn
                    cases hty : typT L en1 j with
                    | false =>
                      have HT := hid (ptype_miss _ HPx.out hs HEq.out j (by omega) hty)
                      have hRe : RP = .error (2, j) := by
                        rw [← HRw.out]
                        simp only [prmF]
                        rw [if_neg HW41.out, if_neg (by rcases HCm.out with h | h <;> simp [h]), if_pos (by show typT L en1 (prmI ks k) = false; rw [HJ.out]; exact hty)]
                        show Except.error (2, prmI ks k) = _
                        rw [HJ.out]
                      have HRe := hid hRe
                      clear hty hRe
                      go_wp2_with fail
                      refine HO.out.mono ?_
                      rintro e3 wa ⟨rfl, rfl⟩
                      go_wp2_with fail
                      refine HT.out.mono ?_
                      rintro e4 wb4 ⟨rfl, hp4, hk4⟩
                      have hb5 := below_new wb4 (boxN ⟨16, j, none, 0, 0⟩)
                      have hp5 := hp4.below hb5
                      have HOz := hid (pok_any _ hp5)
                      rw [show ((2 : Int) == 0) = false from rfl] at HOz
                      have HPf : Hid (PfSt r la lc L 0 (kbX L 30 + 4) RP w F [.mk 16 (i : Int) [], n] ev7 e2 j e' (wb4.alloc (boxN ⟨16, j, none, 0, 0⟩))) := prm_bad HKq.out HHq.out HG.out hrw (hk4.trans (kept_below hb5)) hFB HRe.out ⟨show (2 : Int) ≠ 0 by decide, _, hp5⟩ (by omega)
                      clear hp4 hk4 hb5 hp5
                      unfold aggN
                      go_wp2_with fail
                      refine HOz.out.mono ?_
                      rintro e3 w9 ⟨rfl, rfl⟩
                      go_wp2_with fail
                      go_meet
                      exact ⟨j, e', rfl, rfl, HPf.out⟩
                    | true =>
                      have HT := hid (ptype_hit _ HPx.out hs HEq.out j (by omega) hty)
                      have HTj := hid hty
                      have hjl2 : j + 1 ≤ L.length := typ_len HNl.out hty
                      clear hty
                      go_wp2_with fail
                      refine HO.out.mono ?_
                      rintro e3 wa ⟨rfl, rfl⟩
                      go_wp2_with fail
                      refine HT.out.mono ?_
                      rintro e4 wb4 ⟨rfl, hb4⟩
                      have hb5 := below_new wb4 (boxN ⟨16, j, none, 0, 0⟩)
                      have hz4 := hb4.size
                      have hbX := hb4.trans (hb5.mono hb4.size)
                      have hpX := HPx.out.below hbX
                      have HOz := hid (pok_any _ hpX)
                      have HPX := hid hpX
                      have HEX := hid (HEq.out.below hbX)
                      have HBX := hid hbX
                      have HX5 := hid (heap_alloc_new wb4 (boxN ⟨16, j, none, 0, 0⟩))
                      have hX5l : wb4.heap.size < (wb4.alloc (boxN ⟨16, j, none, 0, 0⟩)).heap.size := by simp
                      clear hb4 hb5 hbX hpX HT HO
                      unfold aggN
                      go_wp2_with fail
                      refine HOz.out.mono ?_
                      rintro e3 wz ⟨rfl, hwz⟩
                      subst wz
                      generalize wb4.alloc (boxN ⟨16, j, none, 0, 0⟩) = wx at HPX HEX HBX HX5 hX5l ⊢
                      generalize wb4.heap.size = Xb at hz4 HX5 hX5l ⊢
                      have HDc := hid (dcl_any (r := r) (la := la) (lc := lc) 0 30 rfl hs en1 (j + 1) false e' wx HPX.out hjl2 (by omega) HEX.out)
                      clear HOz
                      go_wp2_with fail
                      refine HDc.out.mono ?_
                      rintro e9 w9 hq9
                      obtain ⟨v9, k9, ev9, rfl, hk9, hc9⟩ := hq9.any
                      have hz9 := hk9.size
                      have hb9 := below_new w9 (boxN v9)
                      have HK9 := hid ((kept_below (X := (· = r)) HBX.out).trans hk9)
                      have HXw := hid ((hb9.block _ (by omega)).trans ((hk9.block _ hX5l (by omega)).trans HX5.out))
                      have HYw := hid (heap_alloc_new w9 (boxN v9))
                      have HBb := hid hb9
                      have hGW := hid ((HG.out.kept HK9.out (by omega) (fun b hb => by omega)).below hb9)
                      have hYl : w9.heap.size < (w9.alloc (boxN v9)).heap.size := by simp
                      have hc9' : (∃ n en', dclR L (fun l i => exR L 30 0 l i) en1 (j + 1) false = .ok (n, k9, en') ∧ NdAp w9 (wa.heap.size ≤ ·) v9 n ∧ PkAt w9 r la lc L 0 ∧ k9 ≤ L.length ∧ en'.length ≤ k9 ∧ EnAt w9 (.map ev9) en') ∨ (∃ y, dclR L (fun l i => exR L 30 0 l i) en1 (j + 1) false = .error y ∧ k9 ≤ kbX L 30 + 3 ∧ PbAt w9 r la lc L y) := by
                        rcases hc9 with ⟨n9, en9, q1, q2, q3, q4, q5, q6⟩ | ⟨y, q1, q2, q3⟩
                        · exact .inl ⟨n9, en9, q1, q2.mono (fun b hb _ => by have := HBX.out.size; omega), q3, q4, q5, q6⟩
                        · exact .inr ⟨y, q1, by omega, q3⟩
                      have HC9 := hid hc9'
                      clear hk9 hc9 hc9' hq9 hb9 HDc HPX HEX HX5 hX5l
                      unfold aggN
                      go_upto_region 19 with fail
                      change Code.wp _ _ _ _ (w9.alloc (boxN v9))
                      generalize w9.alloc (boxN v9) = W at HXw HYw HBb hGW hYl ⊢
                      generalize w9.heap.size = Yb at HYw hYl ⊢
                      have hb1 := below_new W (.cells (cellsN [⟨16, j, none, 0, 0⟩, v9]).toArray 26)
                      have hs1 : (W.alloc (.cells (cellsN [⟨16, j, none, 0, 0⟩, v9]).toArray 26)).heap.size = W.heap.size + 1 := by simp
                      have hb2 := below_new (W.alloc (.cells (cellsN [⟨16, j, none, 0, 0⟩, v9]).toArray 26)) (.cells (cellsN [⟨2, -1, some ⟨W.heap.size, 0, none⟩, 2, 2⟩]).toArray 26)
                      have hbV := hb1.trans (hb2.mono hb1.size)
                      have HRow := hid (hGW.out.below hbV).row
                      have hsrc := row_cells (new_row (W.alloc (.cells (cellsN [⟨16, j, none, 0, 0⟩, v9]).toArray 26)) [⟨2, -1, some ⟨W.heap.size, 0, none⟩, 2, 2⟩] (by simp))
                      rw [hs1] at hsrc
                      have HSrc := hid hsrc
                      obtain ⟨⟨x0, x1, x2⟩, _⟩ := boxN_facts HXw.out
                      obtain ⟨⟨y0, y1, y2⟩, _⟩ := boxN_facts HYw.out
                      obtain ⟨⟨g0, g1, g2⟩, g3, g4, g5⟩ := boxN_facts hGW.out.box
                      have hFW := lt_of_block hGW.out.box
                      have hXW := lt_of_block HXw.out
                      have hwbV : w.heap.size ≤ ((W.alloc (.cells (cellsN [⟨16, j, none, 0, 0⟩, v9]).toArray 26)).alloc (.cells (cellsN [⟨2, -1, some ⟨W.heap.size, 0, none⟩, 2, 2⟩]).toArray 26)).heap.size := by have := hbV.size; omega
                      clear hb1 hb2 hbV hsrc hs1 f0 f1 f2
                      go_wp2_with (at_builtin; refine wpList_append_own_at _ rfl _ _ 24 rfl w.heap.size 26 i0 _ 3 40 Try.underlying24 hi0 hz0 hzz1 hzz2 rfl (by decide) _ _ _ rfl HRow.out ⟨W.heap.size + 1, 0, none⟩ 1 1 (cellsN [⟨2, -1, some ⟨W.heap.size, 0, none⟩, 2, 2⟩]) rfl (cellsN_length _) HSrc.out (cellsN_one_cell _) (by unfold maxLen; omega) (by omega) hwbV ?_)
                      intro v' w10 hown7 hg7 _ hob7
                      obtain ⟨a1, c1, hv7, hB7, hPr⟩ := prm_next (K := kbX L 30 + 3) HPx.out HE2.out he2l HJ.out hF hrw HUn.out hFB HKq.out HHq.out HG.out HRw.out HW41.out HCm.out HTj.out HNs.out hfu HNl.out hnk HK9.out HBb.out HC9.out hown7 hg7 hob7 (by simp)
                      rw [show (nvs ++ ([⟨2, -1, some ⟨W.heap.size, 0, none⟩, 2, 2⟩] : List Nv)).length = nvs.length + 1 by simp] at hv7
                      subst hv7
                      have HPr := hid hPr
                      obtain ⟨⟨u0, u1, u2⟩, u3, u4, u5⟩ := boxN_facts hB7
                      have hB7l := lt_of_block hB7
                      clear hown7 hg7 hob7 hPr hB7 x0 x1 x2 y0 y1 y2 g0 g1 g2 g3 g4 g5 HC9 HK9 HRow HSrc
                      go_wp2_with fail
                      go_roundg g
                      case measure => omega
                      case rel => exact ⟨k9, ev9, rfl, rfl, HPr.out⟩
            · have HO := hid (pok_any wr hp)
              rw [show (y.1 == 0) = false by simpa using hy0] at HO
              have HPf : Hid (PfSt r la lc L 0 (kbX L 30 + 4) RP w F [.mk 16 (i : Int) [], n] ev7 e2 k e' wr) := ⟨hK, hH, nvs, a, c, hG, .inr ⟨y, hy, ⟨hy0, d0, hp⟩, by omega⟩⟩
              clear hK hH hG hy hy0 hp
              go_wp2_with fail
              refine HO.out.mono ?_
              rintro e3 w6 ⟨rfl, rfl⟩
              go_wp2_with fail
              go_meet
              exact ⟨k, e', rfl, rfl, HPf.out⟩
        case rest =>
          obtain ⟨k, e', rfl, rfl, HPf⟩ := hcut
          obtain ⟨hK, hH, nvs, a, c, hG, hcase⟩ := HPf.out
          clear HPf HSt hwk
          have hFl := lt_of_block hG.box
          have hHl := lt_of_block hH
          rcases hcase with ⟨ks, en1, hRw, hN, hp, hkL2, hel1, hnil1, hen1, hnk, he2, he2l⟩ | ⟨y, hy, ⟨hy0, d0, hp⟩, hkK⟩
          · have hRf := HRf.out
            rw [hRw] at hRf
            have HRf2 : Hid (R = match noEn (stR L 30 1 en1 (k + 1)) with
              | .error x => .error x
              | .ok (b, k3) => .ok (.mk 3 (-1) (([.mk 16 (i : Int) [], n] ++ ks) ++ [b]), k3, e2)) := by
              show _ = _
              rw [hRf]
              simp only [funR]
            have HO := hid (pok_any wc hp)
            have HBk := hid ((st_all_r r la lc L hF hs 30 (Nat.le_refl _)).2 0 (k + 1) en1 e' wc rfl hp (by omega) (by omega) hnil1 hen1)
            have hwk : IntKind.i64.wrap ((k : Int) + 1) = ((k + 1 : Nat) : Int) := by rw [IntKind.wrap_i64]; omega
            have HKq := hid hK
            have HHq := hid hH
            have HG := hid hG
            have HNs := hid hN
            have HPx := hid hp
            have HE2 := hid he2
            clear hK hH hG hN hp hnil1 hen1 he2 hRw hRf
            go_wp2_with fail
            refine HO.out.mono ?_
            rintro e3 w6 ⟨rfl, rfl⟩
            go_wp2_with fail
            refine HBk.out.mono ?_
            rintro e9 w9 hq9
            obtain ⟨v9, k9, rfl, hk9, hc9⟩ := hq9.any
            have hz9 := hk9.size
            have hb1 := below_new w9 (boxN v9)
            have hs2 : (w9.alloc (boxN v9)).heap.size = w9.heap.size + 1 := by simp
            have hb2 := below_new (w9.alloc (boxN v9)) (.cells (cellsN [v9]).toArray 26)
            have hb : Below w9.heap.size w9 ((w9.alloc (boxN v9)).alloc (.cells (cellsN [v9]).toArray 26)) := hb1.trans (hb2.mono hb1.size)
            have HBb := hid hb
            have hG9 := HG.out.kept hk9 (by omega) (fun b hb => by omega)
            have HRow := hid (hG9.below hb).row
            have hsrc := row_cells (new_row (w9.alloc (boxN v9)) [v9] (by simp))
            rw [hs2] at hsrc
            have HSrc := hid hsrc
            obtain ⟨⟨y0, y1, y2⟩, y3, y4, y5⟩ := boxN_facts hG9.box
            have hB9l := lt_of_block hG9.box
            have hc9' : (∃ n, noEn (stR L 30 1 en1 (k + 1)) = .ok (n, k9) ∧ NdIs w9 (w6.heap.size ≤ ·) v9 n ∧ PkAt w9 r la lc L 0 ∧ k9 ≤ L.length ∧ k ≤ k9) ∨ (∃ y, noEn (stR L 30 1 en1 (k + 1)) = .error y ∧ k9 ≤ ksX L 30 ∧ PbAt w9 r la lc L y) := by
              rcases hc9 with ⟨n9, q1, q2, q3, q4⟩ | ⟨y, q1, q2, q3⟩
              · refine .inl ⟨n9, q1, q2, q3, q4, ?_⟩
                rcases hst : stR L 30 1 en1 (k + 1) with x | ⟨n8, k8, e8⟩
                · rw [hst] at q1; cases q1
                · rw [hst] at q1
                  cases q1
                  have := ((stR_facts hF 30).2 _ _ _ _ _ hst).1
                  omega
              · exact .inr ⟨y, q1, q2, q3⟩
            have HC9 := hid hc9'
            have HK9 := hid hk9
            have hwb : w.heap.size ≤ ((w9.alloc (boxN v9)).alloc (.cells (cellsN [v9]).toArray 26)).heap.size := by have := hb.size; omega
            have hnl3 : nvs.length ≤ 7000 := by omega
            clear hk9 hc9 hc9' hq9 hb1 hb2 hb hG9 hsrc hs2 hwk
            unfold aggN
            go_wp2_with (at_builtin; refine wpList_append_own_at _ rfl _ _ 24 rfl w.heap.size 26 i0 _ 3 40 Try.underlying24 hi0 hz0 hzz1 hzz2 rfl (by decide) _ _ _ rfl HRow.out ⟨w9.heap.size + 1, 0, none⟩ 1 1 (cellsN [v9]) rfl (cellsN_length _) HSrc.out (cellsN_one_cell _) (by unfold maxLen; omega) (by omega) hwb ?_)
            intro v' w8 hown7 hg7 _ hob7
            obtain ⟨a1, c1, hv7, hB7, hSm⟩ := prm_block (K := ksX L 30) hrw HUn.out hFB HKq.out HHq.out HG.out HRf2.out HNs.out he2l (HE2.out.kept HPx.out.box HK9.out) HK9.out HBb.out hown7 hg7 hob7 (by simp) HC9.out
            rw [show (nvs ++ [v9]).length = nvs.length + 1 by simp] at hv7 hSm
            subst hv7
            have HSm := hid hSm
            obtain ⟨⟨u0, u1, u2⟩, u3, u4, u5⟩ := boxN_facts hB7
            have hB7l := lt_of_block hB7
            clear hown7 hg7 hob7 hSm hB7 y0 y1 y2 y3 y4 y5 HC9 HK9 HRow HSrc
            go_upto_region 25 with fail
            change Code.wp _ _ _ _ (w8.setCell ⟨F, 2, none⟩ (.slice a1 (nvs.length + 1) c1))
            clear u0 u1 u2 u3 u4 u5 hB7l hB9l
            generalize w8.setCell ⟨F, 2, none⟩ (.slice a1 (nvs.length + 1) c1) = wf at HSm ⊢
            have hSm := HSm.out
            have HFin := hid (hSm.fin hrw HUn.out (ksX L 31) (by omega))
            have HRes := hid hSm.res
            obtain ⟨⟨a0, a1', a2⟩, _⟩ := boxN_facts hSm.box
            obtain ⟨⟨z0, z1, z2⟩, z3, z4, z5⟩ := boxN_facts hSm.res
            have hHl9 := lt_of_block hSm.res
            have hFl9 := lt_of_block hSm.box
            clear hSm HSm
            unfold aggN at HFin
            go_wp2_with fail
            exact bodyPost_ret (nret3 Try.results17 (putN_block ⟨3, -1, a1, nvs.length + 1, c1⟩ HRes.out) _ rfl rfl rfl) rfl HFin.out
          · have hRf := HRf.out
            rw [hy] at hRf
            have hSm : SmSt r la lc L 0 (kbX L 30 + 4) R w F k ev7 ⟨3, -1, a, nvs.length, c⟩ wc := ⟨hK, hH, hG.box, .inr ⟨y, hRf, hkK, hy0, d0, hp⟩⟩
            have HFin := hid (hSm.fin hrw HUn.out (ksX L 31) (by omega))
            have HRes := hid hSm.res
            have HO := hid (pok_any wc hp)
            rw [show (y.1 == 0) = false by simpa using hy0] at HO
            obtain ⟨⟨a0, a1', a2⟩, _⟩ := boxN_facts hSm.box
            obtain ⟨⟨z0, z1, z2⟩, z3, z4, z5⟩ := boxN_facts hSm.res
            clear hSm hK hH hG hy hy0 hp hRf
            unfold aggN at HFin
            go_wp2_with fail
            refine HO.out.mono ?_
            rintro e3 w6 ⟨rfl, rfl⟩
            go_wp2_with fail
            exact bodyPost_ret (nret3 Try.results17 (putN_block ⟨3, -1, a, nvs.length, c⟩ HRes.out) _ rfl rfl rfl) rfl HFin.out
      · have HRt : Hid (R = tailR L (fun l i => exR L 30 0 l i) false en i) := by
          show _ = _
          rw [← HRR.out]
          refine out_rest HW0.out HTy.out fun n k e2 hd => ?_
          rcases HC7.out with ⟨n', e', q1, _⟩ | ⟨y, q1, _⟩
          · rw [hd] at q1; cases q1
            apply Classical.byContradiction
            intro hno
            refine hfun ⟨n, e2, hd, ?_, ?_⟩
            · cases hn : n.kids.isEmpty with
              | true => rfl
              | false => exact absurd (.inl hn) hno
            · exact Classical.byContradiction fun h => hno (.inr h)
          · rw [hd] at q1; cases q1
        rcases id HC7.out with ⟨n, e2, h1, h2, h3, h4, h5, h6⟩ | ⟨y, h1, h2, h3, d', h4⟩
        · by_cases hz : v7.n = 0
          · have h40 : wordT L k7 ≠ [40] := fun h40 => hfun ⟨n, e2, h1, by
              obtain ⟨nvs, q1, _, _, q4⟩ := h2.kids
              have : n.kids.length = 0 := by rw [← q4.1, ← q1]; exact hz
              rw [List.eq_nil_of_length_eq_zero this]
              rfl, h40⟩
            obtain ⟨vk, vt, va, vn, vc⟩ := v7
            obtain rfl : vn = 0 := hz
            unfold aggN
            go_upto_region 7 with fail
            change Code.wp _ _ _ _ (w7.alloc (boxN ⟨vk, vt, va, 0, vc⟩))
            generalize w7.alloc (boxN ⟨vk, vt, va, 0, vc⟩) = w8 at HBN HTw HHw HNw hsN ⊢
            have hz8 : w7.heap.size < w8.heap.size := by omega
            clear hsN
            have HTl := hid (decl_tail (w := w) (r := r) (la := la) (lc := lc) 0 30 rfl hs w5 w7 i en false ⟨vk, vt, va, 0, vc⟩ k7 ev7 (by omega) hrw HUn.out HK7.out HC7.out w8 HBN.out)
            obtain ⟨⟨n0, n1, n2⟩, _⟩ := boxN_facts HNw.out
            obtain ⟨⟨t0, t1, t2⟩, _⟩ := boxN_facts HTw.out
            have hTl8 : w4.heap.size < w8.heap.size := by omega
            have HK8 : Hid (Kept (· = r) w w8) := (HK5.out.trans HK7.out).trans (kept_below HBN.out)
            have HO := hid (pok_any w8 (h3.below HBN.out))
            have HWk := hid (pword_any w8 (h3.below HBN.out) k7)
            have hw40n := wrd_lin L k7 [40]
            rw [decide_eq_false h40, Bool.not_false] at hw40n
            have hw40e := wrd_lit L k7 [40]
            rw [decide_eq_false h40] at hw40e
            generalize wrdB L k7 = wj at HWk hw40n hw40e
            clear h1 h2 h3 h4 h5 h6 h40 hfun
            go_upto_region 8 with (first | (go_at_call 16; refine HO.out.mono ?_; rintro e9 wz ⟨rfl, hwz⟩; subst wz) | (go_at_call 31; refine HWk.out.mono ?_; rintro e9 wz ⟨rfl, hwz⟩; subst wz))
            clear hw40n hw40e HWk HO
            go_wp2_with fail
            refine HTl.out.mono ?_
            rintro e9 w9 ⟨v9, k9, ev9, rfl, hun9, hk9, hc9⟩
            have hH9 := (hk9.block _ (lt_of_block HH5.out) (by omega)).trans HH5.out
            have HH9 := hid hH9
            have HKe := hid (putN_kept (HK5.out.trans hk9) (Nat.le_refl _) v9)
            have HC : Hid (CPost r la lc L 0 (ksX L 31) R w (.returned (.tuple #[aggN v9, .int .i64 (k9 : Int), .map ev9])) (putN w9 w.heap.size v9)) := by
              show RPost _ _ _ _ _ _ _ _ _ _ _ _
              rw [HRt.out]
              rcases hc9 with ⟨n, en2, h1, h2, h3, h4, h5, h6⟩ | ⟨y, h1, h2, h3, d', h4⟩
              · refine RPost.good h1 HKe.out ?_ (px_put (w' := w) h3 (Nat.le_refl _) hrw HUn.out v9) h4 h5 (h6.put hH9 v9)
                exact (h2.kept (w' := putN w9 w.heap.size v9) fun b hb _ => putN_other _ _ _ _ (by have := hb.1; omega)).mono fun b hb _ => by have := hb.1; show w.heap.size ≤ b; omega
              · exact RPost.bad h1 HKe.out (by omega) ⟨h3, d', px_put (w' := w) h4 (Nat.le_refl _) hrw HUn.out v9⟩
            obtain ⟨⟨z0, z1, z2⟩, z3, z4, z5⟩ := boxN_facts hH9
            have hHl9 := lt_of_block hH9
            clear hun9 hk9 hc9 hH9 t0 t1 t2
            unfold aggN at HC ⊢
            go_wp2_with fail
            exact bodyPost_ret (nret3 Try.results17 (putN_block v9 HH9.out) _ rfl rfl rfl) rfl HC.out
          · unfold aggN
            go_upto_region 7 with fail
            change Code.wp _ _ _ _ (w7.alloc (boxN v7))
            generalize w7.alloc (boxN v7) = w8 at HBN HTw HHw HNw hsN ⊢
            have hz8 : w7.heap.size < w8.heap.size := by omega
            clear hsN
            have HTl := hid (decl_tail (w := w) (r := r) (la := la) (lc := lc) 0 30 rfl hs w5 w7 i en false v7 k7 ev7 (by omega) hrw HUn.out HK7.out HC7.out w8 HBN.out)
            obtain ⟨⟨n0, n1, n2⟩, _⟩ := boxN_facts HNw.out
            obtain ⟨⟨t0, t1, t2⟩, _⟩ := boxN_facts HTw.out
            have hTl8 : w4.heap.size < w8.heap.size := by omega
            have HK8 : Hid (Kept (· = r) w w8) := (HK5.out.trans HK7.out).trans (kept_below HBN.out)
            have HO := hid (pok_any w8 (h3.below HBN.out))
            have hgt : (0 : Int) < (v7.n : Int) := by omega
            have hgd : decide ((0 : Int) < (v7.n : Int)) = true := decide_eq_true hgt
            clear h1 h2 h3 h4 h5 h6 hz hfun
            go_wp2_with (go_at_call 16; refine HO.out.mono ?_; rintro e9 wz ⟨rfl, hwz⟩; subst wz)
            refine HTl.out.mono ?_
            rintro e9 w9 ⟨v9, k9, ev9, rfl, hun9, hk9, hc9⟩
            have hH9 := (hk9.block _ (lt_of_block HH5.out) (by omega)).trans HH5.out
            have HH9 := hid hH9
            have HKe := hid (putN_kept (HK5.out.trans hk9) (Nat.le_refl _) v9)
            have HC : Hid (CPost r la lc L 0 (ksX L 31) R w (.returned (.tuple #[aggN v9, .int .i64 (k9 : Int), .map ev9])) (putN w9 w.heap.size v9)) := by
              show RPost _ _ _ _ _ _ _ _ _ _ _ _
              rw [HRt.out]
              rcases hc9 with ⟨n, en2, h1, h2, h3, h4, h5, h6⟩ | ⟨y, h1, h2, h3, d', h4⟩
              · refine RPost.good h1 HKe.out ?_ (px_put (w' := w) h3 (Nat.le_refl _) hrw HUn.out v9) h4 h5 (h6.put hH9 v9)
                exact (h2.kept (w' := putN w9 w.heap.size v9) fun b hb _ => putN_other _ _ _ _ (by have := hb.1; omega)).mono fun b hb _ => by have := hb.1; show w.heap.size ≤ b; omega
              · exact RPost.bad h1 HKe.out (by omega) ⟨h3, d', px_put (w' := w) h4 (Nat.le_refl _) hrw HUn.out v9⟩
            obtain ⟨⟨z0, z1, z2⟩, z3, z4, z5⟩ := boxN_facts hH9
            have hHl9 := lt_of_block hH9
            clear hun9 hk9 hc9 hH9 t0 t1 t2
            unfold aggN at HC ⊢
            go_wp2_with fail
            exact bodyPost_ret (nret3 Try.results17 (putN_block v9 HH9.out) _ rfl rfl rfl) rfl HC.out
        · unfold aggN
          go_upto_region 7 with fail
          change Code.wp _ _ _ _ (w7.alloc (boxN v7))
          generalize w7.alloc (boxN v7) = w8 at HBN HTw HHw HNw hsN ⊢
          have hz8 : w7.heap.size < w8.heap.size := by omega
          clear hsN
          have HTl := hid (decl_tail (w := w) (r := r) (la := la) (lc := lc) 0 30 rfl hs w5 w7 i en false v7 k7 ev7 (by omega) hrw HUn.out HK7.out HC7.out w8 HBN.out)
          obtain ⟨⟨n0, n1, n2⟩, _⟩ := boxN_facts HNw.out
          obtain ⟨⟨t0, t1, t2⟩, _⟩ := boxN_facts HTw.out
          have hTl8 : w4.heap.size < w8.heap.size := by omega
          have HK8 : Hid (Kept (· = r) w w8) := (HK5.out.trans HK7.out).trans (kept_below HBN.out)
          have HO := hid (pok_any w8 (h4.below HBN.out))
          rw [show (y.1 == 0) = false by simpa using h3] at HO
          clear h1 h2 h3 h4 hfun
          go_wp2_with (go_at_call 16; refine HO.out.mono ?_; rintro e9 wz ⟨rfl, hwz⟩; subst wz)
          refine HTl.out.mono ?_
          rintro e9 w9 ⟨v9, k9, ev9, rfl, hun9, hk9, hc9⟩
          have hH9 := (hk9.block _ (lt_of_block HH5.out) (by omega)).trans HH5.out
          have HH9 := hid hH9
          have HKe := hid (putN_kept (HK5.out.trans hk9) (Nat.le_refl _) v9)
          have HC : Hid (CPost r la lc L 0 (ksX L 31) R w (.returned (.tuple #[aggN v9, .int .i64 (k9 : Int), .map ev9])) (putN w9 w.heap.size v9)) := by
            show RPost _ _ _ _ _ _ _ _ _ _ _ _
            rw [HRt.out]
            rcases hc9 with ⟨n, en2, h1, h2, h3, h4, h5, h6⟩ | ⟨y, h1, h2, h3, d', h4⟩
            · refine RPost.good h1 HKe.out ?_ (px_put (w' := w) h3 (Nat.le_refl _) hrw HUn.out v9) h4 h5 (h6.put hH9 v9)
              exact (h2.kept (w' := putN w9 w.heap.size v9) fun b hb _ => putN_other _ _ _ _ (by have := hb.1; omega)).mono fun b hb _ => by have := hb.1; show w.heap.size ≤ b; omega
            · exact RPost.bad h1 HKe.out (by omega) ⟨h3, d', px_put (w' := w) h4 (Nat.le_refl _) hrw HUn.out v9⟩
          obtain ⟨⟨z0, z1, z2⟩, z3, z4, z5⟩ := boxN_facts hH9
          have hHl9 := lt_of_block hH9
          clear hun9 hk9 hc9 hH9 t0 t1 t2
          unfold aggN at HC ⊢
          go_wp2_with fail
          exact bodyPost_ret (nret3 Try.results17 (putN_block v9 HH9.out) _ rfl rfl rfl) rfl HC.out
end
end
section
open Go.RowKit Go.Shelf
section
variable {L : List Tk}
theorem prmF_ge {X : Nat → Nat → Got (Nd × Nat)} (hX : Adv L X) : ∀ (g : Nat) {e : En} {i : Nat} {ks ks' : List Nd} {k : Nat} {e' : En}, prmF L X g e i ks = .ok (ks', k, e') → i ≤ k
  | 0, _, _, _, _, _, _, h => by simp [prmF] at h
  | g + 1, e, i, ks, ks', k, e', h => by
    simp only [prmF] at h
    by_cases h1 : wordT L i = [41]
    · rw [if_pos h1] at h
      simp at h
      omega
    · rw [if_neg h1] at h
      by_cases h2 : ks.isEmpty = false ∧ wordT L i ≠ [44]
      · rw [if_pos h2] at h
        cases h
      · rw [if_neg h2] at h
        generalize hj : (if ks.isEmpty = true then i else i + 1) = j at h
        have hij : i ≤ j := by rw [← hj]; split <;> omega
        by_cases h3 : typT L e j = false
        · rw [if_pos h3] at h
          cases h
        · rw [if_neg h3] at h
          rcases hd : dclR L X e (j + 1) false with y | ⟨y, k1, e2⟩
          · rw [hd] at h
            cases h
          · rw [hd] at h
            have h4 := (dclR_facts hX hd).2
            have h5 := prmF_ge hX g h
            omega
theorem outR_facts (hF : ∀ t ∈ L, t.text.size ≠ 0) {e : En} {i : Nat} {n : Nd} {k : Nat} {e' : En} (h : outR L (fun l i => exR L 30 0 l i) (fun e i => stR L 30 1 e i) e i = .ok (n, k, e')) : i < k ∧ (typN e [] = false → typN e' [] = false) := by
  have hX := (exR_adv L 30).1
  unfold outR at h
  split at h
  · exact declR_facts hF hX h
  · split at h
    · cases h
    · split at h
      · cases h
      · rename_i n1 k1 e2 hd
        have h1 := dclR_facts hX hd
        have h2 := fun hn => dclR_nil hF hd hn
        split at h
        · unfold restR at h
          split at h
          · cases h
          · rename_i ds k2 e3 hr
            have h3 := restF_facts hF hX _ hr
            cases h
            exact ⟨by omega, fun hn => h3.2 (h2 hn)⟩
        · split at h
          · cases h
          · rename_i ps j e3 hp
            have h3 := prmF_ge hX _ hp
            split at h
            · cases h
            · rename_i b k3 e4 hb
              have h4 := ((stR_facts hF 30).2 _ _ _ _ _ hb).1
              cases h
              exact ⟨by omega, h2⟩
end
/-- A fault's block. -/
theorem scFlt {W : World} {q : Nat} {e f a : Value} (h : W.heap[q]? = some (.cells #[e, f, a] 29)) : (W.cell? ⟨q, 0, none⟩ = some e ∧ W.cell? ⟨q, 1, none⟩ = some f ∧ W.cell? ⟨q, 2, none⟩ = some a) ∧ W.frozen? ⟨q, 0, none⟩ = false ∧ W.frozen? ⟨q, 1, none⟩ = false ∧ W.frozen? ⟨q, 2, none⟩ = false := by
  simp [World.cell?, World.frozen?, h]
def scPutF (W : World) (q : Nat) (e f a : Int) : World := ((W.setCell ⟨q, 0, none⟩ (.int .i64 e)).setCell ⟨q, 1, none⟩ (.int .i64 f)).setCell ⟨q, 2, none⟩ (.int .i64 a)
theorem scPutF_block {W : World} {q : Nat} {x0 x1 x2 : Value} {T : TypeId} (e f a : Int) (hq : W.heap[q]? = some (.cells #[x0, x1, x2] T)) : (scPutF W q e f a).heap[q]? = some (.cells #[.int .i64 e, .int .i64 f, .int .i64 a] T) := by
  unfold scPutF
  have h1 := Go.Joins.block_setCell (i := 0) hq (.int .i64 e)
  have h2 := Go.Joins.block_setCell (i := 1) h1 (.int .i64 f)
  have h3 := Go.Joins.block_setCell (i := 2) h2 (.int .i64 a)
  simpa using h3
theorem scPutF_other (W : World) (q : Nat) (e f a : Int) (b : Nat) (hb : b ≠ q) : (scPutF W q e f a).heap[b]? = W.heap[b]? := by
  unfold scPutF
  rw [Below.heap_setCell _ _ _ _ hb, Below.heap_setCell _ _ _ _ hb, Below.heap_setCell _ _ _ _ hb]
theorem scPutF_below {B q : Nat} {w W : World} (h : Below B w W) (hq : B ≤ q) (e f a : Int) : Below B w (scPutF W q e f a) :=
  ((h.setCell (p := ⟨q, 0, none⟩) hq _).setCell (p := ⟨q, 1, none⟩) hq _).setCell (p := ⟨q, 2, none⟩) hq _
theorem scPutN_below {B q : Nat} {w W : World} (h : Below B w W) (hq : B ≤ q) (x : Nv) : Below B w (putN W q x) := by
  unfold putN
  exact ((h.setCell (p := ⟨q, 0, none⟩) hq _).setCell (p := ⟨q, 1, none⟩) hq _).setCell (p := ⟨q, 2, none⟩) hq _
/-- Results of a node and a fault, both in cells. -/
theorem nfret {f : Func} {k j : Nat} (hr : f.results = #[.cell k 26, .cell j 29]) {w : World} {g q : Nat} {x : Nv} {e1 f1 a1 : Value} (hR : w.heap[g]? = some (boxN x)) (hQ : w.heap[q]? = some (.cells #[e1, f1, a1] 29)) (tmps : Array Value) (hp : tmps.getD k undef = .pointer (some ⟨g, 0, none⟩)) (hq : tmps.getD j undef = .pointer (some ⟨q, 0, none⟩)) :
    (results f tmps).run Try.prog w = .ok (.tuple #[aggN x, .agg #[e1, f1, a1]]) w := by
  obtain ⟨⟨c0, c1, c2⟩, _⟩ := boxN_facts hR
  obtain ⟨⟨d0, d1, d2⟩, _⟩ := scFlt hQ
  simp at hp hq
  simp [results, hr, go_sem, hp, hq, c0, c1, c2, d0, d1, d2, aggN]
/-- What Parse answers. -/
def QPost (L : List Tk) (w : World) (x : Ending) (w' : World) : Prop := Below w.heap.size w w' ∧ match parsR L with
  | .ok n => ∃ v, x = .returned (.tuple #[aggN v, .agg #[.int .i64 0, .int .i64 (-1), .int .i64 0]]) ∧ NdIs w' (w.heap.size ≤ ·) v n
  | .error y => y.1 ≠ 0 ∧ x = .returned (.tuple #[aggN zeroN, .agg #[.int .i64 y.1, .int .i64 (placeT L y.2).1, .int .i64 (placeT L y.2).2]])
/-- Ahead of a round: what is read so far. -/
def UlSt (r : Nat) (la : Option Addr) (lc : Nat) (L : List Tk) (RL : Got (List Nd)) (w : World) (g k : Nat) (ev : Option Nat) (wr : World) : Prop :=
  Kept (· = r) w wr ∧ ∃ nvs a c, GrowAt w.heap.size (fun b => b = w.heap.size) w.heap.size 1 (-1) nvs a c wr ∧
    ((∃ ks en, uniLoop L g en k ks = RL ∧ NdsIs wr (kidP w.heap.size (fun b => b = w.heap.size) a nvs.length c) nvs ks ∧ PkAt wr r la lc L 0 ∧ k ≤ L.length ∧ L.length + 1 ≤ g + k ∧ en.length ≤ k ∧ typN en [] = false ∧ EnAt wr (.map ev) en ∧ nvs.length ≤ k) ∨ (∃ y, RL = .error y ∧ PbAt wr r la lc L y))
/-- Behind them all. -/
def UfSt (r : Nat) (la : Option Addr) (lc : Nat) (L : List Tk) (RL : Got (List Nd)) (w : World) (wr : World) : Prop :=
  Kept (· = r) w wr ∧ ∃ x, wr.heap[w.heap.size]? = some (boxN x) ∧ ((∃ ks, RL = .ok ks ∧ NdIs wr (w.heap.size < ·) x (.mk 1 (-1) ks) ∧ PkAt wr r la lc L 0) ∨ (∃ y, RL = .error y ∧ PbAt wr r la lc L y))
section
variable {r : Nat} {la : Option Addr} {lc : Nat} {L : List Tk} {w w' : World}
theorem uni_next (hF : ∀ t ∈ L, t.text.size ≠ 0) {g k k9 Z : Nat} {RL : Got (List Nd)} {wr w9 W w7 : World} {nvs : List Nv} {a : Option Addr} {c : Nat} {ks : List Nd} {en : En} {v9 : Nv} {ev9 : Option Nat} {v' : Value} (hrw : r < w.heap.size) (hU : ∀ b off, la = some ⟨b, off, none⟩ → L ≠ [] → b < w.heap.size)
    (hK : Kept (· = r) w wr) (hG : GrowAt w.heap.size (fun b => b = w.heap.size) w.heap.size 1 (-1) nvs a c wr)
    (hR : uniLoop L (g + 1) en k ks = RL) (hkl : k < L.length) (hn : NdsIs wr (kidP w.heap.size (fun b => b = w.heap.size) a nvs.length c) nvs ks) (hfu : L.length + 1 ≤ g + 1 + k) (hnil : typN en [] = false) (hnk : nvs.length ≤ k)
    (hk9 : Kept (· = r) wr w9) (hb : Below w9.heap.size w9 W) (hown : w7.ownsRow w.heap.size 26 3 v' (nvs.length + 1) (cellsN nvs ++ cellsN [v9])) (hg : W.grownBy w7 (Value.slice a nvs.length c).ownBlock) (hob : v'.ownBlock = (Value.slice a nvs.length c).ownBlock ∨ v'.ownBlock = some Z) (hZ : Z = W.heap.size)
    (hc : (∃ n en', outR L (fun l i => exR L 30 0 l i) (fun e i => stR L 30 1 e i) en k = .ok (n, k9, en') ∧ NdIs w9 (wr.heap.size ≤ ·) v9 n ∧ PkAt w9 r la lc L 0 ∧ k9 ≤ L.length ∧ en'.length ≤ k9 ∧ EnAt w9 (.map ev9) en') ∨ (∃ y, outR L (fun l i => exR L 30 0 l i) (fun e i => stR L 30 1 e i) en k = .error y ∧ PbAt w9 r la lc L y)) :
    ∃ a1 c1, v' = .slice a1 (nvs ++ [v9]).length c1 ∧ w7.heap[w.heap.size]? = some (boxN ⟨1, -1, a, nvs.length, c⟩) ∧ UlSt r la lc L RL w g k9 ev9 (w7.setCell ⟨w.heap.size, 2, none⟩ v') := by
  have hBl := lt_of_block hG.box
  obtain ⟨a1, c1, hv7, hB7, hG8, hN8, hV8, hK8, hS8, hP8, hE8⟩ := grow_next (r := r) (la := la) (lc := lc) (L := L) (v9 := v9) (S := fun b => b = w.heap.size) rfl hrw hU (fun b hs => by have hs : b = w.heap.size := hs; omega) rfl hG hk9 hb hown hg hob hZ
  refine ⟨a1, c1, hv7, hB7, hK8 hK, _, a1, c1, hG8, ?_⟩
  have hR2 : (match outR L (fun l i => exR L 30 0 l i) (fun e i => stR L 30 1 e i) en k with
    | .error x => .error x
    | .ok (x, k, e2) => uniLoop L g e2 k (ks ++ [x])) = RL := by
    rw [← hR]; simp only [uniLoop]; rw [if_neg (by omega)]
    cases outR L (fun l i => exR L 30 0 l i) (fun e i => stR L 30 1 e i) en k <;> rfl
  rcases hc with ⟨n, en', h1, h2, h3, h4, h5, h6⟩ | ⟨y, h1, ⟨h3, d', h4⟩⟩
  · rw [h1] at hR2
    have hf := outR_facts hF h1
    exact .inl ⟨ks ++ [n], en', hR2, (hN8 ks hn).app (NdsIs.one (hV8 n h2)), hP8 h3, h4, by omega, h5, hf.2 hnil, hE8 _ _ h6, by simp; omega⟩
  · rw [h1] at hR2
    exact .inr ⟨y, hR2.symm, ⟨h3, d', hP8 h4⟩⟩
set_option maxRecDepth 100000 in
set_option maxHeartbeats 4000000 in
theorem RParseT_any (hF : ∀ t ∈ L, t.text.size ≠ 0) (hs : ∀ t ∈ L, t.text.size ≤ 3000) (w : World) (hT : TAt w la L) (hfew : L.length ≤ 6000) :
    Calls Try.prog 7 #[.slice la L.length lc] w (QPost L w) := by
  have hPa : parsR L = match uniLoop L (L.length + 1) [] 0 [] with
    | .error x => .error x
    | .ok ks => .ok (.mk 1 (-1) ks) := rfl
  unfold QPost
  generalize hPl : placeT L = P
  have HPl := hid hPl
  clear hPl
  generalize hRR : parsR L = R at hPa ⊢
  generalize hRL : uniLoop L (L.length + 1) [] 0 [] = RL at hPa
  have HRR := hid hPa
  have hb1 := below_new w (boxN zeroN)
  have hb2 := below_new (w.alloc (boxN zeroN)) (.cells #[.int .i64 0, .int .i64 0, .int .i64 0] 29)
  have hb3 := below_new ((w.alloc (boxN zeroN)).alloc (.cells #[.int .i64 0, .int .i64 0, .int .i64 0] 29)) (boxP la L.length lc 0 (-1) 0 0)
  have hs1 : (w.alloc (boxN zeroN)).heap.size = w.heap.size + 1 := by simp
  have hs2 : ((w.alloc (boxN zeroN)).alloc (.cells #[.int .i64 0, .int .i64 0, .int .i64 0] 29)).heap.size = w.heap.size + 1 + 1 := by simp
  have hH := (hb3.block _ (by omega)).trans ((hb2.block _ (by omega)).trans (heap_alloc_new w (boxN zeroN)))
  have hQ := (hb3.block _ (by omega)).trans (heap_alloc_new (w.alloc (boxN zeroN)) (.cells #[.int .i64 0, .int .i64 0, .int .i64 0] 29))
  rw [hs1] at hQ
  have hB3 := (hb1.trans (hb2.mono (by omega))).trans (hb3.mono (by omega))
  have hR3 := heap_alloc_new ((w.alloc (boxN zeroN)).alloc (.cells #[.int .i64 0, .int .i64 0, .int .i64 0] 29)) (boxP la L.length lc 0 (-1) 0 0)
  rw [hs2] at hR3
  have hUn : ∀ b off, la = some ⟨b, off, none⟩ → L ≠ [] → b < w.heap.size := fun b off e hL => by
    rcases hT with h0 | ⟨b', off', e', hlt, _⟩
    · exact absurd h0 hL
    · rw [e] at e'; cases e'; exact hlt
  have hP3 : PkAt (((w.alloc (boxN zeroN)).alloc (.cells #[.int .i64 0, .int .i64 0, .int .i64 0] 29)).alloc (boxP la L.length lc 0 (-1) 0 0)) (w.heap.size + 1 + 1) la lc L 0 := ⟨hR3, hT.below hB3, fun b off e hL => by have := hUn b off e hL; omega, hfew⟩
  have HUn := hid hUn
  have HH3 := hid hH
  have HQ3 := hid hQ
  have HB3 := hid hB3
  have HP3 := hid hP3
  have hs3 : (((w.alloc (boxN zeroN)).alloc (.cells #[.int .i64 0, .int .i64 0, .int .i64 0] 29)).alloc (boxP la L.length lc 0 (-1) 0 0)).heap.size = w.heap.size + 3 := by simp
  have hmm : ∀ W : World, (Instr.makeMap 52 none).run Try.prog W = .ok (.map (some W.heap.size)) (W.alloc (.map #[] 0)) := fun W => by first | rfl | kernel_rfl
  obtain ⟨i0, hi0, hz0, hzz1, hzz2⟩ := info_parts info_node
  clear hb1 hb2 hb3 hs1 hs2 hH hQ hB3 hR3 hP3 hUn hPa
  dsimp only [boxN, zeroN] at HH3 HQ3 HB3 HP3 hs3
  go_enter Try.func7, Try.ntmps7
  go_upto_region 2 with fail
  generalize ((w.alloc (.cells #[.int .i64 0, .int .i64 0, .slice none 0 0] 26)).alloc (.cells #[.int .i64 0, .int .i64 0, .int .i64 0] 29)).alloc (.cells #[.slice la L.length lc, .int .i64 0, .int .i64 (-1), .int .i64 0, .int .i64 0] 50) = w3 at HH3 HQ3 HB3 HP3 hs3 ⊢
  have hrw : w.heap.size + 1 + 1 < w3.heap.size := by omega
  have hHr : w.heap.size + 1 < w.heap.size + 1 + 1 := by omega
  clear hs3
  generalize w.heap.size + 1 + 1 = r at HP3 hrw hHr ⊢
  have HU3 : Hid (∀ b off, la = some ⟨b, off, none⟩ → L ≠ [] → b < w3.heap.size) := fun b off e hL => by have := HUn.out b off e hL; omega
  have hb4 := below_new w3 (boxN ⟨1, -1, none, 0, 0⟩)
  have hs4 : (w3.alloc (boxN ⟨1, -1, none, 0, 0⟩)).heap.size = w3.heap.size + 1 := by simp
  have hb5 := (Below.refl _ (w3.alloc (boxN ⟨1, -1, none, 0, 0⟩))).alloc (Nat.le_refl _) (.map #[] 0)
  have hb35 := hb4.trans (hb5.mono hb4.size)
  have hO5 := World.ownsMap_made (H := Unit) (w3.alloc (boxN ⟨1, -1, none, 0, 0⟩)) Try.prog 9 (plainElem Try.prog 4)
  rw [hs4] at hO5
  have HSt : Hid (UlSt r la lc L RL w3 (L.length + 1) 0 (some (w3.heap.size + 1)) ((w3.alloc (boxN ⟨1, -1, none, 0, 0⟩)).alloc (.map #[] 0))) :=
    ⟨kept_below hb35, [], none, 0, grow_nil ((hb5.block _ (by omega)).trans (heap_alloc_new w3 (boxN ⟨1, -1, none, 0, 0⟩))), .inl ⟨[], [], hRL, NdsIs.nil, HP3.out.below hb35, Nat.zero_le _, by omega, by simp, rfl, ⟨_, _, rfl, hO5, EnIs.nil⟩, by simp⟩⟩
  clear hb4 hs4 hb5 hb35 hO5 HP3 hRL
  dsimp only [boxN] at HSt
  go_upto_block 0 with fail
  change Code.wp _ _ _ _ ((w3.alloc (.cells #[.int .i64 1, .int .i64 (-1), .slice none 0 0] 26)).alloc (.map #[] 0))
  generalize (w3.alloc (.cells #[.int .i64 1, .int .i64 (-1), .slice none 0 0] 26)).alloc (.map #[] 0) = w5 at HSt ⊢
  go_cut [6, 7] (fun a b wx => ∃ (k : Nat) (e' : Option Nat), a = .map e' ∧ b = .int .i64 (k : Int) ∧ Hid (UfSt r la lc L RL w3 wx))
  case first =>
    go_wp2_with fail
    go_loopg [6, 7] (L.length + 1) (fun g a b wr => ∃ (k : Nat) (e' : Option Nat), a = .map e' ∧ b = .int .i64 (k : Int) ∧ Hid (UlSt r la lc L RL w3 g k e' wr))
    case atStart => exact ⟨0, _, rfl, rfl, HSt.out⟩
    case round =>
      obtain ⟨k, e', rfl, rfl, HS⟩ := hrel
      obtain ⟨hK, nvs, a, c, hG, hcase⟩ := HS.out
      clear HS HSt
      have hNl := lt_of_block hG.box
      rcases hcase with ⟨ks, en1, hRw, hN, hp, hkL2, hfu, hel1, hnil1, hen1, hnk⟩ | ⟨y, hy, hy0, d0, hp⟩
      · obtain ⟨g, rfl⟩ : ∃ g, gk = g + 1 := ⟨gk - 1, by omega⟩
        by_cases hge : L.length ≤ k
        · have hlt : ¬ (k : Int) < (L.length : Int) := by omega
          have hltd : decide ((k : Int) < (L.length : Int)) = false := decide_eq_false hlt
          have hRe : RL = .ok ks := by rw [← hRw]; simp only [uniLoop]; rw [if_pos hge]
          have HUf : Hid (UfSt r la lc L RL w3 wr) := ⟨hK, _, hG.box, .inl ⟨ks, hRe, hG.nd hN (fun b h1 h2 => by have h2 : ¬ b = w3.heap.size := h2; omega), hp⟩⟩
          clear hK hG hN hp hRw hRe hnil1 hen1 hge
          go_wp2_with fail
          go_meet
          exact ⟨k, e', rfl, rfl, HUf.out⟩
        · have hlt : (k : Int) < (L.length : Int) := by omega
          have hltd : decide ((k : Int) < (L.length : Int)) = true := decide_eq_true hlt
          have hkl : k < L.length := by omega
          have HO := hid (pok_any wr hp)
          have HSx := hid (outer_any hF hs en1 k e' wr hp hkL2 hel1 hnil1 hen1)
          have HKq := hid hK
          have HG := hid hG
          have HNs := hid hN
          have HRw := hid hRw
          have HNl := hid hnil1
          clear hK hG hN hp hRw hnil1 hen1 hge
          go_wp2_with fail
          refine HO.out.mono ?_
          rintro e3 w6 ⟨rfl, rfl⟩
          go_wp2_with fail
          refine HSx.out.mono ?_
          rintro e9 w9 hq9
          obtain ⟨v9, k9, ev9, rfl, hk9, hc9⟩ := hq9.any
          have hz9 := hk9.size
          have hb1 := below_new w9 (boxN v9)
          have hs2 : (w9.alloc (boxN v9)).heap.size = w9.heap.size + 1 := by simp
          have hb2 := below_new (w9.alloc (boxN v9)) (.cells (cellsN [v9]).toArray 26)
          have hb : Below w9.heap.size w9 ((w9.alloc (boxN v9)).alloc (.cells (cellsN [v9]).toArray 26)) := hb1.trans (hb2.mono hb1.size)
          have HBb := hid hb
          have hG9 := HG.out.kept hk9 (by omega) (fun b hb => by omega)
          have HRow := hid (hG9.below hb).row
          have hsrc := row_cells (new_row (w9.alloc (boxN v9)) [v9] (by simp))
          rw [hs2] at hsrc
          have HSrc := hid hsrc
          obtain ⟨⟨y0, y1, y2⟩, y3, y4, y5⟩ := boxN_facts hG9.box
          have hB9l := lt_of_block hG9.box
          have hc9' : (∃ n en', outR L (fun l i => exR L 30 0 l i) (fun e i => stR L 30 1 e i) en1 k = .ok (n, k9, en') ∧ NdIs w9 (w6.heap.size ≤ ·) v9 n ∧ PkAt w9 r la lc L 0 ∧ k9 ≤ L.length ∧ en'.length ≤ k9 ∧ EnAt w9 (.map ev9) en') ∨ (∃ y, outR L (fun l i => exR L 30 0 l i) (fun e i => stR L 30 1 e i) en1 k = .error y ∧ PbAt w9 r la lc L y) := by
            rcases hc9 with h | ⟨y, h1, _, h3⟩
            · exact .inl h
            · exact .inr ⟨y, h1, h3⟩
          have HC9 := hid hc9'
          have HK9 := hid hk9
          have hwb : w3.heap.size ≤ ((w9.alloc (boxN v9)).alloc (.cells (cellsN [v9]).toArray 26)).heap.size := by have := hb.size; omega
          have hnl3 : nvs.length ≤ 6000 := by omega
          clear hk9 hc9 hc9' hq9 hb1 hb2 hb hG9 hsrc hs2
          unfold aggN
          go_wp2_with (at_builtin; refine wpList_append_own_at _ rfl _ _ 24 rfl w3.heap.size 26 i0 _ 3 40 Try.underlying24 hi0 hz0 hzz1 hzz2 rfl (by decide) _ _ _ rfl HRow.out ⟨w9.heap.size + 1, 0, none⟩ 1 1 (cellsN [v9]) rfl (cellsN_length _) HSrc.out (cellsN_one_cell _) (by unfold maxLen; omega) (by omega) hwb ?_)
          intro v' w8 hown7 hg7 _ hob7
          obtain ⟨a1, c1, hv7, hB7, hPr⟩ := uni_next hF hrw HU3.out HKq.out HG.out HRw.out hkl HNs.out hfu HNl.out hnk HK9.out HBb.out hown7 hg7 hob7 (by simp) HC9.out
          rw [show (nvs ++ [v9]).length = nvs.length + 1 by simp] at hv7
          subst hv7
          have HPr := hid hPr
          obtain ⟨⟨u0, u1, u2⟩, u3, u4, u5⟩ := boxN_facts hB7
          have hB7l := lt_of_block hB7
          clear hown7 hg7 hob7 hPr hB7 y0 y1 y2 y3 y4 y5 HC9 HK9 HRow HSrc
          go_wp2_with fail
          go_roundg g
          case measure => omega
          case rel => exact ⟨k9, ev9, rfl, rfl, HPr.out⟩
      · have HO := hid (pok_any wr hp)
        rw [show (y.1 == 0) = false by simpa using hy0] at HO
        have HUf : Hid (UfSt r la lc L RL w3 wr) := ⟨hK, _, hG.box, .inr ⟨y, hy, hy0, d0, hp⟩⟩
        clear hK hG hy hy0 hp
        by_cases hge : (k : Int) < (L.length : Int)
        · have hltd : decide ((k : Int) < (L.length : Int)) = true := decide_eq_true hge
          go_wp2_with fail
          refine HO.out.mono ?_
          rintro e3 w6 ⟨rfl, rfl⟩
          go_wp2_with fail
          go_meet
          exact ⟨k, e', rfl, rfl, HUf.out⟩
        · have hltd : decide ((k : Int) < (L.length : Int)) = false := decide_eq_false hge
          go_wp2_with fail
          go_meet
          exact ⟨k, e', rfl, rfl, HUf.out⟩
  case rest =>
    obtain ⟨k, e', rfl, rfl, HUf⟩ := hcut
    obtain ⟨hK, x, hBx, hcase⟩ := HUf.out
    clear HUf HSt
    have hH := (hK.block _ (by omega) (by omega)).trans HH3.out
    have hQ := (hK.block _ (by omega) (by omega)).trans HQ3.out
    have hzc := hK.size
    have HBc : Hid (Below w.heap.size w wc) := ⟨hK.os.trans HB3.out.os, hK.tape.trans HB3.out.tape, hK.output.trans HB3.out.output, by have := HB3.out.size; omega, fun b hb => (hK.block b (by omega) (by omega)).trans (HB3.out.block b hb)⟩
    obtain ⟨⟨n0, n1, n2⟩, n3, n4, n5⟩ := boxN_facts (x := zeroN) hH
    dsimp only [zeroN] at n0 n1 n2
    obtain ⟨⟨q0, q1, q2⟩, q3, q4, q5⟩ := scFlt hQ
    obtain ⟨⟨x0, x1, x2⟩, _⟩ := boxN_facts hBx
    have hHl := lt_of_block hH
    have hQl := lt_of_block hQ
    have hBl := lt_of_block hBx
    have HHc := hid hH
    have HQc := hid hQ
    have hHQ : w.heap.size ≠ w.heap.size + 1 := by omega
    have hHB : w.heap.size ≠ w3.heap.size := by omega
    have hQB : w.heap.size + 1 ≠ w3.heap.size := by omega
    have hHr1 : w.heap.size ≠ r := by omega
    have hQr1 : w.heap.size + 1 ≠ r := by omega
    rcases hcase with ⟨ks, hRe, hx, hp⟩ | ⟨y, hRe, hy0, d0, hp⟩
    · have HO := hid (pok_any wc hp)
      obtain ⟨⟨b0, b1, b2, b3, b4⟩, _⟩ := hp.facts
      have hrl := hp.lt
      have hRR2 : R = .ok (.mk 1 (-1) ks) := by rw [HRR.out, hRe]
      have HX := hid hx
      subst hRR2
      clear hp hK hBx hH hQ hRe HRR
      go_wp2_with fail
      refine HO.out.mono ?_
      rintro e3 w6 ⟨rfl, rfl⟩
      go_wp2_with fail
      go_region
      all_goals (have hN5 : Hid ((scPutF (putN w6 w.heap.size x) (w.heap.size + 1) 0 (-1) 0).heap[w.heap.size]? = some (boxN x)) := (scPutF_other _ _ _ _ _ _ (by omega)).trans (putN_block (u := zeroN) x HHc.out))
      all_goals (have hQ5 : Hid ((scPutF (putN w6 w.heap.size x) (w.heap.size + 1) 0 (-1) 0).heap[w.heap.size + 1]? = some (.cells #[.int .i64 0, .int .i64 (-1), .int .i64 0] 29)) := scPutF_block _ _ _ ((putN_other w6 w.heap.size x (w.heap.size + 1) (by omega)).trans HQc.out))
      all_goals (have hB5 : Hid (Below w.heap.size w (scPutF (putN w6 w.heap.size x) (w.heap.size + 1) 0 (-1) 0)) := scPutF_below (scPutN_below HBc.out (Nat.le_refl _) x) (by omega) _ _ _)
      all_goals (have hX5 : Hid (NdIs (scPutF (putN w6 w.heap.size x) (w.heap.size + 1) 0 (-1) 0) (w.heap.size ≤ ·) x (.mk 1 (-1) ks)) := (HX.out.kept (fun b hb _ => (scPutF_other _ _ _ _ _ b (by have hb' : w3.heap.size < b := hb; omega)).trans (putN_other _ _ _ b (by have hb' : w3.heap.size < b := hb; omega)))).mono fun b hb _ => by have hb' : w3.heap.size < b := hb; show w.heap.size ≤ b; omega)
      all_goals unfold scPutF putN at hN5 hQ5 hB5 hX5
      all_goals generalize (((((w6.setCell ⟨w.heap.size, 0, none⟩ (.int .i64 x.kind)).setCell ⟨w.heap.size, 1, none⟩ (.int .i64 x.tok)).setCell ⟨w.heap.size, 2, none⟩ (.slice x.a x.n x.c)).setCell ⟨w.heap.size + 1, 0, none⟩ (.int .i64 0)).setCell ⟨w.heap.size + 1, 1, none⟩ (.int .i64 (-1))).setCell ⟨w.heap.size + 1, 2, none⟩ (.int .i64 0) = W at hN5 hQ5 hB5 hX5 ⊢
      all_goals go_wp2_with fail
      all_goals exact bodyPost_ret (nfret (w := W.drew) Try.results7 hN5.out hQ5.out _ rfl rfl) rfl ⟨hB5.out.drew, x, rfl, hX5.out.kept fun b _ _ => rfl⟩
    · obtain ⟨y1, y2⟩ := y
      dsimp only at hy0 hp
      rw [HPl.out] at hp
      have HO := hid (pok_any wc hp)
      rw [show (y1 == 0) = false by simpa using hy0] at HO
      obtain ⟨⟨b0, b1, b2, b3, b4⟩, _⟩ := hp.facts
      have hrl := hp.lt
      have hRR2 : R = .error (y1, y2) := by rw [HRR.out, hRe]
      subst hRR2
      have HY := hid hy0
      clear hp hK hBx hH hQ hRe HRR hy0
      go_wp2_with fail
      refine HO.out.mono ?_
      rintro e3 w6 ⟨rfl, rfl⟩
      go_wp2_with fail
      go_region
      all_goals (have hN5 : Hid ((scPutF (putN w6 w.heap.size zeroN) (w.heap.size + 1) y1 (P y2).1 (P y2).2).heap[w.heap.size]? = some (boxN zeroN)) := (scPutF_other _ _ _ _ _ _ (by omega)).trans (putN_block (u := zeroN) zeroN HHc.out))
      all_goals (have hQ5 : Hid ((scPutF (putN w6 w.heap.size zeroN) (w.heap.size + 1) y1 (P y2).1 (P y2).2).heap[w.heap.size + 1]? = some (.cells #[.int .i64 y1, .int .i64 (P y2).1, .int .i64 (P y2).2] 29)) := scPutF_block _ _ _ ((putN_other w6 w.heap.size zeroN (w.heap.size + 1) (by omega)).trans HQc.out))
      all_goals (have hB5 : Hid (Below w.heap.size w (scPutF (putN w6 w.heap.size zeroN) (w.heap.size + 1) y1 (P y2).1 (P y2).2)) := scPutF_below (scPutN_below HBc.out (Nat.le_refl _) zeroN) (by omega) _ _ _)
      all_goals unfold scPutF putN at hN5 hQ5 hB5
      all_goals dsimp only [zeroN] at hN5 hQ5 hB5
      all_goals generalize (((((w6.setCell ⟨w.heap.size, 0, none⟩ (.int .i64 0)).setCell ⟨w.heap.size, 1, none⟩ (.int .i64 0)).setCell ⟨w.heap.size, 2, none⟩ (.slice none 0 0)).setCell ⟨w.heap.size + 1, 0, none⟩ (.int .i64 y1)).setCell ⟨w.heap.size + 1, 1, none⟩ (.int .i64 (P y2).1)).setCell ⟨w.heap.size + 1, 2, none⟩ (.int .i64 (P y2).2) = W at hN5 hQ5 hB5 ⊢
      all_goals go_wp2_with fail
      all_goals exact bodyPost_ret (nfret (x := zeroN) (w := W.drew) Try.results7 hN5.out hQ5.out _ rfl rfl) rfl ⟨hB5.out.drew, HY.out, rfl⟩
end
end
end Go.Proofs.Ytkfbhknhjpmomaa
