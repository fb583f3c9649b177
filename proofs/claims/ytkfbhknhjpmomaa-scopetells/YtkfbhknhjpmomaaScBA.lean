/- Statements and blocks: what they answer; too deep, or wrong already. · A block's states: what is read so far, one more statement, the end. · Walk of the document's own Block. -/
import Derived.Test.YtkfbhknhjpmomaaScDA
namespace Go.Proofs.Ytkfbhknhjpmomaa
section
open Go.RowKit Go.Shelf

/-- How far what is wrong may have gone, in a statement. -/
def ksX (L : List Tk) (m : Nat) : Nat := L.length + 30 + 8 * m
/-- Without the names. -/
def noEn : Got (Nd × Nat × En) → Got (Nd × Nat)
  | .error y => .error y
  | .ok (n, k, _) => .ok (n, k)
section
variable (r : Nat) (la : Option Addr) (lc : Nat) (L : List Tk)
def SOk (m : Nat) : Prop := ∀ (d i : Nat) (en : En) (ev : Option Nat) (w : World), d + m = 30 → PkAt w r la lc L d → i ≤ L.length → en.length ≤ i → typN en [] = false → EnAt w (.map ev) en →
  Calls Try.prog 60 #[.pointer (some ⟨r, 0, none⟩), .map ev, .int .i64 (i : Int)] w (CPost r la lc L d (ksX L m) (stR L m 0 en i) w)
def BOk (m : Nat) : Prop := ∀ (d i : Nat) (en : En) (ev : Option Nat) (w : World), d + m = 30 → PkAt w r la lc L d → i ≤ L.length → en.length ≤ i → typN en [] = false → EnAt w (.map ev) en →
  Calls Try.prog 37 #[.pointer (some ⟨r, 0, none⟩), .map ev, .int .i64 (i : Int)] w (EPost r la lc L d (ksX L m) (noEn (stR L m 1 en i)) w)
end
section
variable {r : Nat} {la : Option Addr} {lc : Nat} {L : List Tk} {w w' : World}
set_option maxRecDepth 100000 in
set_option maxHeartbeats 1000000 in
theorem block_no (w : World) (i : Nat) (ev : Option Nat) (y : Int × Nat) (hrw : r < w.heap.size) (hu : ∀ b off, la = some ⟨b, off, none⟩ → L ≠ [] → b < w.heap.size)
    (hE : ∀ W, Below w.heap.size w W → Calls Try.prog 59 #[.pointer (some ⟨r, 0, none⟩), .int .i64 (i : Int)] W fun x w' => x = .returned (.bool false) ∧ PbAt w' r la lc L y ∧ Kept (· = r) W w') :
    Calls Try.prog 37 #[.pointer (some ⟨r, 0, none⟩), .map ev, .int .i64 (i : Int)] w fun x w' => x = .returned (.tuple #[aggN ⟨5, -1, none, 0, 0⟩, .int .i64 (i : Int)]) ∧ PbAt w' r la lc L y ∧ Kept (· = r) w w' := by
  have hB0 := ((Below.refl w.heap.size w).alloc (Nat.le_refl _) (boxN zeroN)).alloc (by simp) (boxN ⟨5, -1, none, 0, 0⟩)
  have HE := hid (hE _ hB0)
  have HN := hid ((below_new (w.alloc (boxN zeroN)) (boxN ⟨5, -1, none, 0, 0⟩)).block _ (by simp : w.heap.size < _) |>.trans (heap_alloc_new w (boxN zeroN)))
  have HM := hid (heap_alloc_new (w.alloc (boxN zeroN)) (boxN ⟨5, -1, none, 0, 0⟩))
  rw [show (w.alloc (boxN zeroN)).heap.size = w.heap.size + 1 by simp] at HM
  have HB0 := hid hB0
  clear hB0 hE
  go_enter Try.func37, Try.ntmps37
  go_wp2_with fail
  refine HE.out.mono ?_
  rintro e1 w1 ⟨rfl, hp1, hk1⟩
  have HN1 := hid ((hk1.block _ (lt_of_block HN.out) (by omega)).trans HN.out)
  have HM1 := hid ((hk1.block _ (lt_of_block HM.out) (by omega)).trans HM.out)
  have HK1 := hid ((kept_below (X := (· = r)) HB0.out).trans hk1)
  have HF : Hid (PbAt (putN w1 w.heap.size ⟨5, -1, none, 0, 0⟩) r la lc L y) := hp1.far_put hrw (fun g hg => putN_other w1 w.heap.size ⟨5, -1, none, 0, 0⟩ g hg) (putN_size _ _ _) (fun b off e hL => by have := hu b off e hL; omega)
  obtain ⟨⟨z0, z1, z2⟩, z3, z4, z5⟩ := boxN_facts HN1.out
  obtain ⟨⟨a0, a1, a2⟩, _⟩ := boxN_facts HM1.out
  have hlt := lt_of_block HN1.out
  have hlt2 := lt_of_block HM1.out
  clear hk1 hp1
  go_wp2_with fail
  exact bodyPost_ret (nret2 Try.results37 (putN_block ⟨5, -1, none, 0, 0⟩ HN1.out) _ rfl rfl) rfl ⟨rfl, HF.out, putN_kept HK1.out (Nat.le_refl _) ⟨5, -1, none, 0, 0⟩⟩
theorem block_bad {y : Int × Nat} (w : World) (h : PbAt w r la lc L y) (i : Nat) (ev : Option Nat) :
    Calls Try.prog 37 #[.pointer (some ⟨r, 0, none⟩), .map ev, .int .i64 (i : Int)] w fun x w' => x = .returned (.tuple #[aggN ⟨5, -1, none, 0, 0⟩, .int .i64 (i : Int)]) ∧ PbAt w' r la lc L y ∧ Kept (· = r) w w' := by
  obtain ⟨h0, d, h1⟩ := h
  refine block_no w i ev y h1.lt h1.under fun W hW => (enter_bad W (h1.below hW) h0 i).mono ?_
  rintro x w' ⟨hx, ⟨d', hp⟩, hk⟩
  exact ⟨hx, ⟨h0, d', hp⟩, hk⟩
theorem bok_zero : BOk r la lc L 0 := by
  intro d i en ev w hd h hi _ _ _
  obtain rfl : d = 30 := by omega
  refine (block_no (lc := lc) w i ev (10, i) h.lt h.under fun W hW => (enter_deep W (h.below hW) i).mono ?_).mono ?_
  · rintro x w' ⟨hx, hp, hk⟩
    exact ⟨hx, ⟨show (10 : Int) ≠ 0 by decide, 31, hp⟩, hk⟩
  · rintro x w' ⟨rfl, hp, hk⟩
    exact ⟨hk, _, i, rfl, by unfold ksX; omega, hp⟩
set_option maxRecDepth 100000 in
set_option maxHeartbeats 1000000 in
theorem stmt_no (w : World) (i : Nat) (ev : Option Nat) (y : Int × Nat) (hrw : r < w.heap.size) (hu : ∀ b off, la = some ⟨b, off, none⟩ → L ≠ [] → b < w.heap.size)
    (hE : ∀ W, Below w.heap.size w W → Calls Try.prog 59 #[.pointer (some ⟨r, 0, none⟩), .int .i64 (i : Int)] W fun x w' => x = .returned (.bool false) ∧ PbAt w' r la lc L y ∧ Kept (· = r) W w') :
    Calls Try.prog 60 #[.pointer (some ⟨r, 0, none⟩), .map ev, .int .i64 (i : Int)] w fun x w' => x = .returned (.tuple #[aggN zeroN, .int .i64 (i : Int), .map ev]) ∧ PbAt w' r la lc L y ∧ Kept (· = r) w w' := by
  have hB0 := (Below.refl w.heap.size w).alloc (Nat.le_refl _) (boxN zeroN)
  have HE := hid (hE _ hB0)
  have HN := hid (heap_alloc_new w (boxN zeroN))
  have HB0 := hid hB0
  clear hB0 hE
  go_enter Try.func60, Try.ntmps60
  go_wp2_with fail
  refine HE.out.mono ?_
  rintro e1 w1 ⟨rfl, hp1, hk1⟩
  have HN1 := hid ((hk1.block _ (lt_of_block HN.out) (by omega)).trans HN.out)
  have HK1 := hid ((kept_below (X := (· = r)) HB0.out).trans hk1)
  have HF : Hid (PbAt (putN w1 w.heap.size zeroN) r la lc L y) := hp1.far_put hrw (fun g hg => putN_other w1 w.heap.size zeroN g hg) (putN_size _ _ _) (fun b off e hL => by have := hu b off e hL; omega)
  obtain ⟨⟨z0, z1, z2⟩, z3, z4, z5⟩ := boxN_facts HN1.out
  have hlt := lt_of_block HN1.out
  clear hk1 hp1
  go_wp2_with fail
  exact bodyPost_ret (nret3 Try.results60 (putN_block zeroN HN1.out) _ rfl rfl rfl) rfl ⟨rfl, HF.out, putN_kept HK1.out (Nat.le_refl _) zeroN⟩
theorem stmt_bad {y : Int × Nat} (w : World) (h : PbAt w r la lc L y) (i : Nat) (ev : Option Nat) :
    Calls Try.prog 60 #[.pointer (some ⟨r, 0, none⟩), .map ev, .int .i64 (i : Int)] w fun x w' => x = .returned (.tuple #[aggN zeroN, .int .i64 (i : Int), .map ev]) ∧ PbAt w' r la lc L y ∧ Kept (· = r) w w' := by
  obtain ⟨h0, d, h1⟩ := h
  refine stmt_no w i ev y h1.lt h1.under fun W hW => (enter_bad W (h1.below hW) h0 i).mono ?_
  rintro x w' ⟨hx, ⟨d', hp⟩, hk⟩
  exact ⟨hx, ⟨h0, d', hp⟩, hk⟩
theorem sok_zero : SOk r la lc L 0 := by
  intro d i en ev w hd h hi _ _ _
  obtain rfl : d = 30 := by omega
  refine (stmt_no (lc := lc) w i ev (10, i) h.lt h.under fun W hW => (enter_deep W (h.below hW) i).mono ?_).mono ?_
  · rintro x w' ⟨hx, hp, hk⟩
    exact ⟨hx, ⟨show (10 : Int) ≠ 0 by decide, 31, hp⟩, hk⟩
  · rintro x w' ⟨rfl, hp, hk⟩
    exact RPost.bad (by simp only [stR]) hk (by unfold ksX; omega) hp
end
end
section
open Go.RowKit Go.Shelf

/-- The statements of a block. -/
def blkS (L : List Tk) (m : Nat) (en : En) (i : Nat) : Got (List Nd × Nat) := if wordT L i = [123] then blkLoop L (fun e i => stR L m 0 e i) (L.length + 1) en (i + 1) [] else .error (2, i)
def blkR : Got (List Nd × Nat) → Got (Nd × Nat)
  | .error y => .error y
  | .ok (ks, k) => .ok (.mk 5 (-1) ks, k + 1)
theorem blk_is (L : List Tk) (m : Nat) (en : En) (i : Nat) : noEn (stR L (m + 1) 1 en i) = blkR (blkS L m en i) := by
  simp only [stR, blkS]
  by_cases h : wordT L i = [123]
  · rw [if_neg (by simp [h]), if_pos h]
    cases blkLoop L (fun e i => stR L m 0 e i) (L.length + 1) en (i + 1) [] with
    | error y => rfl
    | ok x => rfl
  · rw [if_pos h, if_neg h]; rfl
/-- A block's statements so far. -/
def BkSt (r : Nat) (la : Option Addr) (lc : Nat) (L : List Tk) (Sm : En → Nat → Got (Nd × Nat × En)) (d K : Nat) (RL : Got (List Nd × Nat)) (w : World) (B g k : Nat) (ev : Option Nat) (wr : World) : Prop :=
  Kept (· = r) w wr ∧ wr.heap[w.heap.size]? = some (boxN zeroN) ∧ ∃ nvs a c, GrowAt w.heap.size (fun b => b = w.heap.size ∨ b = B) B 5 (-1) nvs a c wr ∧
    ((∃ ks en, blkLoop L Sm g en k ks = RL ∧ NdsIs wr (kidP w.heap.size (fun b => b = w.heap.size ∨ b = B) a nvs.length c) nvs ks ∧ PkAt wr r la lc L d ∧ k ≤ L.length ∧ L.length + 1 ≤ g + k ∧ en.length ≤ k ∧ typN en [] = false ∧ EnAt wr (.map ev) en ∧ nvs.length ≤ k) ∨ (∃ y, RL = .error y ∧ PbAt wr r la lc L y ∧ k ≤ K))
/-- Behind a block's statements. -/
def BfSt (r : Nat) (la : Option Addr) (lc : Nat) (L : List Tk) (d K : Nat) (RL : Got (List Nd × Nat)) (w : World) (B k : Nat) (wr : World) : Prop :=
  ∃ x, UnSt r la lc L d (K + 1) (blkR RL) w B (k + 1) x wr
section
variable {r : Nat} {la : Option Addr} {lc : Nat} {L : List Tk} {w : World}
theorem blk_bad {d K B k : Nat} {RL : Got (List Nd × Nat)} {wr : World} {nvs : List Nv} {a : Option Addr} {c : Nat} {y : Int × Nat} (hk : Kept (· = r) w wr) (hH : wr.heap[w.heap.size]? = some (boxN zeroN)) (hG : GrowAt w.heap.size (fun b => b = w.heap.size ∨ b = B) B 5 (-1) nvs a c wr) (hR : RL = .error y) (hp : PbAt wr r la lc L y) (hkK : k ≤ K) : BfSt r la lc L d K RL w B k wr :=
  ⟨_, hk, hH, hG.box, .inr ⟨y, by rw [hR]; rfl, by omega, hp⟩⟩
theorem blk_good {d K B k : Nat} {RL : Got (List Nd × Nat)} {wr : World} {nvs : List Nv} {a : Option Addr} {c : Nat} {ks : List Nd} (hk : Kept (· = r) w wr) (hH : wr.heap[w.heap.size]? = some (boxN zeroN)) (hG : GrowAt w.heap.size (fun b => b = w.heap.size ∨ b = B) B 5 (-1) nvs a c wr) (hR : RL = .ok (ks, k)) (hn : NdsIs wr (kidP w.heap.size (fun b => b = w.heap.size ∨ b = B) a nvs.length c) nvs ks) (hp : PkAt wr r la lc L d) (hkL : k + 1 ≤ L.length) : BfSt r la lc L d K RL w B k wr :=
  ⟨_, hk, hH, hG.box, .inl ⟨_, by rw [hR]; rfl, hG.nd hn (fun b h1 h2 => ⟨by omega, by omega⟩), hp, hkL⟩⟩
theorem blk_next (hF : ∀ t ∈ L, t.text.size ≠ 0) {m d K B g k k9 Z : Nat} {RL : Got (List Nd × Nat)} {wr w9 W w7 : World} {nvs : List Nv} {a : Option Addr} {c : Nat} {ks : List Nd} {en : En} {v9 : Nv} {ev9 : Option Nat} {v' : Value} (hrw : r < w.heap.size) (hU : ∀ b off, la = some ⟨b, off, none⟩ → L ≠ [] → b < w.heap.size) (hHB : w.heap.size < B)
    (hK : Kept (· = r) w wr) (hH : wr.heap[w.heap.size]? = some (boxN zeroN)) (hG : GrowAt w.heap.size (fun b => b = w.heap.size ∨ b = B) B 5 (-1) nvs a c wr)
    (hR : blkLoop L (fun e i => stR L m 0 e i) (g + 1) en k ks = RL) (hw125 : wordT L k ≠ [125]) (hkl : k < L.length) (hn : NdsIs wr (kidP w.heap.size (fun b => b = w.heap.size ∨ b = B) a nvs.length c) nvs ks) (hfu : L.length + 1 ≤ g + 1 + k) (hnil : typN en [] = false) (hnk : nvs.length ≤ k)
    (hk9 : Kept (· = r) wr w9) (hb : Below w9.heap.size w9 W) (hown : w7.ownsRow w.heap.size 26 3 v' (nvs.length + 1) (cellsN nvs ++ cellsN [v9])) (hg : W.grownBy w7 (Value.slice a nvs.length c).ownBlock) (hob : v'.ownBlock = (Value.slice a nvs.length c).ownBlock ∨ v'.ownBlock = some Z) (hZ : Z = W.heap.size)
    (hc : (∃ n en', stR L m 0 en k = .ok (n, k9, en') ∧ NdIs w9 (wr.heap.size ≤ ·) v9 n ∧ PkAt w9 r la lc L d ∧ k9 ≤ L.length ∧ en'.length ≤ k9 ∧ EnAt w9 (.map ev9) en') ∨ (∃ y, stR L m 0 en k = .error y ∧ k9 ≤ K ∧ PbAt w9 r la lc L y)) :
    ∃ a1 c1, v' = .slice a1 (nvs ++ [v9]).length c1 ∧ w7.heap[B]? = some (boxN ⟨5, -1, a, nvs.length, c⟩) ∧ BkSt r la lc L (fun e i => stR L m 0 e i) d K RL w B g k9 ev9 (w7.setCell ⟨B, 2, none⟩ v') := by
  have hBl := lt_of_block hG.box
  have hHl := lt_of_block hH
  obtain ⟨a1, c1, hv7, hB7, hG8, hN8, hV8, hK8, hS8, hP8, hE8⟩ := grow_next (r := r) (la := la) (lc := lc) (L := L) (v9 := v9) rfl hrw hU (fun b hs => by rcases hs with rfl | rfl <;> omega) (.inr rfl) hG hk9 hb hown hg hob hZ
  refine ⟨a1, c1, hv7, hB7, hK8 hK, (hS8 _ (.inl rfl) (by omega)).trans hH, _, a1, c1, hG8, ?_⟩
  have hR2 : (match stR L m 0 en k with
    | .error x => .error x
    | .ok (x, k, e2) => blkLoop L (fun e i => stR L m 0 e i) g e2 k (ks ++ [x])) = RL := by
    rw [← hR]; simp only [blkLoop]; rw [if_neg hw125, if_neg (by omega)]; cases stR L m 0 en k <;> rfl
  rcases hc with ⟨n, en', h1, h2, h3, h4, h5, h6⟩ | ⟨y, h1, h2, ⟨h3, d', h4⟩⟩
  · rw [h1] at hR2
    have hf := (stR_facts hF m).1 _ _ _ _ _ h1
    refine .inl ⟨ks ++ [n], en', hR2, (hN8 ks hn).app (NdsIs.one (hV8 n h2)), hP8 h3, h4, by omega, h5, hf.2 hnil, hE8 _ _ h6, by simp; omega⟩
  · rw [h1] at hR2
    exact .inr ⟨y, hR2.symm, ⟨h3, d', hP8 h4⟩, h2⟩
end
end
section
open Go.RowKit Go.Shelf
section
variable {r : Nat} {la : Option Addr} {lc : Nat} {L : List Tk} {w w' : World}
set_option maxRecDepth 100000 in
set_option maxHeartbeats 4000000 in
theorem bok_step (hF : ∀ t ∈ L, t.text.size ≠ 0) (m : Nat) (hm : m < 30) (hS : SOk r la lc L m) : BOk r la lc L (m + 1) := by
  intro d i en ev w hd h hi hel hnil hev
  rw [blk_is]
  generalize hRL : blkS L m en i = RL
  have HRL := hid hRL
  clear hRL
  have hrw := h.lt
  have HUn := hid h.under
  have hfew := h.few
  have hbox := h.box
  have HSk := hid (fun i' en' ev' W (hW : PkAt W r la lc L (d + 1)) (h1 : i' ≤ L.length) (h2 : en'.length ≤ i') (h3 : typN en' [] = false) (h4 : EnAt W (.map ev') en') => hS (d + 1) i' en' ev' W (by omega) hW h1 h2 h3 h4)
  have hks : ksX L m + 8 = ksX L (m + 1) := by unfold ksX; omega
  have hkl : ksX L m ≤ 100000 := by unfold ksX; omega
  have hkL : L.length + 30 ≤ ksX L m := by unfold ksX; omega
  have hB0 := ((Below.refl w.heap.size w).alloc (Nat.le_refl _) (boxN zeroN)).alloc (by simp) (boxN ⟨5, -1, none, 0, 0⟩)
  have HE := hid (enter_ok _ (h.below hB0) (show d < 30 by omega) i)
  have HN := hid ((below_new (w.alloc (boxN zeroN)) (boxN ⟨5, -1, none, 0, 0⟩)).block _ (by simp : w.heap.size < _) |>.trans (heap_alloc_new w (boxN zeroN)))
  have HM := hid (heap_alloc_new (w.alloc (boxN zeroN)) (boxN ⟨5, -1, none, 0, 0⟩))
  rw [show (w.alloc (boxN zeroN)).heap.size = w.heap.size + 1 by simp] at HM
  have HEn : Hid (∀ W, Kept (· = r) w W → EnAt W (.map ev) en) := fun W hW => hev.kept hbox hW
  have HNil := hid hnil
  have HB0 := hid hB0
  obtain ⟨i0, hi0, hz0, hzz1, hzz2⟩ := info_parts info_node
  clear hB0 h hS hev hbox hnil
  go_enter Try.func37, Try.ntmps37
  go_wp2_with fail
  refine HE.out.mono ?_
  rintro e1 w1 ⟨rfl, hp1, hk1⟩
  have HN1 := hid ((hk1.block _ (lt_of_block HN.out) (by omega)).trans HN.out)
  have HM1 := hid ((hk1.block _ (lt_of_block HM.out) (by omega)).trans HM.out)
  have HK1 := hid ((kept_below (X := (· = r)) HB0.out).trans hk1)
  have HP1 := hid hp1
  have HNd : Hid (Calls Try.prog 36 #[.pointer (some ⟨r, 0, none⟩), .int .i64 (i : Int), .string ⟨#[123]⟩] w1 fun x w' => x = .returned (.int .i64 ((i + 1 : Nat) : Int)) ∧ BkSt r la lc L (fun e i => stR L m 0 e i) (d + 1) (ksX L m) RL w (w.heap.size + 1) (L.length + 1) (i + 1) ev w') := by
    by_cases h123 : wordT L i = [123]
    · have hil := wrd_lt h123 (by simp)
      refine (need_hit w1 hp1 i (by omega) ⟨#[123]⟩ h123).mono ?_
      rintro x w' ⟨rfl, rfl⟩
      exact ⟨rfl, HK1.out, HN1.out, [], none, 0, grow_nil HM1.out, .inl ⟨[], en, by rw [← HRL.out]; unfold blkS; rw [if_pos h123], NdsIs.nil, hp1, by omega, by omega, by omega, HNil.out, HEn.out _ HK1.out, by simp⟩⟩
    · refine (need_miss w1 hp1 i (by omega) ⟨#[123]⟩ h123).mono ?_
      rintro x w' ⟨rfl, hpz, hkz⟩
      exact ⟨rfl, HK1.out.trans hkz, (hkz.block _ (lt_of_block HN1.out) (by omega)).trans HN1.out, [], none, 0, grow_nil ((hkz.block _ (lt_of_block HM1.out) (by omega)).trans HM1.out), .inr ⟨_, by rw [← HRL.out]; unfold blkS; rw [if_neg h123], ⟨show (2 : Int) ≠ 0 by decide, _, hpz⟩, by omega⟩⟩
  clear HRL hk1 hp1 HE HN HM HB0 HN1 HM1 HK1 HP1 HEn HNil
  go_upto_block 0 with (go_at_call 36; refine HNd.out.mono ?_; rintro e2 w2 ⟨rfl, hSt⟩; have HSt := hid hSt; clear hSt)
  clear HNd
  go_cut [2] (fun x wx => ∃ k : Nat, x = .int .i64 (k : Int) ∧ Hid (BfSt r la lc L (d + 1) (ksX L m) RL w (w.heap.size + 1) k wx) ∧ k ≤ 200000)
  case first =>
    go_wp2_with fail
    go_loopg [1, 2] (L.length + 1) (fun g a b wr => ∃ (k : Nat) (e' : Option Nat), a = .map e' ∧ b = .int .i64 (k : Int) ∧ Hid (BkSt r la lc L (fun e i => stR L m 0 e i) (d + 1) (ksX L m) RL w (w.heap.size + 1) g k e' wr))
    case atStart => exact ⟨i + 1, ev, rfl, rfl, HSt.out⟩
    case round =>
      obtain ⟨k, e', rfl, rfl, HS⟩ := hrel
      obtain ⟨hK, hH, nvs, a, c, hG, hcase⟩ := HS.out
      clear HS HSt
      rcases hcase with ⟨ks, en1, hRw, hN, hp, hkL2, hfu, hel1, hnil1, hen1, hnk⟩ | ⟨y, hy, hp, hkK⟩
      · obtain ⟨g, rfl⟩ : ∃ g, gk = g + 1 := ⟨gk - 1, by omega⟩
        have HO := hid (pok_any wr hp)
        have HW := hid (pword_any wr hp k)
        have hwn := wrd_lin L k [125]
        have hwe := wrd_lit L k [125]
        have HKq := hid hK
        have HHq := hid hH
        have HG := hid hG
        have HNs := hid hN
        have HPx := hid hp
        have HRw := hid hRw
        have HNl := hid hnil1
        have HEq := hid hen1
        by_cases h125 : wordT L k = [125]
        · have hkl2 := wrd_lt h125 (by simp)
          rw [decide_eq_true h125] at hwn hwe
          have HBf : Hid (BfSt r la lc L (d + 1) (ksX L m) RL w (w.heap.size + 1) k wr) := blk_good hK hH hG (by rw [← hRw]; simp only [blkLoop]; rw [if_pos h125]) hN hp hkl2
          generalize wrdB L k = wb at HW hwn hwe
          clear h125 hK hH hG hN hp hRw hnil1 hen1
          go_wp2_with fail
          refine HO.out.mono ?_
          rintro e3 w6 ⟨rfl, rfl⟩
          go_wp2_with fail
          refine HW.out.mono ?_
          rintro e3 w7 ⟨rfl, rfl⟩
          go_wp2_with fail
          go_meet
          exact ⟨k, rfl, HBf.out, by omega⟩
        · have HW125 := hid h125
          rw [decide_eq_false h125] at hwn hwe
          generalize wrdB L k = wb at HW hwn hwe
          obtain ⟨⟨b0, b1, b2, b3, b4⟩, _⟩ := hp.facts
          have hrl := hp.lt
          clear b1 b2 b3 b4 h125 hK hH hG hN hp hRw hnil1 hen1
          by_cases hge : L.length ≤ k
          · have hgi : (L.length : Int) ≤ (k : Int) := by omega
            have hgd : decide ((L.length : Int) ≤ (k : Int)) = true := decide_eq_true hgi
            have HSp := hid (pstop_ok wr HPx.out k 9)
            have HRe : Hid (RL = .error (9, k)) := by show _ = _; rw [← HRw.out]; simp only [blkLoop]; rw [if_neg HW125.out, if_pos hge]
            go_wp2_with fail
            refine HO.out.mono ?_
            rintro e3 w6 ⟨rfl, rfl⟩
            go_wp2_with fail
            refine HW.out.mono ?_
            rintro e3 w7 ⟨rfl, rfl⟩
            go_wp2_with fail
            refine HSp.out.mono ?_
            rintro e3 wz ⟨rfl, hpz, hkz⟩
            have HBf : Hid (BfSt r la lc L (d + 1) (ksX L m) RL w (w.heap.size + 1) k wz) := blk_bad (HKq.out.trans hkz) ((hkz.block _ (lt_of_block HHq.out) (by omega)).trans HHq.out) (HG.out.kept hkz (by omega) (fun b hb => by omega)) HRe.out ⟨show (9 : Int) ≠ 0 by decide, _, hpz⟩ (by omega)
            clear hpz hkz
            go_wp2_with fail
            go_meet
            exact ⟨k, rfl, HBf.out, by omega⟩
          · have hgi : ¬ (L.length : Int) ≤ (k : Int) := by omega
            have hgd : decide ((L.length : Int) ≤ (k : Int)) = false := decide_eq_false hgi
            have HS1 := hid (HSk.out k en1 e' wr HPx.out hkL2 hel1 HNl.out HEq.out)
            go_wp2_with fail
            refine HO.out.mono ?_
            rintro e3 w6 ⟨rfl, rfl⟩
            go_wp2_with fail
            refine HW.out.mono ?_
            rintro e3 w7 ⟨rfl, rfl⟩
            go_wp2_with fail
            refine HS1.out.mono ?_
            rintro e9 w9 hq9
            obtain ⟨v9, k9, ev9, rfl, hk9, hc9⟩ := hq9.any
            have hz9 := hk9.size
            have hb1 := below_new w9 (boxN v9)
            have hs1 : (w9.alloc (boxN v9)).heap.size = w9.heap.size + 1 := by simp
            have hb2 := below_new (w9.alloc (boxN v9)) (.cells (cellsN [v9]).toArray 26)
            have hb : Below w9.heap.size w9 ((w9.alloc (boxN v9)).alloc (.cells (cellsN [v9]).toArray 26)) := hb1.trans (hb2.mono hb1.size)
            have HBb := hid hb
            have hG9 := HG.out.kept hk9 (by omega) (fun b hb => by omega)
            have HRow := hid (hG9.below hb).row
            have hsrc := row_cells (new_row (w9.alloc (boxN v9)) [v9] (by simp))
            rw [hs1] at hsrc
            have HSrc := hid hsrc
            obtain ⟨⟨y0, y1, y2⟩, y3, y4, y5⟩ := boxN_facts hG9.box
            have hB9l := lt_of_block hG9.box
            have HC9 := hid hc9
            have HK9 := hid hk9
            have hHl7 := lt_of_block HHq.out
            have hwb : w.heap.size ≤ ((w9.alloc (boxN v9)).alloc (.cells (cellsN [v9]).toArray 26)).heap.size := by have := hb.size; omega
            have hnl3 : nvs.length ≤ 6000 := by omega
            clear hk9 hc9 hq9 hb1 hb2 hb hG9 hsrc hs1 b0
            unfold aggN
            go_wp2_with (at_builtin; refine wpList_append_own_at _ rfl _ _ 24 rfl w.heap.size 26 i0 _ 3 40 Try.underlying24 hi0 hz0 hzz1 hzz2 rfl (by decide) _ _ _ rfl HRow.out ⟨w9.heap.size + 1, 0, none⟩ 1 1 (cellsN [v9]) rfl (cellsN_length _) HSrc.out (cellsN_one_cell _) (by unfold maxLen; omega) (by omega) hwb ?_)
            intro v' w8 hown7 hg7 _ hob7
            obtain ⟨a1, c1, hv7, hB7, hAr⟩ := blk_next hF hrw HUn.out (Nat.lt_succ_self _) HKq.out HHq.out HG.out HRw.out HW125.out (by omega) HNs.out hfu HNl.out hnk HK9.out HBb.out hown7 hg7 hob7 (by simp) HC9.out
            rw [show (nvs ++ [v9]).length = nvs.length + 1 by simp] at hv7
            subst hv7
            have HAr := hid hAr
            obtain ⟨⟨u0, u1, u2⟩, u3, u4, u5⟩ := boxN_facts hB7
            have hB7l := lt_of_block hB7
            clear hown7 hg7 hob7 hAr hB7 y0 y1 y2 y3 y4 y5 HC9 HK9 HRow HSrc
            go_wp2_with fail
            go_roundg g
            case measure => omega
            case rel => exact ⟨k9, ev9, rfl, rfl, HAr.out⟩
      · obtain ⟨hy0, d0, hp0⟩ := hp
        have HO := hid (pok_any wr hp0)
        rw [show (y.1 == 0) = false by simpa using hy0] at HO
        have HBf : Hid (BfSt r la lc L (d + 1) (ksX L m) RL w (w.heap.size + 1) k wr) := blk_bad hK hH hG hy ⟨hy0, d0, hp0⟩ hkK
        clear hK hH hG hy hy0 hp0
        go_wp2_with fail
        refine HO.out.mono ?_
        rintro e3 w6 ⟨rfl, rfl⟩
        go_wp2_with fail
        go_meet
        exact ⟨k, rfl, HBf.out, by omega⟩
  case rest =>
    obtain ⟨k, rfl, HBf, hk2⟩ := hcut
    obtain ⟨x, hS5⟩ := HBf.out
    obtain ⟨qe, qf, qa, q0, q1, hPx, hw1, hres, HEnd⟩ := hS5.end (by omega) hrw HUn.out
    obtain ⟨⟨b0, b1, b2, b3, b4⟩, g1, g2, g3, g4⟩ := hPx.facts
    obtain ⟨⟨a0, a1, a2⟩, _⟩ := boxN_facts hS5.box
    obtain ⟨⟨z0, z1, z2⟩, z3, z4, z5⟩ := boxN_facts hS5.res
    have hr6 := hPx.lt
    have hH6 := lt_of_block hS5.res
    have hB6 := lt_of_block hS5.box
    have HX := hid (And.intro hres HEnd)
    have hwk : IntKind.i64.wrap ((k : Int) + 1) = ((k + 1 : Nat) : Int) := by rw [IntKind.wrap_i64]; omega
    have hwk2 : wrap64 ((k : Int) + 1) = ((k + 1 : Nat) : Int) := by unfold wrap64; omega
    clear hPx hres HEnd b1 b2 b3 g1 g2 g3 hS5 HBf
    go_wp2_with fail
    have hq := HX.out.2 (ksX L (m + 1)) (by omega)
    rw [show ((k + 1 : Nat) : Int) = (k : Int) + 1 by omega] at hq
    exact bodyPost_ret (nret2 Try.results37 (putN_block x HX.out.1) _ rfl rfl) rfl hq
end
end
end Go.Proofs.Ytkfbhknhjpmomaa
