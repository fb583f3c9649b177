/- Walk of the document's own Declarator. · Named and Declarator where something is wrong already. · Walk of the document's own Rest: what follows a declaration's first name. · Rest where something is wrong already; and the document's own Decl. · Walk of the document's own Decl. · Plain facts of statements: what is read ends behind its begin; no name is empty. -/
import Derived.Test.YtkfbhknhjpmomaaScPA
import Derived.Deep.RegionHeld3
namespace Go.Proofs.Ytkfbhknhjpmomaa
section
open Go.RowKit Go.Shelf
/-- A tree whose kids lie apart from its own row. -/
structure NdAp (w : World) (P : Nat → Prop) (v : Nv) (n : Nd) : Prop where
  kind : v.kind = n.kind
  tok : v.tok = n.tok
  kids : ∃ nvs, v.n = nvs.length ∧ w.ownsRow 0 26 3 v.kv nvs.length (cellsN nvs) ∧ (∀ b, v.kv.ownBlock = some b → P b) ∧ NdsIs w (fun b => P b ∧ v.kv.ownBlock ≠ some b) nvs n.kids
theorem NdAp.is {w : World} {P : Nat → Prop} {v : Nv} {n : Nd} (h : NdAp w P v n) : NdIs w P v n := by
  obtain ⟨nvs, _, h2, h3, h4⟩ := h.kids
  exact ⟨h.kind, h.tok, KidsAt.of_row h2 (h4.mono fun b hb _ => hb.1) h3⟩
theorem NdAp.kept {w w' : World} {P : Nat → Prop} {v : Nv} {n : Nd} (h : NdAp w P v n) (hb : ∀ b, P b → b < w.heap.size → w'.heap[b]? = w.heap[b]?) : NdAp w' P v n := by
  obtain ⟨nvs, h1, h2, h3, h4⟩ := h.kids
  exact ⟨h.kind, h.tok, nvs, h1, row_same h2 fun b e hlt => hb b (h3 b e) hlt, h3, h4.kept fun b hb2 hlt => hb b hb2.1 hlt⟩
theorem NdAp.mono {w : World} {P Q : Nat → Prop} {v : Nv} {n : Nd} (h : NdAp w P v n) (hq : ∀ b, P b → b < w.heap.size → Q b) : NdAp w Q v n := by
  obtain ⟨nvs, h1, h2, h3, h4⟩ := h.kids
  exact ⟨h.kind, h.tok, nvs, h1, h2, fun b e => hq b (h3 b e) (h2.lt b e).2, h4.mono fun b hb2 hlt => ⟨hq b hb2.1 hlt, hb2.2⟩⟩
theorem NdAp.leaf {w : World} {P : Nat → Prop} (kd tk : Int) : NdAp w P ⟨kd, tk, none, 0, 0⟩ (.mk kd tk []) :=
  ⟨rfl, rfl, [], rfl, World.ownsRow_nil _ _ _ _, (fun b e => by cases e), NdsIs.nil⟩
theorem GrowAt.ap {base : Nat} {S : Nat → Prop} {B : Nat} {kd tk : Int} {nvs : List Nv} {a : Option Addr} {c : Nat} {W : World} {ks : List Nd} (h : GrowAt base S B kd tk nvs a c W) (hn : NdsIs W (kidP base S a nvs.length c) nvs ks) {Q : Nat → Prop} (hQ : ∀ b, base ≤ b → ¬ S b → Q b) : NdAp W Q ⟨kd, tk, a, nvs.length, c⟩ (.mk kd tk ks) :=
  ⟨rfl, rfl, nvs, rfl, ⟨h.row.1, h.row.2.imp id fun ⟨g, cap, cur, e, _, r⟩ => ⟨g, cap, cur, e, Nat.zero_le _, r⟩⟩, fun b hb => hQ b (own_at h.row hb).1 (fun hs => h.ne b hs hb), hn.mono fun b hb _ => ⟨hQ b hb.1 hb.2.1, hb.2.2⟩⟩
section
variable (r : Nat) (la : Option Addr) (lc : Nat) (L : List Tk)
/-- What reading a declarator answers. -/
def DPost (d K : Nat) (R : Got (Nd × Nat × En)) (w : World) (x : Ending) (w' : World) : Prop := Kept (· = r) w w' ∧ match R with
  | .ok (n, k, en) => ∃ (v : Nv) (ev : Option Nat), x = .returned (.tuple #[aggN v, .int .i64 (k : Int), .map ev]) ∧ NdAp w' (w.heap.size ≤ ·) v n ∧ PkAt w' r la lc L d ∧ k ≤ L.length ∧ en.length ≤ k ∧ EnAt w' (.map ev) en
  | .error y => ∃ (v : Nv) (k : Nat) (ev : Option Nat), x = .returned (.tuple #[aggN v, .int .i64 (k : Int), .map ev]) ∧ k ≤ K ∧ PbAt w' r la lc L y
end
section
variable {r : Nat} {la : Option Addr} {lc : Nat} {L : List Tk} {w w' : World}
theorem DPost.any {d K : Nat} {R : Got (Nd × Nat × En)} {x : Ending} (h : DPost r la lc L d K R w x w') : ∃ (v : Nv) (k : Nat) (ev : Option Nat), x = .returned (.tuple #[aggN v, .int .i64 (k : Int), .map ev]) ∧ Kept (· = r) w w' ∧
    ((∃ n en, R = .ok (n, k, en) ∧ NdAp w' (w.heap.size ≤ ·) v n ∧ PkAt w' r la lc L d ∧ k ≤ L.length ∧ en.length ≤ k ∧ EnAt w' (.map ev) en) ∨ (∃ y, R = .error y ∧ k ≤ K ∧ PbAt w' r la lc L y)) := by
  obtain ⟨hk, h⟩ := h
  rcases R with y | ⟨n, k, en⟩
  · obtain ⟨v, k, ev, hx, h1, h2⟩ := h
    exact ⟨v, k, ev, hx, hk, .inr ⟨y, rfl, h1, h2⟩⟩
  · obtain ⟨v, ev, hx, h1, h2, h3, h4, h5⟩ := h
    exact ⟨v, k, ev, hx, hk, .inl ⟨n, en, rfl, h1, h2, h3, h4, h5⟩⟩
theorem DPost.bad {d K : Nat} {R : Got (Nd × Nat × En)} {y : Int × Nat} {v : Nv} {k : Nat} {ev : Option Nat} (hR : R = .error y) (hk : Kept (· = r) w w') (hkK : k ≤ K) (hp : PbAt w' r la lc L y) : DPost r la lc L d K R w (.returned (.tuple #[aggN v, .int .i64 (k : Int), .map ev])) w' := by
  subst hR
  exact ⟨hk, v, k, ev, rfl, hkK, hp⟩
theorem DPost.good {d K : Nat} {R : Got (Nd × Nat × En)} {n : Nd} {v : Nv} {k : Nat} {en : En} {ev : Option Nat} (hR : R = .ok (n, k, en)) (hk : Kept (· = r) w w') (hn : NdAp w' (w.heap.size ≤ ·) v n) (hp : PkAt w' r la lc L d) (hkL : k ≤ L.length) (hel : en.length ≤ k) (he : EnAt w' (.map ev) en) : DPost r la lc L d K R w (.returned (.tuple #[aggN v, .int .i64 (k : Int), .map ev])) w' := by
  subst hR
  exact ⟨hk, v, ev, rfl, hn, hp, hkL, hel, he⟩
theorem starF_at (g i : Nat) (h : wordT L i ≠ [42]) : starF L g i = i := by
  cases g with
  | zero => rfl
  | succ g => simp [starF, h]
/-- A name's text, and what follows it. -/
def dclN (L : List Tk) (X : Nat → Nat → Got (Nd × Nat)) (j : Nat) : Got (Nd × Nat) :=
  if wordT L (j + 1) = [91] then match X 1 (j + 2) with
    | .error x => .error x
    | .ok (x, k) => if wordT L k = [93] then .ok (.mk 4 (j : Int) [x], k + 1) else .error (2, k)
  else .ok (.mk 4 (j : Int) [], j + 1)
def withEn (en : En) : Got (Nd × Nat) → Got (Nd × Nat × En)
  | .error x => .error x
  | .ok (n, k) => .ok (n, k, en)
theorem dclJ_is (X : Nat → Nat → Got (Nd × Nat)) (e : En) (j : Nat) (typ : Bool) (h : nameT L j = true) : dclJ L X e j typ = withEn ((txtT L j, typ) :: e) (dclN L X j) := by
  unfold dclJ dclN
  rw [if_neg (by rw [h]; simp)]
  split
  · cases X 1 (j + 2) with
    | error x => rfl
    | ok y =>
      obtain ⟨x, k⟩ := y
      dsimp only
      split <;> rfl
  · rfl
/-- One more kid, which was read; the world behind its append. -/
theorem grow_next {base : Nat} {S : Nat → Prop} {B c Z : Nat} {kd tk : Int} {w wq w9 W w7 : World} {nvs : List Nv} {a : Option Addr} {v9 : Nv} {v' : Value} (hw : w.heap.size = base) (hrw : r < base) (hU : ∀ b off, la = some ⟨b, off, none⟩ → L ≠ [] → b < base) (hS : ∀ b, S b → base ≤ b ∧ b < wq.heap.size) (hSB : S B)
    (hG : GrowAt base S B kd tk nvs a c wq) (hk9 : Kept (· = r) wq w9) (hb : Below w9.heap.size w9 W)
    (hown : w7.ownsRow base 26 3 v' (nvs.length + 1) (cellsN nvs ++ cellsN [v9])) (hg : W.grownBy w7 (Value.slice a nvs.length c).ownBlock) (hob : v'.ownBlock = (Value.slice a nvs.length c).ownBlock ∨ v'.ownBlock = some Z) (hZ : Z = W.heap.size) :
    ∃ a1 c1, v' = .slice a1 (nvs ++ [v9]).length c1 ∧ w7.heap[B]? = some (boxN ⟨kd, tk, a, nvs.length, c⟩) ∧ GrowAt base S B kd tk (nvs ++ [v9]) a1 c1 (w7.setCell ⟨B, 2, none⟩ v') ∧
      (∀ ks, NdsIs wq (kidP base S a nvs.length c) nvs ks → NdsIs (w7.setCell ⟨B, 2, none⟩ v') (kidP base S a1 (nvs ++ [v9]).length c1) nvs ks) ∧
      (∀ n, NdIs w9 (wq.heap.size ≤ ·) v9 n → NdIs (w7.setCell ⟨B, 2, none⟩ v') (kidP base S a1 (nvs ++ [v9]).length c1) v9 n) ∧
      (Kept (· = r) w wq → Kept (· = r) w (w7.setCell ⟨B, 2, none⟩ v')) ∧ (∀ b, S b → b ≠ B → (w7.setCell ⟨B, 2, none⟩ v').heap[b]? = wq.heap[b]?) ∧
      (∀ {e f aa dd : Int}, PxAt w9 r la lc L e f aa dd → PxAt (w7.setCell ⟨B, 2, none⟩ v') r la lc L e f aa dd) ∧ (∀ v e, EnAt w9 v e → EnAt (w7.setCell ⟨B, 2, none⟩ v') v e) := by
  subst hZ hw
  have hz9 := hk9.size
  have hbz := hb.size
  have hBl := lt_of_block hG.box
  have hSW : ∀ b, S b → b < W.heap.size := fun b hs => by have := hS b hs; omega
  have hGW : GrowAt w.heap.size S B kd tk nvs a c W := (hG.kept hk9 (by have := hS B hSB; omega) (fun b hb => by omega)).below hb
  have e1 : (nvs ++ [v9]).length = nvs.length + 1 := by simp
  rw [← cellsN_append, ← e1] at hown
  obtain ⟨a1, c1, rfl, h1, h2, h3, h4, h5⟩ := hGW.more hSB hSW hown hg hob
  have hlow : ∀ b, b < w.heap.size → (w7.setCell ⟨B, 2, none⟩ (.slice a1 (nvs ++ [v9]).length c1)).heap[b]? = W.heap[b]? := fun b hlt => h3 b (by have := (hS B hSB).1; omega) (fun e => by have := (own_at hG.row e).1; omega) (by have := (hS B hSB).1; omega)
  have hzz : W.heap.size ≤ (w7.setCell ⟨B, 2, none⟩ (.slice a1 (nvs ++ [v9]).length c1)).heap.size := by rw [World.size_setCell]; exact hg.size
  refine ⟨a1, c1, rfl, h1, h2, fun ks hn => h4 ((hn.kept fun b hb2 hlt => hk9.block b hlt (by have := hb2.1; omega)).kept fun b _ hlt => hb.block b hlt), fun n hn => ?_, fun hk => h5 ((hk.trans hk9).trans (kept_below hb)) (Nat.le_refl _) (hS B hSB).1, fun b hs hbB => ?_, fun {e f aa dd} h => (h.below hb).low hlow hrw hU hzz, fun v e he => ?_⟩
  · have q : NdsIs W (kidP w.heap.size S a nvs.length c) [v9] [n] := by
      refine NdsIs.one ((hn.kept (w' := W) fun b _ hlt => hb.block b hlt).mono fun b hb2 _ => ⟨by have := (hS B hSB).1; omega, fun hs => by have := hS b hs; omega, fun e => ?_⟩)
      have := (own_at hG.row e).2
      omega
    exact (h4 q).2 0 v9 n rfl rfl
  · have hb0 := hS b hs
    exact (h3 b (by omega) (hG.ne b hs) hbB).trans ((hb.block b (by omega)).trans (hk9.block b hb0.2 (by omega)))
  · obtain ⟨b, D, rfl, q1, q2⟩ := he.below hb
    refine ⟨b, D, rfl, emap_same q1 (h3 b q1.lt (fun e => ?_) (fun e => ?_)), q2⟩
    · rcases hGW.row.2 with ⟨e2, _⟩ | ⟨g, cap, cur, e2, _, hh, _⟩
      · rw [e2] at e; cases e
      · rw [e2] at e
        have : g = b := by simpa [Value.ownBlock] using e
        subst this
        obtain ⟨es, cl, hm, _⟩ := q1
        rw [hh] at hm
        cases hm
    · subst e
      obtain ⟨es, cl, hm, _⟩ := q1
      rw [hGW.box] at hm
      cases hm
/-- Names stay where a node's block is written. -/
theorem EnAt.put {w : World} {v : Value} {e : En} (h : EnAt w v e) {B : Nat} {u : Nv} (hB : w.heap[B]? = some (boxN u)) (x : Nv) : EnAt (putN w B x) v e := by
  obtain ⟨b, D, rfl, h1, h2⟩ := h
  refine ⟨b, D, rfl, emap_same h1 (putN_other _ _ _ _ fun e => ?_), h2⟩
  subst e
  obtain ⟨es, cl, hm, _⟩ := h1
  rw [hB] at hm
  cases hm
theorem EnAt.map {w : World} {v : Value} {e : En} (h : EnAt w v e) : ∃ b, v = .map (some b) := by
  obtain ⟨b, D, rfl, _⟩ := h
  exact ⟨b, rfl⟩
/-- A node without kids yet. -/
theorem grow_nil {base : Nat} {S : Nat → Prop} {B : Nat} {kd tk : Int} {W : World} (h : W.heap[B]? = some (boxN ⟨kd, tk, none, 0, 0⟩)) : GrowAt base S B kd tk [] none 0 W :=
  ⟨h, World.ownsRow_nil _ _ _ _, fun b _ e => by cases e⟩
/-- A declarator's node so far. -/
def DcSt (r : Nat) (la : Option Addr) (lc : Nat) (L : List Tk) (d K : Nat) (Rn : Got (Nd × Nat)) (w : World) (B J k : Nat) (wx : World) : Prop :=
  Kept (· = r) w wx ∧ wx.heap[w.heap.size]? = some (boxN zeroN) ∧ ∃ x, wx.heap[B]? = some (boxN x) ∧
    ((∃ n, Rn = .ok (n, k) ∧ NdAp wx (fun b => B < b) x n ∧ PkAt wx r la lc L d ∧ k ≤ L.length ∧ J + 1 ≤ k) ∨ (∃ y, Rn = .error y ∧ PbAt wx r la lc L y ∧ k ≤ K))

set_option maxRecDepth 100000 in
set_option maxHeartbeats 4000000 in
theorem dcl_any (d m : Nat) (hd : d + m = 30) (hs : ∀ t ∈ L, t.text.size ≤ 3000) (en : En) (i : Nat) (typ : Bool) (ev : Option Nat) (w : World) (h : PkAt w r la lc L d) (hi : i ≤ L.length) (hel : en.length ≤ i) (hev : EnAt w (.map ev) en) :
    Calls Try.prog 34 #[.pointer (some ⟨r, 0, none⟩), .map ev, .int .i64 (i : Int), .bool typ] w (DPost r la lc L d (kbX L m + 2) (dclR L (fun l i => exR L m 0 l i) en i typ) w) := by
  have hrw := h.lt
  have HUn := hid h.under
  have hfew := h.few
  have hbox := h.box
  have HXk := hid (fun l' i' W (hW : PkAt W r la lc L d) (h1 : i' ≤ L.length) (h2 : 1 ≤ l') (h3 : l' ≤ 13) => (ex_all_r r la lc L m (by omega)).1 d l' i' ev W (by omega) hW h1 h2 h3)
  have HAdv := hid (exR_adv L m).1
  have hkl : kbX L m ≤ 100000 := by unfold kbX; omega
  have hkL : L.length + 10 ≤ kbX L m := by unfold kbX; omega
  have hB1 := below_new w (boxN zeroN)
  have HP1 := hid (h.below hB1)
  have HK1 := hid (kept_below (X := (· = r)) hB1)
  have HH1 := hid (heap_alloc_new w (boxN zeroN))
  have HEn : Hid (∀ W, Kept (· = r) w W → EnAt W (.map ev) en) := fun W hW => hev.kept hbox hW
  have hs1 : (w.alloc (boxN zeroN)).heap.size = w.heap.size + 1 := by simp
  unfold dclR
  generalize hJ : starF L (L.length + 1) i = J
  have HJ := hid hJ
  clear h hB1 hbox hev hJ
  go_enter Try.func34, Try.ntmps34
  go_wp2_with fail
  change Code.wp _ _ _ _ (w.alloc (boxN zeroN))
  have hw1 : w.heap.size < (w.alloc (boxN zeroN)).heap.size := by omega
  have HS1 := hid hs1
  generalize w.alloc (boxN zeroN) = w1 at HP1 HK1 HH1 hw1 HS1 ⊢
  clear hs1
  go_loopg [2] (L.length + 1) (fun g x wr => ∃ k : Nat, x = .int .i64 (k : Int) ∧ Hid (starF L g k = J) ∧ k ≤ L.length ∧ L.length + 1 ≤ g + k ∧ i ≤ k ∧ w1 = wr)
  case atStart => exact ⟨i, rfl, HJ.out, hi, by omega, Nat.le_refl _, rfl⟩
  case round =>
    obtain ⟨k, rfl, HF, hkL2, hfu, hik, rfl⟩ := hrel
    obtain ⟨g, rfl⟩ : ∃ g, gk = g + 1 := ⟨gk - 1, by omega⟩
    have HW := hid (pword_any w1 HP1.out k)
    have hw42 := wrd_lit L k [42]
    by_cases h42 : wordT L k = [42]
    · rw [decide_eq_true h42] at hw42
      have hkl2 := wrd_lt h42 (by simp)
      have HF2 : Hid (starF L g (k + 1) = J) := by show _ = _; rw [← HF.out]; simp [starF, h42]
      generalize wrdB L k = wb at HW hw42
      clear h42
      go_wp2_with fail
      refine HW.out.mono ?_
      rintro e3 w3 ⟨rfl, rfl⟩
      go_wp2_with fail
      go_roundg g
      case measure => omega
      case rel => exact ⟨k + 1, by go_num, HF2.out, by omega, by omega, by omega, rfl⟩
    · rw [decide_eq_false h42] at hw42
      obtain rfl : k = J := by rw [← HF.out]; exact (starF_at _ _ h42).symm
      generalize wrdB L k = wb at HW hw42
      clear h42 HF hfu HJ
      have hb2 := below_new w1 (boxN ⟨4, k, none, 0, 0⟩)
      have HP2 := hid (HP1.out.below hb2)
      have HK2 := hid (HK1.out.trans (kept_below hb2))
      have HH2 := hid ((hb2.block _ hw1).trans HH1.out)
      have HB2 := hid (heap_alloc_new w1 (boxN ⟨4, k, none, 0, 0⟩))
      clear hb2 HP1 HK1 HH1
      by_cases hnm : nameT L k = true
      · have HN := hid (pnamed_hit _ HP2.out k hnm)
        have HR := hid (dclJ_is (L := L) (fun l i => exR L m 0 l i) en k typ hnm)
        have hkl1 := nam_lt hnm
        clear hnm
        go_wp2_with fail
        refine HW.out.mono ?_
        rintro e3 w3 ⟨rfl, rfl⟩
        go_wp2_with fail
        refine HN.out.mono ?_
        rintro e3 w4 ⟨rfl, hb4⟩
        have HH4 := hid ((hb4.block _ (by simp; omega)).trans HH2.out)
        have HB4 := hid ((hb4.block _ (by simp)).trans HB2.out)
        have HK4 := hid (HK2.out.trans (kept_below hb4))
        have hp4 := HP2.out.below hb4
        have HP4 := hid hp4
        have HO := hid (pok_any w4 hp4)
        have HW2 := hid (pword_any w4 hp4 (k + 1))
        have hw91 := wrd_lit L (k + 1) [91]
        generalize hb91 : decide (wordT L (k + 1) = [91]) = b91 at hw91
        have HB91 := hid hb91
        clear hb91
        obtain ⟨⟨b0, b1, b2, b3, b4⟩, _⟩ := hp4.facts
        obtain ⟨tb, toff, hla, htb, htne, htc⟩ := hp4.at k hkl1
        have c1 := htc 1 _ rfl
        have hrl4 := hp4.lt
        have HTx : Hid (txtT L k = L[k].text.data.toList) := by show _ = _; unfold txtT; rw [List.getElem?_eq_getElem hkl1]
        have hts : L[k].text.size ≤ 3000 := hs _ (List.getElem_mem hkl1)
        generalize L[k].text = tx at c1 HTx hts
        generalize w3.heap.size = B at HB4 hw1 HS1 ⊢
        have hBl := lt_of_block HB4.out
        have hHl := lt_of_block HH4.out
        have hwk : IntKind.i64.wrap ((k : Int) + 1) = ((k + 1 : Nat) : Int) := by rw [IntKind.wrap_i64]; omega
        have hwk2 : IntKind.i64.wrap ((k : Int) + 1 + 1) = ((k + 2 : Nat) : Int) := by rw [IntKind.wrap_i64]; omega
        have hk0 : (0 : Int) ≤ (k : Int) := by omega
        have hkI : (k : Int) < (L.length : Int) := by omega
        subst hla
        clear hb4 hp4 b1 b2 b3 b4 htc HN HW HP2 HK2 HH2 HB2
        go_upto_if 45 with (first
          | (go_at_call 16; refine HO.out.mono ?_; rintro e3 w5 ⟨rfl, rfl⟩)
          | (go_at_call 31; refine HW2.out.mono ?_; rintro e3 w6 ⟨rfl, rfl⟩))
        clear c1 HO HW2
        go_cut [2] (fun xk wx => ∃ k' : Nat, xk = .int .i64 (k' : Int) ∧ Hid (DcSt r (some ⟨tb, toff, none⟩) lc L d (kbX L m + 2) (dclN L (fun l i => exR L m 0 l i) k) w B k k' wx))
        case first =>
          by_cases h91 : wordT L (k + 1) = [91]
          · obtain rfl : b91 = true := by rw [← HB91.out]; exact decide_eq_true h91
            have hk1l := wrd_lt h91 (by simp)
            have hx1 := HXk.out 1 (k + 2) w6 HP4.out (by omega) (Nat.le_refl _) (by decide)
            rw [show (((1 : Nat) : Int) - 1) = 0 from rfl] at hx1
            have HX1 := hid hx1
            have HAd := hid (fun b k' (h : exR L m 0 1 (k + 2) = .ok (b, k')) => HAdv.out 1 (k + 2) b k' (Nat.le_refl _) h)
            have HDn : Hid (dclN L (fun l i => exR L m 0 l i) k = match exR L m 0 1 (k + 2) with
              | .error x => .error x
              | .ok (x, k') => if wordT L k' = [93] then .ok (.mk 4 (k : Int) [x], k' + 1) else .error (2, k')) := by show _ = _; unfold dclN; rw [if_pos h91]
            have HG6 := hid (grow_nil (base := w.heap.size) (S := fun b => b = w.heap.size ∨ b = B) HB4.out)
            obtain ⟨i0, hi0, hz0, hzz1, hzz2⟩ := info_parts info_node
            clear hx1 h91
            go_wp2_with fail
            refine HX1.out.mono ?_
            rintro e9 w9 hq9
            obtain ⟨v9, k9, rfl, hk9, hc9⟩ := hq9.any
            have hz9 := hk9.size
            have hb1 := below_new w9 (boxN v9)
            have hs1 : (w9.alloc (boxN v9)).heap.size = w9.heap.size + 1 := by simp
            have hb2 := below_new (w9.alloc (boxN v9)) (.cells (cellsN [v9]).toArray 26)
            have hb : Below w9.heap.size w9 ((w9.alloc (boxN v9)).alloc (.cells (cellsN [v9]).toArray 26)) := hb1.trans (hb2.mono hb1.size)
            have HBb := hid hb
            have hG9 := HG6.out.kept hk9 (by omega) (fun b hb => by omega)
            have HRow := hid (hG9.below hb).row
            have hsrc := row_cells (new_row (w9.alloc (boxN v9)) [v9] (by simp))
            rw [hs1] at hsrc
            have HSrc := hid hsrc
            obtain ⟨⟨y0, y1, y2⟩, y3, y4, y5⟩ := boxN_facts hG9.box
            have hB9l := lt_of_block hG9.box
            have HC9 := hid hc9
            have HK9 := hid hk9
            have hwb : w.heap.size ≤ ((w9.alloc (boxN v9)).alloc (.cells (cellsN [v9]).toArray 26)).heap.size := by have := hb.size; omega
            clear hk9 hc9 hq9 hb1 hb2 hb hG9 hsrc hs1
            unfold aggN
            go_wp2_with (at_builtin; refine wpList_append_own_at _ rfl _ _ 24 rfl w.heap.size 26 i0 _ 3 40 Try.underlying24 hi0 hz0 hzz1 hzz2 rfl (by decide) _ _ _ rfl HRow.out ⟨w9.heap.size + 1, 0, none⟩ 1 1 (cellsN [v9]) rfl (cellsN_length _) HSrc.out (cellsN_one_cell _) (by unfold maxLen; simp) (by simp) hwb ?_)
            intro v' w7 hown7 hg7 _ hob7
            obtain ⟨a1, c1, hv7, hB7, hG8, hN8, hV8, hK8, hS8, hP8, hE8⟩ := grow_next (r := r) (la := some ⟨tb, toff, none⟩) (lc := lc) (L := L) (v9 := v9) rfl hrw HUn.out (fun b hs => by rcases hs with rfl | rfl <;> omega) (.inr rfl) HG6.out HK9.out HBb.out hown7 hg7 hob7 (by simp)
            rw [show (([] : List Nv) ++ [v9]).length = 1 from rfl] at hv7 hN8 hV8
            subst hv7
            obtain ⟨⟨u0, u1, u2⟩, u3, u4, u5⟩ := boxN_facts hB7
            have hB7l := lt_of_block hB7
            have HKd := hid (hK8 HK4.out)
            have HHd := hid ((hS8 _ (.inl rfl) (by omega)).trans HH4.out)
            have HGd := hid hG8
            have HVd := hid hV8
            have HPd : Hid (∀ {e f aa dd : Int}, PxAt w9 r (some ⟨tb, toff, none⟩) lc L e f aa dd → PxAt (w7.setCell ⟨B, 2, none⟩ (.slice a1 1 c1)) r (some ⟨tb, toff, none⟩) lc L e f aa dd) := fun {e f aa dd} h => hP8 h
            clear hown7 hg7 hob7 hB7 y0 y1 y2 y3 y4 y5 HK9 HRow HSrc hK8 hS8 hG8 hV8 hN8 hP8 hE8
            go_upto_region 12 with fail
            change Code.wp _ _ _ _ (w7.setCell ⟨B, 2, none⟩ (.slice a1 1 c1))
            clear u0 u1 u2 u3 u4 u5
            generalize w7.setCell ⟨B, 2, none⟩ (.slice a1 1 c1) = w8 at HKd HHd HGd HVd HPd ⊢
            have HNd8 : Hid (∀ n, NdIs w9 (w6.heap.size ≤ ·) v9 n → NdAp w8 (fun b => B < b) ⟨4, k, a1, 1, c1⟩ (.mk 4 (k : Int) [n])) := fun n hn => HGd.out.ap (ks := [n]) (NdsIs.one (HVd.out n hn)) fun b h1 h2 => by have := HS1.out; omega
            have HBd := hid HGd.out.box
            rcases HC9.out with ⟨n, h1, h2, h3, h4⟩ | ⟨y, h1, h2, ⟨h3, d', h4⟩⟩
            · have hn8 := HNd8.out n h2
              have hp8 := HPd.out h3
              have had := HAd.out _ _ h1
              rw [h1] at HDn
              dsimp only at HDn
              clear h1 h2 h3
              by_cases h93 : wordT L k9 = [93]
              · rw [if_pos h93] at HDn
                have HNd := hid (need_hit w8 hp8 k9 (by omega) ⟨#[93]⟩ h93)
                have hkk := wrd_lt h93 (by simp)
                have HSt : Hid (DcSt r (some ⟨tb, toff, none⟩) lc L d (kbX L m + 2) (dclN L (fun l i => exR L m 0 l i) k) w B k (k9 + 1) w8) := ⟨HKd.out, HHd.out, _, HBd.out, .inl ⟨_, HDn.out, hn8, hp8, by omega, by omega⟩⟩
                clear hn8 hp8 h93
                go_wp2_with fail
                refine HNd.out.mono ?_
                rintro e7 wz ⟨rfl, rfl⟩
                go_wp2_with fail
                go_meet
                exact ⟨k9 + 1, rfl, HSt.out⟩
              · rw [if_neg h93] at HDn
                have HNd := hid (need_miss w8 hp8 k9 (by omega) ⟨#[93]⟩ h93)
                clear hn8 hp8 h93
                go_wp2_with fail
                refine HNd.out.mono ?_
                rintro e7 wz ⟨rfl, hpz, hkz⟩
                have HSt : Hid (DcSt r (some ⟨tb, toff, none⟩) lc L d (kbX L m + 2) (dclN L (fun l i => exR L m 0 l i) k) w B k (k9 + 1) wz) := ⟨HKd.out.trans hkz, (hkz.block _ (lt_of_block HHd.out) (by omega)).trans HHd.out, _, (hkz.block _ (lt_of_block HBd.out) (by omega)).trans HBd.out, .inr ⟨_, HDn.out, ⟨show (2 : Int) ≠ 0 by decide, _, hpz⟩, by omega⟩⟩
                clear hpz hkz
                go_wp2_with fail
                go_meet
                exact ⟨k9 + 1, rfl, HSt.out⟩
            · have hp8 := HPd.out h4
              rw [h1] at HDn
              dsimp only at HDn
              have HNd := hid (need_bad w8 hp8 h3 k9 (by omega) ⟨#[93]⟩)
              have HSt : Hid (DcSt r (some ⟨tb, toff, none⟩) lc L d (kbX L m + 2) (dclN L (fun l i => exR L m 0 l i) k) w B k (k9 + 1) w8) := ⟨HKd.out, HHd.out, _, HBd.out, .inr ⟨y, HDn.out, ⟨h3, d', hp8⟩, by omega⟩⟩
              clear h1 h3 h4 hp8
              go_wp2_with fail
              refine HNd.out.mono ?_
              rintro e7 wz ⟨rfl, rfl⟩
              go_wp2_with fail
              go_meet
              exact ⟨k9 + 1, rfl, HSt.out⟩
          · obtain rfl : b91 = false := by rw [← HB91.out]; exact decide_eq_false h91
            have HSt : Hid (DcSt r (some ⟨tb, toff, none⟩) lc L d (kbX L m + 2) (dclN L (fun l i => exR L m 0 l i) k) w B k (k + 1) w6) := ⟨HK4.out, HH4.out, _, HB4.out, .inl ⟨_, by unfold dclN; rw [if_neg h91], NdAp.leaf _ _, HP4.out, by omega, Nat.le_refl _⟩⟩
            go_wp2_with fail
            go_meet
            exact ⟨k + 1, by go_num, HSt.out⟩
        case rest =>
          obtain ⟨k', rfl, HSt⟩ := hcut
          obtain ⟨hKx, hHx, x, hBx, hcase⟩ := HSt.out
          have HWi := hid (fun W (hW : Below wc.heap.size wc W) => With_en (HEn.out W (hKx.trans (kept_below hW))) (by omega) tx (by unfold maxLen; omega) typ)
          obtain ⟨⟨a0, a1, a2⟩, _⟩ := boxN_facts hBx
          obtain ⟨⟨z0, z1, z2⟩, z3, z4, z5⟩ := boxN_facts hHx
          have hHlc := lt_of_block hHx
          have hBlc := lt_of_block hBx
          have HBk : Hid (∀ W, Below wc.heap.size wc W → W.cell? ⟨B, 0, none⟩ = some (.int .i64 x.kind) ∧ W.cell? ⟨B, 1, none⟩ = some (.int .i64 x.tok) ∧ W.cell? ⟨B, 2, none⟩ = some (.slice x.a x.n x.c)) := fun W hW => (boxN_facts ((hW.block _ hBlc).trans hBx)).1
          have hB := (Below.refl wc.heap.size wc).drew
          have hBH : B ≠ w.heap.size := by omega
          clear HSt HEn
          go_wp2_with fail
          go_region_held3 (fun W => W.cell? ⟨B, 0, none⟩ = some (.int .i64 x.kind) ∧ W.cell? ⟨B, 1, none⟩ = some (.int .i64 x.tok) ∧ W.cell? ⟨B, 2, none⟩ = some (.slice x.a x.n x.c))
            (first | exact HBk.out _ hB | exact (boxN_facts ((putN_other _ w.heap.size x B hBH).trans ((hB.block _ hBlc).trans hBx))).1)
            ((go_at_call 58; refine (HWi.out _ hB).mono ?_; rintro ez wz ⟨vz, rfl, henz, hbz⟩; have hB := hB.trans (hbz.mono hB.size); have hHz := (hB.block _ hHlc).trans hHx; obtain ⟨⟨q0, q1, q2⟩, q3, q4, q5⟩ := boxN_facts hHz; have hHzl := lt_of_block hHz))
          obtain ⟨mb, rfl⟩ := henz.map
          have HKe := hid (putN_kept (hKx.trans (kept_below hB)) (Nat.le_refl _) x)
          have HEe := hid (henz.put hHz x)
          have HHz := hid hHz
          have HC : Hid (DPost r (some ⟨tb, toff, none⟩) lc L d (kbX L m + 2) (dclJ L (fun l i => exR L m 0 l i) en k typ) w (.returned (.tuple #[aggN x, .int .i64 (k' : Int), .map (some mb)])) (putN wz w.heap.size x)) := by
            show DPost _ _ _ _ _ _ _ _ _ _
            rw [HR.out]
            rcases hcase with ⟨n, h1, h2, h3, h4, h5⟩ | ⟨y, h1, ⟨h2, d', h3⟩, h4⟩
            · refine DPost.good (en := (tx.data.toList, typ) :: en) (by rw [h1, ← HTx.out]; rfl) HKe.out ?_ (px_put (w' := w) (h3.below hB) (Nat.le_refl _) hrw HUn.out x) h4 (by simp; omega) HEe.out
              exact ((h2.kept (w' := wz) fun b _ hlt => hB.block b hlt).kept (w' := putN wz w.heap.size x) fun b hb _ => putN_other _ _ _ _ (by omega)).mono fun b hb _ => by omega
            · exact DPost.bad (by rw [h1]; rfl) HKe.out h4 ⟨h2, d', px_put (w' := w) (h3.below hB) (Nat.le_refl _) hrw HUn.out x⟩
          clear hcase hHz henz q0 q1 q2 q3 q4 q5
          go_wp2_with fail
          exact bodyPost_ret (nret3 Try.results34 (putN_block x HHz.out) _ rfl rfl rfl) rfl HC.out
      · have hnm2 : nameT L k = false := by simpa using hnm
        have HN := hid (pnamed_miss _ HP2.out k hnm2)
        have HR : Hid (dclJ L (fun l i => exR L m 0 l i) en k typ = .error (2, k)) := by show _ = _; unfold dclJ; rw [if_pos hnm2]
        have hBl1 : w1.heap.size < (w1.alloc (boxN ⟨4, k, none, 0, 0⟩)).heap.size := by simp
        clear hnm hnm2
        go_wp2_with fail
        refine HW.out.mono ?_
        rintro e3 w3 ⟨rfl, rfl⟩
        go_wp2_with fail
        refine HN.out.mono ?_
        rintro e3 w4 ⟨rfl, hp4, hk4⟩
        have HH4 := hid ((hk4.block _ (by omega) (by omega)).trans HH2.out)
        have HB4 := hid ((hk4.block _ hBl1 (by omega)).trans HB2.out)
        have HK4 := hid (HK2.out.trans hk4)
        have HP4 := hid hp4
        have HO := hid (pok_any w4 hp4)
        rw [show ((2 : Int) == 0) = false from rfl] at HO
        clear hp4 hk4 HN HW
        go_wp2_with fail
        refine HO.out.mono ?_
        rintro e3 w5 ⟨rfl, rfl⟩
        obtain ⟨⟨a0, a1, a2⟩, _⟩ := boxN_facts HB4.out
        obtain ⟨⟨z0, z1, z2⟩, z3, z4, z5⟩ := boxN_facts HH4.out
        have hHl := lt_of_block HH4.out
        have hBl := lt_of_block HB4.out
        have HKe := hid (putN_kept HK4.out (Nat.le_refl _) ⟨4, k, none, 0, 0⟩)
        have HPe := hid (px_put (w' := w) HP4.out (Nat.le_refl _) hrw HUn.out ⟨4, k, none, 0, 0⟩)
        go_wp2_with fail
        exact bodyPost_ret (nret3 Try.results34 (putN_block ⟨4, k, none, 0, 0⟩ HH4.out) _ rfl rfl rfl) rfl (DPost.bad HR.out HKe.out (by omega) ⟨show (2 : Int) ≠ 0 by decide, _, HPe.out⟩)
end
end
section
open Go.RowKit Go.Shelf
section
variable {r : Nat} {la : Option Addr} {lc : Nat} {L : List Tk} {w w' : World}
set_option maxRecDepth 100000 in
set_option maxHeartbeats 1000000 in
theorem pnamed_bad {y : Int × Nat} (w : World) (h : PbAt w r la lc L y) (i : Nat) :
    Calls Try.prog 56 #[.pointer (some ⟨r, 0, none⟩), .int .i64 (i : Int)] w fun x w' => x = .returned (.tuple #[]) ∧ Below w.heap.size w w' := by
  obtain ⟨hy, d0, h⟩ := h
  cases hn : nameT L i with
  | true => exact pnamed_hit w h i hn
  | false =>
    obtain ⟨⟨b0, b1, b2, b3, b4⟩, _⟩ := h.facts
    have hR := h.lt
    have HS := hid (fun W (hb : Below w.heap.size w W) => pstop_bad W (h.below hb) hy i 2)
    clear b1 b2 b3 b4
    by_cases hi : i < L.length
    · obtain ⟨b, off, rfl, hb, hne, hc⟩ := h.at i hi
      have c0 := hc 0 _ rfl
      have c1 := hc 1 _ rfl
      simp only [Nat.add_zero] at c0
      unfold nameT at hn
      rw [List.getElem?_eq_getElem hi] at hn
      dsimp only at hn
      have HK := hid (fun W => RKey_any L[i].text W)
      generalize L[i].text = tx at c1 HK hn
      generalize L[i].kind = kk at c0 hn
      have hi2 : ¬ (L.length : Int) ≤ (i : Int) := by omega
      have hi3 : decide ((L.length : Int) ≤ (i : Int)) = false := by simp; omega
      have hi4 : (i : Int) < (L.length : Int) := by omega
      have hi0 : (0 : Int) ≤ (i : Int) := by omega
      clear h hc
      by_cases hk : kk = 1
      · subst hk
        have hk2 : keyW tx.data.toList = true := by simpa using hn
        rw [hk2] at HK
        clear hn hk2
        go_enter Try.func56, Try.ntmps56
        go_wp2_with fail
        refine (HK.out _).mono ?_
        rintro e1 w1 ⟨rfl, hb1⟩
        go_wp2_with fail
        refine (HS.out _ hb1).mono ?_
        rintro e1 w2 ⟨rfl, rfl⟩
        go_wp2_with fail
        go_end0
        exact ⟨rfl, hb1⟩
      · have hkb : (kk != 1) = true := by simpa using hk
        have hkb2 : (kk == 1) = false := by simpa using hk
        clear hn hk
        go_enter Try.func56, Try.ntmps56
        go_wp2_with fail
        refine (HS.out _ (Below.refl _ _)).mono ?_
        rintro e1 w2 ⟨rfl, rfl⟩
        go_wp2_with fail
        go_end0
        exact ⟨rfl, Below.refl _ _⟩
    · have hi2 : (L.length : Int) ≤ (i : Int) := by omega
      have hi3 : decide ((L.length : Int) ≤ (i : Int)) = true := by simp; omega
      clear h hn
      go_enter Try.func56, Try.ntmps56
      go_wp2_with fail
      refine (HS.out _ (Below.refl _ _)).mono ?_
      rintro e1 w2 ⟨rfl, rfl⟩
      go_wp2_with fail
      go_end0
      exact ⟨rfl, Below.refl _ _⟩

set_option maxRecDepth 100000 in
set_option maxHeartbeats 4000000 in
theorem dcl_bad {y : Int × Nat} (w : World) (h : PbAt w r la lc L y) (i : Nat) (hi : i ≤ 200000) (typ : Bool) (ev : Option Nat) :
    Calls Try.prog 34 #[.pointer (some ⟨r, 0, none⟩), .map ev, .int .i64 (i : Int), .bool typ] w fun x w' => ∃ (v : Nv) (k : Nat), x = .returned (.tuple #[aggN v, .int .i64 (k : Int), .map ev]) ∧ (k ≤ i ∨ k ≤ L.length) ∧ v.a = none ∧ v.n = 0 ∧ v.c = 0 ∧ Below w.heap.size w w' := by
  have hy := h.1
  obtain ⟨_, d0, h0⟩ := h
  have hrw := h0.lt
  have hfew := h0.few
  have hB1 := below_new w (boxN zeroN)
  have HP1 := hid (h0.below hB1)
  have HB1 := hid hB1
  have HH1 := hid (heap_alloc_new w (boxN zeroN))
  clear h0 hB1
  go_enter Try.func34, Try.ntmps34
  go_wp2_with fail
  change Code.wp _ _ _ _ (w.alloc (boxN zeroN))
  have hw1 : w.heap.size < (w.alloc (boxN zeroN)).heap.size := by simp
  generalize w.alloc (boxN zeroN) = w1 at HP1 HB1 HH1 hw1 ⊢
  go_loopw [2] (fun x wr => ∃ k : Nat, x = .int .i64 (k : Int) ∧ (k ≤ i ∨ k ≤ L.length) ∧ w1 = wr) (fun x _ => L.length - (intOf x).toNat)
  case atStart => exact ⟨i, rfl, .inl (Nat.le_refl _), rfl⟩
  case round =>
    obtain ⟨k, rfl, hkk, rfl⟩ := hrel
    have HW := hid (pword_any w1 HP1.out k)
    have hw42 := wrd_lit L k [42]
    have hk16 : k ≤ 200000 := by omega
    by_cases h42 : wordT L k = [42]
    · rw [decide_eq_true h42] at hw42
      have hkl2 := wrd_lt h42 (by simp)
      generalize wrdB L k = wb at HW hw42
      clear h42
      go_wp2_with fail
      refine HW.out.mono ?_
      rintro e3 w3 ⟨rfl, rfl⟩
      go_wp2_with fail
      exact ⟨⟨k + 1, by go_num, .inr (by omega), trivial⟩, by simp [intOf]; omega⟩
    · rw [decide_eq_false h42] at hw42
      generalize wrdB L k = wb at HW hw42
      clear h42
      have hb2 := below_new w1 (boxN ⟨4, k, none, 0, 0⟩)
      have hp2 := HP1.out.below hb2
      have HN := hid (pnamed_bad _ (⟨hy, _, hp2⟩ : PbAt _ r la lc L y) k)
      have HP2 := hid hp2
      have HB2 := hid (HB1.out.trans (hb2.mono HB1.out.size))
      have HH2 := hid ((hb2.block _ hw1).trans HH1.out)
      have HBn := hid (heap_alloc_new w1 (boxN ⟨4, k, none, 0, 0⟩))
      have he0 : (y.1 == 0) = false := by simpa using hy
      clear hb2 hp2 HP1 HB1 HH1
      go_wp2_with fail
      refine HW.out.mono ?_
      rintro e3 w3 ⟨rfl, rfl⟩
      go_wp2_with fail
      refine HN.out.mono ?_
      rintro e3 w4 ⟨rfl, hb4⟩
      have HB4 := hid (HB2.out.trans (hb4.mono HB2.out.size))
      have HH4 := hid ((hb4.block _ (lt_of_block HH2.out)).trans HH2.out)
      have HBn4 := hid ((hb4.block _ (lt_of_block HBn.out)).trans HBn.out)
      have HO := hid (pok_any w4 (HP2.out.below hb4))
      rw [he0] at HO
      clear hb4 HN HW HP2 HB2 HH2 HBn
      go_wp2_with fail
      refine HO.out.mono ?_
      rintro e3 w5 ⟨rfl, rfl⟩
      obtain ⟨⟨a0, a1, a2⟩, _⟩ := boxN_facts HBn4.out
      obtain ⟨⟨z0, z1, z2⟩, z3, z4, z5⟩ := boxN_facts HH4.out
      have hHl := lt_of_block HH4.out
      have hBl := lt_of_block HBn4.out
      have HBe : Hid (Below w.heap.size w (putN w5 w.heap.size ⟨4, k, none, 0, 0⟩)) := by
        show Below _ _ _
        unfold putN
        exact ((HB4.out.setCell (p := ⟨_, 0, none⟩) (Nat.le_refl _) _).setCell (p := ⟨_, 1, none⟩) (Nat.le_refl _) _).setCell (p := ⟨_, 2, none⟩) (Nat.le_refl _) _
      go_wp2_with fail
      exact bodyPost_ret (nret3 Try.results34 (putN_block ⟨4, k, none, 0, 0⟩ HH4.out) _ rfl rfl rfl) rfl ⟨⟨4, k, none, 0, 0⟩, k, rfl, hkk, rfl, rfl, rfl, HBe.out⟩
end
end
section
open Go.RowKit Go.Shelf
section
variable {r : Nat} {la : Option Addr} {lc : Nat} {L : List Tk} {w w' : World}
/-- One more in a row: all that is told of the world behind it. -/
theorem grow_more {S : Nat → Prop} {B c Z : Nat} {kd tk : Int} {wq w9 W w7 : World} {nvs : List Nv} {a : Option Addr} {v9 : Nv} {v' : Value} (hSr : S r) (hSt : ∀ b off, la = some ⟨b, off, none⟩ → L ≠ [] → S b) (hS : ∀ b, S b → b < wq.heap.size) (hSB : S B) (hrB : B ≠ r) (htB : ∀ b off, la = some ⟨b, off, none⟩ → L ≠ [] → b ≠ B)
    (hG : GrowAt 0 S B kd tk nvs a c wq) (hk9 : Kept (· = r) wq w9) (hb : Below w9.heap.size w9 W)
    (hown : w7.ownsRow 0 26 3 v' (nvs.length + 1) (cellsN nvs ++ cellsN [v9])) (hg : W.grownBy w7 (Value.slice a nvs.length c).ownBlock) (hob : v'.ownBlock = (Value.slice a nvs.length c).ownBlock ∨ v'.ownBlock = some Z) (hZ : Z = W.heap.size) :
    ∃ a1 c1, v' = .slice a1 (nvs ++ [v9]).length c1 ∧ w7.heap[B]? = some (boxN ⟨kd, tk, a, nvs.length, c⟩) ∧ GrowAt 0 S B kd tk (nvs ++ [v9]) a1 c1 (w7.setCell ⟨B, 2, none⟩ v') ∧
      (∀ b, b < wq.heap.size → b ≠ r → (Value.slice a nvs.length c).ownBlock ≠ some b → b ≠ B → (w7.setCell ⟨B, 2, none⟩ v').heap[b]? = wq.heap[b]?) ∧
      (∀ b, b < w9.heap.size → (Value.slice a nvs.length c).ownBlock ≠ some b → b ≠ B → (w7.setCell ⟨B, 2, none⟩ v').heap[b]? = w9.heap[b]?) ∧
      (∀ b, (Value.slice a1 (nvs ++ [v9]).length c1).ownBlock = some b → (Value.slice a nvs.length c).ownBlock = some b ∨ w9.heap.size ≤ b) ∧
      (∀ (X : Nat → Prop) (w : World), X r → Kept X w wq → (∀ b, (Value.slice a nvs.length c).ownBlock = some b → X b ∨ w.heap.size ≤ b) → w.heap.size ≤ B → Kept X w (w7.setCell ⟨B, 2, none⟩ v')) ∧
      w9.heap.size ≤ (w7.setCell ⟨B, 2, none⟩ v').heap.size ∧
      (∀ {e f aa dd : Int}, PxAt w9 r la lc L e f aa dd → PxAt (w7.setCell ⟨B, 2, none⟩ v') r la lc L e f aa dd) ∧ (∀ v e, EnAt w9 v e → EnAt (w7.setCell ⟨B, 2, none⟩ v') v e) := by
  subst hZ
  have hz9 := hk9.size
  have hbz := hb.size
  have hBl := lt_of_block hG.box
  have hSW : ∀ b, S b → b < W.heap.size := fun b hs => by have := hS b hs; omega
  have hG9 : GrowAt 0 S B kd tk nvs a c w9 := ⟨(hk9.block B hBl hrB).trans hG.box, row_same hG.row fun b hb hlt => hk9.block b hlt (fun e => hG.ne r hSr (by rw [← e]; exact hb)), hG.ne⟩
  have hGW := hG9.below hb
  have e1 : (nvs ++ [v9]).length = nvs.length + 1 := by simp
  rw [← cellsN_append, ← e1] at hown
  obtain ⟨a1, c1, rfl, h1, h2, h3, h4, h5⟩ := hGW.more hSB hSW hown hg hob
  have hzz : W.heap.size ≤ (w7.setCell ⟨B, 2, none⟩ (.slice a1 (nvs ++ [v9]).length c1)).heap.size := by rw [World.size_setCell]; exact hg.size
  have h9 : ∀ b, b < w9.heap.size → (Value.slice a nvs.length c).ownBlock ≠ some b → b ≠ B → (w7.setCell ⟨B, 2, none⟩ (.slice a1 (nvs ++ [v9]).length c1)).heap[b]? = w9.heap[b]? := fun b hlt hn hbB => (h3 b (by omega) hn hbB).trans (hb.block b hlt)
  refine ⟨a1, c1, rfl, h1, h2, fun b hlt hbr hn hbB => (h9 b (by omega) hn hbB).trans (hk9.block b hlt hbr), h9, fun b e => ?_, fun X w hXr hk hX hwB => ?_, by omega, fun {e f aa dd} h => ?_, fun v e he => ?_⟩
  · rcases hob with e' | e'
    · exact .inl (e' ▸ e)
    · rw [e'] at e
      injection e with e
      exact .inr (by omega)
  · have q : Kept X w W := (hk.trans ⟨hk9.os, hk9.tape, hk9.output, hk9.size, fun b hlt hx => hk9.block b hlt (fun e => hx (e ▸ hXr))⟩).trans (kept_below hb)
    refine Kept.setFar ⟨hg.os.trans q.os, hg.tape.trans q.tape, hg.output.trans q.output, Nat.le_trans q.size hg.size, fun b hlt hx => (hg.block b (Nat.lt_of_lt_of_le hlt q.size) (fun e => ?_)).trans (q.block b hlt hx)⟩ hwB _
    rcases hX b e.symm with h | h
    · exact hx h
    · omega
  · refine ⟨(h9 r h.lt (hG.ne r hSr) (fun e => hrB e.symm)).trans h.box, ?_, h.far, h.few⟩
    by_cases hL : L = []
    · exact .inl hL
    rcases h.toks with h0 | ⟨b, off, rfl, hlt, hc⟩
    · exact .inl h0
    · refine .inr ⟨b, off, rfl, by omega, fun j x hx k v hv => ?_⟩
      have e := h9 b hlt (hG.ne b (hSt b off rfl hL)) (htB b off rfl hL)
      have := hc j x hx k v hv
      unfold World.cell? at this ⊢
      simp only at this ⊢
      rw [e]
      exact this
  · obtain ⟨b, D, rfl, q1, q2⟩ := he.below hb
    refine ⟨b, D, rfl, emap_same q1 (h3 b q1.lt (fun e => ?_) (fun e => ?_)), q2⟩
    · rcases hGW.row.2 with ⟨e2, _⟩ | ⟨g, cap, cur, e2, _, hh, _⟩
      · rw [e2] at e; cases e
      · rw [e2] at e
        have : g = b := by simpa [Value.ownBlock] using e
        subst this
        obtain ⟨es, cl, hm, _⟩ := q1
        rw [hh] at hm
        cases hm
    · subst e
      obtain ⟨es, cl, hm, _⟩ := q1
      rw [hGW.box] at hm
      cases hm

/-- Where trees may lie. -/
def restT (w : World) (P : Nat → Prop) (z : Nat) : Nat → Prop := fun b => P b ∨ b = z ∨ w.heap.size ≤ b
/-- What Rest may change of what lay. -/
def restX (r z : Nat) (nv : Nv) : Nat → Prop := fun b => b = r ∨ b = z ∨ nv.kv.ownBlock = some b
/-- Blocks of Rest's own, the reader's, and where tokens lie. -/
def restS (r : Nat) (la : Option Addr) (L : List Tk) (D : Nat) : Nat → Prop := fun b => b = r ∨ (∃ off, la = some ⟨b, off, none⟩ ∧ L ≠ []) ∨ b = D ∨ b = D + 1 ∨ b = D + 1 + 1
/-- What Rest answers. -/
def RPost (r : Nat) (la : Option Addr) (lc : Nat) (L : List Tk) (X T : Nat → Prop) (d K : Nat) (R : Got (Nd × Nat × En)) (w : World) (x : Ending) (w' : World) : Prop := Kept X w w' ∧ match R with
  | .ok (n, k, en) => ∃ (v : Nv) (ev : Option Nat), x = .returned (.tuple #[aggN v, .int .i64 (k : Int), .map ev]) ∧ NdIs w' T v n ∧ PkAt w' r la lc L d ∧ k ≤ L.length ∧ en.length ≤ k ∧ EnAt w' (.map ev) en
  | .error y => ∃ (v : Nv) (k : Nat) (ev : Option Nat), x = .returned (.tuple #[aggN v, .int .i64 (k : Int), .map ev]) ∧ k ≤ K ∧ PbAt w' r la lc L y
theorem RPost.bad {X T : Nat → Prop} {d K : Nat} {R : Got (Nd × Nat × En)} {y : Int × Nat} {v : Nv} {k : Nat} {ev : Option Nat} (hR : R = .error y) (hk : Kept X w w') (hkK : k ≤ K) (hp : PbAt w' r la lc L y) : RPost r la lc L X T d K R w (.returned (.tuple #[aggN v, .int .i64 (k : Int), .map ev])) w' := by
  subst hR
  exact ⟨hk, v, k, ev, rfl, hkK, hp⟩
theorem RPost.good {X T : Nat → Prop} {d K : Nat} {R : Got (Nd × Nat × En)} {n : Nd} {v : Nv} {k : Nat} {en : En} {ev : Option Nat} (hR : R = .ok (n, k, en)) (hk : Kept X w w') (hn : NdIs w' T v n) (hp : PkAt w' r la lc L d) (hkL : k ≤ L.length) (hel : en.length ≤ k) (he : EnAt w' (.map ev) en) : RPost r la lc L X T d K R w (.returned (.tuple #[aggN v, .int .i64 (k : Int), .map ev])) w' := by
  subst hR
  exact ⟨hk, v, ev, rfl, hn, hp, hkL, hel, he⟩
/-- Behind what `=` brings: the name's node. -/
def RmSt (r : Nat) (la : Option Addr) (lc : Nat) (L : List Tk) (d K : Nat) (Ri : Got (Nd × Nat)) (w : World) (P : Nat → Prop) (z : Nat) (nv : Nv) (D k : Nat) (ev : Option Nat) (ds : List Nd) (en : En) (k' : Nat) (wr : World) : Prop :=
  Kept (restX r z nv) w wr ∧ wr.heap[D + 1 + 1]? = some (boxN zeroN) ∧ ∃ dvs da dc x, GrowAt 0 (restS r la L D) D 2 (-1) dvs da dc wr ∧ wr.heap[D + 1]? = some (boxN x) ∧ (∀ b, (Value.slice da dvs.length dc).ownBlock = some b → restX r z nv b ∨ w.heap.size ≤ b) ∧ dvs.length ≤ 6500 ∧ (∀ b, (Value.slice da dvs.length dc).ownBlock = some b → restT w P z b) ∧
    ((∃ n, NdsIs wr (fun b => restT w P z b ∧ ¬ restS r la L D b ∧ (Value.slice da dvs.length dc).ownBlock ≠ some b) dvs ds ∧ NdIs wr (fun b => restT w P z b ∧ ¬ restS r la L D b ∧ (Value.slice da dvs.length dc).ownBlock ≠ some b) x n ∧ EnAt wr (.map ev) en ∧ PkAt wr r la lc L d ∧ Ri = .ok (n, k') ∧ k' ≤ L.length ∧ k ≤ k' ∧ dvs.length ≤ k') ∨
     (∃ y, Ri = .error y ∧ PbAt wr r la lc L y ∧ k' ≤ K))
/-- Ahead of a round: a declaration so far, and its next name; or what is wrong. -/
def RsSt (r : Nat) (la : Option Addr) (lc : Nat) (L : List Tk) (X : Nat → Nat → Got (Nd × Nat)) (d K : Nat) (typ : Bool) (Rr : Got (List Nd × Nat × En)) (w : World) (P : Nat → Prop) (z : Nat) (nv : Nv) (D g k : Nat) (ev : Option Nat) (wr : World) : Prop :=
  Kept (restX r z nv) w wr ∧ wr.heap[D + 1 + 1]? = some (boxN zeroN) ∧ ∃ dvs da dc x, GrowAt 0 (restS r la L D) D 2 (-1) dvs da dc wr ∧ wr.heap[D + 1]? = some (boxN x) ∧ (∀ b, (Value.slice da dvs.length dc).ownBlock = some b → restX r z nv b ∨ w.heap.size ≤ b) ∧ dvs.length ≤ 7000 ∧ (∀ b, (Value.slice da dvs.length dc).ownBlock = some b → restT w P z b) ∧
    ((∃ ds n en, NdsIs wr (fun b => restT w P z b ∧ ¬ restS r la L D b ∧ (Value.slice da dvs.length dc).ownBlock ≠ some b ∧ x.kv.ownBlock ≠ some b) dvs ds ∧ NdAp wr (fun b => restT w P z b ∧ ¬ restS r la L D b ∧ (Value.slice da dvs.length dc).ownBlock ≠ some b) x n ∧ (∀ b, x.kv.ownBlock = some b → restX r z nv b ∨ w.heap.size ≤ b) ∧ EnAt wr (.map ev) en ∧ PkAt wr r la lc L d ∧ restF L X typ g en k ds n = Rr ∧ k ≤ L.length ∧ L.length + 1 ≤ g + k ∧ en.length ≤ k ∧ dvs.length ≤ k ∧ n.kids.length ≤ 1) ∨
     (∃ y, Rr = .error y ∧ PbAt wr r la lc L y ∧ k ≤ K))
/-- Behind them all. -/
def RfSt (r : Nat) (la : Option Addr) (lc : Nat) (L : List Tk) (d K : Nat) (Rr : Got (List Nd × Nat × En)) (w : World) (P : Nat → Prop) (z : Nat) (nv : Nv) (D k : Nat) (ev : Option Nat) (wr : World) : Prop :=
  Kept (restX r z nv) w wr ∧ wr.heap[D + 1 + 1]? = some (boxN zeroN) ∧ ∃ x, wr.heap[D]? = some (boxN x) ∧
    ((∃ ds en, NdIs wr (fun b => restT w P z b ∧ ¬ restS r la L D b) x (.mk 2 (-1) ds) ∧ EnAt wr (.map ev) en ∧ PkAt wr r la lc L d ∧ k ≤ L.length ∧ en.length ≤ k ∧ Rr = if wordT L k = [59] then .ok (ds, k + 1, en) else .error (2, k)) ∨ (∃ y, Rr = .error y ∧ PbAt wr r la lc L y ∧ k ≤ K))

theorem starF_ge (g : Nat) : ∀ i, i ≤ starF L g i := by
  induction g with
  | zero => intro i; exact Nat.le_refl _
  | succ g ih =>
    intro i
    unfold starF
    split
    · have := ih (i + 1); omega
    · exact Nat.le_refl _
theorem dclR_facts {X : Nat → Nat → Got (Nd × Nat)} (hX : Adv L X) {e : En} {i : Nat} {typ : Bool} {n : Nd} {k : Nat} {e' : En} (h : dclR L X e i typ = .ok (n, k, e')) : n.kids.length ≤ 1 ∧ i < k := by
  unfold dclR at h
  have hj := starF_ge (L := L) (L.length + 1) i
  generalize starF L (L.length + 1) i = j at h hj
  unfold dclJ at h
  split at h
  · cases h
  · split at h
    · split at h
      · cases h
      · rename_i x k1 hx
        have := hX 1 _ _ _ (Nat.le_refl _) hx
        split at h
        · cases h; exact ⟨by simp [Nd.kids], by omega⟩
        · cases h
    · cases h; exact ⟨by simp [Nd.kids], by omega⟩
/-- A name's node, its row its own. -/
theorem rest_grow {w wr : World} {P : Nat → Prop} {z D : Nat} {x : Nv} {n : Nd} {row : Option Nat} (hN : wr.heap[D + 1]? = some (boxN x)) (hn : NdAp wr (fun b => restT w P z b ∧ ¬ restS r la L D b ∧ row ≠ some b) x n) : ∃ nvs, GrowAt 0 (restS r la L D) (D + 1) x.kind x.tok nvs x.a x.c wr ∧ x.n = nvs.length ∧ NdsIs wr (fun b => (restT w P z b ∧ ¬ restS r la L D b ∧ row ≠ some b) ∧ x.kv.ownBlock ≠ some b) nvs n.kids := by
  obtain ⟨nvs, h1, h2, h3, h4⟩ := hn.kids
  obtain ⟨xk, xt, xa, xn, xc⟩ := x
  dsimp only at h1
  subst h1
  exact ⟨nvs, ⟨hN, h2, fun b hs e => (h3 b e).2.1 hs⟩, rfl, h4⟩
/-- What `=` brings is behind a name's other kids. -/
theorem rest_init {d K D k k9 : Nat} {Ri : Got (Nd × Nat)} {w w4 w9 W w7 : World} {P : Nat → Prop} {z : Nat} {nv x v9 : Nv} {n : Nd} {ds : List Nd} {en : En} {e' : Option Nat} {dvs nvs : List Nv} {da : Option Addr} {dc Z : Nat} {v' : Value} (hD : D = w.heap.size) (hS : ∀ b, restS r la L D b → b < w4.heap.size) (hrw : r < D) (hU : ∀ b off, la = some ⟨b, off, none⟩ → L ≠ [] → b < D)
    (hK : Kept (restX r z nv) w w4) (hH : w4.heap[D + 1 + 1]? = some (boxN zeroN)) (hG : GrowAt 0 (restS r la L D) D 2 (-1) dvs da dc w4) (hrd : ∀ b, (Value.slice da dvs.length dc).ownBlock = some b → restX r z nv b ∨ w.heap.size ≤ b) (hdl : dvs.length ≤ 6500) (hrt : ∀ b, (Value.slice da dvs.length dc).ownBlock = some b → restT w P z b)
    (hdn : NdsIs w4 (fun b => restT w P z b ∧ ¬ restS r la L D b ∧ (Value.slice da dvs.length dc).ownBlock ≠ some b ∧ x.kv.ownBlock ≠ some b) dvs ds) (hnn : NdAp w4 (fun b => restT w P z b ∧ ¬ restS r la L D b ∧ (Value.slice da dvs.length dc).ownBlock ≠ some b) x n) (hrn : ∀ b, x.kv.ownBlock = some b → restX r z nv b ∨ w.heap.size ≤ b) (hen : EnAt w4 (.map e') en)
    (hGN : GrowAt 0 (restS r la L D) (D + 1) x.kind x.tok nvs x.a x.c w4) (hxn : x.n = nvs.length) (hnk : NdsIs w4 (fun b => (restT w P z b ∧ ¬ restS r la L D b ∧ (Value.slice da dvs.length dc).ownBlock ≠ some b) ∧ x.kv.ownBlock ≠ some b) nvs n.kids)
    (hbox : ∃ c t fz, w4.heap[r]? = some (.cells c t fz)) (hk9 : Kept (· = r) w4 w9) (hb : Below w9.heap.size w9 W)
    (hown : w7.ownsRow 0 26 3 v' (nvs.length + 1) (cellsN nvs ++ cellsN [v9])) (hg : W.grownBy w7 (Value.slice x.a nvs.length x.c).ownBlock) (hob : v'.ownBlock = (Value.slice x.a nvs.length x.c).ownBlock ∨ v'.ownBlock = some Z) (hZ : Z = W.heap.size)
    (hc : (∃ b, Ri = .ok (.mk n.kind n.tok (n.kids ++ [b]), k9) ∧ NdIs w9 (w4.heap.size ≤ ·) v9 b ∧ PkAt w9 r la lc L d ∧ k9 ≤ L.length ∧ k ≤ k9 ∧ dvs.length ≤ k9) ∨ (∃ y, Ri = .error y ∧ PbAt w9 r la lc L y ∧ k9 ≤ K)) :
    ∃ a1 c1, v' = .slice a1 (nvs ++ [v9]).length c1 ∧ w7.heap[D + 1]? = some (boxN ⟨x.kind, x.tok, x.a, nvs.length, x.c⟩) ∧ RmSt r la lc L d K Ri w P z nv D k e' ds en k9 (w7.setCell ⟨D + 1, 2, none⟩ v') := by
  have hkv : x.kv = Value.slice x.a nvs.length x.c := by show Value.slice x.a x.n x.c = _; rw [hxn]
  have hSN : restS r la L D (D + 1) := .inr (.inr (.inr (.inl rfl)))
  have hSD : restS r la L D D := .inr (.inr (.inl rfl))
  have hSH : restS r la L D (D + 1 + 1) := .inr (.inr (.inr (.inr rfl)))
  obtain ⟨a1, c1, hv, h1, h2, h3, h4, h5, h6, h7, h8, h9⟩ := grow_more (r := r) (la := la) (lc := lc) (L := L) (v9 := v9) (.inl rfl) (fun b off e hL => .inr (.inl ⟨off, e, hL⟩)) hS hSN (by omega) (fun b off e hL => by have := hU b off e hL; omega) hGN hk9 hb hown hg hob hZ
  subst hv
  have hz9 := hk9.size
  have hne := hGN.ne
  have hNl := hS _ hSN
  have hDl := lt_of_block hG.box
  have hun : ∀ b, b < w4.heap.size → ¬ restS r la L D b → x.kv.ownBlock ≠ some b → (w7.setCell ⟨D + 1, 2, none⟩ (.slice a1 (nvs ++ [v9]).length c1)).heap[b]? = w4.heap[b]? := fun b hlt hs hx => h3 b hlt (fun e => hs (e ▸ .inl rfl)) (by rw [← hkv]; exact hx) (fun e => hs (e ▸ hSN))
  have hrr : ∀ b, (Value.slice da dvs.length dc).ownBlock = some b → x.kv.ownBlock ≠ some b := fun b e e2 => by
    obtain ⟨_, _, _, hr3, _⟩ := hnn.kids
    exact (hr3 b e2).2.2 e
  have hG8 : GrowAt 0 (restS r la L D) D 2 (-1) dvs da dc (w7.setCell ⟨D + 1, 2, none⟩ (.slice a1 (nvs ++ [v9]).length c1)) :=
    ⟨(h3 D hDl (by omega) (hne D hSD) (by omega)).trans hG.box, row_same hG.row fun b e hlt => hun b hlt (fun hs => hG.ne b hs e) (hrr b e), hG.ne⟩
  refine ⟨a1, c1, rfl, h1, h6 (restX r z nv) w (.inl rfl) hK (by rw [← hkv]; exact hrn) (by omega), (h3 _ (lt_of_block hH) (by omega) (hne _ hSH) (by omega)).trans hH, dvs, da, dc, ⟨x.kind, x.tok, a1, (nvs ++ [v9]).length, c1⟩, hG8, h2.box, hrd, hdl, hrt, ?_⟩
  rcases hc with ⟨b, c1', c2, c3, c4, c5, c6⟩ | ⟨y, c1', ⟨c2, d', c3⟩, c4⟩
  · refine .inl ⟨.mk n.kind n.tok (n.kids ++ [b]), (hdn.kept fun b hb hlt => hun b hlt hb.2.1 hb.2.2.2).mono fun b hb _ => ⟨hb.1, hb.2.1, hb.2.2.1⟩, ?_, ?_, h8 c3, c1', c4, c5, c6⟩
    · refine ⟨hnn.kind, hnn.tok, KidsAt.of_row h2.row (NdsIs.snoc ((hnk.kept fun b hb hlt => hun b hlt hb.1.2.1 hb.2).mono fun b hb _ => hb.1) ?_) fun b e => ?_⟩
      · refine (c2.kept (w' := w7.setCell ⟨D + 1, 2, none⟩ (.slice a1 (nvs ++ [v9]).length c1)) fun b hb hlt => h4 b hlt (fun e => ?_) (by omega)).mono fun b hb _ => ⟨.inr (.inr (by have := hK.size; omega)), fun hs => by have := hS b hs; omega, fun e => ?_⟩
        · have := (own_at hGN.row e).2; omega
        · have := (own_at hG.row e).2; omega
      · rcases h5 b e with e2 | e2
        · obtain ⟨_, _, _, hr3, _⟩ := hnn.kids
          exact hr3 b (by rw [hkv]; exact e2)
        · exact ⟨.inr (.inr (by have := hK.size; omega)), fun hs => by have := hS b hs; omega, fun e3 => by have := (own_at hG.row e3).2; omega⟩
    · obtain ⟨cc, tt, ff, hbx⟩ := hbox
      exact h9 _ _ (hen.kept hbx hk9)
  · exact .inr ⟨y, c1', ⟨c2, d', h8 c3⟩, c4⟩

/-- The declaration, with its name; the name's block is free. -/
structure RaSt (r : Nat) (la : Option Addr) (lc : Nat) (L : List Tk) (d K : Nat) (Ri : Got (Nd × Nat)) (w : World) (P : Nat → Prop) (z : Nat) (nv : Nv) (D k : Nat) (ev : Option Nat) (ds : List Nd) (en : En) (k' : Nat) (dvs : List Nv) (a1 : Option Addr) (c1 : Nat) (W8 : World) : Prop where
  kept : Kept (restX r z nv) w W8
  res : W8.heap[D + 1 + 1]? = some (boxN zeroN)
  box : ∃ x, W8.heap[D + 1]? = some (boxN x)
  grow : GrowAt 0 (restS r la L D) D 2 (-1) dvs a1 c1 W8
  row : ∀ b, (Value.slice a1 dvs.length c1).ownBlock = some b → restX r z nv b ∨ w.heap.size ≤ b
  few : dvs.length ≤ 7000
  rowT : ∀ b, (Value.slice a1 dvs.length c1).ownBlock = some b → restT w P z b
  ans : (∃ n, NdsIs W8 (fun b => restT w P z b ∧ ¬ restS r la L D b ∧ (Value.slice a1 dvs.length c1).ownBlock ≠ some b) dvs (ds ++ [n]) ∧ EnAt W8 (.map ev) en ∧ PkAt W8 r la lc L d ∧ Ri = .ok (n, k') ∧ k' ≤ L.length ∧ k ≤ k' ∧ dvs.length ≤ k' + 1) ∨ (∃ y, Ri = .error y ∧ PbAt W8 r la lc L y ∧ k' ≤ K)
theorem rest_app {d K D k k' : Nat} {Ri : Got (Nd × Nat)} {w wc w7 : World} {P : Nat → Prop} {z : Nat} {nv x : Nv} {ds : List Nd} {en : En} {e' : Option Nat} {dvs : List Nv} {da : Option Addr} {dc Z : Nat} {v' : Value} (hD : D = w.heap.size) (hS : ∀ b, restS r la L D b → b < wc.heap.size) (hrw : r < D) (hU : ∀ b off, la = some ⟨b, off, none⟩ → L ≠ [] → b < D)
    (hK : Kept (restX r z nv) w wc) (hH : wc.heap[D + 1 + 1]? = some (boxN zeroN)) (hG : GrowAt 0 (restS r la L D) D 2 (-1) dvs da dc wc) (hN : wc.heap[D + 1]? = some (boxN x)) (hrd : ∀ b, (Value.slice da dvs.length dc).ownBlock = some b → restX r z nv b ∨ w.heap.size ≤ b) (hdl : dvs.length ≤ 6500) (hrt : ∀ b, (Value.slice da dvs.length dc).ownBlock = some b → restT w P z b)
    (hc : (∃ n, NdsIs wc (fun b => restT w P z b ∧ ¬ restS r la L D b ∧ (Value.slice da dvs.length dc).ownBlock ≠ some b) dvs ds ∧ NdIs wc (fun b => restT w P z b ∧ ¬ restS r la L D b ∧ (Value.slice da dvs.length dc).ownBlock ≠ some b) x n ∧ EnAt wc (.map e') en ∧ PkAt wc r la lc L d ∧ Ri = .ok (n, k') ∧ k' ≤ L.length ∧ k ≤ k' ∧ dvs.length ≤ k') ∨ (∃ y, Ri = .error y ∧ PbAt wc r la lc L y ∧ k' ≤ K))
    (hown : w7.ownsRow 0 26 3 v' (dvs.length + 1) (cellsN dvs ++ cellsN [x])) (hg : (wc.alloc (.cells (cellsN [x]).toArray 26)).grownBy w7 (Value.slice da dvs.length dc).ownBlock) (hob : v'.ownBlock = (Value.slice da dvs.length dc).ownBlock ∨ v'.ownBlock = some Z) (hZ : Z = (wc.alloc (.cells (cellsN [x]).toArray 26)).heap.size) :
    ∃ a1 c1, v' = .slice a1 (dvs ++ [x]).length c1 ∧ w7.heap[D]? = some (boxN ⟨2, -1, da, dvs.length, dc⟩) ∧ RaSt r la lc L d K Ri w P z nv D k e' ds en k' (dvs ++ [x]) a1 c1 (w7.setCell ⟨D, 2, none⟩ v') := by
  have hSN : restS r la L D (D + 1) := .inr (.inr (.inr (.inl rfl)))
  have hSD : restS r la L D D := .inr (.inr (.inl rfl))
  have hSH : restS r la L D (D + 1 + 1) := .inr (.inr (.inr (.inr rfl)))
  obtain ⟨a1, c1, hv, h1, h2, h3, h4, h5, h6, h7, h8, h9⟩ := grow_more (r := r) (la := la) (lc := lc) (L := L) (v9 := x) (.inl rfl) (fun b off e hL => .inr (.inl ⟨off, e, hL⟩)) hS hSD (by omega) (fun b off e hL => by have := hU b off e hL; omega) hG (kept_below (Below.refl wc.heap.size wc)) (below_new wc _) hown hg hob hZ
  subst hv
  have hne := hG.ne
  have hun : ∀ b, b < wc.heap.size → ¬ restS r la L D b → (Value.slice da dvs.length dc).ownBlock ≠ some b → (w7.setCell ⟨D, 2, none⟩ (.slice a1 (dvs ++ [x]).length c1)).heap[b]? = wc.heap[b]? := fun b hlt hs hx => h4 b hlt hx (fun e => hs (e ▸ hSD))
  have hlt' : ∀ b, b < wc.heap.size → (Value.slice da dvs.length dc).ownBlock ≠ some b → (Value.slice a1 (dvs ++ [x]).length c1).ownBlock ≠ some b := fun b hb hn e => by
    rcases h5 b e with e2 | e2
    · exact hn e2
    · omega
  have hKz := hK.size
  refine ⟨a1, c1, rfl, h1, ⟨h6 _ _ (.inl rfl) hK hrd (by omega), (h4 _ (lt_of_block hH) (hne _ hSH) (by omega)).trans hH, ⟨x, (h4 _ (lt_of_block hN) (hne _ hSN) (by omega)).trans hN⟩, h2, fun b e => ?_, by simp; omega, fun b e => ?_, ?_⟩⟩
  · rcases h5 b e with e2 | e2
    · exact hrd b e2
    · exact .inr (by omega)
  · rcases h5 b e with e2 | e2
    · exact hrt b e2
    · exact .inr (.inr (by omega))
  · rcases hc with ⟨n, c1', c2, c3, c4, c5, c6, c7, c8⟩ | ⟨y, c1', ⟨c2, d', c3⟩, c4⟩
    · refine .inl ⟨n, NdsIs.snoc ((c1'.mono (Q := fun b => (restT w P z b ∧ ¬ restS r la L D b ∧ (Value.slice da dvs.length dc).ownBlock ≠ some b) ∧ b < wc.heap.size) fun b hb hlt => ⟨hb, hlt⟩).kept (fun b hb hlt => hun b hlt hb.1.2.1 hb.1.2.2) |>.mono fun b hb _ => ⟨hb.1.1, hb.1.2.1, hlt' b hb.2 hb.1.2.2⟩) ((c2.mono (Q := fun b => (restT w P z b ∧ ¬ restS r la L D b ∧ (Value.slice da dvs.length dc).ownBlock ≠ some b) ∧ b < wc.heap.size) fun b hb hlt => ⟨hb, hlt⟩).kept (fun b hb hlt => hun b hlt hb.1.2.1 hb.1.2.2) |>.mono fun b hb _ => ⟨hb.1.1, hb.1.2.1, hlt' b hb.2 hb.1.2.2⟩), h9 _ _ c3, h8 c4, c5, c6, c7, by simp; omega⟩
    · exact .inr ⟨y, c1', ⟨c2, d', h8 c3⟩, c4⟩

/-- The next name is stored. -/
theorem rest_next {X : Nat → Nat → Got (Nd × Nat)} {d K K2 D k k' g k10 : Nat} {typ : Bool} {Rr : Got (List Nd × Nat × En)} {Ri : Got (Nd × Nat)} {w w8 w10 : World} {P : Nat → Prop} {z : Nat} {nv v10 : Nv} {ds : List Nd} {en : En} {e' e10 : Option Nat} {dvs : List Nv} {a1 : Option Addr} {c1 : Nat} (hD : D = w.heap.size) (hS : ∀ b, restS r la L D b → b < w8.heap.size) (hrw : r < D) (hU : ∀ b off, la = some ⟨b, off, none⟩ → L ≠ [] → b < D)
    (h : RaSt r la lc L d K Ri w P z nv D k e' ds en k' dvs a1 c1 w8) (hk10 : Kept (· = r) w8 w10)
    (hc : (∃ n n2 en2, NdsIs w8 (fun b => restT w P z b ∧ ¬ restS r la L D b ∧ (Value.slice a1 dvs.length c1).ownBlock ≠ some b) dvs (ds ++ [n]) ∧ NdAp w10 (w8.heap.size ≤ ·) v10 n2 ∧ EnAt w10 (.map e10) en2 ∧ PkAt w10 r la lc L d ∧ restF L X typ g en2 k10 (ds ++ [n]) n2 = Rr ∧ k10 ≤ L.length ∧ L.length + 1 ≤ g + k10 ∧ en2.length ≤ k10 ∧ dvs.length ≤ k10 ∧ n2.kids.length ≤ 1) ∨ (∃ y, Rr = .error y ∧ PbAt w10 r la lc L y ∧ k10 ≤ K2)) :
    RsSt r la lc L X d K2 typ Rr w P z nv D g k10 e10 (putN w10 (D + 1) v10) := by
  have hSN : restS r la L D (D + 1) := .inr (.inr (.inr (.inl rfl)))
  have hSD : restS r la L D D := .inr (.inr (.inl rfl))
  obtain ⟨xb, hxb⟩ := h.box
  have hz := hk10.size
  have hKz := h.kept.size
  have hNl := hS _ hSN
  have hDl := hS _ hSD
  have hHl := lt_of_block h.res
  have hN10 := (hk10.block _ hNl (by omega)).trans hxb
  have hun : ∀ b, b < w8.heap.size → ¬ restS r la L D b → (putN w10 (D + 1) v10).heap[b]? = w8.heap[b]? := fun b hlt hs => (putN_other _ _ _ _ (fun e => by subst e; exact hs hSN)).trans (hk10.block b hlt (fun e => by subst e; exact hs (.inl rfl)))
  refine ⟨putN_kept (h.kept.trans ⟨hk10.os, hk10.tape, hk10.output, hk10.size, fun b hlt hx => hk10.block b hlt (fun e => hx (e ▸ .inl rfl))⟩) (by omega) _, (putN_other _ _ _ _ (by omega)).trans ((hk10.block _ hHl (by omega)).trans h.res), dvs, a1, c1, v10, ⟨(putN_other _ _ _ _ (by omega)).trans ((hk10.block _ hDl (by omega)).trans h.grow.box), row_same h.grow.row fun b e hlt => hun b hlt (fun hs => h.grow.ne b hs e), h.grow.ne⟩, putN_block _ hN10, h.row, h.few, h.rowT, ?_⟩
  rcases hc with ⟨n, n2, en2, c1', c2, c3, c4, c5, c6, c7, c8, c9, c10⟩ | ⟨y, c1', ⟨c2, d', c3⟩, c4⟩
  · have hrow10 : ∀ b, v10.kv.ownBlock = some b → w8.heap.size ≤ b := fun b e => by
      obtain ⟨_, _, _, h3, _⟩ := c2.kids
      exact h3 b e
    refine .inl ⟨ds ++ [n], n2, en2, ?_, ?_, fun b e => .inr (by have := hrow10 b e; omega), c3.put hN10 v10, px_put (w' := w) c4 (by omega) (by omega) (fun b off e hL => by have := hU b off e hL; omega) v10, c5, c6, c7, c8, c9, c10⟩
    · exact ((c1'.mono (Q := fun b => (restT w P z b ∧ ¬ restS r la L D b ∧ (Value.slice a1 dvs.length c1).ownBlock ≠ some b) ∧ b < w8.heap.size) fun b hb hlt => ⟨hb, hlt⟩).kept fun b hb hlt => hun b hlt hb.1.2.1).mono fun b hb _ => ⟨hb.1.1, hb.1.2.1, hb.1.2.2, fun e => by have := hrow10 b e; omega⟩
    · exact (c2.kept (w' := putN w10 (D + 1) v10) fun b hb _ => putN_other _ _ _ _ (by omega)).mono fun b hb _ => ⟨.inr (.inr (by omega)), fun hs => by have := hS b hs; omega, fun e => by have := (own_at h.grow.row e).2; omega⟩
  · exact .inr ⟨y, c1', ⟨c2, d', px_put (w' := w) c3 (by omega) (by omega) (fun b off e hL => by have := hU b off e hL; omega) v10⟩, c4⟩
/-- No further name: the declaration is whole. -/
theorem rest_stop {d K K2 D k k' : Nat} {Rr : Got (List Nd × Nat × En)} {Ri : Got (Nd × Nat)} {w w8 : World} {P : Nat → Prop} {z : Nat} {nv : Nv} {ds : List Nd} {en : En} {e' : Option Nat} {dvs : List Nv} {a1 : Option Addr} {c1 : Nat} (h : RaSt r la lc L d K Ri w P z nv D k e' ds en k' dvs a1 c1 w8)
    (hc : (∃ n, NdsIs w8 (fun b => restT w P z b ∧ ¬ restS r la L D b ∧ (Value.slice a1 dvs.length c1).ownBlock ≠ some b) dvs (ds ++ [n]) ∧ EnAt w8 (.map e') en ∧ PkAt w8 r la lc L d ∧ k' ≤ L.length ∧ en.length ≤ k' ∧ Rr = if wordT L k' = [59] then .ok (ds ++ [n], k' + 1, en) else .error (2, k')) ∨ (∃ y, Rr = .error y ∧ PbAt w8 r la lc L y ∧ k' ≤ K2)) :
    RfSt r la lc L d K2 Rr w P z nv D k' e' w8 := by
  refine ⟨h.kept, h.res, _, h.grow.box, ?_⟩
  rcases hc with ⟨n, c1', c2, c3, c4, c5, c6⟩ | ⟨y, c1', c2, c3⟩
  · exact .inl ⟨ds ++ [n], en, ⟨rfl, rfl, KidsAt.of_row h.grow.row (c1'.mono fun b hb _ => ⟨hb.1, hb.2.1⟩) fun b e => ⟨h.rowT b e, fun hs => h.grow.ne b hs e⟩⟩, c2, c3, c4, c5, c6⟩
  · exact .inr ⟨y, c1', c2, c3⟩

set_option maxRecDepth 100000 in
set_option maxHeartbeats 8000000 in
theorem rest_any (d m : Nat) (hd : d + m = 30) (hs : ∀ t ∈ L, t.text.size ≤ 3000) (en : En) (i : Nat) (typ : Bool) (ev : Option Nat) (w : World) (tj : Int) (z : Nat) (nv : Nv) (n : Nd) (P : Nat → Prop) (h : PkAt w r la lc L d) (hi : i ≤ L.length) (hel : en.length ≤ i) (hi1 : 1 ≤ i) (hev : EnAt w (.map ev) en)
    (hz : w.heap[z]? = some (.cells (cellsN [⟨16, tj, none, 0, 0⟩]).toArray 26)) (hzr : z ≠ r) (hzt : ∀ b off, la = some ⟨b, off, none⟩ → L ≠ [] → b ≠ z) (hn : NdAp w P nv n) (hn1 : n.kids.length ≤ 1) (hP : ∀ b, P b → b ≠ z ∧ b ≠ r ∧ ∀ off, la = some ⟨b, off, none⟩ → L = []) :
    Calls Try.prog 35 #[.pointer (some ⟨r, 0, none⟩), .map ev, .int .i64 (i : Int), aggN ⟨2, -1, some ⟨z, 0, none⟩, 1, 1⟩, aggN nv, .bool typ] w (RPost r la lc L (restX r z nv) (restT w P z) d (kbX L m + 4) (restR L (fun l i => exR L m 0 l i) typ en i [.mk 16 tj []] n) w) := by
  have hrw := h.lt
  have HUn := hid h.under
  have hfew := h.few
  have hzl := lt_of_block hz
  have hkl : kbX L m ≤ 100000 := by unfold kbX; omega
  have hkL : L.length + 10 ≤ kbX L m := by unfold kbX; omega
  have hSlt : ∀ b, restS r la L w.heap.size b → b < w.heap.size + 3 := fun b hb => by
    rcases hb with rfl | ⟨off, e, hL⟩ | rfl | rfl | rfl
    · omega
    · have := HUn.out b off e hL; omega
    · omega
    · omega
    · omega
  -- the world behind the boxes
  have hb1 := below_new w (boxN ⟨2, -1, some ⟨z, 0, none⟩, 1, 1⟩)
  have hb2 := below_new (w.alloc (boxN ⟨2, -1, some ⟨z, 0, none⟩, 1, 1⟩)) (boxN nv)
  have hb3 := below_new ((w.alloc (boxN ⟨2, -1, some ⟨z, 0, none⟩, 1, 1⟩)).alloc (boxN nv)) (boxN zeroN)
  have hs1 : (w.alloc (boxN ⟨2, -1, some ⟨z, 0, none⟩, 1, 1⟩)).heap.size = w.heap.size + 1 := by simp
  have hs2 : ((w.alloc (boxN ⟨2, -1, some ⟨z, 0, none⟩, 1, 1⟩)).alloc (boxN nv)).heap.size = w.heap.size + 2 := by simp
  have hD := (hb3.block _ (by omega)).trans ((hb2.block _ (by omega)).trans (heap_alloc_new w (boxN ⟨2, -1, some ⟨z, 0, none⟩, 1, 1⟩)))
  have hN := (hb3.block _ (by omega)).trans (heap_alloc_new (w.alloc (boxN ⟨2, -1, some ⟨z, 0, none⟩, 1, 1⟩)) (boxN nv))
  have hH := heap_alloc_new ((w.alloc (boxN ⟨2, -1, some ⟨z, 0, none⟩, 1, 1⟩)).alloc (boxN nv)) (boxN zeroN)
  rw [hs1] at hN
  rw [hs2, show w.heap.size + 2 = w.heap.size + 1 + 1 from rfl] at hH
  have hB : Below w.heap.size w (((w.alloc (boxN ⟨2, -1, some ⟨z, 0, none⟩, 1, 1⟩)).alloc (boxN nv)).alloc (boxN zeroN)) := (hb1.trans (hb2.mono (by omega))).trans (hb3.mono (by omega))
  have HR : Hid (restR L (fun l i => exR L m 0 l i) typ en i [.mk 16 tj []] n = match restF L (fun l i => exR L m 0 l i) typ (L.length + 1) en i [.mk 16 tj []] n with
    | .error x => .error x
    | .ok (ds', k, e') => .ok (.mk 2 (-1) ds', k, e')) := rfl
  generalize hRr : restF L (fun l i => exR L m 0 l i) typ (L.length + 1) en i [.mk 16 tj []] n = Rr at HR
  have HSt : Hid (RsSt r la lc L (fun l i => exR L m 0 l i) d (kbX L m + 3) typ Rr w P z nv w.heap.size (L.length + 1) i ev (((w.alloc (boxN ⟨2, -1, some ⟨z, 0, none⟩, 1, 1⟩)).alloc (boxN nv)).alloc (boxN zeroN))) := by
    have hzS : ¬ restS r la L w.heap.size z := fun hb => by
      rcases hb with rfl | ⟨off, e, hL⟩ | rfl | rfl | rfl
      · exact hzr rfl
      · exact hzt z off e hL rfl
      · omega
      · omega
      · omega
    refine ⟨(kept_below hB), hH, [⟨16, tj, none, 0, 0⟩], some ⟨z, 0, none⟩, 1, nv, ⟨hD, ?_, fun b hs e => ?_⟩, hN, fun b e => ?_, by simp, fun b e => ?_, .inl ⟨_, n, en, ?_, ?_, fun b e => .inl (.inr (.inr e)), hev.below hB, h.below hB, hRr, hi, by omega, hel, hi1, hn1⟩⟩
    · refine ⟨by simp [cellsN, encN], .inr ⟨z, 1, _, rfl, Nat.zero_le _, (hB.block z hzl).trans hz, Nat.le_refl _, by unfold maxLen; omega, by simp [cellsN, encN], by simp [cellsN, encN]⟩⟩
    · have : z = b := by simpa [Value.ownBlock] using e
      subst this
      exact hzS hs
    · have : z = b := by simpa [Value.ownBlock] using e
      subst this
      exact .inl (.inr (.inl rfl))
    · have : z = b := by simpa [Value.ownBlock] using e
      subst this
      exact .inr (.inl rfl)
    · exact NdsIs.one ⟨rfl, rfl, KidsAt.nil⟩
    · refine ((hn.mono (Q := fun b => P b ∧ b < w.heap.size) fun b hb hlt => ⟨hb, hlt⟩).kept fun b hb hlt => hB.block b hlt).mono fun b hb _ => ⟨.inl hb.1, fun hs => ?_, fun e => ?_⟩
      · rcases hs with rfl | ⟨off, e, hL⟩ | rfl | rfl | rfl
        · exact (hP _ hb.1).2.1 rfl
        · exact hL ((hP b hb.1).2.2 off e)
        · omega
        · omega
        · omega
      · have : z = b := by simpa [Value.ownBlock] using e
        exact (hP b hb.1).1 this.symm
  have hDl := lt_of_block hD
  have HXk := hid (fun (e0 : Option Nat) l' i' W (hW : PkAt W r la lc L d) (h1 : i' ≤ L.length) (h2 : 1 ≤ l') (h3 : l' ≤ 13) => (ex_all_r r la lc L m (by omega)).1 d l' i' e0 W (by omega) hW h1 h2 h3)
  have HDk := hid (fun (e0 : Option Nat) (en0 : En) i' W (hW : PkAt W r la lc L d) (h1 : i' ≤ L.length) (h2 : en0.length ≤ i') (h3 : EnAt W (.map e0) en0) => dcl_any (r := r) (la := la) (lc := lc) d m hd hs en0 i' typ e0 W hW h1 h2 h3)
  have HAdv := hid (exR_adv L m).1
  obtain ⟨i0, hi0, hz0, hzz1, hzz2⟩ := info_parts info_node
  have HSl := hid hSlt
  clear h hev hz hzr hzt hn hP hb1 hb2 hb3 hs1 hs2 hD hN hH hRr hi1 hel hDl hB hSlt
  unfold aggN
  go_enter Try.func35, Try.ntmps35
  go_upto_block 0 with fail
  change Code.wp _ _ _ _ (((w.alloc (boxN ⟨2, -1, some ⟨z, 0, none⟩, 1, 1⟩)).alloc (boxN nv)).alloc (boxN zeroN))
  generalize ((w.alloc (boxN ⟨2, -1, some ⟨z, 0, none⟩, 1, 1⟩)).alloc (boxN nv)).alloc (boxN zeroN) = w3 at HSt ⊢
  go_cut [1, 2] (fun a b wx => ∃ (k : Nat) (e' : Option Nat), a = .map e' ∧ b = .int .i64 (k : Int) ∧ Hid (RfSt r la lc L d (kbX L m + 3) Rr w P z nv w.heap.size k e' wx))
  case first =>
    go_wp2_with fail
    go_loopg [1, 2] (L.length + 1) (fun g a b wr => ∃ (k : Nat) (e' : Option Nat), a = .map e' ∧ b = .int .i64 (k : Int) ∧ Hid (RsSt r la lc L (fun l i => exR L m 0 l i) d (kbX L m + 3) typ Rr w P z nv w.heap.size g k e' wr))
    case atStart => exact ⟨i, ev, rfl, rfl, HSt.out⟩
    case round =>
      obtain ⟨k, e', rfl, rfl, HS⟩ := hrel
      obtain ⟨hK, hH, dvs, da, dc, x, hG, hN, hrd, hdl, hrt, hcase⟩ := HS.out
      clear HS HSt
      rcases hcase with ⟨ds, n1, en1, hdn, hnn, hrn, hen, hp, hRf, hkL2, hfu, hel, hdk, hnk1⟩ | ⟨y, hy, hp, hkK⟩
      · obtain ⟨g, rfl⟩ : ∃ g, gk = g + 1 := ⟨gk - 1, by omega⟩
        have HRw := hid hRf
        simp only [restF] at HRw
        have HO := hid (pok_any wr hp)
        have HW := hid (pword_any wr hp k)
        have hw61 := wrd_lit L k [61]
        have HPx := hid hp
        have HK := hid hK
        have HH := hid hH
        have HG := hid hG
        have HN := hid hN
        have HRd := hid hrd
        have HRt := hid hrt
        have HDn := hid hdn
        have HNn := hid hnn
        have HRn := hid hrn
        have HEn := hid hen
        have hrl := hp.lt
        have hHl := lt_of_block hH
        have hDl := lt_of_block hG.box
        have hNl := lt_of_block hN
        have hwk : IntKind.i64.wrap ((k : Int) + 1) = ((k + 1 : Nat) : Int) := by rw [IntKind.wrap_i64]; omega
        have hSr : restS r la L w.heap.size r := .inl rfl
        have HSr := hid hSr
        have HSq : Hid (∀ b, restS r la L w.heap.size b → b < wr.heap.size) := fun b hb => by have := HSl.out b hb; omega
        generalize hb26 : (!typ && decide (wordT L k = [61])) = b26
        have HB26 := hid hb26
        clear hRf hK hH hG hN hrd hrt hdn hnn hrn hen hp hSr hb26
        go_wp2_with fail
        refine HO.out.mono ?_
        rintro e3 w4 ⟨rfl, rfl⟩
        go_upto_region 2 with fail
        go_cut [26] (fun a wx => a = .bool b26 ∧ w4 = wx)
        case first =>
          cases typ with
          | true =>
            obtain rfl : b26 = false := HB26.out.symm
            go_wp2_with fail
            go_meet
            exact ⟨rfl, rfl⟩
          | false =>
            have hbb : decide (wordT L k = [61]) = b26 := HB26.out
            rw [hbb] at hw61
            clear hbb
            generalize wrdB L k = wb at HW hw61
            go_wp2_with fail
            refine HW.out.mono ?_
            rintro e3 w5 ⟨rfl, rfl⟩
            go_wp2_with fail
            go_meet
            exact ⟨rfl, rfl⟩
        case rest =>
          obtain ⟨rfl, rfl⟩ := hcut
          clear hw61 HW HO
          go_upto_if 26 with fail
          go_cut [2] (fun b wx => ∃ k' : Nat, b = .int .i64 (k' : Int) ∧ Hid (RmSt r la lc L d (kbX L m + 1) (initR L (fun l i => exR L m 0 l i) typ k n1) w P z nv w.heap.size k e' ds en1 k' wx))
          case first =>
            cases b26 with
            | false =>
              have HIn : Hid (initR L (fun l i => exR L m 0 l i) typ k n1 = .ok (n1, k)) := by
                show _ = _
                unfold initR
                rw [if_neg]
                rintro ⟨h1, h2⟩
                have := HB26.out
                rw [h1, decide_eq_true h2] at this
                cases this
              have HRm : Hid (RmSt r la lc L d (kbX L m + 1) (initR L (fun l i => exR L m 0 l i) typ k n1) w P z nv w.heap.size k e' ds en1 k w4) := ⟨HK.out, HH.out, dvs, da, dc, x, HG.out, HN.out, HRd.out, (by omega), HRt.out, .inl ⟨n1, HDn.out.mono fun b hb _ => ⟨hb.1, hb.2.1, hb.2.2.1⟩, HNn.out.is, HEn.out, HPx.out, HIn.out, hkL2, Nat.le_refl _, hdk⟩⟩
              go_wp2_with fail
              go_meet
              exact ⟨k, rfl, HRm.out⟩
            | true =>
              have ht : typ = false ∧ wordT L k = [61] := by
                have h0 := HB26.out
                cases typ with
                | true => cases h0
                | false => exact ⟨rfl, of_decide_eq_true h0⟩
              have hk61 := wrd_lt ht.2 (by simp)
              have HIn : Hid (initR L (fun l i => exR L m 0 l i) typ k n1 = match exR L m 0 2 (k + 1) with
                | .error x => .error x
                | .ok (x, k') => .ok (.mk n1.kind n1.tok (n1.kids ++ [x]), k')) := by show _ = _; unfold initR; rw [if_pos ht]; rfl
              have hx2 := HXk.out e' 2 (k + 1) w4 HPx.out (by omega) (by decide) (by decide)
              rw [show (((2 : Nat) : Int) - 1) = 1 from rfl] at hx2
              have HX2 := hid hx2
              have HAd := hid (fun b k' (h : exR L m 0 2 (k + 1) = .ok (b, k')) => HAdv.out 2 (k + 1) b k' (by decide) h)
              obtain ⟨nvs, hGN, hxn, hnk⟩ := rest_grow HN.out HNn.out
              have HGN := hid hGN
              have HXn := hid hxn
              have HNk := hid hnk
              have hnl : nvs.length ≤ 1 := by rw [hnk.1]; exact hnk1
              clear hx2 ht hGN hxn hnk
              go_wp2_with fail
              refine HX2.out.mono ?_
              rintro e9 w9 hq9
              obtain ⟨v9, k9, rfl, hk9, hc9⟩ := hq9.any
              have hz9 := hk9.size
              have hb1 := below_new w9 (boxN v9)
              have hs1 : (w9.alloc (boxN v9)).heap.size = w9.heap.size + 1 := by simp
              have hb2 := below_new (w9.alloc (boxN v9)) (.cells (cellsN [v9]).toArray 26)
              have hb : Below w9.heap.size w9 ((w9.alloc (boxN v9)).alloc (.cells (cellsN [v9]).toArray 26)) := hb1.trans (hb2.mono hb1.size)
              have hG9 : GrowAt 0 (restS r la L w.heap.size) (w.heap.size + 1) x.kind x.tok nvs x.a x.c w9 := ⟨(hk9.block _ hNl (by omega)).trans HGN.out.box, row_same HGN.out.row fun b e hlt => hk9.block b hlt (fun e2 => HGN.out.ne r HSr.out (by rw [← e2]; exact e)), HGN.out.ne⟩
              have HRow := hid (hG9.below hb).row
              have hsrc := row_cells (new_row (w9.alloc (boxN v9)) [v9] (by simp))
              rw [hs1] at hsrc
              have HSrc := hid hsrc
              obtain ⟨⟨y0, y1, y2⟩, y3, y4, y5⟩ := boxN_facts hG9.box
              have hN9l := lt_of_block hG9.box
              have HBb := hid hb
              have HK9 := hid hk9
              have HC9 : Hid ((∃ b, (initR L (fun l i => exR L m 0 l i) typ k n1) = .ok (.mk n1.kind n1.tok (n1.kids ++ [b]), k9) ∧ NdIs w9 (w4.heap.size ≤ ·) v9 b ∧ PkAt w9 r la lc L d ∧ k9 ≤ L.length ∧ k ≤ k9 ∧ dvs.length ≤ k9) ∨ (∃ y, (initR L (fun l i => exR L m 0 l i) typ k n1) = .error y ∧ PbAt w9 r la lc L y ∧ k9 ≤ kbX L m + 1)) := by
                have hR := HIn.out
                rcases hc9 with ⟨b, h1, h2, h3, h4⟩ | ⟨y, h1, h2, h3⟩
                · rw [h1] at hR
                  have := HAd.out _ _ h1
                  exact .inl ⟨b, hR, h2, h3, h4, by omega, by omega⟩
                · rw [h1] at hR
                  exact .inr ⟨y, hR, h3, by omega⟩
              clear hk9 hc9 hq9 hb1 hb2 hb hG9 hsrc hs1
              unfold aggN
              go_wp2_with (at_builtin; refine wpList_append_own_at _ rfl _ _ 24 rfl 0 26 i0 _ 3 40 Try.underlying24 hi0 hz0 hzz1 hzz2 rfl (by decide) _ _ _ rfl HRow.out ⟨w9.heap.size + 1, 0, none⟩ 1 1 (cellsN [v9]) rfl (cellsN_length _) HSrc.out (cellsN_one_cell _) (by unfold maxLen; omega) (by omega) (Nat.zero_le _) ?_)
              intro v' w7 hown7 hg7 _ hob7
              obtain ⟨a1, c1, hv7, hB7, hRm⟩ := rest_init (k := k) (d := d) (K := kbX L m + 1) (Ri := (initR L (fun l i => exR L m 0 l i) typ k n1)) rfl HSq.out hrw HUn.out HK.out HH.out HG.out HRd.out (by omega) HRt.out HDn.out HNn.out HRn.out HEn.out HGN.out HXn.out HNk.out ⟨_, _, _, HPx.out.box⟩ HK9.out HBb.out hown7 hg7 hob7 (by simp) HC9.out
              rw [show (nvs ++ [v9]).length = nvs.length + 1 by simp] at hv7
              subst hv7
              have HRm := hid hRm
              obtain ⟨⟨u0, u1, u2⟩, u3, u4, u5⟩ := boxN_facts hB7
              have hB7l := lt_of_block hB7
              clear hown7 hg7 hob7 hRm hB7 y0 y1 y2 y3 y4 y5 HC9 HK9 HRow HSrc
              go_wp2_with fail
              go_meet
              exact ⟨k9, rfl, HRm.out⟩
          case rest =>
            obtain ⟨k', rfl, HRm⟩ := hcut
            obtain ⟨hKm, hHm, dvs2, da2, dc2, x2, hGm, hNm, hrdm, hdlm, hrtm, hcm⟩ := HRm.out
            have hHml := lt_of_block hHm
            have HSm : Hid (∀ b, restS r la L w.heap.size b → b < wc.heap.size) := fun b hb => by have := HSl.out b hb; omega
            have hb := below_new wc (.cells (cellsN [x2]).toArray 26)
            have HRow := hid (hGm.below hb).row
            have HSrc := hid (row_cells (new_row wc [x2] (by simp)))
            obtain ⟨⟨y0, y1, y2⟩, y3, y4, y5⟩ := boxN_facts hGm.box
            obtain ⟨⟨t0, t1, t2⟩, _⟩ := boxN_facts hNm
            have hDlm := lt_of_block hGm.box
            have hNlm := lt_of_block hNm
            have HM := hid (And.intro hKm (And.intro hHm (And.intro hGm (And.intro hNm (And.intro hrdm (And.intro hrtm hcm))))))
            clear hKm hHm hGm hNm hrdm hrtm hcm hb HRm HK HH HG HN HRd HRt HDn HNn HRn HEn HPx
            go_wp2_with (at_builtin; refine wpList_append_own_at _ rfl _ _ 24 rfl 0 26 i0 _ 3 40 Try.underlying24 hi0 hz0 hzz1 hzz2 rfl (by decide) _ _ _ rfl HRow.out ⟨wc.heap.size, 0, none⟩ 1 1 (cellsN [x2]) rfl (cellsN_length _) HSrc.out (cellsN_one_cell _) (by unfold maxLen; omega) (by omega) (Nat.zero_le _) ?_)
            intro v' w7 hown7 hg7 _ hob7
            obtain ⟨qK, qH, qG, qN, qrd, qrt, qc⟩ := HM.out
            obtain ⟨a1, c1, hv7, hB7, hRa⟩ := rest_app rfl HSm.out hrw HUn.out qK qH qG qN qrd hdlm qrt qc hown7 hg7 hob7 (by simp)
            rw [show (dvs2 ++ [x2]).length = dvs2.length + 1 by simp] at hv7
            subst hv7
            have HRa := hid hRa
            obtain ⟨⟨u0, u1, u2⟩, u3, u4, u5⟩ := boxN_facts hB7
            have hB7l := lt_of_block hB7
            clear hown7 hg7 hob7 hRa hB7 y0 y1 y2 y3 y4 y5 t0 t1 t2 qK qH qG qN qrd qrt qc HM HRow HSrc
            go_upto_region 7 with fail
            change Code.wp _ _ _ _ (w7.setCell ⟨w.heap.size, 2, none⟩ (.slice a1 (dvs2.length + 1) c1))
            clear u0 u1 u2 u3 u4 u5
            generalize w7.setCell ⟨w.heap.size, 2, none⟩ (.slice a1 (dvs2.length + 1) c1) = w8 at HRa ⊢
            have hz8 := lt_of_block HRa.out.res
            have HS8 : Hid (∀ b, restS r la L w.heap.size b → b < w8.heap.size) := fun b hb => by have := HSl.out b hb; omega
            obtain ⟨xb, hxb⟩ := HRa.out.box
            rcases HRa.out.ans with ⟨n', hnd, hen8, hp8, hRi, hk1, hk2, hk3⟩ | ⟨y, hRi, hpy, hkK⟩
            · rw [hRi] at HRw
              dsimp only at HRw
              have HW8 := hid (pword_any w8 hp8 k')
              have hw44 := wrd_lin L k' [44]
              have hw44e := wrd_lit L k' [44]
              by_cases h44 : wordT L k' = [44]
              · rw [decide_eq_true h44, Bool.not_true] at hw44
                rw [decide_eq_true h44] at hw44e
                rw [if_pos h44] at HRw
                have hkl4 := wrd_lt h44 (by simp)
                have HDc := hid (HDk.out e' en1 (k' + 1) w8 hp8 hkl4 (by omega) hen8)
                have HNd := hid hnd
                have hwk' : IntKind.i64.wrap ((k' : Int) + 1) = ((k' + 1 : Nat) : Int) := by rw [IntKind.wrap_i64]; omega
                have HXb := hid hxb
                generalize wrdB L k' = wb at HW8 hw44 hw44e
                clear h44 hnd hen8 hp8 hRi hxb
                go_wp2_with fail
                refine HW8.out.mono ?_
                rintro e8 wz ⟨rfl, rfl⟩
                go_wp2_with fail
                refine HDc.out.mono ?_
                rintro e10 w10 hq10
                obtain ⟨v10, k10, ev10, rfl, hk10, hc10⟩ := hq10.any
                have HRs : Hid (RsSt r la lc L (fun l i => exR L m 0 l i) d (kbX L m + 3) typ Rr w P z nv w.heap.size g k10 ev10 (putN w10 (w.heap.size + 1) v10)) := by
                  refine rest_next (K2 := kbX L m + 3) rfl HS8.out hrw HUn.out HRa.out hk10 ?_
                  have hR := HRw.out
                  rcases hc10 with ⟨n2, en2, h1, h2, h3, h4, h5, h6⟩ | ⟨y, h1, h2, h3⟩
                  · rw [h1] at hR
                    obtain ⟨f1, f2⟩ := dclR_facts HAdv.out h1
                    exact .inl ⟨n', n2, en2, HNd.out, h2, h6, h3, hR, h4, by omega, h5, by simp at hk3 ⊢; omega, f1⟩
                  · rw [h1] at hR
                    exact .inr ⟨y, hR.symm, h3, by omega⟩
                have hN10 := (hk10.block _ (lt_of_block HXb.out) (by omega)).trans HXb.out
                obtain ⟨⟨u0, u1, u2⟩, u3, u4, u5⟩ := boxN_facts hN10
                have hN10l := lt_of_block hN10
                clear hk10 hc10 hq10 hN10
                unfold aggN
                go_wp2_with fail
                go_roundg g
                case measure => omega
                case rel => exact ⟨k10, ev10, rfl, rfl, HRs.out⟩
              · rw [decide_eq_false h44] at hw44 hw44e
                rw [Bool.not_false] at hw44
                rw [if_neg h44] at HRw
                have HRf := hid (rest_stop (K2 := kbX L m + 3) HRa.out (.inl ⟨n', hnd, hen8, hp8, hk1, by omega, HRw.out.symm⟩))
                generalize wrdB L k' = wb at HW8 hw44 hw44e
                clear h44 hnd hen8 hp8 hRi
                go_wp2_with fail
                refine HW8.out.mono ?_
                rintro e8 wz ⟨rfl, rfl⟩
                go_wp2_with fail
                go_meet
                exact ⟨k', e', rfl, rfl, HRf.out⟩
            · rw [hRi] at HRw
              dsimp only at HRw
              have hpy2 := hpy
              obtain ⟨hy0, d0, hp8⟩ := hpy2
              have HW8 := hid (pword_any w8 hp8 k')
              have hw44 := wrd_lin L k' [44]
              have hw44e := wrd_lit L k' [44]
              by_cases h44 : wordT L k' = [44]
              · rw [decide_eq_true h44, Bool.not_true] at hw44
                rw [decide_eq_true h44] at hw44e
                have hkl4 := wrd_lt h44 (by simp)
                have HDc := hid (dcl_bad w8 hpy (k' + 1) (by omega) typ e')
                have HPy := hid hpy
                have hwk' : IntKind.i64.wrap ((k' : Int) + 1) = ((k' + 1 : Nat) : Int) := by rw [IntKind.wrap_i64]; omega
                have HXb := hid hxb
                generalize wrdB L k' = wb at HW8 hw44 hw44e
                clear h44 hp8 hRi hxb hpy
                go_wp2_with fail
                refine HW8.out.mono ?_
                rintro e8 wz ⟨rfl, rfl⟩
                go_wp2_with fail
                refine HDc.out.mono ?_
                rintro e10 w10 ⟨v10, k10, rfl, hk10, -, -, -, hb10⟩
                have HRs : Hid (RsSt r la lc L (fun l i => exR L m 0 l i) d (kbX L m + 3) typ Rr w P z nv w.heap.size g k10 e' (putN w10 (w.heap.size + 1) v10)) := rest_next (K2 := kbX L m + 3) rfl HS8.out hrw HUn.out HRa.out (kept_below hb10) (.inr ⟨y, HRw.out.symm, HPy.out.below hb10, by omega⟩)
                have hN10 := (hb10.block _ (lt_of_block HXb.out)).trans HXb.out
                obtain ⟨⟨u0, u1, u2⟩, u3, u4, u5⟩ := boxN_facts hN10
                have hN10l := lt_of_block hN10
                clear hb10 hN10
                unfold aggN
                go_wp2_with fail
                go_roundg g
                case measure => omega
                case rel => exact ⟨k10, e', rfl, rfl, HRs.out⟩
              · rw [decide_eq_false h44, Bool.not_false] at hw44
                rw [decide_eq_false h44] at hw44e
                have HRf := hid (rest_stop (K2 := kbX L m + 3) HRa.out (.inr ⟨y, HRw.out.symm, hpy, by omega⟩))
                generalize wrdB L k' = wb at HW8 hw44 hw44e
                clear h44 hp8 hRi hpy
                go_wp2_with fail
                refine HW8.out.mono ?_
                rintro e8 wz ⟨rfl, rfl⟩
                go_wp2_with fail
                go_meet
                exact ⟨k', e', rfl, rfl, HRf.out⟩
      · obtain ⟨hy0, d0, hp⟩ := hp
        have he0 : (y.1 == 0) = false := by simpa using hy0
        have HO := hid (pok_any wr hp)
        rw [he0] at HO
        have HRf : Hid (RfSt r la lc L d (kbX L m + 3) Rr w P z nv w.heap.size k e' wr) := ⟨hK, hH, _, hG.box, .inr ⟨y, hy, ⟨hy0, d0, hp⟩, hkK⟩⟩
        clear hK hH hG hN hrd hy hp hy0 he0
        go_wp2_with fail
        refine HO.out.mono ?_
        rintro e3 w4 ⟨rfl, rfl⟩
        go_wp2_with fail
        go_meet
        exact ⟨k, e', rfl, rfl, HRf.out⟩
  case rest =>
    obtain ⟨k, e', rfl, rfl, HRf⟩ := hcut
    obtain ⟨hK, hH, x, hDx, hcase⟩ := HRf.out
    clear HRf HSt
    have hDl := lt_of_block hDx
    have hHl := lt_of_block hH
    obtain ⟨⟨a0, a1, a2⟩, _⟩ := boxN_facts hDx
    obtain ⟨⟨z0, z1, z2⟩, z3, z4, z5⟩ := boxN_facts hH
    have HBk : Hid (∀ W, Kept (· = r) wc W → W.cell? ⟨w.heap.size, 0, none⟩ = some (.int .i64 x.kind) ∧ W.cell? ⟨w.heap.size, 1, none⟩ = some (.int .i64 x.tok) ∧ W.cell? ⟨w.heap.size, 2, none⟩ = some (.slice x.a x.n x.c)) := fun W hW => (boxN_facts ((hW.block _ hDl (by omega)).trans hDx)).1
    have hB : Kept (· = r) wc wc.drew := kept_below (Below.refl wc.heap.size wc).drew
    have hDH : w.heap.size ≠ w.heap.size + 1 + 1 := by omega
    have hXr : restX r z nv r := .inl rfl
    have HKt : Hid (∀ W, Kept (· = r) wc W → Kept (restX r z nv) w (putN W (w.heap.size + 1 + 1) x)) := fun W hW => putN_kept (hK.trans ⟨hW.os, hW.tape, hW.output, hW.size, fun b hlt hx => hW.block b hlt (fun e => hx (e ▸ hXr))⟩) (by omega) x
    rcases hcase with ⟨ds, en1, hnd, hen, hp, hkL2, hel, hRr⟩ | ⟨y, hy, ⟨hy0, d0, hp⟩, hkK⟩
    · by_cases h59 : wordT L k = [59]
      · rw [if_pos h59] at hRr
        have HNd := hid (fun n0 => need_hit (wc.drewN n0) (hp.draws n0) k (by omega) ⟨#[59]⟩ h59)
        have hk59 := wrd_lt h59 (by simp)
        go_wp2_with fail
        go_region_held3 (fun W => W.cell? ⟨w.heap.size, 0, none⟩ = some (.int .i64 x.kind) ∧ W.cell? ⟨w.heap.size, 1, none⟩ = some (.int .i64 x.tok) ∧ W.cell? ⟨w.heap.size, 2, none⟩ = some (.slice x.a x.n x.c))
          (first | exact HBk.out _ hB | exact (boxN_facts ((putN_other _ (w.heap.size + 1 + 1) x w.heap.size hDH).trans ((hB.block _ hDl (by omega)).trans hDx))).1)
          ((go_at_call 36; refine (HNd.out 1).mono ?_; rintro ez wz ⟨rfl, rfl⟩; have hHz := (hB.block _ hHl (by omega)).trans hH; obtain ⟨⟨q0, q1, q2⟩, q3, q4, q5⟩ := boxN_facts hHz; have hHzl := lt_of_block hHz))
        have HKe := hid (HKt.out _ hB)
        have HHz := hid hHz
        have HC : Hid (RPost r la lc L (restX r z nv) (restT w P z) d (kbX L m + 4) (restR L (fun l i => exR L m 0 l i) typ en i [.mk 16 tj []] n) w (.returned (.tuple #[aggN x, .int .i64 ((k + 1 : Nat) : Int), .map e'])) (putN (wc.drewN 1) (w.heap.size + 1 + 1) x)) := by
          refine RPost.good (n := .mk 2 (-1) ds) (en := en1) (by rw [HR.out, hRr]) HKe.out ?_ (px_put (w' := w) (B := w.heap.size + 1 + 1) (hp.draws 1) (by omega) hrw HUn.out x) (by omega) (by omega) ((hen.below (Below.refl wc.heap.size wc).drew).put hHz x)
          exact ((hnd.kept (w' := wc.drewN 1) fun b _ _ => dN_heap wc b 1).kept (w' := putN (wc.drewN 1) (w.heap.size + 1 + 1) x) fun b hb _ => putN_other _ _ _ _ fun e => hb.2 (.inr (.inr (.inr (.inr e))))).mono fun b hb _ => hb.1
        clear hHz q0 q1 q2 q3 q4 q5 hnd hen hp
        go_wp2_with fail
        exact bodyPost_ret (nret3 Try.results35 (putN_block x HHz.out) _ rfl rfl rfl) rfl HC.out
      · rw [if_neg h59] at hRr
        have HNd := hid (fun n0 => need_miss (wc.drewN n0) (hp.draws n0) k (by omega) ⟨#[59]⟩ h59)
        go_wp2_with fail
        go_region_held3 (fun W => W.cell? ⟨w.heap.size, 0, none⟩ = some (.int .i64 x.kind) ∧ W.cell? ⟨w.heap.size, 1, none⟩ = some (.int .i64 x.tok) ∧ W.cell? ⟨w.heap.size, 2, none⟩ = some (.slice x.a x.n x.c))
          (first | exact HBk.out _ hB | exact (boxN_facts ((putN_other _ (w.heap.size + 1 + 1) x w.heap.size hDH).trans ((hB.block _ hDl (by omega)).trans hDx))).1)
          ((go_at_call 36; refine (HNd.out 1).mono ?_; rintro ez wz ⟨rfl, hpz, hkz⟩; have hB := hB.trans hkz; have hHz := (hB.block _ hHl (by omega)).trans hH; obtain ⟨⟨q0, q1, q2⟩, q3, q4, q5⟩ := boxN_facts hHz; have hHzl := lt_of_block hHz))
        have HKe := hid (HKt.out _ hB)
        have HHz := hid hHz
        have HC : Hid (RPost r la lc L (restX r z nv) (restT w P z) d (kbX L m + 4) (restR L (fun l i => exR L m 0 l i) typ en i [.mk 16 tj []] n) w (.returned (.tuple #[aggN x, .int .i64 ((k + 1 : Nat) : Int), .map e'])) (putN wz (w.heap.size + 1 + 1) x)) :=
          RPost.bad (by rw [HR.out, hRr]) HKe.out (by omega) ⟨show (2 : Int) ≠ 0 by decide, _, px_put (w' := w) (B := w.heap.size + 1 + 1) hpz (by omega) hrw HUn.out x⟩
        clear hHz q0 q1 q2 q3 q4 q5 hnd hen hp hpz
        go_wp2_with fail
        exact bodyPost_ret (nret3 Try.results35 (putN_block x HHz.out) _ rfl rfl rfl) rfl HC.out
    · have HNd := hid (fun n0 => need_bad (wc.drewN n0) (hp.draws n0) hy0 k (by omega) ⟨#[59]⟩)
      go_wp2_with fail
      go_region_held3 (fun W => W.cell? ⟨w.heap.size, 0, none⟩ = some (.int .i64 x.kind) ∧ W.cell? ⟨w.heap.size, 1, none⟩ = some (.int .i64 x.tok) ∧ W.cell? ⟨w.heap.size, 2, none⟩ = some (.slice x.a x.n x.c))
        (first | exact HBk.out _ hB | exact (boxN_facts ((putN_other _ (w.heap.size + 1 + 1) x w.heap.size hDH).trans ((hB.block _ hDl (by omega)).trans hDx))).1)
        ((go_at_call 36; refine (HNd.out 1).mono ?_; rintro ez wz ⟨rfl, rfl⟩; have hHz := (hB.block _ hHl (by omega)).trans hH; obtain ⟨⟨q0, q1, q2⟩, q3, q4, q5⟩ := boxN_facts hHz; have hHzl := lt_of_block hHz))
      have HKe := hid (HKt.out _ hB)
      have HHz := hid hHz
      have HC : Hid (RPost r la lc L (restX r z nv) (restT w P z) d (kbX L m + 4) (restR L (fun l i => exR L m 0 l i) typ en i [.mk 16 tj []] n) w (.returned (.tuple #[aggN x, .int .i64 ((k + 1 : Nat) : Int), .map e'])) (putN (wc.drewN 1) (w.heap.size + 1 + 1) x)) :=
        RPost.bad (by rw [HR.out, hy]) HKe.out (by omega) ⟨hy0, _, px_put (w' := w) (B := w.heap.size + 1 + 1) (hp.draws 1) (by omega) hrw HUn.out x⟩
      clear hHz q0 q1 q2 q3 q4 q5 hp
      go_wp2_with fail
      exact bodyPost_ret (nret3 Try.results35 (putN_block x HHz.out) _ rfl rfl rfl) rfl HC.out
end
end
section
open Go.RowKit Go.Shelf
section
variable {r : Nat} {la : Option Addr} {lc : Nat} {L : List Tk} {w w' : World}
set_option maxRecDepth 100000 in
set_option maxHeartbeats 4000000 in
theorem rest_bad {y : Int × Nat} (w : World) (h : PbAt w r la lc L y) (i : Nat) (hi : i ≤ 200000) (typ : Bool) (ev : Option Nat) (dv nv : Nv) :
    Calls Try.prog 35 #[.pointer (some ⟨r, 0, none⟩), .map ev, .int .i64 (i : Int), aggN dv, aggN nv, .bool typ] w fun x w' => x = .returned (.tuple #[aggN dv, .int .i64 ((i + 1 : Nat) : Int), .map ev]) ∧ PbAt w' r la lc L y ∧ Below w.heap.size w w' := by
  have hy0 := h.1
  have hrw : r < w.heap.size := by obtain ⟨_, _, h0⟩ := h; exact h0.lt
  have HUn : Hid (∀ b off, la = some ⟨b, off, none⟩ → L ≠ [] → b < w.heap.size) := by obtain ⟨_, _, h0⟩ := h; exact h0.under
  have hb1 := below_new w (boxN dv)
  have hb2 := below_new (w.alloc (boxN dv)) (boxN nv)
  have hb3 := below_new ((w.alloc (boxN dv)).alloc (boxN nv)) (boxN zeroN)
  have hs1 : (w.alloc (boxN dv)).heap.size = w.heap.size + 1 := by simp
  have hs2 : ((w.alloc (boxN dv)).alloc (boxN nv)).heap.size = w.heap.size + 2 := by simp
  have hD := (hb3.block _ (by omega)).trans ((hb2.block _ (by omega)).trans (heap_alloc_new w (boxN dv)))
  have hH := heap_alloc_new ((w.alloc (boxN dv)).alloc (boxN nv)) (boxN zeroN)
  rw [hs2, show w.heap.size + 2 = w.heap.size + 1 + 1 from rfl] at hH
  have hB : Below w.heap.size w (((w.alloc (boxN dv)).alloc (boxN nv)).alloc (boxN zeroN)) := (hb1.trans (hb2.mono (by omega))).trans (hb3.mono (by omega))
  have HB := hid hB
  have HP := hid (h.below hB)
  have HD := hid hD
  have HH := hid hH
  have he0 : (y.1 == 0) = false := by simpa using hy0
  clear hb1 hb2 hb3 hs1 hs2 hD hH hB h
  unfold aggN
  go_enter Try.func35, Try.ntmps35
  go_upto_block 0 with fail
  change Code.wp _ _ _ _ (((w.alloc (boxN dv)).alloc (boxN nv)).alloc (boxN zeroN))
  generalize ((w.alloc (boxN dv)).alloc (boxN nv)).alloc (boxN zeroN) = w3 at HB HP HD HH ⊢
  go_wp2_with fail
  go_loopw [1, 2] (fun a b wr => a = .map ev ∧ b = .int .i64 (i : Int) ∧ w3 = wr) (fun _ _ _ => 0)
  case atStart => exact ⟨rfl, rfl, rfl⟩
  case round =>
    obtain ⟨rfl, rfl, rfl⟩ := hrel
    obtain ⟨_, d0, hp⟩ := HP.out
    have HO := hid (pok_any w3 hp)
    rw [he0] at HO
    have hDl := lt_of_block HD.out
    have hHl := lt_of_block HH.out
    obtain ⟨⟨a0, a1, a2⟩, _⟩ := boxN_facts HD.out
    obtain ⟨⟨z0, z1, z2⟩, z3, z4, z5⟩ := boxN_facts HH.out
    have HBk : Hid (∀ W, Below w3.heap.size w3 W → W.cell? ⟨w.heap.size, 0, none⟩ = some (.int .i64 dv.kind) ∧ W.cell? ⟨w.heap.size, 1, none⟩ = some (.int .i64 dv.tok) ∧ W.cell? ⟨w.heap.size, 2, none⟩ = some (.slice dv.a dv.n dv.c)) := fun W hW => (boxN_facts ((hW.block _ hDl).trans HD.out)).1
    have hB : Below w3.heap.size w3 w3.drew := (Below.refl w3.heap.size w3).drew
    have hDH : w.heap.size ≠ w.heap.size + 1 + 1 := by omega
    have HNd := hid (fun n0 => need_bad (w3.drewN n0) (hp.draws n0) hy0 i (by omega) ⟨#[59]⟩)
    have HPe : Hid (PbAt (putN (w3.drewN 1) (w.heap.size + 1 + 1) dv) r la lc L y) := ⟨hy0, _, px_put (w' := w) (B := w.heap.size + 1 + 1) (hp.draws 1) (by omega) hrw HUn.out dv⟩
    clear hp
    go_wp2_with fail
    refine HO.out.mono ?_
    rintro e3 w4 ⟨rfl, rfl⟩
    go_wp2_with fail
    go_region_held3 (fun W => W.cell? ⟨w.heap.size, 0, none⟩ = some (.int .i64 dv.kind) ∧ W.cell? ⟨w.heap.size, 1, none⟩ = some (.int .i64 dv.tok) ∧ W.cell? ⟨w.heap.size, 2, none⟩ = some (.slice dv.a dv.n dv.c))
      (first | exact HBk.out _ hB | exact (boxN_facts ((putN_other _ (w.heap.size + 1 + 1) dv w.heap.size hDH).trans ((hB.block _ hDl).trans HD.out))).1)
      ((go_at_call 36; refine (HNd.out 1).mono ?_; rintro ez wz ⟨rfl, rfl⟩; have hHz := (hB.block _ hHl).trans HH.out; obtain ⟨⟨q0, q1, q2⟩, q3, q4, q5⟩ := boxN_facts hHz; have hHzl := lt_of_block hHz))
    have HHz := hid hHz
    have HBe : Hid (Below w.heap.size w (putN (w4.drewN 1) (w.heap.size + 1 + 1) dv)) := by
      show Below _ _ _
      unfold putN
      exact (((HB.out.trans (hB.mono HB.out.size)).setCell (p := ⟨w.heap.size + 1 + 1, 0, none⟩) (by simp; omega) _).setCell (p := ⟨w.heap.size + 1 + 1, 1, none⟩) (by simp; omega) _).setCell (p := ⟨w.heap.size + 1 + 1, 2, none⟩) (by simp; omega) _
    clear hHz q0 q1 q2 q3 q4 q5
    go_wp2_with fail
    exact bodyPost_ret (nret3 Try.results35 (putN_block dv HHz.out) _ rfl rfl rfl) rfl ⟨rfl, HPe.out, HBe.out⟩

/-- What a declaration's reading answers. -/
abbrev CPost (r : Nat) (la : Option Addr) (lc : Nat) (L : List Tk) (d K : Nat) (R : Got (Nd × Nat × En)) (w : World) (x : Ending) (w' : World) : Prop := RPost r la lc L (· = r) (w.heap.size ≤ ·) d K R w x w'
theorem RPost.any {X T : Nat → Prop} {d K : Nat} {R : Got (Nd × Nat × En)} {x : Ending} (h : RPost r la lc L X T d K R w x w') : ∃ (v : Nv) (k : Nat) (ev : Option Nat), x = .returned (.tuple #[aggN v, .int .i64 (k : Int), .map ev]) ∧ Kept X w w' ∧
    ((∃ n en, R = .ok (n, k, en) ∧ NdIs w' T v n ∧ PkAt w' r la lc L d ∧ k ≤ L.length ∧ en.length ≤ k ∧ EnAt w' (.map ev) en) ∨ (∃ y, R = .error y ∧ k ≤ K ∧ PbAt w' r la lc L y)) := by
  obtain ⟨hk, h⟩ := h
  rcases R with y | ⟨n, k, en⟩
  · obtain ⟨v, k, ev, hx, h1, h2⟩ := h
    exact ⟨v, k, ev, hx, hk, .inr ⟨y, rfl, h1, h2⟩⟩
  · obtain ⟨v, ev, hx, h1, h2, h3, h4, h5⟩ := h
    exact ⟨v, k, ev, hx, hk, .inl ⟨n, en, rfl, h1, h2, h3, h4, h5⟩⟩
/-- A declarator, and what follows it. -/
def tailR (L : List Tk) (X : Nat → Nat → Got (Nd × Nat)) (typ : Bool) (en : En) (j : Nat) : Got (Nd × Nat × En) := match dclR L X en (j + 1) typ with
  | .error x => .error x
  | .ok (n, k, e2) => restR L X typ e2 k [.mk 16 (j : Int) []] n
theorem declJ_tail (X : Nat → Nat → Got (Nd × Nat)) (e : En) (j : Nat) (typ : Bool) (h : typT L e j = true) : declJ L X e j typ = tailR L X typ e j := by
  unfold declJ tailR
  rw [if_neg (by rw [h]; simp)]
  cases dclR L X e (j + 1) typ with
  | error x => rfl
  | ok y => rfl
/-- A declarator, and what follows it: from the type's node on. -/
theorem decl_tail (d m : Nat) (hd : d + m = 30) (hs : ∀ t ∈ L, t.text.size ≤ 3000) (w6 w7 : World) (tj : Nat) (en : En) (typ : Bool) (v7 : Nv) (k7 : Nat) (ev7 : Option Nat) (hH : w.heap.size ≤ w6.heap.size) (hrw : r < w.heap.size) (hU : ∀ b off, la = some ⟨b, off, none⟩ → L ≠ [] → b < w.heap.size) (hk7 : Kept (· = r) w6 w7)
    (hc : (∃ n en2, dclR L (fun l i => exR L m 0 l i) en (tj + 1) typ = .ok (n, k7, en2) ∧ NdAp w7 (w6.heap.size ≤ ·) v7 n ∧ PkAt w7 r la lc L d ∧ k7 ≤ L.length ∧ en2.length ≤ k7 ∧ EnAt w7 (.map ev7) en2) ∨ (∃ y, dclR L (fun l i => exR L m 0 l i) en (tj + 1) typ = .error y ∧ k7 ≤ kbX L m + 2 ∧ PbAt w7 r la lc L y)) :
    ∀ W, Below w7.heap.size w7 W → Calls Try.prog 35 #[.pointer (some ⟨r, 0, none⟩), .map ev7, .int .i64 (k7 : Int), aggN ⟨2, -1, some ⟨W.heap.size, 0, none⟩, 1, 1⟩, aggN v7, .bool typ] (W.alloc (.cells (cellsN [⟨16, tj, none, 0, 0⟩]).toArray 26)) fun x w' => ∃ (v : Nv) (k : Nat) (ev : Option Nat), x = .returned (.tuple #[aggN v, .int .i64 (k : Int), .map ev]) ∧ (∀ b, b < W.heap.size → b ≠ r → v7.kv.ownBlock ≠ some b → w'.heap[b]? = W.heap[b]?) ∧ Kept (· = r) w6 w' ∧
      ((∃ n en2, tailR L (fun l i => exR L m 0 l i) typ en tj = .ok (n, k, en2) ∧ NdIs w' (fun b => w6.heap.size ≤ b ∧ (b < w7.heap.size ∨ W.heap.size ≤ b)) v n ∧ PkAt w' r la lc L d ∧ k ≤ L.length ∧ en2.length ≤ k ∧ EnAt w' (.map ev) en2) ∨
       (∃ y, tailR L (fun l i => exR L m 0 l i) typ en tj = .error y ∧ k ≤ kbX L m + 4 ∧ PbAt w' r la lc L y)) := by
  intro W hW
  have hz7 := hk7.size
  have hzW := hW.size
  have hb := below_new W (.cells (cellsN [⟨16, tj, none, 0, 0⟩]).toArray 26)
  have hbb : Below w7.heap.size w7 (W.alloc (.cells (cellsN [⟨16, tj, none, 0, 0⟩]).toArray 26)) := hW.trans (hb.mono hzW)
  rcases hc with ⟨n, en2, h1, h2, h3, h4, h5, h6⟩ | ⟨y, h1, h2, h3⟩
  · have ht : tailR L (fun l i => exR L m 0 l i) typ en tj = restR L (fun l i => exR L m 0 l i) typ en2 k7 [.mk 16 (tj : Int) []] n := by unfold tailR; rw [h1]
    rw [ht]
    obtain ⟨f1, f2⟩ := dclR_facts (exR_adv L m).1 h1
    refine (rest_any d m hd hs en2 k7 typ ev7 _ (tj : Int) W.heap.size v7 n (fun b => w6.heap.size ≤ b ∧ b < w7.heap.size) (h3.below hbb) h4 h5 (by omega) (h6.below hbb) (heap_alloc_new _ _) (by omega) (fun b off e hL => by have := hU b off e hL; omega) ((h2.mono (Q := fun b => w6.heap.size ≤ b ∧ b < w7.heap.size) fun b hb hlt => ⟨hb, hlt⟩).kept fun b _ hlt => hbb.block b hlt) f1 (fun b hb => ⟨by omega, by omega, fun off e => Classical.byContradiction fun hL => by have := hU b off e hL; omega⟩)).mono ?_
    rintro x w' hq
    obtain ⟨v, k, ev, hx, hkk, hcc⟩ := hq.any
    have hun : ∀ b, b < W.heap.size → b ≠ r → v7.kv.ownBlock ≠ some b → w'.heap[b]? = W.heap[b]? := fun b hlt hr hn => (hkk.block b (by simp; omega) (fun hx => by rcases hx with e | e | e; exact hr e; omega; exact hn e)).trans (hb.block b hlt)
    have hrow7 : ∀ b, v7.kv.ownBlock = some b → w6.heap.size ≤ b := fun b e => by obtain ⟨_, _, _, q3, _⟩ := h2.kids; exact q3 b e
    refine ⟨v, k, ev, hx, hun, ⟨hkk.os.trans (hbb.os.trans hk7.os), hkk.tape.trans (hbb.tape.trans hk7.tape), hkk.output.trans (hbb.output.trans hk7.output), by have := hkk.size; have := hbb.size; omega, fun b hlt hr => (hun b (by omega) hr (fun e => by have := hrow7 b e; omega)).trans ((hW.block b (by omega)).trans (hk7.block b hlt hr))⟩, ?_⟩
    rcases hcc with ⟨n', en', c1, c2, c3, c4, c5, c6⟩ | ⟨y, c1, c2, c3⟩
    · refine .inl ⟨n', en', c1, c2.mono fun b hb _ => ?_, c3, c4, c5, c6⟩
      rcases hb with hb | rfl | hb
      · exact ⟨hb.1, .inl hb.2⟩
      · exact ⟨by omega, .inr (Nat.le_refl _)⟩
      · simp at hb; exact ⟨by omega, .inr (by omega)⟩
    · exact .inr ⟨y, c1, c2, c3⟩
  · have ht : tailR L (fun l i => exR L m 0 l i) typ en tj = .error y := by unfold tailR; rw [h1]
    rw [ht]
    have hkl : kbX L m ≤ 100000 := by
      obtain ⟨_, _, q⟩ := h3
      have := q.few
      unfold kbX; omega
    refine (rest_bad _ (h3.below hbb) k7 (by omega) typ ev7 ⟨2, -1, some ⟨W.heap.size, 0, none⟩, 1, 1⟩ v7).mono ?_
    rintro x w' ⟨hx, hp, hbe⟩
    exact ⟨_, k7 + 1, ev7, hx, fun b hlt _ _ => (hbe.block b (by simp; omega)).trans (hb.block b hlt), (hk7.trans (kept_below hbb)).trans (kept_below hbe), .inr ⟨y, rfl, by omega, hp⟩⟩
end
end
section
open Go.RowKit Go.Shelf
section
variable {r : Nat} {la : Option Addr} {lc : Nat} {L : List Tk} {w w' : World}
theorem declR_at (X : Nat → Nat → Got (Nd × Nat)) (e : En) (i : Nat) : declR L X e i = declJ L X e (if wordT L i = wTypedef then i + 1 else i) (decide (wordT L i = wTypedef)) := by
  unfold declR
  by_cases h : wordT L i = wTypedef
  · rw [if_pos h, if_pos h, decide_eq_true h]
  · rw [if_neg h, if_neg h, decide_eq_false h]

theorem typ_len {en : En} (hnil : typN en [] = false) {j : Nat} (h : typT L en j = true) : j + 1 ≤ L.length := by
  apply Classical.byContradiction
  intro hn
  have e : wordT L j = [] := by unfold wordT; rw [List.getElem?_eq_none (by omega)]
  unfold typT at h
  rw [e, hnil] at h
  cases h

set_option maxRecDepth 100000 in
set_option maxHeartbeats 4000000 in
theorem decl_any (d m : Nat) (hd : d + m = 30) (hs : ∀ t ∈ L, t.text.size ≤ 3000) (en : En) (i : Nat) (ev : Option Nat) (w : World) (h : PkAt w r la lc L d) (hi : i ≤ L.length) (hel : en.length ≤ i) (hnil : typN en [] = false) (hev : EnAt w (.map ev) en) :
    Calls Try.prog 32 #[.pointer (some ⟨r, 0, none⟩), .map ev, .int .i64 (i : Int)] w (CPost r la lc L d (kbX L m + 4) (declR L (fun l i => exR L m 0 l i) en i) w) := by
  have hrw := h.lt
  have HNil := hid hnil
  clear hnil
  have HUn := hid h.under
  have hfew := h.few
  have hbox := h.box
  have hkl : kbX L m ≤ 100000 := by unfold kbX; omega
  have hkL : L.length + 10 ≤ kbX L m := by unfold kbX; omega
  have hB1 := below_new w (boxN zeroN)
  have HP1 := hid (h.below hB1)
  have HK1 := hid (kept_below (X := (· = r)) hB1)
  have HH1 := hid (heap_alloc_new w (boxN zeroN))
  have HE1 := hid (hev.below hB1)
  have HW := hid (pword_any _ HP1.out i)
  have hwt := wrd_lit L i wTypedef
  rw [declR_at]
  have hjl : (if wordT L i = wTypedef then i + 1 else i) ≤ L.length := by
    split
    · rename_i h1; have := wrd_lt h1 (by simp); omega
    · exact hi
  have hje : en.length ≤ (if wordT L i = wTypedef then i + 1 else i) := by split <;> omega
  have HJ : Hid (∀ b, decide (wordT L i = wTypedef) = b → (if wordT L i = wTypedef then i + 1 else i) = if b = true then i + 1 else i) := fun b hb => by
    subst hb
    by_cases h1 : wordT L i = wTypedef
    · simp [h1]
    · simp [h1]
  generalize hjj : (if wordT L i = wTypedef then i + 1 else i) = j at hjl hje HJ ⊢
  generalize htd : decide (wordT L i = wTypedef) = td at HJ hwt ⊢
  have HJ2 := hid (HJ.out td rfl)
  have hwk : IntKind.i64.wrap ((i : Int) + 1) = ((i + 1 : Nat) : Int) := by rw [IntKind.wrap_i64]; omega
  have hw1 : w.heap.size < (w.alloc (boxN zeroN)).heap.size := by simp
  clear h hB1 hbox hev hjj htd HJ
  go_enter Try.func32, Try.ntmps32
  go_upto_if 16 with (go_at_call 31; refine HW.out.mono ?_; rintro e3 w3 ⟨rfl, rfl⟩)
  change Code.wp _ _ _ _ (w.alloc (boxN zeroN))
  generalize w.alloc (boxN zeroN) = w1 at HP1 HK1 HH1 HE1 hw1 ⊢
  go_cut [2] (fun x wx => x = .int .i64 (j : Int) ∧ w1 = wx)
  case first =>
    cases td with
    | true =>
      go_wp2_with fail
      go_meet
      exact ⟨by rw [HJ2.out]; go_num, rfl⟩
    | false =>
      go_wp2_with fail
      go_meet
      exact ⟨by rw [HJ2.out]; rfl, rfl⟩
  case rest =>
    obtain ⟨rfl, rfl⟩ := hcut
    clear hwt HW HJ2 hwk
    cases hty : typT L en j with
    | false =>
      have HT := hid (ptype_miss w1 HP1.out hs HE1.out j (by omega) hty)
      have HR : Hid (declJ L (fun l i => exR L m 0 l i) en j td = .error (2, j)) := by show _ = _; unfold declJ; rw [if_pos hty]
      clear hty
      go_wp2_with fail
      refine HT.out.mono ?_
      rintro e4 w4 ⟨rfl, hp4, hk4⟩
      have hb5 := below_new w4 (boxN ⟨16, j, none, 0, 0⟩)
      have hp5 := hp4.below hb5
      have HO := hid (pok_any _ hp5)
      rw [show ((2 : Int) == 0) = false from rfl] at HO
      have hH5 := (hb5.block _ (by have := hk4.size; omega)).trans ((hk4.block _ hw1 (by omega)).trans HH1.out)
      have HH5 := hid hH5
      have HT5 := hid (heap_alloc_new w4 (boxN ⟨16, j, none, 0, 0⟩))
      have HKe := hid (putN_kept ((HK1.out.trans hk4).trans (kept_below hb5)) (Nat.le_refl _) ⟨16, j, none, 0, 0⟩)
      have HPe := hid (px_put (w' := w) hp5 (Nat.le_refl _) hrw HUn.out ⟨16, j, none, 0, 0⟩)
      have hz4 := hk4.size
      clear hp4 hk4 hb5 hp5 hH5
      unfold aggN
      go_wp2_with fail
      refine HO.out.mono ?_
      rintro e5 w5 ⟨rfl, rfl⟩
      generalize w4.alloc (boxN ⟨16, j, none, 0, 0⟩) = w5 at HH5 HT5 HKe HPe ⊢
      obtain ⟨⟨a0, a1, a2⟩, _⟩ := boxN_facts HT5.out
      obtain ⟨⟨z0, z1, z2⟩, z3, z4, z5⟩ := boxN_facts HH5.out
      have hHl := lt_of_block HH5.out
      have hTl := lt_of_block HT5.out
      go_wp2_with fail
      exact bodyPost_ret (nret3 Try.results32 (putN_block ⟨16, j, none, 0, 0⟩ HH5.out) _ rfl rfl rfl) rfl (RPost.bad (k := j + 1) HR.out HKe.out (by omega) ⟨show (2 : Int) ≠ 0 by decide, _, HPe.out⟩)
    | true =>
      have HT := hid (ptype_hit w1 HP1.out hs HE1.out j (by omega) hty)
      have HR := hid (declJ_tail (L := L) (fun l i => exR L m 0 l i) en j td hty)
      have HTy := hid hty
      clear hty
      go_wp2_with fail
      refine HT.out.mono ?_
      rintro e4 w4 ⟨rfl, hb4⟩
      have hb5 := below_new w4 (boxN ⟨16, j, none, 0, 0⟩)
      have hz4 := hb4.size
      have hp5 := (HP1.out.below hb4).below hb5
      have HP5 := hid hp5
      have HO := hid (pok_any _ hp5)
      have HE5 := hid ((HE1.out.below hb4).below hb5)
      have HH5 := hid ((hb5.block _ (by omega)).trans ((hb4.block _ hw1).trans HH1.out))
      have HT5 := hid (heap_alloc_new w4 (boxN ⟨16, j, none, 0, 0⟩))
      have HK5 := hid ((HK1.out.trans (kept_below hb4)).trans (kept_below hb5))
      have hz5 : w4.heap.size < (w4.alloc (boxN ⟨16, j, none, 0, 0⟩)).heap.size := by simp
      clear hb4 hb5 hp5 HT
      unfold aggN
      go_wp2_with fail
      refine HO.out.mono ?_
      rintro e5 w5 ⟨rfl, rfl⟩
      generalize w4.alloc (boxN ⟨16, j, none, 0, 0⟩) = w5 at HP5 HE5 HH5 HT5 HK5 hz5 ⊢
      have hjl2 : j + 1 ≤ L.length := typ_len HNil.out HTy.out
      have HDc := hid (dcl_any (r := r) (la := la) (lc := lc) d m hd hs en (j + 1) td ev w5 HP5.out hjl2 (by omega) HE5.out)
      clear HO
      go_wp2_with fail
      refine HDc.out.mono ?_
      rintro e7 w7 hq7
      obtain ⟨v7, k7, ev7, rfl, hk7, hc7⟩ := hq7.any
      have hz7 := hk7.size
      have hbN := below_new w7 (boxN v7)
      have HTl := hid (decl_tail (w := w) (r := r) (la := la) (lc := lc) d m hd hs w5 w7 j en td v7 k7 ev7 (by omega) hrw HUn.out hk7 hc7 (w7.alloc (boxN v7)) hbN)
      have hTw := (hbN.block _ (by omega)).trans ((hk7.block _ hz5 (by omega)).trans HT5.out)
      have hHw := (hbN.block _ (by omega)).trans ((hk7.block _ (lt_of_block HH5.out) (by omega)).trans HH5.out)
      have hNw := heap_alloc_new w7 (boxN v7)
      have hsN : (w7.alloc (boxN v7)).heap.size = w7.heap.size + 1 := by simp
      have HHw := hid hHw
      rw [hsN] at HTl
      obtain ⟨⟨t0, t1, t2⟩, _⟩ := boxN_facts ((hk7.block _ hz5 (by omega)).trans HT5.out)
      have hTl7 : w4.heap.size < w7.heap.size := by omega
      clear hk7 hq7 hbN hTw hHw hNw
      unfold aggN at HTl ⊢
      go_wp2_with fail
      refine HTl.out.mono ?_
      rintro e9 w9 ⟨v9, k9, ev9, rfl, hun9, hk9, hc9⟩
      have hH9 := (hk9.block _ (lt_of_block HH5.out) (by omega)).trans HH5.out
      have HH9 := hid hH9
      have HKe := hid (putN_kept (HK5.out.trans hk9) (Nat.le_refl _) v9)
      have HC : Hid (CPost r la lc L d (kbX L m + 4) (declJ L (fun l i => exR L m 0 l i) en j td) w (.returned (.tuple #[aggN v9, .int .i64 (k9 : Int), .map ev9])) (putN w9 w.heap.size v9)) := by
        show RPost _ _ _ _ _ _ _ _ _ _ _ _
        rw [HR.out]
        rcases hc9 with ⟨n, en2, h1, h2, h3, h4, h5, h6⟩ | ⟨y, h1, h2, h3, d', h4⟩
        · refine RPost.good h1 HKe.out ?_ (px_put (w' := w) h3 (Nat.le_refl _) hrw HUn.out v9) h4 h5 (h6.put hH9 v9)
          exact (h2.kept (w' := putN w9 w.heap.size v9) fun b hb _ => putN_other _ _ _ _ (by have := hb.1; omega)).mono fun b hb _ => by have := hb.1; show w.heap.size ≤ b; omega
        · exact RPost.bad h1 HKe.out h2 ⟨h3, d', px_put (w' := w) h4 (Nat.le_refl _) hrw HUn.out v9⟩
      obtain ⟨⟨z0, z1, z2⟩, z3, z4, z5⟩ := boxN_facts hH9
      have hHl9 := lt_of_block hH9
      clear hun9 hk9 hc9 hH9 t0 t1 t2
      go_wp2_with fail
      exact bodyPost_ret (nret3 Try.results32 (putN_block v9 HH9.out) _ rfl rfl rfl) rfl HC.out
end
end
section
open Go.RowKit Go.Shelf
section
variable {L : List Tk}
theorem txt_ne (hF : ∀ t ∈ L, t.text.size ≠ 0) {j : Nat} (h : nameT L j = true) : txtT L j ≠ [] := by
  have hj := nam_lt h
  unfold txtT
  rw [List.getElem?_eq_getElem hj]
  intro e
  refine hF L[j] (List.getElem_mem hj) ?_
  have := congrArg List.length e
  simpa using this
theorem dclR_nil (hF : ∀ t ∈ L, t.text.size ≠ 0) {X : Nat → Nat → Got (Nd × Nat)} {e : En} {i : Nat} {typ : Bool} {n : Nd} {k : Nat} {e' : En} (h : dclR L X e i typ = .ok (n, k, e')) (hn : typN e [] = false) : typN e' [] = false := by
  unfold dclR at h
  generalize starF L (L.length + 1) i = j at h
  cases hnm : nameT L j with
  | false => unfold dclJ at h; rw [if_pos hnm] at h; cases h
  | true =>
    rw [dclJ_is X e j typ hnm] at h
    have key : typN ((txtT L j, typ) :: e) [] = false := by unfold typN; rw [if_neg (txt_ne hF hnm)]; exact hn
    cases hd : dclN L X j with
    | error x => rw [hd] at h; cases h
    | ok y => rw [hd] at h; cases h; exact key
theorem initR_ge {X : Nat → Nat → Got (Nd × Nat)} (hX : Adv L X) {typ : Bool} {i : Nat} {n n' : Nd} {j : Nat} (h : initR L X typ i n = .ok (n', j)) : i ≤ j := by
  unfold initR at h
  split at h
  · split at h
    · cases h
    · rename_i x k hx
      have := hX 2 _ _ _ (by omega) hx
      cases h; omega
  · cases h; exact Nat.le_refl _
theorem restF_facts (hF : ∀ t ∈ L, t.text.size ≠ 0) {X : Nat → Nat → Got (Nd × Nat)} (hX : Adv L X) {typ : Bool} : ∀ (g : Nat) {e : En} {i : Nat} {ds : List Nd} {n : Nd} {ds' : List Nd} {k : Nat} {e' : En}, restF L X typ g e i ds n = .ok (ds', k, e') → i < k ∧ (typN e [] = false → typN e' [] = false)
  | 0, e, i, ds, n, ds', k, e', h => by simp [restF] at h
  | g + 1, e, i, ds, n, ds', k, e', h => by
    simp only [restF] at h
    split at h
    · cases h
    · rename_i n1 j hi
      have h1 := initR_ge hX hi
      split at h
      · split at h
        · cases h
        · rename_i n2 k2 e2 hd
          have h2 := (dclR_facts hX hd).2
          have h3 := restF_facts hF hX g h
          exact ⟨by omega, fun hn => h3.2 (dclR_nil hF hd hn)⟩
      · split at h
        · cases h; exact ⟨by omega, id⟩
        · cases h
theorem declR_facts (hF : ∀ t ∈ L, t.text.size ≠ 0) {X : Nat → Nat → Got (Nd × Nat)} (hX : Adv L X) {e : En} {i : Nat} {n : Nd} {k : Nat} {e' : En} (h : declR L X e i = .ok (n, k, e')) : i < k ∧ (typN e [] = false → typN e' [] = false) := by
  have key : ∀ j typ, declJ L X e j typ = .ok (n, k, e') → j < k ∧ (typN e [] = false → typN e' [] = false) := fun j typ hj => by
    unfold declJ at hj
    split at hj
    · cases hj
    · split at hj
      · cases hj
      · rename_i n1 k1 e1 hd
        have h2 := (dclR_facts hX hd).2
        unfold restR at hj
        split at hj
        · cases hj
        · rename_i ds k2 e2 hr
          have h3 := restF_facts hF hX _ hr
          cases hj
          exact ⟨by omega, fun hn => h3.2 (dclR_nil hF hd hn)⟩
  unfold declR at h
  split at h
  · have := key _ _ h; exact ⟨by omega, this.2⟩
  · exact key _ _ h
theorem semiR_lt {X : Nat → Nat → Got (Nd × Nat)} (hX : Adv L X) {kd : Int} {i : Nat} {n : Nd} {k : Nat} (h : semiR L X kd i = .ok (n, k)) : i < k := by
  unfold semiR at h
  split at h
  · cases h; omega
  · split at h
    · cases h
    · rename_i x k1 hx
      have := hX 1 _ _ _ (Nat.le_refl _) hx
      split at h
      · cases h; omega
      · cases h
theorem blkLoop_ge {S : En → Nat → Got (Nd × Nat × En)} (hS : ∀ e i n k e', S e i = .ok (n, k, e') → i < k) : ∀ (g : Nat) {e : En} {i : Nat} {ks ks' : List Nd} {k : Nat}, blkLoop L S g e i ks = .ok (ks', k) → i ≤ k
  | 0, e, i, ks, ks', k, h => by simp [blkLoop] at h
  | g + 1, e, i, ks, ks', k, h => by
    simp only [blkLoop] at h
    split at h
    · cases h; exact Nat.le_refl _
    · split at h
      · cases h
      · split at h
        · cases h
        · rename_i x k1 e2 hx
          have h1 := hS _ _ _ _ _ hx
          have h2 := blkLoop_ge hS g h
          omega
theorem stR_facts (hF : ∀ t ∈ L, t.text.size ≠ 0) : ∀ (m : Nat), (∀ e i n k e', stR L m 0 e i = .ok (n, k, e') → i < k ∧ (typN e [] = false → typN e' [] = false)) ∧ (∀ e i n k e', stR L m 1 e i = .ok (n, k, e') → i < k ∧ e' = e)
  | 0 => ⟨fun e i n k e' h => by simp [stR] at h, fun e i n k e' h => by simp [stR] at h⟩
  | m + 1 => by
    obtain ⟨hS, hB⟩ := stR_facts hF m
    have hX := (exR_adv L m).1
    constructor
    · intro e i n k e' h
      simp only [stR] at h
      split at h
      · split at h
        · cases h
        · rename_i n1 k1 e1 hb
          have := hB _ _ _ _ _ hb
          cases h; exact ⟨this.1, id⟩
      · split at h
        · split at h
          · cases h
          · split at h
            · cases h
            · rename_i x k1 hx
              have h1 := hX 1 _ _ _ (Nat.le_refl _) hx
              split at h
              · cases h
              · split at h
                · cases h
                · rename_i y j e1 hy
                  have h2 := (hS _ _ _ _ _ hy).1
                  split at h
                  · split at h
                    · cases h
                    · rename_i z j2 e2 hz
                      have h3 := (hS _ _ _ _ _ hz).1
                      cases h; exact ⟨by omega, id⟩
                  · cases h; exact ⟨by omega, id⟩
        · split at h
          · split at h
            · cases h
            · rename_i n1 k1 hs
              have := semiR_lt hX hs
              cases h; exact ⟨by omega, id⟩
          · split at h
            · exact declR_facts hF hX h
            · split at h
              · cases h
              · rename_i n1 k1 hs
                have := semiR_lt hX hs
                cases h; exact ⟨by omega, id⟩
    · intro e i n k e' h
      simp only [stR] at h
      split at h
      · cases h
      · split at h
        · cases h
        · rename_i ks k1 hb
          have := blkLoop_ge (fun e i n k e' h => (hS e i n k e' h).1) _ hb
          cases h; exact ⟨by omega, rfl⟩
end
end
end Go.Proofs.Ytkfbhknhjpmomaa
