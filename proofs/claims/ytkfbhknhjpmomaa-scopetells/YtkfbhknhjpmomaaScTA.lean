/- The names in the document's own tree, in the order in which they are met: each name of the text once, and they rise; how great it is. · What is bound in a tree: its names, in order; what is meant was made ahead of it, of the same text, and means itself. -/
import Derived.Test.YtkfbhknhjpmomaaScNA
import Derived.Test.YtkfbhknhjpmomaaScLt
namespace Go.Proofs.Ytkfbhknhjpmomaa
section
/-- Whether the last one is a block. -/
def lastOk : List Nd → Bool
  | [] => false
  | n :: r => if r.isEmpty = true then decide (n.kind = 5) else lastOk r
theorem lastOk_snoc {b : Nd} (hb : b.kind = 5) : ∀ ps : List Nd, lastOk (ps ++ [b]) = true
  | [] => by simp [lastOk, hb]
  | n :: ps => by
    rw [List.cons_append, lastOk, if_neg (by simp)]
    exact lastOk_snoc hb ps
/-- Whether a function's kids are a type, a name and more, a block last. -/
def funOk : List Nd → Bool
  | .mk k0 _ s0 :: .mk k1 _ s1 :: r => decide (k0 = 16) && s0.isEmpty && decide (k1 = 4) && s1.isEmpty && lastOk r
  | _ => false
/-- Whether a place of kind kd and token tk is a name that is met; what is no good is told by a token past the end. -/
def hdT (L : List Tk) (kd tk : Int) (ks : List Nd) : List Nat :=
  if kd = 4 ∨ kd = 10 then [if 0 ≤ tk ∧ (kd = 4 ∨ ks = []) then tk.toNat else L.length]
  else if kd = 16 then (if tk < 0 ∨ ks.isEmpty = false then [L.length] else if baseW (txtT L tk.toNat) = true then [] else if keyW (txtT L tk.toNat) = true then [L.length] else [tk.toNat])
  else if kd = 3 ∧ funOk ks = false then [L.length] else []
mutual
/-- The names of a tree. -/
def mtN (L : List Tk) : Nd → List Nat
  | .mk kd tk ks => hdT L kd tk ks ++ mtL L ks
def mtL (L : List Tk) : List Nd → List Nat
  | [] => []
  | n :: r => mtN L n ++ mtL L r
end
theorem mtN_mk (L : List Tk) (kd tk : Int) (ks : List Nd) : mtN L (.mk kd tk ks) = hdT L kd tk ks ++ mtL L ks := by rw [mtN]
theorem mtL_nil (L : List Tk) : mtL L [] = [] := by rw [mtL]
theorem mtL_cons (L : List Tk) (n : Nd) (r : List Nd) : mtL L (n :: r) = mtN L n ++ mtL L r := by rw [mtL]
theorem mtL_app (L : List Tk) : ∀ a b : List Nd, mtL L (a ++ b) = mtL L a ++ mtL L b
  | [], b => by rw [mtL_nil]; rfl
  | n :: a, b => by rw [List.cons_append, mtL_cons, mtL_cons, mtL_app L a b, List.append_assoc]
/-- A kind that is no name's and no function's. -/
def okK (k : Int) : Prop := k ≠ 3 ∧ k ≠ 4 ∧ k ≠ 10 ∧ k ≠ 16
theorem hd_ok (L : List Tk) {k : Int} (h : okK k) (tk : Int) (ks : List Nd) : hdT L k tk ks = [] := by
  obtain ⟨h3, h4, h10, h16⟩ := h
  unfold hdT
  rw [if_neg (by omega), if_neg h16, if_neg (by omega)]
theorem mt_ok (L : List Tk) {k : Int} (h : okK k) (tk : Int) (ks : List Nd) : mtN L (.mk k tk ks) = mtL L ks := by
  rw [mtN_mk, hd_ok L h]
  rfl
theorem mt_dec (L : List Tk) (tk : Int) (ks : List Nd) : mtN L (.mk 2 tk ks) = mtL L ks := mt_ok L (by unfold okK; omega) tk ks
theorem mt_bin (L : List Tk) (tk : Int) (ks : List Nd) : mtN L (.mk 13 tk ks) = mtL L ks := mt_ok L (by unfold okK; omega) tk ks
theorem mt_call (L : List Tk) (tk : Int) (ks : List Nd) : mtN L (.mk 14 tk ks) = mtL L ks := mt_ok L (by unfold okK; omega) tk ks
theorem mt_at (L : List Tk) (tk : Int) (ks : List Nd) : mtN L (.mk 15 tk ks) = mtL L ks := mt_ok L (by unfold okK; omega) tk ks
theorem mt_un (L : List Tk) (tk : Int) (ks : List Nd) : mtN L (.mk 12 tk ks) = mtL L ks := mt_ok L (by unfold okK; omega) tk ks
theorem mt_lit (L : List Tk) (tk : Int) (ks : List Nd) : mtN L (.mk 11 tk ks) = mtL L ks := mt_ok L (by unfold okK; omega) tk ks
theorem mt_use (L : List Tk) (i : Nat) : mtN L (.mk 10 (i : Int) []) = [i] := by
  rw [mtN_mk, mtL_nil]
  simp [hdT]
theorem mt_dcl (L : List Tk) (i : Nat) (ks : List Nd) : mtN L (.mk 4 (i : Int) ks) = i :: mtL L ks := by
  rw [mtN_mk]
  simp [hdT]
/-- From i to j these are the names, they rise. -/
def Cv (L : List Tk) (i j : Nat) (l : List Nat) : Prop := (i ≤ j ∧ (i ≤ L.length → j ≤ L.length)) ∧ (∀ t ∈ l, i ≤ t ∧ t < j ∧ nameT L t = true) ∧ l.Pairwise (· < ·) ∧ ∀ t, i ≤ t → t < j → nameT L t = true → t ∈ l
theorem Cv.nil (L : List Tk) (i : Nat) : Cv L i i [] := ⟨⟨Nat.le_refl _, id⟩, fun t h => by (cases h), List.Pairwise.nil, fun t h1 h2 => by omega⟩
theorem Cv.app {L : List Tk} {i j k : Nat} {a b : List Nat} (h1 : Cv L i j a) (h2 : Cv L j k b) : Cv L i k (a ++ b) := by
  obtain ⟨⟨p1, p2⟩, p3, p4, p5⟩ := h1
  obtain ⟨⟨q1, q2⟩, q3, q4, q5⟩ := h2
  refine ⟨⟨by omega, fun h => q2 (p2 h)⟩, fun t ht => ?_, ?_, fun t h3 h4 h5 => ?_⟩
  · rcases List.mem_append.1 ht with h | h
    · have := p3 t h
      exact ⟨this.1, by omega, this.2.2⟩
    · have := q3 t h
      exact ⟨by omega, this.2.1, this.2.2⟩
  · rw [List.pairwise_append]
    refine ⟨p4, q4, fun x hx y hy => ?_⟩
    have := p3 x hx
    have := q3 y hy
    omega
  · rw [List.mem_append]
    by_cases h : t < j
    · exact .inl (p5 t h3 h h5)
    · exact .inr (q5 t (by omega) h4 h5)
/-- And at most two nodes a token. -/
def Gd (L : List Tk) (i j : Nat) (l : List Nat) (z : Nat) : Prop := Cv L i j l ∧ z ≤ 2 * (j - i)
abbrev GdN (L : List Tk) (i j : Nat) (n : Nd) : Prop := Gd L i j (mtN L n) (zN n)
abbrev GdL (L : List Tk) (i j : Nat) (ks : List Nd) : Prop := Gd L i j (mtL L ks) (zL ks)
theorem Gd.app {L : List Tk} {i j k : Nat} {a b : List Nat} {y z : Nat} (h1 : Gd L i j a y) (h2 : Gd L j k b z) : Gd L i k (a ++ b) (y + z) := by
  refine ⟨h1.1.app h2.1, ?_⟩
  have := h1.1.1.1
  have := h2.1.1.1
  have := h1.2
  have := h2.2
  omega
theorem Gd.congr {L : List Tk} {i j : Nat} {a b : List Nat} {y z : Nat} (h : Gd L i j a y) (e : a = b) (hz : z ≤ y) : Gd L i j b z := ⟨e ▸ h.1, Nat.le_trans hz h.2⟩
theorem Gd.nil (L : List Tk) (i : Nat) : Gd L i i [] 0 := ⟨Cv.nil L i, Nat.zero_le _⟩
theorem Gd.none {L : List Tk} {i : Nat} : GdL L i i [] := (Gd.nil L i).congr (mtL_nil L).symm (by rw [zL_nil]; exact Nat.le_refl _)
theorem Gd.skip {L : List Tk} {i : Nat} (hi : i < L.length) (h : nameT L i = false) : Gd L i (i + 1) [] 2 := by
  refine ⟨⟨⟨by omega, fun _ => hi⟩, fun t h => by (cases h), List.Pairwise.nil, fun t h1 h2 h3 => ?_⟩, by omega⟩
  obtain rfl : t = i := by omega
  rw [h] at h3
  cases h3
theorem Gd.one {L : List Tk} {i : Nat} (h : nameT L i = true) : Gd L i (i + 1) [i] 2 := by
  have hi := nam_lt h
  refine ⟨⟨⟨by omega, fun _ => hi⟩, fun t ht => ?_, List.pairwise_singleton _ _, fun t h1 h2 h3 => ?_⟩, by omega⟩
  · rw [List.mem_singleton] at ht
    subst ht
    exact ⟨Nat.le_refl _, by omega, h⟩
  · rw [List.mem_singleton]
    omega
theorem want_name {L : List Tk} {i : Nat} (h : wantT L i = false) : nameT L i = false := by
  unfold wantT at h
  rw [Bool.or_eq_false_iff] at h
  exact h.2
theorem Gd.skipW {L : List Tk} (hL : LetsR L) {i : Nat} {s : List UInt8} (h : wordT L i = s) (hs : sgnW s = true) : Gd L i (i + 1) [] 2 :=
  Gd.skip (wrd_lt h (fun e => by rw [e] at hs; simp [sgnW, keyW] at hs)) (want_name (unwant hL.1 h hs))
theorem Gd.use {L : List Tk} {i : Nat} (h : nameT L i = true) : GdN L i (i + 1) (.mk 10 (i : Int) []) := (Gd.one h).congr (by rw [mt_use]) (by rw [zN_mk, zL_nil]; omega)
theorem Gd.made {L : List Tk} {i : Nat} (h : nameT L i = true) : GdN L i (i + 1) (.mk 4 (i : Int) []) := (Gd.one h).congr (by rw [mt_dcl, mtL_nil]) (by rw [zN_mk, zL_nil]; omega)
theorem Gd.lit {L : List Tk} {i : Nat} (hi : i < L.length) (h : ¬ nameT L i = true) : GdN L i (i + 1) (.mk 11 (i : Int) []) := (Gd.skip hi (by simpa using h)).congr (by rw [mt_lit, mtL_nil]) (by rw [zN_mk, zL_nil]; omega)
/-- Names are texts of names. -/
def EnOk (e : En) : Prop := ∀ s, typN e s = true → keyW s = false ∧ ∃ c l, s = c :: l ∧ letB c = true
theorem EnOk.nil : EnOk [] := fun s h => by cases h
theorem name_txt {L : List Tk} (hL : LetsR L) {j : Nat} (h : nameT L j = true) : keyW (txtT L j) = false ∧ ∃ c l, txtT L j = c :: l ∧ letB c = true := by
  unfold nameT at h
  unfold txtT
  cases hj : L[j]? with
  | none => rw [hj] at h; cases h
  | some t =>
    rw [hj] at h
    dsimp only at h ⊢
    rw [Bool.and_eq_true] at h
    exact ⟨by simpa using h.2, hL.1 t (List.mem_of_getElem? hj) (of_decide_eq_true h.1)⟩
theorem EnOk.with {L : List Tk} (hL : LetsR L) {e : En} (he : EnOk e) {j : Nat} (h : nameT L j = true) (typ : Bool) : EnOk ((txtT L j, typ) :: e) := by
  intro s hs
  unfold typN at hs
  split at hs
  · rename_i h1
    subst h1
    exact name_txt hL h
  · exact he s hs
theorem typ_name {L : List Tk} (hL : LetsR L) {e : En} (he : EnOk e) {i : Nat} (h : typN e (wordT L i) = true) : nameT L i = true ∧ wordT L i = txtT L i := by
  obtain ⟨hk, c, l, hw, hc⟩ := he _ h
  unfold wordT at hw hk ⊢
  unfold nameT txtT
  cases hi : L[i]? with
  | none => rw [hi] at hw; cases hw
  | some t =>
    rw [hi] at hw hk
    dsimp only at hw hk ⊢
    by_cases h1 : t.kind = 1 ∨ t.kind = 5
    · rw [if_pos h1] at hw hk ⊢
      refine ⟨?_, rfl⟩
      rcases h1 with h1 | h1
      · rw [hk]; simp [h1]
      · rw [hL.2 t (List.mem_of_getElem? hi) h1 c l hw] at hc
        cases hc
    · rw [if_neg h1] at hw
      cases hw
theorem base_key {s : List UInt8} (h : baseW s = true) : keyW s = true := by
  unfold baseW at h
  unfold keyW
  rw [h]
  rfl
theorem word_txt {L : List Tk} {i : Nat} (h : wordT L i ≠ []) : wordT L i = txtT L i := by
  unfold wordT at h ⊢
  unfold txtT
  cases hi : L[i]? with
  | none => rfl
  | some t =>
    rw [hi] at h
    dsimp only at h ⊢
    split at h
    · rename_i h1; rw [if_pos h1]
    · exact absurd rfl h
theorem Gd.typ {L : List Tk} {e : En} {i : Nat} (hL : LetsR L) (he : EnOk e) (h : ¬ typT L e i = false) : Gd L i (i + 1) (mtN L (.mk 16 (i : Int) [])) 2 := by
  have hmt : mtN L (.mk 16 (i : Int) []) = if baseW (txtT L i) = true then [] else if keyW (txtT L i) = true then [L.length] else [i] := by
    rw [mtN_mk, mtL_nil, List.append_nil]
    unfold hdT
    rw [if_neg (by omega), if_pos rfl, if_neg (by simp)]
    rfl
  rw [hmt]
  have h : typT L e i = true := by simpa using h
  unfold typT at h
  cases hb : baseW (wordT L i) with
  | true =>
    have hne : wordT L i ≠ [] := fun e => by rw [e] at hb; simp [baseW] at hb
    rw [← word_txt hne, if_pos hb]
    have hk := base_key hb
    exact Gd.skipW hL rfl (by unfold sgnW; rw [hk]; rfl)
  | false =>
    rw [hb, Bool.false_or] at h
    obtain ⟨hn, hw⟩ := typ_name hL he h
    rw [hw] at hb
    rw [if_neg (by rw [hb]; decide), if_neg (by rw [(name_txt hL hn).1]; decide)]
    exact Gd.one hn
theorem Gd.none1 {L : List Tk} {i j : Nat} {k : Int} (hk : okK k) {tk : Int} {ks : List Nd} {z : Nat} (h : Gd L i j (mtL L ks) z) (hz : zL ks + 1 ≤ z) : GdN L i j (.mk k tk ks) := h.congr (mt_ok L hk tk ks).symm (by rw [zN_mk]; omega)
/-- A kid more. -/
theorem Gd.more {L : List Tk} {i j k : Nat} {n m : Nd} (hk : n.kind = 4) (h0 : GdN L i j n) (h1 : GdN L j k m) : GdN L i k (.mk n.kind n.tok (n.kids ++ [m])) := by
  obtain ⟨kd, tk, ks⟩ := n
  have hk : kd = 4 := hk
  subst hk
  refine (h0.app h1).congr ?_ ?_
  · show _ = mtN L (.mk 4 tk (ks ++ [m]))
    rw [mtN_mk, mtN_mk, mtL_app, mtL_cons, mtL_nil, List.append_nil, List.append_assoc]
    congr 1
    simp [hdT]
  · show zN (.mk 4 tk (ks ++ [m])) ≤ _
    rw [zN_mk, zN_mk, zL_app, zL_cons, zL_nil]
    omega
theorem sgn_ahead {s : List UInt8} (h : aheadW s = true) : sgnW s = true := by
  unfold aheadW at h
  simp only [Bool.or_eq_true, beq_iff_eq] at h
  rcases h with ((((((h | h) | h) | h) | h) | h) | h) | h <;> subst h <;> decide
section
variable {L : List Tk}
/-- What is read is so. -/
def GX (L : List Tk) (X : Nat → Nat → Got (Nd × Nat)) : Prop := ∀ l i n k, 1 ≤ l → X l i = .ok (n, k) → GdN L i k n
theorem exLoop_gd (hL : LetsR L) {X : Nat → Nat → Got (Nd × Nat)} (hX : GX L X) {l : Nat} (hl : 1 ≤ l) : ∀ (g : Nat) (a : Nd) (i : Nat) (n : Nd) (k i0 : Nat), exLoop L X l g a i = .ok (n, k) → GdN L i0 i a → GdN L i0 k n
  | 0, a, i, n, k, i0, h, _ => by simp [exLoop] at h
  | g + 1, a, i, n, k, i0, h, h0 => by
    simp only [exLoop] at h
    split at h
    · cases h
      exact h0
    · rename_i hv
      split at h
      · cases h
      · rename_i b k1 hx
        have hlv : levelW (wordT L i) ≠ 0 := by omega
        have h1 := hX _ _ _ _ ((right_pos _).resolve_right hlv) hx
        refine exLoop_gd hL hX hl g _ _ _ _ _ h ?_
        refine ((h0.app (Gd.skipW hL rfl (sgn_level hlv))).app h1).congr (by simp [mtL_cons, mtL_nil, mt_bin]) (by (simp only [zL_cons, zL_nil, zN_mk]; omega))
theorem argLoop_gd (hL : LetsR L) {X : Nat → Nat → Got (Nd × Nat)} (hX : GX L X) : ∀ (g : Nat) (ks : List Nd) (i : Nat) (ks' : List Nd) (k i0 : Nat), argLoop L X g ks i = .ok (ks', k) → GdL L i0 i ks → GdL L i0 k ks' ∧ wordT L k = [41]
  | 0, a, i, n, k, i0, h, _ => by simp [argLoop] at h
  | g + 1, ks, i, n, k, i0, h, h0 => by
    simp only [argLoop] at h
    split at h
    · rename_i hw
      cases h
      exact ⟨h0, hw⟩
    · split at h
      · cases h
      · rename_i hc
        split at h
        · cases h
        · rename_i x k1 hx
          have h1 := hX _ _ _ _ (by omega) hx
          refine argLoop_gd hL hX g _ _ _ _ _ h ?_
          cases hks : ks with
          | nil =>
            subst hks
            simp only [List.isEmpty_nil, if_true] at h1
            exact (h0.app h1).congr (by simp [mtL_cons, mtL_nil]) (by (simp only [zL_app, zL_cons, zL_nil]; omega))
          | cons y r =>
            have hw : wordT L i = [44] := by
              apply Classical.byContradiction
              intro hn
              exact hc ⟨by rw [hks]; rfl, hn⟩
            rw [hks] at h1 h0
            rw [if_neg (by simp)] at h1
            exact ((h0.app (Gd.skipW hL hw rfl)).app h1).congr (by simp [mtL_app, mtL_cons, mtL_nil]) (by (simp only [zL_app, zL_cons, zL_nil]; omega))
theorem postLoop_gd (hL : LetsR L) {X : Nat → Nat → Got (Nd × Nat)} (hX : GX L X) : ∀ (g : Nat) (a : Nd) (i : Nat) (n : Nd) (k i0 : Nat), postLoop L X g a i = .ok (n, k) → GdN L i0 i a → GdN L i0 k n
  | 0, a, i, n, k, i0, h, _ => by simp [postLoop] at h
  | g + 1, a, i, n, k, i0, h, h0 => by
    simp only [postLoop] at h
    split at h
    · rename_i hw
      split at h
      · cases h
      · rename_i ks j hx
        obtain ⟨h1, hw2⟩ := argLoop_gd hL hX _ _ _ _ _ (i + 1) hx Gd.none
        refine postLoop_gd hL hX g _ _ _ _ _ h ?_
        exact (((h0.app (Gd.skipW hL hw rfl)).app h1).app (Gd.skipW hL hw2 rfl)).congr (by simp [mtL_cons, mt_call]) (by (simp only [zL_cons, zN_mk]; omega))
    · split at h
      · rename_i hw
        split at h
        · cases h
        · rename_i x k1 hx
          have h1 := hX _ _ _ _ (by omega) hx
          split at h
          · rename_i hw2
            refine postLoop_gd hL hX g _ _ _ _ _ h ?_
            exact (((h0.app (Gd.skipW hL hw rfl)).app h1).app (Gd.skipW hL hw2 rfl)).congr (by simp [mtL_cons, mtL_nil, mt_at]) (by (simp only [zL_cons, zL_nil, zN_mk]; omega))
          · cases h
      · cases h
        exact h0
theorem kind_noname {i : Nat} (h : kindT L i = 2 ∨ kindT L i = 3 ∨ kindT L i = 4) : i < L.length ∧ ¬ nameT L i = true := by
  unfold kindT at h
  unfold nameT
  cases hi : L[i]? with
  | none => rw [hi] at h; simp at h
  | some t =>
    rw [hi] at h
    dsimp only at h ⊢
    refine ⟨(List.getElem?_eq_some_iff.1 hi).1, ?_⟩
    have : ¬ t.kind = 1 := by omega
    simp [this]
theorem postR_gd (hL : LetsR L) {X : Nat → Nat → Got (Nd × Nat)} (hX : GX L X) (i : Nat) (n : Nd) (k : Nat) (h : postR L X i = .ok (n, k)) : GdN L i k n := by
  unfold postR at h
  split at h
  · cases h
  · split at h
    · rename_i hw
      split at h
      · cases h
      · rename_i a k1 hx
        have h1 := hX _ _ _ _ (by omega) hx
        split at h
        · rename_i hw2
          refine postLoop_gd hL hX _ _ _ _ _ i h ?_
          exact (((Gd.skipW hL hw rfl).app h1).app (Gd.skipW hL hw2 rfl)).congr (by simp) (by omega)
        · cases h
    · split at h
      · rename_i hkd
        obtain ⟨hi, hn⟩ := kind_noname hkd
        exact postLoop_gd hL hX _ _ _ _ _ i h (Gd.lit hi hn)
      · split at h
        · rename_i hn
          exact postLoop_gd hL hX _ _ _ _ _ i h (Gd.use hn)
        · cases h
theorem exR_gd (hL : LetsR L) : ∀ m, GX L (fun l i => exR L m 0 l i) ∧ ∀ l i n k, exR L m 1 l i = .ok (n, k) → GdN L i k n
  | 0 => ⟨fun l i n k _ h => by simp [exR] at h, fun l i n k h => by simp [exR] at h⟩
  | m + 1 => by
    obtain ⟨hE, hU⟩ := exR_gd hL m
    constructor
    · intro l i n k hl h
      simp only [exR] at h
      split at h
      · cases h
      · rename_i a k1 hx
        exact exLoop_gd hL hE hl _ _ _ _ _ i h (hU _ _ _ _ hx)
    · intro l i n k h
      simp only [exR] at h
      split at h
      · rename_i ha
        split at h
        · cases h
        · rename_i x k1 hx
          have h1 := hU _ _ _ _ hx
          cases h
          exact ((Gd.skipW hL rfl (sgn_ahead ha)).app h1).congr (by simp [mtL_cons, mtL_nil, mt_un]) (by (simp only [zL_cons, zL_nil, zN_mk]; omega))
      · exact postR_gd hL hE _ _ _ h
theorem star_gd (hL : LetsR L) : ∀ g i, ∃ z, Gd L i (starF L g i) [] z
  | 0, i => ⟨0, Gd.nil L i⟩
  | g + 1, i => by
    rw [starF]
    split
    · rename_i hw
      obtain ⟨z, hz⟩ := star_gd hL g (i + 1)
      exact ⟨_, ((Gd.skipW hL hw rfl).app hz)⟩
    · exact ⟨0, Gd.nil L i⟩
theorem dclJ_gd (hL : LetsR L) {X : Nat → Nat → Got (Nd × Nat)} (hX : GX L X) {e : En} (he : EnOk e) {j : Nat} {typ : Bool} {n : Nd} {k : Nat} {e' : En} (h : dclJ L X e j typ = .ok (n, k, e')) : GdN L j k n ∧ EnOk e' ∧ n.kind = 4 := by
  unfold dclJ at h
  split at h
  · cases h
  · rename_i hn
    have hn : nameT L j = true := by simpa using hn
    split at h
    · rename_i hw
      split at h
      · cases h
      · rename_i x k1 hx
        have h1 := hX _ _ _ _ (by omega) hx
        split at h
        · rename_i hw2
          cases h
          refine ⟨?_, he.with hL hn typ, rfl⟩
          exact ((((Gd.one hn).app (Gd.skipW hL hw rfl)).app h1).app (Gd.skipW hL hw2 rfl)).congr (by simp [mtL_cons, mtL_nil, mt_dcl]) (by (simp only [zL_cons, zL_nil, zN_mk]; omega))
        · cases h
    · cases h
      exact ⟨Gd.made hn, he.with hL hn typ, rfl⟩
theorem dclR_gd (hL : LetsR L) {X : Nat → Nat → Got (Nd × Nat)} (hX : GX L X) {e : En} (he : EnOk e) {i : Nat} {typ : Bool} {n : Nd} {k : Nat} {e' : En} (h : dclR L X e i typ = .ok (n, k, e')) : GdN L i k n ∧ EnOk e' ∧ n.kind = 4 := by
  unfold dclR at h
  obtain ⟨z, hz⟩ := star_gd hL (L.length + 1) i
  obtain ⟨h1, h2, h3⟩ := dclJ_gd hL hX he h
  exact ⟨(hz.app h1).congr (by simp) (by omega), h2, h3⟩
theorem initR_gd (hL : LetsR L) {X : Nat → Nat → Got (Nd × Nat)} (hX : GX L X) {typ : Bool} {i i0 : Nat} {n n' : Nd} {j : Nat} (hk : n.kind = 4) (h : initR L X typ i n = .ok (n', j)) (h0 : GdN L i0 i n) : GdN L i0 j n' := by
  unfold initR at h
  split at h
  · rename_i hw
    split at h
    · cases h
    · rename_i x k hx
      have h1 := hX _ _ _ _ (by omega) hx
      cases h
      exact Gd.more hk ((h0.app (Gd.skipW hL hw.2 rfl)).congr (by simp) (by omega)) h1
  · cases h
    exact h0
theorem restF_gd (hL : LetsR L) {X : Nat → Nat → Got (Nd × Nat)} (hX : GX L X) {typ : Bool} : ∀ (g : Nat) {e : En} {i : Nat} {ds : List Nd} {n : Nd} {ds' : List Nd} {k : Nat} {e' : En} (i0 i1 : Nat), restF L X typ g e i ds n = .ok (ds', k, e') → EnOk e → n.kind = 4 → GdL L i0 i1 ds → GdN L i1 i n → (∃ z, Gd L i0 k (mtL L ds') z ∧ zL ds' + 2 ≤ z) ∧ EnOk e'
  | 0, e, i, ds, n, ds', k, e', i0, i1, h, he, hk, h0, h1 => by simp [restF] at h
  | g + 1, e, i, ds, n, ds', k, e', i0, i1, h, he, hk, h0, h1 => by
    simp only [restF] at h
    split at h
    · cases h
    · rename_i n1 j hi
      have h2 := initR_gd hL hX hk hi h1
      split at h
      · rename_i hw
        split at h
        · cases h
        · rename_i n2 k2 e2 hd
          obtain ⟨h3, h4, h5⟩ := dclR_gd hL hX he hd
          refine restF_gd hL hX g i0 (j + 1) h h4 h5 ?_ h3
          exact ((h0.app h2).app (Gd.skipW hL hw rfl)).congr (by simp [mtL_app, mtL_cons, mtL_nil]) (by (simp only [zL_app, zL_cons, zL_nil]; omega))
      · split at h
        · rename_i hw
          cases h
          exact ⟨⟨_, ((h0.app h2).app (Gd.skipW hL hw rfl)).congr (by simp [mtL_app, mtL_cons, mtL_nil]) (Nat.le_refl _), by (simp only [zL_app, zL_cons, zL_nil]; omega)⟩, he⟩
        · cases h
theorem declJ_gd (hL : LetsR L) {X : Nat → Nat → Got (Nd × Nat)} (hX : GX L X) {e : En} (he : EnOk e) {j : Nat} {typ : Bool} {n : Nd} {k : Nat} {e' : En} (h : declJ L X e j typ = .ok (n, k, e')) : GdN L j k n ∧ EnOk e' := by
  unfold declJ at h
  split at h
  · cases h
  · rename_i hty
    have ht := Gd.typ hL he hty
    split at h
    · cases h
    · rename_i n1 k1 e1 hd
      obtain ⟨h1, h2, h3⟩ := dclR_gd hL hX he hd
      unfold restR at h
      split at h
      · cases h
      · rename_i ds k2 e2 hr
        obtain ⟨⟨z, h4, h5⟩, h6⟩ := restF_gd hL hX _ j (j + 1) hr h2 h3 (ht.congr (by simp [mtL_cons, mtL_nil]) (by (simp only [zL_cons, zL_nil, zN_mk]; omega))) h1
        cases h
        exact ⟨h4.congr (by simp [mt_dec]) (by rw [zN_mk]; omega), h6⟩
theorem declR_gd (hL : LetsR L) {X : Nat → Nat → Got (Nd × Nat)} (hX : GX L X) {e : En} (he : EnOk e) {i : Nat} {n : Nd} {k : Nat} {e' : En} (h : declR L X e i = .ok (n, k, e')) : GdN L i k n ∧ EnOk e' := by
  unfold declR at h
  split at h
  · rename_i hw
    obtain ⟨h1, h2⟩ := declJ_gd hL hX he h
    exact ⟨((Gd.skipW hL hw rfl).app h1).congr (by simp) (by omega), h2⟩
  · exact declJ_gd hL hX he h
theorem prmF_gd (hL : LetsR L) {X : Nat → Nat → Got (Nd × Nat)} (hX : GX L X) : ∀ (g : Nat) {e : En} {i : Nat} {ks ks' : List Nd} {k : Nat} {e' : En} (i0 : Nat), prmF L X g e i ks = .ok (ks', k, e') → EnOk e → (∃ z, Gd L i0 i (mtL L ks) z ∧ zL ks + 2 ≤ z) → (∃ z, Gd L i0 (k + 1) (mtL L ks') z ∧ zL ks' + 2 ≤ z) ∧ EnOk e'
  | 0, e, i, ks, ks', k, e', i0, h, he, h0 => by simp [prmF] at h
  | g + 1, e, i, ks, ks', k, e', i0, h, he, h0 => by
    obtain ⟨z, h0, hz⟩ := h0
    simp only [prmF] at h
    by_cases h41 : wordT L i = [41]
    · rw [if_pos h41] at h
      cases h
      exact ⟨⟨_, (h0.app (Gd.skipW hL h41 rfl)).congr (by simp) (Nat.le_refl _), by omega⟩, he⟩
    · rw [if_neg h41] at h
      by_cases hc : ks.isEmpty = false ∧ wordT L i ≠ [44]
      · rw [if_pos hc] at h
        cases h
      · rw [if_neg hc] at h
        have hs : ∃ z', Gd L i0 (if ks.isEmpty = true then i else i + 1) (mtL L ks) z' ∧ zL ks + 2 ≤ z' := by
          cases hks : ks with
          | nil => subst hks; exact ⟨z, h0, hz⟩
          | cons y r =>
            have hw : wordT L i = [44] := by
              apply Classical.byContradiction
              intro hn
              exact hc ⟨by rw [hks]; rfl, hn⟩
            rw [hks] at h0 hz
            exact ⟨_, (h0.app (Gd.skipW hL hw rfl)).congr (by simp) (Nat.le_refl _), by omega⟩
        obtain ⟨z', h4, h5⟩ := hs
        generalize (if ks.isEmpty = true then i else i + 1) = j at h h4
        by_cases hty : typT L e j = false
        · rw [if_pos hty] at h
          cases h
        · rw [if_neg hty] at h
          have ht := Gd.typ hL he hty
          rcases hd : dclR L X e (j + 1) false with y | ⟨y, k1, e1⟩
          · rw [hd] at h
            cases h
          · rw [hd] at h
            obtain ⟨h1, h2, h3⟩ := dclR_gd hL hX he hd
            refine prmF_gd hL hX g i0 h h2 ⟨_, ((h4.app ht).app h1).congr (by simp [mtL_app, mtL_cons, mtL_nil, mt_dec]) (Nat.le_refl _), ?_⟩
            simp only [zL_app, zL_cons, zL_nil, zN_mk]
            omega
/-- The same of statements. -/
def GS (L : List Tk) (S : En → Nat → Got (Nd × Nat × En)) : Prop := ∀ e i n k e', EnOk e → S e i = .ok (n, k, e') → GdN L i k n ∧ EnOk e'
theorem outR_gd (hL : LetsR L) {X : Nat → Nat → Got (Nd × Nat)} (hX : GX L X) {B : En → Nat → Got (Nd × Nat × En)} (hB : GS L B) (hB5 : ∀ e i n k e', B e i = .ok (n, k, e') → n.kind = 5) : GS L (outR L X B) := by
  intro e i n k e' he h
  unfold outR at h
  split at h
  · exact declR_gd hL hX he h
  · split at h
    · cases h
    · rename_i hty
      have ht := Gd.typ hL he hty
      split at h
      · cases h
      · rename_i n1 k1 e1 hd
        obtain ⟨h1, h2, h3⟩ := dclR_gd hL hX he hd
        split at h
        · unfold restR at h
          split at h
          · cases h
          · rename_i ds k2 e2 hr
            obtain ⟨⟨z, h4, h5⟩, h6⟩ := restF_gd hL hX _ i (i + 1) hr h2 h3 (ht.congr (by simp [mtL_cons, mtL_nil]) (by (simp only [zL_cons, zL_nil, zN_mk]; omega))) h1
            cases h
            exact ⟨h4.congr (by simp [mt_dec]) (by rw [zN_mk]; omega), h6⟩
        · rename_i hc
          have hc1 : n1.kids = [] := by
            apply Classical.byContradiction
            intro hn
            exact hc (.inl (by cases hq : n1.kids with | nil => exact absurd hq hn | cons => rfl))
          have hw : wordT L k1 = [40] := by
            apply Classical.byContradiction
            intro hn
            exact hc (.inr hn)
          split at h
          · cases h
          · rename_i ps j e3 hp
            obtain ⟨⟨z, h4, h5⟩, h6⟩ := prmF_gd hL hX _ (k1 + 1 - 1) hp h2 ⟨2, (Gd.skipW hL hw rfl).congr (mtL_nil L).symm (Nat.le_refl _), by rw [zL_nil]; omega⟩
            split at h
            · cases h
            · rename_i b k3 e4 hb
              obtain ⟨h7, h8⟩ := hB _ _ _ _ _ h6 hb
              cases h
              obtain ⟨kd1, tk1, ks1⟩ := n1
              have hc1 : ks1 = [] := hc1
              have h3 : kd1 = 4 := h3
              subst hc1 h3
              refine ⟨(((ht.app h1).app h4).app h7).congr ?_ ?_, h2⟩
              · rw [mtN_mk L 3]
                have hx : hdT L 3 (-1) ([.mk 16 (i : Int) [], .mk 4 tk1 []] ++ ps ++ [b]) = [] := by
                  unfold hdT
                  rw [if_neg (by omega), if_neg (by omega), if_neg]
                  rintro ⟨_, h⟩
                  rw [show funOk ([.mk 16 (i : Int) [], .mk 4 tk1 []] ++ ps ++ [b]) = lastOk (ps ++ [b]) by simp [funOk], lastOk_snoc (hB5 _ _ _ _ _ hb)] at h
                  cases h
                rw [hx]
                simp [mtL_app, mtL_cons, mtL_nil]
              · simp only [zL_app, zL_cons, zL_nil, zN_mk, List.cons_append, List.nil_append]
                omega
theorem blkLoop_gd (hL : LetsR L) {S : En → Nat → Got (Nd × Nat × En)} (hS : GS L S) : ∀ (g : Nat) {e : En} {i : Nat} {ks ks' : List Nd} {k : Nat} (i0 : Nat), blkLoop L S g e i ks = .ok (ks', k) → EnOk e → GdL L i0 i ks → GdL L i0 k ks' ∧ wordT L k = [125]
  | 0, e, i, ks, ks', k, i0, h, he, h0 => by simp [blkLoop] at h
  | g + 1, e, i, ks, ks', k, i0, h, he, h0 => by
    simp only [blkLoop] at h
    split at h
    · rename_i hw
      cases h
      exact ⟨h0, hw⟩
    · split at h
      · cases h
      · split at h
        · cases h
        · rename_i x k1 e2 hx
          obtain ⟨h1, h2⟩ := hS _ _ _ _ _ he hx
          exact blkLoop_gd hL hS g i0 h h2 ((h0.app h1).congr (by simp [mtL_app, mtL_cons, mtL_nil]) (by (simp only [zL_app, zL_cons, zL_nil]; omega)))
theorem semiR_gd (hL : LetsR L) {X : Nat → Nat → Got (Nd × Nat)} (hX : GX L X) {kd : Int} (hk : okK kd) {i : Nat} {n : Nd} {k : Nat} (h : semiR L X kd i = .ok (n, k)) : GdN L i k n := by
  unfold semiR at h
  split at h
  · rename_i hw
    cases h
    exact Gd.none1 hk ((Gd.skipW hL hw rfl).congr (mtL_nil L).symm (Nat.le_refl _)) (by rw [zL_nil]; omega)
  · split at h
    · cases h
    · rename_i x k1 hx
      have h1 := hX 1 _ _ _ (Nat.le_refl _) hx
      split at h
      · rename_i hw
        cases h
        exact Gd.none1 hk ((h1.app (Gd.skipW hL hw rfl)).congr (by simp [mtL_cons, mtL_nil]) (Nat.le_refl _)) (by (simp only [zL_cons, zL_nil]; omega))
      · cases h
theorem stR_gd (hL : LetsR L) : ∀ (m : Nat), GS L (fun e i => stR L m 0 e i) ∧ GS L (fun e i => stR L m 1 e i)
  | 0 => ⟨fun e i n k e' _ h => by simp [stR] at h, fun e i n k e' _ h => by simp [stR] at h⟩
  | m + 1 => by
    obtain ⟨hS, hB⟩ := stR_gd hL m
    have hX := (exR_gd hL m).1
    constructor
    · intro e i n k e' he h
      simp only [stR] at h
      split at h
      · split at h
        · cases h
        · rename_i n1 k1 e1 hb
          have := hB _ _ _ _ _ he hb
          cases h; exact ⟨this.1, he⟩
      · split at h
        · rename_i hkw
          have hsk : Gd L i (i + 1) [] 2 := by
            rcases hkw with hkw | hkw
            · exact Gd.skipW hL hkw rfl
            · exact Gd.skipW hL hkw rfl
          split at h
          · cases h
          · rename_i hw1
            have hw1 : wordT L (i + 1) = [40] := by simpa using hw1
            split at h
            · cases h
            · rename_i x k1 hx
              have h1 := hX 1 _ _ _ (Nat.le_refl _) hx
              split at h
              · cases h
              · rename_i hw2
                have hw2 : wordT L k1 = [41] := by simpa using hw2
                split at h
                · cases h
                · rename_i y j e1 hy
                  have h2 := (hS _ _ _ _ _ he hy).1
                  have h12 := (((hsk.app (Gd.skipW hL hw1 rfl)).app h1).app (Gd.skipW hL hw2 rfl)).app h2
                  split at h
                  · rename_i hel
                    split at h
                    · cases h
                    · rename_i z j2 e2 hz
                      have h3 := (hS _ _ _ _ _ he hz).1
                      cases h
                      refine ⟨Gd.none1 (by unfold okK; omega) (((h12.app (Gd.skipW hL hel.2 rfl)).app h3).congr (by simp [mtL_cons, mtL_nil]) (Nat.le_refl _)) (by (simp only [zL_cons, zL_nil]; omega)), he⟩
                  · cases h
                    refine ⟨Gd.none1 (by unfold okK; split <;> omega) (h12.congr (by simp [mtL_cons, mtL_nil]) (Nat.le_refl _)) (by (simp only [zL_cons, zL_nil]; omega)), he⟩
        · split at h
          · rename_i hw
            split at h
            · cases h
            · rename_i n1 k1 hs
              have := semiR_gd hL hX (by unfold okK; omega) hs
              cases h
              exact ⟨((Gd.skipW hL hw rfl).app this).congr (by simp) (by omega), he⟩
          · split at h
            · exact declR_gd hL hX he h
            · split at h
              · cases h
              · rename_i n1 k1 hs
                have := semiR_gd hL hX (by unfold okK; omega) hs
                cases h
                exact ⟨this, he⟩
    · intro e i n k e' he h
      simp only [stR] at h
      split at h
      · cases h
      · rename_i hw
        have hw : wordT L i = [123] := by simpa using hw
        split at h
        · cases h
        · rename_i ks k1 hb
          obtain ⟨h1, hw2⟩ := blkLoop_gd hL hS _ (i + 1) hb he Gd.none
          cases h
          exact ⟨Gd.none1 (by unfold okK; omega) ((((Gd.skipW hL hw rfl).app h1).app (Gd.skipW hL hw2 rfl)).congr (by simp) (Nat.le_refl _)) (by omega), he⟩
theorem blk_kind : ∀ (m : Nat) {e : En} {i : Nat} {n : Nd} {k : Nat} {e' : En}, stR L m 1 e i = .ok (n, k, e') → n.kind = 5
  | 0, e, i, n, k, e', h => by simp [stR] at h
  | m + 1, e, i, n, k, e', h => by
    simp only [stR] at h
    split at h
    · cases h
    · split at h
      · cases h
      · cases h
        rfl
theorem uniLoop_gd (hL : LetsR L) : ∀ (g : Nat) {e : En} {i : Nat} {ks ks' : List Nd}, uniLoop L g e i ks = .ok ks' → EnOk e → GdL L 0 i ks → GdL L 0 L.length ks'
  | 0, e, i, ks, ks', h, he, h0 => by simp [uniLoop] at h
  | g + 1, e, i, ks, ks', h, he, h0 => by
    simp only [uniLoop] at h
    split at h
    · rename_i hle
      cases h
      have hi : i = L.length := by have := h0.1.1.2 (by omega); omega
      rw [← hi]
      exact h0
    · split at h
      · cases h
      · rename_i x k e2 hx
        obtain ⟨h1, h2⟩ := outR_gd hL (exR_gd hL 30).1 (stR_gd hL 30).2 (fun _ _ _ _ _ h => blk_kind 30 h) _ _ _ _ _ he hx
        exact uniLoop_gd hL g h h2 ((h0.app h1).congr (by simp [mtL_app, mtL_cons, mtL_nil]) (by (simp only [zL_app, zL_cons, zL_nil]; omega)))
/-- All of a text. -/
theorem parsR_gd (hL : LetsR L) {n : Nd} (h : parsR L = .ok n) : Cv L 0 L.length (mtN L n) ∧ zN n ≤ 2 * L.length + 1 := by
  unfold parsR at h
  split at h
  · cases h
  · rename_i ks hu
    have h1 := uniLoop_gd hL _ hu EnOk.nil Gd.none
    cases h
    rw [mt_ok L (by unfold okK; omega), zN_mk]
    have := h1.2
    exact ⟨h1.1, by omega⟩
end
end
section
section
variable (L : List Tk)
theorem thenR_eq {x : GotB} {g : Fr → GotB} {f' : Fr} {b : List (Nat × Nat)} (h : thenR x g = .ok (f', b)) : ∃ f1 b1 b2, x = .ok (f1, b1) ∧ g f1 = .ok (f', b2) ∧ b = b1 ++ b2 := by
  rcases x with y | ⟨f1, b1⟩
  · cases h
  · simp only [thenR] at h
    rcases hg : g f1 with y | ⟨f2, b2⟩
    · rw [hg] at h; cases h
    · rw [hg] at h; cases h
      exact ⟨f1, b1, b2, rfl, hg, rfl⟩
theorem keepF_eq {f : Fr} {x : GotB} {f' : Fr} {b : List (Nat × Nat)} (h : keepF f x = .ok (f', b)) : f' = f ∧ ∃ f1, x = .ok (f1, b) := by
  rcases x with y | ⟨f1, b1⟩
  · cases h
  · cases h
    exact ⟨rfl, f1, rfl⟩
theorem usR_eq {tk : Nat} {f : Fr} {fs : List Fr} {f' : Fr} {b : List (Nat × Nat)} (h : usR L tk f fs = .ok (f', b)) : ∃ d, findS (f :: fs) (txtT L tk) = some d ∧ f' = f ∧ b = [(tk, d)] := by
  unfold usR at h
  split at h
  · rename_i d hd
    cases h
    exact ⟨d, hd, rfl, rfl⟩
  · cases h
theorem mkR_eq {tk : Nat} {f : Fr} {f' : Fr} {b : List (Nat × Nat)} (h : mkR L tk f = .ok (f', b)) : f' = (txtT L tk, tk) :: f ∧ b = [(tk, tk)] := by
  unfold mkR at h
  split at h
  · cases h
  · cases h
    exact ⟨rfl, rfl⟩
/-- A binds' list in which what is meant was made ahead. -/
def Md (B : List (Nat × Nat)) : Prop := ∀ (k : Nat) x, B[k]? = some x → txtT L x.2 = txtT L x.1 ∧ ∃ j, j ≤ k ∧ B[j]? = some (x.2, x.2)
/-- Frames of names that were made. -/
def OkF (fs : List Fr) (B : List (Nat × Nat)) : Prop := ∀ f ∈ fs, ∀ x ∈ f, txtT L x.2 = x.1 ∧ (x.2, x.2) ∈ B
variable {L}
theorem Md.snoc {B : List (Nat × Nat)} {t d : Nat} (h : Md L B) (ht : txtT L d = txtT L t) (hd : (d, d) ∈ B ∨ d = t) : Md L (B ++ [(t, d)]) := by
  intro k x hk
  by_cases hkl : k < B.length
  · rw [List.getElem?_append_left hkl] at hk
    obtain ⟨h1, j, h2, h3⟩ := h k x hk
    exact ⟨h1, j, h2, by rw [List.getElem?_append_left (by omega)]; exact h3⟩
  · rw [List.getElem?_append_right (by omega)] at hk
    have hk0 : k - B.length = 0 := by
      have := (List.getElem?_eq_some_iff.1 hk).1
      simpa using this
    rw [hk0] at hk
    simp at hk
    subst hk
    refine ⟨ht, ?_⟩
    rcases hd with hd | hd
    · obtain ⟨j, hj⟩ := List.getElem?_of_mem hd
      have hjl := (List.getElem?_eq_some_iff.1 hj).1
      exact ⟨j, by omega, by rw [List.getElem?_append_left hjl]; exact hj⟩
    · subst hd
      exact ⟨k, Nat.le_refl _, by rw [List.getElem?_append_right (by omega), hk0]; rfl⟩
theorem OkF.more {fs : List Fr} {B : List (Nat × Nat)} (h : OkF L fs B) (b : List (Nat × Nat)) : OkF L fs (B ++ b) := fun f hf x hx => ⟨(h f hf x hx).1, List.mem_append_left _ (h f hf x hx).2⟩
theorem look_mem : ∀ {f : Fr} {s : List UInt8} {d : Nat}, lookF f s = some d → (s, d) ∈ f
  | [], s, d, h => by simp [lookF] at h
  | x :: r, s, d, h => by
    unfold lookF at h
    split at h
    · rename_i h1
      cases h
      rw [← h1]
      exact List.mem_cons_self
    · exact List.mem_cons_of_mem _ (look_mem h)
theorem find_mem : ∀ {fs : List Fr} {s : List UInt8} {d : Nat}, findS fs s = some d → ∃ f ∈ fs, (s, d) ∈ f
  | [], s, d, h => by simp [findS] at h
  | f :: r, s, d, h => by
    unfold findS at h
    split at h
    · rename_i t ht
      cases h
      exact ⟨f, List.mem_cons_self, look_mem ht⟩
    · obtain ⟨g, h1, h2⟩ := find_mem h
      exact ⟨g, List.mem_cons_of_mem _ h1, h2⟩
/-- What a part does. -/
def StepB (L : List Tk) (fs : List Fr) (f : Fr) (l : List Nat) (R : GotB) : Prop := ∀ f' b, R = .ok (f', b) → b.map Prod.fst = l ∧ ∀ B, Md L B → OkF L (f :: fs) B → Md L (B ++ b) ∧ OkF L (f' :: fs) (B ++ b)
theorem StepB.then {fs : List Fr} {f : Fr} {l1 l2 : List Nat} {x : GotB} {g : Fr → GotB} (h1 : StepB L fs f l1 x) (h2 : ∀ f1, StepB L fs f1 l2 (g f1)) : StepB L fs f (l1 ++ l2) (thenR x g) := by
  intro f' b h
  obtain ⟨f1, b1, b2, e1, e2, rfl⟩ := thenR_eq h
  obtain ⟨p1, p2⟩ := h1 _ _ e1
  obtain ⟨q1, q2⟩ := h2 _ _ _ e2
  refine ⟨by rw [List.map_append, p1, q1], fun B hB hF => ?_⟩
  obtain ⟨r1, r2⟩ := p2 B hB hF
  have := q2 _ r1 r2
  rwa [List.append_assoc] at this
theorem StepB.nil (fs : List Fr) (f : Fr) : StepB L fs f [] (.ok (f, [])) := by
  intro f' b h
  cases h
  exact ⟨rfl, fun B hB hF => by rw [List.append_nil]; exact ⟨hB, hF⟩⟩
theorem StepB.inner {fs : List Fr} {f : Fr} {l : List Nat} {x : GotB} (h : StepB L (f :: fs) [] l x) : StepB L fs f l (keepF f x) := by
  intro f' b hb
  obtain ⟨rfl, f1, e1⟩ := keepF_eq hb
  obtain ⟨p1, p2⟩ := h _ _ e1
  refine ⟨p1, fun B hB hF => ?_⟩
  obtain ⟨r1, r2⟩ := p2 B hB (fun g hg => by
    rcases List.mem_cons.1 hg with rfl | hg
    · exact fun x hx => by cases hx
    · exact hF g hg)
  exact ⟨r1, hF.more b⟩
theorem StepB.use (tk : Nat) (fs : List Fr) (f : Fr) : StepB L fs f [tk] (usR L tk f fs) := by
  intro f' b h
  obtain ⟨d, hd, rfl, rfl⟩ := usR_eq L h
  refine ⟨rfl, fun B hB hF => ⟨?_, hF.more _⟩⟩
  obtain ⟨g, h1, h2⟩ := find_mem hd
  obtain ⟨h3, h4⟩ := hF g h1 _ h2
  exact hB.snoc h3 (.inl h4)
theorem StepB.made (tk : Nat) (fs : List Fr) (f : Fr) : StepB L fs f [tk] (mkR L tk f) := by
  intro f' b h
  obtain ⟨rfl, rfl⟩ := mkR_eq L h
  refine ⟨rfl, fun B hB hF => ⟨hB.snoc rfl (.inr rfl), fun g hg x hx => ?_⟩⟩
  rcases List.mem_cons.1 hg with rfl | hg
  · rcases List.mem_cons.1 hx with rfl | hx
    · exact ⟨rfl, by simp⟩
    · exact (hF.more _) f List.mem_cons_self x hx
  · exact (hF.more _) g (List.mem_cons_of_mem _ hg) x hx
theorem StepB.congr {fs : List Fr} {f : Fr} {l l' : List Nat} {x : GotB} (h : StepB L fs f l x) (e : l = l') : StepB L fs f l' x := e ▸ h
theorem fun_is {ks : List Nd} (h : funOk ks = true) : ∃ t0 t1 r, ks = .mk 16 t0 [] :: .mk 4 t1 [] :: r ∧ lastOk r = true := by
  match ks, h with
  | .mk k0 t0 s0 :: .mk k1 t1 s1 :: r, h =>
    unfold funOk at h
    simp only [Bool.and_eq_true, decide_eq_true_eq, List.isEmpty_iff] at h
    obtain ⟨⟨⟨⟨rfl, rfl⟩, rfl⟩, rfl⟩, h5⟩ := h
    exact ⟨t0, t1, r, rfl, h5⟩
theorem zero_mem {l : List Nat} {N : Nat} (h : N ∉ l) {a b : List Nat} (e : l = a ++ b) : N ∉ a ∧ N ∉ b := by
  subst e
  exact ⟨fun h1 => h (List.mem_append_left _ h1), fun h1 => h (List.mem_append_right _ h1)⟩
theorem rs_step : ∀ z : Nat, (∀ (n : Nd), zN n ≤ z → L.length ∉ mtN L n → ∀ f fs, StepB L fs f (mtN L n) (rsN L n f fs)) ∧ (∀ (ks : List Nd), zL ks ≤ z → L.length ∉ mtL L ks → ∀ f fs, StepB L fs f (mtL L ks) (rsL L ks f fs))
  | 0 => by
    refine ⟨fun n hz => ?_, fun ks hz => ?_⟩
    · have := zN_pos n; omega
    · cases ks with
      | nil => intro _ f fs; rw [rsL_nil, mtL_nil]; exact StepB.nil fs f
      | cons n r => rw [zL_cons] at hz; have := zN_pos n; omega
  | z + 1 => by
    obtain ⟨hN, hK⟩ := rs_step z
    have hN1 : ∀ (n : Nd), zN n ≤ z + 1 → L.length ∉ mtN L n → ∀ f fs, StepB L fs f (mtN L n) (rsN L n f fs) := by
      rintro ⟨kd, tk, ks⟩ hz hl f fs
      rw [zN_mk] at hz
      rw [mtN_mk] at hl ⊢
      obtain ⟨hl1, hl2⟩ := zero_mem hl rfl
      have hks := fun f fs => hK ks (by omega) hl2 f fs
      rw [rsN_mk]
      unfold hdT at hl1 ⊢
      by_cases h4 : kd = 4
      · rw [if_pos h4, if_pos (.inl h4)] at *
        have h0 : 0 ≤ tk ∧ (kd = 4 ∨ ks = []) := by
          apply Classical.byContradiction
          intro hn
          rw [if_neg hn] at hl1
          exact hl1 (by simp)
        rw [if_pos h0]
        exact (StepB.made _ fs f).then (fun f1 => hks f1 fs)
      rw [if_neg h4]
      by_cases h10 : kd = 10
      · rw [if_pos h10, if_pos (.inr h10)] at *
        have h0 : 0 ≤ tk ∧ (kd = 4 ∨ ks = []) := by
          apply Classical.byContradiction
          intro hn
          rw [if_neg hn] at hl1
          exact hl1 (by simp)
        rw [if_pos h0]
        exact (StepB.use _ fs f).then (fun f1 => hks f1 fs)
      rw [if_neg h10]
      rw [if_neg (by omega)] at hl1
      rw [if_neg (show ¬ (kd = 4 ∨ kd = 10) by omega)]
      by_cases h16 : kd = 16
      · rw [if_pos h16, if_pos h16] at *
        by_cases h0 : tk < 0 ∨ ks.isEmpty = false
        · rw [if_pos h0] at hl1
          exact absurd (by simp) hl1
        rw [if_neg h0] at *
        cases hb : baseW (txtT L tk.toNat) with
        | true =>
          rw [if_pos rfl, if_pos (base_key hb)]
          exact hks f fs
        | false =>
          rw [hb, if_neg (by decide)] at hl1
          rw [if_neg (by decide)]
          cases hk : keyW (txtT L tk.toNat) with
          | true => rw [hk, if_pos rfl] at hl1; exact absurd (by simp) hl1
          | false =>
            rw [if_neg (by decide), if_neg (by decide)]
            exact (StepB.use _ fs f).then (fun f1 => hks f1 fs)
      rw [if_neg h16]
      rw [if_neg h16] at hl1
      rw [if_neg h16]
      by_cases h3 : kd = 3
      · rw [if_pos h3]
        have hf : funOk ks = true := by
          cases hf : funOk ks with
          | true => rfl
          | false => rw [if_pos ⟨h3, hf⟩] at hl1; exact absurd (by simp) hl1
        rw [if_neg (by rw [hf]; rintro ⟨_, h⟩; cases h), List.nil_append]
        obtain ⟨t0, t1, r, rfl, hr⟩ := fun_is hf
        rw [rsF_two]
        rw [zL_cons, zL_cons] at hz
        rw [mtL_cons, mtL_cons] at hl2 ⊢
        obtain ⟨g1, g2⟩ := zero_mem hl2 rfl
        obtain ⟨g2, g3⟩ := zero_mem g2 rfl
        rw [← List.append_assoc]
        refine ((hN _ (by omega) g1 f fs).then (fun f1 => hN _ (by omega) g2 f1 fs)).then (fun f1 => StepB.inner ?_)
        have hp : ∀ (r : List Nd), lastOk r = true → zL r ≤ z → L.length ∉ mtL L r → ∀ f fs, StepB L fs f (mtL L r) (rsP L r f fs) := by
          intro r
          induction r with
          | nil => intro h; cases h
          | cons n r ih =>
            intro hr hz hl f fs
            rw [zL_cons] at hz
            rw [mtL_cons] at hl ⊢
            obtain ⟨g1, g2⟩ := zero_mem hl rfl
            rw [rsP_cons]
            unfold lastOk at hr
            split at hr
            · rename_i he
              rw [if_pos he]
              have hr := of_decide_eq_true hr
              obtain ⟨kd, tk, ks⟩ := n
              have hr : kd = 5 := hr
              subst hr
              rw [rsB_mk]
              have e : r = [] := by simpa using he
              subst e
              rw [mt_ok L (by unfold okK; omega), mtL_nil, List.append_nil]
              rw [mt_ok L (by unfold okK; omega)] at g1
              rw [zN_mk] at hz
              exact hK ks (by omega) g1 f fs
            · rename_i he
              rw [if_neg he]
              exact (hN n (by omega) g1 f fs).then (fun f1 => ih hr (by omega) g2 f1 fs)
        exact hp r hr (by omega) g3 [] (f1 :: fs)
      rw [if_neg h3, if_neg (show ¬ (kd = 3 ∧ funOk ks = false) by omega), List.nil_append]
      by_cases h5 : kd = 5
      · rw [if_pos h5]
        exact StepB.inner (hks [] (f :: fs))
      · rw [if_neg h5]
        exact hks f fs
    refine ⟨hN1, fun ks hz hl f fs => ?_⟩
    cases ks with
    | nil => rw [rsL_nil, mtL_nil]; exact StepB.nil fs f
    | cons n r =>
      rw [zL_cons] at hz
      have := zN_pos n
      rw [mtL_cons] at hl ⊢
      obtain ⟨g1, g2⟩ := zero_mem hl rfl
      rw [rsL_cons]
      exact (hN1 n (by omega) g1 f fs).then (fun f1 => hK r (by omega) g2 f1 fs)
/-- All of a tree. -/
theorem resR_md {n : Nd} {b : List (Nat × Nat)} (hc : Cv L 0 L.length (mtN L n)) (h : resR L n = .ok b) : b.map Prod.fst = mtN L n ∧ Md L b := by
  unfold resR at h
  have hl : L.length ∉ mtN L n := fun hm => by have := (hc.2.1 _ hm).2.1; omega
  split at h
  · cases h
  · rename_i f' b' hr
    cases h
    obtain ⟨h1, h2⟩ := (rs_step (L := L) (zN n)).1 n (Nat.le_refl _) hl [] [] _ _ hr
    have := (h2 [] (fun k x hk => by simp at hk) (fun f hf x hx => by simp at hf; subst hf; cases hx)).1
    exact ⟨h1, by simpa using this⟩
/-- What stands in the tree. -/
theorem mt_wf : ∀ z : Nat, (∀ (n : Nd), zN n ≤ z → (∀ t ∈ mtN L n, t < L.length) → wfN L.length n) ∧ (∀ (ks : List Nd), zL ks ≤ z → (∀ t ∈ mtL L ks, t < L.length) → wfL L.length ks)
  | 0 => by
    refine ⟨fun n hz => ?_, fun ks hz => ?_⟩
    · have := zN_pos n; omega
    · cases ks with
      | nil => intro _; rw [wfL]; trivial
      | cons n r => rw [zL_cons] at hz; have := zN_pos n; omega
  | z + 1 => by
    obtain ⟨hN, hK⟩ := mt_wf z
    have hN1 : ∀ (n : Nd), zN n ≤ z + 1 → (∀ t ∈ mtN L n, t < L.length) → wfN L.length n := by
      rintro ⟨kd, tk, ks⟩ hz hl
      rw [zN_mk] at hz
      rw [mtN_mk] at hl
      rw [wfN_mk]
      refine ⟨fun hkd => ?_, fun h3 => ?_, hK ks (by omega) fun t ht => hl t (List.mem_append_right _ ht)⟩
      · have hl1 := fun t ht => hl t (List.mem_append_left _ ht)
        unfold hdT at hl1
        by_cases h1 : kd = 4 ∨ kd = 10
        · rw [if_pos h1] at hl1
          have := hl1 _ (List.mem_singleton.2 rfl)
          split at this
          · omega
          · omega
        · have h16 : kd = 16 := by omega
          rw [if_neg h1, if_pos h16] at hl1
          by_cases h0 : tk < 0 ∨ ks.isEmpty = false
          · rw [if_pos h0] at hl1
            have := hl1 _ (List.mem_singleton.2 rfl)
            omega
          · rw [if_neg h0] at hl1
            have htx : txtT L tk.toNat ≠ [] → tk.toNat < L.length := fun h => by
              apply Classical.byContradiction
              intro hn
              exact h (by unfold txtT; rw [List.getElem?_eq_none (by omega)])
            split at hl1
            · rename_i hb
              have := htx (fun e => by rw [e] at hb; simp [baseW] at hb)
              omega
            · split at hl1
              · have := hl1 _ (List.mem_singleton.2 rfl)
                omega
              · have := hl1 _ (List.mem_singleton.2 rfl)
                omega
      · have hl1 := fun t ht => hl t (List.mem_append_left _ ht)
        unfold hdT at hl1
        rw [if_neg (by omega), if_neg (by omega)] at hl1
        by_cases hf : funOk ks = true
        · obtain ⟨t0, t1, r, rfl, hr⟩ := fun_is hf
          cases r with
          | nil => cases hr
          | cons => simp
        · rw [if_pos ⟨h3, by simpa using hf⟩] at hl1
          have := hl1 _ (List.mem_singleton.2 rfl)
          omega
    refine ⟨hN1, fun ks hz hl => ?_⟩
    cases ks with
    | nil => rw [wfL]; trivial
    | cons n r =>
      rw [zL_cons] at hz
      have := zN_pos n
      rw [mtL_cons] at hl
      rw [wfL_cons]
      exact ⟨hN1 n (by omega) fun t ht => hl t (List.mem_append_left _ ht), hK r (by omega) fun t ht => hl t (List.mem_append_right _ ht)⟩
theorem cv_wf {n : Nd} (hc : Cv L 0 L.length (mtN L n)) : wfN L.length n := (mt_wf (L := L) (zN n)).1 n (Nat.le_refl _) fun t ht => (hc.2.1 t ht).2.1
end
end
end Go.Proofs.Ytkfbhknhjpmomaa
