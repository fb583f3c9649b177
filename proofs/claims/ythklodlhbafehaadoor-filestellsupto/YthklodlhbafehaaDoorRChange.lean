/- Walk of the document's own Change. -/
import Derived.Test.YthklodlhbafehaaDoorRcFacts
import Derived.Test.YthklodlhbafehaaDoorRWrong
import Derived.Test.YthklodlhbafehaaDoorTurnedFacts
import Derived.Test.YthklodlhbafehaaDoorAppLit
import Derived.Test.YthklodlhbafehaaDoorLater
import Derived.Deep.RegionHeld3
import Derived.Lib.SmallJoins
namespace Go.Proofs.YthklodlhbafehaaDoor
open Go.RowKit Go.Shelf

set_option maxRecDepth 100000 in
set_option maxHeartbeats 1000000 in
theorem rchange_wrong (a a2 : Option Addr) (cap cap2 : Nat) (fs : List Src) (es : List Ed) (w : World) (hF : FAt w a fs) (hn : fs.length ≤ maxLen)
    (hz : ∀ x ∈ fs, x.1.size ≤ maxLen ∧ x.2.size ≤ maxLen) (hw : (wrongF fs).1 ≠ 0) :
    Calls Tryd.prog 18 #[.slice a fs.length cap, .slice a2 es.length cap2] w (ChangePost fs es w) := by
  have hwr := rwrong_any a cap fs w hF hz hn
  have HE : Hid (changeF fs es = ([], (wrongF fs).1)) := by show _ = _; simp [changeF, hw]
  generalize (wrongF fs).1 = e1 at hwr HE hw
  generalize (wrongF fs).2 = e2 at hwr
  have hd : (e1 != 0) = true := by simpa using hw
  have HW := hid hwr
  clear hwr hw hF hz hn
  go_enter Tryd.func18, Tryd.ntmps18
  go_wp2_with fail
  refine HW.out.mono ?_
  rintro e w1 ⟨rfl, hb1⟩
  have HB := hid (hb1.alloc hb1.size (.cells #[.int .i64 e1, .int .i64 e2, .int .i64 0] 28))
  clear HW hb1
  go_wp2_with fail
  go_quiet (fail)
  go_wp2
  go_ret2
  exact change_nil HE.out (below_drewN HB.out _)

/-- What holds at the head of a round of the insertions. -/
structure InsAt (es : List Ed) (j : Nat) (v : Value) (w1 wr : World) : Prop where
  old : Below w1.heap.size w1 wr
  own : wr.ownsRow w1.heap.size 41 4 v j (cellsE (insAll [] (es.take j)))
  nil : j = 0 → v = .slice none 0 0

theorem insAll_snoc (s es : List Ed) (e : Ed) : insAll s (es ++ [e]) = insE e (insAll s es) := by simp [insAll]
theorem insAll_length (es : List Ed) (j : Nat) (hj : j ≤ es.length) : (insAll [] (es.take j)).length = j := by
  have := (insAll_perm (es.take j) []).length_eq
  simp at this
  omega
theorem ins_at (e : Ed) (s : List Ed) (q : Nat) (hq : q ≤ s.length) (h1 : ∀ i (h : i < s.length), i < q → leB s[i] e = true) (h2 : ∀ (h : q < s.length), leB s[q] e = false) : insE e s = s.take q ++ e :: s.drop q := by
  have H : s.takeWhile (leB · e) = s.take q ∧ s.dropWhile (leB · e) = s.drop q := by
    induction s generalizing q with
    | nil => simp at hq; subst hq; simp
    | cons x r ih =>
      cases q with
      | zero =>
        have := h2 (by simp)
        simp at this
        simp [this]
      | succ q =>
        have hx := h1 0 (by simp) (by omega)
        simp at hx
        obtain ⟨i1, i2⟩ := ih q (by simpa using hq) (fun i hi hiq => by have := h1 (i + 1) (by simp; omega) (by omega); simpa using this) (fun hi => by have := h2 (by simp; omega); simpa using this)
        simp [hx, i1, i2]
  rw [insE, H.1, H.2]

theorem ins_done {es : List Ed} {j : Nat} {v : Value} {w1 wo wA wB w2 : World} (hold : Below w1.heap.size w1 wo) (hA : Below wo.heap.size wo wA) (hQ : Below wA.heap.size wA wB) (hb : Below wB.heap.size wB w2)
    (hown : w2.ownsRow wB.heap.size 41 4 v (j + 1) (cellsE (insAll [] (es.take (j + 1))))) : InsAt es (j + 1) v w1 w2 := by
  have h1 := hold.size
  have h2 := hA.size
  have h3 := hQ.size
  exact ⟨hold.trans ((hA.mono h1).trans ((hQ.mono (by omega)).trans (hb.mono (by omega)))), Go.Joins.ownsRow_le hown (by omega), fun h => by omega⟩

theorem row_four {w : World} {base g n c : Nat} {S : List Ed} (h : w.ownsRow base 41 4 (.slice (some ⟨g, 0, none⟩) n c) n (cellsE S)) : ∀ k x, S[k]? = some x → ∀ i v, (encE x)[i]? = some v → w.cell? ⟨g, k * 4 + i, none⟩ = some v := by
  intro k x hx i v hv
  have h1 := cellsE_get S k i x v hx hv
  obtain ⟨hl, h⟩ := h
  rcases h with ⟨hv', _⟩ | ⟨g', cap, cur, hv', _, hg, _, _, _, h4⟩
  · cases hv'
  · cases hv'
    rw [← h4, List.getElem?_take] at h1
    split at h1
    · simpa [World.cell?, hg] using h1
    · cases h1

theorem row_pos {w : World} {base : Nat} {e : TypeId} {size : Nat} {v : Value} {n : Nat} {xs : List Value} (h : w.ownsRow base e size v (n + 1) xs) : ∃ g c, v = .slice (some ⟨g, 0, none⟩) (n + 1) c ∧ n + 1 ≤ c ∧ base ≤ g := by
  rcases h.2 with ⟨_, h0⟩ | ⟨g, cap, cur, rfl, hb, _, hc, _⟩
  · omega
  · exact ⟨_, _, rfl, hc, hb⟩
theorem row_pos2 {w : World} {base : Nat} {e : TypeId} {size : Nat} {v : Value} {n : Nat} {xs : List Value} (h : w.ownsRow base e size v n xs) (hn : 0 < n) : ∃ g c, v = .slice (some ⟨g, 0, none⟩) n c ∧ n ≤ c ∧ base ≤ g := by
  rcases h.2 with ⟨_, h0⟩ | ⟨g, cap, cur, rfl, hb, _, hc, _⟩
  · omega
  · exact ⟨_, _, rfl, hc, hb⟩
theorem grown_own {B : Nat} {a w w2 : World} {g n c : Nat} (hg : w.grownBy w2 (Value.slice (some ⟨g, 0, none⟩) n c).ownBlock) (h : Below B a w) (hB : B ≤ w.heap.size) (hr : B ≤ g) : Below B a w2 :=
  h.grown hg hB (fun k e => by simp [Value.ownBlock] at e; omega)
theorem news_alloc {w : World} {a : Addr} {l : List Value} {X : Obj} (h : ∀ j x, l[j]? = some x → w.cell? (a.add j) = some x) : ∀ j x, l[j]? = some x → (w.alloc X).cell? (a.add j) = some x :=
  fun j x hx => Lib.cell?_alloc_some _ (h j x hx)
theorem four_at {wA W : World} {E : Nat} {f lo hi : Int} {U : ByteArray} (h : ∀ j x, (encE (f, lo, hi, U))[j]? = some x → wA.cell? ((⟨E, 0, none⟩ : Addr).add j) = some x) (hb : Below wA.heap.size wA W) (hE : E < wA.heap.size) :
    W.cell? ⟨E, 0, none⟩ = some (.int .i64 f) ∧ W.cell? ⟨E, 1, none⟩ = some (.int .i64 lo) ∧ W.cell? ⟨E, 2, none⟩ = some (.int .i64 hi) ∧ W.cell? ⟨E, 3, none⟩ = some (.string U) := by
  have H : ∀ j x, (encE (f, lo, hi, U))[j]? = some x → W.cell? ⟨E, j, none⟩ = some x := fun j x hx => by
    have := h j x hx
    rw [Addr.add_lit, Nat.zero_add] at this
    exact (hb.cell (p := ⟨E, j, none⟩) hE).trans this
  exact ⟨H 0 _ rfl, H 1 _ rfl, H 2 _ rfl, H 3 _ rfl⟩

theorem grown_blk {B : Nat} {a w w2 : World} {g : Nat} (hg : w.grownBy w2 (some g)) (h : Below B a w) (hB : B ≤ w.heap.size) (hr : B ≤ g) : Below B a w2 :=
  h.grown hg hB (fun k e => by cases e; exact hr)
theorem grown_row {B : Nat} {a w w2 : World} {e : TypeId} {size n : Nat} {v : Value} {xs : List Value} (hown : w.ownsRow B e size v n xs) (hg : w.grownBy w2 v.ownBlock) (h : Below B a w) (hB : B ≤ w.heap.size) : Below B a w2 :=
  h.grown hg hB (fun k e => (hown.lt k e).1)
theorem news_grown {w w2 : World} {b : Nat} {l : List Value} {o : Option Nat} (hg : w.grownBy w2 o) (hlt : b < w.heap.size) (hne : some b ≠ o) (h : ∀ j x, l[j]? = some x → w.cell? ((⟨b, 0, none⟩ : Addr).add j) = some x) :
    ∀ j x, l[j]? = some x → w2.cell? ((⟨b, 0, none⟩ : Addr).add j) = some x := fun j x hx => by
  rw [Addr.add_lit]
  have := h j x hx
  rw [Addr.add_lit] at this
  exact (World.cell?_of_block (a := ⟨b, 0 + j, none⟩) (hg.block b hlt hne)).trans this
theorem cellsE_at (S : List Ed) (t : Nat) (u : Value) (h : (cellsE S)[t]? = some u) : ∃ x, S[t / 4]? = some x ∧ (encE x)[t % 4]? = some u := by
  induction S generalizing t with
  | nil => simp [cellsE] at h
  | cons y r ih =>
    have e : cellsE (y :: r) = encE y ++ cellsE r := by simp [cellsE]
    rw [e] at h
    have hl : (encE y).length = 4 := rfl
    by_cases ht : t < 4
    · rw [List.getElem?_append_left (by omega)] at h
      exact ⟨y, by rw [show t / 4 = 0 by omega]; rfl, by rw [show t % 4 = t by omega]; exact h⟩
    · rw [List.getElem?_append_right (by omega), hl] at h
      obtain ⟨x, h1, h2⟩ := ih (t - 4) h
      refine ⟨x, ?_, ?_⟩
      · rw [show t / 4 = (t - 4) / 4 + 1 by omega]; simpa using h1
      · rw [show t % 4 = (t - 4) % 4 by omega]; exact h2
theorem cellsE_length (S : List Ed) : (cellsE S).length = S.length * 4 := by
  induction S with
  | nil => rfl
  | cons y r ih =>
    have e : cellsE (y :: r) = encE y ++ cellsE r := by simp [cellsE]
    rw [e, List.length_append, ih, List.length_cons]
    have : (encE y).length = 4 := rfl
    omega
theorem cellsE_one (S : List Ed) : ∀ u ∈ cellsE S, u.oneCell' = true := by
  intro u hu
  simp only [cellsE, List.mem_flatMap] at hu
  obtain ⟨x, _, hx⟩ := hu
  exact enc_one x u hx
theorem row_part {W : World} {g : Nat} {S : List Ed} (h : ∀ k x, S[k]? = some x → ∀ i v, (encE x)[i]? = some v → W.cell? ⟨g, k * 4 + i, none⟩ = some v) (q : Nat) :
    (∀ j u, (cellsE (S.take q))[j]? = some u → W.cell? ((⟨g, 0, none⟩ : Addr).add j) = some u) ∧ (∀ j u, (cellsE (S.drop q))[j]? = some u → W.cell? ((⟨g, q * 4, none⟩ : Addr).add j) = some u) := by
  constructor
  · intro j u hu
    obtain ⟨x, h1, h2⟩ := cellsE_at _ _ _ hu
    rw [List.getElem?_take] at h1
    split at h1
    · have := h _ x h1 _ _ h2
      rw [Addr.add_lit, Nat.zero_add]
      rwa [show j / 4 * 4 + j % 4 = j by omega] at this
    · cases h1
  · intro j u hu
    obtain ⟨x, h1, h2⟩ := cellsE_at _ _ _ hu
    rw [List.getElem?_drop] at h1
    have := h _ x h1 _ _ h2
    rw [Addr.add_lit]
    rwa [show (q + j / 4) * 4 + j % 4 = q * 4 + j by omega] at this

theorem cellsE_append (a b : List Ed) : cellsE (a ++ b) = cellsE a ++ cellsE b := by simp [cellsE]
theorem cellsE_cons (x : Ed) (b : List Ed) : cellsE (x :: b) = encE x ++ cellsE b := by simp [cellsE]
theorem row_cast {w : World} {base : Nat} {e : TypeId} {size : Nat} {v : Value} {n n' : Nat} {xs xs' : List Value} (h : w.ownsRow base e size v n xs) (hn : n = n') (hx : xs = xs') : w.ownsRow base e size v n' xs' := by subst hn hx; exact h
theorem row_keeps {w w' : World} {base : Nat} {e : TypeId} {size : Nat} {v : Value} {n : Nat} {xs : List Value} (h : w.ownsRow base e size v n xs) (hb : Below w.heap.size w w') : w'.ownsRow base e size v n xs := by
  refine ⟨h.1, ?_⟩
  rcases h.2 with h | ⟨g, cap, cur, rfl, h1, hg, h3⟩
  · exact .inl h
  · exact .inr ⟨g, cap, cur, rfl, h1, (hb.block g (Array.getElem?_eq_some_iff.1 hg).1).trans hg, h3⟩
/-- What lies behind place q: where nothing does, its address may be any. -/
theorem drop_news {W : World} {g q cS : Nat} {S : List Ed} (h : ∀ j u, (cellsE (S.drop q))[j]? = some u → W.cell? ((⟨g, q * 4, none⟩ : Addr).add j) = some u) (hq : S.length ≤ cS) {n : Nat} (hn : n = if cS = q then 0 else q * 4 := by first | rfl | (split <;> omega)) :
    ∀ j u, (cellsE (S.drop q))[j]? = some u → W.cell? ((⟨g, n, none⟩ : Addr).add j) = some u := by
  intro j u hu
  by_cases hc : cS = q
  · rw [List.drop_eq_nil_of_le (by omega)] at hu
    simp [cellsE] at hu
  · rw [hn, if_neg hc]
    exact h j u hu

set_option maxRecDepth 100000 in
set_option maxHeartbeats 40000000 in
theorem rchange_right (a a2 : Option Addr) (cap cap2 : Nat) (fs : List Src) (es : List Ed) (w : World) (hF : FAt w a fs) (hE : EAt w a2 es) (hn : fs.length ≤ 1048576)
    (hz : ∀ x ∈ fs, x.1.size ≤ 1048576 ∧ x.2.size ≤ 1048576) (hn2 : es.length + total es ≤ 1048576) (hw : (wrongF fs).1 = 0) :
    Calls Tryd.prog 18 #[.slice a fs.length cap, .slice a2 es.length cap2] w (ChangePost fs es w) := by
  obtain ⟨i0, hi, hz0, hz1, hz2⟩ := info_parts info_edit
  obtain ⟨s0, hs0, y0, y1, y2⟩ := info_parts info_source
  have hwr := rwrong_any a cap fs w hF (fun x hx => by have := hz x hx; unfold maxLen; omega) (by unfold maxLen; omega)
  rw [hw] at hwr
  generalize (wrongF fs).2 = e2 at hwr
  have HW := hid hwr
  clear hwr
  go_enter Tryd.func18, Tryd.ntmps18
  go_wp2_with fail
  refine HW.out.mono ?_
  rintro e w0 ⟨rfl, hb0⟩
  have HB1 := hid (hb0.alloc hb0.size (.cells #[.int .i64 0, .int .i64 e2, .int .i64 0] 28))
  clear HW hb0
  go_wp2_with fail
  generalize w0.alloc (.cells #[.int .i64 0, .int .i64 e2, .int .i64 0] 28) = w1 at HB1 ⊢
  go_loopw [7, 30] (fun v i wr => ∃ j : Nat, j ≤ es.length ∧ i = .int .i64 j ∧ Hid (InsAt es j v w1 wr)) (fun _ i _ => es.length - (intOf i).toNat)
  case atStart => exact ⟨0, Nat.zero_le _, rfl, ⟨Below.refl _ _, ⟨by simp [insAll, cellsE], .inl ⟨rfl, rfl⟩⟩, fun _ => rfl⟩⟩
  case round =>
    obtain ⟨j, hj, rfl, HR⟩ := hrel
    by_cases hlt : j < es.length
    · have hgx : es[j]? = some es[j] := List.getElem?_eq_getElem hlt
      rcases id hE with h0 | ⟨b, off, rfl, hb, hc⟩
      · rw [h0] at hlt; simp at hlt
      have hbb : b < w1.heap.size := by have := HB1.out.size; omega
      have hc' : ∀ i v, (encE es[j])[i]? = some v → wr.cell? ⟨b, off + j * 4 + i, none⟩ = some v := fun i v hv => by
        rw [HR.out.old.cell (p := ⟨b, _, none⟩) hbb, HB1.out.cell (p := ⟨b, _, none⟩) hb]; exact hc j _ hgx i v hv
      have HT : Hid (insAll [] (es.take (j + 1)) = insE es[j] (insAll [] (es.take j))) := by
        show _ = _
        rw [List.take_add_one, hgx]; exact insAll_snoc _ _ _
      have HLn := hid (insAll_length es j hj)
      generalize es[j] = x at hc' HT
      obtain ⟨f, lo, hi', U⟩ := x
      have c0 := hc' 0 _ rfl
      have c1 := hc' 1 _ rfl
      have c2 := hc' 2 _ rfl
      have c3 := hc' 3 _ rfl
      simp only [Nat.add_zero, Ed.file, Ed.lo, Ed.hi, Ed.text] at c0 c1 c2 c3
      clear hc hc' hgx
      by_cases hj0 : j = 0
      · all_goals
          subst hj0
          have hv := HR.out.nil rfl
          subst hv
          simp only [Nat.zero_mul, Nat.add_zero] at c0 c1 c2 c3
          obtain ⟨wo, rfl⟩ : ∃ wo, wo = wr := ⟨_, rfl⟩
          go_wp2_with fail
          have HA := hid ((Below.refl _ wo).alloc (Nat.le_refl _) (.cells #[.int .i64 f, .int .i64 lo, .int .i64 hi', .string U] 41))
          have HX := hid (four_new wo f lo hi' U 41)
          generalize hwA : wo.alloc (.cells #[.int .i64 f, .int .i64 lo, .int .i64 hi', .string U] 41) = wA at HA HX ⊢
          have hsA : wA.heap.size = wo.heap.size + 1 := by rw [← hwA]; simp
          clear hwA c0 c1 c2 c3
          go_loopw [10] (fun x wq => x = .int .i64 0 ∧ Hid (Below wA.heap.size wA wq)) (fun _ _ => 0)
          case atStart => exact ⟨rfl, Below.refl _ _⟩
          case round =>
            obtain ⟨rfl, HQ⟩ := hrel
            go_wp2_with fail
            go_quiet (fail)
            go_wp2_with fail
            have HQ2 := hid (below_drewN HQ.out nq)
            clear HQ
            generalize wr.drewN nq = wB at HQ2 ⊢
            have HK4 := hid (fun W (h : Below wB.heap.size wB W) => four_at HX.out (HQ2.out.trans (h.mono HQ2.out.size)) (by omega))
            obtain ⟨x0, x1, x2, x3⟩ := HK4.out wB (Below.refl _ _)
            go_region_held3 (fun W => W.cell? ⟨wo.heap.size, 0, none⟩ = some (.int .i64 f) ∧ W.cell? ⟨wo.heap.size, 1, none⟩ = some (.int .i64 lo) ∧ W.cell? ⟨wo.heap.size, 2, none⟩ = some (.int .i64 hi') ∧ W.cell? ⟨wo.heap.size, 3, none⟩ = some (.string U))
              ((refine HK4.out _ ?_; repeat' (first | exact hbw2 | exact Below.refl _ _ | apply Below.drew | apply Below.alloc | simp)))
              ((first
                | (refine step_append_none (by rfl) _ _ 24 (by rfl) 41 i0 Tryd.underlying24 hi _ _ _ _ (by rfl) (by rfl) (by omega) ?_)
                | (refine step_append_any (by rfl) _ _ 24 (by rfl) wB.heap.size 41 i0 _ 4 40 Tryd.underlying24 hi hz0 hz1 hz2 (by rfl) (by decide) _ _ _ (by rfl) ((World.ownsRow_made wB #[] 0 (Nat.le_refl _) (by decide) rfl).alloc _) ⟨wB.heap.size + 1, 0, none⟩ 1 1 (encE (f, lo, hi', U)) (by rfl) (by rfl) (by have := four_new (wB.alloc (.cells #[] 41)) f lo hi' U 41; rw [World.size_alloc] at this; exact this) (four_one _) (by unfold maxLen; omega) (by omega) (by first | (simp; done) | (simp; omega)) ?_; intro v' w2 hown2 hg2 _; obtain ⟨g1, c1, rfl, hc1, hgB⟩ := row_pos hown2; have hbw2 : Below wB.heap.size wB w2 := grown_own hg2 (by repeat' (first | exact Below.refl _ _ | apply Below.drew | apply Below.alloc | (simp; done) | (simp; omega))) (by first | (simp; done) | (simp; omega)) (by first | (simp; done) | (simp; omega)))
                | (refine step_append_any (by rfl) _ _ 24 (by rfl) wB.heap.size 41 i0 _ 4 40 Tryd.underlying24 hi hz0 hz1 hz2 (by rfl) (by decide) _ _ _ (by rfl) (by have := World.ownsRow_made (base := wB.heap.size) (e := 41) (size := 4) (wB.alloc (.cells #[.int .i64 f, .int .i64 lo, .int .i64 hi', .string U] 41)) #[] 0 (by simp) (by decide) rfl; rw [World.size_alloc] at this; exact this) ⟨wB.heap.size, 0, none⟩ 1 1 (encE (f, lo, hi', U)) (by rfl) (by rfl) (news_alloc (four_new wB f lo hi' U 41)) (four_one _) (by unfold maxLen; omega) (by omega) (by first | (simp; done) | (simp; omega)) ?_; intro v' w2 hown2 hg2 _; obtain ⟨g1, c1, rfl, hc1, hgB⟩ := row_pos hown2; have hbw2 : Below wB.heap.size wB w2 := grown_own hg2 (by repeat' (first | exact Below.refl _ _ | apply Below.drew | apply Below.alloc | (simp; done) | (simp; omega))) (by first | (simp; done) | (simp; omega)) (by first | (simp; done) | (simp; omega)))))
            all_goals (have HN : Hid (InsAt es (0 + 1) (.slice (some ⟨g1, 0, none⟩) (0 + 1) c1) w1 w2) := ins_done HR.out.old HA.out HQ2.out hbw2 (by rw [HT.out]; simpa [insAll, insE, cellsE] using hown2))
            all_goals (clear hown2 hg2 hbw2 hc1 hgB HK4 x0 x1 x2 x3; go_wp2)
            all_goals exact ⟨⟨0 + 1, by omega, by go_num, HN.out⟩, by simp [intOf]; omega⟩
      · have hjp : 0 < j := by omega
        clear hj0
        obtain ⟨g, cS, rfl, hcS, hgB⟩ := row_pos2 HR.out.own hjp
        have HRow := hid (row_four HR.out.own)
        have hgo : g < wr.heap.size := (HR.out.own.lt g rfl).2
        generalize hSS : insAll [] (es.take (j)) = S at HT HLn HRow
        obtain ⟨wo, rfl⟩ : ∃ wo, wo = wr := ⟨_, rfl⟩
        go_wp2_with fail
        have HA := hid ((Below.refl _ wo).alloc (Nat.le_refl _) (.cells #[.int .i64 f, .int .i64 lo, .int .i64 hi', .string U] 41))
        have HX := hid (four_new wo f lo hi' U 41)
        generalize hwA : wo.alloc (.cells #[.int .i64 f, .int .i64 lo, .int .i64 hi', .string U] 41) = wA at HA HX ⊢
        have hsA : wA.heap.size = wo.heap.size + 1 := by rw [← hwA]; simp
        clear hwA c0 c1 c2 c3
        go_loopw [10] (fun x wq => ∃ q : Nat, q ≤ j ∧ x = .int .i64 q ∧ Hid (Below wA.heap.size wA wq ∧ ∀ i (h : i < S.length), i < q → leB S[i] (f, lo, hi', U) = true)) (fun x _ => j - (intOf x).toNat)
        case atStart => exact ⟨0, Nat.zero_le _, rfl, Below.refl _ _, fun i h hi => by omega⟩
        case round =>
          obtain ⟨q, hq, rfl, HQ⟩ := hrel
          by_cases hqm : q < j
          · have hqS : q < S.length := by rw [HLn.out]; exact hqm
            have hqi : (q : Int) < (j : Int) := by omega
            have hqd : decide ((q : Int) < (j : Int)) = true := decide_eq_true hqi
            have hq0 : (0 : Int) ≤ (q : Int) := by omega
            have hgS : S[q]? = some S[q] := List.getElem?_eq_getElem hqS
            have hy := fun i v (hv : (encE S[q])[i]? = some v) => ((HQ.out.1.cell (p := ⟨g, q * 4 + i, none⟩) (by show g < _; omega)).trans ((HA.out.cell (p := ⟨g, q * 4 + i, none⟩) hgo))).trans (HRow.out q S[q] hgS i v hv)
            obtain ⟨x0, x1, x2, x3⟩ := four_at HX.out HQ.out.1 (by omega)
            have HLe : Hid (∀ i (h : i < S.length), i < q + 1 → leB S[q] (f, lo, hi', U) = true → leB S[i] (f, lo, hi', U) = true) := fun i h hi hl => by
              by_cases hiq : i = q
              · subst hiq; exact hl
              · exact HQ.out.2 i h (by omega)
            have HSq : Hid (∀ (h : q < S.length), S[q] = S[q]) := fun h => rfl
            generalize hyy : S[q] = y at hy HLe
            replace HSq : Hid (∀ (h : q < S.length), S[q] = y) := fun h => hyy
            clear hyy hgS
            obtain ⟨yf, yl, yh, yU⟩ := y
            have y0 := hy 0 _ rfl
            have y1 := hy 1 _ rfl
            have y2 := hy 2 _ rfl
            simp only [Nat.add_zero, Ed.file, Ed.lo, Ed.hi] at y0 y1 y2
            clear hy
            by_cases h1 : yf < f
            · have HL : Hid (leB (yf, yl, yh, yU) (f, lo, hi', U) = true) := by show _ = _; simp [leB, Ed.file, Ed.lo, Ed.hi, h1]
              clear HSq
              go_wp2_with fail
              go_quiet (fail)
              go_wp2_with fail
              go_roundw
              case rel => exact ⟨q + 1, by omega, by go_num, below_drewN HQ.out.1 _, fun i h hi => HLe.out i h hi HL.out⟩
              case measure => simp [intOf]; omega
            · have d1 : decide (yf < f) = false := by simpa using h1
              cases h2 : (yf == f) with
              | false =>
                have HStop : Hid (∀ (h : q < S.length), leB S[q] (f, lo, hi', U) = false) := fun h => by rw [HSq.out h]; exact by simp [leB, Ed.file, Ed.lo, Ed.hi, h1, h2]
                clear HLe HSq
                go_wp2_with fail
                go_quiet (fail)
                all_goals
                  go_wp2_with fail
                  have HQ2 := hid (below_drewN HQ.out.1 nq)
                  have HI : Hid (insAll [] (es.take (j + 1)) = S.take q ++ (f, lo, hi', U) :: S.drop q) := by show _ = _; rw [HT.out]; exact ins_at _ S q (by rw [HLn.out]; omega) HQ.out.2 HStop.out
                  have HqS : Hid (q ≤ S.length) := by show _ ≤ _; rw [HLn.out]; exact hq
                  clear HQ HStop
                  generalize wr.drewN nq = wB at HQ2 ⊢
                  have HK4 := hid (fun W (h : Below wB.heap.size wB W) => four_at HX.out (HQ2.out.trans (h.mono HQ2.out.size)) (by omega))
                  have HPt := hid (fun W (h : Below wB.heap.size wB W) => row_part (W := W) (g := g) (S := S) (fun k x hx i v hv => (((HQ2.out.trans (h.mono HQ2.out.size)).cell (p := ⟨g, k * 4 + i, none⟩) (by show g < _; omega)).trans (HA.out.cell (p := ⟨g, k * 4 + i, none⟩) hgo)).trans (HRow.out k x hx i v hv)) q)
                  obtain ⟨x0, x1, x2, x3⟩ := HK4.out wB (Below.refl _ _)
                  have hqc : (q : Int) ≤ (cS : Int) := by omega
                  have hqj : (q : Int) ≤ (j : Int) := by omega
                  have hqc2 : q ≤ cS := by omega
                  have hjc : (j : Int) ≤ (cS : Int) := by omega
                  go_region_held3 (fun W => W.cell? ⟨wo.heap.size, 0, none⟩ = some (.int .i64 f) ∧ W.cell? ⟨wo.heap.size, 1, none⟩ = some (.int .i64 lo) ∧ W.cell? ⟨wo.heap.size, 2, none⟩ = some (.int .i64 hi') ∧ W.cell? ⟨wo.heap.size, 3, none⟩ = some (.string U))
                    ((refine HK4.out _ ?_; repeat' (first | assumption | exact Below.refl _ _ | exact hb2.size | exact hb3.size | apply Below.drew | apply Below.alloc | (simp; done) | (simp; omega))))
                    ((first | (refine step_append_lit (by rfl) _ _ 24 (by rfl) wB.heap.size 41 i0 _ 4 40 Tryd.underlying24 hi hz0 hz1 hz2 (by rfl) (by decide) _ (by rfl) (by first | exact (World.ownsRow_made wB #[] 0 (Nat.le_refl _) (by decide) rfl).alloc _ | exact World.ownsRow_made wB #[] 0 (Nat.le_refl _) (by decide) rfl | (have := World.ownsRow_made (base := wB.heap.size) (e := 41) (size := 4) (wB.alloc (.cells #[.int .i64 f, .int .i64 lo, .int .i64 hi', .string U] 41)) #[] 0 (by simp) (by decide) rfl; rw [World.size_alloc] at this; exact this)) _ _ _ (cellsE (S.take q)) (by rfl) (by rw [cellsE_length, List.length_take, HLn.out]; omega) (HPt.out _ (by repeat' (first | assumption | exact Below.refl _ _ | exact hb2.size | exact hb3.size | apply Below.drew | apply Below.alloc | (simp; done) | (simp; omega)))).1 (cellsE_one _) (by unfold maxLen; omega) (by omega) (by first | (simp; done) | (simp; omega) | exact hb2.size | exact hb3.size | (have := hb2.size; simp; omega)) ?_; intro g2 c2 w2 hown2 hg2; have hb2 : Below wB.heap.size wB w2 := grown_blk hg2 (by repeat' (first | assumption | exact Below.refl _ _ | exact hb2.size | exact hb3.size | apply Below.drew | apply Below.alloc | (simp; done) | (simp; omega))) (by first | (simp; done) | (simp; omega) | exact hb2.size | exact hb3.size | (have := hb2.size; simp; omega)) (by first | (simp; done) | (simp; omega))) | (refine step_append_any (by rfl) _ _ 24 (by rfl) wB.heap.size 41 i0 _ 4 40 Tryd.underlying24 hi hz0 hz1 hz2 (by rfl) (by decide) _ _ _ (by rfl) (by first | exact hown2 | exact hown2.alloc _) _ _ _ (encE (f, lo, hi', U)) (by rfl) (by rfl) (by first | exact four_new w2 _ _ _ _ _ | (refine news_grown hg2 (by first | (simp; done) | (simp; omega)) (by simp) ?_; first | (have := four_new (wB.alloc (.cells #[] 41)) f lo hi' U 41; rw [World.size_alloc] at this; exact this) | exact news_alloc (four_new wB f lo hi' U 41))) (four_one _) (by unfold maxLen; omega) (by omega) (by first | (simp; done) | (simp; omega) | exact hb2.size | exact hb3.size | (have := hb2.size; simp; omega)) ?_; intro v3 w3 hown3 hg3 _; have hb3 : Below wB.heap.size wB w3 := grown_row (by first | exact hown2 | exact hown2.alloc _) hg3 (by repeat' (first | assumption | exact Below.refl _ _ | exact hb2.size | exact hb3.size | apply Below.drew | apply Below.alloc | (simp; done) | (simp; omega))) (by first | (simp; done) | (simp; omega) | exact hb2.size | exact hb3.size | (have := hb2.size; simp; omega)); obtain ⟨g3, c3, rfl, hc3, hg3b⟩ := row_pos2 hown3 (by omega)) | (refine step_append_any (by rfl) _ _ 24 (by rfl) wB.heap.size 41 i0 _ 4 40 Tryd.underlying24 hi hz0 hz1 hz2 (by rfl) (by decide) _ _ _ (by rfl) hown3 ⟨g, if cS = q then 0 else q * 4, none⟩ (j - q) (cS - q) (cellsE (S.drop q)) (by by_cases hcq : cS = q <;> simp [Act.eval, hcq]) (by rw [cellsE_length, List.length_drop, HLn.out]) (drop_news (HPt.out _ hb3).2 (by rw [HLn.out]; omega)) (cellsE_one _) (by unfold maxLen; omega) (by omega) hb3.size ?_; intro v4 w4 hown4 hg4 _; have hb4 : Below wB.heap.size wB w4 := grown_row hown3 hg4 hb3 hb3.size; obtain ⟨g4, c4, rfl, hc4, hg4b⟩ := row_pos2 hown4 (by omega))))
                  all_goals (have HN : Hid (InsAt es (j + 1) (.slice (some ⟨g4, 0, none⟩) _ c4) w1 w4) := ins_done HR.out.old HA.out HQ2.out hb4 (by rw [HI.out, cellsE_append, cellsE_cons]; exact row_cast hown4 (by have := HqS.out; omega) (by simp)))
                  all_goals (clear hc3 hg3b hc4 hg4b hown2 hg2 hb2 hown3 hg3 hb3 hown4 hg4 hb4 HK4 HPt x0 x1 x2 x3; go_wp2)
                  all_goals exact ⟨⟨j + 1, by omega, by go_num, HN.out⟩, by simp [intOf]; omega⟩
              | true =>
                by_cases h3 : yl < lo
                · have HL : Hid (leB (yf, yl, yh, yU) (f, lo, hi', U) = true) := by show _ = _; simp [leB, Ed.file, Ed.lo, Ed.hi, h1, h2, h3]
                  clear HSq
                  go_wp2_with fail
                  go_quiet (fail)
                  go_wp2_with fail
                  go_roundw
                  case rel => exact ⟨q + 1, by omega, by go_num, below_drewN HQ.out.1 _, fun i h hi => HLe.out i h hi HL.out⟩
                  case measure => simp [intOf]; omega
                · have d3 : decide (yl < lo) = false := by simpa using h3
                  cases h4 : (yl == lo) with
                  | false =>
                    have HStop : Hid (∀ (h : q < S.length), leB S[q] (f, lo, hi', U) = false) := fun h => by rw [HSq.out h]; exact by simp [leB, Ed.file, Ed.lo, Ed.hi, h1, h2, h3, h4]
                    clear HLe HSq
                    go_wp2_with fail
                    go_quiet (fail)
                    all_goals
                      go_wp2_with fail
                      have HQ2 := hid (below_drewN HQ.out.1 nq)
                      have HI : Hid (insAll [] (es.take (j + 1)) = S.take q ++ (f, lo, hi', U) :: S.drop q) := by show _ = _; rw [HT.out]; exact ins_at _ S q (by rw [HLn.out]; omega) HQ.out.2 HStop.out
                      have HqS : Hid (q ≤ S.length) := by show _ ≤ _; rw [HLn.out]; exact hq
                      clear HQ HStop
                      generalize wr.drewN nq = wB at HQ2 ⊢
                      have HK4 := hid (fun W (h : Below wB.heap.size wB W) => four_at HX.out (HQ2.out.trans (h.mono HQ2.out.size)) (by omega))
                      have HPt := hid (fun W (h : Below wB.heap.size wB W) => row_part (W := W) (g := g) (S := S) (fun k x hx i v hv => (((HQ2.out.trans (h.mono HQ2.out.size)).cell (p := ⟨g, k * 4 + i, none⟩) (by show g < _; omega)).trans (HA.out.cell (p := ⟨g, k * 4 + i, none⟩) hgo)).trans (HRow.out k x hx i v hv)) q)
                      obtain ⟨x0, x1, x2, x3⟩ := HK4.out wB (Below.refl _ _)
                      have hqc : (q : Int) ≤ (cS : Int) := by omega
                      have hqj : (q : Int) ≤ (j : Int) := by omega
                      have hqc2 : q ≤ cS := by omega
                      have hjc : (j : Int) ≤ (cS : Int) := by omega
                      go_region_held3 (fun W => W.cell? ⟨wo.heap.size, 0, none⟩ = some (.int .i64 f) ∧ W.cell? ⟨wo.heap.size, 1, none⟩ = some (.int .i64 lo) ∧ W.cell? ⟨wo.heap.size, 2, none⟩ = some (.int .i64 hi') ∧ W.cell? ⟨wo.heap.size, 3, none⟩ = some (.string U))
                        ((refine HK4.out _ ?_; repeat' (first | assumption | exact Below.refl _ _ | exact hb2.size | exact hb3.size | apply Below.drew | apply Below.alloc | (simp; done) | (simp; omega))))
                        ((first | (refine step_append_lit (by rfl) _ _ 24 (by rfl) wB.heap.size 41 i0 _ 4 40 Tryd.underlying24 hi hz0 hz1 hz2 (by rfl) (by decide) _ (by rfl) (by first | exact (World.ownsRow_made wB #[] 0 (Nat.le_refl _) (by decide) rfl).alloc _ | exact World.ownsRow_made wB #[] 0 (Nat.le_refl _) (by decide) rfl | (have := World.ownsRow_made (base := wB.heap.size) (e := 41) (size := 4) (wB.alloc (.cells #[.int .i64 f, .int .i64 lo, .int .i64 hi', .string U] 41)) #[] 0 (by simp) (by decide) rfl; rw [World.size_alloc] at this; exact this)) _ _ _ (cellsE (S.take q)) (by rfl) (by rw [cellsE_length, List.length_take, HLn.out]; omega) (HPt.out _ (by repeat' (first | assumption | exact Below.refl _ _ | exact hb2.size | exact hb3.size | apply Below.drew | apply Below.alloc | (simp; done) | (simp; omega)))).1 (cellsE_one _) (by unfold maxLen; omega) (by omega) (by first | (simp; done) | (simp; omega) | exact hb2.size | exact hb3.size | (have := hb2.size; simp; omega)) ?_; intro g2 c2 w2 hown2 hg2; have hb2 : Below wB.heap.size wB w2 := grown_blk hg2 (by repeat' (first | assumption | exact Below.refl _ _ | exact hb2.size | exact hb3.size | apply Below.drew | apply Below.alloc | (simp; done) | (simp; omega))) (by first | (simp; done) | (simp; omega) | exact hb2.size | exact hb3.size | (have := hb2.size; simp; omega)) (by first | (simp; done) | (simp; omega))) | (refine step_append_any (by rfl) _ _ 24 (by rfl) wB.heap.size 41 i0 _ 4 40 Tryd.underlying24 hi hz0 hz1 hz2 (by rfl) (by decide) _ _ _ (by rfl) (by first | exact hown2 | exact hown2.alloc _) _ _ _ (encE (f, lo, hi', U)) (by rfl) (by rfl) (by first | exact four_new w2 _ _ _ _ _ | (refine news_grown hg2 (by first | (simp; done) | (simp; omega)) (by simp) ?_; first | (have := four_new (wB.alloc (.cells #[] 41)) f lo hi' U 41; rw [World.size_alloc] at this; exact this) | exact news_alloc (four_new wB f lo hi' U 41))) (four_one _) (by unfold maxLen; omega) (by omega) (by first | (simp; done) | (simp; omega) | exact hb2.size | exact hb3.size | (have := hb2.size; simp; omega)) ?_; intro v3 w3 hown3 hg3 _; have hb3 : Below wB.heap.size wB w3 := grown_row (by first | exact hown2 | exact hown2.alloc _) hg3 (by repeat' (first | assumption | exact Below.refl _ _ | exact hb2.size | exact hb3.size | apply Below.drew | apply Below.alloc | (simp; done) | (simp; omega))) (by first | (simp; done) | (simp; omega) | exact hb2.size | exact hb3.size | (have := hb2.size; simp; omega)); obtain ⟨g3, c3, rfl, hc3, hg3b⟩ := row_pos2 hown3 (by omega)) | (refine step_append_any (by rfl) _ _ 24 (by rfl) wB.heap.size 41 i0 _ 4 40 Tryd.underlying24 hi hz0 hz1 hz2 (by rfl) (by decide) _ _ _ (by rfl) hown3 ⟨g, if cS = q then 0 else q * 4, none⟩ (j - q) (cS - q) (cellsE (S.drop q)) (by by_cases hcq : cS = q <;> simp [Act.eval, hcq]) (by rw [cellsE_length, List.length_drop, HLn.out]) (drop_news (HPt.out _ hb3).2 (by rw [HLn.out]; omega)) (cellsE_one _) (by unfold maxLen; omega) (by omega) hb3.size ?_; intro v4 w4 hown4 hg4 _; have hb4 : Below wB.heap.size wB w4 := grown_row hown3 hg4 hb3 hb3.size; obtain ⟨g4, c4, rfl, hc4, hg4b⟩ := row_pos2 hown4 (by omega))))
                      all_goals (have HN : Hid (InsAt es (j + 1) (.slice (some ⟨g4, 0, none⟩) _ c4) w1 w4) := ins_done HR.out.old HA.out HQ2.out hb4 (by rw [HI.out, cellsE_append, cellsE_cons]; exact row_cast hown4 (by have := HqS.out; omega) (by simp)))
                      all_goals (clear hc3 hg3b hc4 hg4b hown2 hg2 hb2 hown3 hg3 hb3 hown4 hg4 hb4 HK4 HPt x0 x1 x2 x3; go_wp2)
                      all_goals exact ⟨⟨j + 1, by omega, by go_num, HN.out⟩, by simp [intOf]; omega⟩
                  | true =>
                    by_cases h5 : yh ≤ hi'
                    · have HL : Hid (leB (yf, yl, yh, yU) (f, lo, hi', U) = true) := by show _ = _; simp [leB, Ed.file, Ed.lo, Ed.hi, h1, h2, h3, h4, h5]
                      clear HSq
                      go_wp2_with fail
                      go_quiet (fail)
                      go_wp2_with fail
                      go_roundw
                      case rel => exact ⟨q + 1, by omega, by go_num, below_drewN HQ.out.1 _, fun i h hi => HLe.out i h hi HL.out⟩
                      case measure => simp [intOf]; omega
                    · have d5 : decide (yh ≤ hi') = false := by simpa using h5
                      have HStop : Hid (∀ (h : q < S.length), leB S[q] (f, lo, hi', U) = false) := fun h => by rw [HSq.out h]; exact by simp [leB, Ed.file, Ed.lo, Ed.hi, h1, h2, h3, h4, h5]
                      clear HLe HSq
                      go_wp2_with fail
                      go_quiet (fail)
                      all_goals
                        go_wp2_with fail
                        have HQ2 := hid (below_drewN HQ.out.1 nq)
                        have HI : Hid (insAll [] (es.take (j + 1)) = S.take q ++ (f, lo, hi', U) :: S.drop q) := by show _ = _; rw [HT.out]; exact ins_at _ S q (by rw [HLn.out]; omega) HQ.out.2 HStop.out
                        have HqS : Hid (q ≤ S.length) := by show _ ≤ _; rw [HLn.out]; exact hq
                        clear HQ HStop
                        generalize wr.drewN nq = wB at HQ2 ⊢
                        have HK4 := hid (fun W (h : Below wB.heap.size wB W) => four_at HX.out (HQ2.out.trans (h.mono HQ2.out.size)) (by omega))
                        have HPt := hid (fun W (h : Below wB.heap.size wB W) => row_part (W := W) (g := g) (S := S) (fun k x hx i v hv => (((HQ2.out.trans (h.mono HQ2.out.size)).cell (p := ⟨g, k * 4 + i, none⟩) (by show g < _; omega)).trans (HA.out.cell (p := ⟨g, k * 4 + i, none⟩) hgo)).trans (HRow.out k x hx i v hv)) q)
                        obtain ⟨x0, x1, x2, x3⟩ := HK4.out wB (Below.refl _ _)
                        have hqc : (q : Int) ≤ (cS : Int) := by omega
                        have hqj : (q : Int) ≤ (j : Int) := by omega
                        have hqc2 : q ≤ cS := by omega
                        have hjc : (j : Int) ≤ (cS : Int) := by omega
                        go_region_held3 (fun W => W.cell? ⟨wo.heap.size, 0, none⟩ = some (.int .i64 f) ∧ W.cell? ⟨wo.heap.size, 1, none⟩ = some (.int .i64 lo) ∧ W.cell? ⟨wo.heap.size, 2, none⟩ = some (.int .i64 hi') ∧ W.cell? ⟨wo.heap.size, 3, none⟩ = some (.string U))
                          ((refine HK4.out _ ?_; repeat' (first | assumption | exact Below.refl _ _ | exact hb2.size | exact hb3.size | apply Below.drew | apply Below.alloc | (simp; done) | (simp; omega))))
                          ((first | (refine step_append_lit (by rfl) _ _ 24 (by rfl) wB.heap.size 41 i0 _ 4 40 Tryd.underlying24 hi hz0 hz1 hz2 (by rfl) (by decide) _ (by rfl) (by first | exact (World.ownsRow_made wB #[] 0 (Nat.le_refl _) (by decide) rfl).alloc _ | exact World.ownsRow_made wB #[] 0 (Nat.le_refl _) (by decide) rfl | (have := World.ownsRow_made (base := wB.heap.size) (e := 41) (size := 4) (wB.alloc (.cells #[.int .i64 f, .int .i64 lo, .int .i64 hi', .string U] 41)) #[] 0 (by simp) (by decide) rfl; rw [World.size_alloc] at this; exact this)) _ _ _ (cellsE (S.take q)) (by rfl) (by rw [cellsE_length, List.length_take, HLn.out]; omega) (HPt.out _ (by repeat' (first | assumption | exact Below.refl _ _ | exact hb2.size | exact hb3.size | apply Below.drew | apply Below.alloc | (simp; done) | (simp; omega)))).1 (cellsE_one _) (by unfold maxLen; omega) (by omega) (by first | (simp; done) | (simp; omega) | exact hb2.size | exact hb3.size | (have := hb2.size; simp; omega)) ?_; intro g2 c2 w2 hown2 hg2; have hb2 : Below wB.heap.size wB w2 := grown_blk hg2 (by repeat' (first | assumption | exact Below.refl _ _ | exact hb2.size | exact hb3.size | apply Below.drew | apply Below.alloc | (simp; done) | (simp; omega))) (by first | (simp; done) | (simp; omega) | exact hb2.size | exact hb3.size | (have := hb2.size; simp; omega)) (by first | (simp; done) | (simp; omega))) | (refine step_append_any (by rfl) _ _ 24 (by rfl) wB.heap.size 41 i0 _ 4 40 Tryd.underlying24 hi hz0 hz1 hz2 (by rfl) (by decide) _ _ _ (by rfl) (by first | exact hown2 | exact hown2.alloc _) _ _ _ (encE (f, lo, hi', U)) (by rfl) (by rfl) (by first | exact four_new w2 _ _ _ _ _ | (refine news_grown hg2 (by first | (simp; done) | (simp; omega)) (by simp) ?_; first | (have := four_new (wB.alloc (.cells #[] 41)) f lo hi' U 41; rw [World.size_alloc] at this; exact this) | exact news_alloc (four_new wB f lo hi' U 41))) (four_one _) (by unfold maxLen; omega) (by omega) (by first | (simp; done) | (simp; omega) | exact hb2.size | exact hb3.size | (have := hb2.size; simp; omega)) ?_; intro v3 w3 hown3 hg3 _; have hb3 : Below wB.heap.size wB w3 := grown_row (by first | exact hown2 | exact hown2.alloc _) hg3 (by repeat' (first | assumption | exact Below.refl _ _ | exact hb2.size | exact hb3.size | apply Below.drew | apply Below.alloc | (simp; done) | (simp; omega))) (by first | (simp; done) | (simp; omega) | exact hb2.size | exact hb3.size | (have := hb2.size; simp; omega)); obtain ⟨g3, c3, rfl, hc3, hg3b⟩ := row_pos2 hown3 (by omega)) | (refine step_append_any (by rfl) _ _ 24 (by rfl) wB.heap.size 41 i0 _ 4 40 Tryd.underlying24 hi hz0 hz1 hz2 (by rfl) (by decide) _ _ _ (by rfl) hown3 ⟨g, if cS = q then 0 else q * 4, none⟩ (j - q) (cS - q) (cellsE (S.drop q)) (by by_cases hcq : cS = q <;> simp [Act.eval, hcq]) (by rw [cellsE_length, List.length_drop, HLn.out]) (drop_news (HPt.out _ hb3).2 (by rw [HLn.out]; omega)) (cellsE_one _) (by unfold maxLen; omega) (by omega) hb3.size ?_; intro v4 w4 hown4 hg4 _; have hb4 : Below wB.heap.size wB w4 := grown_row hown3 hg4 hb3 hb3.size; obtain ⟨g4, c4, rfl, hc4, hg4b⟩ := row_pos2 hown4 (by omega))))
                        all_goals (have HN : Hid (InsAt es (j + 1) (.slice (some ⟨g4, 0, none⟩) _ c4) w1 w4) := ins_done HR.out.old HA.out HQ2.out hb4 (by rw [HI.out, cellsE_append, cellsE_cons]; exact row_cast hown4 (by have := HqS.out; omega) (by simp)))
                        all_goals (clear hc3 hg3b hc4 hg4b hown2 hg2 hb2 hown3 hg3 hb3 hown4 hg4 hb4 HK4 HPt x0 x1 x2 x3; go_wp2)
                        all_goals exact ⟨⟨j + 1, by omega, by go_num, HN.out⟩, by simp [intOf]; omega⟩
          · have HStop : Hid (∀ (h : q < S.length), leB S[q] (f, lo, hi', U) = false) := fun h => by rw [HLn.out] at h; omega
            have hqi : ¬ ((q : Int) < (j : Int)) := by omega
            have hqd : decide ((q : Int) < (j : Int)) = false := decide_eq_false hqi
            have hq0 : (0 : Int) ≤ (q : Int) := by omega
            go_wp2_with fail
            go_quiet (fail)
            all_goals
              go_wp2_with fail
              have HQ2 := hid (below_drewN HQ.out.1 nq)
              have HI : Hid (insAll [] (es.take (j + 1)) = S.take q ++ (f, lo, hi', U) :: S.drop q) := by show _ = _; rw [HT.out]; exact ins_at _ S q (by rw [HLn.out]; omega) HQ.out.2 HStop.out
              have HqS : Hid (q ≤ S.length) := by show _ ≤ _; rw [HLn.out]; exact hq
              clear HQ HStop
              generalize wr.drewN nq = wB at HQ2 ⊢
              have HK4 := hid (fun W (h : Below wB.heap.size wB W) => four_at HX.out (HQ2.out.trans (h.mono HQ2.out.size)) (by omega))
              have HPt := hid (fun W (h : Below wB.heap.size wB W) => row_part (W := W) (g := g) (S := S) (fun k x hx i v hv => (((HQ2.out.trans (h.mono HQ2.out.size)).cell (p := ⟨g, k * 4 + i, none⟩) (by show g < _; omega)).trans (HA.out.cell (p := ⟨g, k * 4 + i, none⟩) hgo)).trans (HRow.out k x hx i v hv)) q)
              obtain ⟨x0, x1, x2, x3⟩ := HK4.out wB (Below.refl _ _)
              have hqc : (q : Int) ≤ (cS : Int) := by omega
              have hqj : (q : Int) ≤ (j : Int) := by omega
              have hqc2 : q ≤ cS := by omega
              have hjc : (j : Int) ≤ (cS : Int) := by omega
              go_region_held3 (fun W => W.cell? ⟨wo.heap.size, 0, none⟩ = some (.int .i64 f) ∧ W.cell? ⟨wo.heap.size, 1, none⟩ = some (.int .i64 lo) ∧ W.cell? ⟨wo.heap.size, 2, none⟩ = some (.int .i64 hi') ∧ W.cell? ⟨wo.heap.size, 3, none⟩ = some (.string U))
                ((refine HK4.out _ ?_; repeat' (first | assumption | exact Below.refl _ _ | exact hb2.size | exact hb3.size | apply Below.drew | apply Below.alloc | (simp; done) | (simp; omega))))
                ((first | (refine step_append_lit (by rfl) _ _ 24 (by rfl) wB.heap.size 41 i0 _ 4 40 Tryd.underlying24 hi hz0 hz1 hz2 (by rfl) (by decide) _ (by rfl) (by first | exact (World.ownsRow_made wB #[] 0 (Nat.le_refl _) (by decide) rfl).alloc _ | exact World.ownsRow_made wB #[] 0 (Nat.le_refl _) (by decide) rfl | (have := World.ownsRow_made (base := wB.heap.size) (e := 41) (size := 4) (wB.alloc (.cells #[.int .i64 f, .int .i64 lo, .int .i64 hi', .string U] 41)) #[] 0 (by simp) (by decide) rfl; rw [World.size_alloc] at this; exact this)) _ _ _ (cellsE (S.take q)) (by rfl) (by rw [cellsE_length, List.length_take, HLn.out]; omega) (HPt.out _ (by repeat' (first | assumption | exact Below.refl _ _ | exact hb2.size | exact hb3.size | apply Below.drew | apply Below.alloc | (simp; done) | (simp; omega)))).1 (cellsE_one _) (by unfold maxLen; omega) (by omega) (by first | (simp; done) | (simp; omega) | exact hb2.size | exact hb3.size | (have := hb2.size; simp; omega)) ?_; intro g2 c2 w2 hown2 hg2; have hb2 : Below wB.heap.size wB w2 := grown_blk hg2 (by repeat' (first | assumption | exact Below.refl _ _ | exact hb2.size | exact hb3.size | apply Below.drew | apply Below.alloc | (simp; done) | (simp; omega))) (by first | (simp; done) | (simp; omega) | exact hb2.size | exact hb3.size | (have := hb2.size; simp; omega)) (by first | (simp; done) | (simp; omega))) | (refine step_append_any (by rfl) _ _ 24 (by rfl) wB.heap.size 41 i0 _ 4 40 Tryd.underlying24 hi hz0 hz1 hz2 (by rfl) (by decide) _ _ _ (by rfl) (by first | exact hown2 | exact hown2.alloc _) _ _ _ (encE (f, lo, hi', U)) (by rfl) (by rfl) (by first | exact four_new w2 _ _ _ _ _ | (refine news_grown hg2 (by first | (simp; done) | (simp; omega)) (by simp) ?_; first | (have := four_new (wB.alloc (.cells #[] 41)) f lo hi' U 41; rw [World.size_alloc] at this; exact this) | exact news_alloc (four_new wB f lo hi' U 41))) (four_one _) (by unfold maxLen; omega) (by omega) (by first | (simp; done) | (simp; omega) | exact hb2.size | exact hb3.size | (have := hb2.size; simp; omega)) ?_; intro v3 w3 hown3 hg3 _; have hb3 : Below wB.heap.size wB w3 := grown_row (by first | exact hown2 | exact hown2.alloc _) hg3 (by repeat' (first | assumption | exact Below.refl _ _ | exact hb2.size | exact hb3.size | apply Below.drew | apply Below.alloc | (simp; done) | (simp; omega))) (by first | (simp; done) | (simp; omega) | exact hb2.size | exact hb3.size | (have := hb2.size; simp; omega)); obtain ⟨g3, c3, rfl, hc3, hg3b⟩ := row_pos2 hown3 (by omega)) | (refine step_append_any (by rfl) _ _ 24 (by rfl) wB.heap.size 41 i0 _ 4 40 Tryd.underlying24 hi hz0 hz1 hz2 (by rfl) (by decide) _ _ _ (by rfl) hown3 ⟨g, if cS = q then 0 else q * 4, none⟩ (j - q) (cS - q) (cellsE (S.drop q)) (by by_cases hcq : cS = q <;> simp [Act.eval, hcq]) (by rw [cellsE_length, List.length_drop, HLn.out]) (drop_news (HPt.out _ hb3).2 (by rw [HLn.out]; omega)) (cellsE_one _) (by unfold maxLen; omega) (by omega) hb3.size ?_; intro v4 w4 hown4 hg4 _; have hb4 : Below wB.heap.size wB w4 := grown_row hown3 hg4 hb3 hb3.size; obtain ⟨g4, c4, rfl, hc4, hg4b⟩ := row_pos2 hown4 (by omega))))
              all_goals (have HN : Hid (InsAt es (j + 1) (.slice (some ⟨g4, 0, none⟩) _ c4) w1 w4) := ins_done HR.out.old HA.out HQ2.out hb4 (by rw [HI.out, cellsE_append, cellsE_cons]; exact row_cast hown4 (by have := HqS.out; omega) (by simp)))
              all_goals (clear hc3 hg3b hc4 hg4b hown2 hg2 hb2 hown3 hg3 hb3 hown4 hg4 hb4 HK4 HPt x0 x1 x2 x3; go_wp2)
              all_goals exact ⟨⟨j + 1, by omega, by go_num, HN.out⟩, by simp [intOf]; omega⟩
    · as_aux_lemma =>
        have hje : j = es.length := by omega
        have hrow := HR.out.own
        rw [hje, List.take_of_length_le (Nat.le_refl _)] at hrow
        have hSl := sortI_length es
        rw [← hSl] at hrow
        obtain ⟨av, cv, rfl, hES⟩ := EAt.of_row (es := sortI es) hrow
        have HBS := hid (HB1.out.trans (HR.out.old.mono HB1.out.size))
        have HFS := hid (hF.below HBS.out)
        have HBad := hid (fun (m : Int) (h : misfitFrom fs none (sortI es) = m) (hm : m ≠ 0) => change_bad (es := es) hw h hm)
        have HOut := hid (change_outs fs es hw)
        have HRis := hid (rising_of (sortI_sorted es))
        have HTot : Hid (total (sortI es) = total es) := total_perm (sortI_perm es)
        clear hrow HR
        generalize sortI es = S at hES HBad HOut HRis HTot hSl ⊢
        have hlen : S.length ≤ 1048576 := by omega
        have htot : total S ≤ 1048576 := by have := HTot.out; omega
        have hzF : ∀ x ∈ fs, x.2.size ≤ 1048576 := fun x hx => (hz x hx).2
        clear hje hj hSl hn2 HTot hE hF HB1 hz
        obtain ⟨wS, rfl⟩ : ∃ wS, wS = wr := ⟨_, rfl⟩
        go_wp2_with fail
        go_loopw [105] (fun i wr => ∃ k : Nat, k ≤ S.length ∧ i = .int .i64 k ∧ Hid (Below wS.heap.size wS wr ∧ misfitFrom fs none S = misfitFrom fs (prevE S k) (S.drop k))) (fun i _ => S.length - (intOf i).toNat)
        case atStart => exact ⟨0, Nat.zero_le _, rfl, Below.refl _ _, by simp [prevE]⟩
        case round =>
          obtain ⟨k, hk, rfl, H⟩ := hrel
          obtain ⟨hB, hW⟩ := H.out
          have HW := hid hW
          have HB := hid hB
          clear H hW hB
          by_cases hltk : k < S.length
          · obtain ⟨sb, soff, rfl, hsb, hc⟩ := hES.cells k hltk
            have hgx : S[k]? = some S[k] := List.getElem?_eq_getElem hltk
            obtain ⟨c0, c1, c2, c3⟩ := hc k S[k] hgx
            have HC := hid hc
            have HX := hid hgx
            have HD : Hid (S.drop k = S[k] :: S.drop (k + 1)) := List.drop_eq_getElem_cons hltk
            rw [← HB.out.cell (p := ⟨sb, _, none⟩) hsb] at c0 c1 c2 c3
            generalize S[k] = x at c0 c1 c2 c3 HX HD
            obtain ⟨f, lo, hi', tx⟩ := x
            simp only [Ed.file, Ed.lo, Ed.hi, Ed.text] at c0 c1 c2 c3
            clear hc hgx
            have hB1 : Below wr.heap.size wr (wr.alloc (.cells #[.int .i64 f, .int .i64 lo, .int .i64 hi', .string tx] 41)) := (Below.refl _ _).alloc (Nat.le_refl _) _
            have HBx := hid (HB.out.trans (hB1.mono HB.out.size))
            have HBw := hid (HBS.out.trans (HBx.out.mono HBS.out.size))
            by_cases hf0 : f < 0 ∨ (fs.length : Int) ≤ f
            · have HFE : Hid (changeF fs es = ([], 6)) := HBad.out 6 (by rw [HW.out, HD.out]; simp [misfitFrom, hf0]) (by decide)
              clear HW HD HX HC hB1
              by_cases hf1 : f < 0
              · have hf1d : decide (f < 0) = true := decide_eq_true hf1
                go_wp2_with fail
                first | (go_quiet (fail); go_wp2_with fail) | skip
                go_ret2
                exact change_nil HFE.out (by first | exact below_drewN HBw.out _ | exact HBw.out)
              · have hf1d : decide (f < 0) = false := decide_eq_false hf1
                have hf2 : (fs.length : Int) ≤ f := by omega
                have hf2d : decide ((fs.length : Int) ≤ f) = true := decide_eq_true hf2
                go_wp2_with fail
                first | (go_quiet (fail); go_wp2_with fail) | skip
                go_ret2
                exact change_nil HFE.out (by first | exact below_drewN HBw.out _ | exact HBw.out)
            · have hf1 : ¬ f < 0 := fun h => hf0 (.inl h)
              have hf2 : ¬ (fs.length : Int) ≤ f := fun h => hf0 (.inr h)
              obtain ⟨fi, rfl⟩ : ∃ fi : Nat, f = fi := ⟨f.toNat, by omega⟩
              have hfi : fi < fs.length := by omega
              rcases id HFS.out with h0 | ⟨fb, foff, rfl, hfb, hfc⟩
              · rw [h0] at hfi; simp at hfi
              have hgf : fs[fi]? = some fs[fi] := List.getElem?_eq_getElem hfi
              have ct := (hfc fi fs[fi] hgf).2
              have hzt := hzF fs[fi] (List.getElem_mem hfi)
              rw [← HB.out.cell (p := ⟨fb, _, none⟩) hfb] at ct
              have HT : Hid (textOf fs fi = fs[fi].2) := by show _ = _; simp [textOf, hfi]
              generalize fs[fi].2 = T at ct hzt HT
              have hbw : sb < wr.heap.size := Nat.lt_of_lt_of_le hsb HB.out.size
              have hfbw : fb < wr.heap.size := Nat.lt_of_lt_of_le hfb HB.out.size
              have hne : fb ≠ wr.heap.size := by omega
              have hd1 : decide ((fi : Int) < 0) = false := by simp
              have hd2 : decide ((fs.length : Int) ≤ (fi : Int)) = false := by simpa using hf2
              by_cases hbad : lo < 0 ∨ hi' < lo ∨ (T.size : Int) < hi'
              · have HFE : Hid (changeF fs es = ([], 3)) := HBad.out 3 (by rw [HW.out, HD.out]; simp [misfitFrom, hf1, hf2, HT.out, hbad]) (by decide)
                clear HW HD HX HC hB1 hgf hfc hf0 HT
                by_cases h1 : lo < 0
                · go_wp2_with fail
                  go_quiet (fail)
                  go_wp2_with fail
                  first | (go_quiet (fail); go_wp2_with fail) | skip
                  go_ret2
                  exact change_nil HFE.out (by first | exact below_drewN (below_drewN HBw.out _) _ | exact below_drewN HBw.out _ | exact HBw.out)
                · have hl1 : decide (lo < 0) = false := by simpa using h1
                  by_cases h2 : hi' < lo
                  · go_wp2_with fail
                    go_quiet (fail)
                    go_wp2_with fail
                    first | (go_quiet (fail); go_wp2_with fail) | skip
                    go_ret2
                    exact change_nil HFE.out (by first | exact below_drewN (below_drewN HBw.out _) _ | exact below_drewN HBw.out _ | exact HBw.out)
                  · have hl2 : decide (hi' < lo) = false := by simpa using h2
                    have h3 : (T.size : Int) < hi' := by omega
                    go_wp2_with fail
                    go_quiet (fail)
                    go_wp2_with fail
                    first | (go_quiet (fail); go_wp2_with fail) | skip
                    go_ret2
                    exact change_nil HFE.out (by first | exact below_drewN (below_drewN HBw.out _) _ | exact below_drewN HBw.out _ | exact HBw.out)
              · have hl1 : decide (lo < 0) = false := by simp; omega
                have hl2 : decide (hi' < lo) = false := by simp; omega
                have hl3 : decide ((T.size : Int) < hi') = false := by simp; omega
                by_cases hk0 : k = 0
                · subst hk0
                  have HN : Hid (misfitFrom fs none S = misfitFrom fs (prevE S 1) (S.drop 1)) := by
                    show _ = _; rw [HW.out, HD.out, prevE_succ S 0 _ HX.out]; simp [misfitFrom, hf1, hf2, HT.out, hbad, prevE]
                  clear HW HD HX HC hB1 hgf hfc hf0 HT
                  simp only [Nat.zero_mul, Nat.add_zero] at c0 c1 c2 c3
                  go_wp2_with fail
                  go_quiet (fail)
                  go_wp2_with fail
                  go_quiet (fail)
                  go_wp2_with fail
                  first | (go_quiet (fail); go_wp2_with fail) | skip
                  go_roundw
                  case rel => exact ⟨1, by omega, by go_num, by first | exact below_drewN (below_drewN (below_drewN HBx.out _) _) _ | exact below_drewN (below_drewN HBx.out _) _ | exact below_drewN HBx.out _, HN.out⟩
                  case measure => simp [intOf]; omega
                · obtain ⟨q, hq⟩ : ∃ q, k = q + 1 := ⟨k - 1, by omega⟩
                  have hgq : S[q]? = some S[q] := List.getElem?_eq_getElem (by omega)
                  obtain ⟨p0, p1, p2, p3⟩ := HC.out q S[q] hgq
                  have HP : Hid (prevE S k = some S[q]) := by have := prevE_succ S q _ hgq; rw [← hq] at this; exact this
                  generalize S[q] = px at p0 p1 p2 p3 HP
                  obtain ⟨f', lo', hi2, tx'⟩ := px
                  simp only [Ed.file, Ed.lo, Ed.hi, Ed.text] at p0 p1 p2 p3
                  have HRr : Hid (misfitFrom fs none S = if (f' == (fi : Int) && (decide (lo < hi2) || lo' == lo)) = true then 8 else misfitFrom fs (prevE S (k + 1)) (S.drop (k + 1))) := by
                    show _ = _; rw [HW.out, HD.out, prevE_succ S k _ HX.out, HP.out]; simp [misfitFrom, hf1, hf2, HT.out, hbad, clashB]
                  have hwq : IntKind.i64.wrap ((k : Int) - 1) = (q : Int) := by rw [IntKind.wrap_i64]; omega
                  have hq1 : (q : Int) < (S.length : Int) := by omega
                  have hq2 : q < S.length := by omega
                  have hq3 : (0 : Int) ≤ (q : Int) := by omega
                  have hk1 : (0 : Int) < (k : Int) := by omega
                  have hkp : 0 < k := by omega
                  have hkpd : decide (0 < k) = true := decide_eq_true hkp
                  have hk1d : decide ((0 : Int) < (k : Int)) = true := decide_eq_true hk1
                  have p0' := (HB.out.cell (p := ⟨sb, _, none⟩) hsb).trans p0
                  have p1' := (HB.out.cell (p := ⟨sb, _, none⟩) hsb).trans p1
                  have p2' := (HB.out.cell (p := ⟨sb, _, none⟩) hsb).trans p2
                  have hcw : sb ≠ wr.heap.size := by omega
                  clear HW HD HX HC hB1 hgf hfc hf0 HT HP hgq hk0 hq p0 p1 p2 p3
                  cases hff : (f' == (fi : Int)) with
                  | false =>
                    have HN := hid (HRr.out.trans (if_neg (by simp [hff])))
                    clear HRr
                    go_wp2_with fail
                    go_quiet (fail)
                    go_wp2_with fail
                    go_quiet (fail)
                    go_wp2_with fail
                    first | (go_quiet (fail); go_wp2_with fail) | skip
                    go_roundw
                    case rel => exact ⟨k + 1, by omega, by go_num, by first | exact below_drewN (below_drewN (below_drewN HBx.out _) _) _ | exact below_drewN (below_drewN HBx.out _) _ | exact below_drewN HBx.out _, HN.out⟩
                    case measure => simp [intOf]; omega
                  | true =>
                    by_cases hlh : lo < hi2
                    · have HFE : Hid (changeF fs es = ([], 8)) := HBad.out 8 (HRr.out.trans (if_pos (by simp [hff, hlh]))) (by decide)
                      have hlhd : decide (lo < hi2) = true := decide_eq_true hlh
                      clear HRr
                      go_wp2_with fail
                      go_quiet (fail)
                      go_wp2_with fail
                      go_quiet (fail)
                      go_wp2_with fail
                      first | (go_quiet (fail); go_wp2_with fail) | skip
                      go_ret2
                      exact change_nil HFE.out (by first | exact below_drewN (below_drewN (below_drewN HBw.out _) _) _ | exact below_drewN (below_drewN HBw.out _) _ | exact below_drewN HBw.out _ | exact HBw.out)
                    · have hlhd : decide (lo < hi2) = false := decide_eq_false hlh
                      cases hll : (lo == lo') with
                      | true =>
                        have HFE : Hid (changeF fs es = ([], 8)) := HBad.out 8 (HRr.out.trans (if_pos (by rw [hff, hlhd]; simp at hll; simp [hll]))) (by decide)
                        clear HRr
                        go_wp2_with fail
                        go_quiet (fail)
                        go_wp2_with fail
                        go_quiet (fail)
                        go_wp2_with fail
                        first | (go_quiet (fail); go_wp2_with fail) | skip
                        go_ret2
                        exact change_nil HFE.out (by first | exact below_drewN (below_drewN (below_drewN HBw.out _) _) _ | exact below_drewN (below_drewN HBw.out _) _ | exact below_drewN HBw.out _ | exact HBw.out)
                      | false =>
                        have HN := hid (HRr.out.trans (if_neg (by rw [hff, hlhd]; simp at hll; simp; omega)))
                        clear HRr
                        go_wp2_with fail
                        go_quiet (fail)
                        go_wp2_with fail
                        go_quiet (fail)
                        go_wp2_with fail
                        first | (go_quiet (fail); go_wp2_with fail) | skip
                        go_roundw
                        case rel => exact ⟨k + 1, by omega, by go_num, by first | exact below_drewN (below_drewN (below_drewN HBx.out _) _) _ | exact below_drewN (below_drewN HBx.out _) _ | exact below_drewN HBx.out _, HN.out⟩
                        case measure => simp [intOf]; omega
          · have HM0 : Hid (misfitFrom fs none S = 0) := by show _ = _; rw [HW.out, List.drop_eq_nil_of_le (by omega)]; rfl
            have HO2 := hid (HOut.out HM0.out)
            have HBt := hid (HBS.out.trans (HB.out.mono HBS.out.size))
            have HFt := hid (HFS.out.below HB.out)
            have HEt := hid (hES.below HB.out)
            clear HW HB HOut HBad HFS hES HBS
            obtain ⟨wT, rfl⟩ : ∃ wT, wT = wr := ⟨_, rfl⟩
            go_wp2_with fail
            go_loopw [13, 14, 180] (fun v mu i wr => ∃ k : Nat, k ≤ fs.length ∧ i = .int .i64 k ∧ mu = .bool (muchL S 0 (fs.take k)) ∧ Hid (Below wT.heap.size wT wr ∧ wr.ownsRow wT.heap.size 33 2 v k (cellsF (outsL S 0 (fs.take k))))) (fun _ _ i _ => fs.length - (intOf i).toNat)
            case atStart => exact ⟨0, Nat.zero_le _, rfl, rfl, Below.refl _ _, ⟨by simp [outsL, cellsF], .inl ⟨rfl, rfl⟩⟩⟩
            case round =>
              obtain ⟨k, hk, rfl, rfl, H⟩ := hrel
              obtain ⟨hB, hown⟩ := H.out
              have HB := hid hB
              have HOw := hid hown
              clear H hB hown
              obtain ⟨ov, on, oc, rfl⟩ := row_slice HOw.out
              by_cases hlt : k < fs.length
              · have hgx : fs[k]? = some fs[k] := List.getElem?_eq_getElem hlt
                rcases id HFt.out with h0 | ⟨fb, foff, rfl, hfb, hfc⟩
                · rw [h0] at hlt; simp at hlt
                obtain ⟨c0, c1⟩ := hfc k fs[k] hgx
                rw [← HB.out.cell (p := ⟨fb, _, none⟩) hfb] at c0 c1
                have hzt := hzF fs[k] (List.getElem_mem hlt)
                have HTx : Hid (textOf fs (k : Int) = fs[k].2) := by show _ = _; simp [textOf, hlt]
                have HNo := hid (outs_next S fs k fs[k] hgx)
                have HNm := hid (much_next S fs k fs[k] hgx)
                generalize fs[k] = x at c0 c1 hzt HTx HNo HNm
                obtain ⟨px, tx⟩ := x
                dsimp only at c0 c1 hzt HTx HNo HNm
                have hch : Chain tx.size 0 (ofs (k : Int) S) := by
                  have := fit_ofs fs (k : Int) S none 0 HM0.out HRis.out (fun p hp => by cases hp) (by omega) (.inl (Int.le_refl _))
                  rw [HTx.out] at this; exact this
                have hto := total_ofs (k : Int) S
                generalize muchL S 0 (fs.take k) = m0 at HNm ⊢
                clear hfc hgx HTx
                obtain ⟨wo, rfl⟩ : ∃ wo, wo = wr := ⟨_, rfl⟩
                go_wp2_with fail
                have HA := hid ((Below.refl _ wo).alloc (Nat.le_refl _) (.cells #[.string px, .string tx] 33))
                have HX : Hid ((wo.alloc (.cells #[.string px, .string tx] 33)).cell? ⟨wo.heap.size, 0, none⟩ = some (.string px) ∧ (wo.alloc (.cells #[.string px, .string tx] 33)).cell? ⟨wo.heap.size, 1, none⟩ = some (.string tx)) := ⟨by rw [World.cell?_alloc_mark]; rfl, by rw [World.cell?_alloc_mark]; rfl⟩
                have HOa := hid (HOw.out.alloc (.cells #[.string px, .string tx] 33))
                generalize hwA : wo.alloc (.cells #[.string px, .string tx] 33) = wA at HA HX HOa ⊢
                have hsA : wA.heap.size = wo.heap.size + 1 := by rw [← hwA]; simp
                clear hwA c0 c1 HOw
                go_loopw [14, 17, 18, 187] (fun mu t at_ i wq => ∃ j : Nat, j ≤ S.length ∧ i = .int .i64 j ∧ mu = .bool (m0 || bigE (ofs (k : Int) (S.take j))) ∧ t = .string ⟨(builtL tx.data.toList 0 (ofs (k : Int) (S.take j))).toArray⟩ ∧ at_ = .int .i64 (atAfter 0 (ofs (k : Int) (S.take j))) ∧ Hid (Below wA.heap.size wA wq)) (fun _ _ _ i _ => S.length - (intOf i).toNat)
                case atStart => exact ⟨0, Nat.zero_le _, rfl, by simp [ofs, bigE], by simp [ofs, builtL], by simp [ofs, atAfter], Below.refl _ _⟩
                case round =>
                  obtain ⟨j, hj, rfl, rfl, rfl, rfl, HQ⟩ := hrel
                  by_cases hltj : j < S.length
                  · obtain ⟨sb, soff, rfl, hsb, hc⟩ := HEt.out.cells j hltj
                    have hgx : S[j]? = some S[j] := List.getElem?_eq_getElem hltj
                    obtain ⟨c0, c1, c2, c3⟩ := hc j S[j] hgx
                    have hsw : sb < wA.heap.size := by have := HB.out.size; omega
                    have HBq := hid (HB.out.trans ((HA.out.mono HB.out.size).trans (HQ.out.mono (by have := HB.out.size; omega))))
                    rw [← HBq.out.cell (p := ⟨sb, _, none⟩) hsb] at c0 c1 c2 c3
                    have hsplit := fun (hf : (S[j]).file = (k : Int)) => ofs_split (k : Int) S j S[j] hgx hf
                    have hin := fun (hf : (S[j]).file = (k : Int)) => ofs_take_in (k : Int) S j S[j] hgx hf
                    have hou := fun (hf : (S[j]).file ≠ (k : Int)) => ofs_take_out (k : Int) S j S[j] hgx hf
                    generalize S[j] = e at c0 c1 c2 c3 hsplit hin hou
                    obtain ⟨ef, el, eh, eU⟩ := e
                    simp only [Ed.file, Ed.lo, Ed.hi, Ed.text] at c0 c1 c2 c3 hsplit hin hou
                    have xx := (HQ.out.cell (p := ⟨wo.heap.size, 1, none⟩) (by show wo.heap.size < wA.heap.size; omega)).trans HX.out.2
                    have hwne : wo.heap.size ≠ wr.heap.size := by have := HQ.out.size; omega
                    have hwlt : wo.heap.size < wr.heap.size := by have := HQ.out.size; omega
                    have HQ1 := hid (HQ.out.alloc HQ.out.size (.cells #[.int .i64 ef, .int .i64 el, .int .i64 eh, .string eU] 41))
                    clear hc hgx HBq
                    cases hff : (ef == (k : Int)) with
                    | false =>
                      have hfn : ef ≠ (k : Int) := by simpa using hff
                      have HE2 := hid (hou hfn)
                      clear hsplit hin hou hfn
                      go_wp2_with fail
                      go_roundw
                      case rel => exact ⟨j + 1, by omega, by go_num, by rw [HE2.out], by rw [HE2.out], by rw [HE2.out], HQ1.out⟩
                      case measure => simp [intOf]; omega
                    | true =>
                      have hfe : ef = (k : Int) := by simpa using hff
                      have HE2 := hid (hin hfe)
                      have hat := Chain.at (es := ofs (k : Int) (S.take j)) (e := (ef, el, eh, eU)) (r := ofs (k : Int) (S.drop (j + 1))) (by rw [← hsplit hfe]; exact hch)
                      have hto2 : total (ofs (k : Int) (S.take j)) + eU.size ≤ total S := by
                        have h1 := hsplit hfe
                        have h2 := total_ofs (k : Int) S
                        rw [h1, total_append] at h2
                        simp only [total, List.map_cons, List.sum_cons, Ed.text] at h2 ⊢
                        omega
                      have hcj : Chain tx.size 0 (ofs (k : Int) (S.take j)) := by
                        have h1 := hsplit hfe
                        have h2 := hch.take (ofs (k : Int) (S.take j)).length
                        rw [h1, List.take_left] at h2
                        exact h2
                      have hbl := builtL_le tx _ hcj
                      have HBu := hid (builtL_snoc tx.data.toList 0 (ofs (k : Int) (S.take j)) (ef, el, eh, eU))
                      have HAt := hid (atAfter_snoc 0 (ofs (k : Int) (S.take j)) (ef, el, eh, eU))
                      have HBg := hid (bigE_snoc (ofs (k : Int) (S.take j)) (ef, el, eh, eU))
                      rw [← HE2.out] at HBu HAt HBg
                      simp only [Ed.lo, Ed.hi, Ed.text] at hat HBu HAt HBg
                      clear hsplit hin hou hcj HE2 hfe
                      generalize ofs (k : Int) (S.take j) = O at hat hto2 hbl HBu HAt HBg ⊢
                      obtain ⟨p, hp⟩ : ∃ p : Nat, atAfter 0 O = p := ⟨(atAfter 0 O).toNat, by omega⟩
                      obtain ⟨q, rfl⟩ : ∃ q : Nat, el = q := ⟨el.toNat, by omega⟩
                      obtain ⟨r, rfl⟩ : ∃ r : Nat, eh = r := ⟨eh.toNat, by omega⟩
                      have HBu2 : Hid ((⟨(builtL tx.data.toList 0 (ofs (k : Int) (S.take (j + 1)))).toArray⟩ : ByteArray) = ⟨(builtL tx.data.toList 0 O).toArray⟩ ++ tx.extract p q ++ eU) := by
                        show _ = _
                        have h1 := HBu.out
                        simp only [Int.cast_ofNat_Int, hp, Int.toNat_natCast] at h1
                        rw [h1, ← extract_piece]
                        apply ByteArray.ext
                        apply Array.ext'
                        simp [ByteArray.data_append]
                      have hXs : (⟨(builtL tx.data.toList 0 O).toArray⟩ : ByteArray).size ≤ 2097152 := by
                        show (builtL tx.data.toList 0 O).toArray.size ≤ _
                        rw [List.size_toArray]; omega
                      generalize (⟨(builtL tx.data.toList 0 O).toArray⟩ : ByteArray) = X at HBu2 hXs ⊢
                      rw [hp] at hat ⊢
                      obtain ⟨h1, h2, h3, h4⟩ := hat
                      have hpq : p ≤ q := by omega
                      have hqr : q ≤ r := by omega
                      have hrT : r ≤ tx.size := by omega
                      have hqT : q ≤ tx.size := by omega
                      have hpT : p ≤ tx.size := by omega
                      have hpq' : (p : Int) ≤ (q : Int) := by omega
                      have hqT' : (q : Int) ≤ (tx.size : Int) := by omega
                      have hUs : eU.size ≤ 1048576 := by omega
                      have hxs : (tx.extract p q).size = q - p := by simp [ByteArray.size_extract]; omega
                      clear HBu h4 hbl hto2
                      generalize hmb : (m0 || bigE O) = mb
                      have HMb : Hid ((m0 || bigE (ofs (k : Int) (S.take (j + 1)))) = (mb || decide (3000 < eU.size))) := by show _ = _; rw [HBg.out, ← Bool.or_assoc, hmb]
                      clear hmb HBg
                      cases mb with
                      | true =>
                        go_wp2_with fail
                        go_quiet (fail)
                        go_wp2_with fail
                        go_roundw
                        case rel => exact ⟨j + 1, by omega, by go_num, by rw [HMb.out]; first | (simp; done) | (simp; omega), by rw [HBu2.out], by rw [HAt.out], below_drewN HQ1.out _⟩
                        case measure => simp [intOf]; omega
                      | false =>
                        go_wp2_with fail
                        go_quiet (fail)
                        go_wp2_with fail
                        go_roundw
                        case rel => exact ⟨j + 1, by omega, by go_num, by rw [HMb.out]; first | (simp; done) | (simp; omega), by rw [HBu2.out], by rw [HAt.out], below_drewN HQ1.out _⟩
                        case measure => simp [intOf]; omega
                  · have he : S.take j = S := List.take_of_length_le (by omega)
                    rw [he]
                    have hend := hch.end
                    have hbl := builtL_le tx _ hch
                    have HSp := hid (splice_built tx.data.toList 0 (ofs (k : Int) S))
                    have HMu : Hid (muchL S 0 (fs.take (k + 1)) = ((m0 || bigE (ofs (k : Int) S)) || decide (3000 < (spliceL tx.data.toList 0 (ofs (k : Int) S)).length))) := by show _ = _; rw [HNm.out]; unfold muchB bigE; rw [Bool.or_assoc]
                    clear HNm he
                    generalize ofs (k : Int) S = O at hend hbl HSp HMu HNo hto hch ⊢
                    obtain ⟨p, hp⟩ : ∃ p : Nat, atAfter 0 O = p := ⟨(atAfter 0 O).toNat, by omega⟩
                    have HSp2 : Hid ((⟨(spliceL tx.data.toList 0 O).toArray⟩ : ByteArray) = ⟨(builtL tx.data.toList 0 O).toArray⟩ ++ tx.extract p tx.size) := by
                      show _ = _
                      have h1 := HSp.out
                      simp only [Int.cast_ofNat_Int, hp, Int.toNat_natCast] at h1
                      rw [h1]
                      apply ByteArray.ext
                      apply Array.ext'
                      simp only [ByteArray.data_append, Array.toList_append, Lib.extract_to_end]
                    have HDs : Hid ((spliceL tx.data.toList 0 O).length = (⟨(spliceL tx.data.toList 0 O).toArray⟩ : ByteArray).size) := by show _ = _; show _ = (spliceL tx.data.toList 0 O).toArray.size; simp
                    have hXs : (⟨(builtL tx.data.toList 0 O).toArray⟩ : ByteArray).size ≤ 2097152 := by
                      show (builtL tx.data.toList 0 O).toArray.size ≤ _
                      rw [List.size_toArray]; omega
                    rw [HDs.out] at HMu
                    generalize (⟨(builtL tx.data.toList 0 O).toArray⟩ : ByteArray) = X at HSp2 hXs ⊢
                    generalize (⟨(spliceL tx.data.toList 0 O).toArray⟩ : ByteArray) = D at HSp2 HMu HNo
                    rw [hp] at hend ⊢
                    have hpT : p ≤ tx.size := by omega
                    have hpT' : (p : Int) ≤ (tx.size : Int) := by omega
                    have hxs : (tx.extract p tx.size).size = tx.size - p := by simp [ByteArray.size_extract]
                    have xx := (HQ.out.cell (p := ⟨wo.heap.size, 1, none⟩) (by show wo.heap.size < wA.heap.size; omega)).trans HX.out.2
                    have x0 := (HQ.out.cell (p := ⟨wo.heap.size, 0, none⟩) (by show wo.heap.size < wA.heap.size; omega)).trans HX.out.1
                    have HOq := hid (row_keeps HOa.out HQ.out)
                    have HTq := hid (HB.out.trans ((HA.out.mono HB.out.size).trans (HQ.out.mono (by have := HB.out.size; omega))))
                    clear HSp hbl hend hch hto HDs
                    generalize hmb : (m0 || bigE O) = mb at HMu ⊢
                    clear hmb
                    obtain ⟨wq, rfl⟩ : ∃ wq, wq = wr := ⟨_, rfl⟩
                    have hws : wT.heap.size ≤ wq.heap.size := HTq.out.size
                    have HMu2 : Hid (muchL S 0 (fs.take (k + 1)) = (mb || decide (3000 < X.size + (tx.size - p)))) := by
                      show _ = _
                      rw [HMu.out, HSp2.out, ByteArray.size_append, hxs]
                    cases mb
                    all_goals (go_wp2_with (at_builtin; refine wpList_append_own _ rfl _ _ 23 rfl wT.heap.size 33 s0 _ 2 32 Tryd.underlying23 hs0 y0 y1 y2 rfl (by decide) _ _ _ rfl (HOq.out.alloc _) ⟨wq.heap.size, 0, none⟩ 1 1 [.string px, .string D] rfl rfl (by rw [HSp2.out]; exact two_new wq _ _ _) (two_one px D) (by unfold maxLen; omega) (by omega) (by simp; omega) ?_))
                    all_goals intro v7 w7 hown7 hg7 _
                    all_goals (have HB7 : Hid (Below wT.heap.size wT w7) := (HTq.out.alloc HTq.out.size _).grown hg7 (by simp; omega) (fun k e => (HOq.out.lt k e).1))
                    all_goals (have HO7 : Hid (w7.ownsRow wT.heap.size 33 2 v7 (k + 1) (cellsF (outsL S 0 (fs.take (k + 1))))) := by show World.ownsRow _ _ _ _ _ _ _; rw [HNo.out, cellsF_snoc]; exact hown7)
                    all_goals obtain ⟨g7, c7, rfl, _, _⟩ := row_pos2 hown7 (by omega)
                    all_goals clear hown7 hg7 HOq HTq xx x0
                    all_goals go_wp2_with fail
                    all_goals (refine ⟨⟨k + 1, by omega, by go_num, ?_, HB7.out, HO7.out⟩, by simp [intOf]; omega⟩)
                    all_goals (rw [HMu2.out]; first | rfl | (simp; done) | (simp; omega))
              · have he : fs.take k = fs := List.take_of_length_le (by omega)
                have hke : k = fs.length := by omega
                have hown := HOw.out
                rw [he, hke, ← outsL_length S fs 0] at hown
                rw [he]
                have HBe := hid (HBt.out.trans (HB.out.mono HBt.out.size))
                cases hmm : muchL S 0 fs with
                | true =>
                  have HFE : Hid (changeF fs es = ([], 4)) := by show _ = _; rw [HO2.out, hmm]; rfl
                  clear HO2 hown HOw he hke
                  go_wp2_with fail
                  go_ret2
                  exact change_nil HFE.out HBe.out
                | false =>
                  have HFE : Hid (changeF fs es = (outsL S 0 fs, 0)) := by show _ = _; rw [HO2.out, hmm]; rfl
                  obtain ⟨av, cv, hv, hFA⟩ := FAt.of_row hown
                  have HFA := hid hFA
                  have Hv := hid hv
                  clear HO2 hown HOw he hke hFA hv
                  go_wp2_with fail
                  go_ret2
                  exact ⟨av, cv, by rw [HFE.out]; simp only [Hv.out]; rfl, by rw [HFE.out]; exact HFA.out, HBe.out⟩
end Go.Proofs.YthklodlhbafehaaDoor
