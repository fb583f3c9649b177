/- Some texts in one. -/
import Derived.Test.YtienjifhkmekcaaDoorCmC
namespace Go.Proofs.YtienjifhkmekcaaDoor
open Go.RowKit Go.Shelf

/-- The same, or too deep. -/
def Deep1 (r r' : Rd) : Prop := r' = r ∨ ∃ i, r' = .inr (10, i)

theorem deeper (num : NumS) (ts : List Tk) : ∀ (f what : Nat) (level n : Int) (k d : Nat) (asked : Bool), d < 30 → Deep1 (rdF num ts f what level n k d asked) (rdF num ts f what level n k (d + 1) asked)
  | 0, _, _, _, _, _, _, _ => .inl rfl
  | f + 1, what, level, n, k, d, asked, hd => by
    have IH := deeper num ts f
    by_cases h0 : what = 0
    · subst h0
      rw [show rdF num ts (f + 1) 0 level n k d asked = rdF num ts (f + 1) 0 0 0 k d asked from rfl, show rdF num ts (f + 1) 0 level n k (d + 1) asked = rdF num ts (f + 1) 0 0 0 k (d + 1) asked from rfl, rd_choice, rd_choice]
      rcases IH 1 1 0 k d asked hd with h | ⟨i, h⟩
      · rw [h]
        rcases rdF num ts f 1 1 0 k d asked with ⟨m, k1⟩ | e
        · dsimp only
          split
          · rcases IH 0 0 0 (k1 + 1) d (asked && !(m == 0)) hd with h | ⟨i, h⟩
            · rw [h]
              rcases rdF num ts f 0 0 0 (k1 + 1) d (asked && !(m == 0)) with ⟨y, k2⟩ | e
              · dsimp only
                split
                · rcases IH 0 0 0 (k2 + 1) d (asked && m == 0) hd with h | ⟨i, h⟩
                  · rw [h]; exact .inl rfl
                  · rw [h]; exact .inr ⟨i, rfl⟩
                · exact .inl rfl
              · exact .inl rfl
            · rw [h]; exact .inr ⟨i, rfl⟩
          · exact .inl rfl
        · exact .inl rfl
      · rw [h]; exact .inr ⟨i, rfl⟩
    · by_cases h1 : what = 1
      · subst h1
        rw [rd_between, rd_between]
        rcases IH 3 0 0 k d asked hd with h | ⟨i, h⟩
        · rw [h]
          rcases rdF num ts f 3 0 0 k d asked with ⟨m, k1⟩ | e
          · exact IH 2 level m k1 d asked hd
          · exact .inl rfl
        · rw [h]; exact .inr ⟨i, rfl⟩
      · by_cases h2 : what = 2
        · subst h2
          rw [rd_signs, rd_signs]
          split
          · exact .inl rfl
          · rcases IH 1 (levelL (signAt ts k).toList + 1) 0 (k + 1) d (asked && asksL (signAt ts k).toList n) hd with h | ⟨i, h⟩
            · rw [h]
              rcases rdF num ts f 1 (levelL (signAt ts k).toList + 1) 0 (k + 1) d (asked && asksL (signAt ts k).toList n) with ⟨m, j⟩ | e
              · dsimp only
                split
                · split
                  · exact IH 2 _ _ _ _ _ hd
                  · exact .inl rfl
                · exact IH 2 _ _ _ _ _ hd
              · exact .inl rfl
            · rw [h]; exact .inr ⟨i, rfl⟩
        · have e : ∀ d, rdF num ts (f + 1) what level n k d asked = if d = 30 then .inr (10, k) else match ts[k]? with | none => .inr (9, k) | some t => innerF num ts f k d asked t := fun d => by
            unfold rdF
            rw [if_neg h0, if_neg h1, if_neg h2]
            rfl
          rw [e, e]
          by_cases h30 : d + 1 = 30
          · rw [if_pos h30]; exact .inr ⟨k, rfl⟩
          · rw [if_neg h30, if_neg (by omega)]
            rcases ts[k]? with _ | t
            · exact .inl rfl
            · dsimp only
              unfold innerF
              split
              · exact .inl rfl
              · split
                · exact .inl rfl
                · split
                  · exact .inl rfl
                  · split
                    · rcases IH 0 0 0 (k + 1) (d + 1) asked (by omega) with h | ⟨i, h⟩
                      · rw [h]; exact .inl rfl
                      · rw [h]; exact .inr ⟨i, rfl⟩
                    · split
                      · rcases IH 3 0 0 (k + 1) (d + 1) asked (by omega) with h | ⟨i, h⟩
                        · rw [h]; exact .inl rfl
                        · rw [h]; exact .inr ⟨i, rfl⟩
                      · exact .inl rfl

/-- The tokens of ts stand in ts' from s on, and ) behind them. -/
structure Under (ts ts' : List Tk) (s : Nat) : Prop where
  same : ∀ i t, ts[i]? = some t → ∃ t', ts'[i + s]? = some t' ∧ t'.kind = t.kind ∧ t'.text = t.text
  close : (signAt ts' (ts.length + s)).toList = [41]

theorem Under.sign {ts ts' : List Tk} {s : Nat} (h : Under ts ts' s) {k : Nat} (hk : k < ts.length) : signAt ts' (k + s) = signAt ts k := by
  have hx : ts[k]? = some ts[k] := List.getElem?_eq_getElem hk
  obtain ⟨t', h1, h2, h3⟩ := h.same k _ hx
  unfold signAt
  rw [hx, h1]
  dsimp only
  rw [h2, h3]
theorem sign_end (ts : List Tk) : (signAt ts ts.length).toList = [] := by
  unfold signAt
  rw [List.getElem?_eq_none (Nat.le_refl _)]
  rw [toList_data]
theorem Under.is {ts ts' : List Tk} {s : Nat} (h : Under ts ts' s) {k : Nat} (hk : k ≤ ts.length) (x : UInt8) (hx : x ≠ 41) : ((signAt ts' (k + s)).toList == [x]) = ((signAt ts k).toList == [x]) := by
  rcases Nat.lt_or_ge k ts.length with h1 | h1
  · rw [h.sign h1]
  · obtain rfl : k = ts.length := by omega
    rw [h.close, sign_end]
    simp
    exact fun e => hx e.symm
theorem Under.level {ts ts' : List Tk} {s : Nat} (h : Under ts ts' s) {k : Nat} (hk : k ≤ ts.length) : levelL (signAt ts' (k + s)).toList = levelL (signAt ts k).toList := by
  rcases Nat.lt_or_ge k ts.length with h1 | h1
  · rw [h.sign h1]
  · obtain rfl : k = ts.length := by omega
    rw [h.close, sign_end]
    rfl

theorem moved (num : NumS) {ts ts' : List Tk} {s : Nat} (hu : Under ts ts' s) : ∀ (f what : Nat) (level n : Int) (k d : Nat) (asked : Bool) (v : Int) (k' : Nat), k ≤ ts.length → (1 ≤ level ∨ what = 0 ∨ what = 3) → what ≤ 3 →
    rdF num ts f what level n k d asked = .inl (v, k') → rdF num ts' f what level n (k + s) d asked = .inl (v, k' + s) ∧ k' ≤ ts.length
  | 0, _, _, _, _, _, _, _, _, _, _, _, h => by cases h
  | f + 1, what, level, n, k, d, asked, v, k', hk, hlv, hw, h => by
    have IH := moved num hu f
    by_cases h0 : what = 0
    · subst h0
      rw [show rdF num ts (f + 1) 0 level n k d asked = rdF num ts (f + 1) 0 0 0 k d asked from rfl, rd_choice] at h
      rw [show rdF num ts' (f + 1) 0 level n (k + s) d asked = rdF num ts' (f + 1) 0 0 0 (k + s) d asked from rfl, rd_choice]
      rcases hb : rdF num ts f 1 1 0 k d asked with ⟨m, k1⟩ | e
      · rw [hb] at h
        obtain ⟨b1, b2⟩ := IH 1 1 0 k d asked m k1 hk (.inl (by omega)) (by omega) hb
        rw [b1]
        dsimp only at h ⊢
        rw [hu.is b2 63 (by decide)]
        split at h
        · rename_i hq
          rw [if_pos hq]
          have hlt := sign_lt ts k1 63 hq
          rcases hc : rdF num ts f 0 0 0 (k1 + 1) d (asked && !(m == 0)) with ⟨y, k2⟩ | e
          · rw [hc] at h
            obtain ⟨c1, c2⟩ := IH 0 0 0 (k1 + 1) d _ y k2 (by omega) (.inr (.inl rfl)) (by omega) hc
            rw [show k1 + s + 1 = k1 + 1 + s by omega, c1]
            dsimp only at h ⊢
            rw [hu.is c2 58 (by decide)]
            split at h
            · rename_i hq2
              rw [if_pos hq2]
              have hlt2 := sign_lt ts k2 58 hq2
              rcases hg : rdF num ts f 0 0 0 (k2 + 1) d (asked && m == 0) with ⟨z, k3⟩ | e
              · rw [hg] at h
                obtain ⟨g1, g2⟩ := IH 0 0 0 (k2 + 1) d _ z k3 (by omega) (.inr (.inl rfl)) (by omega) hg
                rw [show k2 + s + 1 = k2 + 1 + s by omega, g1]
                dsimp only at h ⊢
                injection h with h
                injection h with h3 h4
                exact ⟨by rw [h3, h4], h4 ▸ g2⟩
              · rw [hg] at h; cases h
            · cases h
          · rw [hc] at h; cases h
        · rename_i hq
          rw [if_neg hq]
          injection h with h
          injection h with h3 h4
          exact ⟨by rw [h3, h4], h4 ▸ b2⟩
      · rw [hb] at h; cases h
    · by_cases h1 : what = 1
      · subst h1
        have hl1 : 1 ≤ level := by omega
        rw [rd_between] at h ⊢
        rcases hb : rdF num ts f 3 0 0 k d asked with ⟨m, k1⟩ | e
        · rw [hb] at h
          obtain ⟨b1, b2⟩ := IH 3 0 0 k d asked m k1 hk (.inr (.inr rfl)) (by omega) hb
          rw [b1]
          exact IH 2 level m k1 d asked v k' b2 (.inl hl1) (by omega) h
        · rw [hb] at h; cases h
      · by_cases h2 : what = 2
        · subst h2
          have hl1 : 1 ≤ level := by omega
          rw [rd_signs] at h ⊢
          rw [hu.level hk]
          split at h
          · rename_i hq
            rw [if_pos hq]
            injection h with h
            injection h with h3 h4
            exact ⟨by rw [h3, h4], h4 ▸ hk⟩
          · rename_i hq
            rw [if_neg hq]
            have hlt := level_lt ts k level hl1 hq
            rw [hu.sign hlt]
            rcases hb : rdF num ts f 1 (levelL (signAt ts k).toList + 1) 0 (k + 1) d (asked && asksL (signAt ts k).toList n) with ⟨m, j⟩ | e
            · rw [hb] at h
              obtain ⟨b1, b2⟩ := IH 1 _ 0 (k + 1) d _ m j (by omega) (.inl (by omega)) (by omega) hb
              rw [show k + s + 1 = k + 1 + s by omega, b1]
              dsimp only at h ⊢
              split at h
              · rename_i ha
                rw [if_pos ha]
                split at h
                · rename_i hz
                  rw [if_pos hz]
                  exact IH 2 level _ j d asked v k' b2 (.inl hl1) (by omega) h
                · cases h
              · rename_i ha
                rw [if_neg ha]
                exact IH 2 level n j d asked v k' b2 (.inl hl1) (by omega) h
            · rw [hb] at h; cases h
        · have h3 : what = 3 := by omega
          subst h3
          rw [show rdF num ts (f + 1) 3 level n k d asked = if d = 30 then .inr (10, k) else match ts[k]? with | none => .inr (9, k) | some t => innerF num ts f k d asked t from rfl] at h
          rw [show rdF num ts' (f + 1) 3 level n (k + s) d asked = if d = 30 then .inr (10, k + s) else match ts'[k + s]? with | none => .inr (9, k + s) | some t => innerF num ts' f (k + s) d asked t from rfl]
          split at h
          · cases h
          · rename_i hd
            rw [if_neg hd]
            rcases ht : ts[k]? with _ | t
            · rw [ht] at h; cases h
            · rw [ht] at h
              have hlt := (List.getElem?_eq_some_iff.1 ht).1
              obtain ⟨t', e1, e2, e3⟩ := hu.same k t ht
              rw [e1]
              dsimp only at h ⊢
              unfold innerF at h ⊢
              rw [e2, e3, hu.sign hlt]
              have one : ∀ x : Int, (Sum.inl (x, k + 1) : Rd) = .inl (v, k') → (Sum.inl (x, k + s + 1) : Rd) = .inl (v, k' + s) ∧ k' ≤ ts.length := fun x h => by
                injection h with h
                injection h with h3 h4
                exact ⟨by rw [h3, ← h4]; congr 2; omega, by omega⟩
              split at h
              · rename_i q; rw [if_pos q]; exact one 0 h
              · rename_i q; rw [if_neg q]
                split at h
                · rename_i q; rw [if_pos q]
                  rcases hn : num t.text.data.toList with _ | x
                  · rw [hn] at h; cases h
                  · rw [hn] at h; exact one x h
                · rename_i q; rw [if_neg q]
                  split at h
                  · rename_i q; rw [if_pos q]
                    rcases hn : charL t.text.data.toList with _ | x
                    · rw [hn] at h; cases h
                    · rw [hn] at h; exact one x h
                  · rename_i q; rw [if_neg q]
                    split at h
                    · rename_i q; rw [if_pos q]
                      rcases hc : rdF num ts f 0 0 0 (k + 1) (d + 1) asked with ⟨x, k2⟩ | e
                      · rw [hc] at h
                        obtain ⟨c1, c2⟩ := IH 0 0 0 (k + 1) (d + 1) asked x k2 (by omega) (.inr (.inl rfl)) (by omega) hc
                        rw [show k + s + 1 = k + 1 + s by omega, c1]
                        dsimp only at h ⊢
                        split at h
                        · rename_i q2
                          have hlt2 := sign_lt ts k2 41 q2
                          rw [hu.sign hlt2, if_pos q2]
                          injection h with h
                          injection h with h3 h4
                          exact ⟨by rw [h3, ← h4]; congr 2; omega, by omega⟩
                        · cases h
                      · rw [hc] at h; cases h
                    · rename_i q; rw [if_neg q]
                      split at h
                      · rename_i q; rw [if_pos q]
                        rcases hc : rdF num ts f 3 0 0 (k + 1) (d + 1) asked with ⟨x, k2⟩ | e
                        · rw [hc] at h
                          obtain ⟨c1, c2⟩ := IH 3 0 0 (k + 1) (d + 1) asked x k2 (by omega) (.inr (.inr rfl)) (by omega) hc
                          rw [show k + s + 1 = k + 1 + s by omega, c1]
                          dsimp only at h ⊢
                          injection h with h
                          injection h with h3 h4
                          exact ⟨by rw [h3, h4], h4 ▸ c2⟩
                        · rw [hc] at h; cases h
                      · cases h
end Go.Proofs.YtienjifhkmekcaaDoor
namespace Go.Proofs.YtienjifhkmekcaaDoor
open Go.RowKit Go.Shelf

theorem enough_of {r : Rd} {e : Int × Nat} (h : Enough r) (hr : r = .inr e) : Enough (.inr e : Rd) := hr ▸ h

theorem more (num : NumS) (ts : List Tk) : ∀ (f what : Nat) (level n : Int) (k d : Nat) (asked : Bool), Enough (rdF num ts f what level n k d asked) → rdF num ts (f + 1) what level n k d asked = rdF num ts f what level n k d asked
  | 0, _, _, _, k, _, _, h => absurd rfl (h k)
  | f + 1, what, level, n, k, d, asked, h => by
    have IH := more num ts f
    by_cases h0 : what = 0
    · subst h0
      rw [show rdF num ts (f + 1) 0 level n k d asked = rdF num ts (f + 1) 0 0 0 k d asked from rfl] at h ⊢
      rw [show rdF num ts (f + 1 + 1) 0 level n k d asked = rdF num ts (f + 1 + 1) 0 0 0 k d asked from rfl, rd_choice num ts (f + 1)]
      rw [rd_choice] at h ⊢
      rcases hb : rdF num ts f 1 1 0 k d asked with ⟨m, k1⟩ | e
      · have hI := IH 1 1 0 k d asked (by rw [hb]; intro i hi; cases hi)
        rw [hb] at h hI
        rw [hI]
        dsimp only at h ⊢
        split at h
        · rename_i hq
          rw [if_pos hq, if_pos hq]
          rcases hc : rdF num ts f 0 0 0 (k1 + 1) d (asked && !(m == 0)) with ⟨y, k2⟩ | e
          · have hI2 := IH 0 0 0 (k1 + 1) d (asked && !(m == 0)) (by rw [hc]; intro i hi; cases hi)
            rw [hc] at h hI2
            rw [hI2]
            dsimp only at h ⊢
            split at h
            · rename_i hq2
              rw [if_pos hq2, if_pos hq2]
              rcases hg : rdF num ts f 0 0 0 (k2 + 1) d (asked && m == 0) with ⟨z, k3⟩ | e
              · have hI3 := IH 0 0 0 (k2 + 1) d (asked && m == 0) (by rw [hg]; intro i hi; cases hi)
                rw [hg] at hI3
                rw [hI3]
              · rw [hg] at h
                have hI3 := IH 0 0 0 (k2 + 1) d (asked && m == 0) (by rw [hg]; exact h)
                rw [hg] at hI3
                rw [hI3]
            · rename_i hq2
              rw [if_neg hq2, if_neg hq2]
          · rw [hc] at h
            have hI2 := IH 0 0 0 (k1 + 1) d (asked && !(m == 0)) (by rw [hc]; exact h)
            rw [hc] at hI2
            rw [hI2]
        · rename_i hq
          rw [if_neg hq, if_neg hq]
      · rw [hb] at h
        have hI := IH 1 1 0 k d asked (by rw [hb]; exact h)
        rw [hb] at hI
        rw [hI]
    · by_cases h1 : what = 1
      · subst h1
        rw [rd_between num ts (f + 1)]
        rw [rd_between] at h ⊢
        rcases hb : rdF num ts f 3 0 0 k d asked with ⟨m, k1⟩ | e
        · have hI := IH 3 0 0 k d asked (by rw [hb]; intro i hi; cases hi)
          rw [hb] at h hI
          rw [hI]
          exact IH 2 level m k1 d asked h
        · rw [hb] at h
          have hI := IH 3 0 0 k d asked (by rw [hb]; exact h)
          rw [hb] at hI
          rw [hI]
      · by_cases h2 : what = 2
        · subst h2
          rw [rd_signs num ts (f + 1)]
          rw [rd_signs] at h ⊢
          split at h
          · rename_i hq; rw [if_pos hq, if_pos hq]
          · rename_i hq
            rw [if_neg hq, if_neg hq]
            rcases hb : rdF num ts f 1 (levelL (signAt ts k).toList + 1) 0 (k + 1) d (asked && asksL (signAt ts k).toList n) with ⟨m, j⟩ | e
            · have hI := IH 1 (levelL (signAt ts k).toList + 1) 0 (k + 1) d (asked && asksL (signAt ts k).toList n) (by rw [hb]; intro i hi; cases hi)
              rw [hb] at h hI
              rw [hI]
              dsimp only at h ⊢
              split at h
              · rename_i ha
                rw [if_pos ha, if_pos ha]
                split at h
                · rename_i hz
                  rw [if_pos hz, if_pos hz]
                  exact IH 2 _ _ _ _ _ h
                · rename_i hz
                  rw [if_neg hz, if_neg hz]
              · rename_i ha
                rw [if_neg ha, if_neg ha]
                exact IH 2 _ _ _ _ _ h
            · rw [hb] at h
              have hI := IH 1 (levelL (signAt ts k).toList + 1) 0 (k + 1) d (asked && asksL (signAt ts k).toList n) (by rw [hb]; exact h)
              rw [hb] at hI
              rw [hI]
        · have e : ∀ f, rdF num ts (f + 1) what level n k d asked = if d = 30 then .inr (10, k) else match ts[k]? with | none => .inr (9, k) | some t => innerF num ts f k d asked t := fun f => by
            conv => lhs; unfold rdF
            rw [if_neg h0, if_neg h1, if_neg h2]
            rfl
          rw [e f] at h
          rw [e (f + 1), e f]
          split at h
          · rename_i q; rw [if_pos q, if_pos q]
          · rename_i q; rw [if_neg q, if_neg q]
            rcases ht : ts[k]? with _ | t
            · rfl
            · rw [ht] at h
              dsimp only at h ⊢
              unfold innerF at h ⊢
              split at h
              · rename_i q; rw [if_pos q, if_pos q]
              · rename_i q; rw [if_neg q, if_neg q]
                split at h
                · rename_i q; rw [if_pos q, if_pos q]
                · rename_i q; rw [if_neg q, if_neg q]
                  split at h
                  · rename_i q; rw [if_pos q, if_pos q]
                  · rename_i q; rw [if_neg q, if_neg q]
                    split at h
                    · rename_i q; rw [if_pos q, if_pos q]
                      rcases hc : rdF num ts f 0 0 0 (k + 1) (d + 1) asked with ⟨x, k2⟩ | e
                      · have hI := IH 0 0 0 (k + 1) (d + 1) asked (by rw [hc]; intro i hi; cases hi)
                        rw [hc] at hI
                        rw [hI]
                      · rw [hc] at h
                        have hI := IH 0 0 0 (k + 1) (d + 1) asked (by rw [hc]; exact h)
                        rw [hc] at hI
                        rw [hI]
                    · rename_i q; rw [if_neg q, if_neg q]
                      split at h
                      · rename_i q; rw [if_pos q, if_pos q]
                        rcases hc : rdF num ts f 3 0 0 (k + 1) (d + 1) asked with ⟨x, k2⟩ | e
                        · have hI := IH 3 0 0 (k + 1) (d + 1) asked (by rw [hc]; intro i hi; cases hi)
                          rw [hc] at hI
                          rw [hI]
                        · rw [hc] at h
                          have hI := IH 3 0 0 (k + 1) (d + 1) asked (by rw [hc]; exact h)
                          rw [hc] at hI
                          rw [hI]
                      · rename_i q; rw [if_neg q, if_neg q]

/-- However many more. -/
theorem more_by (num : NumS) (ts : List Tk) (f what : Nat) (level n : Int) (k d : Nat) (asked : Bool) (h : Enough (rdF num ts f what level n k d asked)) : ∀ g, rdF num ts (f + g) what level n k d asked = rdF num ts f what level n k d asked
  | 0 => rfl
  | g + 1 => by
    have IH := more_by num ts f what level n k d asked h g
    rw [← Nat.add_assoc, more num ts (f + g) what level n k d asked (by rw [IH]; exact h), IH]
end Go.Proofs.YtienjifhkmekcaaDoor
