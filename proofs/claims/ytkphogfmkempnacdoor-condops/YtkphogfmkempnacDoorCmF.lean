/- Some texts in one. -/
import Derived.Test.YtkphogfmkempnacDoorCmC
import Derived.Test.YtkphogfmkempnacDoorCmE
namespace Go.Proofs.YtkphogfmkempnacDoor
open Go.RowKit Go.Shelf

/-- The same, or too deep. -/
def Deep1 (r r' : Rd) : Prop := r' = r ∨ ∃ i, r' = .inr (10, i)

theorem deeper (num : NumS) (ts : List Tk) : ∀ (f what : Nat) (level n : Int) (k d : Nat) (asked : Bool), d < 30 → Deep1 (rdF num ts f what level n k d asked) (rdF num ts f what level n k (d + 1) asked)
  | 0, _, _, _, _, _, _, _ => .inl rfl
  | f + 1, what, level, n, k, d, asked, hd => by
    have IH := deeper num ts f
    by_cases h0 : what = 0
    · subst h0
      rw [show rdF num ts (f + 1) 0 level n k d asked = rdF num ts (f + 1) 0 0 0 k d asked from rfl, show rdF num ts (f + 1) 0 level n k (d + 1) asked = rdF num ts (f + 1) 0 0 0 k (d + 1) asked from rfl, rd_choice, rd_choice]
      rcases IH 1 1 0 k d asked hd with h | ⟨i, h⟩
      · rw [h]
        rcases rdF num ts f 1 1 0 k d asked with ⟨m, k1⟩ | e
        · dsimp only
          split
          · rcases IH 0 0 0 (k1 + 1) d (asked && !(m == 0)) hd with h | ⟨i, h⟩
            · rw [h]
              rcases rdF num ts f 0 0 0 (k1 + 1) d (asked && !(m == 0)) with ⟨y, k2⟩ | e
              · dsimp only
                split
                · rcases IH 0 0 0 (k2 + 1) d (asked && m == 0) hd with h | ⟨i, h⟩
                  · rw [h]; exact .inl rfl
                  · rw [h]; exact .inr ⟨i, rfl⟩
                · exact .inl rfl
              · exact .inl rfl
            · rw [h]; exact .inr ⟨i, rfl⟩
          · exact .inl rfl
        · exact .inl rfl
      · rw [h]; exact .inr ⟨i, rfl⟩
    · by_cases h1 : what = 1
      · subst h1
        rw [rd_between, rd_between]
        rcases IH 3 0 0 k d asked hd with h | ⟨i, h⟩
        · rw [h]
          rcases rdF num ts f 3 0 0 k d asked with ⟨m, k1⟩ | e
          · exact IH 2 level m k1 d asked hd
          · exact .inl rfl
        · rw [h]; exact .inr ⟨i, rfl⟩
      · by_cases h2 : what = 2
        · subst h2
          rw [rd_signs, rd_signs]
          split
          · exact .inl rfl
          · rcases IH 1 (levelL (signAt ts k).toList + 1) 0 (k + 1) d (asked && asksL (signAt ts k).toList n) hd with h | ⟨i, h⟩
            · rw [h]
              rcases rdF num ts f 1 (levelL (signAt ts k).toList + 1) 0 (k + 1) d (asked && asksL (signAt ts k).toList n) with ⟨m, j⟩ | e
              · dsimp only
                split
                · split
                  · exact IH 2 _ _ _ _ _ hd
                  · exact .inl rfl
                · exact IH 2 _ _ _ _ _ hd
              · exact .inl rfl
            · rw [h]; exact .inr ⟨i, rfl⟩
        · have e : ∀ d, rdF num ts (f + 1) what level n k d asked = if d = 30 then .inr (10, k) else match ts[k]? with | none => .inr (9, k) | some t => innerF num ts f k d asked t := fun d => by
            unfold rdF
            rw [if_neg h0, if_neg h1, if_neg h2]
            rfl
          rw [e, e]
          by_cases h30 : d + 1 = 30
          · rw [if_pos h30]; exact .inr ⟨k, rfl⟩
          · rw [if_neg h30, if_neg (by omega)]
            rcases ts[k]? with _ | t
            · exact .inl rfl
            · dsimp only
              unfold innerF
              split
              · exact .inl rfl
              · split
                · exact .inl rfl
                · split
                  · exact .inl rfl
                  · split
                    · rcases IH 0 0 0 (k + 1) (d + 1) asked (by omega) with h | ⟨i, h⟩
                      · rw [h]; exact .inl rfl
                      · rw [h]; exact .inr ⟨i, rfl⟩
                    · split
                      · rcases IH 3 0 0 (k + 1) (d + 1) asked (by omega) with h | ⟨i, h⟩
                        · rw [h]; exact .inl rfl
                        · rw [h]; exact .inr ⟨i, rfl⟩
                      · exact .inl rfl

/-- The tokens of ts stand in ts' from s on, and ) behind them. -/
structure Under (ts ts' : List Tk) (s : Nat) : Prop where
  same : ∀ i t, ts[i]? = some t → ∃ t', ts'[i + s]? = some t' ∧ t'.kind = t.kind ∧ t'.text = t.text
  close : (signAt ts' (ts.length + s)).toList = [41]

theorem Under.sign {ts ts' : List Tk} {s : Nat} (h : Under ts ts' s) {k : Nat} (hk : k < ts.length) : signAt ts' (k + s) = signAt ts k := by
  have hx : ts[k]? = some ts[k] := List.getElem?_eq_getElem hk
  obtain ⟨t', h1, h2, h3⟩ := h.same k _ hx
  unfold signAt
  rw [hx, h1]
  dsimp only
  rw [h2, h3]
theorem sign_end (ts : List Tk) : (signAt ts ts.length).toList = [] := by
  unfold signAt
  rw [List.getElem?_eq_none (Nat.le_refl _)]
  rw [toList_data]
theorem Under.is {ts ts' : List Tk} {s : Nat} (h : Under ts ts' s) {k : Nat} (hk : k ≤ ts.length) (x : UInt8) (hx : x ≠ 41) : ((signAt ts' (k + s)).toList == [x]) = ((signAt ts k).toList == [x]) := by
  rcases Nat.lt_or_ge k ts.length with h1 | h1
  · rw [h.sign h1]
  · obtain rfl : k = ts.length := by omega
    rw [h.close, sign_end]
    simp
    exact fun e => hx e.symm
theorem Under.level {ts ts' : List Tk} {s : Nat} (h : Under ts ts' s) {k : Nat} (hk : k ≤ ts.length) : levelL (signAt ts' (k + s)).toList = levelL (signAt ts k).toList := by
  rcases Nat.lt_or_ge k ts.length with h1 | h1
  · rw [h.sign h1]
  · obtain rfl : k = ts.length := by omega
    rw [h.close, sign_end]
    rfl

theorem moved (num : NumS) {ts ts' : List Tk} {s : Nat} (hu : Under ts ts' s) : ∀ (f what : Nat) (level n : Int) (k d : Nat) (asked : Bool) (v : Int) (k' : Nat), k ≤ ts.length → (1 ≤ level ∨ what = 0 ∨ what = 3) → what ≤ 3 →
    rdF num ts f what level n k d asked = .inl (v, k') → rdF num ts' f what level n (k + s) d asked = .inl (v, k' + s) ∧ k' ≤ ts.length
  | 0, _, _, _, _, _, _, _, _, _, _, _, h => by cases h
  | f + 1, what, level, n, k, d, asked, v, k', hk, hlv, hw, h => by
    have IH := moved num hu f
    by_cases h0 : what = 0
    · subst h0
      rw [show rdF num ts (f + 1) 0 level n k d asked = rdF num ts (f + 1) 0 0 0 k d asked from rfl, rd_choice] at h
      rw [show rdF num ts' (f + 1) 0 level n (k + s) d asked = rdF num ts' (f + 1) 0 0 0 (k + s) d asked from rfl, rd_choice]
      rcases hb : rdF num ts f 1 1 0 k d asked with ⟨m, k1⟩ | e
      · rw [hb] at h
        obtain ⟨b1, b2⟩ := IH 1 1 0 k d asked m k1 hk (.inl (by omega)) (by omega) hb
        rw [b1]
        dsimp only at h ⊢
        rw [hu.is b2 63 (by decide)]
        split at h
        · rename_i hq
          rw [if_pos hq]
          have hlt := sign_lt ts k1 63 hq
          rcases hc : rdF num ts f 0 0 0 (k1 + 1) d (asked && !(m == 0)) with ⟨y, k2⟩ | e
          · rw [hc] at h
            obtain ⟨c1, c2⟩ := IH 0 0 0 (k1 + 1) d _ y k2 (by omega) (.inr (.inl rfl)) (by omega) hc
            rw [show k1 + s + 1 = k1 + 1 + s by omega, c1]
            dsimp only at h ⊢
            rw [hu.is c2 58 (by decide)]
            split at h
            · rename_i hq2
              rw [if_pos hq2]
              have hlt2 := sign_lt ts k2 58 hq2
              rcases hg : rdF num ts f 0 0 0 (k2 + 1) d (asked && m == 0) with ⟨z, k3⟩ | e
              · rw [hg] at h
                obtain ⟨g1, g2⟩ := IH 0 0 0 (k2 + 1) d _ z k3 (by omega) (.inr (.inl rfl)) (by omega) hg
                rw [show k2 + s + 1 = k2 + 1 + s by omega, g1]
                dsimp only at h ⊢
                injection h with h
                injection h with h3 h4
                exact ⟨by rw [h3, h4], h4 ▸ g2⟩
              · rw [hg] at h; cases h
            · cases h
          · rw [hc] at h; cases h
        · rename_i hq
          rw [if_neg hq]
          injection h with h
          injection h with h3 h4
          exact ⟨by rw [h3, h4], h4 ▸ b2⟩
      · rw [hb] at h; cases h
    · by_cases h1 : what = 1
      · subst h1
        have hl1 : 1 ≤ level := by omega
        rw [rd_between] at h ⊢
        rcases hb : rdF num ts f 3 0 0 k d asked with ⟨m, k1⟩ | e
        · rw [hb] at h
          obtain ⟨b1, b2⟩ := IH 3 0 0 k d asked m k1 hk (.inr (.inr rfl)) (by omega) hb
          rw [b1]
          exact IH 2 level m k1 d asked v k' b2 (.inl hl1) (by omega) h
        · rw [hb] at h; cases h
      · by_cases h2 : what = 2
        · subst h2
          have hl1 : 1 ≤ level := by omega
          rw [rd_signs] at h ⊢
          rw [hu.level hk]
          split at h
          · rename_i hq
            rw [if_pos hq]
            injection h with h
            injection h with h3 h4
            exact ⟨by rw [h3, h4], h4 ▸ hk⟩
          · rename_i hq
            rw [if_neg hq]
            have hlt := level_lt ts k level hl1 hq
            rw [hu.sign hlt]
            rcases hb : rdF num ts f 1 (levelL (signAt ts k).toList + 1) 0 (k + 1) d (asked && asksL (signAt ts k).toList n) with ⟨m, j⟩ | e
            · rw [hb] at h
              obtain ⟨b1, b2⟩ := IH 1 _ 0 (k + 1) d _ m j (by omega) (.inl (by omega)) (by omega) hb
              rw [show k + s + 1 = k + 1 + s by omega, b1]
              dsimp only at h ⊢
              split at h
              · rename_i ha
                rw [if_pos ha]
                split at h
                · rename_i hz
                  rw [if_pos hz]
                  exact IH 2 level _ j d asked v k' b2 (.inl hl1) (by omega) h
                · cases h
              · rename_i ha
                rw [if_neg ha]
                exact IH 2 level n j d asked v k' b2 (.inl hl1) (by omega) h
            · rw [hb] at h; cases h
        · have h3 : what = 3 := by omega
          subst h3
          rw [show rdF num ts (f + 1) 3 level n k d asked = if d = 30 then .inr (10, k) else match ts[k]? with | none => .inr (9, k) | some t => innerF num ts f k d asked t from rfl] at h
          rw [show rdF num ts' (f + 1) 3 level n (k + s) d asked = if d = 30 then .inr (10, k + s) else match ts'[k + s]? with | none => .inr (9, k + s) | some t => innerF num ts' f (k + s) d asked t from rfl]
          split at h
          · cases h
          · rename_i hd
            rw [if_neg hd]
            rcases ht : ts[k]? with _ | t
            · rw [ht] at h; cases h
            · rw [ht] at h
              have hlt := (List.getElem?_eq_some_iff.1 ht).1
              obtain ⟨t', e1, e2, e3⟩ := hu.same k t ht
              rw [e1]
              dsimp only at h ⊢
              unfold innerF at h ⊢
              rw [e2, e3, hu.sign hlt]
              have one : ∀ x : Int, (Sum.inl (x, k + 1) : Rd) = .inl (v, k') → (Sum.inl (x, k + s + 1) : Rd) = .inl (v, k' + s) ∧ k' ≤ ts.length := fun x h => by
                injection h with h
                injection h with h3 h4
                exact ⟨by rw [h3, ← h4]; congr 2; omega, by omega⟩
              split at h
              · rename_i q; rw [if_pos q]; exact one 0 h
              · rename_i q; rw [if_neg q]
                split at h
                · rename_i q; rw [if_pos q]
                  rcases hn : num t.text.data.toList with _ | x
                  · rw [hn] at h; cases h
                  · rw [hn] at h; exact one x h
                · rename_i q; rw [if_neg q]
                  split at h
                  · rename_i q; rw [if_pos q]
                    rcases hn : charL t.text.data.toList with _ | x
                    · rw [hn] at h; cases h
                    · rw [hn] at h; exact one x h
                  · rename_i q; rw [if_neg q]
                    split at h
                    · rename_i q; rw [if_pos q]
                      rcases hc : rdF num ts f 0 0 0 (k + 1) (d + 1) asked with ⟨x, k2⟩ | e
                      · rw [hc] at h
                        obtain ⟨c1, c2⟩ := IH 0 0 0 (k + 1) (d + 1) asked x k2 (by omega) (.inr (.inl rfl)) (by omega) hc
                        rw [show k + s + 1 = k + 1 + s by omega, c1]
                        dsimp only at h ⊢
                        split at h
                        · rename_i q2
                          have hlt2 := sign_lt ts k2 41 q2
                          rw [hu.sign hlt2, if_pos q2]
                          injection h with h
                          injection h with h3 h4
                          exact ⟨by rw [h3, ← h4]; congr 2; omega, by omega⟩
                        · cases h
                      · rw [hc] at h; cases h
                    · rename_i q; rw [if_neg q]
                      split at h
                      · rename_i q; rw [if_pos q]
                        rcases hc : rdF num ts f 3 0 0 (k + 1) (d + 1) asked with ⟨x, k2⟩ | e
                        · rw [hc] at h
                          obtain ⟨c1, c2⟩ := IH 3 0 0 (k + 1) (d + 1) asked x k2 (by omega) (.inr (.inr rfl)) (by omega) hc
                          rw [show k + s + 1 = k + 1 + s by omega, c1]
                          dsimp only at h ⊢
                          injection h with h
                          injection h with h3 h4
                          exact ⟨by rw [h3, h4], h4 ▸ c2⟩
                        · rw [hc] at h; cases h
                      · cases h
end Go.Proofs.YtkphogfmkempnacDoor
namespace Go.Proofs.YtkphogfmkempnacDoor
open Go.RowKit Go.Shelf

theorem enough_of {r : Rd} {e : Int × Nat} (h : Enough r) (hr : r = .inr e) : Enough (.inr e : Rd) := hr ▸ h

theorem more (num : NumS) (ts : List Tk) : ∀ (f what : Nat) (level n : Int) (k d : Nat) (asked : Bool), Enough (rdF num ts f what level n k d asked) → rdF num ts (f + 1) what level n k d asked = rdF num ts f what level n k d asked
  | 0, _, _, _, k, _, _, h => absurd rfl (h k)
  | f + 1, what, level, n, k, d, asked, h => by
    have IH := more num ts f
    by_cases h0 : what = 0
    · subst h0
      rw [show rdF num ts (f + 1) 0 level n k d asked = rdF num ts (f + 1) 0 0 0 k d asked from rfl] at h ⊢
      rw [show rdF num ts (f + 1 + 1) 0 level n k d asked = rdF num ts (f + 1 + 1) 0 0 0 k d asked from rfl, rd_choice num ts (f + 1)]
      rw [rd_choice] at h ⊢
      rcases hb : rdF num ts f 1 1 0 k d asked with ⟨m, k1⟩ | e
      · have hI := IH 1 1 0 k d asked (by rw [hb]; intro i hi; cases hi)
        rw [hb] at h hI
        rw [hI]
        dsimp only at h ⊢
        split at h
        · rename_i hq
          rw [if_pos hq, if_pos hq]
          rcases hc : rdF num ts f 0 0 0 (k1 + 1) d (asked && !(m == 0)) with ⟨y, k2⟩ | e
          · have hI2 := IH 0 0 0 (k1 + 1) d (asked && !(m == 0)) (by rw [hc]; intro i hi; cases hi)
            rw [hc] at h hI2
            rw [hI2]
            dsimp only at h ⊢
            split at h
            · rename_i hq2
              rw [if_pos hq2, if_pos hq2]
              rcases hg : rdF num ts f 0 0 0 (k2 + 1) d (asked && m == 0) with ⟨z, k3⟩ | e
              · have hI3 := IH 0 0 0 (k2 + 1) d (asked && m == 0) (by rw [hg]; intro i hi; cases hi)
                rw [hg] at hI3
                rw [hI3]
              · rw [hg] at h
                have hI3 := IH 0 0 0 (k2 + 1) d (asked && m == 0) (by rw [hg]; exact h)
                rw [hg] at hI3
                rw [hI3]
            · rename_i hq2
              rw [if_neg hq2, if_neg hq2]
          · rw [hc] at h
            have hI2 := IH 0 0 0 (k1 + 1) d (asked && !(m == 0)) (by rw [hc]; exact h)
            rw [hc] at hI2
            rw [hI2]
        · rename_i hq
          rw [if_neg hq, if_neg hq]
      · rw [hb] at h
        have hI := IH 1 1 0 k d asked (by rw [hb]; exact h)
        rw [hb] at hI
        rw [hI]
    · by_cases h1 : what = 1
      · subst h1
        rw [rd_between num ts (f + 1)]
        rw [rd_between] at h ⊢
        rcases hb : rdF num ts f 3 0 0 k d asked with ⟨m, k1⟩ | e
        · have hI := IH 3 0 0 k d asked (by rw [hb]; intro i hi; cases hi)
          rw [hb] at h hI
          rw [hI]
          exact IH 2 level m k1 d asked h
        · rw [hb] at h
          have hI := IH 3 0 0 k d asked (by rw [hb]; exact h)
          rw [hb] at hI
          rw [hI]
      · by_cases h2 : what = 2
        · subst h2
          rw [rd_signs num ts (f + 1)]
          rw [rd_signs] at h ⊢
          split at h
          · rename_i hq; rw [if_pos hq, if_pos hq]
          · rename_i hq
            rw [if_neg hq, if_neg hq]
            rcases hb : rdF num ts f 1 (levelL (signAt ts k).toList + 1) 0 (k + 1) d (asked && asksL (signAt ts k).toList n) with ⟨m, j⟩ | e
            · have hI := IH 1 (levelL (signAt ts k).toList + 1) 0 (k + 1) d (asked && asksL (signAt ts k).toList n) (by rw [hb]; intro i hi; cases hi)
              rw [hb] at h hI
              rw [hI]
              dsimp only at h ⊢
              split at h
              · rename_i ha
                rw [if_pos ha, if_pos ha]
                split at h
                · rename_i hz
                  rw [if_pos hz, if_pos hz]
                  exact IH 2 _ _ _ _ _ h
                · rename_i hz
                  rw [if_neg hz, if_neg hz]
              · rename_i ha
                rw [if_neg ha, if_neg ha]
                exact IH 2 _ _ _ _ _ h
            · rw [hb] at h
              have hI := IH 1 (levelL (signAt ts k).toList + 1) 0 (k + 1) d (asked && asksL (signAt ts k).toList n) (by rw [hb]; exact h)
              rw [hb] at hI
              rw [hI]
        · have e : ∀ f, rdF num ts (f + 1) what level n k d asked = if d = 30 then .inr (10, k) else match ts[k]? with | none => .inr (9, k) | some t => innerF num ts f k d asked t := fun f => by
            conv => lhs; unfold rdF
            rw [if_neg h0, if_neg h1, if_neg h2]
            rfl
          rw [e f] at h
          rw [e (f + 1), e f]
          split at h
          · rename_i q; rw [if_pos q, if_pos q]
          · rename_i q; rw [if_neg q, if_neg q]
            rcases ht : ts[k]? with _ | t
            · rfl
            · rw [ht] at h
              dsimp only at h ⊢
              unfold innerF at h ⊢
              split at h
              · rename_i q; rw [if_pos q, if_pos q]
              · rename_i q; rw [if_neg q, if_neg q]
                split at h
                · rename_i q; rw [if_pos q, if_pos q]
                · rename_i q; rw [if_neg q, if_neg q]
                  split at h
                  · rename_i q; rw [if_pos q, if_pos q]
                  · rename_i q; rw [if_neg q, if_neg q]
                    split at h
                    · rename_i q; rw [if_pos q, if_pos q]
                      rcases hc : rdF num ts f 0 0 0 (k + 1) (d + 1) asked with ⟨x, k2⟩ | e
                      · have hI := IH 0 0 0 (k + 1) (d + 1) asked (by rw [hc]; intro i hi; cases hi)
                        rw [hc] at hI
                        rw [hI]
                      · rw [hc] at h
                        have hI := IH 0 0 0 (k + 1) (d + 1) asked (by rw [hc]; exact h)
                        rw [hc] at hI
                        rw [hI]
                    · rename_i q; rw [if_neg q, if_neg q]
                      split at h
                      · rename_i q; rw [if_pos q, if_pos q]
                        rcases hc : rdF num ts f 3 0 0 (k + 1) (d + 1) asked with ⟨x, k2⟩ | e
                        · have hI := IH 3 0 0 (k + 1) (d + 1) asked (by rw [hc]; intro i hi; cases hi)
                          rw [hc] at hI
                          rw [hI]
                        · rw [hc] at h
                          have hI := IH 3 0 0 (k + 1) (d + 1) asked (by rw [hc]; exact h)
                          rw [hc] at hI
                          rw [hI]
                      · rename_i q; rw [if_neg q, if_neg q]

/-- However many more. -/
theorem more_by (num : NumS) (ts : List Tk) (f what : Nat) (level n : Int) (k d : Nat) (asked : Bool) (h : Enough (rdF num ts f what level n k d asked)) : ∀ g, rdF num ts (f + g) what level n k d asked = rdF num ts f what level n k d asked
  | 0 => rfl
  | g + 1 => by
    have IH := more_by num ts f what level n k d asked h g
    rw [← Nat.add_assoc, more num ts (f + g) what level n k d asked (by rw [IH]; exact h), IH]
end Go.Proofs.YtkphogfmkempnacDoor
namespace Go.Proofs.YtkphogfmkempnacDoor
open Go.RowKit Go.Shelf

theorem deepN (num : NumS) (ts : List Tk) (f what : Nat) (level n : Int) (k d : Nat) (asked : Bool) : ∀ m, d + m ≤ 30 → Deep1 (rdF num ts f what level n k d asked) (rdF num ts f what level n k (d + m) asked)
  | 0, _ => .inl rfl
  | m + 1, h => by
    rcases deepN num ts f what level n k d asked m (by omega) with h1 | ⟨i, h1⟩
    · rcases deeper num ts f what level n k (d + m) asked (by omega) with h2 | ⟨i, h2⟩
      · exact .inl (by rw [← Nat.add_assoc, h2, h1])
      · exact .inr ⟨i, by rw [← Nat.add_assoc, h2]⟩
    · rcases deeper num ts f what level n k (d + m) asked (by omega) with h2 | ⟨j, h2⟩
      · exact .inr ⟨i, by rw [← Nat.add_assoc, h2, h1]⟩
      · exact .inr ⟨j, by rw [← Nat.add_assoc, h2]⟩

/-- What an operand in parentheses comes to, at a depth. -/
theorem paren_op (num : NumS) {ts ts' : List Tk} {s : Nat} (hu : Under ts ts' (s + 1)) (t : Tk) (ht : ts'[s]? = some t) (hk : t.kind = 5) (hx : (signAt ts' s).toList = [40]) (n : Int) (F f d : Nat) (hF : F ≤ f) (hd : d + 1 ≤ 30)
    (hr : rdF num ts F 0 0 0 0 0 true = .inl (n, ts.length)) :
    rdF num ts' (f + 1) 3 0 0 s d true = .inl (n, ts.length + s + 2) ∨ ∃ i, rdF num ts' (f + 1) 3 0 0 s d true = .inr (10, i) := by
  have hm := more_by num ts F 0 0 0 0 0 true (by rw [hr]; intro i h; cases h) (f - F)
  rw [show F + (f - F) = f by omega, hr] at hm
  have hv := (moved num hu f 0 0 0 0 0 true n ts.length (Nat.zero_le _) (.inr (.inl rfl)) (by omega) hm).1
  rw [Nat.zero_add] at hv
  rw [rd_operand, if_neg (by omega), ht]
  dsimp only
  unfold innerF
  rw [if_neg (by omega), if_neg (by omega), if_neg (by omega), if_pos (by rw [hx]; rfl)]
  rcases deepN num ts' f 0 0 0 (s + 1) 0 true (d + 1) (by omega) with h | ⟨i, h⟩
  · rw [Nat.zero_add] at h
    rw [h, hv]
    dsimp only
    rw [if_pos (by rw [hu.close]; rfl)]
    exact .inl (by rw [show ts.length + (s + 1) + 1 = ts.length + s + 2 by omega])
  · rw [Nat.zero_add] at h
    rw [h]
    exact .inr ⟨i, rfl⟩

/-- An operand alone is the whole. -/
theorem whole_op (num : NumS) (ts' : List Tk) (f : Nat) (n : Int) (he : rdF num ts' (f + 1) 3 0 0 0 0 true = .inl (n, ts'.length) ∨ ∃ i, rdF num ts' (f + 1) 3 0 0 0 0 true = .inr (10, i)) :
    rdF num ts' (f + 3) 0 0 0 0 0 true = .inl (n, ts'.length) ∨ ∃ i, rdF num ts' (f + 3) 0 0 0 0 0 true = .inr (10, i) := by
  rw [show f + 3 = (f + 2) + 1 from rfl, rd_choice, show f + 2 = (f + 1) + 1 from rfl, rd_between]
  rcases he with h | ⟨i, h⟩
  · rw [h]
    dsimp only
    rw [rd_signs, sign_end, if_pos (by decide)]
    dsimp only
    rw [sign_end, if_neg (by decide)]
    exact .inl rfl
  · rw [h]
    exact .inr ⟨i, rfl⟩

/-- Tokens in parentheses come to what they come to, or are too deep. -/
theorem paren_whole (num : NumS) {ts ts' : List Tk} (hu : Under ts ts' 1) (t : Tk) (ht : ts'[0]? = some t) (hk : t.kind = 5) (hx : (signAt ts' 0).toList = [40]) (hl : ts'.length = ts.length + 2) (n : Int)
    (hr : rdF num ts (12 * ts.length + 40) 0 0 0 0 0 true = .inl (n, ts.length)) :
    evalL num ts' = (n, (0, -1, 0)) ∨ (evalL num ts').2.1 = 10 := by
  have h1 := paren_op num (s := 0) hu t ht hk hx n (12 * ts.length + 40) (12 * ts.length + 61) 0 (by omega) (by omega) hr
  rw [Nat.add_zero, ← hl] at h1
  have h2 := whole_op num ts' _ n h1
  unfold evalL
  rw [show 12 * ts'.length + 40 = 12 * ts.length + 61 + 3 by omega]
  rcases h2 with h | ⟨i, h⟩
  · rw [h]
    dsimp only
    rw [if_neg (by omega)]
    exact .inl rfl
  · rw [h]
    exact .inr rfl

/-- Behind ! it is whether it is 0. -/
theorem not_op (num : NumS) (ts' : List Tk) (s f d : Nat) (t : Tk) (ht : ts'[s]? = some t) (hk : t.kind = 5) (hx : (signAt ts' s).toList = [33]) (hd : d + 1 ≤ 30) (v : Int) (j : Nat)
    (h : rdF num ts' f 3 0 0 (s + 1) (d + 1) true = .inl (v, j) ∨ ∃ i, rdF num ts' f 3 0 0 (s + 1) (d + 1) true = .inr (10, i)) :
    rdF num ts' (f + 1) 3 0 0 s d true = .inl (truthI (v == 0), j) ∨ ∃ i, rdF num ts' (f + 1) 3 0 0 s d true = .inr (10, i) := by
  rw [rd_operand, if_neg (by omega), ht]
  dsimp only
  unfold innerF
  rw [if_neg (by omega), if_neg (by omega), if_neg (by omega), if_neg (by rw [hx]; decide), if_pos (by rw [hx]; rfl), hx]
  rcases h with h | ⟨i, h⟩
  · rw [h]
    exact .inl rfl
  · rw [h]
    exact .inr ⟨i, rfl⟩

/-- Tokens in parentheses behind !! come to whether they come to another than 0, or are too deep. -/
theorem nots_whole (num : NumS) {ts ts' : List Tk} (hu : Under ts ts' 3) (t0 t1 t2 : Tk) (ht0 : ts'[0]? = some t0) (ht1 : ts'[1]? = some t1) (ht2 : ts'[2]? = some t2) (hk0 : t0.kind = 5) (hk1 : t1.kind = 5) (hk2 : t2.kind = 5)
    (hx0 : (signAt ts' 0).toList = [33]) (hx1 : (signAt ts' 1).toList = [33]) (hx2 : (signAt ts' 2).toList = [40]) (hl : ts'.length = ts.length + 4) (n : Int)
    (hr : rdF num ts (12 * ts.length + 40) 0 0 0 0 0 true = .inl (n, ts.length)) :
    evalL num ts' = (truthI (truthI (n == 0) == 0), (0, -1, 0)) ∨ (evalL num ts').2.1 = 10 := by
  have h1 := paren_op num (s := 2) hu t2 ht2 hk2 hx2 n (12 * ts.length + 40) (12 * ts.length + 83) 2 (by omega) (by omega) hr
  rw [show ts.length + 2 + 2 = ts'.length by omega] at h1
  have h2 := not_op num ts' 1 _ 1 t1 ht1 hk1 hx1 (by omega) n ts'.length h1
  have h3 := not_op num ts' 0 _ 0 t0 ht0 hk0 hx0 (by omega) (truthI (n == 0)) ts'.length h2
  have h4 := whole_op num ts' _ _ h3
  unfold evalL
  rw [show 12 * ts'.length + 40 = 12 * ts.length + 83 + 1 + 1 + 3 by omega]
  rcases h4 with h | ⟨i, h⟩
  · rw [h]
    dsimp only
    rw [if_neg (by omega)]
    exact .inl rfl
  · rw [h]
    exact .inr rfl
end Go.Proofs.YtkphogfmkempnacDoor
namespace Go.Proofs.YtkphogfmkempnacDoor
open Go.RowKit Go.Shelf

theorem pcsF_later (l : List UInt8) (hc : ∀ c ∈ l, c ≠ 47 ∧ c ≠ 10) : ∀ (f i : Nat) (acc A : List Pc), 0 < i → i ≤ l.length → pcsF l f i acc = .inr A → ∃ qs, A = acc ++ qs ∧ ∀ p ∈ qs, p.first = false
  | 0, _, acc, A, _, _, h => by cases h; exact ⟨[], by simp, fun p hp => by cases hp⟩
  | f + 1, i, acc, A, h0, hi, h => by
    have hz : (i == 0) = false := by rw [beq_eq_false_iff_ne]; omega
    obtain ⟨k1, k2, k3, k4, _⟩ := skip_close [40] l hc _ i false (i == 0) false rfl hi
    rw [hz] at k2
    unfold pcsF at h
    rw [hz] at h k1 k3 k4
    generalize skip l i false false = g at h k1 k2 k3 k4
    obtain ⟨k, sp, fi, lk⟩ := g
    dsimp only at h k1 k2 k3 k4
    subst k1 k2
    simp only [Bool.false_eq_true, if_false] at h
    split at h
    · cases h; exact ⟨[], by simp, fun p hp => by cases hp⟩
    · rename_i hk
      split at h
      · cases h
      · rename_i hm
        have hle := pick_le (l.drop k) (!false && behind l acc) (by simp; omega)
        have hn : k + (pick (sizes (l.drop k) (!false && behind l acc))).2.toNat ≤ l.length ∧ 0 < k + (pick (sizes (l.drop k) (!false && behind l acc))).2.toNat := by
          rcases hle with h' | ⟨h1, h2⟩
          · exact absurd h' hm
          · have : (l.drop k).length = l.length - k := by simp
            omega
        obtain ⟨qs, q1, q2⟩ := pcsF_later l hc f _ _ A hn.2 hn.1 h
        refine ⟨_ :: qs, by rw [q1, List.append_assoc]; rfl, fun p hp => ?_⟩
        rcases List.mem_cons.1 hp with rfl | hp
        · rfl
        · exact q2 p hp

theorem pick_hash (r : List UInt8) (b : Bool) : (pick (sizes (35 :: r) b)).1 = 5 := by
  have h1 : nameSz (35 :: r) = 0 := by simp [nameSz, byteAt, letB]
  have h2 : numSz (35 :: r) = 0 := by simp [numSz, startsNum, digB]
  have h3 : quotSz 34 (35 :: r) = 0 := by simp [quotSz]
  have h4 : quotSz 39 (35 :: r) = 0 := by simp [quotSz]
  have h5 : pathSz (35 :: r) = 0 := by simp [pathSz]
  have h6 : 0 < signSz (35 :: r) := by
    rcases r with _ | ⟨x, r⟩
    · decide
    · by_cases hx : x = 35
      · subst hx
        simp [signSz, signsL, List.isPrefixOf]
      · have hx' : ((35 : UInt8) == x) = false := by rw [beq_eq_false_iff_ne]; exact fun e => hx e.symm
        simp [signSz, signsL, List.isPrefixOf, hx']
  unfold sizes
  rw [h1, h2, h3, h4, h5]
  generalize signSz (35 :: r) = n at h6
  have hn : ¬ ((n : Int) = -1) := by omega
  cases b <;> simp [pick, hn, h6]

/-- Where a whole comes out well, it was read to its end. -/
theorem eval_good (num : NumS) (ts : List Tk) (h : (evalL num ts).2.1 = 0) : rdF num ts (12 * ts.length + 40) 0 0 0 0 0 true = .inl ((evalL num ts).1, ts.length) := by
  have hF := eval_enough num ts
  unfold evalL at h ⊢
  rcases hr : rdF num ts (12 * ts.length + 40) 0 0 0 0 0 true with ⟨n, k⟩ | ⟨e, i⟩
  · rw [hr] at h hF
    dsimp only at h ⊢
    obtain ⟨_, _, h3⟩ := hF
    by_cases hk : k < ts.length
    · rw [if_pos hk] at h; cases h
    · rw [if_neg hk]
      have : k = ts.length := by omega
      rw [this]
  · rw [hr] at h hF
    exact absurd h hF.1

/-- A line's first # is not read well. -/
theorem hash_bad (num : NumS) (ts : List Tk) (t : Tk) (ht : ts[0]? = some t) (hk : t.kind = 5) (hx : t.text.data.toList = [35]) (f : Nat) (n : Int) (k : Nat) : rdF num ts (f + 3) 0 0 0 0 0 true ≠ .inl (n, k) := by
  have hs : (signAt ts 0).toList = [35] := by
    unfold signAt
    rw [ht]
    dsimp only
    rw [if_pos hk, toList_data]
    exact hx
  rw [show f + 3 = (f + 2) + 1 from rfl, rd_choice, show f + 2 = (f + 1) + 1 from rfl, rd_between, rd_operand, if_neg (by omega), ht]
  dsimp only
  unfold innerF
  rw [if_neg (by omega), if_neg (by omega), if_neg (by omega), hs, if_neg (by decide), if_neg (by decide)]
  simp

theorem no_hash (l : List UInt8) (hc : ∀ c ∈ l, c ≠ 47 ∧ c ≠ 10 ∧ c ≠ 92) (hl : l.length ≤ 500) (num : NumS) (A : List Pc) (hA : pcs l = .inr A) (hE : (evalL num (toksF 0 l).1).2.1 = 0) : noHash (A.map (viewPc l)) := by
  obtain ⟨_, hT⟩ := toks_flat l (fun c h => ⟨(hc c h).2.2, (hc c h).2.1⟩) (by omega) A hA
  have hg := eval_good num _ hE
  have hA' := hA
  unfold pcs pcsF at hA'
  obtain ⟨k1, k2, k3, k4, _⟩ := skip_close [40] l (fun c h => ⟨(hc c h).1, (hc c h).2.1⟩) _ 0 false (0 == 0) false rfl (Nat.zero_le _)
  generalize skip l 0 false (0 == 0) = g at hA' k1 k2 k3 k4
  obtain ⟨k, sp, fi, lk⟩ := g
  dsimp only at hA' k1 k2 k3 k4
  subst k1 k2
  simp only [Bool.false_eq_true, if_false] at hA'
  split at hA'
  · cases hA'
    intro v hv
    cases hv
  · rename_i hk
    split at hA'
    · cases hA'
    · rename_i hm
      have hle := pick_le (l.drop k) (!(0 == 0) && behind l []) (by simp; omega)
      have hlk : (l.drop k).length = l.length - k := by simp
      have hn : k + (pick (sizes (l.drop k) (!(0 == 0) && behind l []))).2.toNat ≤ l.length ∧ 0 < (pick (sizes (l.drop k) (!(0 == 0) && behind l []))).2.toNat := by
        rcases hle with h' | ⟨h1, h2⟩
        · exact absurd h' hm
        · omega
      obtain ⟨qs, q1, q2⟩ := pcsF_later l (fun c h => ⟨(hc c h).1, (hc c h).2.1⟩) l.length _ _ A (by omega) hn.1 hA'
      intro v hv hvf hvt
      rw [q1, List.nil_append, List.map_append, List.mem_append] at hv
      rcases hv with hv | hv
      · simp only [List.map_cons, List.map_nil, List.mem_singleton] at hv
        subst hv
        have hd : l.drop k = 35 :: (l.drop k).tail := by
          have h1 : (l.drop k).take ((pick (sizes (l.drop k) (!(0 == 0) && behind l []))).2.toNat) = [35] := by
            have := hvt
            simp only [viewPc, textOfPc] at this
            rw [List.drop_take, Nat.add_sub_cancel_left] at this
            exact this
          rcases hx : l.drop k with _ | ⟨c, r⟩
          · rw [hx] at h1; simp at h1
          · rw [hx] at h1
            obtain ⟨z, hz⟩ : ∃ z, (pick (sizes (c :: r) (!(0 == 0) && behind l []))).2.toNat = z + 1 := ⟨(pick (sizes (c :: r) (!(0 == 0) && behind l []))).2.toNat - 1, by rw [hx] at hn; omega⟩
            rw [hz] at h1
            simp only [List.take_succ_cons, List.cons.injEq] at h1
            rw [h1.1]; rfl
        have hk5 : (pick (sizes (l.drop k) (!(0 == 0) && behind l []))).1 = 5 := by rw [hd]; exact pick_hash _ _
        rcases hts : (toksF 0 l).1 with _ | ⟨t, tr⟩
        · rw [hts, q1] at hT
          simp at hT
        · rw [hts, q1] at hT
          simp only [List.map_cons, List.nil_append, List.cons_append, List.cons.injEq] at hT
          have h3 := hT.1
          simp only [ktT, kt, Prod.mk.injEq] at h3
          rw [hts] at hg
          exact hash_bad num (t :: tr) t rfl (h3.1.trans hk5) (h3.2.trans hvt) _ _ _ (by rw [show 12 * (t :: tr).length + 40 = (12 * (t :: tr).length + 37) + 3 from rfl] at hg; exact hg)
      · obtain ⟨p, hp, rfl⟩ := List.mem_map.1 hv
        have := q2 p hp
        simp only [viewPc] at hvf
        rw [this] at hvf
        cases hvf

theorem kt_at {ts' : List Tk} {vs : List (Int × List UInt8)} (h : ts'.map ktT = vs) {i : Nat} {v : Int × List UInt8} (hv : vs[i]? = some v) : ∃ t', ts'[i]? = some t' ∧ t'.kind = v.1 ∧ t'.text.data.toList = v.2 := by
  rw [← h, List.getElem?_map] at hv
  rcases hx : ts'[i]? with _ | t'
  · rw [hx] at hv; cases hv
  · rw [hx] at hv
    simp only [Option.map_some, Option.some.injEq] at hv
    exact ⟨t', rfl, by rw [← hv]; rfl, by rw [← hv]; rfl⟩
theorem sign_kt {ts' : List Tk} {i : Nat} {t' : Tk} {x : List UInt8} (h : ts'[i]? = some t') (hk : t'.kind = 5) (hx : t'.text.data.toList = x) : (signAt ts' i).toList = x := by
  unfold signAt
  rw [h]
  dsimp only
  rw [if_pos hk, toList_data]
  exact hx
theorem under_of {ts ts' : List Tk} {pre : List (Int × List UInt8)} (h : ts'.map ktT = pre ++ (ts.map ktT ++ [(5, [41])])) : Under ts ts' pre.length := by
  refine ⟨fun i t ht => ?_, ?_⟩
  · have hlt := (List.getElem?_eq_some_iff.1 ht).1
    obtain ⟨t', h1, h2, h3⟩ := kt_at h (i := i + pre.length) (v := ktT t) (by
      rw [List.getElem?_append_right (by omega), Nat.add_sub_cancel, List.getElem?_append_left (by simpa using hlt), List.getElem?_map, ht]
      rfl)
    refine ⟨t', h1, h2, ?_⟩
    apply ByteArray.ext
    apply Array.ext'
    exact h3
  · obtain ⟨t', h1, h2, h3⟩ := kt_at h (i := ts.length + pre.length) (v := (5, [41])) (by
      rw [List.getElem?_append_right (by omega), Nat.add_sub_cancel, List.getElem?_append_right (by simp)]
      simp)
    exact sign_kt h1 h2 h3

/-- CondParens, of the plain functions: tokens of a text without notes, joined lines and line feeds. -/
theorem parens_plain (num : NumS) (l : List UInt8) (hc : ∀ c ∈ l, c ≠ 47 ∧ c ≠ 10 ∧ c ≠ 92) (hl : l.length ≤ 500) (hT : (toksF 0 l).2.1 = 0) (hE : (evalL num (toksF 0 l).1).2.1 = 0) :
    ((toksF 0 ([40] ++ (l ++ [41]))).2 = (0, -1, 0) ∧ (evalL num (toksF 0 ([40] ++ (l ++ [41]))).1 = ((evalL num (toksF 0 l).1).1, (0, -1, 0)) ∨ (evalL num (toksF 0 ([40] ++ (l ++ [41]))).1).2.1 = 10)) ∧
    ((toksF 0 ([33, 33, 40] ++ (l ++ [41]))).2 = (0, -1, 0) ∧ (evalL num (toksF 0 ([33, 33, 40] ++ (l ++ [41]))).1 = (truthI (truthI ((evalL num (toksF 0 l).1).1 == 0) == 0), (0, -1, 0)) ∨ (evalL num (toksF 0 ([33, 33, 40] ++ (l ++ [41]))).1).2.1 = 10)) := by
  have hc2 : ∀ c ∈ l, c ≠ 92 ∧ c ≠ 10 := fun c h => ⟨(hc c h).2.2, (hc c h).2.1⟩
  rcases hA : pcs l with k | A
  · exfalso
    unfold toksF at hT
    rw [if_neg (by omega), bytes_flat l hc2, hA] at hT
    cases hT
  · have hN := no_hash l hc hl num A hA hE
    obtain ⟨_, a2⟩ := toks_flat l hc2 (by omega) A hA
    have hg := eval_good num _ hE
    obtain ⟨p1, p2⟩ := toks_paren l hc hl A hA hN
    obtain ⟨n1, n2⟩ := toks_nots l hc hl A hA hN
    rw [← a2] at p2 n2
    generalize (toksF 0 l).1 = ts at p2 n2 hg hE
    generalize (evalL num ts).1 = n at hg
    refine ⟨⟨p1, ?_⟩, ⟨n1, ?_⟩⟩
    · generalize (toksF 0 ([40] ++ (l ++ [41]))).1 = ts' at p2
      have hu := under_of (pre := [(5, [40])]) p2
      obtain ⟨t0, h1, h2, h3⟩ := kt_at p2 (i := 0) (v := (5, [40])) rfl
      have hlen := congrArg List.length p2
      simp at hlen
      exact paren_whole num hu t0 h1 h2 (sign_kt h1 h2 h3) (by omega) n hg
    · generalize (toksF 0 ([33, 33, 40] ++ (l ++ [41]))).1 = ts' at n2
      have hu := under_of (pre := [(5, [33]), (5, [33]), (5, [40])]) n2
      obtain ⟨t0, h1, h2, h3⟩ := kt_at n2 (i := 0) (v := (5, [33])) rfl
      obtain ⟨t1, g1, g2, g3⟩ := kt_at n2 (i := 1) (v := (5, [33])) rfl
      obtain ⟨t2, k1, k2, k3⟩ := kt_at n2 (i := 2) (v := (5, [40])) rfl
      have hlen := congrArg List.length n2
      simp at hlen
      exact nots_whole num hu t0 t1 t2 h1 g1 k1 h2 g2 k2 (sign_kt h1 h2 h3) (sign_kt g1 g2 g3) (sign_kt k1 k2 k3) (by omega) n hg
end Go.Proofs.YtkphogfmkempnacDoor
namespace Go.Proofs.YtkphogfmkempnacDoor
open Go.RowKit Go.Shelf

/-- Token k is that sign. -/
def SgAt (ts : List Tk) (k : Nat) (x : List UInt8) : Prop := ∃ t, ts[k]? = some t ∧ t.kind = 5 ∧ (signAt ts k).toList = x
/-- Token k is that number. -/
def NmAt (num : NumS) (ts : List Tk) (k : Nat) (v : Int) : Prop := ∃ t, ts[k]? = some t ∧ t.kind = 2 ∧ num t.text.data.toList = some v
theorem SgAt.of {ts : List Tk} {vs : List (Int × List UInt8)} (h : ts.map ktT = vs) {k : Nat} {x : List UInt8} (hv : vs[k]? = some (5, x)) : SgAt ts k x := by
  obtain ⟨t, h1, h2, h3⟩ := kt_at h hv
  exact ⟨t, h1, h2, sign_kt h1 h2 h3⟩
theorem NmAt.of {num : NumS} {ts : List Tk} {vs : List (Int × List UInt8)} (h : ts.map ktT = vs) {k : Nat} {x : List UInt8} {v : Int} (hv : vs[k]? = some (2, x)) (hn : num x = some v) : NmAt num ts k v := by
  obtain ⟨t, h1, h2, h3⟩ := kt_at h hv
  exact ⟨t, h1, h2, by rw [h3]; exact hn⟩

theorem op_num {num : NumS} {ts : List Tk} {k : Nat} {v : Int} (h : NmAt num ts k v) (f d : Nat) (asked : Bool) (hd : d < 30) : rdF num ts (f + 1) 3 0 0 k d asked = .inl (v, k + 1) := by
  obtain ⟨t, h1, h2, h3⟩ := h
  rw [rd_operand, if_neg (by omega), h1]
  dsimp only
  unfold innerF
  rw [if_neg (by omega), if_pos h2, h3]
theorem op_paren {num : NumS} {ts : List Tk} {k j : Nat} {v : Int} (h0 : SgAt ts k [40]) (f d : Nat) (asked : Bool) (hd : d < 30) (h : rdF num ts f 0 0 0 (k + 1) (d + 1) asked = .inl (v, j)) (h2 : SgAt ts j [41]) : rdF num ts (f + 1) 3 0 0 k d asked = .inl (v, j + 1) := by
  obtain ⟨t, h1, hk, hx⟩ := h0
  obtain ⟨_, _, _, hy⟩ := h2
  rw [rd_operand, if_neg (by omega), h1]
  dsimp only
  unfold innerF
  rw [if_neg (by omega), if_neg (by omega), if_neg (by omega), if_pos (by rw [hx]; rfl), h]
  dsimp only
  rw [if_pos (by rw [hy]; rfl)]
theorem op_paren_bad {num : NumS} {ts : List Tk} {k : Nat} {e : Int × Nat} (h0 : SgAt ts k [40]) (f d : Nat) (asked : Bool) (hd : d < 30) (h : rdF num ts f 0 0 0 (k + 1) (d + 1) asked = .inr e) : rdF num ts (f + 1) 3 0 0 k d asked = .inr e := by
  obtain ⟨t, h1, hk, hx⟩ := h0
  rw [rd_operand, if_neg (by omega), h1]
  dsimp only
  unfold innerF
  rw [if_neg (by omega), if_neg (by omega), if_neg (by omega), if_pos (by rw [hx]; rfl), h]
theorem op_tilde {num : NumS} {ts : List Tk} {k j : Nat} {v : Int} (h0 : SgAt ts k [126]) (f d : Nat) (asked : Bool) (hd : d < 30) (h : rdF num ts f 3 0 0 (k + 1) (d + 1) asked = .inl (v, j)) : rdF num ts (f + 1) 3 0 0 k d asked = .inl (bits .xor .i64 (-1) v, j) := by
  obtain ⟨t, h1, hk, hx⟩ := h0
  rw [rd_operand, if_neg (by omega), h1]
  dsimp only
  unfold innerF
  rw [if_neg (by omega), if_neg (by omega), if_neg (by omega), if_neg (by rw [hx]; decide), if_pos (by rw [hx]; rfl), h, hx]
  rfl

theorem one_between {num : NumS} {ts : List Tk} {k j f d : Nat} {v level : Int} {asked : Bool} (h : rdF num ts (f + 1) 3 0 0 k d asked = .inl (v, j)) (hl : levelL (signAt ts j).toList < level) : rdF num ts (f + 2) 1 level 0 k d asked = .inl (v, j) := by
  rw [rd_between, h]
  dsimp only
  rw [rd_signs, if_pos hl]
theorem one_choice {num : NumS} {ts : List Tk} {k j f d : Nat} {v : Int} {asked : Bool} (h : rdF num ts (f + 1) 3 0 0 k d asked = .inl (v, j)) (hl : levelL (signAt ts j).toList < 1) (hq : ((signAt ts j).toList == [63]) = false) : rdF num ts (f + 3) 0 0 0 k d asked = .inl (v, j) := by
  rw [rd_choice, one_between h hl]
  dsimp only
  rw [hq]
  rfl
theorem bad_between {num : NumS} {ts : List Tk} {k f d : Nat} {level : Int} {e : Int × Nat} {asked : Bool} (h : rdF num ts (f + 1) 3 0 0 k d asked = .inr e) : rdF num ts (f + 2) 1 level 0 k d asked = .inr e := by
  rw [rd_between, h]
theorem bad_choice {num : NumS} {ts : List Tk} {k f d : Nat} {e : Int × Nat} {asked : Bool} (h : rdF num ts (f + 1) 3 0 0 k d asked = .inr e) : rdF num ts (f + 3) 0 0 0 k d asked = .inr e := by
  rw [rd_choice, bad_between h]

/-- A number and a sign ahead of another. -/
theorem two_signs {num : NumS} {ts : List Tk} {j i f d : Nat} {n m level : Int} {asked : Bool} {op : List UInt8} (ho : SgAt ts j op) (hL : level ≤ levelL op) (h : rdF num ts (f + 1) 3 0 0 (j + 1) d (asked && asksL op n) = .inl (m, i)) (hl : levelL (signAt ts i).toList < level)
    (hw : asked = true → wrongL op m = 0) : rdF num ts (f + 3) 2 level n j d asked = .inl (if asked then reckonL op n m else n, i) := by
  obtain ⟨_, _, _, hx⟩ := ho
  rw [rd_signs, hx, if_neg (by omega), one_between h (by omega)]
  dsimp only
  cases asked
  · simp only [Bool.false_eq_true, if_false]
    rw [rd_signs, if_pos hl]
  · simp only [if_true]
    rw [if_pos (hw rfl), rd_signs, if_pos hl]
theorem two_wrong {num : NumS} {ts : List Tk} {j i f d : Nat} {n m level : Int} {op : List UInt8} (ho : SgAt ts j op) (hL : level ≤ levelL op) (h : rdF num ts (f + 1) 3 0 0 (j + 1) d (asksL op n) = .inl (m, i)) (hl : levelL (signAt ts i).toList < level)
    (hw : wrongL op m ≠ 0) : rdF num ts (f + 3) 2 level n j d true = .inr (wrongL op m, j) := by
  obtain ⟨_, _, _, hx⟩ := ho
  rw [rd_signs, hx, if_neg (by omega), Bool.true_and, one_between h (by omega)]
  dsimp only
  rw [if_pos rfl, if_neg hw]
theorem two_bad {num : NumS} {ts : List Tk} {j f d : Nat} {n level : Int} {e : Int × Nat} {asked : Bool} {op : List UInt8} (ho : SgAt ts j op) (hL : level ≤ levelL op) (h : rdF num ts (f + 1) 3 0 0 (j + 1) d (asked && asksL op n) = .inr e) : rdF num ts (f + 3) 2 level n j d asked = .inr e := by
  obtain ⟨_, _, _, hx⟩ := ho
  rw [rd_signs, hx, if_neg (by omega), bad_between h]

/-- What stands between signs at k comes to r, whether asked or not. -/
def OpAt (num : NumS) (ts : List Tk) (k : Nat) (asked : Bool) (r : Rd) : Prop := ∀ f d, d < 20 → rdF num ts (f + 9) 3 0 0 k d asked = r
theorem SgAt.level {ts : List Tk} {k : Nat} {x : List UInt8} (h : SgAt ts k x) : levelL (signAt ts k).toList = levelL x := by obtain ⟨_, _, _, hx⟩ := h; rw [hx]
theorem SgAt.is {ts : List Tk} {k : Nat} {x : List UInt8} (h : SgAt ts k x) (y : List UInt8) : ((signAt ts k).toList == y) = (x == y) := by obtain ⟨_, _, _, hx⟩ := h; rw [hx]

theorem op_lit {num : NumS} {ts : List Tk} {k : Nat} {v : Int} {asked : Bool} (h0 : SgAt ts k [40]) (h1 : NmAt num ts (k + 1) v) (h2 : SgAt ts (k + 2) [41]) : OpAt num ts k asked (.inl (v, k + 3)) := fun f d hd =>
  op_paren h0 (f + 8) d asked (by omega) (one_choice (f := f + 5) (op_num h1 (f + 5) (d + 1) asked (by omega)) (by rw [h2.level]; decide) (by rw [h2.is]; decide)) h2
theorem op_neg {num : NumS} {ts : List Tk} {k : Nat} {v : Int} {asked : Bool} (h0 : SgAt ts k [40]) (h1 : SgAt ts (k + 1) [126]) (h2 : NmAt num ts (k + 2) v) (h3 : SgAt ts (k + 3) [41]) : OpAt num ts k asked (.inl (bits .xor .i64 (-1) v, k + 4)) := fun f d hd =>
  op_paren h0 (f + 8) d asked (by omega) (one_choice (f := f + 5) (op_tilde h1 (f + 5) (d + 1) asked (by omega) (op_num h2 (f + 4) (d + 2) asked (by omega))) (by rw [h3.level]; decide) (by rw [h3.is]; decide)) h3
/-- ( a op b ), where b is wrong. -/
theorem op_two_asked {num : NumS} {ts : List Tk} {k : Nat} {a b : Int} {op : List UInt8} (h0 : SgAt ts k [40]) (h1 : NmAt num ts (k + 1) a) (h2 : SgAt ts (k + 2) op) (h3 : NmAt num ts (k + 3) b) (h4 : SgAt ts (k + 4) [41]) (hL : 1 ≤ levelL op) (hask : asksL op a = true) (hw : wrongL op b ≠ 0) :
    OpAt num ts k true (.inr (wrongL op b, k + 2)) := fun f d hd => by
  refine op_paren_bad h0 (f + 8) d true (by omega) ?_
  rw [show f + 8 = (f + 7) + 1 from rfl, rd_choice, show f + 7 = (f + 6) + 1 from rfl, rd_between, op_num h1 (f + 5) (d + 1) true (by omega)]
  dsimp only
  rw [two_wrong (f := f + 3) h2 hL (by rw [hask]; exact op_num h3 (f + 3) (d + 1) true (by omega)) (by rw [h4.level]; decide) hw]
theorem op_two_idle {num : NumS} {ts : List Tk} {k : Nat} {a b : Int} {op : List UInt8} (h0 : SgAt ts k [40]) (h1 : NmAt num ts (k + 1) a) (h2 : SgAt ts (k + 2) op) (h3 : NmAt num ts (k + 3) b) (h4 : SgAt ts (k + 4) [41]) (hL : 1 ≤ levelL op) :
    OpAt num ts k false (.inl (a, k + 5)) := fun f d hd => by
  refine op_paren h0 (f + 8) d false (by omega) ?_ h4
  rw [show f + 8 = (f + 7) + 1 from rfl, rd_choice, show f + 7 = (f + 6) + 1 from rfl, rd_between, op_num h1 (f + 5) (d + 1) false (by omega)]
  dsimp only
  rw [two_signs (f := f + 3) h2 hL (op_num h3 (f + 3) (d + 1) _ (by omega)) (by rw [h4.level]; decide) (fun h => by cases h)]
  dsimp only
  rw [h4.is]
  rfl

theorem eval_of {num : NumS} {ts : List Tk} {n : Int} (h : ∀ g, rdF num ts (g + 30) 0 0 0 0 0 true = .inl (n, ts.length)) : evalL num ts = (n, (0, -1, 0)) := by
  unfold evalL
  rw [show 12 * ts.length + 40 = (12 * ts.length + 10) + 30 from rfl, h]
  dsimp only
  rw [if_neg (by omega)]
theorem eval_bad {num : NumS} {ts : List Tk} {e : Int} {i : Nat} (h : ∀ g, rdF num ts (g + 30) 0 0 0 0 0 true = .inr (e, i)) : (evalL num ts).1 = 0 ∧ (evalL num ts).2.1 = e := by
  unfold evalL
  rw [show 12 * ts.length + 40 = (12 * ts.length + 10) + 30 from rfl, h]
  exact ⟨rfl, rfl⟩
theorem end_level (ts : List Tk) : levelL (signAt ts ts.length).toList = 0 := by rw [sign_end]; decide

/-- x op y. -/
theorem whole_two {num : NumS} {ts : List Tk} {j : Nat} {a b : Int} {op : List UInt8} (hx : OpAt num ts 0 true (.inl (a, j))) (ho : SgAt ts j op) (hL : 1 ≤ levelL op) (hy : OpAt num ts (j + 1) (asksL op a) (.inl (b, ts.length))) :
    (wrongL op b = 0 → evalL num ts = (reckonL op a b, (0, -1, 0))) ∧ (wrongL op b ≠ 0 → (evalL num ts).1 = 0 ∧ (evalL num ts).2.1 = wrongL op b) := by
  refine ⟨fun hw => eval_of fun g => ?_, fun hw => eval_bad (i := j) fun g => ?_⟩
  · rw [show g + 30 = (g + 29) + 1 from rfl, rd_choice, show g + 29 = (g + 28) + 1 from rfl, rd_between, show g + 28 = (g + 19) + 9 from rfl, hx (g + 19) 0 (by omega)]
    dsimp only
    rw [show g + 19 + 9 = (g + 25) + 3 from rfl, two_signs (f := g + 25) ho hL (by rw [Bool.true_and]; exact hy (g + 17) 0 (by omega)) (by rw [end_level]; omega) (fun _ => hw)]
    dsimp only
    rw [sign_end]
    rfl
  · rw [show g + 30 = (g + 29) + 1 from rfl, rd_choice, show g + 29 = (g + 28) + 1 from rfl, rd_between, show g + 28 = (g + 19) + 9 from rfl, hx (g + 19) 0 (by omega)]
    dsimp only
    rw [show g + 19 + 9 = (g + 25) + 3 from rfl, two_wrong (f := g + 25) ho hL (hy (g + 17) 0 (by omega)) (by rw [end_level]; omega) hw]
/-- x op y, where y is wrong by itself. -/
theorem whole_two_bad {num : NumS} {ts : List Tk} {j : Nat} {a : Int} {e : Int × Nat} {op : List UInt8} (hx : OpAt num ts 0 true (.inl (a, j))) (ho : SgAt ts j op) (hL : 1 ≤ levelL op) (hy : OpAt num ts (j + 1) (asksL op a) (.inr e)) : (evalL num ts).1 = 0 ∧ (evalL num ts).2.1 = e.1 := by
  refine eval_bad (i := e.2) fun g => ?_
  rw [show g + 30 = (g + 29) + 1 from rfl, rd_choice, show g + 29 = (g + 28) + 1 from rfl, rd_between, show g + 28 = (g + 19) + 9 from rfl, hx (g + 19) 0 (by omega)]
  dsimp only
  rw [show g + 19 + 9 = (g + 25) + 3 from rfl, two_bad (f := g + 25) ho hL (by rw [Bool.true_and]; exact hy (g + 17) 0 (by omega))]
/-- x ? y : z. -/
theorem whole_choice {num : NumS} {ts : List Tk} {j i : Nat} {a b : Int} {r : Rd} (hx : OpAt num ts 0 true (.inl (a, j))) (hq : SgAt ts j [63]) (hy : OpAt num ts (j + 1) (!(a == 0)) (.inl (b, i))) (hc : SgAt ts i [58]) (hz : OpAt num ts (i + 1) (a == 0) r) :
    (∀ c, r = .inl (c, ts.length) → evalL num ts = (if a == 0 then c else b, (0, -1, 0))) ∧ (∀ e k, r = .inr (e, k) → (evalL num ts).1 = 0 ∧ (evalL num ts).2.1 = e) := by
  have h1 : ∀ g, rdF num ts (g + 29) 1 1 0 0 0 true = .inl (a, j) := fun g => one_between (f := g + 27) (hx (g + 19) 0 (by omega)) (by rw [hq.level]; decide)
  have h2 : ∀ g, rdF num ts (g + 29) 0 0 0 (j + 1) 0 (true && !(a == 0)) = .inl (b, i) := fun g => by
    rw [Bool.true_and]
    exact one_choice (f := g + 26) (hy (g + 18) 0 (by omega)) (by rw [hc.level]; decide) (by rw [hc.is]; decide)
  refine ⟨fun c hr => eval_of fun g => ?_, fun e k hr => eval_bad (i := k) fun g => ?_⟩
  · subst hr
    rw [show g + 30 = (g + 29) + 1 from rfl, rd_choice, h1]
    dsimp only
    rw [hq.is, if_pos (by decide), h2]
    dsimp only
    rw [hc.is, if_pos (by decide), Bool.true_and, show g + 29 = (g + 26) + 3 from rfl, one_choice (f := g + 26) (hz (g + 18) 0 (by omega)) (by rw [end_level]; decide) (by rw [sign_end]; rfl)]
  · subst hr
    rw [show g + 30 = (g + 29) + 1 from rfl, rd_choice, h1]
    dsimp only
    rw [hq.is, if_pos (by decide), h2]
    dsimp only
    rw [hc.is, if_pos (by decide), Bool.true_and, show g + 29 = (g + 26) + 3 from rfl, bad_choice (f := g + 26) (hz (g + 18) 0 (by omega))]
/-- x && y || z. -/
theorem whole_three {num : NumS} {ts : List Tk} {j i : Nat} {a : Int} {r : Rd} (hx : OpAt num ts 0 true (.inl (a, j))) (ho : SgAt ts j [38, 38]) (hy : OpAt num ts (j + 1) (!(a == 0)) r) (hr : SgAt ts i [124, 124]) {c : Int} (hz : ∀ q f, rdF num ts (f + 1) 3 0 0 (i + 1) 0 q = .inl (c, ts.length)) :
    (∀ b, r = .inl (b, i) → a = 0 → evalL num ts = (truthI (!(c == 0)), (0, -1, 0))) ∧ (∀ e k, r = .inr (e, k) → (evalL num ts).1 = 0 ∧ (evalL num ts).2.1 = e) := by
  refine ⟨fun b h0 ha => eval_of fun g => ?_, fun e k h0 => eval_bad (i := k) fun g => ?_⟩
  · subst h0 ha
    have hxx := ho
    obtain ⟨_, _, _, hs⟩ := hxx
    rw [show g + 30 = (g + 29) + 1 from rfl, rd_choice, show g + 29 = (g + 28) + 1 from rfl, rd_between, show g + 28 = (g + 19) + 9 from rfl, hx (g + 19) 0 (by omega)]
    dsimp only
    have hm : rdF num ts (g + 25 + 2) 1 (levelL [38, 38] + 1) 0 (j + 1) 0 (true && asksL [38, 38] 0) = .inl (b, i) := one_between (f := g + 25) (hy (g + 17) 0 (by omega)) (by rw [hr.level]; decide)
    rw [show g + 19 + 9 = (g + 27) + 1 from rfl, rd_signs, hs, if_neg (by decide), show g + 27 = (g + 25) + 2 from rfl, hm]
    dsimp only
    rw [if_pos rfl, if_pos (show wrongL [38, 38] b = 0 from rfl), show g + 25 + 2 = (g + 24) + 3 from rfl, two_signs (f := g + 24) hr (by decide) (hz _ _) (by rw [end_level]; decide) (fun _ => by rfl)]
    dsimp only
    rw [sign_end]
    have hz0 : reckonL [124, 124] (reckonL [38, 38] 0 b) c = truthI (!(c == 0)) := by
      show truthI (!(truthI (!((0 : Int) == 0) && !(b == 0)) == 0) || !(c == 0)) = _
      rfl
    rw [if_pos rfl, hz0]
    rfl
  · subst h0
    rw [show g + 30 = (g + 29) + 1 from rfl, rd_choice, show g + 29 = (g + 28) + 1 from rfl, rd_between, show g + 28 = (g + 19) + 9 from rfl, hx (g + 19) 0 (by omega)]
    dsimp only
    rw [show g + 19 + 9 = (g + 25) + 3 from rfl, two_bad (f := g + 25) ho (by decide) (by rw [Bool.true_and]; exact hy (g + 17) 0 (by omega))]
end Go.Proofs.YtkphogfmkempnacDoor
