/- What is read in one list of tokens is read in another one: declarations, statements, all of it. -/
import Derived.Test.YtocklchafmlfkaaTgK
namespace Go.Proofs.Ytocklchafmlfkaa

/-- The same surroundings, but for what the outermost ones know as a thing. -/
def EnvR (e e' : Env0) : Prop := ∃ g g' r, e = g :: r ∧ e' = g' :: r ∧ ∀ x, g' x = g x ∨ (g x = 0 ∧ g' x = 1)
theorem EnvR.ne {e e' : Env0} (h : EnvR e e') : e ≠ [] := by obtain ⟨g, g', r, rfl, rfl, _⟩ := h; simp
theorem EnvR.refl {e : Env0} (h : e ≠ []) : EnvR e e := by
  cases e with
  | nil => exact absurd rfl h
  | cons g r => exact ⟨g, g, r, rfl, rfl, fun _ => .inl rfl⟩
theorem EnvR.ty {e e' : Env0} (h : EnvR e e') (x : List UInt8) : isTyE e' x = isTyE e x := by
  obtain ⟨g, g', r, rfl, rfl, hg⟩ := h
  have : ∀ k, tyN (g' :: r) x k = tyN (g :: r) x k := by
    intro k
    induction k with
    | zero => rfl
    | succ k ih =>
      cases k with
      | zero =>
        show (if g' x = 0 then false else decide (g' x = 2)) = (if g x = 0 then false else decide (g x = 2))
        rcases hg x with e | ⟨e1, e2⟩
        · rw [e]
        · rw [e1, e2]; rfl
      | succ k =>
        show (match r[k]? with
          | some g => if g x = 0 then tyN (g' :: r) x (k + 1) else decide (g x = 2)
          | none => false) = (match r[k]? with
          | some g0 => if g0 x = 0 then tyN (g :: r) x (k + 1) else decide (g0 x = 2)
          | none => false)
        rw [ih]
  exact this _
theorem EnvR.decl {e e' : Env0} (h : EnvR e e') (x : List UInt8) (a : Int) : EnvR (declE e x a) (declE e' x a) := by
  obtain ⟨g, g', r, rfl, rfl, hg⟩ := h
  cases r with
  | nil =>
    refine ⟨updG g x a, updG g' x a, [], rfl, rfl, fun y => ?_⟩
    unfold updG
    by_cases hy : y = x
    · rw [if_pos hy, if_pos hy]; exact .inl rfl
    · rw [if_neg hy, if_neg hy]; exact hg y
  | cons h r => exact ⟨g, g', (h :: r).dropLast ++ [updG ((h :: r).getLast?.getD (fun _ => 0)) x a], by unfold declE; simp [List.getLast?_cons_cons], by unfold declE; simp [List.getLast?_cons_cons], hg⟩
theorem EnvR.opens {e e' : Env0} (h : EnvR e e') (z : List UInt8 → Int) : EnvR (List.append e [z]) (List.append e' [z]) := by
  obtain ⟨g, g', r, rfl, rfl, hg⟩ := h
  exact ⟨g, g', r ++ [z], rfl, rfl, hg⟩
theorem EnvR.shuts {e e' : Env0} (h : EnvR e e') (hl : 2 ≤ e.length) : EnvR (List.dropLast e) (List.dropLast e') := by
  obtain ⟨g, g', r, rfl, rfl, hg⟩ := h
  cases r with
  | nil => simp at hl
  | cons h r => exact ⟨g, g', (h :: r).dropLast, rfl, rfl, hg⟩
theorem star_stop (L : List Tk) : ∀ f i, L.length ≤ f + i → wordT L (starT L f i) ≠ [42]
  | 0, i, h => fun e => by have := word_lt e (by simp); unfold starT at this; omega
  | f + 1, i, h => by
    rw [starT]
    split
    · exact star_stop L f (i + 1) (by omega)
    · rename_i hw
      exact hw
section
theorem star_sim {L L' : List Tk} {o hi : Nat} (hA : Ag L L' o hi) : ∀ (f f' i : Nat), f ≤ f' → wordT L (starT L f i) ≠ [42] → starT L f i < hi → starT L' f' (i + o) = starT L f i + o
  | 0, f', i, hf, hw, hj => by
    unfold starT at hw hj ⊢
    cases f' with
    | zero => rfl
    | succ f' =>
      dsimp only
      rw [hA.word hj, if_neg hw]
  | f + 1, 0, i, hf, hw, hj => by omega
  | f + 1, f' + 1, i, hf, hw, hj => by
    have hle := star_le L (f + 1) i
    rw [starT] at hw hj hle ⊢
    rw [starT]
    by_cases h : wordT L i = [42]
    · rw [if_pos h] at hw hj hle
      rw [hA.word (by omega), if_pos h, if_pos h, show i + o + 1 = i + 1 + o by omega]
      exact star_sim hA f f' (i + 1) (by omega) hw hj
    · rw [if_neg h] at hw hj
      rw [hA.word hj, if_neg h, if_neg h]
theorem typ_sim {L L' : List Tk} {o hi : Nat} (hA : Ag L L' o hi) {e e' : Env0} (hE : EnvR e e') {i : Nat} (h : i < hi) : typT L' e' (i + o) = typT L e i := by
  unfold typT
  rw [hA.word h, hA.name h, hE.ty]
theorem dcn_sim {L L' : List Tk} {o hi : Nat} (hA : Ag L L' o hi) {e e' : Env0} (hE : EnvR e e') {i : Nat} (h : i < hi) : dcnT L' e' (i + o) = dcnT L e i := by
  unfold dcnT
  rw [hA.word h, typ_sim hA hE h]
theorem stn_sim {L L' : List Tk} {o hi : Nat} (hA : Ag L L' o hi) {e e' : Env0} (hE : EnvR e e') {i : Nat} (h : i < hi) : stnT L' e' (i + o) = stnT L e i := by
  unfold stnT
  rw [hA.word h, dcn_sim hA hE h, hA.part h]
theorem dcl_sim {L L' : List Tk} {o hi : Nat} (hA : Ag L L' o hi) {F F' : Nat} (hF : F ≤ F') {a : Int} {d : Nat} {e e' : Env0} (hE : EnvR e e') {i : Nat} {n : Nd} {j : Nat} {e1 : Env0} (h : dclT L F a d e i = .ok (n, j, e1)) (hj : j < hi) : ∃ e1', dclT L' F' a d e' (i + o) = .ok (mvN o n, j + o, e1') ∧ EnvR e1 e1' := by
  unfold dclT at h ⊢
  have hst := star_stop L L.length i (by omega)
  have hsi : starT L L.length i < hi → starT L' L'.length (i + o) = starT L L.length i + o := star_sim hA L.length L'.length i hA.len hst
  generalize starT L L.length i = s at *
  split at h
  · rename_i hn
    split at h
    · rename_i hw
      split at h
      · cases h
      · rename_i m k hrd
        have := rdX_le hrd
        split at h
        · rename_i hw2
          cases h
          rw [hsi (by omega), hA.name (by omega), if_pos hn, show s + o + 1 = s + 1 + o by omega, hA.word (by omega), if_pos hw, show s + o + 2 = s + 2 + o by omega, rd_sim hA hF hrd (by omega)]
          dsimp only
          rw [hA.word (by omega), if_pos hw2, hA.word (by omega), mvN_at, mvL_cons, mvL_nil, show k + 1 + o = k + o + 1 by omega]
          exact ⟨_, rfl, hE.decl _ _⟩
        · cases h
    · rename_i hw
      cases h
      rw [hsi (by omega), hA.name (by omega), if_pos hn, show s + o + 1 = s + 1 + o by omega, hA.word (by omega), if_neg hw, hA.word (by omega), mvN_at, mvL_nil]
      exact ⟨_, rfl, hE.decl _ _⟩
  · cases h
theorem str_sim {L L' : List Tk} {o hi : Nat} (hA : Ag L L' o hi) {F F' : Nat} (hF : F ≤ F') {a : Int} {d : Nat} {e e' : Env0} (hE : EnvR e e') {n : Nd} {i : Nat} {n' : Nd} {j : Nat} {e1 : Env0} (h : strT L F a d e n i = .ok (n', j, e1)) (hj : j < hi) : ∃ e1', strT L' F' a d e' (mvN o n) (i + o) = .ok (mvN o n', j + o, e1') ∧ EnvR e1 e1' := by
  have hij := (str_ok h).1
  unfold strT at h ⊢
  rw [hA.word (by omega)]
  split at h
  · rename_i hw
    rw [if_pos hw]
    split at h
    · cases h
    · rename_i m k hrd
      cases h
      rw [show i + o + 1 = i + 1 + o by omega, rd_sim hA hF hrd hj]
      dsimp only
      rw [mvN_more, mvL_cons, mvL_nil]
      exact ⟨_, rfl, hE⟩
  · rename_i hw
    rw [if_neg hw]
    cases h
    exact ⟨_, rfl, hE⟩
theorem dlp_sim {L L' : List Tk} {o hi : Nat} (hA : Ag L L' o hi) {F F' : Nat} (hF : F ≤ F') {a : Int} {d : Nat} : ∀ (f f' : Nat) {e e' : Env0} {ks : List Nd} {i : Nat} {n : Nd} {j : Nat} {e1 : Env0}, f ≤ f' → EnvR e e' → dlpT L F a d f e ks i = .ok (n, j, e1) → j ≤ hi → ∃ e1', dlpT L' F' a d f' e' (mvL o ks) (i + o) = .ok (mvN o n, j + o, e1') ∧ EnvR e1 e1'
  | 0, f', e, e', ks, i, n, j, e1, hf, hE, h, hj => by unfold dlpT at h; cases h
  | f + 1, 0, e, e', ks, i, n, j, e1, hf, hE, h, hj => by omega
  | f + 1, f' + 1, e, e', ks, i, n, j, e1, hf, hE, h, hj => by
    have hij := (dlp_ok (f + 1) h hE.ne).1
    unfold dlpT at h
    rw [dlpT, hA.word (by omega)]
    split at h
    · rename_i hw
      rw [if_pos hw]
      split at h
      · cases h
      · rename_i n2 j2 e2 hd
        have hl2 := (dcl_ok hd hE.ne).2.1
        split at h
        · cases h
        · rename_i n3 j3 e3 hs
          obtain ⟨hj3, rfl⟩ := str_ok hs
          have hj4 := (dlp_ok f h (ne_of_len hl2 hE.ne)).1
          obtain ⟨e2', q1, hE2⟩ := dcl_sim hA hF hE hd (by omega)
          obtain ⟨e3', q2, hE3⟩ := str_sim hA hF hE2 hs (by omega)
          rw [show i + o + 1 = i + 1 + o by omega, q1]
          dsimp only
          rw [q2]
          have := dlp_sim hA hF f f' (by omega) hE3 h hj
          rw [mvL_app, mvL_cons, mvL_nil] at this
          exact this
    · rename_i hw
      rw [if_neg hw]
      split at h
      · rename_i hw2
        cases h
        rw [if_pos hw2, mvN_no, show i + 1 + o = i + o + 1 by omega]
        exact ⟨_, rfl, hE⟩
      · cases h
theorem ded_sim {L L' : List Tk} {o hi : Nat} (hA : Ag L L' o hi) {F F' : Nat} (hF : F ≤ F') {a : Int} {d : Nat} {e e' : Env0} (hE : EnvR e e') {kd nm : Nd} {i : Nat} {n : Nd} {j : Nat} {e1 : Env0} (h : dedT L F a d e kd nm i = .ok (n, j, e1)) (hj : j ≤ hi) : ∃ e1', dedT L' F' a d e' (mvN o kd) (mvN o nm) (i + o) = .ok (mvN o n, j + o, e1') ∧ EnvR e1 e1' := by
  unfold dedT at h ⊢
  split at h
  · cases h
  · rename_i n1 j1 e2 hs
    obtain ⟨hj3, rfl⟩ := str_ok hs
    have hj4 := (dlp_ok _ h hE.ne).1
    obtain ⟨e3', q2, hE3⟩ := str_sim hA hF hE hs (by omega)
    rw [q2]
    have := dlp_sim hA hF (L.length + 1) (L'.length + 1) (by have := hA.len; omega) hE3 h hj
    rw [mvL_cons, mvL_cons, mvL_nil] at this
    exact this
theorem dct_sim {L L' : List Tk} {o hi : Nat} (hA : Ag L L' o hi) {F F' : Nat} (hF : F ≤ F') {a : Int} {d : Nat} {e e' : Env0} (hE : EnvR e e') {i : Nat} {n : Nd} {j : Nat} {e1 : Env0} (h : dctT L F a d e i = .ok (n, j, e1)) (hj : j ≤ hi) : ∃ e1', dctT L' F' a d e' (i + o) = .ok (mvN o n, j + o, e1') ∧ EnvR e1 e1' := by
  have hij := (dct_ok h hE.ne).1
  unfold dctT at h ⊢
  rw [typ_sim hA hE (by omega)]
  split at h
  · rename_i ht
    rw [if_pos ht]
    split at h
    · cases h
    · rename_i n1 k1 e2 hd
      have hl2 := (dcl_ok hd hE.ne).2.1
      have hj4 := (ded_ok h (ne_of_len hl2 hE.ne)).1
      obtain ⟨e2', q1, hE2⟩ := dcl_sim hA hF hE hd (by omega)
      rw [show i + o + 1 = i + 1 + o by omega, q1]
      have := ded_sim hA hF hE2 h hj
      rw [mvN_at, mvL_nil] at this
      exact this
  · cases h
theorem dco_sim {L L' : List Tk} {o hi : Nat} (hA : Ag L L' o hi) {F F' : Nat} (hF : F ≤ F') {d : Nat} {e e' : Env0} (hE : EnvR e e') {i : Nat} {n : Nd} {j : Nat} {e1 : Env0} (h : dcoT L F d e i = .ok (n, j, e1)) (hj : j ≤ hi) : ∃ e1', dcoT L' F' d e' (i + o) = .ok (mvN o n, j + o, e1') ∧ EnvR e1 e1' := by
  have hij := (dco_ok h hE.ne).1
  unfold dcoT at h ⊢
  rw [hA.word (by omega)]
  split at h
  · rename_i hw
    rw [if_pos hw, show i + o + 1 = i + 1 + o by omega]
    exact dct_sim hA hF hE h hj
  · rename_i hw
    rw [if_neg hw]
    exact dct_sim hA hF hE h hj
theorem pln_sim {L L' : List Tk} {o hi : Nat} (hA : Ag L L' o hi) {F F' : Nat} (hF : F ≤ F') {k : Int} {d : Nat} {e e' : Env0} (hE : EnvR e e') {i : Nat} {n : Nd} {j : Nat} {e1 : Env0} (h : plnT L F k d e i = .ok (n, j, e1)) (hj : j ≤ hi) : ∃ e1', plnT L' F' k d e' (i + o) = .ok (mvN o n, j + o, e1') ∧ EnvR e1 e1' := by
  have hij := (pln_ok h).1
  unfold plnT at h ⊢
  rw [hA.word (by omega)]
  split at h
  · rename_i hw
    cases h
    rw [if_pos hw, mvN_no, mvL_nil, show i + 1 + o = i + o + 1 by omega]
    exact ⟨_, rfl, hE⟩
  · rename_i hw
    rw [if_neg hw]
    split at h
    · cases h
    · rename_i m k' hrd
      split at h
      · rename_i hw2
        cases h
        rw [rd_sim hA hF hrd (by omega)]
        dsimp only
        rw [hA.word (by omega), if_pos hw2, mvN_no, mvL_cons, mvL_nil, show k' + 1 + o = k' + o + 1 by omega]
        exact ⟨_, rfl, hE⟩
      · cases h
theorem par_sim {L L' : List Tk} {o hi : Nat} (hA : Ag L L' o hi) {F F' : Nat} (hF : F ≤ F') {d : Nat} {e e' : Env0} (hE : EnvR e e') {i : Nat} {n : Nd} {j : Nat} {e1 : Env0} (h : parT L F d e i = .ok (n, j, e1)) (hj : j < hi) : ∃ e1', parT L' F' d e' (i + o) = .ok (mvN o n, j + o, e1') ∧ EnvR e1 e1' := by
  have hij := (par_ok h hE.ne).1
  unfold parT at h ⊢
  rw [typ_sim hA hE (by omega)]
  split at h
  · rename_i ht
    rw [if_pos ht]
    split at h
    · cases h
    · rename_i n1 k1 e2 hd
      cases h
      obtain ⟨e2', q1, hE2⟩ := dcl_sim hA hF hE hd hj
      rw [show i + o + 1 = i + 1 + o by omega, q1]
      dsimp only
      rw [mvN_no, mvL_cons, mvL_cons, mvL_nil, mvN_at, mvL_nil]
      exact ⟨_, rfl, hE2⟩
  · cases h
theorem lpl_sim {L L' : List Tk} {o hi : Nat} (hA : Ag L L' o hi) {F F' : Nat} (hF : F ≤ F') {d : Nat} : ∀ (f f' : Nat) {e e' : Env0} {ks : List Nd} {i : Nat} {ks' : List Nd} {j : Nat} {e1 : Env0}, f ≤ f' → EnvR e e' → lplT L F d f e ks i = .ok (ks', j, e1) → j ≤ hi → ∃ e1', lplT L' F' d f' e' (mvL o ks) (i + o) = .ok (mvL o ks', j + o, e1') ∧ EnvR e1 e1'
  | 0, f', e, e', ks, i, n, j, e1, hf, hE, h, hj => by unfold lplT at h; cases h
  | f + 1, 0, e, e', ks, i, n, j, e1, hf, hE, h, hj => by omega
  | f + 1, f' + 1, e, e', ks, i, n, j, e1, hf, hE, h, hj => by
    have hij := (lpl_ok (f + 1) h hE.ne).1
    unfold lplT at h
    rw [lplT, hA.word (by omega)]
    split at h
    · rename_i hw
      rw [if_pos hw]
      split at h
      · cases h
      · rename_i n2 j2 e2 hd
        have hl2 := (par_ok hd hE.ne).2.2
        have hj4 := (lpl_ok f h hl2).1
        obtain ⟨e2', q1, hE2⟩ := par_sim hA hF hE hd (by omega)
        rw [show i + o + 1 = i + 1 + o by omega, q1]
        have := lpl_sim hA hF f f' (by omega) hE2 h hj
        rw [mvL_app, mvL_cons, mvL_nil] at this
        exact this
    · rename_i hw
      rw [if_neg hw]
      split at h
      · rename_i hw2
        cases h
        rw [if_pos hw2, show i + 1 + o = i + o + 1 by omega]
        exact ⟨_, rfl, hE⟩
      · cases h
theorem lps_sim {L L' : List Tk} {o hi : Nat} (hA : Ag L L' o hi) {F F' : Nat} (hF : F ≤ F') {d : Nat} {e e' : Env0} (hE : EnvR e e') {i : Nat} {ks : List Nd} {j : Nat} {e1 : Env0} (h : lpsT L F d e i = .ok (ks, j, e1)) (hj : j ≤ hi) : ∃ e1', lpsT L' F' d e' (i + o) = .ok (mvL o ks, j + o, e1') ∧ EnvR e1 e1' := by
  have hij := (lps_ok h hE.ne).1
  unfold lpsT at h ⊢
  rw [hA.word (by omega)]
  split at h
  · rename_i hw
    cases h
    rw [if_pos hw, mvL_nil, show i + 1 + o = i + o + 1 by omega]
    exact ⟨_, rfl, hE⟩
  · rename_i hw
    rw [if_neg hw]
    split at h
    · cases h
    · rename_i n k e2 hp
      have hl2 := (par_ok hp hE.ne).2.2
      have hj4 := (lpl_ok _ h hl2).1
      obtain ⟨e2', q1, hE2⟩ := par_sim hA hF hE hp (by omega)
      rw [q1]
      have := lpl_sim hA hF (L.length + 1) (L'.length + 1) (by have := hA.len; omega) hE2 h hj
      rw [mvL_cons, mvL_nil] at this
      exact this
/-- What the modes tell. -/
def SimS (L' : List Tk) (F' o hi f' m : Nat) (k : Int) (d : Nat) (e' : Env0) (i : Nat) (ks : List Nd) (n : Nd) (j : Nat) (e1 : Env0) : Prop := match m with
  | 2 => j ≤ hi → ∃ e1', stF L' F' f' 2 k d e' (i + o) (mvL o ks) = some (.ok (mvN o n, j + o, e1')) ∧ EnvR e1 e1'
  | 1 => j ≤ hi → ∀ ks2, ∃ e1', stF L' F' f' 1 k d e' (i + o) ks2 = some (.ok (mvN o n, j + o, e1')) ∧ EnvR e1 e1'
  | m => j < hi → ∀ ks2, ∃ e1', stF L' F' f' m k d e' (i + o) ks2 = some (.ok (mvN o n, j + o, e1')) ∧ EnvR e1 e1'
theorem st_sim {L L' : List Tk} {o hi : Nat} (hA : Ag L L' o hi) {F F' : Nat} (hF : F ≤ F') : ∀ (f f' m : Nat) (k : Int) (d : Nat) (e e' : Env0) (i : Nat) (ks : List Nd) (n : Nd) (j : Nat) (e1 : Env0), f ≤ f' → EnvR e e' → stF L F f m k d e i ks = some (.ok (n, j, e1)) → SimS L' F' o hi f' m k d e' i ks n j e1
  | 0, f', m, k, d, e, e', i, ks, n, j, e1, hf, hE, h => by unfold stF at h; cases h
  | f + 1, 0, m, k, d, e, e', i, ks, n, j, e1, hf, hE, h => by omega
  | f + 1, f' + 1, 0, k, d, e, e', i, ks, n, j, e1, hf, hE, h => by
    have hij := (st_ok L F (f + 1) 0 k d e i ks n j e1 h hE.ne).1
    show j < hi → ∀ ks2, ∃ e1', stF L' F' (f' + 1) 0 k d e' (i + o) ks2 = some (.ok (mvN o n, j + o, e1')) ∧ EnvR e1 e1'
    intro hj ks2
    rw [stF] at h
    rw [stF]
    split at h
    · cases h
    · rename_i hst
      rw [stn_sim hA hE (by omega), hA.stop hst (by omega), hA.word (by omega), dcn_sim hA hE (by omega)]
      dsimp only
      split at h
      · rename_i c1
        rw [if_pos c1]
        split at h
        · cases h
        · cases h
        · rename_i n1 j1 e2 h1
          cases h
          have hl2 := (st_ok L F f _ _ _ _ _ _ _ _ _ h1 (by simp)).2
          obtain ⟨e2', q1, hE2⟩ := st_sim hA hF f f' 1 0 (d + 1) _ _ i ks _ _ _ (by omega) (hE.opens (fun _ => 0)) h1 (by omega) ks2
          rw [q1]
          exact ⟨_, rfl, hE2.shuts (by rw [hl2]; have := List.length_pos_iff.2 hE.ne; simp; omega)⟩
      · rename_i c1
        rw [if_neg c1]
        split at h
        · rename_i c2
          rw [if_pos c2]
          split at h
          · cases h
          · cases h
          · rename_i n1 j1 e2 h1
            have hl1 := st_ok L F f _ _ _ _ _ _ _ _ _ h1 hE.ne
            split at h
            · rename_i hw
              split at h
              · cases h
              · cases h
              · rename_i n2 j2 e3 h4
                have hl4 := st_ok L F f _ _ _ _ _ _ _ _ _ h4 (ne_of_len hl1.2 hE.ne)
                cases h
                obtain ⟨e2', q1, hE2⟩ := st_sim hA hF f f' 3 6 (d + 1) _ _ i ks _ _ _ (by omega) hE h1 (by omega) ks2
                rw [q1]
                dsimp only
                rw [hA.word (by omega), if_pos hw, show j1 + o + 1 = j1 + 1 + o by omega]
                obtain ⟨e3', q2, hE3⟩ := st_sim hA hF f f' 0 0 (d + 1) _ _ (j1 + 1) ks _ _ _ (by omega) hE2 h4 hj ks2
                rw [q2]
                dsimp only
                rw [mvN_more, mvL_cons, mvL_nil]
                exact ⟨_, rfl, hE3⟩
            · rename_i hw
              cases h
              obtain ⟨e2', q1, hE2⟩ := st_sim hA hF f f' 3 6 (d + 1) _ _ i ks _ _ _ (by omega) hE h1 hj ks2
              rw [q1]
              dsimp only
              rw [hA.word hj, if_neg hw]
              exact ⟨_, rfl, hE2⟩
        · rename_i c2
          rw [if_neg c2]
          split at h
          · rename_i c3
            rw [if_pos c3]
            exact st_sim hA hF f f' 3 7 (d + 1) _ _ i ks _ _ _ (by omega) hE h hj ks2
          · rename_i c3
            rw [if_neg c3]
            split at h
            · rename_i c4
              rw [if_pos c4]
              injection h with h
              obtain ⟨e2', q1, hE2⟩ := pln_sim hA hF hE h (by omega)
              rw [show i + o + 1 = i + 1 + o by omega, q1]
              exact ⟨_, rfl, hE2⟩
            · rename_i c4
              rw [if_neg c4]
              split at h
              · rename_i c5
                rw [if_pos c5]
                injection h with h
                obtain ⟨e2', q1, hE2⟩ := dco_sim hA hF hE h (by omega)
                rw [q1]
                exact ⟨_, rfl, hE2⟩
              · rename_i c5
                rw [if_neg c5]
                injection h with h
                obtain ⟨e2', q1, hE2⟩ := pln_sim hA hF hE h (by omega)
                rw [q1]
                exact ⟨_, rfl, hE2⟩
  | f + 1, f' + 1, 1, k, d, e, e', i, ks, n, j, e1, hf, hE, h => by
    have hij := (st_ok L F (f + 1) 1 k d e i ks n j e1 h hE.ne).1
    show j ≤ hi → ∀ ks2, ∃ e1', stF L' F' (f' + 1) 1 k d e' (i + o) ks2 = some (.ok (mvN o n, j + o, e1')) ∧ EnvR e1 e1'
    intro hj ks2
    rw [stF] at h
    rw [stF, hA.word (by omega)]
    split at h
    · rename_i hw
      rw [if_pos hw]
      split at h
      · cases h
      · rename_i hst
        rw [hA.stop hst (by omega)]
        dsimp only
        rw [show i + o + 1 = i + 1 + o by omega]
        have := st_sim hA hF f f' 2 0 (d + 1) _ _ (i + 1) [] _ _ _ (by omega) hE h hj
        rw [mvL_nil] at this
        exact this
    · cases h
  | f + 1, f' + 1, 2, k, d, e, e', i, ks, n, j, e1, hf, hE, h => by
    have hij := (st_ok L F (f + 1) 2 k d e i ks n j e1 h hE.ne).1
    show j ≤ hi → ∃ e1', stF L' F' (f' + 1) 2 k d e' (i + o) (mvL o ks) = some (.ok (mvN o n, j + o, e1')) ∧ EnvR e1 e1'
    intro hj
    rw [stF] at h
    rw [stF, hA.word (by omega)]
    split at h
    · rename_i hw
      cases h
      rw [if_pos hw, mvN_no, show i + 1 + o = i + o + 1 by omega]
      exact ⟨_, rfl, hE⟩
    · rename_i hw
      rw [if_neg hw]
      split at h
      · cases h
      · cases h
      · rename_i n1 j1 e2 h1
        have hl1 := st_ok L F f _ _ _ _ _ _ _ _ _ h1 hE.ne
        have hl2 := st_ok L F f _ _ _ _ _ _ _ _ _ h (ne_of_len hl1.2 hE.ne)
        obtain ⟨e2', q1, hE2⟩ := st_sim hA hF f f' 0 0 d _ _ i ks _ _ _ (by omega) hE h1 (by omega) (mvL o ks)
        rw [q1]
        have := st_sim hA hF f f' 2 0 d _ _ j1 (ks ++ [n1]) _ _ _ (by omega) hE2 h hj
        rw [mvL_app, mvL_cons, mvL_nil] at this
        exact this
  | f + 1, f' + 1, 3, k, d, e, e', i, ks, n, j, e1, hf, hE, h => by
    have hij := (st_ok L F (f + 1) 3 k d e i ks n j e1 h hE.ne).1
    show j < hi → ∀ ks2, ∃ e1', stF L' F' (f' + 1) 3 k d e' (i + o) ks2 = some (.ok (mvN o n, j + o, e1')) ∧ EnvR e1 e1'
    intro hj ks2
    rw [stF] at h
    rw [stF]
    split at h
    · rename_i hw
      split at h
      · cases h
      · rename_i m1 j1 hrd
        have := rdX_le hrd
        split at h
        · rename_i hw2
          split at h
          · cases h
          · cases h
          · rename_i n2 j2 e2 h4
            have hl4 := st_ok L F f _ _ _ _ _ _ _ _ _ h4 hE.ne
            cases h
            rw [show i + o + 1 = i + 1 + o by omega, hA.word (by omega), if_pos hw, show i + o + 2 = i + 2 + o by omega, rd_sim hA hF hrd (by omega)]
            dsimp only
            rw [hA.word (by omega), if_pos hw2, show j1 + o + 1 = j1 + 1 + o by omega]
            obtain ⟨e2', q1, hE2⟩ := st_sim hA hF f f' 0 0 d _ _ (j1 + 1) ks _ _ _ (by omega) hE h4 hj ks2
            rw [q1]
            dsimp only
            rw [mvN_no, mvL_cons, mvL_cons, mvL_nil]
            exact ⟨_, rfl, hE2⟩
        · cases h
    · cases h
  | f + 1, f' + 1, m + 4, k, d, e, e', i, ks, n, j, e1, hf, hE, h => by rw [stF] at h; cases h
theorem fun_sim {L L' : List Tk} {o hi : Nat} (hA : Ag L L' o hi) {F F' : Nat} (hF : F ≤ F') {G G' : Nat} (hG : G ≤ G') {d : Nat} {e e' : Env0} (hE : EnvR e e') {kd nm : Nd} {i : Nat} {n : Nd} {j : Nat} {e1 : Env0} (h : funT L F G d e kd nm i = some (.ok (n, j, e1))) (hj : j ≤ hi) : ∃ e1', funT L' F' G' d e' (mvN o kd) (mvN o nm) (i + o) = some (.ok (mvN o n, j + o, e1')) ∧ EnvR e1 e1' := by
  have hij := (fun_ok h).1
  unfold funT at h ⊢
  rw [hA.word (by omega)]
  split at h
  · rename_i hw
    rw [if_pos hw]
    split at h
    · cases h
    · rename_i ks k e2 hp
      have hl2 := lps_ok hp (by simp)
      split at h
      · cases h
      · cases h
      · rename_i b k2 e3 hb
        have hl3 := st_ok L F G _ _ _ _ _ _ _ _ _ hb (ne_of_len hl2.2 (by simp))
        cases h
        obtain ⟨e2', q1, hE2⟩ := lps_sim hA hF (hE.opens (fun _ => 0)) hp (by omega)
        rw [show i + o + 1 = i + 1 + o by omega, q1]
        dsimp only
        obtain ⟨e3', q2, hE3⟩ := st_sim hA hF G G' 1 0 d _ _ k [] _ _ _ hG hE2 hb hj []
        rw [q2]
        dsimp only
        rw [mvN_no]
        refine ⟨_, ?_, hE3.shuts (by rw [hl3.2, hl2.2]; have := List.length_pos_iff.2 hE.ne; simp; omega)⟩
        show _ = some (Except.ok (Nd.mk 3 (-1) (mvL o (kd :: nm :: (ks ++ [b]))), _, _))
        rw [mvL_cons, mvL_cons, mvL_app, mvL_cons, mvL_nil]
        rfl
  · cases h
theorem out_sim {L L' : List Tk} {o hi : Nat} (hA : Ag L L' o hi) {F F' : Nat} (hF : F ≤ F') {G G' : Nat} (hG : G ≤ G') {d : Nat} {e e' : Env0} (hE : EnvR e e') {i : Nat} {n : Nd} {j : Nat} {e1 : Env0} (h : outT L F G d e i = some (.ok (n, j, e1))) (hj : j ≤ hi) : ∃ e1', outT L' F' G' d e' (i + o) = some (.ok (mvN o n, j + o, e1')) ∧ EnvR e1 e1' := by
  have hij := (out_ok h hE.ne).1
  unfold outT at h ⊢
  rw [hA.word (by omega), typ_sim hA hE (by omega)]
  split at h
  · rename_i hw
    rw [if_pos hw]
    injection h with h
    obtain ⟨e2', q1, hE2⟩ := dco_sim hA hF hE h hj
    rw [q1]
    exact ⟨_, rfl, hE2⟩
  · rename_i hw
    rw [if_neg hw]
    split at h
    · rename_i ht
      rw [if_pos ht]
      split at h
      · cases h
      · rename_i n1 k1 e2 hd
        have hl2 := (dcl_ok hd hE.ne).2.1
        split at h
        · rename_i hc
          have hj4 := (fun_ok h).1
          obtain ⟨e2', q1, hE2⟩ := dcl_sim hA hF hE hd (by omega)
          rw [show i + o + 1 = i + 1 + o by omega, q1]
          dsimp only
          rw [mvN_kids, mvL_len, hA.word (by omega), if_pos hc]
          have := fun_sim hA hF hG hE2 h hj
          rw [mvN_at, mvL_nil] at this
          exact this
        · rename_i hc
          injection h with h
          have hj4 := (ded_ok h (ne_of_len hl2 hE.ne)).1
          obtain ⟨e2', q1, hE2⟩ := dcl_sim hA hF hE hd (by omega)
          rw [show i + o + 1 = i + 1 + o by omega, q1]
          dsimp only
          rw [mvN_kids, mvL_len, hA.word (by omega), if_neg hc]
          have := ded_sim hA hF hE2 h hj
          rw [mvN_at, mvL_nil] at this
          obtain ⟨e3', q2, hE3⟩ := this
          rw [q2]
          exact ⟨_, rfl, hE3⟩
    · cases h
end
end Go.Proofs.Ytocklchafmlfkaa
