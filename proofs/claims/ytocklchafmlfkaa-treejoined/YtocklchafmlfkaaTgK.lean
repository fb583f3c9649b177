/- What is read in one list of tokens is read in another one, from another place on, where they agree. -/
import Derived.Test.YtocklchafmlfkaaTgH
import Derived.Test.YtocklchafmlfkaaTgJ
namespace Go.Proofs.Ytocklchafmlfkaa

mutual
/-- A tree whose tokens have greater numbers. -/
def mvN (o : Nat) : Nd → Nd
  | .mk k t ks => .mk k (if 0 ≤ t then t + (o : Int) else t) (mvL o ks)
def mvL (o : Nat) : List Nd → List Nd
  | [] => []
  | n :: ks => mvN o n :: mvL o ks
end
theorem mvN_at (o : Nat) (k : Int) (i : Nat) (ks : List Nd) : mvN o (.mk k (i : Int) ks) = .mk k ((i + o : Nat) : Int) (mvL o ks) := by
  rw [mvN, if_pos (by omega)]
  congr 1
theorem mvN_no (o : Nat) (k : Int) (ks : List Nd) : mvN o (.mk k (-1) ks) = .mk k (-1) (mvL o ks) := by
  rw [mvN, if_neg (by omega)]
theorem mvL_nil (o : Nat) : mvL o [] = [] := by rw [mvL]
theorem mvL_cons (o : Nat) (n : Nd) (ks : List Nd) : mvL o (n :: ks) = mvN o n :: mvL o ks := by rw [mvL]
theorem mvL_app (o : Nat) : ∀ a b : List Nd, mvL o (a ++ b) = mvL o a ++ mvL o b
  | [], b => by rw [mvL_nil, List.nil_append, List.nil_append]
  | n :: a, b => by rw [List.cons_append, mvL_cons, mvL_cons, mvL_app o a b, List.cons_append]
theorem mvL_len (o : Nat) : ∀ a : List Nd, (mvL o a).length = a.length
  | [] => by rw [mvL_nil]
  | n :: a => by rw [mvL_cons, List.length_cons, List.length_cons, mvL_len o a]
theorem mvN_kids (o : Nat) (n : Nd) : (mvN o n).kids = mvL o n.kids := by
  obtain ⟨k, t, ks⟩ := n
  rw [mvN]
  rfl
theorem mvN_more (o : Nat) (n : Nd) (ms : List Nd) : mvN o (.mk n.kind n.tok (n.kids ++ ms)) = .mk (mvN o n).kind (mvN o n).tok ((mvN o n).kids ++ mvL o ms) := by
  obtain ⟨k, t, ks⟩ := n
  show mvN o (.mk k t (ks ++ ms)) = _
  rw [mvN, mvN, mvL_app]
  rfl
mutual
theorem mvN_zero : ∀ n : Nd, mvN 0 n = n
  | .mk k t ks => by
    rw [mvN, mvL_zero ks]
    congr 1
    split <;> simp
theorem mvL_zero : ∀ ks : List Nd, mvL 0 ks = ks
  | [] => mvL_nil 0
  | n :: ks => by rw [mvL_cons, mvN_zero n, mvL_zero ks]
end
/-- The second list has, o on, what the first one has up to hi. -/
structure Ag (L L' : List Tk) (o hi : Nat) : Prop where
  tok : ∀ p, p < hi → L'[p + o]? = L[p]?
  len : L.length ≤ L'.length
section
theorem Ag.word {L L' : List Tk} {o hi : Nat} (hA : Ag L L' o hi) {p : Nat} (h : p < hi) : wordT L' (p + o) = wordT L p := by unfold wordT; rw [hA.tok p h]
theorem Ag.kind {L L' : List Tk} {o hi : Nat} (hA : Ag L L' o hi) {p : Nat} (h : p < hi) : kindT L' (p + o) = kindT L p := by unfold kindT; rw [hA.tok p h]
theorem Ag.name {L L' : List Tk} {o hi : Nat} (hA : Ag L L' o hi) {p : Nat} (h : p < hi) : nameT L' (p + o) = nameT L p := by unfold nameT; rw [hA.tok p h]
theorem Ag.part {L L' : List Tk} {o hi : Nat} (hA : Ag L L' o hi) {p : Nat} (h : p < hi) : partT L' (p + o) = partT L p := by unfold partT; rw [hA.word h, hA.kind h, hA.name h]
theorem Ag.stop {L L' : List Tk} {o hi : Nat} (hA : Ag L L' o hi) {b : Bool} {d i : Nat} (h : stopT L b d i = none) (hi' : i < hi) : stopT L' b d (i + o) = none := by
  have hil := stop_lt h
  have h1 := hA.tok i hi'
  rw [List.getElem?_eq_getElem hil] at h1
  have h2 := (List.getElem?_eq_some_iff.1 h1).1
  unfold stopT at h ⊢
  rw [if_neg (by omega)] at h
  rw [if_neg (by omega)]
  split at h
  · cases h
  · rename_i h3
    rw [if_neg h3]
    split at h
    · cases h
    · rename_i h4
      rw [if_neg h4]
/-- What the modes tell. -/
def SimM (L' : List Tk) (o f' m l d i : Nat) (n : Nd) (ks : List Nd) (n' : Nd) (ks' : List Nd) (j : Nat) : Prop := match m with
  | 0 => ∀ n2 ks2, ∃ k2, exF L' f' 0 l d (i + o) n2 ks2 = some (.ok (mvN o n', k2, j + o))
  | 1 => ∀ ks2, ∃ k2, exF L' f' 1 l d (i + o) (mvN o n) ks2 = some (.ok (mvN o n', k2, j + o))
  | 2 => ∀ n2 ks2, ∃ k2, exF L' f' 2 l d (i + o) n2 ks2 = some (.ok (mvN o n', k2, j + o))
  | 3 => ∀ ks2, ∃ k2, exF L' f' 3 l d (i + o) (mvN o n) ks2 = some (.ok (mvN o n', k2, j + o))
  | 4 => ∀ n2 ks2, ∃ m2, exF L' f' 4 l d (i + o) n2 ks2 = some (.ok (m2, mvL o ks', j + o))
  | m + 5 => ∀ n2, ∃ m2, exF L' f' (m + 5) l d (i + o) n2 (mvL o ks) = some (.ok (m2, mvL o ks', j + o))
theorem ex_sim {L L' : List Tk} {o hi : Nat} (hA : Ag L L' o hi) : ∀ (f f' m l d i : Nat) (n : Nd) (ks : List Nd) (n' : Nd) (ks' : List Nd) (j : Nat), f ≤ f' → exF L f m l d i n ks = some (.ok (n', ks', j)) → j < hi → SimM L' o f' m l d i n ks n' ks' j
  | 0, f', m, l, d, i, n, ks, n', ks', j, hf, h, hj => by unfold exF at h; cases h
  | f + 1, 0, m, l, d, i, n, ks, n', ks', j, hf, h, hj => by omega
  | f + 1, f' + 1, 0, l, d, i, n, ks, n', ks', j, hf, h, hj => by
    have hij := ex_le L (f + 1) 0 l d i n ks n' ks' j h
    rw [exF] at h
    intro n2 ks2
    rw [exF]
    split at h
    · cases h
    · rename_i hst
      rw [hA.part (by omega), hA.stop hst (by omega)]
      dsimp only
      split at h
      · cases h
      · cases h
      · rename_i m1 k1 j1 h1
        have hj1 := ex_le L f _ _ _ _ _ _ _ _ _ h
        obtain ⟨k2, e2⟩ := ex_sim hA f f' 2 _ _ _ _ _ _ _ _ (by omega) h1 (by omega) n2 ks2
        rw [e2]
        exact ex_sim hA f f' 1 _ _ _ _ _ _ _ _ (by omega) h hj ks2
  | f + 1, f' + 1, 1, l, d, i, n, ks, n', ks', j, hf, h, hj => by
    have hij := ex_le L (f + 1) 1 l d i n ks n' ks' j h
    rw [exF] at h
    intro ks2
    rw [exF, hA.word (by omega)]
    split at h
    · rename_i hlv
      cases h
      rw [if_pos hlv]
      exact ⟨_, rfl⟩
    · rename_i hlv
      rw [if_neg hlv]
      split at h
      · cases h
      · cases h
      · rename_i m1 k1 j1 h1
        have hj1 := ex_le L f _ _ _ _ _ _ _ _ _ h
        obtain ⟨k2, e2⟩ := ex_sim hA f f' 0 _ _ _ _ _ _ _ _ (by omega) h1 (by omega) (mvN o n) ks2
        rw [show i + 1 + o = i + o + 1 by omega] at e2
        rw [e2]
        have := ex_sim hA f f' 1 _ _ _ _ _ _ _ _ (by omega) h hj ks2
        rw [mvN_at, mvL_cons, mvL_cons, mvL_nil] at this
        exact this
  | f + 1, f' + 1, 2, l, d, i, n, ks, n', ks', j, hf, h, hj => by
    have hij := ex_le L (f + 1) 2 l d i n ks n' ks' j h
    rw [exF] at h
    intro n2 ks2
    rw [exF]
    split at h
    · cases h
    · rename_i hst
      rw [hA.part (by omega), hA.stop hst (by omega), hA.word (by omega), hA.name (by omega)]
      dsimp only
      split at h
      · rename_i hah
        rw [if_pos hah]
        split at h
        · cases h
        · cases h
        · rename_i m1 k1 j1 h1
          cases h
          obtain ⟨k2, e2⟩ := ex_sim hA f f' 2 _ _ _ _ _ _ _ _ (by omega) h1 hj n2 ks2
          rw [show i + 1 + o = i + o + 1 by omega] at e2
          rw [e2, mvN_at, mvL_cons, mvL_nil]
          exact ⟨_, rfl⟩
      · rename_i hah
        rw [if_neg hah]
        split at h
        · rename_i hw
          rw [if_pos hw]
          split at h
          · cases h
          · cases h
          · rename_i m1 k1 j1 h1
            split at h
            · rename_i hw2
              have hj1 := ex_le L f _ _ _ _ _ _ _ _ _ h
              obtain ⟨k2, e2⟩ := ex_sim hA f f' 0 _ _ _ _ _ _ _ _ (by omega) h1 (by omega) n2 ks2
              rw [show i + 1 + o = i + o + 1 by omega] at e2
              rw [e2]
              dsimp only
              rw [hA.word (by omega), if_pos hw2]
              have := ex_sim hA f f' 3 _ _ _ _ _ _ _ _ (by omega) h hj ks2
              rw [show j1 + 1 + o = j1 + o + 1 by omega] at this
              exact this
            · cases h
        · rename_i hw
          rw [if_neg hw]
          split at h
          · rename_i hn
            rw [if_pos hn]
            have := ex_sim hA f f' 3 _ _ _ _ _ _ _ _ (by omega) h hj ks2
            rw [mvN_at, mvL_nil, show i + 1 + o = i + o + 1 by omega] at this
            exact this
          · rename_i hn
            rw [if_neg hn]
            have := ex_sim hA f f' 3 _ _ _ _ _ _ _ _ (by omega) h hj ks2
            rw [mvN_at, mvL_nil, show i + 1 + o = i + o + 1 by omega] at this
            exact this
  | f + 1, f' + 1, 3, l, d, i, n, ks, n', ks', j, hf, h, hj => by
    have hij := ex_le L (f + 1) 3 l d i n ks n' ks' j h
    rw [exF] at h
    intro ks2
    rw [exF, hA.word (by omega)]
    split at h
    · rename_i hw
      rw [if_pos hw]
      split at h
      · cases h
      · cases h
      · rename_i m1 k1 j1 h1
        have hj1 := ex_le L f _ _ _ _ _ _ _ _ _ h
        obtain ⟨m2, e2⟩ := ex_sim hA f f' 4 _ _ _ _ _ _ _ _ (by omega) h1 (by omega) (mvN o n) []
        rw [show i + 1 + o = i + o + 1 by omega] at e2
        rw [e2]
        have := ex_sim hA f f' 3 _ _ _ _ _ _ _ _ (by omega) h hj ks2
        rw [mvN_no, mvL_cons] at this
        exact this
    · rename_i hw
      rw [if_neg hw]
      split at h
      · rename_i hw1
        rw [if_pos hw1]
        split at h
        · cases h
        · cases h
        · rename_i m1 k1 j1 h1
          split at h
          · rename_i hw2
            have hj1 := ex_le L f _ _ _ _ _ _ _ _ _ h
            obtain ⟨k2, e2⟩ := ex_sim hA f f' 0 _ _ _ _ _ _ _ _ (by omega) h1 (by omega) (mvN o n) ks2
            rw [show i + 1 + o = i + o + 1 by omega] at e2
            rw [e2]
            dsimp only
            rw [hA.word (by omega), if_pos hw2]
            have := ex_sim hA f f' 3 _ _ _ _ _ _ _ _ (by omega) h hj ks2
            rw [mvN_no, mvL_cons, mvL_cons, mvL_nil, show j1 + 1 + o = j1 + o + 1 by omega] at this
            exact this
          · cases h
      · rename_i hw1
        rw [if_neg hw1]
        cases h
        exact ⟨_, rfl⟩
  | f + 1, f' + 1, 4, l, d, i, n, ks, n', ks', j, hf, h, hj => by
    have hij := ex_le L (f + 1) 4 l d i n ks n' ks' j h
    rw [exF] at h
    intro n2 ks2
    rw [exF]
    split at h
    · rename_i hw
      cases h
      rw [hA.word (by omega), if_pos hw, mvL_nil, show i + 1 + o = i + o + 1 by omega]
      exact ⟨_, rfl⟩
    · rename_i hw
      rw [hA.word (by omega), if_neg hw]
      split at h
      · cases h
      · cases h
      · rename_i m1 k1 j1 h1
        have hj1 := ex_le L f _ _ _ _ _ _ _ _ _ h
        obtain ⟨k2, e2⟩ := ex_sim hA f f' 0 _ _ _ _ _ _ _ _ (by omega) h1 (by omega) n2 ks2
        rw [e2]
        have := ex_sim hA f f' 5 _ _ _ _ _ _ _ _ (by omega) h hj n2
        rw [mvL_cons, mvL_nil] at this
        exact this
  | f + 1, f' + 1, m + 5, l, d, i, n, ks, n', ks', j, hf, h, hj => by
    have hij := ex_le L (f + 1) (m + 5) l d i n ks n' ks' j h
    rw [exF] at h
    show ∀ n2, ∃ m2, exF L' (f' + 1) (m + 5) l d (i + o) n2 (mvL o ks) = some (.ok (m2, mvL o ks', j + o))
    intro n2
    rw [exF]
    split at h
    · rename_i hw
      rw [hA.word (by omega), if_pos hw]
      split at h
      · cases h
      · cases h
      · rename_i m1 k1 j1 h1
        have hj1 := ex_le L f _ _ _ _ _ _ _ _ _ h
        obtain ⟨k2, e2⟩ := ex_sim hA f f' 0 _ _ _ _ _ _ _ _ (by omega) h1 (by omega) n2 (mvL o ks)
        rw [show i + 1 + o = i + o + 1 by omega] at e2
        rw [e2]
        have := ex_sim hA f f' 5 _ _ _ _ _ _ _ _ (by omega) h hj n2
        rw [mvL_app, mvL_cons, mvL_nil] at this
        exact this
    · rename_i hw
      split at h
      · rename_i hw2
        cases h
        rw [hA.word (by omega), if_neg hw, if_pos hw2, show i + 1 + o = i + o + 1 by omega]
        exact ⟨_, rfl⟩
      · cases h
    all_goals omega
theorem rd_sim {L L' : List Tk} {o hi : Nat} (hA : Ag L L' o hi) {F F' l d i : Nat} {m : Nd} {j : Nat} (hF : F ≤ F') (h : rdX L F l d i = .ok (m, j)) (hj : j < hi) : rdX L' F' l d (i + o) = .ok (mvN o m, j + o) := by
  unfold rdX at h
  cases hx : exF L F 0 l d i (.mk 0 0 []) [] with
  | none => rw [hx] at h; cases h
  | some R =>
    rw [hx] at h
    cases R with
    | error y => cases h
    | ok y =>
      obtain ⟨n, ks, j⟩ := y
      cases h
      obtain ⟨k2, e2⟩ := ex_sim hA F F' 0 l d i _ _ _ _ _ hF hx hj (.mk 0 0 []) []
      unfold rdX
      rw [e2]
end
end Go.Proofs.Ytocklchafmlfkaa
