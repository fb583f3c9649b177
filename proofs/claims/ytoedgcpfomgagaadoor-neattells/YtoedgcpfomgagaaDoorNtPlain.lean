/- Plain functions of a text written anew, and plain facts of them. -/
import Derived.Test.YtoedgcpfomgagaaDoorLxTellsF
namespace Go.Proofs.YtoedgcpfomgagaaDoor
open Go.RowKit Go.Shelf

/-- Whether a token's text is this one byte. -/
def isB (t : Tk) (c : UInt8) : Bool := t.text.toList == [c]
/-- How many are open behind a token. -/
def openT (d : Nat) (t : Tk) : Nat := if isB t 123 then d + 1 else if isB t 125 then d - 1 else d
def headT (g : List Tk) : Tk := g.getD 0 noTk
def marginF (g : List Tk) (d : Nat) : Nat := if isB (headT g) 35 then 0 else if isB (headT g) 125 then d - 1 else d
def behindF (g : List Tk) (d : Nat) : Nat := if isB (headT g) 35 then d else g.foldl openT d
def endF (g : List Tk) : List UInt8 := if isB (g.getD (g.length - 1) noTk) 92 then [32, 10] else [10]
def writtenF (g : List Tk) : List UInt8 := joinL g ++ endF g
def padF (n : Nat) : List UInt8 := List.replicate (2 * n) 32
def lineF (g : List Tk) (d : Nat) : List UInt8 := padF (marginF g d) ++ writtenF g
/-- What stands there behind so many lines, and how many are open. -/
def neatN (gs : List (List Tk)) : Nat → List UInt8 × Nat
  | 0 => ([], 0)
  | k + 1 => ((neatN gs k).1 ++ lineF (gs.getD k []) (neatN gs k).2, behindF (gs.getD k []) (neatN gs k).2)
def neatL (gs : List (List Tk)) : List UInt8 := (neatN gs gs.length).1
/-- What is answered: the text, and what is wrong. -/
def neatF (l : List UInt8) : List UInt8 × (Int × Int × Int) :=
  if (toksF 0 l).2.1 ≠ 0 then ([], (toksF 0 l).2)
  else if 3000 < (neatL (linesF (toksF 0 l).1)).length then ([], (4, 0, 0))
  else (neatL (linesF (toksF 0 l).1), (0, -1, 0))

theorem neatN_mono (gs : List (List Tk)) (k : Nat) : ∀ j, k ≤ j → (neatN gs k).1.length ≤ (neatN gs j).1.length
  | 0, h => by have : k = 0 := by omega
               subst this; exact Nat.le_refl _
  | j + 1, h => by
    by_cases e : k = j + 1
    · subst e; exact Nat.le_refl _
    · have := neatN_mono gs k j (by omega)
      show _ ≤ ((neatN gs j).1 ++ _).length
      rw [List.length_append]; omega

theorem openT_le (d : Nat) (t : Tk) : openT d t ≤ d + 1 := by unfold openT; split <;> (try split) <;> omega
theorem opens_le : ∀ (g : List Tk) (d : Nat), g.foldl openT d ≤ d + g.length
  | [], d => by simp
  | t :: r, d => by
    have h1 := openT_le d t
    have h2 := opens_le r (openT d t)
    simp only [List.foldl_cons, List.length_cons]
    omega
theorem behindF_le (g : List Tk) (d : Nat) : behindF g d ≤ d + g.length := by
  unfold behindF; split
  · omega
  · exact opens_le g d
theorem marginF_le (g : List Tk) (d : Nat) : marginF g d ≤ d := by unfold marginF; split <;> (try split) <;> omega
theorem endF_le (g : List Tk) : (endF g).length ≤ 2 := by unfold endF; split <;> simp
theorem writtenF_le (g : List Tk) (h : ∀ t ∈ g, t.text.size ≤ 3000) : (writtenF g).length ≤ g.length * 3001 + 2 := by
  have h1 := joinN_le g 3000 h g.length (Nat.le_refl _)
  have h2 := endF_le g
  unfold writtenF joinL
  rw [List.length_append]
  omega
theorem lineF_le (g : List Tk) (d : Nat) (h : ∀ t ∈ g, t.text.size ≤ 3000) : (lineF g d).length ≤ 2 * d + (g.length * 3001 + 2) := by
  have h1 := writtenF_le g h
  have h2 := marginF_le g d
  unfold lineF padF
  rw [List.length_append, List.length_replicate]
  omega
/-- What is open, and what stands there, is bounded by how many lines, and how long. -/
theorem neatN_le (gs : List (List Tk)) (M : Nat) (hM : ∀ g ∈ gs, g.length ≤ M ∧ ∀ t ∈ g, t.text.size ≤ 3000) : ∀ k, k ≤ gs.length → (neatN gs k).2 ≤ k * M ∧ (neatN gs k).1.length ≤ k * (2 * (k * M) + (M * 3001 + 2))
  | 0, _ => by simp [neatN]
  | k + 1, hk => by
    obtain ⟨h1, h2⟩ := neatN_le gs M hM k (by omega)
    have hg : gs.getD k [] = gs[k] := by simp [List.getD, List.getElem?_eq_getElem (show k < gs.length by omega)]
    obtain ⟨h3, h4⟩ := hM gs[k] (List.getElem_mem (by omega))
    have h5 := behindF_le gs[k] (neatN gs k).2
    have h6 := lineF_le gs[k] (neatN gs k).2 h4
    have h7 : gs[k].length * 3001 ≤ M * 3001 := Nat.mul_le_mul_right _ h3
    refine ⟨?_, ?_⟩
    · show behindF (gs.getD k []) _ ≤ _
      rw [hg, Nat.add_mul]; omega
    · show (_ ++ lineF (gs.getD k []) _).length ≤ _
      rw [hg, List.length_append]
      have e1 : k * (2 * (k * M) + (M * 3001 + 2)) ≤ k * (2 * ((k + 1) * M) + (M * 3001 + 2)) := Nat.mul_le_mul_left _ (by rw [Nat.add_mul]; omega)
      have e2 : (k + 1) * (2 * ((k + 1) * M) + (M * 3001 + 2)) = k * (2 * ((k + 1) * M) + (M * 3001 + 2)) + (2 * ((k + 1) * M) + (M * 3001 + 2)) := by rw [Nat.add_mul, Nat.one_mul]
      have e3 : (k + 1) * M = k * M + M := by rw [Nat.add_mul, Nat.one_mul]
      rw [e2]
      omega

/-- Whether a token is a sign, where its text is one of these three. -/
def Signed (ts : List Tk) : Prop := ∀ t ∈ ts, ∀ c, c = 35 ∨ c = 123 ∨ c = 125 → isB t c = true → t.kind = 5

theorem pick_sign {l : List UInt8} {path : Bool} {c : UInt8} {r : List UInt8} (hl : l = c :: r) (h : c = 35 ∨ c = 123 ∨ c = 125) : (pick (sizes l path)).1 = 5 := by
  have hb : byteAt l 0 = c := by subst hl; rfl
  have h1 : nameSz l = 0 := by
    unfold nameSz
    rw [hb]
    rcases h with rfl | rfl | rfl <;> (split <;> rfl)
  have h2 : numSz l = 0 := by
    unfold numSz startsNum
    subst hl
    rcases h with rfl | rfl | rfl <;> rfl
  have h3 : quotSz 34 l = 0 := by subst hl; rcases h with rfl | rfl | rfl <;> rfl
  have h4 : quotSz 39 l = 0 := by subst hl; rcases h with rfl | rfl | rfl <;> rfl
  have h5 : pathSz l = 0 := by
    subst hl
    unfold pathSz
    rw [if_neg]
    rintro ⟨e, _⟩
    simp at e
    rcases h with rfl | rfl | rfl <;> simp at e
  have h6 : 0 < signSz l := by
    have key : ∀ s ∈ signsL, s.length ≠ 0 := by decide
    unfold signSz
    rcases hf : signsL.find? (·.isPrefixOf l) with _ | s
    · exfalso
      have hn := List.find?_eq_none.1 hf [c] (by rcases h with rfl | rfl | rfl <;> decide)
      subst hl
      simp [List.isPrefixOf] at hn
    · have := key s (List.mem_of_find?_eq_some hf)
      rw [hf]
      show 0 < s.length
      omega
  unfold sizes
  rw [h1, h2, h3, h4, h5]
  have e7 : (if path = true then ((0 : Nat) : Int) else 0) = 0 := by split <;> rfl
  rw [e7]
  have hs1 : ((signSz l : Nat) : Int) ≠ -1 := by omega
  simp [pick, hs1, h6]
theorem pcsF_signs (s : List UInt8) : ∀ (f i : Nat) (acc A : List Pc), i ≤ s.length → (∀ p ∈ acc, p.lo < p.hi ∧ p.hi ≤ s.length ∧ ∀ c r, s.drop p.lo = c :: r → c = 35 ∨ c = 123 ∨ c = 125 → p.kind = 5) → pcsF s f i acc = .inr A → ∀ p ∈ A, p.lo < p.hi ∧ p.hi ≤ s.length ∧ ∀ c r, s.drop p.lo = c :: r → c = 35 ∨ c = 123 ∨ c = 125 → p.kind = 5
  | 0, _, acc, A, _, ha, h => by cases h; exact ha
  | f + 1, i, acc, A, hi, ha, h => by
    have hs := skip_to s i false (i == 0) hi
    unfold pcsF at h
    generalize skip s i false (i == 0) = g at h hs
    obtain ⟨k, sp, fi, lk⟩ := g
    dsimp only at h hs
    split at h
    · cases h
    · split at h
      · cases h; exact ha
      · rename_i hk
        split at h
        · cases h
        · rename_i hm
          have hle := pick_le (s.drop k) (!fi && behind s acc) (by simp; omega)
          have hl : (s.drop k).length = s.length - k := by simp
          have hn : k + (pick (sizes (s.drop k) (!fi && behind s acc))).2.toNat ≤ s.length ∧ 0 < (pick (sizes (s.drop k) (!fi && behind s acc))).2.toNat := by
            rcases hle with h' | ⟨h1, h2⟩
            · exact absurd h' hm
            · omega
          refine pcsF_signs s f _ _ A hn.1 (fun p hp => ?_) h
          rcases List.mem_append.1 hp with hp | hp
          · exact ha p hp
          · rw [List.mem_singleton] at hp
            subst hp
            exact ⟨by show k < k + _; omega, hn.1, fun c r e hc => pick_sign e hc⟩
theorem toks_signed (file : Int) (l : List UInt8) : Signed (toksF file l).1 := by
  unfold toksF
  split
  · exact fun t ht => by cases ht
  · rcases hp : pcs (bytesAt l (kept l)) with k | ps
    · exact fun t ht => by cases ht
    · dsimp only
      have hf := pcsF_signs _ _ 0 [] ps (Nat.zero_le _) (fun p hp => by cases hp) hp
      intro t ht c hc hb
      unfold tksOf at ht
      obtain ⟨p, hpm, rfl⟩ := List.mem_map.1 ht
      obtain ⟨h1, h2, h3⟩ := hf p hpm
      have hb2 : textOfPc (bytesAt l (kept l)) p = [c] := by
        unfold isB tkOf at hb
        have := eq_of_beq hb
        rw [toList_data] at this
        simpa using this
      show p.kind = 5
      generalize bytesAt l (kept l) = s at *
      have hlt : p.lo < s.length := by omega
      refine h3 c (s.drop (p.lo + 1)) ?_ hc
      rw [List.drop_eq_getElem_cons hlt]
      unfold textOfPc at hb2
      rw [List.drop_eq_getElem_cons (by rw [List.length_take]; omega), List.getElem_take] at hb2
      injection hb2 with e _
      rw [e]
end Go.Proofs.YtoedgcpfomgagaaDoor
