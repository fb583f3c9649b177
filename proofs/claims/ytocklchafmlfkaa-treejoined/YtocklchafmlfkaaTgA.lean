/- Trees, and how tokens are read as expressions, as plain functions. · How trees, and a reader of tokens, lie in memory. · Walks of the cursor, and of what tells signs apart. · Walks of the cursor: take, skip, fail, must; partNext, enter, leave. · Walk of levelOf: a sign at a time. Made by a program of mine. · What a function that counts defers: leave; behind a return, and behind what is thrown. -/
import Derived.Test.YtocklchafmlfkaaLxC
import Derived.Maps.Own
import Derived.Deep.RegionHeld3
import Derived.Deep.QuietTactic
import Derived.BigQuiet
import Derived.Test.YtocklchafmlfkaaStepApp
import Derived.Deep.RegionHeld2
namespace Go.Proofs.Ytocklchafmlfkaa
section
open Go.RowKit Go.Shelf

/-- A node. -/
inductive Nd where
  | mk (kind tok : Int) (kids : List Nd)
def Nd.kind : Nd → Int | .mk k _ _ => k
def Nd.tok : Nd → Int | .mk _ t _ => t
def Nd.kids : Nd → List Nd | .mk _ _ ks => ks
/-- What is read, or what is wrong, and at which token. -/
abbrev Got (α : Type) := Except (Int × Nat) α

/-- The kind of the token that stands there. -/
def kindT (L : List Tk) (i : Nat) : Int := match L[i]? with
  | some t => t.kind
  | none => 0
/-- The text of the name or the sign that stands there. -/
def wordT (L : List Tk) (i : Nat) : List UInt8 := match L[i]? with
  | some t => if t.kind = 1 ∨ t.kind = 5 then t.text.data.toList else []
  | none => []
/-- The words of the language. -/
def keyW (s : List UInt8) : Bool :=
  s == [105, 110, 116] || s == [99, 104, 97, 114] || s == [108, 111, 110, 103] || s == [118, 111, 105, 100] || s == [116, 121, 112, 101, 100, 101, 102] || s == [105, 102] || s == [101, 108, 115, 101] || s == [119, 104, 105, 108, 101] || s == [114, 101, 116, 117, 114, 110]
/-- Whether a name stands there that is none of these. -/
def nameT (L : List Tk) (i : Nat) : Bool := match L[i]? with
  | some t => decide (t.kind = 1) && !keyW t.text.data.toList
  | none => false
/-- Where a token stands; behind the last one its end. -/
def placeT (L : List Tk) (i : Nat) : Int × Int := match L[i]? with
  | some t => (t.file, t.lo)
  | none => match L.getLast? with
    | some t => (t.file, t.hi)
    | none => (-1, 0)
/-- How tight a sign binds. -/
def levelW (s : List UInt8) : Nat :=
  if s = [44] then 1
  else if s = [61] ∨ s = [43, 61] ∨ s = [45, 61] ∨ s = [42, 61] ∨ s = [47, 61] ∨ s = [37, 61] ∨ s = [38, 61] ∨ s = [124, 61] ∨ s = [94, 61] ∨ s = [60, 60, 61] ∨ s = [62, 62, 61] then 2
  else if s = [124, 124] then 3
  else if s = [38, 38] then 4
  else if s = [124] then 5
  else if s = [94] then 6
  else if s = [38] then 7
  else if s = [61, 61] ∨ s = [33, 61] then 8
  else if s = [60] ∨ s = [62] ∨ s = [60, 61] ∨ s = [62, 61] then 9
  else if s = [60, 60] ∨ s = [62, 62] then 10
  else if s = [43] ∨ s = [45] then 11
  else if s = [42] ∨ s = [47] ∨ s = [37] then 12
  else 0
def rightW (l : Nat) : Nat := if l = 2 then l else l + 1
/-- Whether a sign may stand ahead of a part. -/
def aheadW (s : List UInt8) : Bool := s == [45] || s == [43] || s == [33] || s == [126] || s == [42] || s == [38] || s == [43, 43] || s == [45, 45]
/-- Whether a part of an expression begins there. -/
def partT (L : List Tk) (i : Nat) : Bool := (kindT L i == 2) || (kindT L i == 3) || (kindT L i == 4) || nameT L i || (wordT L i == [40]) || aheadW (wordT L i)
/-- What stands in the way of a part that counts. -/
def stopT (L : List Tk) (begins : Bool) (d i : Nat) : Option (Int × Nat) :=
  if L.length ≤ i then some (9, i) else if begins = false then some (2, i) else if d = 30 then some (10, i) else none

section
variable (L : List Tk)
/-- What is read: 0 signs between, 1 what follows a part there, 2 a part, 3 what stands behind it, 4 what stands in parentheses with commas, 5 what follows of that. fuel; what; the level; how deep; where; what is there; what is listed. -/
def exF : Nat → Nat → Nat → Nat → Nat → Nd → List Nd → Option (Got (Nd × List Nd × Nat))
  | 0, _, _, _, _, _, _ => none
  | f + 1, 0, l, d, i, n, ks => match stopT L (partT L i) d i with
    | some x => some (.error x)
    | none => match exF f 2 0 (d + 1) i n ks with
      | none => none
      | some (.error x) => some (.error x)
      | some (.ok (m, _, j)) => exF f 1 l (d + 1) j m ks
  | f + 1, 1, l, d, i, n, ks =>
    if levelW (wordT L i) < l then some (.ok (n, ks, i))
    else match exF f 0 (rightW (levelW (wordT L i))) d (i + 1) n ks with
      | none => none
      | some (.error x) => some (.error x)
      | some (.ok (m, _, j)) => exF f 1 l d j (.mk 13 (i : Int) [n, m]) ks
  | f + 1, 2, _, d, i, n, ks => match stopT L (partT L i) d i with
    | some x => some (.error x)
    | none =>
      if aheadW (wordT L i) = true then match exF f 2 0 (d + 1) (i + 1) n ks with
        | none => none
        | some (.error x) => some (.error x)
        | some (.ok (m, _, j)) => some (.ok (.mk 12 (i : Int) [m], ks, j))
      else if wordT L i = [40] then match exF f 0 1 (d + 1) (i + 1) n ks with
        | none => none
        | some (.error x) => some (.error x)
        | some (.ok (m, _, j)) => if wordT L j = [41] then exF f 3 0 (d + 1) (j + 1) m ks else some (.error (2, j))
      else if nameT L i = true then exF f 3 0 (d + 1) (i + 1) (.mk 10 (i : Int) []) ks
      else exF f 3 0 (d + 1) (i + 1) (.mk 11 (i : Int) []) ks
  | f + 1, 3, _, d, i, n, ks =>
    if wordT L i = [40] then match exF f 4 0 d (i + 1) n [] with
      | none => none
      | some (.error x) => some (.error x)
      | some (.ok (_, ms, j)) => exF f 3 0 d j (.mk 14 (-1) (n :: ms)) ks
    else if wordT L i = [91] then match exF f 0 1 d (i + 1) n ks with
      | none => none
      | some (.error x) => some (.error x)
      | some (.ok (m, _, j)) => if wordT L j = [93] then exF f 3 0 d (j + 1) (.mk 15 (-1) [n, m]) ks else some (.error (2, j))
    else some (.ok (n, ks, i))
  | f + 1, 4, _, d, i, n, ks =>
    if wordT L i = [41] then some (.ok (n, [], i + 1))
    else match exF f 0 2 d i n ks with
      | none => none
      | some (.error x) => some (.error x)
      | some (.ok (m, _, j)) => exF f 5 0 d j n [m]
  | f + 1, _, _, d, i, n, ks =>
    if wordT L i = [44] then match exF f 0 2 d (i + 1) n ks with
      | none => none
      | some (.error x) => some (.error x)
      | some (.ok (m, _, j)) => exF f 5 0 d j n (ks ++ [m])
    else if wordT L i = [41] then some (.ok (n, ks, i + 1))
    else some (.error (2, i))
end
end
section
open Go.RowKit Go.Shelf

/-- A node's values. -/
structure Nv where
  kind : Int
  tok : Int
  a : Option Addr
  n : Nat
  c : Nat
/-- Its kids. -/
abbrev Nv.kv (v : Nv) : Value := .slice v.a v.n v.c
def encN (v : Nv) : List Value := [.int .i64 v.kind, .int .i64 v.tok, .slice v.a v.n v.c]
def aggN (v : Nv) : Value := .agg #[.int .i64 v.kind, .int .i64 v.tok, .slice v.a v.n v.c]
def cellsN (vs : List Nv) : List Value := vs.flatMap encN
theorem encN_length (v : Nv) : (encN v).length = 3 := rfl
theorem cellsN_length (vs : List Nv) : (cellsN vs).length = vs.length * 3 := by
  induction vs with
  | nil => rfl
  | cons x r ih => simp only [cellsN, List.flatMap_cons, List.length_append] at ih ⊢; rw [ih, encN_length]; simp; omega
theorem cellsN_append (vs us : List Nv) : cellsN (vs ++ us) = cellsN vs ++ cellsN us := by simp [cellsN]
theorem cellsN_one (v : Nv) : cellsN [v] = encN v := by simp [cellsN]
theorem cellsN_get (vs : List Nv) (j i : Nat) (x : Nv) (v : Value) (h : vs[j]? = some x) (hv : (encN x)[i]? = some v) : (cellsN vs)[j * 3 + i]? = some v := by
  have hi : i < 3 := by have := (List.getElem?_eq_some_iff.1 hv).1; rwa [encN_length] at this
  induction vs generalizing j with
  | nil => simp at h
  | cons y r ih =>
    cases j with
    | zero =>
      simp at h; subst h
      simp only [cellsN, List.flatMap_cons]
      rw [List.getElem?_append_left (by rw [encN_length]; omega)]
      simpa using hv
    | succ j =>
      have := ih j (by simpa using h)
      simp only [cellsN, List.flatMap_cons] at this ⊢
      rw [List.getElem?_append_right (by rw [encN_length]; omega)]
      have e1 : (j + 1) * 3 + i - (encN y).length = j * 3 + i := by rw [encN_length]; omega
      rw [e1]
      exact this
/-- What a slice of nodes holds: trees, all in blocks of which P tells. -/
inductive KidsAt (w : World) (P : Nat → Prop) : Value → List Nd → Prop where
  | mk (v : Value) (nvs : List Nv) (ks : List Nd) (hr : w.ownsRow 0 27 3 v nvs.length (cellsN nvs)) (hp : ∀ b, v.ownBlock = some b → P b) (hl : nvs.length = ks.length)
      (hk : ∀ (j : Nat) (x : Nv) (k : Nd), nvs[j]? = some x → ks[j]? = some k → x.kind = k.kind ∧ x.tok = k.tok)
      (hs : ∀ (j : Nat) (x : Nv) (k : Nd), nvs[j]? = some x → ks[j]? = some k → KidsAt w P x.kv k.kids) : KidsAt w P v ks
/-- Values that are a tree. -/
structure NdIs (w : World) (P : Nat → Prop) (x : Nv) (n : Nd) : Prop where
  kind : x.kind = n.kind
  tok : x.tok = n.tok
  kids : KidsAt w P x.kv n.kids
theorem row_same {w w' : World} {base e size n : Nat} {v : Value} {xs : List Value} (h : w.ownsRow base e size v n xs) (hb : ∀ b, v.ownBlock = some b → b < w.heap.size → w'.heap[b]? = w.heap[b]?) : w'.ownsRow base e size v n xs := by
  refine ⟨h.1, ?_⟩
  rcases h.2 with h | ⟨g, cap, cur, hv, hg, hh, r⟩
  · exact .inl h
  · exact .inr ⟨g, cap, cur, hv, hg, (hb g (by rw [hv]; rfl) (lt_of_block hh)).trans hh, r⟩
theorem KidsAt.kept {w w' : World} {P : Nat → Prop} {v : Value} {ks : List Nd} (h : KidsAt w P v ks) (hb : ∀ b, P b → b < w.heap.size → w'.heap[b]? = w.heap[b]?) : KidsAt w' P v ks := by
  induction h with
  | mk v nvs ks hr hp hl hk hs ih => exact .mk v nvs ks (row_same hr fun b e hlt => hb b (hp b e) hlt) hp hl hk ih
theorem KidsAt.mono {w : World} {P Q : Nat → Prop} {v : Value} {ks : List Nd} (h : KidsAt w P v ks) (hq : ∀ b, P b → b < w.heap.size → Q b) : KidsAt w Q v ks := by
  induction h with
  | mk v nvs ks hr hp hl hk hs ih =>
    refine .mk v nvs ks hr (fun b e => hq b (hp b e) ?_) hl hk ih
    rcases hr.2 with ⟨e1, _⟩ | ⟨g, cap, cur, e1, _, hh, _⟩
    · rw [e1] at e; cases e
    · rw [e1] at e; cases e; exact lt_of_block hh
theorem NdIs.kept {w w' : World} {P : Nat → Prop} {x : Nv} {n : Nd} (h : NdIs w P x n) (hb : ∀ b, P b → b < w.heap.size → w'.heap[b]? = w.heap[b]?) : NdIs w' P x n := ⟨h.kind, h.tok, h.kids.kept hb⟩
theorem NdIs.mono {w : World} {P Q : Nat → Prop} {x : Nv} {n : Nd} (h : NdIs w P x n) (hq : ∀ b, P b → b < w.heap.size → Q b) : NdIs w Q x n := ⟨h.kind, h.tok, h.kids.mono hq⟩
theorem KidsAt.nil {w : World} {P : Nat → Prop} : KidsAt w P (.slice none 0 0) [] :=
  .mk _ [] [] (World.ownsRow_nil _ _ _ _) (fun b h => by cases h) rfl (fun j x k h => by simp at h) (fun j x k h => by simp at h)
/-- Many of them. -/
def NdsIs (w : World) (P : Nat → Prop) (nvs : List Nv) (ks : List Nd) : Prop := nvs.length = ks.length ∧ ∀ (j : Nat) (x : Nv) (k : Nd), nvs[j]? = some x → ks[j]? = some k → NdIs w P x k
theorem NdsIs.nil {w : World} {P : Nat → Prop} : NdsIs w P [] [] := ⟨rfl, fun j x k h => by simp at h⟩
theorem NdsIs.kept {w w' : World} {P : Nat → Prop} {nvs : List Nv} {ks : List Nd} (h : NdsIs w P nvs ks) (hb : ∀ b, P b → b < w.heap.size → w'.heap[b]? = w.heap[b]?) : NdsIs w' P nvs ks := ⟨h.1, fun j x k hx hk => (h.2 j x k hx hk).kept hb⟩
theorem NdsIs.mono {w : World} {P Q : Nat → Prop} {nvs : List Nv} {ks : List Nd} (h : NdsIs w P nvs ks) (hq : ∀ b, P b → b < w.heap.size → Q b) : NdsIs w Q nvs ks := ⟨h.1, fun j x k hx hk => (h.2 j x k hx hk).mono hq⟩
theorem NdsIs.snoc {w : World} {P : Nat → Prop} {nvs : List Nv} {ks : List Nd} (h : NdsIs w P nvs ks) {x : Nv} {k : Nd} (hx : NdIs w P x k) : NdsIs w P (nvs ++ [x]) (ks ++ [k]) := by
  refine ⟨by simp [h.1], fun j y m hy hm => ?_⟩
  by_cases hj : j < nvs.length
  · rw [List.getElem?_append_left hj] at hy
    rw [List.getElem?_append_left (by rw [← h.1]; exact hj)] at hm
    exact h.2 j y m hy hm
  · rw [List.getElem?_append_right (by omega)] at hy
    rw [List.getElem?_append_right (by rw [← h.1]; omega), ← h.1] at hm
    have hz : j - nvs.length = 0 := by have := (List.getElem?_eq_some_iff.1 hy).1; simp at this; omega
    rw [hz] at hy hm
    simp at hy hm
    subst hy hm
    exact hx
theorem NdsIs.one {w : World} {P : Nat → Prop} {x : Nv} {k : Nd} (hx : NdIs w P x k) : NdsIs w P [x] [k] := (NdsIs.nil (w := w) (P := P)).snoc hx
theorem NdsIs.two {w : World} {P : Nat → Prop} {x y : Nv} {k m : Nd} (hx : NdIs w P x k) (hy : NdIs w P y m) : NdsIs w P [x, y] [k, m] := (NdsIs.one hx).snoc hy
theorem KidsAt.of_row {w : World} {P : Nat → Prop} {base : Nat} {v : Value} {nvs : List Nv} {ks : List Nd} (hr : w.ownsRow base 27 3 v nvs.length (cellsN nvs)) (h : NdsIs w P nvs ks) (hp : ∀ b, v.ownBlock = some b → P b) : KidsAt w P v ks :=
  .mk v nvs ks ⟨hr.1, hr.2.imp id fun ⟨g, cap, cur, e, _, r⟩ => ⟨g, cap, cur, e, Nat.zero_le _, r⟩⟩ hp h.1 (fun j x k hx hk => ⟨(h.2 j x k hx hk).kind, (h.2 j x k hx hk).tok⟩) (fun j x k hx hk => (h.2 j x k hx hk).kids)
theorem KidsAt.row {w : World} {P : Nat → Prop} {v : Value} {ks : List Nd} (h : KidsAt w P v ks) : ∃ nvs, w.ownsRow 0 27 3 v nvs.length (cellsN nvs) ∧ NdsIs w P nvs ks ∧ ∀ b, v.ownBlock = some b → P b := by
  cases h with
  | mk _ nvs _ hr hp hl hk hs => exact ⟨nvs, hr, ⟨hl, fun j x k hx hk' => ⟨(hk j x k hx hk').1, (hk j x k hx hk').2, hs j x k hx hk'⟩⟩, hp⟩
/-- A new row of nodes. -/
theorem new_row (w : World) (nvs : List Nv) (hl : nvs.length ≤ 1048576) : (w.alloc (.cells (cellsN nvs).toArray 27)).ownsRow w.heap.size 27 3 (.slice (some ⟨w.heap.size, 0, none⟩) nvs.length nvs.length) nvs.length (cellsN nvs) :=
  ⟨cellsN_length nvs, .inr ⟨w.heap.size, nvs.length, (cellsN nvs).toArray, rfl, Nat.le_refl _, heap_alloc_new w _, Nat.le_refl _, by unfold maxLen; omega, by simp [cellsN_length], by rw [← cellsN_length]; simp⟩⟩
theorem kids_new {w : World} {P : Nat → Prop} {nvs : List Nv} {ks : List Nd} (h : NdsIs w P nvs ks) (hl : nvs.length ≤ 1048576) {Q : Nat → Prop} (hq : ∀ b, P b → b < w.heap.size → Q b) (hn : Q w.heap.size) : KidsAt (w.alloc (.cells (cellsN nvs).toArray 27)) Q (.slice (some ⟨w.heap.size, 0, none⟩) nvs.length nvs.length) ks := by
  have hb := (Below.refl w.heap.size w).alloc (Nat.le_refl _) (.cells (cellsN nvs).toArray 27)
  exact .of_row (new_row w nvs hl) ((h.mono hq).kept fun b _ hlt => hb.block b hlt) fun b e => by cases e; exact hn

/-- The cells of a reader. -/
abbrev boxR (la : Option Addr) (n lc : Nat) (i : Nat) (vn : Value) (d : Nat) : Obj := .cells #[.slice la n lc, .int .i64 (i : Int), vn, .int .i64 (d : Int)] 53
/-- A reader: its tokens, where it is, how deep; the names' slice is vn. -/
structure CrAt (w : World) (r : Nat) (la : Option Addr) (lc : Nat) (L : List Tk) (i : Nat) (vn : Value) (d : Nat) : Prop where
  box : w.heap[r]? = some (boxR la L.length lc i vn d)
  toks : TAt w la L
  far : ∀ b off, la = some ⟨b, off, none⟩ → L ≠ [] → b ≠ r
  le : i ≤ L.length
  few : L.length ≤ 6000
  low : d ≤ 30
theorem CrAt.facts {w : World} {r : Nat} {la : Option Addr} {lc : Nat} {L : List Tk} {i : Nat} {vn : Value} {d : Nat} (h : CrAt w r la lc L i vn d) :
    (w.cell? ⟨r, 0, none⟩ = some (.slice la L.length lc) ∧ w.cell? ⟨r, 1, none⟩ = some (.int .i64 (i : Int)) ∧ w.cell? ⟨r, 2, none⟩ = some vn ∧ w.cell? ⟨r, 3, none⟩ = some (.int .i64 (d : Int))) ∧ w.frozen? ⟨r, 1, none⟩ = false ∧ w.frozen? ⟨r, 2, none⟩ = false ∧ w.frozen? ⟨r, 3, none⟩ = false := by
  have := h.box
  simp [World.cell?, World.frozen?, this]
theorem TAt.kept {X : Nat → Prop} {w w' : World} {a : Option Addr} {ts : List Tk} (h : TAt w a ts) (hk : Kept X w w') (hx : ∀ b off, a = some ⟨b, off, none⟩ → ts ≠ [] → ¬ X b) : TAt w' a ts := by
  by_cases hn : ts = []
  · exact .inl hn
  rcases h with rfl | ⟨b, off, rfl, hlt, hc⟩
  · exact .inl rfl
  · exact .inr ⟨b, off, rfl, Nat.lt_of_lt_of_le hlt hk.size, fun j x h1 i v hv => (hk.cell (p := ⟨b, _, none⟩) hlt (hx b off rfl hn)).trans (hc j x h1 i v hv)⟩
theorem CrAt.kept {w w' : World} {r : Nat} {la : Option Addr} {lc : Nat} {L : List Tk} {i : Nat} {vn : Value} {d : Nat} (h : CrAt w r la lc L i vn d) (hk : Kept (· = r) w w') {i' : Nat} {vn' : Value} {d' : Nat} (hb : w'.heap[r]? = some (boxR la L.length lc i' vn' d')) (hi : i' ≤ L.length) (hd : d' ≤ 30) : CrAt w' r la lc L i' vn' d' :=
  ⟨hb, h.toks.kept hk h.far, h.far, hi, h.few, hd⟩
theorem CrAt.below {w w' : World} {r : Nat} {la : Option Addr} {lc : Nat} {L : List Tk} {i : Nat} {vn : Value} {d : Nat} (h : CrAt w r la lc L i vn d) (hb : Below w.heap.size w w') : CrAt w' r la lc L i vn d :=
  ⟨(hb.block r (lt_of_block h.box)).trans h.box, h.toks.below hb, h.far, h.le, h.few, h.low⟩
/-- It goes to another place. -/
theorem CrAt.goes {w w' : World} {r : Nat} {la : Option Addr} {lc : Nat} {L : List Tk} {i : Nat} {vn : Value} {d : Nat} (h : CrAt w r la lc L i vn d) (hb : Below w.heap.size w w') (i' : Nat) (hi : i' ≤ L.length) : CrAt (w'.setCell ⟨r, 1, none⟩ (.int .i64 (i' : Int))) r la lc L i' vn d ∧ Kept (· = r) w (w'.setCell ⟨r, 1, none⟩ (.int .i64 (i' : Int))) := by
  have hk : Kept (· = r) w (w'.setCell ⟨r, 1, none⟩ (.int .i64 (i' : Int))) := Kept.setCell (X := (· = r)) (a := ⟨r, 1, none⟩) (kept_of_below hb) rfl _
  refine ⟨h.kept hk ?_ hi h.low, hk⟩
  have := Go.Joins.block_setCell (i := 1) (h.below hb).box (.int .i64 (i' : Int))
  simpa using this
/-- It goes deeper, or back. -/
theorem CrAt.sinks {w w' : World} {r : Nat} {la : Option Addr} {lc : Nat} {L : List Tk} {i : Nat} {vn : Value} {d : Nat} (h : CrAt w r la lc L i vn d) (hb : Below w.heap.size w w') (d' : Nat) (hd : d' ≤ 30) : CrAt (w'.setCell ⟨r, 3, none⟩ (.int .i64 (d' : Int))) r la lc L i vn d' ∧ Kept (· = r) w (w'.setCell ⟨r, 3, none⟩ (.int .i64 (d' : Int))) := by
  have hk : Kept (· = r) w (w'.setCell ⟨r, 3, none⟩ (.int .i64 (d' : Int))) := Kept.setCell (X := (· = r)) (a := ⟨r, 3, none⟩) (kept_of_below hb) rfl _
  refine ⟨h.kept hk ?_ h.le hd, hk⟩
  have := Go.Joins.block_setCell (i := 3) (h.below hb).box (.int .i64 (d' : Int))
  simpa using this
/-- What is thrown. -/
def thrownT (e : Int) (p : Int × Int) : Ending := .panicked [{ v := .iface 46 (.agg #[.int .i64 e, .int .i64 p.1, .int .i64 p.2]), recovered := false }]
end
section
open Go.RowKit Go.Shelf

set_option maxRecDepth 100000 in
set_option maxHeartbeats 1000000 in
theorem Key_any (s : ByteArray) (w : World) :
    Calls Try.prog 9 #[.string s] w fun e w' => e = .returned (.bool (keyW s.data.toList)) ∧ ∃ n, w' = w.drewN n := by
  have HE : Hid (∀ b : Bool, keyW s.toList = b → Ending.returned (.bool b) = .returned (.bool (keyW s.data.toList))) := fun b h => by rw [← h, toList_data]
  unfold keyW at HE
  go_enter Try.func9, Try.ntmps9
  go_wp2
  all_goals go_ret
  all_goals exact ⟨HE.out _ (by simp_all), 0, rfl⟩

set_option maxRecDepth 100000 in
set_option maxHeartbeats 1000000 in
theorem ahead_any (s : ByteArray) (w : World) :
    Calls Try.prog 64 #[.string s] w fun e w' => e = .returned (.bool (aheadW s.data.toList)) ∧ ∃ n, w' = w.drewN n := by
  have HE : Hid (∀ b : Bool, aheadW s.toList = b → Ending.returned (.bool b) = .returned (.bool (aheadW s.data.toList))) := fun b h => by rw [← h, toList_data]
  unfold aheadW at HE
  go_enter Try.func64, Try.ntmps64
  go_wp2
  all_goals go_ret
  all_goals exact ⟨HE.out _ (by simp_all), 0, rfl⟩

set_option maxRecDepth 100000 in
set_option maxHeartbeats 1000000 in
theorem rightOf_any (l : Nat) (hl : l ≤ 12) (w : World) :
    Calls Try.prog 58 #[.int .i64 (l : Int)] w fun e w' => e = .returned (.int .i64 (rightW l : Int)) ∧ ∃ n, w' = w.drewN n := by
  unfold rightW
  by_cases h : l = 2
  · subst h
    go_enter Try.func58, Try.ntmps58
    go_wp2
    go_ret
    exact ⟨rfl, 0, rfl⟩
  · rw [if_neg h]
    have h2 : ((l : Int) == 2) = false := by simp; omega
    go_enter Try.func58, Try.ntmps58
    go_wp2
    go_ret
    exact ⟨by go_num, 0, rfl⟩

theorem dN_heap (w : World) (g : Nat) : ∀ n, (w.drewN n).heap[g]? = w.heap[g]?
  | 0 => rfl
  | n + 1 => by exact dN_heap w g n
theorem dN_below {k : Nat} {w w' : World} (h : Below k w w') : ∀ n, Below k w (w'.drewN n)
  | 0 => h
  | n + 1 => by exact (dN_below h n).drew
theorem CrAt.draws {w : World} {r : Nat} {la : Option Addr} {lc : Nat} {L : List Tk} {i : Nat} {vn : Value} {d : Nat} (h : CrAt w r la lc L i vn d) (n : Nat) : CrAt (w.drewN n) r la lc L i vn d := h.below (dN_below (Below.refl _ _) n)
/-- The token that stands there. -/
theorem CrAt.at {w : World} {r : Nat} {la : Option Addr} {lc : Nat} {L : List Tk} {i : Nat} {vn : Value} {d : Nat} (h : CrAt w r la lc L i vn d) (j : Nat) (hj : j < L.length) : ∃ b off, la = some ⟨b, off, none⟩ ∧ b < w.heap.size ∧ b ≠ r ∧ ∀ (k : Nat) v, (encT L[j])[k]? = some v → w.cell? ⟨b, off + j * 11 + k, none⟩ = some v := by
  rcases h.toks with h0 | ⟨b, off, rfl, hb, hc⟩
  · rw [h0] at hj; simp at hj
  · exact ⟨b, off, rfl, hb, h.far b off rfl (fun e => by rw [e] at hj; simp at hj), hc j _ (List.getElem?_eq_getElem hj)⟩

set_option maxRecDepth 100000 in
set_option maxHeartbeats 1000000 in
theorem ended_any {r : Nat} {la : Option Addr} {lc : Nat} {L : List Tk} {i : Nat} {vn : Value} {d : Nat} (w : World) (h : CrAt w r la lc L i vn d) :
    Calls Try.prog 21 #[.pointer (some ⟨r, 0, none⟩)] w fun e w' => e = .returned (.bool (decide (L.length ≤ i))) ∧ ∃ n, w' = w.drewN n := by
  obtain ⟨⟨b0, b1, b2, b3⟩, _⟩ := h.facts
  have hle := h.le
  have hR := lt_of_block h.box
  clear h
  by_cases hi : L.length ≤ i
  · rw [decide_eq_true hi]
    have hin : i = L.length := by omega
    rw [hin] at b1
    clear hi hle hin
    go_enter Try.func21, Try.ntmps21
    go_wp2_with fail
    go_quiet (fail)
    go_wp2_with fail
    go_ret
    exact ⟨rfl, _, rfl⟩
  · rw [decide_eq_false hi]
    have hin : ((i : Int) == (L.length : Int)) = false := by simp; omega
    go_enter Try.func21, Try.ntmps21
    go_wp2_with fail
    go_quiet (fail)
    go_wp2_with fail
    go_ret
    exact ⟨rfl, _, rfl⟩

set_option maxRecDepth 100000 in
set_option maxHeartbeats 1000000 in
theorem kind_any {r : Nat} {la : Option Addr} {lc : Nat} {L : List Tk} {i : Nat} {vn : Value} {d : Nat} (w : World) (h : CrAt w r la lc L i vn d) :
    Calls Try.prog 35 #[.pointer (some ⟨r, 0, none⟩)] w fun e w' => e = .returned (.int .i64 (kindT L i)) ∧ ∃ n, w' = w.drewN n := by
  have HEn := hid (ended_any w h)
  obtain ⟨⟨b0, b1, b2, b3⟩, _⟩ := h.facts
  have hR := lt_of_block h.box
  by_cases hi : i < L.length
  · obtain ⟨b, off, rfl, hb, hne, hc⟩ := h.at i hi
    have c0 := hc 0 _ rfl
    simp only [Nat.add_zero] at c0
    have HK : Hid (kindT L i = L[i].kind) := by show _ = _; unfold kindT; rw [List.getElem?_eq_getElem hi]
    rw [HK.out]
    rw [decide_eq_false (by omega : ¬ L.length ≤ i)] at HEn
    generalize L[i].kind = k at c0
    clear h hc HK
    have hi2 : (i : Int) < (L.length : Int) := by omega
    have hi0 : (0 : Int) ≤ (i : Int) := by omega
    go_enter Try.func35, Try.ntmps35
    go_wp2_with (go_at_call 21; refine HEn.out.mono ?_; rintro e w1 ⟨rfl, n1, rfl⟩)
    go_quiet (fail)
    go_wp2_with fail
    go_ret
    exact ⟨rfl, _, World.drewN_drewN _ _ _⟩
  · rw [show kindT L i = 0 by unfold kindT; rw [List.getElem?_eq_none (by omega)]]
    rw [decide_eq_true (by omega : L.length ≤ i)] at HEn
    clear h
    go_enter Try.func35, Try.ntmps35
    go_wp2_with (go_at_call 21; refine HEn.out.mono ?_; rintro e w1 ⟨rfl, n1, rfl⟩)
    go_ret
    exact ⟨rfl, _, rfl⟩

/-- The word as the program has it. -/
def wrdB (L : List Tk) (i : Nat) : ByteArray := match L[i]? with
  | some t => if t.kind = 1 ∨ t.kind = 5 then t.text else ⟨#[]⟩
  | none => ⟨#[]⟩
theorem wrdB_is (L : List Tk) (i : Nat) : (wrdB L i).data.toList = wordT L i := by
  unfold wrdB wordT
  cases L[i]? with
  | none => rfl
  | some t => dsimp only; split <;> rfl

set_option maxRecDepth 100000 in
set_option maxHeartbeats 1000000 in
theorem word_any {r : Nat} {la : Option Addr} {lc : Nat} {L : List Tk} {i : Nat} {vn : Value} {d : Nat} (w : World) (h : CrAt w r la lc L i vn d) :
    Calls Try.prog 28 #[.pointer (some ⟨r, 0, none⟩)] w fun e w' => e = .returned (.string (wrdB L i)) ∧ ∃ n, w' = w.drewN n := by
  have HKi := hid (kind_any w h)
  obtain ⟨⟨b0, b1, b2, b3⟩, _⟩ := h.facts
  have hR := lt_of_block h.box
  by_cases hi : i < L.length
  · obtain ⟨b, off, rfl, hb, hne, hc⟩ := h.at i hi
    have c1 := hc 1 _ rfl
    have HK : Hid (kindT L i = L[i].kind) := by show _ = _; unfold kindT; rw [List.getElem?_eq_getElem hi]
    have HW : Hid (wrdB L i = if L[i].kind = 1 ∨ L[i].kind = 5 then L[i].text else ⟨#[]⟩) := by show _ = _; unfold wrdB; rw [List.getElem?_eq_getElem hi]
    rw [HK.out] at HKi
    rw [HW.out]
    generalize L[i].kind = k at HKi
    generalize L[i].text = tx at c1
    clear h hc HK HW
    have hi2 : (i : Int) < (L.length : Int) := by omega
    have hi0 : (0 : Int) ≤ (i : Int) := by omega
    by_cases k1 : k = 1 ∨ k = 5
    · rw [if_pos k1]
      rcases k1 with rfl | rfl
      all_goals go_enter Try.func28, Try.ntmps28
      all_goals go_wp2_with (go_at_call 35; refine HKi.out.mono ?_; rintro e w1 ⟨rfl, n1, rfl⟩)
      all_goals go_quiet (fail)
      all_goals go_wp2_with fail
      all_goals go_ret
      all_goals exact ⟨rfl, _, World.drewN_drewN _ _ _⟩
    · rw [if_neg k1]
      have e1 : (k == 1) = false := by rw [beq_eq_false_iff_ne]; exact fun h => k1 (.inl h)
      have e5 : (k == 5) = false := by rw [beq_eq_false_iff_ne]; exact fun h => k1 (.inr h)
      clear k1
      go_enter Try.func28, Try.ntmps28
      go_wp2_with (go_at_call 35; refine HKi.out.mono ?_; rintro e w1 ⟨rfl, n1, rfl⟩)
      go_ret
      exact ⟨rfl, _, rfl⟩
  · rw [show wrdB L i = ⟨#[]⟩ by unfold wrdB; rw [List.getElem?_eq_none (by omega)]]
    rw [show kindT L i = 0 by unfold kindT; rw [List.getElem?_eq_none (by omega)]] at HKi
    clear h
    go_enter Try.func28, Try.ntmps28
    go_wp2_with (go_at_call 35; refine HKi.out.mono ?_; rintro e w1 ⟨rfl, n1, rfl⟩)
    go_ret
    exact ⟨rfl, _, rfl⟩

set_option maxRecDepth 100000 in
set_option maxHeartbeats 1000000 in
theorem nameNext_any {r : Nat} {la : Option Addr} {lc : Nat} {L : List Tk} {i : Nat} {vn : Value} {d : Nat} (w : World) (h : CrAt w r la lc L i vn d) :
    Calls Try.prog 40 #[.pointer (some ⟨r, 0, none⟩)] w fun e w' => e = .returned (.bool (nameT L i)) ∧ ∃ n, w' = w.drewN n := by
  have HKi := hid (fun n => kind_any (w.drewN n) (h.draws n))
  obtain ⟨⟨b0, b1, b2, b3⟩, _⟩ := h.facts
  have hR := lt_of_block h.box
  by_cases hi : i < L.length
  · obtain ⟨b, off, rfl, hb, hne, hc⟩ := h.at i hi
    have c1 := hc 1 _ rfl
    have HK : Hid (kindT L i = L[i].kind) := by show _ = _; unfold kindT; rw [List.getElem?_eq_getElem hi]
    have HW : Hid (nameT L i = (decide (L[i].kind = 1) && !keyW L[i].text.data.toList)) := by show _ = _; unfold nameT; rw [List.getElem?_eq_getElem hi]
    rw [HK.out] at HKi
    rw [HW.out]
    generalize L[i].kind = k at HKi
    generalize L[i].text = tx at c1
    have HY := hid (fun W => Key_any tx W)
    generalize keyW tx.data.toList = kb at HY
    clear h hc HK HW
    have hi2 : (i : Int) < (L.length : Int) := by omega
    have hi0 : (0 : Int) ≤ (i : Int) := by omega
    by_cases k1 : k = 1
    · subst k1
      go_enter Try.func40, Try.ntmps40
      go_wp2_with fail
      go_quiet ((first | (go_at_call 35; exact Calls.quiet_of (HKi.out _)) | (go_at_call 9; exact Calls.quiet_of (HY.out _))))
      go_wp2_with fail
      go_ret
      exact ⟨rfl, _, rfl⟩
    · have e1 : (k == 1) = false := by rw [beq_eq_false_iff_ne]; exact k1
      rw [decide_eq_false k1]
      go_enter Try.func40, Try.ntmps40
      go_wp2_with fail
      go_quiet ((go_at_call 35; exact Calls.quiet_of (HKi.out _)))
      go_wp2_with fail
      go_ret
      exact ⟨rfl, _, rfl⟩
  · rw [show nameT L i = false by unfold nameT; rw [List.getElem?_eq_none (by omega)]]
    rw [show kindT L i = 0 by unfold kindT; rw [List.getElem?_eq_none (by omega)]] at HKi
    clear h
    go_enter Try.func40, Try.ntmps40
    go_wp2_with fail
    go_quiet ((go_at_call 35; exact Calls.quiet_of (HKi.out _)))
    go_wp2_with fail
    go_ret
    exact ⟨rfl, _, rfl⟩
end
section
open Go.RowKit Go.Shelf

theorem below_new (w : World) (o : Obj) : Below w.heap.size w (w.alloc o) := (Below.refl _ w).alloc (Nat.le_refl _) o
theorem new_at {w W : World} (hs : W.heap.size = w.heap.size) (o : Obj) : (W.alloc o).heap[w.heap.size]? = some o := by rw [← hs]; exact heap_alloc_new W o
theorem CrAt.lt {w : World} {r : Nat} {la : Option Addr} {lc : Nat} {L : List Tk} {i : Nat} {vn : Value} {d : Nat} (h : CrAt w r la lc L i vn d) : r < w.heap.size := lt_of_block h.box
/-- What only draws, wherever only was drawn. -/
theorem quiet_at {P : Program} {f : FuncId} {args : Array Value} {w : World} {v : Value} (h : ∀ n, Calls P f args (w.drewN n) fun e w' => e = .returned v ∧ ∃ m, w' = (w.drewN n).drewN m) (W : World) (hW : ∃ n, W = w.drewN n) : Calls P f args W fun e w' => e = .returned v ∧ ∃ n, w' = w.drewN n := by
  obtain ⟨n, rfl⟩ := hW
  exact Calls.quiet_of (h n)
theorem node_ret {f : Func} {k : Nat} (hr : f.results = #[.cell k 27]) {w : World} {g : Nat} {x : Nv} (hR : w.heap[g]? = some (.cells (encN x).toArray 27)) (tmps : Array Value) (hp : tmps.getD k undef = .pointer (some ⟨g, 0, none⟩)) :
    (results f tmps).run Try.prog w = .ok (aggN x) w :=
  results_cell_row hr tmps _ g 27 (encN x).toArray (0, 0) _ hp hR Try.underlying27 rfl (by kernel_rfl)

set_option maxRecDepth 100000 in
set_option maxHeartbeats 1000000 in
theorem take_any {r : Nat} {la : Option Addr} {lc : Nat} {L : List Tk} {i : Nat} {vn : Value} {d : Nat} (k : Int) (w : World) (h : CrAt w r la lc L i vn d) (hi : i < L.length) :
    Calls Try.prog 39 #[.pointer (some ⟨r, 0, none⟩), .int .i64 k] w fun e w' => e = .returned (aggN ⟨k, i, none, 0, 0⟩) ∧ CrAt w' r la lc L (i + 1) vn d ∧ Kept (· = r) w w' := by
  obtain ⟨⟨b0, b1, b2, b3⟩, q1, q2, q3⟩ := h.facts
  have HG := hid (h.goes (Below.refl _ _) (i + 1) hi)
  have hR := h.lt
  have hfew := h.few
  clear h
  have hw1 : IntKind.i64.wrap ((i : Int) + 1) = ((i + 1 : Nat) : Int) := by rw [IntKind.wrap_i64]; omega
  have hw2 : IntKind.i64.wrap (((i + 1 : Nat) : Int) - 1) = (i : Int) := by rw [IntKind.wrap_i64]; omega
  go_enter Try.func39, Try.ntmps39
  go_wp2_with fail
  refine bodyPost_ret (node_ret (x := ⟨k, i, none, 0, 0⟩) Try.results39 (g := w.heap.size) (new_at (W := w.setCell ⟨r, 1, none⟩ (.int .i64 ((i : Int) + 1))) (by simp) _) _ rfl) rfl ⟨rfl, ?_, ?_⟩
  · exact HG.out.1.below (below_new _ _)
  · exact HG.out.2.trans (kept_of_below (below_new _ _))

set_option maxRecDepth 100000 in
set_option maxHeartbeats 1000000 in
theorem fail_any {r : Nat} {la : Option Addr} {lc : Nat} {L : List Tk} {i : Nat} {vn : Value} {d : Nat} (c : Int) (w : World) (h : CrAt w r la lc L i vn d) :
    Calls Try.prog 38 #[.pointer (some ⟨r, 0, none⟩), .int .i64 c] w fun e w' => e = thrownT c (placeT L i) ∧ Below w.heap.size w w' := by
  obtain ⟨⟨b0, b1, b2, b3⟩, q1, q2, q3⟩ := h.facts
  have hR := h.lt
  have hle := h.le
  unfold thrownT
  by_cases hi : i < L.length
  · obtain ⟨b, off, rfl, hb, hne, hc⟩ := h.at i hi
    have c4 := hc 4 _ rfl
    have c5 := hc 5 _ rfl
    rw [show placeT L i = (L[i].file, L[i].lo) by unfold placeT; rw [List.getElem?_eq_getElem hi]]
    generalize L[i].file = tf at c4
    generalize L[i].lo = tl at c5
    clear h hc
    generalize L.length = n at *
    have hi2 : (i : Int) < (n : Int) := by omega
    have hi0 : (0 : Int) ≤ (i : Int) := by omega
    have HK : Hid (∀ W, Below w.heap.size w W → W.cell? ⟨r, 0, none⟩ = some (.slice (some ⟨b, off, none⟩) n lc) ∧ W.cell? ⟨r, 1, none⟩ = some (.int .i64 (i : Int)) ∧ W.cell? ⟨b, off + i * 11 + 4, none⟩ = some (.int .i64 tf) ∧ W.cell? ⟨b, off + i * 11 + 5, none⟩ = some (.int .i64 tl)) := fun W hW =>
      ⟨(hW.cell (p := ⟨r, 0, none⟩) hR).trans b0, (hW.cell (p := ⟨r, 1, none⟩) hR).trans b1, (hW.cell (p := ⟨b, _, none⟩) hb).trans c4, (hW.cell (p := ⟨b, _, none⟩) hb).trans c5⟩
    go_enter Try.func38, Try.ntmps38
    go_wp2_with fail
    go_region_held3 (fun W => W.cell? ⟨r, 0, none⟩ = some (.slice (some ⟨b, off, none⟩) n lc) ∧ W.cell? ⟨r, 1, none⟩ = some (.int .i64 (i : Int)) ∧ W.cell? ⟨b, off + i * 11 + 4, none⟩ = some (.int .i64 tf) ∧ W.cell? ⟨b, off + i * 11 + 5, none⟩ = some (.int .i64 tl))
      (exact HK.out _ (by repeat' (first | exact Below.refl _ _ | apply Below.drew | apply Below.setCell | apply Below.alloc | (simp; done))))
      (fail)
    all_goals go_wp2_with fail
    all_goals exact ⟨rfl, rfl, by repeat' (first | exact Below.refl _ _ | apply Below.drew | apply Below.setCell | apply Below.alloc | (simp; done))⟩
  · obtain rfl : i = L.length := by omega
    rcases hn : L.length with _ | n
    · have hts : L = [] := List.eq_nil_of_length_eq_zero hn
      subst hts
      rw [show placeT [] 0 = (-1, 0) from rfl]
      simp only [List.length_nil] at b0 b1
      clear h hn hi hle
      go_enter Try.func38, Try.ntmps38
      go_wp2_with fail
      exact ⟨rfl, rfl, by repeat' (first | exact Below.refl _ _ | apply Below.drew | apply Below.setCell | apply Below.alloc | (simp; done))⟩
    · obtain ⟨b, off, rfl, hb, hne, hc⟩ := h.at n (by omega)
      have c4 := hc 4 _ rfl
      have c6 := hc 6 _ rfl
      have HP : Hid (placeT L (n + 1) = ((L[n]'(by omega)).file, (L[n]'(by omega)).hi)) := by
        show _ = _
        unfold placeT
        rw [List.getElem?_eq_none (by omega)]
        have : L.getLast? = L[n]? := by rw [List.getLast?_eq_getElem?, show L.length - 1 = n by omega]
        rw [this, List.getElem?_eq_getElem (by omega)]
      rw [HP.out]
      generalize (L[n]'(by omega)).file = tf at c4
      generalize (L[n]'(by omega)).hi = th at c6
      rw [hn] at b0 b1
      have hfew := h.few
      rw [hn] at hfew
      obtain ⟨N, hN⟩ : ∃ N, n + 1 = N := ⟨_, rfl⟩
      rw [hN] at b0 b1 hfew
      have hwn : IntKind.i64.wrap ((N : Int) - 1) = (n : Int) := by rw [IntKind.wrap_i64]; omega
      have hn0 : (0 : Int) ≤ (n : Int) := by omega
      have hnN : (n : Int) < (N : Int) := by omega
      have hnN2 : n < N := by omega
      have hN0 : (0 : Int) < (N : Int) := by omega
      have HK : Hid (∀ W, Below w.heap.size w W → W.cell? ⟨r, 0, none⟩ = some (.slice (some ⟨b, off, none⟩) N lc) ∧ W.cell? ⟨r, 1, none⟩ = some (.int .i64 (N : Int)) ∧ W.cell? ⟨b, off + n * 11 + 4, none⟩ = some (.int .i64 tf) ∧ W.cell? ⟨b, off + n * 11 + 6, none⟩ = some (.int .i64 th)) := fun W hW =>
        ⟨(hW.cell (p := ⟨r, 0, none⟩) hR).trans b0, (hW.cell (p := ⟨r, 1, none⟩) hR).trans b1, (hW.cell (p := ⟨b, _, none⟩) hb).trans c4, (hW.cell (p := ⟨b, _, none⟩) hb).trans c6⟩
      clear h hc HP hn hN hi hle
      go_enter Try.func38, Try.ntmps38
      go_wp2_with fail
      go_region_held3 (fun W => W.cell? ⟨r, 0, none⟩ = some (.slice (some ⟨b, off, none⟩) N lc) ∧ W.cell? ⟨r, 1, none⟩ = some (.int .i64 (N : Int)) ∧ W.cell? ⟨b, off + n * 11 + 4, none⟩ = some (.int .i64 tf) ∧ W.cell? ⟨b, off + n * 11 + 6, none⟩ = some (.int .i64 th))
        (exact HK.out _ (by repeat' (first | exact Below.refl _ _ | apply Below.drew | apply Below.setCell | apply Below.alloc | (simp; done))))
        (fail)
      all_goals go_wp2_with fail
      all_goals exact ⟨rfl, rfl, by repeat' (first | exact Below.refl _ _ | apply Below.drew | apply Below.setCell | apply Below.alloc | (simp; done))⟩

set_option maxRecDepth 100000 in
set_option maxHeartbeats 1000000 in
theorem leave_any {r : Nat} {la : Option Addr} {lc : Nat} {L : List Tk} {i : Nat} {vn : Value} {d : Nat} (u : FrameMode) (w : World) (h : CrAt w r la lc L i vn (d + 1)) :
    CallsD Try.prog 52 #[.pointer (some ⟨r, 0, none⟩)] u w fun e u' w' => u' = u ∧ e = .returned (.tuple #[]) ∧ CrAt w' r la lc L i vn d ∧ Kept (· = r) w w' := by
  obtain ⟨⟨b0, b1, b2, b3⟩, q1, q2, q3⟩ := h.facts
  have hlow := h.low
  have HG := hid (h.sinks (Below.refl _ _) d (by omega))
  have hR := h.lt
  clear h
  have hw1 : IntKind.i64.wrap (((d + 1 : Nat) : Int) - 1) = (d : Int) := by rw [IntKind.wrap_i64]; omega
  go_enter_d Try.func52, Try.ntmps52
  go_wp2_with fail
  go_end0
  exact ⟨rfl, HG.out⟩

/-- What skip tells, and does. -/
def SkipPost (r : Nat) (la : Option Addr) (lc : Nat) (L : List Tk) (i : Nat) (vn : Value) (d : Nat) (s : List UInt8) (w : World) (e : Ending) (w' : World) : Prop :=
  if wordT L i = s then e = .returned (.bool true) ∧ CrAt w' r la lc L (i + 1) vn d ∧ Kept (· = r) w w' ∧ i < L.length else e = .returned (.bool false) ∧ ∃ n, w' = w.drewN n
theorem word_lt {L : List Tk} {i : Nat} {s : List UInt8} (h : wordT L i = s) (hs : s ≠ []) : i < L.length := by
  by_cases hi : i < L.length
  · exact hi
  · unfold wordT at h
    rw [List.getElem?_eq_none (by omega)] at h
    exact absurd h.symm hs

set_option maxRecDepth 100000 in
set_option maxHeartbeats 1000000 in
theorem skip_any {r : Nat} {la : Option Addr} {lc : Nat} {L : List Tk} {i : Nat} {vn : Value} {d : Nat} (s : ByteArray) (hs : s.data.toList ≠ []) (w : World) (h : CrAt w r la lc L i vn d) :
    Calls Try.prog 36 #[.pointer (some ⟨r, 0, none⟩), .string s] w (SkipPost r la lc L i vn d s.data.toList w) := by
  have HW := hid (word_any w h)
  unfold SkipPost
  by_cases he : wordT L i = s.data.toList
  · simp only [if_pos he]
    have hi := word_lt he hs
    have HC := hid (fun n => h.draws n)
    have HG := hid (fun n => (h.draws n).goes (Below.refl _ _) (i + 1) hi)
    have HI := hid hi
    have hwb : ((wrdB L i).toList == s.toList) = true := by rw [toList_data, toList_data, wrdB_is, he, beq_self_eq_true]
    have hwn : ((wrdB L i).toList != s.toList) = false := by simp [bne, hwb]
    have hfew := h.few
    have hw1 : IntKind.i64.wrap ((i : Int) + 1) = ((i + 1 : Nat) : Int) := by rw [IntKind.wrap_i64]; omega
    clear h he hs
    generalize wrdB L i = W0 at *
    go_enter Try.func36, Try.ntmps36
    go_wp2_with (go_at_call 28; refine HW.out.mono ?_; rintro e w1 ⟨rfl, n1, rfl⟩; obtain ⟨⟨b0, b1, b2, b3⟩, q1, q2, q3⟩ := (HC.out n1).facts; have hR := (HC.out n1).lt)
    go_ret
    exact ⟨rfl, (HG.out n1).1, (kept_of_below (dN_below (Below.refl _ _) n1)).trans (HG.out n1).2, HI.out⟩
  · simp only [if_neg he]
    have hwb : ((wrdB L i).toList == s.toList) = false := by
      rw [toList_data, toList_data, wrdB_is, beq_eq_false_iff_ne]; exact he
    have hwn : ((wrdB L i).toList != s.toList) = true := by simp [bne, hwb]
    clear h he hs
    generalize wrdB L i = W0 at *
    go_enter Try.func36, Try.ntmps36
    go_wp2_with (go_at_call 28; refine HW.out.mono ?_; rintro e w1 ⟨rfl, n1, rfl⟩)
    go_ret
    exact ⟨rfl, _, rfl⟩

/-- What must tells, or throws. -/
def MustPost (r : Nat) (la : Option Addr) (lc : Nat) (L : List Tk) (i : Nat) (vn : Value) (d : Nat) (s : List UInt8) (w : World) (e : Ending) (w' : World) : Prop :=
  if wordT L i = s then e = .returned (.tuple #[]) ∧ CrAt w' r la lc L (i + 1) vn d ∧ Kept (· = r) w w' ∧ i < L.length else e = thrownT 2 (placeT L i) ∧ Below w.heap.size w w'

set_option maxRecDepth 100000 in
set_option maxHeartbeats 1000000 in
theorem must_any {r : Nat} {la : Option Addr} {lc : Nat} {L : List Tk} {i : Nat} {vn : Value} {d : Nat} (s : ByteArray) (hs : s.data.toList ≠ []) (w : World) (h : CrAt w r la lc L i vn d) :
    Calls Try.prog 42 #[.pointer (some ⟨r, 0, none⟩), .string s] w (MustPost r la lc L i vn d s.data.toList w) := by
  have HS := hid (skip_any s hs w h)
  unfold SkipPost at HS
  unfold MustPost
  by_cases he : wordT L i = s.data.toList
  · simp only [if_pos he] at HS ⊢
    clear h he hs
    go_enter Try.func42, Try.ntmps42
    go_wp2_with (go_at_call 36; refine HS.out.mono ?_; rintro e w1 ⟨rfl, hr1⟩; have HR := hid hr1; clear hr1)
    go_end0
    exact ⟨rfl, HR.out⟩
  · simp only [if_neg he] at HS ⊢
    have HF := hid (fun n => fail_any 2 (w.drewN n) (h.draws n))
    unfold thrownT at HF ⊢
    clear h he hs
    go_enter Try.func42, Try.ntmps42
    go_wp2_with (first | (go_at_call 36; refine HS.out.mono ?_; rintro e w1 ⟨rfl, n1, rfl⟩) | (go_at_call 38; refine (HF.out _).mono ?_; rintro e w2 ⟨rfl, hb2⟩))
    exact ⟨rfl, rfl, (dN_below (Below.refl w.heap.size w) n1).trans (hb2.mono (dN_below (Below.refl w.heap.size w) n1).size)⟩

set_option maxRecDepth 100000 in
set_option maxHeartbeats 1000000 in
theorem partNext_any {r : Nat} {la : Option Addr} {lc : Nat} {L : List Tk} {i : Nat} {vn : Value} {d : Nat} (w : World) (h : CrAt w r la lc L i vn d) :
    Calls Try.prog 55 #[.pointer (some ⟨r, 0, none⟩)] w fun e w' => e = .returned (.bool (partT L i)) ∧ ∃ n, w' = w.drewN n := by
  have HK := hid (quiet_at fun n => kind_any (w.drewN n) (h.draws n))
  have HN := hid (quiet_at fun n => nameNext_any (w.drewN n) (h.draws n))
  have HW := hid (quiet_at fun n => word_any (w.drewN n) (h.draws n))
  have HA := hid (quiet_at (w := w) fun n => ahead_any (wrdB L i) (w.drewN n))
  rw [wrdB_is] at HA
  unfold partT
  have hwb : ((wrdB L i).toList == [40]) = (wordT L i == [40]) := by rw [toList_data, wrdB_is]
  clear h
  generalize kindT L i = k at *
  generalize nameT L i = nb at *
  generalize aheadW (wordT L i) = ab at *
  generalize (wordT L i == [40]) = pb at *
  generalize wrdB L i = W0 at *
  by_cases h2 : k = 2
  · subst h2
    go_enter Try.func55, Try.ntmps55
    go_wp2_with (go_at_call 35; refine (HK.out _ ⟨0, rfl⟩).mono ?_; rintro e w1 ⟨rfl, n1, rfl⟩)
    go_ret
    exact ⟨rfl, _, rfl⟩
  by_cases h3 : k = 3
  · subst h3
    go_enter Try.func55, Try.ntmps55
    go_wp2_with (go_at_call 35; refine (HK.out _ ⟨0, rfl⟩).mono ?_; rintro e w1 ⟨rfl, n1, rfl⟩)
    go_ret
    exact ⟨rfl, _, rfl⟩
  by_cases h4 : k = 4
  · subst h4
    go_enter Try.func55, Try.ntmps55
    go_wp2_with (go_at_call 35; refine (HK.out _ ⟨0, rfl⟩).mono ?_; rintro e w1 ⟨rfl, n1, rfl⟩)
    go_ret
    exact ⟨rfl, _, rfl⟩
  have e2 : (k == 2) = false := by rw [beq_eq_false_iff_ne]; exact h2
  have e3 : (k == 3) = false := by rw [beq_eq_false_iff_ne]; exact h3
  have e4 : (k == 4) = false := by rw [beq_eq_false_iff_ne]; exact h4
  clear h2 h3 h4
  rw [e2, e3, e4]
  rcases nb with _ | _
  · rcases pb with _ | _
    all_goals go_enter Try.func55, Try.ntmps55
    all_goals go_wp2_with (first | (go_at_call 35; refine (HK.out _ ⟨0, rfl⟩).mono ?_; rintro e w1 ⟨rfl, n1, rfl⟩) | (go_at_call 40; refine (HN.out _ ⟨_, rfl⟩).mono ?_; rintro e w1 ⟨rfl, n2, rfl⟩) | (go_at_call 28; refine (HW.out _ ⟨_, rfl⟩).mono ?_; rintro e w1 ⟨rfl, n3, rfl⟩) | (go_at_call 64; refine (HA.out _ ⟨_, rfl⟩).mono ?_; rintro e w1 ⟨rfl, n4, rfl⟩))
    all_goals go_ret
    all_goals exact ⟨rfl, _, rfl⟩
  · go_enter Try.func55, Try.ntmps55
    go_wp2_with (first | (go_at_call 35; refine (HK.out _ ⟨0, rfl⟩).mono ?_; rintro e w1 ⟨rfl, n1, rfl⟩) | (go_at_call 40; refine (HN.out _ ⟨_, rfl⟩).mono ?_; rintro e w1 ⟨rfl, n2, rfl⟩))
    go_ret
    exact ⟨rfl, _, rfl⟩

/-- What enter does, or throws. -/
def EnterPost (r : Nat) (la : Option Addr) (lc : Nat) (L : List Tk) (i : Nat) (vn : Value) (d : Nat) (b : Bool) (w : World) (e : Ending) (w' : World) : Prop := match stopT L b d i with
  | some x => e = thrownT x.1 (placeT L x.2) ∧ Below w.heap.size w w'
  | none => e = .returned (.tuple #[]) ∧ CrAt w' r la lc L i vn (d + 1) ∧ Kept (· = r) w w'

set_option maxRecDepth 100000 in
set_option maxHeartbeats 1000000 in
theorem enter_any {r : Nat} {la : Option Addr} {lc : Nat} {L : List Tk} {i : Nat} {vn : Value} {d : Nat} (b : Bool) (w : World) (h : CrAt w r la lc L i vn d) :
    Calls Try.prog 51 #[.pointer (some ⟨r, 0, none⟩), .bool b] w (EnterPost r la lc L i vn d b w) := by
  have HE := hid (quiet_at fun n => ended_any (w.drewN n) (h.draws n))
  have HF := hid (fun c n => fail_any c (w.drewN n) (h.draws n))
  have HB := hid (fun n => dN_below (Below.refl w.heap.size w) n)
  have hlow := h.low
  unfold EnterPost stopT
  by_cases h1 : L.length ≤ i
  · simp only [if_pos h1]
    rw [decide_eq_true h1] at HE
    unfold thrownT at HF ⊢
    clear h
    go_enter Try.func51, Try.ntmps51
    go_wp2_with (first | (go_at_call 21; refine (HE.out _ ⟨0, rfl⟩).mono ?_; rintro e w1 ⟨rfl, n1, rfl⟩) | (go_at_call 38; refine (HF.out _ _).mono ?_; rintro e w2 ⟨rfl, hb2⟩))
    exact ⟨rfl, rfl, (HB.out _).trans (hb2.mono (HB.out _).size)⟩
  rw [decide_eq_false h1] at HE
  simp only [if_neg h1]
  rcases b with _ | _
  · simp only [if_true]
    unfold thrownT at HF ⊢
    clear h
    go_enter Try.func51, Try.ntmps51
    go_wp2_with (first | (go_at_call 21; refine (HE.out _ ⟨0, rfl⟩).mono ?_; rintro e w1 ⟨rfl, n1, rfl⟩) | (go_at_call 38; refine (HF.out _ _).mono ?_; rintro e w2 ⟨rfl, hb2⟩))
    exact ⟨rfl, rfl, (HB.out _).trans (hb2.mono (HB.out _).size)⟩
  simp only [Bool.true_eq_false, if_false]
  have HC := hid (fun n => (h.draws n).facts)
  have HR := hid (fun n => (h.draws n).lt)
  by_cases h3 : d = 30
  · simp only [if_pos h3]
    unfold thrownT at HF ⊢
    subst h3
    clear h
    go_enter Try.func51, Try.ntmps51
    go_wp2_with (first | (go_at_call 21; refine (HE.out _ ⟨0, rfl⟩).mono ?_; rintro e w1 ⟨rfl, n1, rfl⟩; obtain ⟨⟨b0, b1, b2, b3⟩, q1, q2, q3⟩ := HC.out n1; have hR := HR.out n1) | (go_at_call 38; refine (HF.out _ _).mono ?_; rintro e w2 ⟨rfl, hb2⟩))
    exact ⟨rfl, rfl, (HB.out _).trans (hb2.mono (HB.out _).size)⟩
  · simp only [if_neg h3]
    have HG := hid (fun n => (h.draws n).sinks (Below.refl _ _) (d + 1) (by omega))
    have h30 : ((d : Int) == 30) = false := by simp; omega
    have hw1 : IntKind.i64.wrap ((d : Int) + 1) = ((d + 1 : Nat) : Int) := by rw [IntKind.wrap_i64]; omega
    clear h
    go_enter Try.func51, Try.ntmps51
    go_wp2_with (first | (go_at_call 21; refine (HE.out _ ⟨0, rfl⟩).mono ?_; rintro e w1 ⟨rfl, n1, rfl⟩; obtain ⟨⟨b0, b1, b2, b3⟩, q1, q2, q3⟩ := HC.out n1; have hR := HR.out n1))
    go_end0
    exact ⟨rfl, (HG.out n1).1, (kept_of_below (HB.out n1)).trans (HG.out n1).2⟩
end
section
open Go.RowKit Go.Shelf

theorem beq_no {a b : List UInt8} (h : ¬ a = b) : (a == b) = false := by rw [beq_eq_false_iff_ne]; exact h
theorem ret_level {s : ByteArray} {n : Nat} (h : levelW s.toList = n) : Ending.returned (.int .i64 (n : Int)) = .returned (.int .i64 (levelW s.data.toList : Int)) := by rw [← h, toList_data]
set_option maxRecDepth 100000 in
set_option maxHeartbeats 4000000 in
theorem levelOf_any (s : ByteArray) (w : World) :
    Calls Try.prog 57 #[.string s] w fun e w' => e = .returned (.int .i64 (levelW s.data.toList : Int)) ∧ ∃ n, w' = w.drewN n := by
  by_cases h0 : s.toList = [44]
  · have HE := hid (ret_level (n := 1) (s := s) (by rw [h0]; rfl))
    go_enter Try.func57, Try.ntmps57
    go_wp2
    go_ret
    exact ⟨HE.out, 0, rfl⟩
  have n0 := beq_no h0
  by_cases h1 : s.toList = [61]
  · have HE := hid (ret_level (n := 2) (s := s) (by rw [h1]; rfl))
    go_enter Try.func57, Try.ntmps57
    go_wp2
    go_ret
    exact ⟨HE.out, 0, rfl⟩
  have n1 := beq_no h1
  by_cases h2 : s.toList = [43, 61]
  · have HE := hid (ret_level (n := 2) (s := s) (by rw [h2]; rfl))
    go_enter Try.func57, Try.ntmps57
    go_wp2
    go_ret
    exact ⟨HE.out, 0, rfl⟩
  have n2 := beq_no h2
  by_cases h3 : s.toList = [45, 61]
  · have HE := hid (ret_level (n := 2) (s := s) (by rw [h3]; rfl))
    go_enter Try.func57, Try.ntmps57
    go_wp2
    go_ret
    exact ⟨HE.out, 0, rfl⟩
  have n3 := beq_no h3
  by_cases h4 : s.toList = [42, 61]
  · have HE := hid (ret_level (n := 2) (s := s) (by rw [h4]; rfl))
    go_enter Try.func57, Try.ntmps57
    go_wp2
    go_ret
    exact ⟨HE.out, 0, rfl⟩
  have n4 := beq_no h4
  by_cases h5 : s.toList = [47, 61]
  · have HE := hid (ret_level (n := 2) (s := s) (by rw [h5]; rfl))
    go_enter Try.func57, Try.ntmps57
    go_wp2
    go_ret
    exact ⟨HE.out, 0, rfl⟩
  have n5 := beq_no h5
  by_cases h6 : s.toList = [37, 61]
  · have HE := hid (ret_level (n := 2) (s := s) (by rw [h6]; rfl))
    go_enter Try.func57, Try.ntmps57
    go_wp2
    go_ret
    exact ⟨HE.out, 0, rfl⟩
  have n6 := beq_no h6
  by_cases h7 : s.toList = [38, 61]
  · have HE := hid (ret_level (n := 2) (s := s) (by rw [h7]; rfl))
    go_enter Try.func57, Try.ntmps57
    go_wp2
    go_ret
    exact ⟨HE.out, 0, rfl⟩
  have n7 := beq_no h7
  by_cases h8 : s.toList = [124, 61]
  · have HE := hid (ret_level (n := 2) (s := s) (by rw [h8]; rfl))
    go_enter Try.func57, Try.ntmps57
    go_wp2
    go_ret
    exact ⟨HE.out, 0, rfl⟩
  have n8 := beq_no h8
  by_cases h9 : s.toList = [94, 61]
  · have HE := hid (ret_level (n := 2) (s := s) (by rw [h9]; rfl))
    go_enter Try.func57, Try.ntmps57
    go_wp2
    go_ret
    exact ⟨HE.out, 0, rfl⟩
  have n9 := beq_no h9
  by_cases h10 : s.toList = [60, 60, 61]
  · have HE := hid (ret_level (n := 2) (s := s) (by rw [h10]; rfl))
    go_enter Try.func57, Try.ntmps57
    go_wp2
    go_ret
    exact ⟨HE.out, 0, rfl⟩
  have n10 := beq_no h10
  by_cases h11 : s.toList = [62, 62, 61]
  · have HE := hid (ret_level (n := 2) (s := s) (by rw [h11]; rfl))
    go_enter Try.func57, Try.ntmps57
    go_wp2
    go_ret
    exact ⟨HE.out, 0, rfl⟩
  have n11 := beq_no h11
  by_cases h12 : s.toList = [124, 124]
  · have HE := hid (ret_level (n := 3) (s := s) (by rw [h12]; rfl))
    go_enter Try.func57, Try.ntmps57
    go_wp2
    go_ret
    exact ⟨HE.out, 0, rfl⟩
  have n12 := beq_no h12
  by_cases h13 : s.toList = [38, 38]
  · have HE := hid (ret_level (n := 4) (s := s) (by rw [h13]; rfl))
    go_enter Try.func57, Try.ntmps57
    go_wp2
    go_ret
    exact ⟨HE.out, 0, rfl⟩
  have n13 := beq_no h13
  by_cases h14 : s.toList = [124]
  · have HE := hid (ret_level (n := 5) (s := s) (by rw [h14]; rfl))
    go_enter Try.func57, Try.ntmps57
    go_wp2
    go_ret
    exact ⟨HE.out, 0, rfl⟩
  have n14 := beq_no h14
  by_cases h15 : s.toList = [94]
  · have HE := hid (ret_level (n := 6) (s := s) (by rw [h15]; rfl))
    go_enter Try.func57, Try.ntmps57
    go_wp2
    go_ret
    exact ⟨HE.out, 0, rfl⟩
  have n15 := beq_no h15
  by_cases h16 : s.toList = [38]
  · have HE := hid (ret_level (n := 7) (s := s) (by rw [h16]; rfl))
    go_enter Try.func57, Try.ntmps57
    go_wp2
    go_ret
    exact ⟨HE.out, 0, rfl⟩
  have n16 := beq_no h16
  by_cases h17 : s.toList = [61, 61]
  · have HE := hid (ret_level (n := 8) (s := s) (by rw [h17]; rfl))
    go_enter Try.func57, Try.ntmps57
    go_wp2
    go_ret
    exact ⟨HE.out, 0, rfl⟩
  have n17 := beq_no h17
  by_cases h18 : s.toList = [33, 61]
  · have HE := hid (ret_level (n := 8) (s := s) (by rw [h18]; rfl))
    go_enter Try.func57, Try.ntmps57
    go_wp2
    go_ret
    exact ⟨HE.out, 0, rfl⟩
  have n18 := beq_no h18
  by_cases h19 : s.toList = [60]
  · have HE := hid (ret_level (n := 9) (s := s) (by rw [h19]; rfl))
    go_enter Try.func57, Try.ntmps57
    go_wp2
    go_ret
    exact ⟨HE.out, 0, rfl⟩
  have n19 := beq_no h19
  by_cases h20 : s.toList = [62]
  · have HE := hid (ret_level (n := 9) (s := s) (by rw [h20]; rfl))
    go_enter Try.func57, Try.ntmps57
    go_wp2
    go_ret
    exact ⟨HE.out, 0, rfl⟩
  have n20 := beq_no h20
  by_cases h21 : s.toList = [60, 61]
  · have HE := hid (ret_level (n := 9) (s := s) (by rw [h21]; rfl))
    go_enter Try.func57, Try.ntmps57
    go_wp2
    go_ret
    exact ⟨HE.out, 0, rfl⟩
  have n21 := beq_no h21
  by_cases h22 : s.toList = [62, 61]
  · have HE := hid (ret_level (n := 9) (s := s) (by rw [h22]; rfl))
    go_enter Try.func57, Try.ntmps57
    go_wp2
    go_ret
    exact ⟨HE.out, 0, rfl⟩
  have n22 := beq_no h22
  by_cases h23 : s.toList = [60, 60]
  · have HE := hid (ret_level (n := 10) (s := s) (by rw [h23]; rfl))
    go_enter Try.func57, Try.ntmps57
    go_wp2
    go_ret
    exact ⟨HE.out, 0, rfl⟩
  have n23 := beq_no h23
  by_cases h24 : s.toList = [62, 62]
  · have HE := hid (ret_level (n := 10) (s := s) (by rw [h24]; rfl))
    go_enter Try.func57, Try.ntmps57
    go_wp2
    go_ret
    exact ⟨HE.out, 0, rfl⟩
  have n24 := beq_no h24
  by_cases h25 : s.toList = [43]
  · have HE := hid (ret_level (n := 11) (s := s) (by rw [h25]; rfl))
    go_enter Try.func57, Try.ntmps57
    go_wp2
    go_ret
    exact ⟨HE.out, 0, rfl⟩
  have n25 := beq_no h25
  by_cases h26 : s.toList = [45]
  · have HE := hid (ret_level (n := 11) (s := s) (by rw [h26]; rfl))
    go_enter Try.func57, Try.ntmps57
    go_wp2
    go_ret
    exact ⟨HE.out, 0, rfl⟩
  have n26 := beq_no h26
  by_cases h27 : s.toList = [42]
  · have HE := hid (ret_level (n := 12) (s := s) (by rw [h27]; rfl))
    go_enter Try.func57, Try.ntmps57
    go_wp2
    go_ret
    exact ⟨HE.out, 0, rfl⟩
  have n27 := beq_no h27
  by_cases h28 : s.toList = [47]
  · have HE := hid (ret_level (n := 12) (s := s) (by rw [h28]; rfl))
    go_enter Try.func57, Try.ntmps57
    go_wp2
    go_ret
    exact ⟨HE.out, 0, rfl⟩
  have n28 := beq_no h28
  by_cases h29 : s.toList = [37]
  · have HE := hid (ret_level (n := 12) (s := s) (by rw [h29]; rfl))
    go_enter Try.func57, Try.ntmps57
    go_wp2
    go_ret
    exact ⟨HE.out, 0, rfl⟩
  have n29 := beq_no h29
  have HE := hid (ret_level (n := 0) (s := s) (by unfold levelW; simp only [h0, h1, h2, h3, h4, h5, h6, h7, h8, h9, h10, h11, h12, h13, h14, h15, h16, h17, h18, h19, h20, h21, h22, h23, h24, h25, h26, h27, h28, h29, or_self, if_false]))
  clear h0 h1 h2 h3 h4 h5 h6 h7 h8 h9 h10 h11 h12 h13 h14 h15 h16 h17 h18 h19 h20 h21 h22 h23 h24 h25 h26 h27 h28 h29
  go_enter Try.func57, Try.ntmps57
  go_wp2
  go_ret
  exact ⟨HE.out, 0, rfl⟩
end
section
open Go.RowKit Go.Shelf

/-- leave, deferred. -/
def leaveD (r : Nat) : Deferred := { target := .fn (.func 52) #[], args := #[.pointer (some ⟨r, 0, none⟩)] }
/-- What is thrown, as a chain. -/
def chainT (e : Int) (p : Int × Int) : List PanicEntry := [{ v := .iface 46 (.agg #[.int .i64 e, .int .i64 p.1, .int .i64 p.2]), recovered := false }]
theorem thrown_chain (e : Int) (p : Int × Int) : thrownT e p = .panicked (chainT e p) := rfl
theorem settle_chain (e : Int) (p : Int × Int) : settle (.panicking (chainT e p)) = .panicking (chainT e p) := rfl

section
variable {fn : Func} {tmps : Array Value} {R : Ending → World → Prop} {r : Nat} {la : Option Addr} {lc : Nat} {L : List Tk} {i : Nat} {vn : Value} {d : Nat} {W : World}
theorem leaves_thrown (e : Int) (p : Int × Int) (hc : CrAt W r la lc L i vn (d + 1)) (hR : ∀ W', CrAt W' r la lc L i vn d → Kept (· = r) W W' → R (thrownT e p) W') : Leaves Try.prog fn tmps R [leaveD r] (.panicking (chainT e p)) W := by
  refine ⟨by simp, _, _, 52, #[.pointer (some ⟨r, 0, none⟩)], rfl, by simp [leaveD, go_sem], ?_⟩
  refine (leave_any (.panicking (chainT e p)) W hc).mono ?_
  rintro e' u' W' ⟨rfl, rfl, hc', hk'⟩
  show Leaves Try.prog fn tmps R [] (settle (.panicking (chainT e p))) W'
  rw [settle_chain]
  exact hR W' hc' hk'
theorem leaves_back (hc : CrAt W r la lc L i vn (d + 1)) (hR : ∀ W', CrAt W' r la lc L i vn d → Kept (· = r) W W' → ∃ v, (results fn tmps).run Try.prog W' = .ok v W' ∧ R (.returned v) W') : Leaves Try.prog fn tmps R [leaveD r] .returning W := by
  refine ⟨by simp, _, _, 52, #[.pointer (some ⟨r, 0, none⟩)], rfl, by simp [leaveD, go_sem], ?_⟩
  refine (leave_any .returning W hc).mono ?_
  rintro e' u' W' ⟨rfl, rfl, hc', hk'⟩
  exact hR W' hc' hk'
end
/-- What is to be shown where something is thrown: nothing is deferred yet, or leave is. -/
def postL (fn : Func) (R : Ending → World → Prop) (r : Nat) (la : Option Addr) (lc : Nat) (L : List Tk) (vn : Value) (d : Nat) : Exit → Act → World → Prop
  | .panic c, a, w => (a.defers = [] ∧ R (.panicked c) w) ∨ (a.defers = [leaveD r] ∧ ∃ e p i', c = chainT e p ∧ CrAt w r la lc L i' vn (d + 1) ∧ ∀ W', CrAt W' r la lc L i' vn d → Kept (· = r) w W' → R (thrownT e p) W')
  | e, a, w => bodyPostD Try.prog fn R e a w
theorem postL_imp {fn : Func} {R : Ending → World → Prop} {r : Nat} {la : Option Addr} {lc : Nat} {L : List Tk} {vn : Value} {d : Nat} : ∀ e a w, postL fn R r la lc L vn d e a w → bodyPostD Try.prog fn R e a w := by
  intro e a w h
  cases e with
  | panic c =>
    rcases h with ⟨hd, hr⟩ | ⟨hd, e, p, i', rfl, hc, hr⟩
    · show Leaves Try.prog fn a.tmps R a.defers (.panicking c) w
      rw [hd]
      exact hr
    · show Leaves Try.prog fn a.tmps R a.defers (.panicking (chainT e p)) w
      rw [hd]
      exact leaves_thrown e p hc hr
  | _ => exact h
end
end Go.Proofs.Ytocklchafmlfkaa
