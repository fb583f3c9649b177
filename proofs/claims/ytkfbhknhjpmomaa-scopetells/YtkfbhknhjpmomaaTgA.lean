/- Trees, and how tokens are read as expressions, as plain functions. · How trees, and a reader of tokens, lie in memory. · Walks of the cursor, and of what tells signs apart. · Walks of the cursor: take, skip, fail, must; partNext, enter, leave. · Walk of levelOf: a sign at a time. Made by a program of mine. · What a function that counts defers: leave; behind a return, and behind what is thrown. -/
import Derived.Test.YtkfbhknhjpmomaaLxC
import Derived.Maps.Own
import Derived.Deep.RegionHeld3
import Derived.Deep.QuietTactic
import Derived.BigQuiet
import Derived.Test.YtkfbhknhjpmomaaStepApp
import Derived.Deep.RegionHeld2
namespace Go.Proofs.Ytkfbhknhjpmomaa
section
open Go.RowKit Go.Shelf

/-- A node. -/
inductive Nd where
  | mk (kind tok : Int) (kids : List Nd)
def Nd.kind : Nd → Int | .mk k _ _ => k
def Nd.tok : Nd → Int | .mk _ t _ => t
def Nd.kids : Nd → List Nd | .mk _ _ ks => ks
/-- What is read, or what is wrong, and at which token. -/
abbrev Got (α : Type) := Except (Int × Nat) α

/-- The kind of the token that stands there. -/
def kindT (L : List Tk) (i : Nat) : Int := match L[i]? with
  | some t => t.kind
  | none => 0
/-- The text of the name or the sign that stands there. -/
def wordT (L : List Tk) (i : Nat) : List UInt8 := match L[i]? with
  | some t => if t.kind = 1 ∨ t.kind = 5 then t.text.data.toList else []
  | none => []
/-- The words of the language. -/
def keyW (s : List UInt8) : Bool :=
  s == [105, 110, 116] || s == [99, 104, 97, 114] || s == [108, 111, 110, 103] || s == [118, 111, 105, 100] || s == [116, 121, 112, 101, 100, 101, 102] || s == [105, 102] || s == [101, 108, 115, 101] || s == [119, 104, 105, 108, 101] || s == [114, 101, 116, 117, 114, 110]
/-- Whether a name stands there that is none of these. -/
def nameT (L : List Tk) (i : Nat) : Bool := match L[i]? with
  | some t => decide (t.kind = 1) && !keyW t.text.data.toList
  | none => false
/-- Where a token stands; behind the last one its end. -/
def placeT (L : List Tk) (i : Nat) : Int × Int := match L[i]? with
  | some t => (t.file, t.lo)
  | none => match L.getLast? with
    | some t => (t.file, t.hi)
    | none => (-1, 0)
/-- How tight a sign binds. -/
def levelW (s : List UInt8) : Nat :=
  if s = [44] then 1
  else if s = [61] ∨ s = [43, 61] ∨ s = [45, 61] ∨ s = [42, 61] ∨ s = [47, 61] ∨ s = [37, 61] ∨ s = [38, 61] ∨ s = [124, 61] ∨ s = [94, 61] ∨ s = [60, 60, 61] ∨ s = [62, 62, 61] then 2
  else if s = [124, 124] then 3
  else if s = [38, 38] then 4
  else if s = [124] then 5
  else if s = [94] then 6
  else if s = [38] then 7
  else if s = [61, 61] ∨ s = [33, 61] then 8
  else if s = [60] ∨ s = [62] ∨ s = [60, 61] ∨ s = [62, 61] then 9
  else if s = [60, 60] ∨ s = [62, 62] then 10
  else if s = [43] ∨ s = [45] then 11
  else if s = [42] ∨ s = [47] ∨ s = [37] then 12
  else 0
def rightW (l : Nat) : Nat := if l = 2 then l else l + 1
/-- Whether a sign may stand ahead of a part. -/
def aheadW (s : List UInt8) : Bool := s == [45] || s == [43] || s == [33] || s == [126] || s == [42] || s == [38] || s == [43, 43] || s == [45, 45]
/-- Whether a part of an expression begins there. -/
def partT (L : List Tk) (i : Nat) : Bool := (kindT L i == 2) || (kindT L i == 3) || (kindT L i == 4) || nameT L i || (wordT L i == [40]) || aheadW (wordT L i)
/-- What stands in the way of a part that counts. -/
def stopT (L : List Tk) (begins : Bool) (d i : Nat) : Option (Int × Nat) :=
  if L.length ≤ i then some (9, i) else if begins = false then some (2, i) else if d = 30 then some (10, i) else none

section
variable (L : List Tk)
/-- What is read: 0 signs between, 1 what follows a part there, 2 a part, 3 what stands behind it, 4 what stands in parentheses with commas, 5 what follows of that. fuel; what; the level; how deep; where; what is there; what is listed. -/
def exF : Nat → Nat → Nat → Nat → Nat → Nd → List Nd → Option (Got (Nd × List Nd × Nat))
  | 0, _, _, _, _, _, _ => none
  | f + 1, 0, l, d, i, n, ks => match stopT L (partT L i) d i with
    | some x => some (.error x)
    | none => match exF f 2 0 (d + 1) i n ks with
      | none => none
      | some (.error x) => some (.error x)
      | some (.ok (m, _, j)) => exF f 1 l (d + 1) j m ks
  | f + 1, 1, l, d, i, n, ks =>
    if levelW (wordT L i) < l then some (.ok (n, ks, i))
    else match exF f 0 (rightW (levelW (wordT L i))) d (i + 1) n ks with
      | none => none
      | some (.error x) => some (.error x)
      | some (.ok (m, _, j)) => exF f 1 l d j (.mk 13 (i : Int) [n, m]) ks
  | f + 1, 2, _, d, i, n, ks => match stopT L (partT L i) d i with
    | some x => some (.error x)
    | none =>
      if aheadW (wordT L i) = true then match exF f 2 0 (d + 1) (i + 1) n ks with
        | none => none
        | some (.error x) => some (.error x)
        | some (.ok (m, _, j)) => some (.ok (.mk 12 (i : Int) [m], ks, j))
      else if wordT L i = [40] then match exF f 0 1 (d + 1) (i + 1) n ks with
        | none => none
        | some (.error x) => some (.error x)
        | some (.ok (m, _, j)) => if wordT L j = [41] then exF f 3 0 (d + 1) (j + 1) m ks else some (.error (2, j))
      else if nameT L i = true then exF f 3 0 (d + 1) (i + 1) (.mk 10 (i : Int) []) ks
      else exF f 3 0 (d + 1) (i + 1) (.mk 11 (i : Int) []) ks
  | f + 1, 3, _, d, i, n, ks =>
    if wordT L i = [40] then match exF f 4 0 d (i + 1) n [] with
      | none => none
      | some (.error x) => some (.error x)
      | some (.ok (_, ms, j)) => exF f 3 0 d j (.mk 14 (-1) (n :: ms)) ks
    else if wordT L i = [91] then match exF f 0 1 d (i + 1) n ks with
      | none => none
      | some (.error x) => some (.error x)
      | some (.ok (m, _, j)) => if wordT L j = [93] then exF f 3 0 d (j + 1) (.mk 15 (-1) [n, m]) ks else some (.error (2, j))
    else some (.ok (n, ks, i))
  | f + 1, 4, _, d, i, n, ks =>
    if wordT L i = [41] then some (.ok (n, [], i + 1))
    else match exF f 0 2 d i n ks with
      | none => none
      | some (.error x) => some (.error x)
      | some (.ok (m, _, j)) => exF f 5 0 d j n [m]
  | f + 1, _, _, d, i, n, ks =>
    if wordT L i = [44] then match exF f 0 2 d (i + 1) n ks with
      | none => none
      | some (.error x) => some (.error x)
      | some (.ok (m, _, j)) => exF f 5 0 d j n (ks ++ [m])
    else if wordT L i = [41] then some (.ok (n, ks, i + 1))
    else some (.error (2, i))
end
end
section
open Go.RowKit Go.Shelf

/-- A node's values. -/
structure Nv where
  kind : Int
  tok : Int
  a : Option Addr
  n : Nat
  c : Nat
/-- Its kids. -/
abbrev Nv.kv (v : Nv) : Value := .slice v.a v.n v.c
def encN (v : Nv) : List Value := [.int .i64 v.kind, .int .i64 v.tok, .slice v.a v.n v.c]
def aggN (v : Nv) : Value := .agg #[.int .i64 v.kind, .int .i64 v.tok, .slice v.a v.n v.c]
def cellsN (vs : List Nv) : List Value := vs.flatMap encN
theorem encN_length (v : Nv) : (encN v).length = 3 := rfl
theorem cellsN_length (vs : List Nv) : (cellsN vs).length = vs.length * 3 := by
  induction vs with
  | nil => rfl
  | cons x r ih => simp only [cellsN, List.flatMap_cons, List.length_append] at ih ⊢; rw [ih, encN_length]; simp; omega
theorem cellsN_append (vs us : List Nv) : cellsN (vs ++ us) = cellsN vs ++ cellsN us := by simp [cellsN]
theorem cellsN_one (v : Nv) : cellsN [v] = encN v := by simp [cellsN]
theorem cellsN_get (vs : List Nv) (j i : Nat) (x : Nv) (v : Value) (h : vs[j]? = some x) (hv : (encN x)[i]? = some v) : (cellsN vs)[j * 3 + i]? = some v := by
  have hi : i < 3 := by have := (List.getElem?_eq_some_iff.1 hv).1; rwa [encN_length] at this
  induction vs generalizing j with
  | nil => simp at h
  | cons y r ih =>
    cases j with
    | zero =>
      simp at h; subst h
      simp only [cellsN, List.flatMap_cons]
      rw [List.getElem?_append_left (by rw [encN_length]; omega)]
      simpa using hv
    | succ j =>
      have := ih j (by simpa using h)
      simp only [cellsN, List.flatMap_cons] at this ⊢
      rw [List.getElem?_append_right (by rw [encN_length]; omega)]
      have e1 : (j + 1) * 3 + i - (encN y).length = j * 3 + i := by rw [encN_length]; omega
      rw [e1]
      exact this
/-- What a slice of nodes holds: trees, all in blocks of which P tells. -/
inductive KidsAt (w : World) (P : Nat → Prop) : Value → List Nd → Prop where
  | mk (v : Value) (nvs : List Nv) (ks : List Nd) (hr : w.ownsRow 0 26 3 v nvs.length (cellsN nvs)) (hp : ∀ b, v.ownBlock = some b → P b) (hl : nvs.length = ks.length)
      (hk : ∀ (j : Nat) (x : Nv) (k : Nd), nvs[j]? = some x → ks[j]? = some k → x.kind = k.kind ∧ x.tok = k.tok)
      (hs : ∀ (j : Nat) (x : Nv) (k : Nd), nvs[j]? = some x → ks[j]? = some k → KidsAt w P x.kv k.kids) : KidsAt w P v ks
/-- Values that are a tree. -/
structure NdIs (w : World) (P : Nat → Prop) (x : Nv) (n : Nd) : Prop where
  kind : x.kind = n.kind
  tok : x.tok = n.tok
  kids : KidsAt w P x.kv n.kids
theorem row_same {w w' : World} {base e size n : Nat} {v : Value} {xs : List Value} (h : w.ownsRow base e size v n xs) (hb : ∀ b, v.ownBlock = some b → b < w.heap.size → w'.heap[b]? = w.heap[b]?) : w'.ownsRow base e size v n xs := by
  refine ⟨h.1, ?_⟩
  rcases h.2 with h | ⟨g, cap, cur, hv, hg, hh, r⟩
  · exact .inl h
  · exact .inr ⟨g, cap, cur, hv, hg, (hb g (by rw [hv]; rfl) (lt_of_block hh)).trans hh, r⟩
theorem KidsAt.kept {w w' : World} {P : Nat → Prop} {v : Value} {ks : List Nd} (h : KidsAt w P v ks) (hb : ∀ b, P b → b < w.heap.size → w'.heap[b]? = w.heap[b]?) : KidsAt w' P v ks := by
  induction h with
  | mk v nvs ks hr hp hl hk hs ih => exact .mk v nvs ks (row_same hr fun b e hlt => hb b (hp b e) hlt) hp hl hk ih
theorem KidsAt.mono {w : World} {P Q : Nat → Prop} {v : Value} {ks : List Nd} (h : KidsAt w P v ks) (hq : ∀ b, P b → b < w.heap.size → Q b) : KidsAt w Q v ks := by
  induction h with
  | mk v nvs ks hr hp hl hk hs ih =>
    refine .mk v nvs ks hr (fun b e => hq b (hp b e) ?_) hl hk ih
    rcases hr.2 with ⟨e1, _⟩ | ⟨g, cap, cur, e1, _, hh, _⟩
    · rw [e1] at e; cases e
    · rw [e1] at e; cases e; exact lt_of_block hh
theorem NdIs.kept {w w' : World} {P : Nat → Prop} {x : Nv} {n : Nd} (h : NdIs w P x n) (hb : ∀ b, P b → b < w.heap.size → w'.heap[b]? = w.heap[b]?) : NdIs w' P x n := ⟨h.kind, h.tok, h.kids.kept hb⟩
theorem NdIs.mono {w : World} {P Q : Nat → Prop} {x : Nv} {n : Nd} (h : NdIs w P x n) (hq : ∀ b, P b → b < w.heap.size → Q b) : NdIs w Q x n := ⟨h.kind, h.tok, h.kids.mono hq⟩
theorem KidsAt.nil {w : World} {P : Nat → Prop} : KidsAt w P (.slice none 0 0) [] :=
  .mk _ [] [] (World.ownsRow_nil _ _ _ _) (fun b h => by cases h) rfl (fun j x k h => by simp at h) (fun j x k h => by simp at h)
/-- Many of them. -/
def NdsIs (w : World) (P : Nat → Prop) (nvs : List Nv) (ks : List Nd) : Prop := nvs.length = ks.length ∧ ∀ (j : Nat) (x : Nv) (k : Nd), nvs[j]? = some x → ks[j]? = some k → NdIs w P x k
theorem NdsIs.nil {w : World} {P : Nat → Prop} : NdsIs w P [] [] := ⟨rfl, fun j x k h => by simp at h⟩
theorem NdsIs.kept {w w' : World} {P : Nat → Prop} {nvs : List Nv} {ks : List Nd} (h : NdsIs w P nvs ks) (hb : ∀ b, P b → b < w.heap.size → w'.heap[b]? = w.heap[b]?) : NdsIs w' P nvs ks := ⟨h.1, fun j x k hx hk => (h.2 j x k hx hk).kept hb⟩
theorem NdsIs.mono {w : World} {P Q : Nat → Prop} {nvs : List Nv} {ks : List Nd} (h : NdsIs w P nvs ks) (hq : ∀ b, P b → b < w.heap.size → Q b) : NdsIs w Q nvs ks := ⟨h.1, fun j x k hx hk => (h.2 j x k hx hk).mono hq⟩
theorem NdsIs.snoc {w : World} {P : Nat → Prop} {nvs : List Nv} {ks : List Nd} (h : NdsIs w P nvs ks) {x : Nv} {k : Nd} (hx : NdIs w P x k) : NdsIs w P (nvs ++ [x]) (ks ++ [k]) := by
  refine ⟨by simp [h.1], fun j y m hy hm => ?_⟩
  by_cases hj : j < nvs.length
  · rw [List.getElem?_append_left hj] at hy
    rw [List.getElem?_append_left (by rw [← h.1]; exact hj)] at hm
    exact h.2 j y m hy hm
  · rw [List.getElem?_append_right (by omega)] at hy
    rw [List.getElem?_append_right (by rw [← h.1]; omega), ← h.1] at hm
    have hz : j - nvs.length = 0 := by have := (List.getElem?_eq_some_iff.1 hy).1; simp at this; omega
    rw [hz] at hy hm
    simp at hy hm
    subst hy hm
    exact hx
theorem NdsIs.one {w : World} {P : Nat → Prop} {x : Nv} {k : Nd} (hx : NdIs w P x k) : NdsIs w P [x] [k] := (NdsIs.nil (w := w) (P := P)).snoc hx
theorem NdsIs.two {w : World} {P : Nat → Prop} {x y : Nv} {k m : Nd} (hx : NdIs w P x k) (hy : NdIs w P y m) : NdsIs w P [x, y] [k, m] := (NdsIs.one hx).snoc hy
theorem KidsAt.of_row {w : World} {P : Nat → Prop} {base : Nat} {v : Value} {nvs : List Nv} {ks : List Nd} (hr : w.ownsRow base 26 3 v nvs.length (cellsN nvs)) (h : NdsIs w P nvs ks) (hp : ∀ b, v.ownBlock = some b → P b) : KidsAt w P v ks :=
  .mk v nvs ks ⟨hr.1, hr.2.imp id fun ⟨g, cap, cur, e, _, r⟩ => ⟨g, cap, cur, e, Nat.zero_le _, r⟩⟩ hp h.1 (fun j x k hx hk => ⟨(h.2 j x k hx hk).kind, (h.2 j x k hx hk).tok⟩) (fun j x k hx hk => (h.2 j x k hx hk).kids)
theorem KidsAt.row {w : World} {P : Nat → Prop} {v : Value} {ks : List Nd} (h : KidsAt w P v ks) : ∃ nvs, w.ownsRow 0 26 3 v nvs.length (cellsN nvs) ∧ NdsIs w P nvs ks ∧ ∀ b, v.ownBlock = some b → P b := by
  cases h with
  | mk _ nvs _ hr hp hl hk hs => exact ⟨nvs, hr, ⟨hl, fun j x k hx hk' => ⟨(hk j x k hx hk').1, (hk j x k hx hk').2, hs j x k hx hk'⟩⟩, hp⟩
/-- A new row of nodes. -/
theorem new_row (w : World) (nvs : List Nv) (hl : nvs.length ≤ 1048576) : (w.alloc (.cells (cellsN nvs).toArray 26)).ownsRow w.heap.size 26 3 (.slice (some ⟨w.heap.size, 0, none⟩) nvs.length nvs.length) nvs.length (cellsN nvs) :=
  ⟨cellsN_length nvs, .inr ⟨w.heap.size, nvs.length, (cellsN nvs).toArray, rfl, Nat.le_refl _, heap_alloc_new w _, Nat.le_refl _, by unfold maxLen; omega, by simp [cellsN_length], by rw [← cellsN_length]; simp⟩⟩
theorem kids_new {w : World} {P : Nat → Prop} {nvs : List Nv} {ks : List Nd} (h : NdsIs w P nvs ks) (hl : nvs.length ≤ 1048576) {Q : Nat → Prop} (hq : ∀ b, P b → b < w.heap.size → Q b) (hn : Q w.heap.size) : KidsAt (w.alloc (.cells (cellsN nvs).toArray 26)) Q (.slice (some ⟨w.heap.size, 0, none⟩) nvs.length nvs.length) ks := by
  have hb := (Below.refl w.heap.size w).alloc (Nat.le_refl _) (.cells (cellsN nvs).toArray 26)
  exact .of_row (new_row w nvs hl) ((h.mono hq).kept fun b _ hlt => hb.block b hlt) fun b e => by cases e; exact hn

theorem TAt.kept {X : Nat → Prop} {w w' : World} {a : Option Addr} {ts : List Tk} (h : TAt w a ts) (hk : Kept X w w') (hx : ∀ b off, a = some ⟨b, off, none⟩ → ts ≠ [] → ¬ X b) : TAt w' a ts := by
  by_cases hn : ts = []
  · exact .inl hn
  rcases h with rfl | ⟨b, off, rfl, hlt, hc⟩
  · exact .inl rfl
  · exact .inr ⟨b, off, rfl, Nat.lt_of_lt_of_le hlt hk.size, fun j x h1 i v hv => (hk.cell (p := ⟨b, _, none⟩) hlt (hx b off rfl hn)).trans (hc j x h1 i v hv)⟩
end
section
open Go.RowKit Go.Shelf

set_option maxRecDepth 100000 in
set_option maxHeartbeats 1000000 in
theorem Key_any (s : ByteArray) (w : World) :
    Calls Try.prog 40 #[.string s] w fun e w' => e = .returned (.bool (keyW s.data.toList)) ∧ ∃ n, w' = w.drewN n := by
  have HE : Hid (∀ b : Bool, keyW s.toList = b → Ending.returned (.bool b) = .returned (.bool (keyW s.data.toList))) := fun b h => by rw [← h, toList_data]
  unfold keyW at HE
  go_enter Try.func40, Try.ntmps40
  go_wp2
  all_goals go_ret
  all_goals exact ⟨HE.out _ (by simp_all), 0, rfl⟩

theorem dN_heap (w : World) (g : Nat) : ∀ n, (w.drewN n).heap[g]? = w.heap[g]?
  | 0 => rfl
  | n + 1 => by exact dN_heap w g n
theorem dN_below {k : Nat} {w w' : World} (h : Below k w w') : ∀ n, Below k w (w'.drewN n)
  | 0 => h
  | n + 1 => by exact (dN_below h n).drew
/-- The word as the program has it. -/
def wrdB (L : List Tk) (i : Nat) : ByteArray := match L[i]? with
  | some t => if t.kind = 1 ∨ t.kind = 5 then t.text else ⟨#[]⟩
  | none => ⟨#[]⟩
theorem wrdB_is (L : List Tk) (i : Nat) : (wrdB L i).data.toList = wordT L i := by
  unfold wrdB wordT
  cases L[i]? with
  | none => rfl
  | some t => dsimp only; split <;> rfl

end
section
open Go.RowKit Go.Shelf

theorem below_new (w : World) (o : Obj) : Below w.heap.size w (w.alloc o) := (Below.refl _ w).alloc (Nat.le_refl _) o
theorem new_at {w W : World} (hs : W.heap.size = w.heap.size) (o : Obj) : (W.alloc o).heap[w.heap.size]? = some o := by rw [← hs]; exact heap_alloc_new W o
/-- What only draws, wherever only was drawn. -/
theorem quiet_at {P : Program} {f : FuncId} {args : Array Value} {w : World} {v : Value} (h : ∀ n, Calls P f args (w.drewN n) fun e w' => e = .returned v ∧ ∃ m, w' = (w.drewN n).drewN m) (W : World) (hW : ∃ n, W = w.drewN n) : Calls P f args W fun e w' => e = .returned v ∧ ∃ n, w' = w.drewN n := by
  obtain ⟨n, rfl⟩ := hW
  exact Calls.quiet_of (h n)
theorem node_ret {f : Func} {k : Nat} (hr : f.results = #[.cell k 26]) {w : World} {g : Nat} {x : Nv} (hR : w.heap[g]? = some (.cells (encN x).toArray 26)) (tmps : Array Value) (hp : tmps.getD k undef = .pointer (some ⟨g, 0, none⟩)) :
    (results f tmps).run Try.prog w = .ok (aggN x) w :=
  results_cell_row hr tmps _ g 26 (encN x).toArray (0, 0) _ hp hR Try.underlying26 rfl (by kernel_rfl)

theorem word_lt {L : List Tk} {i : Nat} {s : List UInt8} (h : wordT L i = s) (hs : s ≠ []) : i < L.length := by
  by_cases hi : i < L.length
  · exact hi
  · unfold wordT at h
    rw [List.getElem?_eq_none (by omega)] at h
    exact absurd h.symm hs

end
section
open Go.RowKit Go.Shelf

theorem beq_no {a b : List UInt8} (h : ¬ a = b) : (a == b) = false := by rw [beq_eq_false_iff_ne]; exact h
theorem ret_level {s : ByteArray} {n : Nat} (h : levelW s.toList = n) : Ending.returned (.int .i64 (n : Int)) = .returned (.int .i64 (levelW s.data.toList : Int)) := by rw [← h, toList_data]
end
section
open Go.RowKit Go.Shelf

section
variable {fn : Func} {tmps : Array Value} {R : Ending → World → Prop} {r : Nat} {la : Option Addr} {lc : Nat} {L : List Tk} {i : Nat} {vn : Value} {d : Nat} {W : World}
end
end
end Go.Proofs.Ytkfbhknhjpmomaa
