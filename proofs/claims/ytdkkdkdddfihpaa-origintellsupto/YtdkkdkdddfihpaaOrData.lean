/- How files, tokens and their calls lie in memory; walks of behind, Span, Outer, stands. -/
import Derived.Test.YtdkkdkdddfihpaaOrPlain
namespace Go.Proofs.Ytdkkdkdddfihpaa
open Go.RowKit Go.Shelf

/-- A source: its path, its text. -/
abbrev Sr := ByteArray × ByteArray
def FlAt (w : World) (a : Option Addr) (fs : List Sr) : Prop :=
  fs = [] ∨ ∃ b off, a = some ⟨b, off, none⟩ ∧ b < w.heap.size ∧ ∀ (j : Nat) x, fs[j]? = some x → w.cell? ⟨b, off + j * 2, none⟩ = some (.string x.1) ∧ w.cell? ⟨b, off + j * 2 + 1, none⟩ = some (.string x.2)
theorem FlAt.below {w w' : World} {a : Option Addr} {fs : List Sr} (h : FlAt w a fs) (hb : Below w.heap.size w w') : FlAt w' a fs := by
  rcases h with rfl | ⟨b, off, rfl, hlt, hc⟩
  · exact .inl rfl
  · refine .inr ⟨b, off, rfl, Nat.lt_of_lt_of_le hlt hb.size, fun j x hx => ?_⟩
    rw [hb.cell (p := ⟨b, _, none⟩) hlt, hb.cell (p := ⟨b, _, none⟩) hlt]
    exact hc j x hx

/-- A call: its name, its file, its place. -/
structure Cl where
  name : ByteArray
  file : Int
  lo : Int
def encC (c : Cl) : List Value := [.string c.name, .int .i64 c.file, .int .i64 c.lo]
def aggC (c : Cl) : Value := .agg #[.string c.name, .int .i64 c.file, .int .i64 c.lo]
def CsAt (w : World) (a : Option Addr) (cs : List Cl) : Prop :=
  cs = [] ∨ ∃ b off, a = some ⟨b, off, none⟩ ∧ b < w.heap.size ∧ ∀ (j : Nat) x, cs[j]? = some x → ∀ (i : Nat) v, (encC x)[i]? = some v → w.cell? ⟨b, off + j * 3 + i, none⟩ = some v
theorem CsAt.below {w w' : World} {a : Option Addr} {cs : List Cl} (h : CsAt w a cs) (hb : Below w.heap.size w w') : CsAt w' a cs := by
  rcases h with rfl | ⟨b, off, rfl, hlt, hc⟩
  · exact .inl rfl
  · exact .inr ⟨b, off, rfl, Nat.lt_of_lt_of_le hlt hb.size, fun j x hx i v hv => (hb.cell (p := ⟨b, _, none⟩) hlt).trans (hc j x hx i v hv)⟩

/-- A token, with what its slices are. -/
structure Ov where
  kind : Int
  text : ByteArray
  space : Bool
  first : Bool
  file : Int
  lo : Int
  hi : Int
  line : Int
  ha : Option Addr
  hn : Nat
  hc : Nat
  ca : Option Addr
  cc : Nat
  calls : List Cl
  made : Int
def encO (t : Ov) : List Value := [.int .i64 t.kind, .string t.text, .bool t.space, .bool t.first, .int .i64 t.file, .int .i64 t.lo, .int .i64 t.hi, .int .i64 t.line, .slice t.ha t.hn t.hc, .slice t.ca t.calls.length t.cc, .int .i64 t.made]
def aggO (t : Ov) : Value := .agg #[.int .i64 t.kind, .string t.text, .bool t.space, .bool t.first, .int .i64 t.file, .int .i64 t.lo, .int .i64 t.hi, .int .i64 t.line, .slice t.ha t.hn t.hc, .slice t.ca t.calls.length t.cc, .int .i64 t.made]
def OsAt (w : World) (a : Option Addr) (ts : List Ov) : Prop :=
  ts = [] ∨ ∃ b off, a = some ⟨b, off, none⟩ ∧ b < w.heap.size ∧ ∀ (j : Nat) x, ts[j]? = some x → CsAt w x.ca x.calls ∧ ∀ (i : Nat) v, (encO x)[i]? = some v → w.cell? ⟨b, off + j * 11 + i, none⟩ = some v
theorem OsAt.below {w w' : World} {a : Option Addr} {ts : List Ov} (h : OsAt w a ts) (hb : Below w.heap.size w w') : OsAt w' a ts := by
  rcases h with rfl | ⟨b, off, rfl, hlt, hc⟩
  · exact .inl rfl
  · exact .inr ⟨b, off, rfl, Nat.lt_of_lt_of_le hlt hb.size, fun j x hx => ⟨(hc j x hx).1.below hb, fun i v hv => (hb.cell (p := ⟨b, _, none⟩) hlt).trans ((hc j x hx).2 i v hv)⟩⟩

/-- What a file has from a byte on. -/
def behindP (fs : List Sr) (file lo : Int) : Option ByteArray :=
  if 0 ≤ file ∧ 0 ≤ lo then match fs[file.toNat]? with
    | some x => if lo ≤ x.2.size then some (x.2.extract lo.toNat x.2.size) else none
    | none => none
  else none
theorem behindP_some (fs : List Sr) (k n : Nat) (x : Sr) (hx : fs[k]? = some x) (hn : n ≤ x.2.size) : behindP fs k n = some (x.2.extract n x.2.size) := by
  unfold behindP
  rw [if_pos (by omega)]
  simp [hx, hn]
theorem behindP_none (fs : List Sr) (file lo : Int) (h : file < 0 ∨ (fs.length : Int) ≤ file ∨ lo < 0) : behindP fs file lo = none := by
  unfold behindP
  split
  · have : fs[file.toNat]? = none := by rw [List.getElem?_eq_none_iff]; omega
    rw [this]
  · rfl
theorem behindP_far (fs : List Sr) (k : Nat) (lo : Int) (x : Sr) (hx : fs[k]? = some x) (hn : (x.2.size : Int) < lo) : behindP fs k lo = none := by
  unfold behindP
  split
  · simp [hx]; omega
  · rfl
theorem ret_text2 {a b : ByteArray} {x y : Bool} (h : a = b) (h2 : x = y) : Ending.returned (.tuple #[.string a, .bool x]) = .returned (.tuple #[.string b, .bool y]) := by rw [h, h2]

set_option maxHeartbeats 1000000 in
theorem behind_any (a : Option Addr) (cap : Nat) (fs : List Sr) (file lo : Int) (w : World) (hF : FlAt w a fs) :
    Calls Try.prog 12 #[.slice a fs.length cap, .int .i64 file, .int .i64 lo] w fun e w' =>
      e = .returned (.tuple #[.string ((behindP fs file lo).getD ⟨#[]⟩), .bool (behindP fs file lo).isSome]) ∧ w' = w := by
  by_cases h0 : file < 0
  · rw [behindP_none fs file lo (.inl h0)]
    clear hF
    go_enter Try.func12, Try.ntmps12
    go_wp2
    go_ret2
    exact ⟨rfl, rfl⟩
  by_cases h1 : (fs.length : Int) ≤ file
  · rw [behindP_none fs file lo (.inr (.inl h1))]
    clear hF
    go_enter Try.func12, Try.ntmps12
    go_wp2
    go_ret2
    exact ⟨rfl, rfl⟩
  by_cases h2 : lo < 0
  · rw [behindP_none fs file lo (.inr (.inr h2))]
    clear hF
    go_enter Try.func12, Try.ntmps12
    go_wp2
    go_ret2
    exact ⟨rfl, rfl⟩
  obtain ⟨k, rfl⟩ : ∃ k : Nat, file = k := ⟨file.toNat, by omega⟩
  obtain ⟨n, rfl⟩ : ∃ n : Nat, lo = n := ⟨lo.toNat, by omega⟩
  have hk : k < fs.length := by omega
  have hx : fs[k]? = some fs[k] := List.getElem?_eq_getElem hk
  rcases hF with rfl | ⟨b, off, rfl, hb, hc⟩
  · simp at hk
  have hcc := (hc k _ hx).2
  clear hc h0 h1 h2
  by_cases h3 : fs[k].2.size < n
  · rw [behindP_far fs k n _ hx (by omega)]
    clear hx
    generalize fs[k].2 = T at *
    generalize fs.length = N at *
    go_enter Try.func12, Try.ntmps12
    go_wp2
    go_ret2
    exact ⟨rfl, rfl⟩
  · rw [behindP_some fs k n _ hx (by omega)]
    clear hx
    generalize fs[k].2 = T at *
    generalize fs.length = N at *
    go_enter Try.func12, Try.ntmps12
    go_wp2
    go_ret2
    exact ⟨rfl, rfl⟩
end Go.Proofs.Ytdkkdkdddfihpaa
