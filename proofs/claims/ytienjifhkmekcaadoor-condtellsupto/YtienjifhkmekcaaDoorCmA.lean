/- Some texts in one. -/
import Derived.Test.YtienjifhkmekcaaDoorLxFacts
import Derived.Test.YtienjifhkmekcaaDoorSpGone
import Derived.Deep.QuietTactic
import Derived.BigQuiet
import Derived.Below
import Derived.Lib.SmallJoins
import Derived.Test.YtienjifhkmekcaaDoorLxTok
import Derived.Deep.RegionHeld3
import Derived.Test.YtienjifhkmekcaaDoorRxWord
namespace Go.Proofs.YtienjifhkmekcaaDoor
open Go.RowKit

/-- How tight a sign binds. -/
def levelL (l : List UInt8) : Int :=
  if l == [124, 124] then 1 else if l == [38, 38] then 2 else if l == [124] then 3 else if l == [94] then 4 else if l == [38] then 5
  else if l == [61, 61] || l == [33, 61] then 6 else if l == [60] || l == [62] || l == [60, 61] || l == [62, 61] then 7
  else if l == [60, 60] || l == [62, 62] then 8 else if l == [43] || l == [45] then 9 else if l == [42] || l == [47] || l == [37] then 10 else 0
/-- Whether a sign asks for its right side. -/
def asksL (l : List UInt8) (n : Int) : Bool := if l == [38, 38] then !(n == 0) else if l == [124, 124] then n == 0 else true
/-- Why a sign can't have m on its right: 3 (ErrRange), 13 (ErrZero), or 0. -/
def wrongL (l : List UInt8) (m : Int) : Int :=
  if l == [60, 60] || l == [62, 62] then (if m < 0 ∨ 63 < m then 3 else 0) else if l == [47] || l == [37] then (if m = 0 then 13 else 0) else 0
def truthI (b : Bool) : Int := if b then 1 else 0
def aheadL (l : List UInt8) (n : Int) : Int := if l == [45] then wrap64 (-n) else if l == [126] then bits .xor .i64 (-1) n else if l == [33] then truthI (n == 0) else n

theorem truth_any (b : Bool) (w : World) : Calls Tryd.prog 62 #[.bool b] w fun e w' => e = .returned (.int .i64 (truthI b)) ∧ w' = w := by
  cases b
  all_goals go_enter Tryd.func62, Tryd.ntmps62
  all_goals go_wp2
  all_goals go_ret
  all_goals exact ⟨rfl, rfl⟩

set_option maxRecDepth 100000 in
set_option maxHeartbeats 1000000 in
theorem levelOf_any (s : ByteArray) (w : World) : Calls Tryd.prog 44 #[.string s] w fun e w' => e = .returned (.int .i64 (levelL s.toList)) ∧ w' = w := by
  go_enter Tryd.func44, Tryd.ntmps44
  go_wp2
  all_goals go_ret
  all_goals exact ⟨ret_int (by simp_all [levelL]), rfl⟩

set_option maxRecDepth 100000 in
set_option maxHeartbeats 1000000 in
theorem asks_any (s : ByteArray) (n : Int) (w : World) : Calls Tryd.prog 45 #[.string s, .int .i64 n] w fun e w' => e = .returned (.bool (asksL s.toList n)) ∧ w' = w := by
  go_enter Tryd.func45, Tryd.ntmps45
  go_wp2
  all_goals go_ret
  all_goals exact ⟨ret_bool (by simp_all [asksL, bne]), rfl⟩

set_option maxRecDepth 100000 in
set_option maxHeartbeats 1000000 in
theorem wrong_any (s : ByteArray) (m : Int) (w : World) : Calls Tryd.prog 46 #[.string s, .int .i64 m] w fun e w' => e = .returned (.int .i64 (wrongL s.toList m)) ∧ w' = w := by
  go_enter Tryd.func46, Tryd.ntmps46
  go_wp2
  all_goals go_ret
  all_goals exact ⟨ret_int (by simp_all [wrongL]), rfl⟩

set_option maxRecDepth 100000 in
set_option maxHeartbeats 1000000 in
theorem ahead_any (s : ByteArray) (n : Int) (w : World) : Calls Tryd.prog 71 #[.string s, .int .i64 n] w fun e w' => e = .returned (.int .i64 (aheadL s.toList n)) ∧ w' = w := by
  have HT := hid (fun b w => truth_any b w)
  go_enter Tryd.func71, Tryd.ntmps71
  go_wp2_with (go_at_call 62; refine (HT.out _ _).mono ?_; rintro e w' ⟨rfl, hww⟩; subst w')
  all_goals go_ret
  all_goals exact ⟨ret_int (by simp_all [aheadL]), rfl⟩

/-- What a sign makes of two numbers that it can have. -/
def bitsL (l : List UInt8) (n m : Int) : Int :=
  if l == [124] then bits .or .i64 n m else if l == [94] then bits .xor .i64 n m else if l == [38] then bits .and .i64 n m
  else if l == [60, 60] then wrap64 (n * 2 ^ m.toNat) else if l == [62, 62] then n / 2 ^ m.toNat
  else if l == [43] then wrap64 (n + m) else if l == [45] then wrap64 (n - m) else if l == [42] then wrap64 (n * m) else if l == [47] then wrap64 (n.tdiv m) else n.tmod m
def reckonL (l : List UInt8) (n m : Int) : Int :=
  if l == [124, 124] then truthI (!(n == 0) || !(m == 0)) else if l == [38, 38] then truthI (!(n == 0) && !(m == 0)) else if l == [61, 61] then truthI (n == m) else if l == [33, 61] then truthI (!(n == m))
  else if l == [60] then truthI (decide (n < m)) else if l == [62] then truthI (decide (m < n)) else if l == [60, 61] then truthI (decide (n ≤ m)) else if l == [62, 61] then truthI (decide (m ≤ n))
  else bitsL l n m
def bitSigns : List (List UInt8) := [[124], [94], [38], [60, 60], [62, 62], [43], [45], [42], [47], [37]]
theorem text_of {s : ByteArray} {l : List UInt8} (h : s.toList = l) : s = ⟨l.toArray⟩ := by
  apply ByteArray.ext; apply Array.ext'; rw [← toList_data, h]

set_option maxRecDepth 100000 in
set_option maxHeartbeats 2000000 in
theorem bits_any (s : ByteArray) (n m : Int) (w : World) (hs : s.toList ∈ bitSigns) (hw : wrongL s.toList m = 0) : Calls Tryd.prog 63 #[.string s, .int .i64 n, .int .i64 m] w fun e w' => e = .returned (.int .i64 (bitsL s.toList n m)) ∧ w' = w := by
  simp only [bitSigns, List.mem_cons, List.not_mem_nil, or_false] at hs
  rcases hs with h | h | h | h | h | h | h | h | h | h
  all_goals rw [h] at hw ⊢
  all_goals obtain rfl := text_of h
  all_goals clear h
  all_goals simp [wrongL] at hw
  all_goals go_enter Tryd.func63, Tryd.ntmps63
  all_goals go_wp2
  all_goals go_ret
  all_goals exact ⟨ret_int (by simp [bitsL]), rfl⟩
end Go.Proofs.YtienjifhkmekcaaDoor
namespace Go.Proofs.YtienjifhkmekcaaDoor
open Go.RowKit

/-- The library's two errors are errors, or none. -/
def errOk (w : World) (g : Nat) : Prop := ∃ ev, w.cell? ⟨g, 0, none⟩ = some ev ∧ (ev = .nilIface ∨ ∃ te pe, ev = .iface te pe)
def Ev (w : World) : Prop := errOk w 0 ∧ errOk w 1
theorem errOk.below {w w' : World} {g : Nat} (h : errOk w g) (hb : Below w.heap.size w w') : errOk w' g := by
  obtain ⟨ev, h1, h2⟩ := h
  exact ⟨ev, (hb.cell (p := ⟨g, 0, none⟩) (World.block_lt_of_cell? _ _ h1)).trans h1, h2⟩
theorem Ev.below {w w' : World} (h : Ev w) (hb : Below w.heap.size w w') : Ev w' := ⟨h.1.below hb, h.2.below hb⟩

theorem errOk.setBox {w : World} {g R : Nat} {a : Option Addr} {n c : Nat} {y z : Value} {T : TypeId} (h : errOk w g) (hB : w.heap[R]? = some (.cells #[.slice a n c, y, z] T)) (i : Nat) (v : Value) : errOk (w.setCell ⟨R, i, none⟩ v) g := by
  obtain ⟨ev, h1, h2⟩ := h
  have hne : g ≠ R := fun e => by
    subst e
    rw [Go.Joins.cell_of_block hB] at h1
    simp at h1
    subst h1
    rcases h2 with h | ⟨_, _, h⟩ <;> cases h
  exact ⟨ev, (World.cell?_of_block (a := ⟨g, 0, none⟩) (Below.heap_setCell _ _ _ g hne)).trans h1, h2⟩
theorem Ev.setBox {w : World} {R : Nat} {a : Option Addr} {n c : Nat} {y z : Value} {T : TypeId} (h : Ev w) (hB : w.heap[R]? = some (.cells #[.slice a n c, y, z] T)) (i : Nat) (v : Value) : Ev (w.setCell ⟨R, i, none⟩ v) := ⟨h.1.setBox hB i v, h.2.setBox hB i v⟩
end Go.Proofs.YtienjifhkmekcaaDoor
namespace Go.Proofs.YtienjifhkmekcaaDoor
open Go.RowKit Go.Shelf

theorem ret_text {a b : ByteArray} (h : a = b) : Ending.returned (.string a) = .returned (.string b) := by rw [h]

/-- The sign that stands at k, or nothing. -/
def signAt (ts : List Tk) (k : Nat) : ByteArray := match ts[k]? with
  | some t => if t.kind = 5 then t.text else ⟨#[]⟩
  | none => ⟨#[]⟩
/-- A reader in memory: its list, where it is, how deep. -/
structure CurAt (w : World) (R : Nat) (a : Option Addr) (c : Nat) (ts : List Tk) (k : Nat) (d : Int) : Prop where
  box : w.heap[R]? = some (.cells #[.slice a ts.length c, .int .i64 (k : Int), .int .i64 d] 50)
  toks : TAt w a ts
  ev : Ev w

set_option maxRecDepth 100000 in
set_option maxHeartbeats 1000000 in
theorem sign_any (R : Nat) (a : Option Addr) (c : Nat) (ts : List Tk) (k : Nat) (d : Int) (w : World) (h : CurAt w R a c ts k d) (hk : k ≤ ts.length) :
    Calls Tryd.prog 30 #[.pointer (some ⟨R, 0, none⟩)] w fun e w' => e = .returned (.string (signAt ts k)) ∧ Below w.heap.size w w' := by
  have b0 := (block_facts h.box 0).1
  have b1 := (block_facts h.box 1).1
  simp at b0 b1
  have hR := lt_of_block h.box
  by_cases hlt : k < ts.length
  · rcases h.toks with h0 | ⟨bb, off, rfl, hbb, hc⟩
    · rw [h0] at hlt; simp at hlt
    have hx : ts[k]? = some ts[k] := List.getElem?_eq_getElem hlt
    have hcx := hc k _ hx
    have HS : Hid (signAt ts k = if ts[k].kind = 5 then ts[k].text else ⟨#[]⟩) := by show _ = _; unfold signAt; rw [hx]
    generalize ts[k] = t at hcx HS
    obtain ⟨tk, tt, tsp, tfi, tf, tl, th, tn⟩ := t
    have c0 := hcx 0 _ rfl
    have c1 := hcx 1 _ rfl
    simp only [Nat.add_zero] at c0
    dsimp only at HS
    generalize signAt ts k = X at HS ⊢
    have hki : (k : Int) < (ts.length : Int) := by omega
    have hkd : decide ((k : Int) < (ts.length : Int)) = true := decide_eq_true hki
    have hk0 : (0 : Int) ≤ (k : Int) := by omega
    clear hcx hx hc h
    by_cases h5 : tk = 5
    · have HE := hid (HS.out.trans (if_pos h5))
      subst h5
      go_enter Tryd.func30, Tryd.ntmps30
      go_wp2_with fail
      go_quiet (fail)
      go_wp2_with fail
      first | (go_quiet (fail); go_wp2_with fail) | skip
      go_ret
      exact ⟨ret_text HE.out.symm, by first | exact below_drewN (below_drewN (Below.refl _ _) _) _ | exact below_drewN (Below.refl _ _) _⟩
    · have HE := hid (HS.out.trans (if_neg h5))
      have hb5 : (tk == 5) = false := by simpa using h5
      go_enter Tryd.func30, Tryd.ntmps30
      go_wp2_with fail
      go_quiet (fail)
      go_wp2_with fail
      first | (go_quiet (fail); go_wp2_with fail) | skip
      go_ret
      exact ⟨ret_text HE.out.symm, by first | exact below_drewN (below_drewN (Below.refl _ _) _) _ | exact below_drewN (Below.refl _ _) _⟩
  · have HE : Hid (signAt ts k = ⟨#[]⟩) := by show _ = _; unfold signAt; rw [List.getElem?_eq_none (by omega)]
    have hkn : ¬ ((k : Int) < (ts.length : Int)) := by omega
    have hkd : decide ((k : Int) < (ts.length : Int)) = false := decide_eq_false hkn
    clear h
    go_enter Tryd.func30, Tryd.ntmps30
    go_wp2_with fail
    go_quiet (fail)
    go_wp2_with fail
    first | (go_quiet (fail); go_wp2_with fail) | skip
    go_ret
    exact ⟨ret_text HE.out.symm, by first | exact below_drewN (below_drewN (Below.refl _ _) _) _ | exact below_drewN (Below.refl _ _) _⟩

/-- Where token i stands; behind the last one its end; -1 and 0, if there is none. -/
def placeOf (ts : List Tk) (i : Nat) : Int × Int := match ts[i]? with
  | some t => (t.file, t.lo)
  | none => match ts.getLast? with
    | some t => (t.file, t.hi)
    | none => (-1, 0)
/-- What is thrown. -/
def thrown (e f a : Int) : Ending := .panicked [{ v := .iface 45 (.agg #[.int .i64 e, .int .i64 f, .int .i64 a]), recovered := false }]

set_option maxRecDepth 100000 in
set_option maxHeartbeats 1000000 in
theorem fail_in (R : Nat) (a : Option Addr) (c : Nat) (ts : List Tk) (k : Nat) (d : Int) (e0 : Int) (i : Nat) (w : World) (h : CurAt w R a c ts k d) (hi : i < ts.length) :
    Calls Tryd.prog 17 #[.pointer (some ⟨R, 0, none⟩), .int .i64 e0, .int .i64 (i : Int)] w fun e w' => e = thrown e0 (placeOf ts i).1 (placeOf ts i).2 ∧ Below w.heap.size w w' := by
  have b0 := (block_facts h.box 0).1
  simp at b0
  have hR := lt_of_block h.box
  rcases h.toks with h0 | ⟨bb, off, rfl, hbb, hc⟩
  · rw [h0] at hi; simp at hi
  have hx : ts[i]? = some ts[i] := List.getElem?_eq_getElem hi
  have hcx := hc i _ hx
  have HP : Hid (placeOf ts i = (ts[i].file, ts[i].lo)) := by show _ = _; unfold placeOf; rw [hx]
  generalize ts[i] = t at hcx HP
  obtain ⟨tk, tt, tsp, tfi, tf, tl, th, tn⟩ := t
  have c4 := hcx 4 _ rfl
  have c5 := hcx 5 _ rfl
  rw [HP.out]
  clear hcx hx hc h HP
  have hii : (i : Int) < (ts.length : Int) := by omega
  have hi0 : (0 : Int) ≤ (i : Int) := by omega
  have HK : Hid (∀ W, Below w.heap.size w W → W.cell? ⟨R, 0, none⟩ = some (.slice (some ⟨bb, off, none⟩) ts.length c) ∧ W.cell? ⟨bb, off + i * 11 + 4, none⟩ = some (.int .i64 tf) ∧ W.cell? ⟨bb, off + i * 11 + 5, none⟩ = some (.int .i64 tl)) := fun W hW =>
    ⟨(hW.cell (p := ⟨R, 0, none⟩) hR).trans b0, (hW.cell (p := ⟨bb, _, none⟩) hbb).trans c4, (hW.cell (p := ⟨bb, _, none⟩) hbb).trans c5⟩
  unfold thrown
  go_enter Tryd.func17, Tryd.ntmps17
  go_wp2_with fail
  go_region_held3 (fun W => W.cell? ⟨R, 0, none⟩ = some (.slice (some ⟨bb, off, none⟩) ts.length c) ∧ W.cell? ⟨bb, off + i * 11 + 4, none⟩ = some (.int .i64 tf) ∧ W.cell? ⟨bb, off + i * 11 + 5, none⟩ = some (.int .i64 tl))
    (exact HK.out _ (by repeat' (first | exact Below.refl _ _ | apply Below.drew | apply Below.setCell | apply Below.alloc | (simp; done))))
    (fail)
  all_goals go_wp2_with fail
  all_goals exact ⟨rfl, rfl, by repeat' (first | exact Below.refl _ _ | apply Below.drew | apply Below.setCell | apply Below.alloc | (simp; done))⟩

set_option maxRecDepth 100000 in
set_option maxHeartbeats 1000000 in
theorem fail_end (R : Nat) (a : Option Addr) (c : Nat) (ts : List Tk) (k : Nat) (d : Int) (e0 : Int) (w : World) (h : CurAt w R a c ts k d) (hl : ts.length ≤ 3000) :
    Calls Tryd.prog 17 #[.pointer (some ⟨R, 0, none⟩), .int .i64 e0, .int .i64 (ts.length : Int)] w fun e w' => e = thrown e0 (placeOf ts ts.length).1 (placeOf ts ts.length).2 ∧ Below w.heap.size w w' := by
  have b0 := (block_facts h.box 0).1
  simp at b0
  have hR := lt_of_block h.box
  rcases hn : ts.length with _ | n
  · have hts : ts = [] := List.eq_nil_of_length_eq_zero hn
    subst hts
    rw [show placeOf [] 0 = (-1, 0) from rfl]
    unfold thrown
    simp only [List.length_nil] at b0
    clear h hn
    go_enter Tryd.func17, Tryd.ntmps17
    go_wp2_with fail
    exact ⟨rfl, rfl, by repeat' (first | exact Below.refl _ _ | apply Below.drew | apply Below.setCell | apply Below.alloc | (simp; done))⟩
  · rcases h.toks with h0 | ⟨bb, off, rfl, hbb, hc⟩
    · rw [h0] at hn; simp at hn
    have hx : ts[n]? = some (ts[n]'(by omega)) := List.getElem?_eq_getElem _
    have hcx := hc n _ hx
    have HP : Hid (placeOf ts (n + 1) = ((ts[n]'(by omega)).file, (ts[n]'(by omega)).hi)) := by
      show _ = _
      unfold placeOf
      rw [List.getElem?_eq_none (by omega)]
      have : ts.getLast? = ts[n]? := by rw [List.getLast?_eq_getElem?, show ts.length - 1 = n by omega]
      rw [this, hx]
    generalize ts[n]'(by omega) = t at hcx HP
    obtain ⟨tk, tt, tsp, tfi, tf, tl, th, tn⟩ := t
    have c4 := hcx 4 _ rfl
    have c6 := hcx 6 _ rfl
    rw [HP.out]
    rw [hn] at b0
    obtain ⟨N, hN⟩ : ∃ N, n + 1 = N := ⟨_, rfl⟩
    rw [hN] at b0 ⊢
    have hwn : IntKind.i64.wrap ((N : Int) - 1) = (n : Int) := by rw [IntKind.wrap_i64]; omega
    have hn0 : (0 : Int) ≤ (n : Int) := by omega
    have hnN : (n : Int) < (N : Int) := by omega
    have hnN2 : n < N := by omega
    have hN0 : (0 : Int) < (N : Int) := by omega
    have HK : Hid (∀ W, Below w.heap.size w W → W.cell? ⟨R, 0, none⟩ = some (.slice (some ⟨bb, off, none⟩) N c) ∧ W.cell? ⟨bb, off + n * 11 + 4, none⟩ = some (.int .i64 tf) ∧ W.cell? ⟨bb, off + n * 11 + 6, none⟩ = some (.int .i64 th)) := fun W hW =>
      ⟨(hW.cell (p := ⟨R, 0, none⟩) hR).trans b0, (hW.cell (p := ⟨bb, _, none⟩) hbb).trans c4, (hW.cell (p := ⟨bb, _, none⟩) hbb).trans c6⟩
    clear hcx hx hc h HP hn hN
    unfold thrown
    go_enter Tryd.func17, Tryd.ntmps17
    go_wp2_with fail
    go_region_held3 (fun W => W.cell? ⟨R, 0, none⟩ = some (.slice (some ⟨bb, off, none⟩) N c) ∧ W.cell? ⟨bb, off + n * 11 + 4, none⟩ = some (.int .i64 tf) ∧ W.cell? ⟨bb, off + n * 11 + 6, none⟩ = some (.int .i64 th))
      (exact HK.out _ (by repeat' (first | exact Below.refl _ _ | apply Below.drew | apply Below.setCell | apply Below.alloc | (simp; done))))
      (fail)
    all_goals go_wp2_with fail
    all_goals exact ⟨rfl, rfl, by repeat' (first | exact Below.refl _ _ | apply Below.drew | apply Below.setCell | apply Below.alloc | (simp; done))⟩
end Go.Proofs.YtienjifhkmekcaaDoor
namespace Go.Proofs.YtienjifhkmekcaaDoor
open Go.RowKit Go.Shelf

def escL (c : UInt8) : Option Int := if c = 110 then some 10 else if c = 116 then some 9 else if c = 48 then some 0 else if c = 92 ∨ c = 39 ∨ c = 34 then some (c.toNat : Int) else none
def charL (l : List UInt8) : Option Int :=
  if l.length = 3 ∧ byteAt l 1 ≠ 92 ∧ byteAt l 1 ≠ 39 then some ((byteAt l 1).toNat : Int) else if l.length = 4 ∧ byteAt l 1 = 92 then escL (byteAt l 2) else none
theorem wrap64_small (x : Int) (h1 : 0 ≤ x) (h2 : x < 9223372036854775808) : wrap64 x = x := by unfold wrap64; omega
theorem wrap64_byte (c : UInt8) : wrap64 (c.toNat : Int) = (c.toNat : Int) := wrap64_small _ (by omega) (by have := c.toNat_lt; omega)
def optV (o : Option Int) : Value := .tuple #[.int .i64 (o.getD 0), .bool o.isSome]
theorem ret_opt {k : Int} {b : Bool} {o : Option Int} (h1 : k = o.getD 0) (h2 : b = o.isSome) : Ending.returned (.tuple #[.int .i64 k, .bool b]) = .returned (optV o) := by rw [h1, h2]; rfl

set_option maxRecDepth 100000 in
set_option maxHeartbeats 1000000 in
theorem escaped_any (c : UInt8) (w : World) : Calls Tryd.prog 23 #[.int .u8 (c.toNat : Int)] w fun e w' => e = .returned (optV (escL c)) ∧ Below w.heap.size w w' := by
  have HE : Hid (escL c = if (c.toNat : Int) = 110 then some 10 else if (c.toNat : Int) = 116 then some 9 else if (c.toNat : Int) = 48 then some 0 else if (c.toNat : Int) = 92 ∨ (c.toNat : Int) = 39 ∨ (c.toNat : Int) = 34 then some (c.toNat : Int) else none) := by
    show _ = _
    unfold escL
    simp only [u8i]
    rfl
  generalize escL c = o at HE ⊢
  go_enter Tryd.func23, Tryd.ntmps23
  go_wp2
  all_goals try (go_quiet (fail); go_wp2)
  all_goals go_ret2
  all_goals exact ⟨ret_opt (by rw [HE.out]; simp_all <;> exact wrap64_small _ (by decide) (by decide)) (by rw [HE.out]; simp_all), by first | exact Below.refl _ _ | exact below_drewN (Below.refl _ _) _⟩

def allSigns : List (List UInt8) := [[124, 124], [38, 38], [61, 61], [33, 61], [60], [62], [60, 61], [62, 61]] ++ bitSigns
set_option maxRecDepth 100000 in
set_option maxHeartbeats 4000000 in
theorem reckon_any (s : ByteArray) (n m : Int) (w : World) (hs : s.toList ∈ allSigns) (hw : wrongL s.toList m = 0) : Calls Tryd.prog 47 #[.string s, .int .i64 n, .int .i64 m] w fun e w' => e = .returned (.int .i64 (reckonL s.toList n m)) ∧ w' = w := by
  have HT := hid (fun b w => truth_any b w)
  rcases List.mem_append.1 hs with h8 | h10
  · simp only [List.mem_cons, List.not_mem_nil, or_false] at h8
    clear hs hw
    rcases h8 with h | h | h | h | h | h | h | h
    all_goals rw [h]
    all_goals obtain rfl := text_of h
    all_goals clear h
    all_goals go_enter Tryd.func47, Tryd.ntmps47
    all_goals go_wp2_with (go_at_call 62; refine (HT.out _ _).mono ?_; rintro e w' ⟨rfl, hww⟩; subst w')
    all_goals go_ret
    all_goals exact ⟨ret_int (by first | (simp_all [reckonL, bne]; done) | (simp only [reckonL]; cases h1 : (n == 0) <;> cases h2 : (m == 0) <;> simp_all [truthI])), rfl⟩
  · have HB := hid (bits_any s n m w h10 hw)
    have HE : Hid (bitsL s.toList n m = reckonL s.toList n m) := by
      show _ = _
      simp only [bitSigns, List.mem_cons, List.not_mem_nil, or_false] at h10
      rcases h10 with h | h | h | h | h | h | h | h | h | h <;> (rw [h]; rfl)
    rw [HE.out] at HB
    generalize reckonL s.toList n m = R at HB ⊢
    clear HE hw hs HT
    simp only [bitSigns, List.mem_cons, List.not_mem_nil, or_false] at h10
    rcases h10 with h | h | h | h | h | h | h | h | h | h
    all_goals obtain rfl := text_of h
    all_goals clear h
    all_goals go_enter Tryd.func47, Tryd.ntmps47
    all_goals go_wp2_with (go_at_call 63; refine HB.out.mono ?_; rintro e w' ⟨rfl, hww⟩; subst w')
    all_goals go_ret
    all_goals exact ⟨rfl, rfl⟩

set_option maxRecDepth 100000 in
set_option maxHeartbeats 1000000 in
theorem Char_any (s : ByteArray) (w : World) : Calls Tryd.prog 9 #[.string s] w fun e w' => e = .returned (optV (charL s.data.toList)) ∧ Below w.heap.size w w' := by
  have HX := hid (fun c W => escaped_any c W)
  unfold optV at HX
  by_cases h3 : s.size = 3
  · have HC : Hid (charL s.data.toList = if (s[1].toNat : Int) = 92 ∨ (s[1].toNat : Int) = 39 then none else some (s[1].toNat : Int)) := by
      show _ = _
      unfold charL
      rw [size_data, ← byte_at s 1 (by omega)]
      simp only [u8i, Ne]
      by_cases h : (s[1].toNat : Int) = 92 ∨ (s[1].toNat : Int) = 39
      · rw [if_pos h, if_neg (by intro x; rcases h with h | h; exact x.2.1 h; exact x.2.2 h), if_neg (by intro x; omega)]
      · rw [if_neg h, if_pos ⟨h3, fun e => h (.inl e), fun e => h (.inr e)⟩]
    generalize charL s.data.toList = o at HC ⊢
    have hi : (s.size : Int) = 3 := by omega
    have h1 : 1 < s.size := by omega
    have h1i : (1 : Int) < (s.size : Int) := by omega
    by_cases h92 : (s[1].toNat : Int) = 92
    · have HE := hid (HC.out.trans (if_pos (.inl h92)))
      clear HX HC
      go_enter Tryd.func9, Tryd.ntmps9
      go_wp2
      go_ret2
      exact ⟨ret_opt (by rw [HE.out]; rfl) (by rw [HE.out]; rfl), Below.refl _ _⟩
    · by_cases h39 : (s[1].toNat : Int) = 39
      · have HE := hid (HC.out.trans (if_pos (.inr h39)))
        clear HX HC
        go_enter Tryd.func9, Tryd.ntmps9
        go_wp2
        go_ret2
        exact ⟨ret_opt (by rw [HE.out]; rfl) (by rw [HE.out]; rfl), Below.refl _ _⟩
      · have HE := hid (HC.out.trans (if_neg (by intro h; rcases h with h | h; exact h92 h; exact h39 h)))
        have n1 : ((s[1].toNat : Int) != 92) = true := by simpa using h92
        have n2 : ((s[1].toNat : Int) != 39) = true := by simpa using h39
        clear HX HC
        go_enter Tryd.func9, Tryd.ntmps9
        go_wp2_with fail
        go_ret2
        exact ⟨ret_opt (by rw [HE.out]; exact wrap64_byte _) (by rw [HE.out]; rfl), Below.refl _ _⟩
  · have hi3 : ((s.size : Int) == 3) = false := by simp; omega
    by_cases h4 : s.size = 4
    · have HC : Hid (charL s.data.toList = if (s[1].toNat : Int) = 92 then escL s[2] else none) := by
        show _ = _
        unfold charL
        rw [size_data, ← byte_at s 1 (by omega), ← byte_at s 2 (by omega), if_neg (fun h => h3 h.1)]
        simp only [u8i]
        by_cases h : (s[1].toNat : Int) = 92
        · rw [if_pos ⟨h4, h⟩, if_pos h]
        · rw [if_neg (fun x => h x.2), if_neg h]
      generalize charL s.data.toList = o at HC ⊢
      have hi : (s.size : Int) = 4 := by omega
      have h1 : 1 < s.size := by omega
      have h1i : (1 : Int) < (s.size : Int) := by omega
      have h2i : (2 : Int) < (s.size : Int) := by omega
      by_cases h92 : (s[1].toNat : Int) = 92
      · have HE := hid (HC.out.trans (if_pos h92))
        have HX2 := hid (HX.out s[2] w)
        rw [← HE.out] at HX2
        clear HX HC h3
        go_enter Tryd.func9, Tryd.ntmps9
        go_wp2_with (go_at_call 23; refine HX2.out.mono ?_; rintro e w' ⟨rfl, hbw⟩)
        go_ret2
        exact ⟨ret_opt rfl rfl, hbw⟩
      · have HE := hid (HC.out.trans (if_neg h92))
        have n1 : ((s[1].toNat : Int) == 92) = false := by simpa using h92
        clear HX HC h3
        go_enter Tryd.func9, Tryd.ntmps9
        go_wp2
        go_ret2
        exact ⟨ret_opt (by rw [HE.out]; rfl) (by rw [HE.out]; rfl), Below.refl _ _⟩
    · have HE : Hid (charL s.data.toList = none) := by
        show _ = _
        unfold charL
        rw [size_data, if_neg (fun h => h3 h.1), if_neg (fun h => h4 h.1)]
      have hi4 : ((s.size : Int) == 4) = false := by simp; omega
      have m3 : ¬ ((s.size : Int) = 3) := by omega
      have m4 : ¬ ((s.size : Int) = 4) := by omega
      generalize charL s.data.toList = o at HE ⊢
      clear HX h3 h4
      go_enter Tryd.func9, Tryd.ntmps9
      go_wp2
      go_ret2
      exact ⟨ret_opt (by rw [HE.out]; rfl) (by rw [HE.out]; rfl), Below.refl _ _⟩
end Go.Proofs.YtienjifhkmekcaaDoor
namespace Go.Proofs.YtienjifhkmekcaaDoor
open Go.RowKit Go.Shelf

/-- A text as a number, by the number that it tells: handed in, until Num is walked. -/
abbrev NumS := List UInt8 → Option Int
/-- A value and the token behind it, or what is wrong, and at which token. -/
abbrev Rd := (Int × Nat) ⊕ (Int × Nat)

/-- Reading from token k on, in d others: what 0: a choice, 1: signs between from a level on, 2: the same behind n, 3: what stands between signs. -/
def rdF (num : NumS) (ts : List Tk) : Nat → Nat → Int → Int → Nat → Nat → Bool → Rd
  | 0, _, _, _, k, _, _ => .inr (0, k)
  | f + 1, what, level, n, k, d, asked =>
    if what = 0 then
      match rdF num ts f 1 1 0 k d asked with
      | .inr e => .inr e
      | .inl (n, k) =>
        if (signAt ts k).toList == [63] then
          match rdF num ts f 0 0 0 (k + 1) d (asked && !(n == 0)) with
          | .inr e => .inr e
          | .inl (yes, k) =>
            if (signAt ts k).toList == [58] then
              match rdF num ts f 0 0 0 (k + 1) d (asked && n == 0) with
              | .inr e => .inr e
              | .inl (no, k) => .inl (if n == 0 then no else yes, k)
            else .inr (2, k)
        else .inl (n, k)
    else if what = 1 then
      match rdF num ts f 3 0 0 k d asked with
      | .inr e => .inr e
      | .inl (n, k) => rdF num ts f 2 level n k d asked
    else if what = 2 then
      if levelL (signAt ts k).toList < level then .inl (n, k)
      else match rdF num ts f 1 (levelL (signAt ts k).toList + 1) 0 (k + 1) d (asked && asksL (signAt ts k).toList n) with
        | .inr e => .inr e
        | .inl (m, j) =>
          if asked then
            if wrongL (signAt ts k).toList m = 0 then rdF num ts f 2 level (reckonL (signAt ts k).toList n m) j d asked
            else .inr (wrongL (signAt ts k).toList m, k)
          else rdF num ts f 2 level n j d asked
    else if d = 30 then .inr (10, k)
    else match ts[k]? with
      | none => .inr (9, k)
      | some t =>
        if t.kind = 1 then .inl (0, k + 1)
        else if t.kind = 2 then (match num t.text.data.toList with | some v => .inl (v, k + 1) | none => .inr (3, k))
        else if t.kind = 3 then (match charL t.text.data.toList with | some v => .inl (v, k + 1) | none => .inr (3, k))
        else if (signAt ts k).toList == [40] then
          match rdF num ts f 0 0 0 (k + 1) (d + 1) asked with
          | .inr e => .inr e
          | .inl (v, k) => if (signAt ts k).toList == [41] then .inl (v, k + 1) else .inr (2, k)
        else if (signAt ts k).toList == [45] || (signAt ts k).toList == [43] || (signAt ts k).toList == [126] || (signAt ts k).toList == [33] then
          match rdF num ts f 3 0 0 (k + 1) (d + 1) asked with
          | .inr e => .inr e
          | .inl (v, j) => .inl (aheadL (signAt ts k).toList v, j)
        else .inr (2, k)

/-- What the whole comes to: a value, and no fault; or 0, and which. -/
def evalL (num : NumS) (ts : List Tk) : Int × (Int × Int × Int) := match rdF num ts (12 * ts.length + 40) 0 0 0 0 0 true with
  | .inr (e, i) => (0, (e, (placeOf ts i).1, (placeOf ts i).2))
  | .inl (n, k) => if k < ts.length then (0, (2, (placeOf ts k).1, (placeOf ts k).2)) else (n, (0, -1, 0))

theorem CurAt.below {w w' : World} {R : Nat} {a : Option Addr} {c : Nat} {ts : List Tk} {k : Nat} {d : Int} (h : CurAt w R a c ts k d) (hb : Below w.heap.size w w') : CurAt w' R a c ts k d :=
  ⟨(hb.block _ (lt_of_block h.box)).trans h.box, h.toks.below hb, h.ev.below hb⟩
theorem fail_any (R : Nat) (a : Option Addr) (c : Nat) (ts : List Tk) (k : Nat) (d : Int) (e0 : Int) (i : Nat) (w : World) (h : CurAt w R a c ts k d) (hl : ts.length ≤ 3000) (hi : i ≤ ts.length) :
    Calls Tryd.prog 17 #[.pointer (some ⟨R, 0, none⟩), .int .i64 e0, .int .i64 (i : Int)] w fun e w' => e = thrown e0 (placeOf ts i).1 (placeOf ts i).2 ∧ Below w.heap.size w w' := by
  rcases Nat.lt_or_ge i ts.length with h1 | h1
  · exact fail_in R a c ts k d e0 i w h h1
  · obtain rfl : i = ts.length := by omega
    exact fail_end R a c ts k d e0 w h hl
end Go.Proofs.YtienjifhkmekcaaDoor
namespace Go.Proofs.YtienjifhkmekcaaDoor
open Go.RowKit Go.Shelf

theorem TAt.setBox {w : World} {a : Option Addr} {ts : List Tk} {R : Nat} {x y z : Value} {T : TypeId} (h : TAt w a ts) (hB : w.heap[R]? = some (.cells #[x, y, z] T)) (i : Nat) (v : Value) : TAt (w.setCell ⟨R, i, none⟩ v) a ts := by
  rcases h with rfl | ⟨b, off, rfl, hb, hc⟩
  · exact .inl rfl
  · cases ts with
    | nil => exact .inl rfl
    | cons t0 tr =>
      have hne : b ≠ R := fun e => by
        have h0 := hc 0 t0 rfl 10 _ rfl
        rw [e, Go.Joins.cell_of_block hB] at h0
        simp at h0
      have hh : (w.setCell ⟨R, i, none⟩ v).heap[b]? = w.heap[b]? := Below.heap_setCell _ _ _ _ hne
      refine .inr ⟨b, off, rfl, ?_, fun j x hx i v hv => ?_⟩
      · have : w.heap[b]? = some w.heap[b] := Array.getElem?_eq_getElem hb
        rw [← hh] at this
        exact (Array.getElem?_eq_some_iff.1 this).1
      · have := hc j x hx i v hv
        simp only [World.cell?, hh] at this ⊢
        exact this
theorem CurAt.step {w : World} {R : Nat} {a : Option Addr} {c : Nat} {ts : List Tk} {k : Nat} {d : Int} (h : CurAt w R a c ts k d) (k' : Nat) : CurAt (w.setCell ⟨R, 1, none⟩ (.int .i64 (k' : Int))) R a c ts k' d :=
  ⟨by have := Go.Joins.block_setCell (i := 1) h.box (.int .i64 (k' : Int)); simpa using this, h.toks.setBox h.box 1 _, h.ev.setBox h.box 1 _⟩
theorem CurAt.sink {w : World} {R : Nat} {a : Option Addr} {c : Nat} {ts : List Tk} {k : Nat} {d : Int} (h : CurAt w R a c ts k d) (d' : Int) : CurAt (w.setCell ⟨R, 2, none⟩ (.int .i64 d')) R a c ts k d' :=
  ⟨by have := Go.Joins.block_setCell (i := 2) h.box (.int .i64 d'); simpa using this, h.toks.setBox h.box 2 _, h.ev.setBox h.box 2 _⟩

set_option maxRecDepth 100000 in
set_option maxHeartbeats 1000000 in
theorem skip_on (R : Nat) (a : Option Addr) (c : Nat) (ts : List Tk) (k : Nat) (d : Int) (s : ByteArray) (w : World) (h : CurAt w R a c ts k d) (hl : ts.length ≤ 3000) (hk : k ≤ ts.length) (hs : ((signAt ts k).toList == s.toList) = true) :
    Calls Tryd.prog 31 #[.pointer (some ⟨R, 0, none⟩), .string s] w fun e w' => e = .returned (.tuple #[]) ∧ Kept (· = R) w w' ∧ CurAt w' R a c ts (k + 1) d := by
  have HS := hid (sign_any R a c ts k d w h hk)
  have HC := hid h
  generalize signAt ts k = X at HS hs
  clear h
  go_enter Tryd.func31, Tryd.ntmps31
  go_wp2_with fail
  refine HS.out.mono ?_
  rintro e w1 ⟨rfl, hb1⟩
  have HC1 := hid (HC.out.below hb1)
  have HK1 : Hid (Kept (· = R) w w1) := kept_of_below hb1
  have b1 := (block_facts HC1.out.box 1)
  simp at b1
  obtain ⟨b11, b12⟩ := b1
  clear HS hb1 HC
  go_wp2_with fail
  go_end0
  exact ⟨rfl, HK1.out.setCell rfl _, by have := HC1.out.step (k + 1); push_cast at this; exact this⟩

set_option maxRecDepth 100000 in
set_option maxHeartbeats 1000000 in
theorem skip_off (R : Nat) (a : Option Addr) (c : Nat) (ts : List Tk) (k : Nat) (d : Int) (s : ByteArray) (w : World) (h : CurAt w R a c ts k d) (hl : ts.length ≤ 3000) (hk : k ≤ ts.length) (hs : ((signAt ts k).toList == s.toList) = false) :
    Calls Tryd.prog 31 #[.pointer (some ⟨R, 0, none⟩), .string s] w fun e w' => e = thrown 2 (placeOf ts k).1 (placeOf ts k).2 ∧ Kept (· = R) w w' := by
  have HS := hid (sign_any R a c ts k d w h hk)
  have HC := hid h
  generalize signAt ts k = X at HS hs
  clear h
  unfold thrown
  go_enter Tryd.func31, Tryd.ntmps31
  go_wp2_with fail
  refine HS.out.mono ?_
  rintro e w1 ⟨rfl, hb1⟩
  have HC1 := hid (HC.out.below hb1)
  have HK1 : Hid (Kept (· = R) w w1) := kept_of_below hb1
  have HF := hid (fun W (hb : Below w1.heap.size w1 W) => fail_any R a c ts k d 2 k W (HC1.out.below hb) hl hk)
  unfold thrown at HF
  have b1 := (block_facts HC1.out.box 1)
  simp at b1
  obtain ⟨b11, b12⟩ := b1
  clear HS hb1 HC
  go_wp2_with fail
  refine (HF.out _ (Below.refl _ _)).mono ?_
  rintro e w2 ⟨rfl, hb2⟩
  have HK2 := hid (HK1.out.trans (kept_of_below hb2))
  clear HF hb2
  first | exact ⟨rfl, rfl, HK2.out⟩ | (go_wp2_with fail; exact ⟨rfl, rfl, HK2.out⟩)
end Go.Proofs.YtienjifhkmekcaaDoor
