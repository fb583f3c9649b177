/- How names lie while a tree is resolved; what is found. · The resolver's small functions: bind, fail, declare, use, within. · The resolver's small functions: fail, within, and a name made in its surroundings. · The resolver makes a name, and finds one. -/
import Derived.Test.YtkfbhknhjpmomaaScRsP
import Derived.Test.YtkfbhknhjpmomaaScMA
import Derived.Test.YtkfbhknhjpmomaaScLA
import Derived.Deep.RegionHeld3
import Derived.Test.YtkfbhknhjpmomaaLtA
namespace Go.Proofs.Ytkfbhknhjpmomaa
section
open Go.RowKit Go.Shelf Go.Maps Go.WideMaps
def frI (f : Fr) : List (List UInt8 × Int) := f.map fun p => (p.1, (p.2 : Int))
theorem frI_find (s : List UInt8) : ∀ f : Fr, (frI f).find? (fun p => p.1 == s) = (lookF f s).map (fun t => (s, (t : Int)))
  | [] => rfl
  | x :: r => by
    have ih := frI_find s r
    unfold frI at ih ⊢
    rw [List.map_cons, List.find?_cons]
    unfold lookF
    by_cases h : x.1 = s
    · rw [if_pos h]
      simp [h]
    · rw [if_neg h, show (x.1 == s) = false by simpa using h]
      exact ih
/-- A frame's map. -/
def MfAt (w : World) (mb : Nat) (f : Fr) : Prop := ∃ D, w.ownsMap Try.prog 9 (plainElem Try.prog 3) mb f.length D ∧ ScTold (frI f) D
theorem map_same {w w' : World} {b n : Nat} {D : DataW Unit} (h : w.ownsMap Try.prog 9 (plainElem Try.prog 3) b n D) (hb : w'.heap[b]? = w.heap[b]?) : w'.ownsMap Try.prog 9 (plainElem Try.prog 3) b n D := by
  obtain ⟨es, clock, h1, h2⟩ := h
  exact ⟨es, clock, hb.trans h1, h2⟩
/-- A block of cells that is none of these. -/
def CellO (w : World) (b : Nat) : Prop := ∃ c t fz, w.heap[b]? = some (.cells c t fz) ∧ t ≠ 61 ∧ t ≠ 63
theorem MfAt.same {w w' : World} {mb : Nat} {f : Fr} (h : MfAt w mb f) (hb : w'.heap[mb]? = w.heap[mb]?) : MfAt w' mb f := by
  obtain ⟨D, h1, h2⟩ := h
  exact ⟨D, map_same h1 hb, h2⟩
theorem MfAt.lt {w : World} {mb : Nat} {f : Fr} (h : MfAt w mb f) : mb < w.heap.size := by
  obtain ⟨D, h1, h2⟩ := h
  exact h1.lt
theorem MfAt.noCell {w : World} {mb : Nat} {f : Fr} (h : MfAt w mb f) (hc : CellO w mb) : False := by
  obtain ⟨D, ⟨es, cl, hm, _⟩, _⟩ := h
  obtain ⟨c, t, fz, hc, _⟩ := hc
  rw [hm] at hc
  cases hc
/-- A finder, all its blocks below B. -/
def FdAt (w : World) : Nat → List Fr → Value → Prop
  | _, [], v => v = .func (.func 21) #[] #[]
  | B, f :: fs, v => ∃ m b1 mb v', v = .func (.func 43) #[] #[.pointer (some ⟨m, 0, none⟩), .pointer (some ⟨b1, 0, none⟩)] ∧ m < B ∧ b1 < mb ∧ mb < m ∧ w.heap[m]? = some (.cells #[.map (some mb)] 61) ∧ w.heap[b1]? = some (.cells #[v'] 63) ∧ MfAt w mb f ∧ FdAt w b1 fs v'
theorem FdAt.same {w w' : World} : ∀ {fs : List Fr} {B : Nat} {v : Value}, FdAt w B fs v → (∀ b, b < B → b < w.heap.size → ¬ CellO w b → w'.heap[b]? = w.heap[b]?) → FdAt w' B fs v
  | [], B, v, h, _ => h
  | f :: fs, B, v, h, hk => by
    obtain ⟨m, b1, mb, v', h1, h2, h3, h4, h5, h6, h7, h8⟩ := h
    refine ⟨m, b1, mb, v', h1, h2, h3, h4, (hk m h2 (lt_of_block h5) ?_).trans h5, (hk b1 (by omega) (lt_of_block h6) ?_).trans h6, h7.same (hk mb (by omega) h7.lt fun hc => h7.noCell hc), h8.same fun b hb hl hc => hk b (by omega) hl hc⟩
    · rintro ⟨c, t, fz, hc, n1, n2⟩
      rw [h5] at hc
      cases hc
      exact n1 rfl
    · rintro ⟨c, t, fz, hc, n1, n2⟩
      rw [h6] at hc
      cases hc
      exact n2 rfl
theorem FdAt.mono {w : World} {fs : List Fr} {B B' : Nat} {v : Value} (h : FdAt w B fs v) (hB : B ≤ B') : FdAt w B' fs v := by
  cases fs with
  | nil => exact h
  | cons f fs =>
    obtain ⟨m, b1, mb, v', h1, h2, h3⟩ := h
    exact ⟨m, b1, mb, v', h1, by omega, h3⟩
/-- Surroundings: the innermost frame's map, and a finder. -/
def SvAt (w : World) (B : Nat) (sv : Value) (mb : Nat) (f : Fr) (fs : List Fr) : Prop := ∃ m b1 v', sv = .agg #[.map (some mb), .func (.func 43) #[] #[.pointer (some ⟨m, 0, none⟩), .pointer (some ⟨b1, 0, none⟩)]] ∧ m < B ∧ b1 < mb ∧ mb < m ∧ w.heap[m]? = some (.cells #[.map (some mb)] 61) ∧ w.heap[b1]? = some (.cells #[v'] 63) ∧ MfAt w mb f ∧ FdAt w b1 fs v'
/-- What stays, while its own map may change. -/
theorem SvAt.turn {w w' : World} {B mb : Nat} {sv : Value} {f f' : Fr} {fs : List Fr} (h : SvAt w B sv mb f fs) (hk : ∀ b, b < B → b < w.heap.size → b ≠ mb → ¬ CellO w b → w'.heap[b]? = w.heap[b]?) (hm : MfAt w' mb f') : SvAt w' B sv mb f' fs := by
  obtain ⟨m, b1, v', h1, h2, h3, h4, h5, h6, h7, h8⟩ := h
  refine ⟨m, b1, v', h1, h2, h3, h4, (hk m h2 (lt_of_block h5) (by omega) ?_).trans h5, (hk b1 (by omega) (lt_of_block h6) (by omega) ?_).trans h6, hm, h8.same fun b hb hl hc => hk b (by omega) hl (by omega) hc⟩
  · rintro ⟨c, t, fz, hc, n1, n2⟩
    rw [h5] at hc
    cases hc
    exact n1 rfl
  · rintro ⟨c, t, fz, hc, n1, n2⟩
    rw [h6] at hc
    cases hc
    exact n2 rfl
theorem mf_look {w : World} {mb : Nat} {f : Fr} (h : MfAt w mb f) (x : ByteArray) (hx : x.size ≤ maxLen) :
    (Instr.lookup 61 (.map (some mb)) (.string x) true).run Try.prog w = .ok (.tuple #[.int .i64 (((lookF f x.data.toList).getD 0 : Nat) : Int), .bool (lookF f x.data.toList).isSome]) w := by
  obtain ⟨D, ⟨es, clock, hb, F, _, rfl⟩, hT⟩ := h
  have hat2 := hT.2 x.data.toList
  rw [frI_find] at hat2
  rcases Go.Maps.fit_look true scLaw Try.underlying61 (scZero w) hb F (key_mk hx) with ⟨hrun, _, hat⟩ | ⟨e0, y, _, _, hrun, hRv, hat, _⟩
  · rcases hl : lookF f x.data.toList with _ | t
    · rw [hrun]; rfl
    · rw [hl] at hat2
      have e1 := hat (.lit (.bool true))
      rw [hat2] at e1
      cases e1
  · rcases hl : lookF f x.data.toList with _ | t
    · rw [hl] at hat2
      have e1 := hat (.lit (.bool true))
      have e2 := hat (.lit (.bool false))
      rw [hat2] at e1 e2
      dsimp only [Option.map] at e1 e2
      rw [← e1] at e2
      cases e2
    · rw [hl] at hat2
      have e1 := hat (.lit (.bool true))
      rw [hat2] at e1
      obtain ⟨a, hv, hz, _⟩ := plainElem_int_inv (H := Unit) Try.underlying3 hRv
      rw [hz] at e1
      dsimp only [Option.map] at e1
      cases e1
      rw [hrun, hv]
      rfl
/-- What is found. -/
def fndV (fs : List Fr) (x : List UInt8) : Value := .tuple #[.int .i64 (((findS fs x).getD 0 : Nat) : Int), .bool (findS fs x).isSome]
set_option maxRecDepth 100000 in
set_option maxHeartbeats 1000000 in
theorem nowhere_any (x : ByteArray) (w : World) : Calls Try.prog 21 #[.string x] w fun e w' => e = .returned (fndV [] x.data.toList) ∧ w' = w := by
  unfold fndV
  simp only [findS, Option.getD_none, Option.isSome_none]
  go_enter Try.func21, Try.ntmps21
  go_wp2_with fail
  go_ret2
  exact ⟨rfl, rfl⟩
set_option maxRecDepth 100000 in
set_option maxHeartbeats 1000000 in
theorem find_any (x : ByteArray) (hx : x.size ≤ maxLen) (w : World) : ∀ (fs : List Fr) (f : Fr) (m b1 mb : Nat) (v' : Value), w.heap[m]? = some (.cells #[.map (some mb)] 61) → w.heap[b1]? = some (.cells #[v'] 63) → MfAt w mb f → FdAt w b1 fs v' →
    Calls Try.prog 43 #[.string x, .pointer (some ⟨m, 0, none⟩), .pointer (some ⟨b1, 0, none⟩)] w fun e w' => e = .returned (fndV (f :: fs) x.data.toList) ∧ w' = w := by
  intro fs
  induction fs with
  | nil =>
    intro f m b1 mb v' hm hb hM hF
    have hF : v' = .func (.func 21) #[] #[] := hF
    subst hF
    have hlook := mf_look hM x hx
    have eg := enters_of Try.func21 (by kernel_rfl) rfl
    have HN := hid (nowhere_any x w)
    have c0 : w.cell? ⟨m, 0, none⟩ = some (.map (some mb)) := by simp [World.cell?, hm]
    have c1 : w.cell? ⟨b1, 0, none⟩ = some (.func (.func 21) #[] #[]) := by simp [World.cell?, hb]
    clear hm hb hM
    have hv : Hid (fndV [f] x.data.toList = match lookF f x.data.toList with
      | some t => .tuple #[.int .i64 (t : Int), .bool true]
      | none => fndV [] x.data.toList) := by
      show _ = _
      unfold fndV
      simp only [findS]
      cases lookF f x.data.toList <;> rfl
    rw [hv.out]
    cases hl : lookF f x.data.toList with
    | none =>
      rw [hl] at hlook
      dsimp only [Option.getD, Option.isSome] at hlook ⊢
      unfold fndV at HN ⊢
      simp only [findS, Option.getD_none, Option.isSome_none] at HN ⊢
      clear hl hv
      go_enter Try.func43, Try.ntmps43
      go_wp2_with (refine HN.out.mono ?_; rintro e w2 ⟨rfl, rfl⟩)
      go_ret2
      exact ⟨rfl, rfl⟩
    | some t =>
      rw [hl] at hlook
      dsimp only [Option.getD, Option.isSome] at hlook ⊢
      clear hl hv
      generalize (t : Int) = ti at hlook ⊢
      go_enter Try.func43, Try.ntmps43
      go_wp2_with fail
      go_ret2
      exact ⟨rfl, rfl⟩
  | cons g fs ih =>
    intro f m b1 mb v' hm hb hM hF
    obtain ⟨m2, b2, mb2, v2, rfl, _, _, _, k1, k2, k3, k4⟩ := hF
    have hlook := mf_look hM x hx
    have eg := enters_of Try.func43 (by kernel_rfl) rfl
    have HN := hid (ih g m2 b2 mb2 v2 k1 k2 k3 k4)
    have c0 : w.cell? ⟨m, 0, none⟩ = some (.map (some mb)) := by simp [World.cell?, hm]
    have c1 : w.cell? ⟨b1, 0, none⟩ = some (.func (.func 43) #[] #[.pointer (some ⟨m2, 0, none⟩), .pointer (some ⟨b2, 0, none⟩)]) := by simp [World.cell?, hb]
    clear hm hb hM k1 k2 k3 k4 ih
    have hv : Hid (fndV (f :: g :: fs) x.data.toList = match lookF f x.data.toList with
      | some t => .tuple #[.int .i64 (t : Int), .bool true]
      | none => fndV (g :: fs) x.data.toList) := by
      show _ = _
      unfold fndV
      simp only [findS]
      cases lookF f x.data.toList <;> rfl
    rw [hv.out]
    cases hl : lookF f x.data.toList with
    | none =>
      rw [hl] at hlook
      dsimp only [Option.getD, Option.isSome] at hlook ⊢
      obtain ⟨q0, q1, hq⟩ : ∃ q0 q1, fndV (g :: fs) x.data.toList = .tuple #[.int .i64 q0, .bool q1] := ⟨_, _, rfl⟩
      rw [hq] at HN ⊢
      clear hl hv hq
      go_enter Try.func43, Try.ntmps43
      go_wp2_with (refine HN.out.mono ?_; rintro e w2 ⟨rfl, rfl⟩)
      go_ret2
      exact ⟨rfl, rfl⟩
    | some t =>
      rw [hl] at hlook
      dsimp only [Option.getD, Option.isSome] at hlook ⊢
      clear hl hv
      generalize (t : Int) = ti at hlook ⊢
      go_enter Try.func43, Try.ntmps43
      go_wp2_with fail
      go_ret2
      exact ⟨rfl, rfl⟩
end
section
open Go.RowKit Go.Shelf Go.Maps Go.WideMaps
def encBd (p : Nat × Nat) : List Value := [.int .i64 (p.1 : Int), .int .i64 (p.2 : Int)]
def cellsBd (bs : List (Nat × Nat)) : List Value := bs.flatMap encBd
theorem cellsBd_append (a b : List (Nat × Nat)) : cellsBd (a ++ b) = cellsBd a ++ cellsBd b := by simp [cellsBd]
theorem cellsBd_length (bs : List (Nat × Nat)) : (cellsBd bs).length = bs.length * 2 := by
  induction bs with
  | nil => rfl
  | cons x r ih => simp only [cellsBd, List.flatMap_cons, List.length_append] at ih ⊢; rw [ih]; simp [encBd]; omega
theorem info_bind : (Try.prog.info? 40).map (fun i => (i.zero, i.size, i.bytes)) = some (some (.agg #[.int .i64 0, .int .i64 0]), 2, 16) := by kernel_rfl
theorem sl_of {w : World} {base E s n : Nat} {v : Value} {xs : List Value} (h : w.ownsRow base E s v n xs) : ∃ a c, v = .slice a n c := by
  rcases h.2 with ⟨e, hn⟩ | ⟨g, cap, cur, e, _⟩
  · exact ⟨none, 0, by rw [e, hn]⟩
  · exact ⟨_, _, e⟩
/-- The resolver. -/
structure RvAt (w : World) (base r : Nat) (la : Option Addr) (lc : Nat) (L : List Tk) (bs : List (Nat × Nat)) (ba : Option Addr) (bc : Nat) : Prop where
  box : w.heap[r]? = some (.cells #[.slice la L.length lc, .slice ba bs.length bc] 59)
  row : w.ownsRow base 40 2 (.slice ba bs.length bc) bs.length (cellsBd bs)
  toks : TAt w la L
  lo : ∀ b off, la = some ⟨b, off, none⟩ → L ≠ [] → b < base
  hr : base ≤ r
/-- What is thrown. -/
def thrownS (e : Int) (p : Int × Int) : Ending := .panicked [{ v := .iface 56 (.agg #[.int .i64 e, .int .i64 p.1, .int .i64 p.2]), recovered := false }]
section
variable {w w' : World} {base r : Nat} {la : Option Addr} {lc : Nat} {L : List Tk} {bs : List (Nat × Nat)} {ba : Option Addr} {bc : Nat}
theorem RvAt.facts (h : RvAt w base r la lc L bs ba bc) : (w.cell? ⟨r, 0, none⟩ = some (.slice la L.length lc) ∧ w.cell? ⟨r, 1, none⟩ = some (.slice ba bs.length bc)) ∧ w.frozen? ⟨r, 0, none⟩ = false ∧ w.frozen? ⟨r, 1, none⟩ = false := by
  have := h.box
  simp [World.cell?, World.frozen?, this]
theorem RvAt.rowNe (h : RvAt w base r la lc L bs ba bc) : (Value.slice ba bs.length bc).ownBlock ≠ some r := by
  intro e
  rcases h.row.2 with ⟨e2, _⟩ | ⟨g, cap, cur, e2, _, hh, _⟩
  · rw [e2] at e; cases e
  · rw [e2] at e
    have : g = r := by simpa [Value.ownBlock] using e
    subst this
    rw [h.box] at hh
    cases hh
theorem RvAt.rowO (h : RvAt w base r la lc L bs ba bc) {b : Nat} (hb : (Value.slice ba bs.length bc).ownBlock = some b) : CellO w b := by
  rcases h.row.2 with ⟨e2, _⟩ | ⟨g, cap, cur, e2, _, hh, _⟩
  · rw [e2] at hb; cases hb
  · rw [e2] at hb
    have : g = b := by simpa [Value.ownBlock] using hb
    subst this
    exact ⟨_, _, _, hh, by decide, by decide⟩
theorem RvAt.selfO (h : RvAt w base r la lc L bs ba bc) : CellO w r := ⟨_, _, _, h.box, by decide, by decide⟩
theorem RvAt.below (h : RvAt w base r la lc L bs ba bc) (hb : Below w.heap.size w w') : RvAt w' base r la lc L bs ba bc :=
  ⟨(hb.block r (lt_of_block h.box)).trans h.box, row_same h.row fun b _ hlt => hb.block b hlt, h.toks.below hb, h.lo, h.hr⟩
/-- It stays where its own blocks do, and all that is old. -/
theorem RvAt.same (h : RvAt w base r la lc L bs ba bc) (hz : w.heap.size ≤ w'.heap.size) (hr : w'.heap[r]? = w.heap[r]?) (hrow : ∀ b, (Value.slice ba bs.length bc).ownBlock = some b → w'.heap[b]? = w.heap[b]?) (hold : ∀ b, b < base → w'.heap[b]? = w.heap[b]?) : RvAt w' base r la lc L bs ba bc := by
  refine ⟨hr.trans h.box, row_same h.row fun b e _ => hrow b e, ?_, h.lo, h.hr⟩
  by_cases hL : L = []
  · exact .inl hL
  rcases h.toks with h0 | ⟨b, off, rfl, hlt, hc⟩
  · exact .inl h0
  · refine .inr ⟨b, off, rfl, by omega, fun j x hx k v hv => ?_⟩
    have e := hold b (h.lo b off rfl hL)
    have := hc j x hx k v hv
    simpa [World.cell?, e] using this
set_option maxRecDepth 100000 in
set_option maxHeartbeats 1000000 in
theorem bind_any (t d : Nat) (h : RvAt w base r la lc L bs ba bc) (hl : bs.length ≤ 100000) :
    Calls Try.prog 63 #[.pointer (some ⟨r, 0, none⟩), .int .i64 (t : Int), .int .i64 (d : Int)] w fun e w' => e = .returned (.tuple #[]) ∧ ∃ ba' bc', RvAt w' base r la lc L (bs ++ [(t, d)]) ba' bc' ∧ ((Value.slice ba' (bs ++ [(t, d)]).length bc').ownBlock = (Value.slice ba bs.length bc).ownBlock ∨ (Value.slice ba' (bs ++ [(t, d)]).length bc').ownBlock = some w.heap.size ∨ (Value.slice ba' (bs ++ [(t, d)]).length bc').ownBlock = some (w.heap.size + 1)) ∧ Kept (fun b => b = r ∨ (Value.slice ba bs.length bc).ownBlock = some b) w w' := by
  obtain ⟨i0, hi0, hz0, hzz1, hzz2⟩ := info_parts info_bind
  obtain ⟨⟨b0, b1⟩, q0, q1⟩ := h.facts
  have hrl := lt_of_block h.box
  have hb := below_new w (.cells (cellsBd [(t, d)]).toArray 40)
  have HB := hid hb
  have HRow := hid (row_same h.row (w' := w.alloc (.cells (cellsBd [(t, d)]).toArray 40)) fun b _ hlt => hb.block b hlt)
  have HSrc : Hid (∀ j u, (cellsBd [(t, d)])[j]? = some u → (w.alloc (.cells (cellsBd [(t, d)]).toArray 40)).cell? ((⟨w.heap.size, 0, none⟩ : Addr).add j) = some u) := fun j u hu => by
    rw [Addr.add_lit, Nat.zero_add, World.cell?_alloc_mark]
    simpa using hu
  have HH := hid h
  have hbz : base ≤ (w.alloc (.cells (cellsBd [(t, d)]).toArray 40)).heap.size := by have := h.hr; have := hb.size; omega
  clear hb h
  go_enter Try.func63, Try.ntmps63
  go_wp2_with (at_builtin; refine wpList_append_own_at _ rfl _ _ 32 rfl base 40 i0 _ 2 16 Try.underlying32 hi0 hz0 hzz1 hzz2 rfl (by decide) _ _ _ rfl HRow.out ⟨w.heap.size, 0, none⟩ 1 1 (cellsBd [(t, d)]) rfl (cellsBd_length _) HSrc.out (by intro u hu; simp [cellsBd, encBd] at hu; rcases hu with rfl | rfl <;> rfl) (by unfold maxLen; omega) (by omega) hbz ?_)
  intro v' w7 hown7 hg7 _ hob7
  obtain ⟨a1, c1, rfl⟩ := sl_of hown7
  have hrow7 : ∀ b, b < w.heap.size → (Value.slice ba bs.length bc).ownBlock ≠ some b → w7.heap[b]? = w.heap[b]? := fun b hb hn => (hg7.block b (by simp; omega) (fun e => hn e.symm)).trans (HB.out.block b hb)
  have hR7 := (hrow7 r hrl HH.out.rowNe).trans HH.out.box
  have hz7 : w.heap.size ≤ w7.heap.size := Nat.le_trans HB.out.size hg7.size
  have hne7 : (Value.slice a1 (bs.length + 1) c1).ownBlock ≠ some r := fun e => by
    rcases hob7 with e' | e'
    · rw [e'] at e; exact HH.out.rowNe e
    · rw [e'] at e
      have : w.heap.size + 1 = r := by simpa using e
      omega
  have hso : ∀ b, b ≠ r → (w7.setCell ⟨r, 1, none⟩ (.slice a1 (bs.length + 1) c1)).heap[b]? = w7.heap[b]? := fun b hb => Below.heap_setCell _ _ _ _ hb
  have HE : Hid (∃ ba' bc', RvAt (w7.setCell ⟨r, 1, none⟩ (.slice a1 (bs.length + 1) c1)) base r la lc L (bs ++ [(t, d)]) ba' bc' ∧ ((Value.slice ba' (bs ++ [(t, d)]).length bc').ownBlock = (Value.slice ba bs.length bc).ownBlock ∨ (Value.slice ba' (bs ++ [(t, d)]).length bc').ownBlock = some w.heap.size ∨ (Value.slice ba' (bs ++ [(t, d)]).length bc').ownBlock = some (w.heap.size + 1)) ∧ Kept (fun b => b = r ∨ (Value.slice ba bs.length bc).ownBlock = some b) w (w7.setCell ⟨r, 1, none⟩ (.slice a1 (bs.length + 1) c1))) := by
    have e1 : (bs ++ [(t, d)]).length = bs.length + 1 := by simp
    refine ⟨a1, c1, ⟨?_, ?_, ?_, HH.out.lo, HH.out.hr⟩, ?_, ⟨?_, ?_, ?_, ?_, ?_⟩⟩
    · rw [e1]
      exact (Go.Joins.block_setCell (i := 1) hR7 _).trans rfl
    · rw [e1, cellsBd_append]
      refine row_same hown7 fun b hb _ => hso b fun e => ?_
      subst e
      exact hne7 hb
    · by_cases hL : L = []
      · exact .inl hL
      rcases HH.out.toks with h0 | ⟨b, off, rfl, hlt, hc⟩
      · exact .inl h0
      · have hbb := HH.out.lo b off rfl hL
        have hrr := HH.out.hr
        refine .inr ⟨b, off, rfl, by rw [World.size_setCell]; omega, fun j x hx k v hv => ?_⟩
        have e := (hso b (by omega)).trans (hrow7 b hlt (fun e => by
          have := HH.out.row.lt b e
          omega))
        have := hc j x hx k v hv
        simpa [World.cell?, e] using this
    · rw [e1]
      rcases hob7 with e' | e'
      · exact .inl e'
      · exact .inr (.inr (by rw [e']))
    · exact hg7.os.trans HB.out.os
    · exact hg7.tape.trans HB.out.tape
    · exact hg7.output.trans HB.out.output
    · rw [World.size_setCell]; exact hz7
    · intro b hb hn
      exact (hso b fun e => hn (.inl e)).trans (hrow7 b hb fun e => hn (.inr e))
  obtain ⟨⟨d0, d1⟩, e0, e1⟩ : (w7.cell? ⟨r, 0, none⟩ = some (.slice la L.length lc) ∧ w7.cell? ⟨r, 1, none⟩ = some (.slice ba bs.length bc)) ∧ w7.frozen? ⟨r, 0, none⟩ = false ∧ w7.frozen? ⟨r, 1, none⟩ = false := by simp [World.cell?, World.frozen?, hR7]
  have hrl7 := lt_of_block hR7
  clear hown7 hg7 hob7 hrow7 hne7 hso hR7
  go_wp2_with fail
  go_end0
  exact ⟨rfl, HE.out⟩
end
end
section
open Go.RowKit Go.Shelf Go.Maps Go.WideMaps
section
variable {w w' : World} {base r : Nat} {la : Option Addr} {lc : Nat} {L : List Tk} {bs : List (Nat × Nat)} {ba : Option Addr} {bc : Nat}
theorem RvAt.tok (h : RvAt w base r la lc L bs ba bc) (t : Nat) (ht : t < L.length) : ∃ b off, la = some ⟨b, off, none⟩ ∧ b < w.heap.size ∧ ∀ (k : Nat) v, (encT L[t])[k]? = some v → w.cell? ⟨b, off + t * 11 + k, none⟩ = some v := by
  rcases h.toks with h0 | ⟨b, off, rfl, hb, hc⟩
  · rw [h0] at ht; simp at ht
  · exact ⟨b, off, rfl, hb, hc t _ (List.getElem?_eq_getElem ht)⟩
set_option maxRecDepth 100000 in
set_option maxHeartbeats 1000000 in
theorem sfail_any (x0 : Int) (t : Nat) (ht : t < L.length) (h : RvAt w base r la lc L bs ba bc) :
    Calls Try.prog 62 #[.pointer (some ⟨r, 0, none⟩), .int .i64 x0, .int .i64 (t : Int)] w fun e w' => e = thrownS x0 (placeT L t) ∧ Below w.heap.size w w' := by
  obtain ⟨⟨b0, b1⟩, q0, q1⟩ := h.facts
  have hR := lt_of_block h.box
  unfold thrownS
  obtain ⟨b, off, rfl, hb, hc⟩ := h.tok t ht
  have c4 := hc 4 _ rfl
  have c5 := hc 5 _ rfl
  rw [show placeT L t = (L[t].file, L[t].lo) by unfold placeT; rw [List.getElem?_eq_getElem ht]]
  generalize L[t].file = tf at c4
  generalize L[t].lo = tl at c5
  clear h hc
  generalize L.length = n at *
  have hi2 : (t : Int) < (n : Int) := by omega
  have hi0 : (0 : Int) ≤ (t : Int) := by omega
  clear hi0
  have hi0 : (0 : Int) ≤ (t : Int) := by omega
  have hid1 : decide ((0 : Int) ≤ (t : Int)) = true := decide_eq_true hi0
  have hid2 : decide ((t : Int) < (n : Int)) = true := decide_eq_true hi2
  have z0 := Later.cell b0
  have z4 := Later.cell c4
  have z5 := Later.cell c5
  have hnn : Nonempty (Later w) := ⟨⟨_, Below.refl _ _⟩⟩
  go_enter Try.func62, Try.ntmps62
  go_wp2_with fail
  refine region_later_tail 20 (by kernel_rfl) (by kernel_rfl) ?_
  simp only [List.take_succ_cons, List.take_zero, List.drop_succ_cons, List.drop_zero]
  repeat (quiet_step (fail))
  refine wpQuiet_nil ?_
  intro p
  have HKp := hid p.hb
  generalize p.W = wp at HKp ⊢
  clear z0 z4 z5 hnn
  go_wp2_with fail
  exact ⟨rfl, rfl, HKp.out⟩
end
section
variable {w w' : World}
/-- What making a name answers. -/
def SdPost (mb : Nat) (f : Fr) (x : List UInt8) (t : Nat) (w : World) (e : Ending) (w' : World) : Prop := match lookF f x with
  | some _ => e = .returned (.bool false) ∧ Below w.heap.size w w'
  | none => e = .returned (.bool true) ∧ MfAt w' mb ((x, t) :: f) ∧ Kept (· = mb) w w'
set_option maxRecDepth 100000 in
set_option maxHeartbeats 1000000 in
theorem sdecl_any (x : ByteArray) (hx : x.size ≤ maxLen) (t mb m b1 : Nat) (f : Fr) (ht : t ≤ 100000) (hf : f.length ≤ 100000) (h : MfAt w mb f) :
    Calls Try.prog 61 #[.agg #[.map (some mb), .func (.func 43) #[] #[.pointer (some ⟨m, 0, none⟩), .pointer (some ⟨b1, 0, none⟩)]], .string x, .int .i64 (t : Int)] w (SdPost mb f x.data.toList t w) := by
  have hb := below_new w (.cells #[.map (some mb), .func (.func 43) #[] #[.pointer (some ⟨m, 0, none⟩), .pointer (some ⟨b1, 0, none⟩)]] 65)
  have HB := hid hb
  have hM := h.same (hb.block mb h.lt)
  have hlook := mf_look hM x hx
  have hmlt := h.lt
  unfold SdPost
  cases hl : lookF f x.data.toList with
  | some t0 =>
    rw [hl] at hlook
    dsimp only [Option.getD, Option.isSome] at hlook ⊢
    generalize (t0 : Int) = ti at hlook
    clear hl hb hM
    go_enter Try.func61, Try.ntmps61
    go_wp2_with fail
    go_ret
    exact ⟨rfl, HB.out⟩
  | none =>
    rw [hl] at hlook
    dsimp only [Option.getD, Option.isSome] at hlook ⊢
    obtain ⟨D, hown, hT⟩ := hM
    have HO := hid hown
    have HT := hid hT
    have hwf := WalkArith.wf_i64 (show -9223372036854775808 ≤ (t : Int) ∧ (t : Int) ≤ 9223372036854775807 by omega)
    have HWf := hid hwf
    have hkx := key_mk hx
    have HKx := hid hkx
    clear hl hb hown hT hwf hkx
    go_enter Try.func61, Try.ntmps61
    go_wp2_with (at_mapUpdate; refine wpList_mapUpdate_own _ rfl _ _ _ 61 rfl 9 3 scLaw Try.underlying61 _ mb f.length _ rfl HO.out (by unfold maxLen; omega) _ _ _ rfl rfl HKx.out _ [] (plainElem_int Try.underlying3 HWf.out) ?_; intro w2 hout2 hg2; go_frame)
    have hK : Kept (· = mb) w w2 := ⟨hg2.os.trans HB.out.os, hg2.tape.trans HB.out.tape, hg2.output.trans HB.out.output, Nat.le_trans HB.out.size hg2.size, fun b hb hn => (hg2.block b (Nat.lt_of_lt_of_le hb HB.out.size) (fun e => hn (Option.some.inj e))).trans (HB.out.block b hb)⟩
    have HE : Hid (MfAt w2 mb ((x.data.toList, t) :: f) ∧ Kept (· = mb) w w2) := ⟨⟨_, hout2, HT.out.put _ _⟩, hK⟩
    clear hout2 hg2 hK
    go_wp2_with fail
    go_ret
    exact ⟨rfl, HE.out⟩
theorem svret {f : Func} {k : Nat} (hr : f.results = #[.cell k 65]) {w : World} {g mb m b1 : Nat} (hR : w.heap[g]? = some (.cells #[.map (some mb), .func (.func 43) #[] #[.pointer (some ⟨m, 0, none⟩), .pointer (some ⟨b1, 0, none⟩)]] 65)) (tmps : Array Value) (hp : tmps.getD k undef = .pointer (some ⟨g, 0, none⟩)) :
    (results f tmps).run Try.prog w = .ok (.agg #[.map (some mb), .func (.func 43) #[] #[.pointer (some ⟨m, 0, none⟩), .pointer (some ⟨b1, 0, none⟩)]]) w := by
  have c0 : w.cell? ⟨g, 0, none⟩ = some (.map (some mb)) := by simp [World.cell?, hR]
  have c1 : w.cell? ⟨g, 1, none⟩ = some (.func (.func 43) #[] #[.pointer (some ⟨m, 0, none⟩), .pointer (some ⟨b1, 0, none⟩)]) := by simp [World.cell?, hR]
  simp at hp
  simp [results, hr, go_sem, hp, c0, c1]
set_option maxRecDepth 100000 in
set_option maxHeartbeats 1000000 in
theorem within_any (B : Nat) (fs : List Fr) (v : Value) (h : FdAt w B fs v) (hB : B ≤ w.heap.size) :
    Calls Try.prog 20 #[v] w fun e w' => ∃ sv mb, e = .returned sv ∧ SvAt w' w'.heap.size sv mb [] fs ∧ w.heap.size ≤ mb ∧ Below w.heap.size w w' := by
  have hmm : ∀ W : World, (Instr.makeMap 61 none).run Try.prog W = .ok (.map (some W.heap.size)) (W.alloc (.map #[] 0)) := fun W => by first | rfl | kernel_rfl
  have hmf : ∀ (fn : Fn) (first cap : Array Value) (w : World), (Instr.makeFunc fn first cap).run Try.prog w = .ok (.func fn first cap) w := fun _ _ _ _ => rfl
  have hv : (∃ k cs, v = .func (.func k) #[] cs) := by
    cases fs with
    | nil => exact ⟨_, _, h⟩
    | cons f fs => obtain ⟨m, b1, mb, v', h1, _⟩ := h; exact ⟨_, _, h1⟩
  obtain ⟨k, cs, hv⟩ := hv
  have HF := hid h
  subst hv
  clear h
  have h1 := below_new w (.cells #[.func (.func k) #[] cs] 63)
  have s1 : (w.alloc (.cells #[.func (.func k) #[] cs] 63)).heap.size = w.heap.size + 1 := by simp
  have k1 := heap_alloc_new w (.cells #[.func (.func k) #[] cs] 63)
  generalize hw1 : w.alloc (.cells #[.func (.func k) #[] cs] 63) = w1 at h1 s1 k1
  have h2 := below_new w1 (.cells #[.map (some (w.heap.size + 1 + 1)), .func (.func 43) #[] #[.pointer (some ⟨w.heap.size + 1 + 1 + 1, 0, none⟩), .pointer (some ⟨w.heap.size, 0, none⟩)]] 65)
  have s2 : (w1.alloc (.cells #[.map (some (w.heap.size + 1 + 1)), .func (.func 43) #[] #[.pointer (some ⟨w.heap.size + 1 + 1 + 1, 0, none⟩), .pointer (some ⟨w.heap.size, 0, none⟩)]] 65)).heap.size = w.heap.size + 1 + 1 := by simp [s1]
  have k2 := heap_alloc_new w1 (.cells #[.map (some (w.heap.size + 1 + 1)), .func (.func 43) #[] #[.pointer (some ⟨w.heap.size + 1 + 1 + 1, 0, none⟩), .pointer (some ⟨w.heap.size, 0, none⟩)]] 65)
  rw [s1] at k2
  generalize hw2 : w1.alloc (.cells #[.map (some (w.heap.size + 1 + 1)), .func (.func 43) #[] #[.pointer (some ⟨w.heap.size + 1 + 1 + 1, 0, none⟩), .pointer (some ⟨w.heap.size, 0, none⟩)]] 65) = w2 at h2 s2 k2
  have h3 := (Below.refl _ w2).alloc (Nat.le_refl _) (.map #[] 0)
  have s3 : (w2.alloc (.map #[] 0)).heap.size = w.heap.size + 1 + 1 + 1 := by simp [s2]
  have k3 := World.ownsMap_made (H := Unit) w2 Try.prog 9 (plainElem Try.prog 3)
  rw [s2] at k3
  generalize hw3 : w2.alloc (.map #[] 0) = w3 at h3 s3 k3
  have h4 := below_new w3 (.cells #[.map (some (w.heap.size + 1 + 1))] 61)
  have k4 := heap_alloc_new w3 (.cells #[.map (some (w.heap.size + 1 + 1))] 61)
  have s4 : (w3.alloc (.cells #[.map (some (w.heap.size + 1 + 1))] 61)).heap.size = w.heap.size + 1 + 1 + 1 + 1 := by simp [s3]
  rw [s3] at k4
  generalize hw4 : w3.alloc (.cells #[.map (some (w.heap.size + 1 + 1))] 61) = w4 at h4 s4 k4
  have hb : Below w.heap.size w w4 := ((h1.trans (h2.mono (by omega))).trans (h3.mono (by omega))).trans (h4.mono (by omega))
  have hsv : SvAt w4 w4.heap.size (.agg #[.map (some (w.heap.size + 1 + 1)), .func (.func 43) #[] #[.pointer (some ⟨w.heap.size + 1 + 1 + 1, 0, none⟩), .pointer (some ⟨w.heap.size, 0, none⟩)]]) (w.heap.size + 1 + 1) [] fs := by
    refine ⟨_, _, .func (.func k) #[] cs, rfl, by omega, by omega, by omega, k4, ?_, ⟨_, map_same k3 (h4.block _ (by omega)), ScTold.none⟩, ?_⟩
    · exact (h4.block _ (by omega)).trans ((h3.block _ (by omega)).trans ((h2.block _ (by omega)).trans k1))
    · exact (HF.out.mono hB).same fun b hlt _ _ => hb.block b hlt
  have hres : w4.heap[w.heap.size + 1]? = _ := (h4.block _ (by omega)).trans ((h3.block _ (by omega)).trans k2)
  have HX := hid (And.intro hsv (And.intro hb hres))
  clear h1 s1 k1 h2 s2 k2 h3 s3 k3 h4 k4 s4 hb hsv hres
  subst hw1 hw2 hw3 hw4
  go_enter Try.func20, Try.ntmps20
  go_wp2_with fail
  exact bodyPost_ret (svret Try.results20 HX.out.2.2 _ rfl) rfl ⟨_, w.heap.size + 1 + 1, rfl, HX.out.1, by omega, HX.out.2.1⟩
end
end
section
open Go.RowKit Go.Shelf Go.Maps Go.WideMaps
/-- What may turn: the resolver, its row, the innermost frame's map. -/
abbrev rX (r mb : Nat) (row : Option Nat) : Nat → Prop := fun b => b = r ∨ b = mb ∨ row = some b
/-- What resolving a part answers. -/
def RnPost (base r : Nat) (la : Option Addr) (lc : Nat) (L : List Tk) (bs : List (Nat × Nat)) (row : Option Nat) (mb : Nat) (R : GotB) (w : World) (e : Ending) (w' : World) : Prop := match R with
  | .ok (f', b) => e = .returned (.tuple #[]) ∧ MfAt w' mb f' ∧ (∃ ba' bc', RvAt w' base r la lc L (bs ++ b) ba' bc' ∧ ∀ g, (Value.slice ba' (bs ++ b).length bc').ownBlock = some g → row = some g ∨ w.heap.size ≤ g) ∧ Kept (rX r mb row) w w'
  | .error y => e = thrownS y.1 (placeT L y.2) ∧ Kept (rX r mb row) w w'
section
variable {w w' : World} {base r : Nat} {la : Option Addr} {lc : Nat} {L : List Tk} {bs : List (Nat × Nat)} {ba : Option Addr} {bc : Nat}
theorem kept_wide {X Y : Nat → Prop} (h : Kept X w w') (hx : ∀ b, b < w.heap.size → X b → Y b) : Kept Y w w' := ⟨h.os, h.tape, h.output, h.size, fun b hb hn => h.block b hb (fun hX => hn (hx b hb hX))⟩
theorem kept_then {X Y : Nat → Prop} {w2 : World} (h1 : Kept X w w') (h2 : Kept Y w' w2) (hx : ∀ b, b < w.heap.size → Y b → X b) : Kept X w w2 := ⟨h2.os.trans h1.os, h2.tape.trans h1.tape, h2.output.trans h1.output, Nat.le_trans h1.size h2.size, fun b hb hn => (h2.block b (Nat.lt_of_lt_of_le hb h1.size) (fun hY => hn (hx b hb hY))).trans (h1.block b hb hn)⟩
/-- A name is bound behind what has turned its map. -/
theorem rv_map {mb : Nat} {f : Fr} (h : RvAt w base r la lc L bs ba bc) (hm : MfAt w mb f) (hbm : base ≤ mb) (hk : Kept (· = mb) w w') : RvAt w' base r la lc L bs ba bc :=
  h.same hk.size (hk.block r (lt_of_block h.box) (fun e => hm.noCell (e ▸ h.selfO))) (fun b hb => hk.block b (h.row.lt b hb).2 (fun e => hm.noCell (e ▸ h.rowO hb))) (fun b hb => by
    by_cases hz : b < w.heap.size
    · exact hk.block b hz (by omega)
    · have := h.hr
      have := lt_of_block h.box
      omega)
set_option maxRecDepth 100000 in
set_option maxHeartbeats 1000000 in
theorem rdecl_any (hts : ∀ t ∈ L, t.text.size ≤ 3000) (hfew : L.length ≤ 6000) (t B mb : Nat) (sv : Value) (f : Fr) (fs : List Fr) (ht : t < L.length) (h : RvAt w base r la lc L bs ba bc) (hS : SvAt w B sv mb f fs) (hbm : base ≤ mb) (hl : bs.length ≤ 100000) (hf : f.length ≤ 100000) :
    Calls Try.prog 38 #[.pointer (some ⟨r, 0, none⟩), .int .i64 (t : Int), sv] w (RnPost base r la lc L bs (Value.slice ba bs.length bc).ownBlock mb (mkR L t f) w) := by
  obtain ⟨m, b1, v', rfl, hmB, hb1, hmm, hm, hb, hM, hF⟩ := hS
  have hb0 := below_new w (.cells #[.map (some mb), .func (.func 43) #[] #[.pointer (some ⟨m, 0, none⟩), .pointer (some ⟨b1, 0, none⟩)]] 65)
  have hbx := heap_alloc_new w (.cells #[.map (some mb), .func (.func 43) #[] #[.pointer (some ⟨m, 0, none⟩), .pointer (some ⟨b1, 0, none⟩)]] 65)
  have hR1 := h.below hb0
  have hM1 := hM.same (hb0.block mb hM.lt)
  have hrl := lt_of_block h.box
  obtain ⟨tb, off, hla, htb, hc⟩ := hR1.tok t ht
  have c1 := hc 1 _ rfl
  have htx : txtT L t = L[t].text.data.toList := by unfold txtT; rw [List.getElem?_eq_getElem ht]
  have hsz : L[t].text.size ≤ 3000 := hts _ (List.getElem_mem ht)
  obtain ⟨⟨d0, d1⟩, _⟩ := hR1.facts
  have x0 : (w.alloc (.cells #[.map (some mb), .func (.func 43) #[] #[.pointer (some ⟨m, 0, none⟩), .pointer (some ⟨b1, 0, none⟩)]] 65)).cell? ⟨w.heap.size, 0, none⟩ = some (.map (some mb)) := by unfold World.cell?; rw [hbx]; rfl
  have x1 : (w.alloc (.cells #[.map (some mb), .func (.func 43) #[] #[.pointer (some ⟨m, 0, none⟩), .pointer (some ⟨b1, 0, none⟩)]] 65)).cell? ⟨w.heap.size, 1, none⟩ = some (.func (.func 43) #[] #[.pointer (some ⟨m, 0, none⟩), .pointer (some ⟨b1, 0, none⟩)]) := by unfold World.cell?; rw [hbx]; rfl
  have HW := hid (And.intro hR1 hM1)
  have HC := hid (fun W (hW : Below (w.alloc (.cells #[.map (some mb), .func (.func 43) #[] #[.pointer (some ⟨m, 0, none⟩), .pointer (some ⟨b1, 0, none⟩)]] 65)).heap.size (w.alloc (.cells #[.map (some mb), .func (.func 43) #[] #[.pointer (some ⟨m, 0, none⟩), .pointer (some ⟨b1, 0, none⟩)]] 65)) W) => sdecl_any L[t].text (by unfold maxLen; omega) t mb m b1 f (by omega) hf (hM1.same (hW.block mb hM1.lt)))
  have HB := hid hb0
  have hi0 : (0 : Int) ≤ (t : Int) := by omega
  have hid1 : decide ((0 : Int) ≤ (t : Int)) = true := decide_eq_true hi0
  have hi2 : (t : Int) < (L.length : Int) := by omega
  have hid2 : decide ((t : Int) < (L.length : Int)) = true := decide_eq_true hi2
  have HTx := hid htx
  subst hla
  clear hb0 hbx hM1 hR1 hc htx hm hb hM hF d1
  generalize L[t].text = tx at c1 HC HTx hsz
  have HR0 : Hid (mkR L t f = match lookF f tx.data.toList with
    | some _ => .error (7, t)
    | none => .ok ((tx.data.toList, t) :: f, [(t, t)])) := by
    show _ = _
    unfold mkR
    rw [HTx.out]
    rfl
  generalize mkR L t f = R at HR0 ⊢
  go_enter Try.func38, Try.ntmps38
  go_wp2_with fail
  generalize w.alloc (.cells #[.map (some mb), .func (.func 43) #[] #[.pointer (some ⟨m, 0, none⟩), .pointer (some ⟨b1, 0, none⟩)]] 65) = w1 at x0 x1 d0 c1 htb HW HC HB ⊢
  have z0 := Later.cell x0
  have z1 := Later.cell x1
  have z2 := Later.cell d0
  have z3 := Later.cell c1
  have hnn : Nonempty (Later w1) := ⟨⟨_, Below.refl _ _⟩⟩
  refine region_later_tail 10 (by kernel_rfl) (by kernel_rfl) ?_
  simp only [List.take_succ_cons, List.take_zero, List.drop_succ_cons, List.drop_zero]
  repeat (quiet_step (fail))
  refine wpQuiet_nil ?_
  intro p
  have HCp := hid (HC.out p.W p.hb)
  have HBp := hid p.hb
  generalize p.W = wp at HCp HBp ⊢
  clear z0 z1 z2 z3 hnn x0 x1 d0 c1 HC
  have hRp := HW.out.1.below HBp.out
  have hMp := HW.out.2.same (HBp.out.block mb HW.out.2.lt)
  have hKp : Kept (rX r mb (Value.slice ba bs.length bc).ownBlock) w wp := kept_of_below (HB.out.trans (HBp.out.mono HB.out.size))
  have HP := hid (And.intro hRp (And.intro hMp hKp))
  clear hRp hMp hKp HB HBp
  have HC2 := HCp.out
  unfold SdPost at HC2
  cases hlk : lookF f tx.data.toList with
  | some t0 =>
    rw [hlk] at HC2 HR0
    have HC2 := hid HC2
    clear hlk HCp
    go_wp2_with fail
    refine HC2.out.mono ?_
    rintro e w2 ⟨rfl, hb2⟩
    have HFl := hid (sfail_any 7 t ht (HP.out.1.below hb2))
    have HK2 := hid (kept_then HP.out.2.2 (kept_of_below (X := fun _ => False) hb2) (fun b _ h => h.elim))
    clear hb2
    go_wp2_with fail
    refine HFl.out.mono ?_
    rintro e w3 ⟨rfl, hb3⟩
    have HK3 := hid (kept_then HK2.out (kept_of_below (X := fun _ => False) hb3) (fun b _ h => h.elim))
    clear hb3
    refine ⟨rfl, ?_⟩
    show RnPost _ _ _ _ _ _ _ _ R _ _ _
    rw [HR0.out]
    exact ⟨rfl, HK3.out⟩
  | none =>
    rw [hlk] at HC2 HR0
    have HC2 := hid HC2
    clear hlk HCp
    go_wp2_with fail
    refine HC2.out.mono ?_
    rintro e w2 ⟨rfl, hm2, hk2⟩
    have hR2 := rv_map HP.out.1 HP.out.2.1 hbm hk2
    have HBd := hid (bind_any t t hR2 hl)
    have HK2 := hid (kept_then HP.out.2.2 hk2 (fun b _ (h : b = mb) => .inr (.inl h)))
    have HM2 := hid hm2
    have HR2 := hid hR2
    clear hm2 hk2 hR2
    go_wp2_with fail
    refine HBd.out.mono ?_
    rintro e w3 ⟨rfl, ba', bc', hr3, hrow3, hk3⟩
    have HE : Hid (RnPost base r (some ⟨tb, off, none⟩) lc L bs (Value.slice ba bs.length bc).ownBlock mb (.ok ((tx.data.toList, t) :: f, [(t, t)])) w (.returned (.tuple #[])) w3) := by
      refine ⟨rfl, HM2.out.same (hk3.block mb HM2.out.lt fun hx => ?_), ⟨ba', bc', hr3, fun g hg => ?_⟩, kept_then HK2.out hk3 (fun b _ h => h.elim .inl (fun h => .inr (.inr h)))⟩
      · rcases hx with e | e
        · exact HM2.out.noCell (e ▸ HR2.out.selfO)
        · exact HM2.out.noCell (HR2.out.rowO e)
      · have hz := HK2.out.size
        rcases hrow3 with e | e | e
        · exact .inl (e ▸ hg)
        · rw [e] at hg; cases hg; exact .inr hz
        · rw [e] at hg; cases hg; exact .inr (by omega)
    clear hr3 hrow3 hk3
    go_wp2_with fail
    go_end0
    show RnPost _ _ _ _ _ _ _ _ R _ _ _
    rw [HR0.out]
    exact HE.out
set_option maxRecDepth 100000 in
set_option maxHeartbeats 4000000 in
theorem ruse_any (hts : ∀ t ∈ L, t.text.size ≤ 3000) (t B mb : Nat) (sv : Value) (f : Fr) (fs : List Fr) (ht : t < L.length) (h : RvAt w base r la lc L bs ba bc) (hS : SvAt w B sv mb f fs) (hl : bs.length ≤ 100000) :
    Calls Try.prog 39 #[.pointer (some ⟨r, 0, none⟩), .int .i64 (t : Int), sv] w (RnPost base r la lc L bs (Value.slice ba bs.length bc).ownBlock mb (usR L t f fs) w) := by
  obtain ⟨m, b1, v', rfl, hmB, hb1, hmm, hm, hb, hM, hF⟩ := hS
  have hb0 := below_new w (.cells #[.map (some mb), .func (.func 43) #[] #[.pointer (some ⟨m, 0, none⟩), .pointer (some ⟨b1, 0, none⟩)]] 65)
  have hbx := heap_alloc_new w (.cells #[.map (some mb), .func (.func 43) #[] #[.pointer (some ⟨m, 0, none⟩), .pointer (some ⟨b1, 0, none⟩)]] 65)
  have hR1 := h.below hb0
  have hM1 := hM.same (hb0.block mb hM.lt)
  have hrl := lt_of_block h.box
  obtain ⟨tb, off, hla, htb, hc⟩ := hR1.tok t ht
  have c1 := hc 1 _ rfl
  have htx : txtT L t = L[t].text.data.toList := by unfold txtT; rw [List.getElem?_eq_getElem ht]
  have hsz : L[t].text.size ≤ 3000 := hts _ (List.getElem_mem ht)
  obtain ⟨⟨d0, d1⟩, _⟩ := hR1.facts
  have x0 : (w.alloc (.cells #[.map (some mb), .func (.func 43) #[] #[.pointer (some ⟨m, 0, none⟩), .pointer (some ⟨b1, 0, none⟩)]] 65)).cell? ⟨w.heap.size, 0, none⟩ = some (.map (some mb)) := by unfold World.cell?; rw [hbx]; rfl
  have x1 : (w.alloc (.cells #[.map (some mb), .func (.func 43) #[] #[.pointer (some ⟨m, 0, none⟩), .pointer (some ⟨b1, 0, none⟩)]] 65)).cell? ⟨w.heap.size, 1, none⟩ = some (.func (.func 43) #[] #[.pointer (some ⟨m, 0, none⟩), .pointer (some ⟨b1, 0, none⟩)]) := by unfold World.cell?; rw [hbx]; rfl
  have HW := hid (And.intro hR1 hM1)
  have eg := enters_of Try.func43 (by kernel_rfl) rfl
  have HC := hid (fun W (hW : Below (w.alloc (.cells #[.map (some mb), .func (.func 43) #[] #[.pointer (some ⟨m, 0, none⟩), .pointer (some ⟨b1, 0, none⟩)]] 65)).heap.size (w.alloc (.cells #[.map (some mb), .func (.func 43) #[] #[.pointer (some ⟨m, 0, none⟩), .pointer (some ⟨b1, 0, none⟩)]] 65)) W) => find_any L[t].text (by unfold maxLen; omega) W fs f m b1 mb v' ((hb0.trans (hW.mono hb0.size)).block m (lt_of_block hm) |>.trans hm) ((hb0.trans (hW.mono hb0.size)).block b1 (lt_of_block hb) |>.trans hb) (hM.same ((hb0.trans (hW.mono hb0.size)).block mb hM.lt)) (hF.same fun b hlt hl2 _ => (hb0.trans (hW.mono hb0.size)).block b hl2))
  have HB := hid hb0
  have hi0 : (0 : Int) ≤ (t : Int) := by omega
  have hid1 : decide ((0 : Int) ≤ (t : Int)) = true := decide_eq_true hi0
  have hi2 : (t : Int) < (L.length : Int) := by omega
  have hid2 : decide ((t : Int) < (L.length : Int)) = true := decide_eq_true hi2
  have HTx := hid htx
  have hz1 : w.heap.size < (w.alloc (.cells #[.map (some mb), .func (.func 43) #[] #[.pointer (some ⟨m, 0, none⟩), .pointer (some ⟨b1, 0, none⟩)]] 65)).heap.size := by simp
  subst hla
  clear hb0 hbx hM1 hR1 hc htx hm hb hM hF d1
  generalize L[t].text = tx at c1 HC HTx hsz
  have HR0 : Hid (usR L t f fs = match findS (f :: fs) tx.data.toList with
    | some d => .ok (f, [(t, d)])
    | none => .error (6, t)) := by
    show _ = _
    unfold usR
    rw [HTx.out]
    rfl
  generalize usR L t f fs = R at HR0 ⊢
  go_enter Try.func39, Try.ntmps39
  go_wp2_with fail
  generalize w.alloc (.cells #[.map (some mb), .func (.func 43) #[] #[.pointer (some ⟨m, 0, none⟩), .pointer (some ⟨b1, 0, none⟩)]] 65) = w1 at x0 x1 d0 c1 htb HW HC HB hz1 ⊢
  have HK : Hid (∀ W, Below w1.heap.size w1 W → W.cell? ⟨w.heap.size, 1, none⟩ = some (.func (.func 43) #[] #[.pointer (some ⟨m, 0, none⟩), .pointer (some ⟨b1, 0, none⟩)]) ∧ W.cell? ⟨r, 0, none⟩ = some (.slice (some ⟨tb, off, none⟩) L.length lc) ∧ W.cell? ⟨tb, off + t * 11 + 1, none⟩ = some (.string tx)) := fun W hW =>
    ⟨(hW.cell (p := ⟨w.heap.size, 1, none⟩) (by show w.heap.size < w1.heap.size; omega)).trans x1, (hW.cell (p := ⟨r, 0, none⟩) (lt_of_block HW.out.1.box)).trans d0, (hW.cell (p := ⟨tb, _, none⟩) htb).trans c1⟩
  have hB := (Below.refl w1.heap.size w1).drew
  have HP := hid (fun W (hW : Below w1.heap.size w1 W) => And.intro (HW.out.1.below hW) (And.intro (HW.out.2.same (hW.block mb HW.out.2.lt)) (kept_of_below (X := rX r mb (Value.slice ba bs.length bc).ownBlock) (HB.out.trans (hW.mono HB.out.size)))))
  have hQ : (∃ d, R = .ok (f, [(t, d)]) ∧ fndV (f :: fs) tx.data.toList = .tuple #[.int .i64 (d : Int), .bool true]) ∨ (R = .error (6, t) ∧ fndV (f :: fs) tx.data.toList = .tuple #[.int .i64 0, .bool false]) := by
    have h0 := HR0.out
    unfold fndV
    cases hlk : findS (f :: fs) tx.data.toList with
    | none => rw [hlk] at h0; exact .inr ⟨h0, rfl⟩
    | some d => rw [hlk] at h0; exact .inl ⟨d, h0, rfl⟩
  obtain ⟨q0, q1, hq⟩ : ∃ q0 q1, fndV (f :: fs) tx.data.toList = .tuple #[.int .i64 q0, .bool q1] := ⟨_, _, rfl⟩
  rw [hq] at hQ HC
  have HQ := hid hQ
  clear hQ hq HR0
  go_region_held3 (fun W => W.cell? ⟨w.heap.size, 1, none⟩ = some (.func (.func 43) #[] #[.pointer (some ⟨m, 0, none⟩), .pointer (some ⟨b1, 0, none⟩)]) ∧ W.cell? ⟨r, 0, none⟩ = some (.slice (some ⟨tb, off, none⟩) L.length lc) ∧ W.cell? ⟨tb, off + t * 11 + 1, none⟩ = some (.string tx))
    (exact HK.out _ hB)
    ((refine (HC.out _ hB).mono ?_; rintro e w2 ⟨rfl, hw2⟩; subst w2))
  have HP := hid (HP.out _ hB)
  clear hB HK HC
  generalize w1.drew = wp at HP ⊢
  clear x0 x1 d0 c1
  rcases HQ.out with ⟨d, hR, hqq⟩ | ⟨hR, hqq⟩
  · injection hqq with hqq
    simp at hqq
    obtain ⟨rfl, rfl⟩ := hqq
    have hRe := hid hR
    clear hR HQ
    have HBd := hid (bind_any t d HP.out.1 hl)
    go_wp2_with fail
    refine HBd.out.mono ?_
    rintro e w3 ⟨rfl, ba', bc', hr3, hrow3, hk3⟩
    have HE : Hid (RnPost base r (some ⟨tb, off, none⟩) lc L bs (Value.slice ba bs.length bc).ownBlock mb (.ok (f, [(t, d)])) w (.returned (.tuple #[])) w3) := by
      refine ⟨rfl, HP.out.2.1.same (hk3.block mb HP.out.2.1.lt fun hx => ?_), ⟨ba', bc', hr3, fun g hg => ?_⟩, kept_then HP.out.2.2 hk3 (fun b _ h => h.elim .inl (fun h => .inr (.inr h)))⟩
      · rcases hx with e | e
        · exact HP.out.2.1.noCell (e ▸ HP.out.1.selfO)
        · exact HP.out.2.1.noCell (HP.out.1.rowO e)
      · have hz := HP.out.2.2.size
        rcases hrow3 with e | e | e
        · exact .inl (e ▸ hg)
        · rw [e] at hg; cases hg; exact .inr hz
        · rw [e] at hg; cases hg; exact .inr (by omega)
    clear hr3 hrow3 hk3
    go_wp2_with fail
    go_end0
    show RnPost _ _ _ _ _ _ _ _ R _ _ _
    rw [hRe.out]
    exact HE.out
  · injection hqq with hqq
    simp at hqq
    obtain ⟨rfl, rfl⟩ := hqq
    have hRe := hid hR
    clear hR HQ
    have HFl := hid (sfail_any 6 t ht HP.out.1)
    go_wp2_with fail
    refine HFl.out.mono ?_
    rintro e w3 ⟨rfl, hb3⟩
    have HK3 := hid (kept_then HP.out.2.2 (kept_of_below (X := fun _ => False) hb3) (fun b _ h => h.elim))
    clear hb3
    refine ⟨rfl, ?_⟩
    show RnPost _ _ _ _ _ _ _ _ R _ _ _
    rw [hRe.out]
    exact ⟨rfl, HK3.out⟩
end
end
end Go.Proofs.Ytkfbhknhjpmomaa
