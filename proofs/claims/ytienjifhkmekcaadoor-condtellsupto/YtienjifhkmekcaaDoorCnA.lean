/- Some texts in one. -/
import Derived.Test.YtienjifhkmekcaaDoorCmA
import Derived.Test.YtienjifhkmekcaaDoorCmC
import Derived.Deep.RegionHeld3
import Derived.Maps.Own
import Derived.OpenShut
import Derived.Deep.RegionWith
namespace Go.Proofs.YtienjifhkmekcaaDoor
open Go.RowKit Go.Shelf

/-- The document's own reader in memory: its list, its first fault, how deep, how many settle it. -/
structure CAt (w : World) (R : Nat) (a : Option Addr) (c : Nat) (ts : List Tk) (e f g : Int) (d q : Int) : Prop where
  box : w.heap[R]? = some (.cells #[.slice a ts.length c, .int .i64 e, .int .i64 f, .int .i64 g, .int .i64 d, .int .i64 q] 55)
  toks : TAt w a ts
theorem CAt.below {w w' : World} {R : Nat} {a : Option Addr} {c : Nat} {ts : List Tk} {e f g d q : Int} (h : CAt w R a c ts e f g d q) (hb : Below w.heap.size w w') : CAt w' R a c ts e f g d q :=
  ⟨(hb.block _ (lt_of_block h.box)).trans h.box, h.toks.below hb⟩
theorem TAt.setBox6 {w : World} {a : Option Addr} {ts : List Tk} {R : Nat} {x y z u v x5 : Value} {T : TypeId} (h : TAt w a ts) (hB : w.heap[R]? = some (.cells #[x, y, z, u, v, x5] T)) (i : Nat) (nv : Value) : TAt (w.setCell ⟨R, i, none⟩ nv) a ts := by
  rcases h with rfl | ⟨b, off, rfl, hb, hc⟩
  · exact .inl rfl
  · cases ts with
    | nil => exact .inl rfl
    | cons t0 tr =>
      have hne : b ≠ R := fun e => by
        have h0 := hc 0 t0 rfl 10 _ rfl
        rw [e, Go.Joins.cell_of_block hB] at h0
        simp at h0
      have hh : (w.setCell ⟨R, i, none⟩ nv).heap[b]? = w.heap[b]? := Below.heap_setCell _ _ _ _ hne
      refine .inr ⟨b, off, rfl, ?_, fun j x hx i v hv => ?_⟩
      · have : w.heap[b]? = some w.heap[b] := Array.getElem?_eq_getElem hb
        rw [← hh] at this
        exact (Array.getElem?_eq_some_iff.1 this).1
      · have := hc j x hx i v hv
        simp only [World.cell?, hh] at this ⊢
        exact this
theorem CAt.deep {w : World} {R : Nat} {a : Option Addr} {c : Nat} {ts : List Tk} {e f g d q : Int} (h : CAt w R a c ts e f g d q) (d' : Int) : CAt (w.setCell ⟨R, 4, none⟩ (.int .i64 d')) R a c ts e f g d' q :=
  ⟨by have := Go.Joins.block_setCell (i := 4) h.box (.int .i64 d'); simpa using this, h.toks.setBox6 h.box 4 _⟩
theorem CAt.idle {w : World} {R : Nat} {a : Option Addr} {c : Nat} {ts : List Tk} {e f g d q : Int} (h : CAt w R a c ts e f g d q) (q' : Int) : CAt (w.setCell ⟨R, 5, none⟩ (.int .i64 q')) R a c ts e f g d q' :=
  ⟨by have := Go.Joins.block_setCell (i := 5) h.box (.int .i64 q'); simpa using this, h.toks.setBox6 h.box 5 _⟩
theorem CAt.bad {w : World} {R : Nat} {a : Option Addr} {c : Nat} {ts : List Tk} {e f g d q : Int} (h : CAt w R a c ts e f g d q) (e' f' g' : Int) :
    CAt (((w.setCell ⟨R, 1, none⟩ (.int .i64 e')).setCell ⟨R, 2, none⟩ (.int .i64 f')).setCell ⟨R, 3, none⟩ (.int .i64 g')) R a c ts e' f' g' d q := by
  have h1 := Go.Joins.block_setCell (i := 1) h.box (.int .i64 e')
  have h2 := Go.Joins.block_setCell (i := 2) h1 (.int .i64 f')
  have h3 := Go.Joins.block_setCell (i := 3) h2 (.int .i64 g')
  exact ⟨by simpa using h3, ((h.toks.setBox6 h.box 1 _).setBox6 (by simpa using h1) 2 _).setBox6 (by simpa using h2) 3 _⟩
theorem CAt.facts {w : World} {R : Nat} {a : Option Addr} {c : Nat} {ts : List Tk} {e f g d q : Int} (h : CAt w R a c ts e f g d q) :
    w.cell? ⟨R, 0, none⟩ = some (.slice a ts.length c) ∧ w.cell? ⟨R, 1, none⟩ = some (.int .i64 e) ∧ w.cell? ⟨R, 2, none⟩ = some (.int .i64 f) ∧ w.cell? ⟨R, 3, none⟩ = some (.int .i64 g) ∧ w.cell? ⟨R, 4, none⟩ = some (.int .i64 d) ∧ w.cell? ⟨R, 5, none⟩ = some (.int .i64 q) := by
  have hb := h.box
  simp [World.cell?, hb]
theorem CAt.warm {w : World} {R : Nat} {a : Option Addr} {c : Nat} {ts : List Tk} {e f g d q : Int} (h : CAt w R a c ts e f g d q) :
    w.frozen? ⟨R, 1, none⟩ = false ∧ w.frozen? ⟨R, 2, none⟩ = false ∧ w.frozen? ⟨R, 3, none⟩ = false ∧ w.frozen? ⟨R, 4, none⟩ = false ∧ w.frozen? ⟨R, 5, none⟩ = false := by
  have hb := h.box
  simp [World.frozen?, hb]

set_option maxRecDepth 100000 in
theorem rone_any (x : Bool) (w : World) : Calls Tryd.prog 50 #[.bool x] w fun e w' => e = .returned (.int .i64 (truthI x)) ∧ w' = w := by
  cases x
  all_goals go_enter Tryd.func50, Tryd.ntmps50
  all_goals go_wp2
  all_goals go_ret
  all_goals exact ⟨rfl, rfl⟩

theorem sign_none (s : ByteArray) (hs : s.size ≠ 0) : ((ByteArray.mk #[]).toList == s.toList) = false := by
  rw [beq_eq_false_iff_ne]
  intro e
  rw [toList_data, toList_data] at e
  apply hs
  have := congrArg List.length e
  simp at this
  exact this.symm

set_option maxRecDepth 100000 in
set_option maxHeartbeats 1000000 in
/-- Is: whether a sign stands there. -/
theorem is_any (R : Nat) (a : Option Addr) (c : Nat) (ts : List Tk) (e f g d q : Int) (k : Nat) (s : ByteArray) (hs : s.size ≠ 0) (w : World) (h : CAt w R a c ts e f g d q) :
    Calls Tryd.prog 33 #[.pointer (some ⟨R, 0, none⟩), .int .i64 (k : Int), .string s] w fun e w' => e = .returned (.bool ((signAt ts k).toList == s.toList)) ∧ w' = w := by
  obtain ⟨b0, _⟩ := h.facts
  have hk0 : (0 : Int) ≤ (k : Int) := by omega
  by_cases hlt : k < ts.length
  · rcases h.toks with h0 | ⟨bb, off, rfl, hbb, hc⟩
    · rw [h0] at hlt; simp at hlt
    have hx : ts[k]? = some ts[k] := List.getElem?_eq_getElem hlt
    have hcx := hc k _ hx
    have HS : Hid (signAt ts k = if ts[k].kind = 5 then ts[k].text else ⟨#[]⟩) := by show _ = _; unfold signAt; rw [hx]
    generalize ts[k] = t at hcx HS
    obtain ⟨tk, tt, tsp, tfi, tf, tl, th, tn⟩ := t
    have c0 := hcx 0 _ rfl
    have c1 := hcx 1 _ rfl
    simp only [Nat.add_zero] at c0
    dsimp only at HS
    generalize signAt ts k = X at HS ⊢
    have hki : (k : Int) < (ts.length : Int) := by omega
    have hkd : decide ((k : Int) < (ts.length : Int)) = true := decide_eq_true hki
    clear hcx hx hc h
    by_cases h5 : tk = 5
    · have HE := HS.out.trans (if_pos h5)
      subst h5
      subst HE
      clear HS
      go_enter Tryd.func33, Tryd.ntmps33
      go_wp2_with fail
      go_ret
      exact ⟨rfl, rfl⟩
    · have HE := HS.out.trans (if_neg h5)
      rw [HE, sign_none s hs]
      have hb5 : (tk == 5) = false := by simpa using h5
      clear HS HE
      go_enter Tryd.func33, Tryd.ntmps33
      go_wp2_with fail
      go_ret
      exact ⟨rfl, rfl⟩
  · have HE : signAt ts k = ⟨#[]⟩ := by unfold signAt; rw [List.getElem?_eq_none (by omega)]
    rw [HE, sign_none s hs]
    have hkd : decide ((k : Int) < (ts.length : Int)) = false := decide_eq_false (by omega)
    clear HE h
    go_enter Tryd.func33, Tryd.ntmps33
    go_wp2_with fail
    go_ret
    exact ⟨rfl, rfl⟩

/-- A block that holds a fault. -/
def FBx (w : World) (B : Nat) (e f g : Int) : Prop := w.heap[B]? = some (.cells #[.int .i64 e, .int .i64 f, .int .i64 g] 25)
theorem FBx.facts {w : World} {B : Nat} {e f g : Int} (h : FBx w B e f g) :
    w.cell? ⟨B, 0, none⟩ = some (.int .i64 e) ∧ w.cell? ⟨B, 1, none⟩ = some (.int .i64 f) ∧ w.cell? ⟨B, 2, none⟩ = some (.int .i64 g) ∧ w.frozen? ⟨B, 0, none⟩ = false ∧ w.frozen? ⟨B, 1, none⟩ = false ∧ w.frozen? ⟨B, 2, none⟩ = false := by
  unfold FBx at h
  simp [World.cell?, World.frozen?, h]
theorem FBx.new (w : World) (e f g : Int) : FBx (w.alloc (.cells #[.int .i64 e, .int .i64 f, .int .i64 g] 25)) w.heap.size e f g := heap_alloc_new w _
theorem FBx.below {w w' : World} {B : Nat} {e f g : Int} (h : FBx w B e f g) (hb : Below w.heap.size w w') : FBx w' B e f g := (hb.block B (lt_of_block h)).trans h
theorem FBx.set {w : World} {B : Nat} {e f g : Int} (h : FBx w B e f g) (e' f' g' : Int) :
    FBx (((w.setCell ⟨B, 0, none⟩ (.int .i64 e')).setCell ⟨B, 1, none⟩ (.int .i64 f')).setCell ⟨B, 2, none⟩ (.int .i64 g')) B e' f' g' := by
  have h1 := Go.Joins.block_setCell (i := 0) h (.int .i64 e')
  have h2 := Go.Joins.block_setCell (i := 1) h1 (.int .i64 f')
  have h3 := Go.Joins.block_setCell (i := 2) h2 (.int .i64 g')
  unfold FBx
  simpa using h3
theorem FBx.frame {w w1 : World} {base B : Nat} (hb : Below base w w1) (hB : base ≤ B) (u v x : Value) : Below base w (((w1.setCell ⟨B, 0, none⟩ u).setCell ⟨B, 1, none⟩ v).setCell ⟨B, 2, none⟩ x) :=
  ((hb.setCell (p := ⟨B, 0, none⟩) hB u).setCell (p := ⟨B, 1, none⟩) hB v).setCell (p := ⟨B, 2, none⟩) hB x
theorem at_ret {W : World} {F : Nat} {e f g : Int} (hF : FBx W F e f g) (tmps : Array Value) (h3 : tmps.getD 6 undef = .pointer (some ⟨F, 0, none⟩)) :
    (results Tryd.f34 tmps).run Tryd.prog W = .ok (.agg #[.int .i64 e, .int .i64 f, .int .i64 g]) W := by
  obtain ⟨c0, c1, c2, _⟩ := hF.facts
  simp at h3
  simp [results, Tryd.results34, go_sem, h3, c0, c1, c2]

set_option maxRecDepth 100000 in
set_option maxHeartbeats 1000000 in
/-- At: where token i stands; behind the last one, if there is none. -/
theorem at_any (a : Option Addr) (c : Nat) (ts : List Tk) (i : Nat) (e0 : Int) (w : World) (hT : TAt w a ts) (hl : ts.length ≤ 3000) :
    Calls Tryd.prog 34 #[.slice a ts.length c, .int .i64 (i : Int), .int .i64 e0] w fun e w' => e = .returned (.agg #[.int .i64 e0, .int .i64 (placeOf ts i).1, .int .i64 (placeOf ts i).2]) ∧ Below w.heap.size w w' := by
  have hi0 : (0 : Int) ≤ (i : Int) := by omega
  by_cases hlt : i < ts.length
  · rcases hT with h0 | ⟨bb, off, rfl, hbb, hc⟩
    · rw [h0] at hlt; simp at hlt
    have hx : ts[i]? = some ts[i] := List.getElem?_eq_getElem hlt
    have hcx := hc i _ hx
    have HP : Hid (placeOf ts i = (ts[i].file, ts[i].lo)) := by show _ = _; unfold placeOf; rw [hx]
    generalize ts[i] = t at hcx HP
    obtain ⟨tk, tt, tsp, tfi, tf, tl, th, tn⟩ := t
    have c4 := hcx 4 _ rfl
    have c5 := hcx 5 _ rfl
    rw [HP.out]
    have hii : (i : Int) < (ts.length : Int) := by omega
    have HK : Hid (∀ W, Below w.heap.size w W → W.cell? ⟨bb, off + i * 11 + 4, none⟩ = some (.int .i64 tf) ∧ W.cell? ⟨bb, off + i * 11 + 5, none⟩ = some (.int .i64 tl)) := fun W hW =>
      ⟨(hW.cell (p := ⟨bb, _, none⟩) hbb).trans c4, (hW.cell (p := ⟨bb, _, none⟩) hbb).trans c5⟩
    obtain ⟨z0, z1, z2, z3, z4, z5⟩ := (FBx.new w 0 0 0).facts
    clear hcx hx hc HP
    go_enter Tryd.func34, Tryd.ntmps34
    go_wp2_with fail
    go_region_held3 (fun W => W.cell? ⟨bb, off + i * 11 + 4, none⟩ = some (.int .i64 tf) ∧ W.cell? ⟨bb, off + i * 11 + 5, none⟩ = some (.int .i64 tl))
      (exact HK.out _ (by repeat' (first | exact Below.refl _ _ | apply Below.drew | apply Below.setCell | apply Below.alloc | (simp; done))))
      (fail)
    all_goals go_wp2_with fail
    all_goals (have HF : FBx (w.alloc (.cells #[.int .i64 e0, .int .i64 tf, .int .i64 tl] 25)).drew w.heap.size e0 tf tl := FBx.new w e0 tf tl)
    all_goals exact bodyPost_ret (at_ret HF _ rfl) rfl ⟨rfl, ((Below.refl _ w).alloc (Nat.le_refl _) _).drew⟩
  · rcases hn : ts.length with _ | n
    · have hts : ts = [] := List.eq_nil_of_length_eq_zero hn
      subst hts
      have hp : placeOf [] i = (-1, 0) := by unfold placeOf; simp
      rw [hp]
      clear hn hlt hp
      obtain ⟨z0, z1, z2, z3, z4, z5⟩ := (FBx.new w 0 0 0).facts
      have hnl : ¬ ((i : Int) < 0) := by omega
      go_enter Tryd.func34, Tryd.ntmps34
      go_wp2_with fail
      exact bodyPost_ret (at_ret (FBx.new w e0 (-1) 0) _ rfl) rfl ⟨rfl, (Below.refl _ w).alloc (Nat.le_refl _) _⟩
    · rcases hT with h0 | ⟨bb, off, rfl, hbb, hc⟩
      · rw [h0] at hn; simp at hn
      have hx : ts[n]? = some (ts[n]'(by omega)) := List.getElem?_eq_getElem _
      have hcx := hc n _ hx
      have HP : Hid (placeOf ts i = ((ts[n]'(by omega)).file, (ts[n]'(by omega)).hi)) := by
        show _ = _
        unfold placeOf
        rw [List.getElem?_eq_none (by omega)]
        have : ts.getLast? = ts[n]? := by rw [List.getLast?_eq_getElem?, show ts.length - 1 = n by omega]
        rw [this, hx]
      generalize ts[n]'(by omega) = t at hcx HP
      obtain ⟨tk, tt, tsp, tfi, tf, tl, th, tn⟩ := t
      have c0 := hcx 0 _ rfl
      have c1 := hcx 1 _ rfl
      have c2 := hcx 2 _ rfl
      have c3 := hcx 3 _ rfl
      have c4 := hcx 4 _ rfl
      have c5 := hcx 5 _ rfl
      have c6 := hcx 6 _ rfl
      have c7 := hcx 7 _ rfl
      have c8 := hcx 8 _ rfl
      have c9 := hcx 9 _ rfl
      have c10 := hcx 10 _ rfl
      simp only [Nat.add_zero] at c0
      rw [HP.out]
      obtain ⟨N, hN⟩ : ∃ N, n + 1 = N := ⟨_, rfl⟩
      rw [hN]
      have hwn : IntKind.i64.wrap ((N : Int) - 1) = (n : Int) := by rw [IntKind.wrap_i64]; omega
      have hn0 : (0 : Int) ≤ (n : Int) := by omega
      have hnN : (n : Int) < (N : Int) := by omega
      have hnN2 : n < N := by omega
      have hN0 : (0 : Int) < (N : Int) := by omega
      have hnl : ¬ ((i : Int) < (N : Int)) := by omega
      obtain ⟨z0, z1, z2, z3, z4, z5⟩ := (FBx.new w 0 0 0).facts
      clear hcx hx hc HP hn hN hlt hl
      go_enter Tryd.func34, Tryd.ntmps34
      go_wp2_with fail
      exact bodyPost_ret (at_ret ((FBx.new w e0 tf th).below ((Below.refl _ _).alloc (Nat.le_refl _) _)) _ rfl) rfl ⟨rfl, ((Below.refl _ w).alloc (Nat.le_refl _) _).alloc (by simp) _⟩

theorem kept_bad {w w1 : World} {R : Nat} (h : Kept (· = R) w w1) (u v x : Value) : Kept (· = R) w (((w1.setCell ⟨R, 1, none⟩ u).setCell ⟨R, 2, none⟩ v).setCell ⟨R, 3, none⟩ x) :=
  ((h.setCell rfl u).setCell rfl v).setCell rfl x
set_option maxRecDepth 100000 in
set_option maxHeartbeats 1000000 in
/-- Stop: the first fault is kept. -/
theorem stop_any (R : Nat) (a : Option Addr) (c : Nat) (ts : List Tk) (f g d q : Int) (i : Nat) (e0 : Int) (w : World) (h : CAt w R a c ts 0 f g d q) (hl : ts.length ≤ 3000) :
    Calls Tryd.prog 19 #[.pointer (some ⟨R, 0, none⟩), .int .i64 (i : Int), .int .i64 e0] w fun e w' => e = .returned (.tuple #[]) ∧ Kept (· = R) w w' ∧ CAt w' R a c ts e0 (placeOf ts i).1 (placeOf ts i).2 d q := by
  have HA := hid (at_any a c ts i e0 w h.toks hl)
  have HC := hid h
  obtain ⟨b0, b1, b2, b3, _⟩ := h.facts
  clear h
  go_enter Tryd.func19, Tryd.ntmps19
  go_wp2_with fail
  refine HA.out.mono ?_
  rintro e w1 ⟨rfl, hb1⟩
  have HC1 := hid (HC.out.below hb1)
  have HK1 : Hid (Kept (· = R) w w1) := kept_of_below hb1
  obtain ⟨z1, z2, z3, _⟩ := HC1.out.warm
  obtain ⟨_, y1, y2, y3, _⟩ := HC1.out.facts
  clear hb1 HA HC b0 b1 b2 b3
  go_wp2_with fail
  go_end0
  exact ⟨rfl, kept_bad HK1.out _ _ _, HC1.out.bad _ _ _⟩
set_option maxRecDepth 100000 in
theorem stop_no (R : Nat) (a : Option Addr) (c : Nat) (ts : List Tk) (e f g d q : Int) (he : e ≠ 0) (i : Int) (e0 : Int) (w : World) (h : CAt w R a c ts e f g d q) :
    Calls Tryd.prog 19 #[.pointer (some ⟨R, 0, none⟩), .int .i64 i, .int .i64 e0] w fun e w' => e = .returned (.tuple #[]) ∧ w' = w := by
  obtain ⟨b0, b1, _⟩ := h.facts
  have hb : (e != 0) = true := by simpa using he
  clear h
  go_enter Tryd.func19, Tryd.ntmps19
  go_wp2_with fail
  refine bodyPost_ret (results_none rfl _ _ _) rfl ?_
  exact ⟨rfl, rfl⟩
end Go.Proofs.YtienjifhkmekcaaDoor
namespace Go.Proofs.YtienjifhkmekcaaDoor
open Go.RowKit Go.Shelf Go.Maps Go.WideMaps

/-- An int. -/
def IsI (n : Int) : Prop := -9223372036854775808 ≤ n ∧ n ≤ 9223372036854775807
theorem isI_truth (x : Bool) : IsI (truthI x) := by cases x <;> (unfold IsI; decide)
theorem isI_wrap (x : Int) : IsI (wrap64 x) := bounds_i64 (wrap64_wf x)
theorem isI_bits (o : BinOp) (x y : Int) : IsI (bits o .i64 x y) := bounds_i64 (wf_bits o .i64 x y)
theorem isI_kwrap (x : Int) : IsI (IntKind.i64.wrap x) := bounds_i64 (wf_wrap .i64 x)
theorem owns_drew {H : Type} {w : World} {P : Program} {k : TypeId} {R : Value → Option (DataW H × List MemPlace)} {B n : Nat} {D : DataW H} (h : w.ownsMap P k R B n D) : w.drew.ownsMap P k R B n D := h
/-- What a map of these holds. -/
def Told {H : Type} (L : List (List UInt8 × Int)) (D : DataW H) : Prop := Maps.IsMap D ∧ ∀ s zd, D.atKey (.string s) zd = match L.find? (fun p => p.1 == s) with | some p => .lit (.int .i64 p.2) | none => zd
theorem Told.none {H : Type} : Told (H := H) [] (.map []) := ⟨⟨_, rfl⟩, fun _ _ => rfl⟩
theorem Told.put {H : Type} {L : List (List UInt8 × Int)} {D : DataW H} (h : Told L D) (s : List UInt8) (c : Int) : Told ((s, c) :: L) (D.put (.string s) (.lit (.int .i64 c))) := by
  refine ⟨h.1.put _ _, fun t zd => ?_⟩
  by_cases e : t = s
  · subst e
    rw [Maps.atKey_put_same h.1 (show WideAt.IsKeyLit (.string t) from trivial)]
    simp
  · have e' : Lit.string t ≠ Lit.string s := fun h => e (by injection h)
    rw [Maps.atKey_put_other e', h.2 t zd]
    have : (s == t) = false := by rw [beq_eq_false_iff_ne]; exact fun h => e h.symm
    simp [List.find?, this]
theorem rLaw : Keyed Tryd.prog 9 := string_keyed Tryd.underlying9
theorem zeroI (w : World) : (zeroValue 3).run Tryd.prog w = .ok (.int .i64 0) w := by kernel_rfl
theorem run_ins {H : Type} {w : World} {B n : Nat} {D : DataW H} {L : List (List UInt8 × Int)} {s : ByteArray} {c : Int} {α : Type} (G : Result α → Prop) (f : Unit → World → Result α) (hown : w.ownsMap Tryd.prog 9 (plainElem Tryd.prog 3) B n D) (hL : Told L D) (hn : n < 1000) (hs : s.size ≤ 1000) (hc : IsI c)
    (h : ∀ (w' : World) (D' : DataW H), w'.ownsMap Tryd.prog 9 (plainElem Tryd.prog 3) B (n + 1) D' → Told ((s.data.toList, c) :: L) D' → w.grownBy w' (some B) → G (f () w')) :
    G (((Instr.mapUpdate 104 (.map (some B)) (.string s) (.int .i64 c)).run Tryd.prog w).andThen f) := by
  obtain ⟨w', hrun, r1, r2⟩ := hown.update rLaw Tryd.underlying104 (by unfold maxLen; omega) (keyOf_string_mk Tryd.underlying9 (s := s) (by unfold maxLen; omega)) (plainElem_int Tryd.underlying3 (WalkArith.wf_i64 hc))
  rw [hrun]
  exact h w' _ r1 (hL.put _ _) r2
def lookL (L : List (List UInt8 × Int)) (s : List UInt8) : Int := match L.find? (fun p => p.1 == s) with
  | some p => p.2
  | none => 0
set_option maxRecDepth 10000 in
theorem run_look {H : Type} {w : World} {B n : Nat} {D : DataW H} {L : List (List UInt8 × Int)} (s : ByteArray) (hown : w.ownsMap Tryd.prog 9 (plainElem Tryd.prog 3) B n D) (hL : Told L D) (hs : s.size ≤ 3000) :
    (Instr.lookup 104 (.map (some B)) (.string s) false).run Tryd.prog w = .ok (.int .i64 (lookL L s.data.toList)) w := by
  obtain ⟨c, hrun, hat, _⟩ := hown.lookup_int rLaw Tryd.underlying104 Tryd.underlying3 (zeroI w) (keyOf_string_mk Tryd.underlying9 (s := s) (by unfold maxLen; omega))
  rw [hrun]
  rw [hL.2] at hat
  unfold lookL
  split at hat
  · rename_i p hp
    have h2 : p.2 = c := by simpa using hat
    exact congrArg (fun z => Result.ok (Value.int .i64 z) w) h2.symm
  · have h2 : 0 = c := by simpa using hat
    exact congrArg (fun z => Result.ok (Value.int .i64 z) w) h2.symm
theorem run_lk {H : Type} {w : World} {B n : Nat} {D : DataW H} {L : List (List UInt8 × Int)} {s : ByteArray} {α : Type} (G : Result α → Prop) (f : Value → World → Result α) (hown : w.ownsMap Tryd.prog 9 (plainElem Tryd.prog 3) B n D) (hL : Told L D) (hs : s.size ≤ 3000)
    (h : G (f (.int .i64 (lookL L s.data.toList)) w)) : G (((Instr.lookup 104 (.map (some B)) (.string s) false).run Tryd.prog w).andThen f) := by
  rw [run_look s hown hL hs]
  exact h
end Go.Proofs.YtienjifhkmekcaaDoor
namespace Go.Proofs.YtienjifhkmekcaaDoor
open Go.RowKit Go.Shelf Go.Maps Go.WideMaps

/-- What signs make of two numbers: the last one written first. -/
def opL (x y : Int) : List (List UInt8 × Int) := [([42], wrap64 (x * y)), ([45], wrap64 (x - y)), ([43], wrap64 (x + y)), ([62, 61], truthI (decide (y ≤ x))), ([60, 61], truthI (decide (x ≤ y))), ([62], truthI (decide (y < x))), ([60], truthI (decide (x < y))), ([33, 61], truthI (x != y)), ([61, 61], truthI (x == y)), ([38], bits .and .i64 x y), ([94], bits .xor .i64 x y), ([124], bits .or .i64 x y)]
def plainSigns : List (List UInt8) := [[42], [45], [43], [62, 61], [60, 61], [62], [60], [33, 61], [61, 61], [38], [94], [124]]
theorem look_plain (x y : Int) : ∀ s ∈ plainSigns, lookL (opL x y) s = reckonL s x y := by
  intro s hs
  simp only [plainSigns, List.mem_cons, List.not_mem_nil, or_false] at hs
  rcases hs with rfl | rfl | rfl | rfl | rfl | rfl | rfl | rfl | rfl | rfl | rfl | rfl
  all_goals rfl

set_option maxRecDepth 100000 in
set_option maxHeartbeats 4000000 in
theorem op_plain (R : Nat) (a : Option Addr) (c : Nat) (ts : List Tk) (e f g d q : Int) (i : Nat) (s : ByteArray) (x y : Int) (t : Tk) (ht : ts[i]? = some t) (hs : t.text = s) (hsz : s.size ≤ 3000)
    (n1 : (s.toList == [60, 60]) = false) (n2 : (s.toList == [62, 62]) = false) (n3 : (s.toList == [47]) = false) (n4 : (s.toList == [37]) = false) (w : World) (h : CAt w R a c ts e f g d q) :
    Calls Tryd.prog 51 #[.pointer (some ⟨R, 0, none⟩), .int .i64 (i : Int), .int .i64 x, .int .i64 y] w fun e w' => e = .returned (.int .i64 (lookL (opL x y) s.data.toList)) ∧ Below w.heap.size w w' := by
  obtain ⟨b0, _⟩ := h.facts
  have hlt := (List.getElem?_eq_some_iff.1 ht).1
  rcases h.toks with h0 | ⟨bb, off, rfl, hbb, hc⟩
  · rw [h0] at hlt; simp at hlt
  have c1 := hc i _ ht 1 _ rfl
  rw [hs] at c1
  have hii : (i : Int) < (ts.length : Int) := by omega
  have hi0 : (0 : Int) ≤ (i : Int) := by omega
  have H1 := hid (fun x W => rone_any x W)
  have hmm := @run_makeMap Tryd.prog
  clear hc h ht hs
  have HO := hid (World.ownsMap_made (H := Unit) w Tryd.prog 9 (plainElem Tryd.prog 3))
  have HL := hid (Told.none (H := Unit))
  have HB := hid ((Below.refl _ w).alloc (Nat.le_refl _) (.map #[] 0))
  go_enter Tryd.func51, Tryd.ntmps51
  go_wp2_with (go_at_call 50; refine (H1.out _ _).mono ?_; rintro e w' ⟨rfl, hww⟩; subst w')
  refine run_ins (G := fun r => Oper.upon _ _ _ _ _ r) _ HO.out HL.out (by omega) (by decide) (by first | exact isI_wrap _ | exact isI_bits _ _ _ | exact isI_truth _) ?_
  intro w1 D1 hO1 hL1 hg1
  have HO1 := hid hO1
  have HL1 := hid hL1
  have HB1 := hid (HB.out.grown hg1 HB.out.size (fun k hk => by cases hk; exact Nat.le_refl _))
  clear hO1 hL1 hg1 HO HL HB
  go_wp2_with (go_at_call 50; refine (H1.out _ _).mono ?_; rintro e w' ⟨rfl, hww⟩; subst w')
  refine run_ins (G := fun r => Oper.upon _ _ _ _ _ r) _ HO1.out HL1.out (by omega) (by decide) (by first | exact isI_wrap _ | exact isI_bits _ _ _ | exact isI_truth _) ?_
  intro w2 D2 hO2 hL2 hg2
  have HO2 := hid hO2
  have HL2 := hid hL2
  have HB2 := hid (HB1.out.grown hg2 HB1.out.size (fun k hk => by cases hk; exact Nat.le_refl _))
  clear hO2 hL2 hg2 HO1 HL1 HB1
  go_wp2_with (go_at_call 50; refine (H1.out _ _).mono ?_; rintro e w' ⟨rfl, hww⟩; subst w')
  refine run_ins (G := fun r => Oper.upon _ _ _ _ _ r) _ HO2.out HL2.out (by omega) (by decide) (by first | exact isI_wrap _ | exact isI_bits _ _ _ | exact isI_truth _) ?_
  intro w3 D3 hO3 hL3 hg3
  have HO3 := hid hO3
  have HL3 := hid hL3
  have HB3 := hid (HB2.out.grown hg3 HB2.out.size (fun k hk => by cases hk; exact Nat.le_refl _))
  clear hO3 hL3 hg3 HO2 HL2 HB2
  go_wp2_with (go_at_call 50; refine (H1.out _ _).mono ?_; rintro e w' ⟨rfl, hww⟩; subst w')
  refine run_ins (G := fun r => Oper.upon _ _ _ _ _ r) _ HO3.out HL3.out (by omega) (by decide) (by first | exact isI_wrap _ | exact isI_bits _ _ _ | exact isI_truth _) ?_
  intro w4 D4 hO4 hL4 hg4
  have HO4 := hid hO4
  have HL4 := hid hL4
  have HB4 := hid (HB3.out.grown hg4 HB3.out.size (fun k hk => by cases hk; exact Nat.le_refl _))
  clear hO4 hL4 hg4 HO3 HL3 HB3
  go_wp2_with (go_at_call 50; refine (H1.out _ _).mono ?_; rintro e w' ⟨rfl, hww⟩; subst w')
  refine run_ins (G := fun r => Oper.upon _ _ _ _ _ r) _ HO4.out HL4.out (by omega) (by decide) (by first | exact isI_wrap _ | exact isI_bits _ _ _ | exact isI_truth _) ?_
  intro w5 D5 hO5 hL5 hg5
  have HO5 := hid hO5
  have HL5 := hid hL5
  have HB5 := hid (HB4.out.grown hg5 HB4.out.size (fun k hk => by cases hk; exact Nat.le_refl _))
  clear hO5 hL5 hg5 HO4 HL4 HB4
  go_wp2_with (go_at_call 50; refine (H1.out _ _).mono ?_; rintro e w' ⟨rfl, hww⟩; subst w')
  refine run_ins (G := fun r => Oper.upon _ _ _ _ _ r) _ HO5.out HL5.out (by omega) (by decide) (by first | exact isI_wrap _ | exact isI_bits _ _ _ | exact isI_truth _) ?_
  intro w6 D6 hO6 hL6 hg6
  have HO6 := hid hO6
  have HL6 := hid hL6
  have HB6 := hid (HB5.out.grown hg6 HB5.out.size (fun k hk => by cases hk; exact Nat.le_refl _))
  clear hO6 hL6 hg6 HO5 HL5 HB5
  go_wp2_with (go_at_call 50; refine (H1.out _ _).mono ?_; rintro e w' ⟨rfl, hww⟩; subst w')
  refine run_ins (G := fun r => Oper.upon _ _ _ _ _ r) _ HO6.out HL6.out (by omega) (by decide) (by first | exact isI_wrap _ | exact isI_bits _ _ _ | exact isI_truth _) ?_
  intro w7 D7 hO7 hL7 hg7
  have HO7 := hid hO7
  have HL7 := hid hL7
  have HB7 := hid (HB6.out.grown hg7 HB6.out.size (fun k hk => by cases hk; exact Nat.le_refl _))
  clear hO7 hL7 hg7 HO6 HL6 HB6
  go_wp2_with (go_at_call 50; refine (H1.out _ _).mono ?_; rintro e w' ⟨rfl, hww⟩; subst w')
  refine run_ins (G := fun r => Oper.upon _ _ _ _ _ r) _ HO7.out HL7.out (by omega) (by decide) (by first | exact isI_wrap _ | exact isI_bits _ _ _ | exact isI_truth _) ?_
  intro w8 D8 hO8 hL8 hg8
  have HO8 := hid hO8
  have HL8 := hid hL8
  have HB8 := hid (HB7.out.grown hg8 HB7.out.size (fun k hk => by cases hk; exact Nat.le_refl _))
  clear hO8 hL8 hg8 HO7 HL7 HB7
  go_wp2_with (go_at_call 50; refine (H1.out _ _).mono ?_; rintro e w' ⟨rfl, hww⟩; subst w')
  refine run_ins (G := fun r => Oper.upon _ _ _ _ _ r) _ HO8.out HL8.out (by omega) (by decide) (by first | exact isI_wrap _ | exact isI_bits _ _ _ | exact isI_truth _) ?_
  intro w9 D9 hO9 hL9 hg9
  have HO9 := hid hO9
  have HL9 := hid hL9
  have HB9 := hid (HB8.out.grown hg9 HB8.out.size (fun k hk => by cases hk; exact Nat.le_refl _))
  clear hO9 hL9 hg9 HO8 HL8 HB8
  go_wp2_with (go_at_call 50; refine (H1.out _ _).mono ?_; rintro e w' ⟨rfl, hww⟩; subst w')
  refine run_ins (G := fun r => Oper.upon _ _ _ _ _ r) _ HO9.out HL9.out (by omega) (by decide) (by first | exact isI_wrap _ | exact isI_bits _ _ _ | exact isI_truth _) ?_
  intro w10 D10 hO10 hL10 hg10
  have HO10 := hid hO10
  have HL10 := hid hL10
  have HB10 := hid (HB9.out.grown hg10 HB9.out.size (fun k hk => by cases hk; exact Nat.le_refl _))
  clear hO10 hL10 hg10 HO9 HL9 HB9
  go_wp2_with (go_at_call 50; refine (H1.out _ _).mono ?_; rintro e w' ⟨rfl, hww⟩; subst w')
  refine run_ins (G := fun r => Oper.upon _ _ _ _ _ r) _ HO10.out HL10.out (by omega) (by decide) (by first | exact isI_wrap _ | exact isI_bits _ _ _ | exact isI_truth _) ?_
  intro w11 D11 hO11 hL11 hg11
  have HO11 := hid hO11
  have HL11 := hid hL11
  have HB11 := hid (HB10.out.grown hg11 HB10.out.size (fun k hk => by cases hk; exact Nat.le_refl _))
  clear hO11 hL11 hg11 HO10 HL10 HB10
  go_wp2_with (go_at_call 50; refine (H1.out _ _).mono ?_; rintro e w' ⟨rfl, hww⟩; subst w')
  refine run_ins (G := fun r => Oper.upon _ _ _ _ _ r) _ HO11.out HL11.out (by omega) (by decide) (by first | exact isI_wrap _ | exact isI_bits _ _ _ | exact isI_truth _) ?_
  intro w12 D12 hO12 hL12 hg12
  have HO12 := hid hO12
  have HL12 := hid hL12
  have HB12 := hid (HB11.out.grown hg12 HB11.out.size (fun k hk => by cases hk; exact Nat.le_refl _))
  clear hO12 hL12 hg12 HO11 HL11 HB11
  have hlook := run_look s HO12.out (show Told (opL x y) D12 from HL12.out) hsz
  go_wp2_with fail
  go_ret
  exact ⟨rfl, HB12.out⟩
end Go.Proofs.YtienjifhkmekcaaDoor
namespace Go.Proofs.YtienjifhkmekcaaDoor
open Go.RowKit Go.Shelf Go.Maps Go.WideMaps

set_option maxRecDepth 100000 in
set_option maxHeartbeats 2000000 in
theorem div_wrong (R : Nat) (a : Option Addr) (c : Nat) (ts : List Tk) (f g d q : Int) (i : Nat) (x y : Int) (t : Tk) (ht : ts[i]? = some t) (hs : t.text = ⟨#[47]⟩) (hl : ts.length ≤ 3000) (hy : y = 0) (hq : q = 0) (w : World) (h : CAt w R a c ts 0 f g d q) :
    Calls Tryd.prog 51 #[.pointer (some ⟨R, 0, none⟩), .int .i64 (i : Int), .int .i64 x, .int .i64 y] w fun e w' => e = .returned (.int .i64 0) ∧ Kept (· = R) w w' ∧ CAt w' R a c ts 13 (placeOf ts i).1 (placeOf ts i).2 d q := by
  obtain ⟨b0, b1, b2, b3, b4, b5⟩ := h.facts
  have hlt := (List.getElem?_eq_some_iff.1 ht).1
  have HC := hid h
  have HT := h.toks
  rcases HT with h0 | ⟨bb, off, rfl, hbb, hc⟩
  · rw [h0] at hlt; simp at hlt
  have c1 := hc i _ ht 1 _ rfl
  rw [hs] at c1
  have hii : (i : Int) < (ts.length : Int) := by omega
  have hi0 : (0 : Int) ≤ (i : Int) := by omega
  have HS := hid (stop_any R _ c ts f g d q i 13 w HC.out hl)
  subst hy hq
  clear hc h ht hs HC
  go_enter Tryd.func51, Tryd.ntmps51
  go_wp2_with fail
  refine HS.out.mono ?_
  rintro e w1 ⟨rfl, hk1, hc1⟩
  go_wp2_with fail
  go_ret
  exact ⟨rfl, hk1, hc1⟩

set_option maxRecDepth 100000 in
set_option maxHeartbeats 2000000 in
theorem div_idle (R : Nat) (a : Option Addr) (c : Nat) (ts : List Tk) (f g d q : Int) (i : Nat) (x y : Int) (t : Tk) (ht : ts[i]? = some t) (hs : t.text = ⟨#[47]⟩) (hy : y = 0) (hq : (q == 0) = false) (w : World) (h : CAt w R a c ts 0 f g d q) :
    Calls Tryd.prog 51 #[.pointer (some ⟨R, 0, none⟩), .int .i64 (i : Int), .int .i64 x, .int .i64 y] w fun e w' => e = .returned (.int .i64 0) ∧ w' = w := by
  obtain ⟨b0, b1, b2, b3, b4, b5⟩ := h.facts
  have hlt := (List.getElem?_eq_some_iff.1 ht).1
  have HC := hid h
  have HT := h.toks
  rcases HT with h0 | ⟨bb, off, rfl, hbb, hc⟩
  · rw [h0] at hlt; simp at hlt
  have c1 := hc i _ ht 1 _ rfl
  rw [hs] at c1
  have hii : (i : Int) < (ts.length : Int) := by omega
  have hi0 : (0 : Int) ≤ (i : Int) := by omega
  subst hy
  clear hc h ht hs HC
  go_enter Tryd.func51, Tryd.ntmps51
  go_wp2_with fail
  go_ret
  exact ⟨rfl, rfl⟩

set_option maxRecDepth 100000 in
set_option maxHeartbeats 2000000 in
theorem div_neg (R : Nat) (a : Option Addr) (c : Nat) (ts : List Tk) (f g d q : Int) (i : Nat) (x y : Int) (t : Tk) (ht : ts[i]? = some t) (hs : t.text = ⟨#[47]⟩) (hy : y = -1) (w : World) (h : CAt w R a c ts 0 f g d q) :
    Calls Tryd.prog 51 #[.pointer (some ⟨R, 0, none⟩), .int .i64 (i : Int), .int .i64 x, .int .i64 y] w fun e w' => e = .returned (.int .i64 (reckonL [47] x y)) ∧ Below w.heap.size w w' := by
  obtain ⟨b0, b1, b2, b3, b4, b5⟩ := h.facts
  have hlt := (List.getElem?_eq_some_iff.1 ht).1
  have HC := hid h
  have HT := h.toks
  rcases HT with h0 | ⟨bb, off, rfl, hbb, hc⟩
  · rw [h0] at hlt; simp at hlt
  have c1 := hc i _ ht 1 _ rfl
  rw [hs] at c1
  have hii : (i : Int) < (ts.length : Int) := by omega
  have hi0 : (0 : Int) ≤ (i : Int) := by omega
  subst hy
  clear hc h ht hs HC
  have HO := hid (World.ownsMap_made (H := Unit) w Tryd.prog 9 (plainElem Tryd.prog 3))
  have HL := hid (Told.none (H := Unit))
  have HB := hid ((Below.refl _ w).alloc (Nat.le_refl _) (.map #[] 0))
  have hmm := @run_makeMap Tryd.prog
  go_enter Tryd.func51, Tryd.ntmps51
  go_wp2_with fail
  refine run_ins (G := fun r => Oper.upon _ _ _ _ _ r) _ HO.out HL.out (by omega) (by decide) (by first | exact isI_wrap _ | exact hm) ?_
  intro w1 D1 hO1 hL1 hg1
  have HO1 := hid hO1
  have HL1 := hid hL1
  have HB1 := hid (HB.out.grown hg1 HB.out.size (fun k hk => by cases hk; exact Nat.le_refl _))
  clear hO1 hL1 hg1 HO HL HB
  have hlook := run_look (⟨#[47]⟩ : ByteArray) HO1.out HL1.out (by decide)
  go_wp2_with fail
  go_ret
  refine ⟨?_, HB1.out⟩
  have hr : reckonL [47] x (-1) = wrap64 (-x) := by
    show wrap64 (x.tdiv (-1)) = wrap64 (-x)
    rw [Int.tdiv_neg, Int.tdiv_one]
  rw [hr]
  rfl

set_option maxRecDepth 100000 in
set_option maxHeartbeats 2000000 in
theorem div_plain (R : Nat) (a : Option Addr) (c : Nat) (ts : List Tk) (f g d q : Int) (i : Nat) (x y : Int) (t : Tk) (ht : ts[i]? = some t) (hs : t.text = ⟨#[47]⟩) (hy0 : (y == 0) = false) (hy1 : (y == -1) = false) (hx : IsI x) (w : World) (h : CAt w R a c ts 0 f g d q) :
    Calls Tryd.prog 51 #[.pointer (some ⟨R, 0, none⟩), .int .i64 (i : Int), .int .i64 x, .int .i64 y] w fun e w' => e = .returned (.int .i64 (reckonL [47] x y)) ∧ Below w.heap.size w w' := by
  obtain ⟨b0, b1, b2, b3, b4, b5⟩ := h.facts
  have hlt := (List.getElem?_eq_some_iff.1 ht).1
  have HC := hid h
  have HT := h.toks
  rcases HT with h0 | ⟨bb, off, rfl, hbb, hc⟩
  · rw [h0] at hlt; simp at hlt
  have c1 := hc i _ ht 1 _ rfl
  rw [hs] at c1
  have hii : (i : Int) < (ts.length : Int) := by omega
  have hi0 : (0 : Int) ≤ (i : Int) := by omega
  have hne : y ≠ 0 := by simpa using hy0
  have hm : IsI (x.tmod y) := by
    obtain ⟨h1, h2⟩ := hx
    have k1 : (x.tmod y).natAbs ≤ x.natAbs := by rw [Int.natAbs_tmod]; exact Nat.mod_le _ _
    unfold IsI
    by_cases hs : 0 ≤ x
    · have := Int.tmod_nonneg y hs
      omega
    · have h3 := Int.tmod_nonneg y (by omega : 0 ≤ -x)
      rw [Int.neg_tmod] at h3
      omega
  clear hc h ht hs HC
  have HO := hid (World.ownsMap_made (H := Unit) w Tryd.prog 9 (plainElem Tryd.prog 3))
  have HL := hid (Told.none (H := Unit))
  have HB := hid ((Below.refl _ w).alloc (Nat.le_refl _) (.map #[] 0))
  have hmm := @run_makeMap Tryd.prog
  go_enter Tryd.func51, Tryd.ntmps51
  go_wp2_with fail
  go_region_with (first
    | (refine run_lk (G := fun r => Oper.upon _ _ _ _ _ r) _ hO2 hL2 (by decide) ?_)
    | (refine run_lk (G := fun r => Oper.upon _ _ _ _ _ r) _ (owns_drew hO2) hL2 (by decide) ?_)
    | (refine run_ins (G := fun r => Oper.upon _ _ _ _ _ r) _ hO1 hL1 (by omega) (by decide) (by first | exact isI_kwrap _ | exact isI_wrap _ | exact hm) ?_; intro w2 D2 hO2 hL2 hg2)
    | (refine run_ins (G := fun r => Oper.upon _ _ _ _ _ r) _ (owns_drew hO1) hL1 (by omega) (by decide) (by first | exact isI_kwrap _ | exact isI_wrap _ | exact hm) ?_; intro w2 D2 hO2 hL2 hg2)
    | (refine run_ins (G := fun r => Oper.upon _ _ _ _ _ r) _ (owns_drew HO.out) HL.out (by omega) (by decide) (by first | exact isI_kwrap _ | exact isI_wrap _ | exact hm) ?_; intro w1 D1 hO1 hL1 hg1))
  all_goals (have HB2 : Hid (Below w.heap.size w w2) := ((HB.out.drew).grown hg1 (HB.out.drew).size (fun k hk => by cases hk; exact Nat.le_refl _)).grown hg2 (((HB.out.drew).grown hg1 (HB.out.drew).size (fun k hk => by cases hk; exact Nat.le_refl _))).size (fun k hk => by cases hk; exact Nat.le_refl _))
  all_goals clear hg1 hg2 hO1 hO2 hL1 hL2
  all_goals go_wp2_with fail
  all_goals go_ret
  all_goals exact ⟨by first | rfl | (show Ending.returned (.int .i64 (IntKind.i64.wrap _)) = _; rw [IntKind.wrap_i64]; rfl), HB2.out⟩

set_option maxRecDepth 100000 in
set_option maxHeartbeats 2000000 in
theorem mod_wrong (R : Nat) (a : Option Addr) (c : Nat) (ts : List Tk) (f g d q : Int) (i : Nat) (x y : Int) (t : Tk) (ht : ts[i]? = some t) (hs : t.text = ⟨#[37]⟩) (hl : ts.length ≤ 3000) (hy : y = 0) (hq : q = 0) (w : World) (h : CAt w R a c ts 0 f g d q) :
    Calls Tryd.prog 51 #[.pointer (some ⟨R, 0, none⟩), .int .i64 (i : Int), .int .i64 x, .int .i64 y] w fun e w' => e = .returned (.int .i64 0) ∧ Kept (· = R) w w' ∧ CAt w' R a c ts 13 (placeOf ts i).1 (placeOf ts i).2 d q := by
  obtain ⟨b0, b1, b2, b3, b4, b5⟩ := h.facts
  have hlt := (List.getElem?_eq_some_iff.1 ht).1
  have HC := hid h
  have HT := h.toks
  rcases HT with h0 | ⟨bb, off, rfl, hbb, hc⟩
  · rw [h0] at hlt; simp at hlt
  have c1 := hc i _ ht 1 _ rfl
  rw [hs] at c1
  have hii : (i : Int) < (ts.length : Int) := by omega
  have hi0 : (0 : Int) ≤ (i : Int) := by omega
  have HS := hid (stop_any R _ c ts f g d q i 13 w HC.out hl)
  subst hy hq
  clear hc h ht hs HC
  go_enter Tryd.func51, Tryd.ntmps51
  go_wp2_with fail
  refine HS.out.mono ?_
  rintro e w1 ⟨rfl, hk1, hc1⟩
  go_wp2_with fail
  go_ret
  exact ⟨rfl, hk1, hc1⟩

set_option maxRecDepth 100000 in
set_option maxHeartbeats 2000000 in
theorem mod_idle (R : Nat) (a : Option Addr) (c : Nat) (ts : List Tk) (f g d q : Int) (i : Nat) (x y : Int) (t : Tk) (ht : ts[i]? = some t) (hs : t.text = ⟨#[37]⟩) (hy : y = 0) (hq : (q == 0) = false) (w : World) (h : CAt w R a c ts 0 f g d q) :
    Calls Tryd.prog 51 #[.pointer (some ⟨R, 0, none⟩), .int .i64 (i : Int), .int .i64 x, .int .i64 y] w fun e w' => e = .returned (.int .i64 0) ∧ w' = w := by
  obtain ⟨b0, b1, b2, b3, b4, b5⟩ := h.facts
  have hlt := (List.getElem?_eq_some_iff.1 ht).1
  have HC := hid h
  have HT := h.toks
  rcases HT with h0 | ⟨bb, off, rfl, hbb, hc⟩
  · rw [h0] at hlt; simp at hlt
  have c1 := hc i _ ht 1 _ rfl
  rw [hs] at c1
  have hii : (i : Int) < (ts.length : Int) := by omega
  have hi0 : (0 : Int) ≤ (i : Int) := by omega
  subst hy
  clear hc h ht hs HC
  go_enter Tryd.func51, Tryd.ntmps51
  go_wp2_with fail
  go_ret
  exact ⟨rfl, rfl⟩

set_option maxRecDepth 100000 in
set_option maxHeartbeats 2000000 in
theorem mod_neg (R : Nat) (a : Option Addr) (c : Nat) (ts : List Tk) (f g d q : Int) (i : Nat) (x y : Int) (t : Tk) (ht : ts[i]? = some t) (hs : t.text = ⟨#[37]⟩) (hy : y = -1) (w : World) (h : CAt w R a c ts 0 f g d q) :
    Calls Tryd.prog 51 #[.pointer (some ⟨R, 0, none⟩), .int .i64 (i : Int), .int .i64 x, .int .i64 y] w fun e w' => e = .returned (.int .i64 (reckonL [37] x y)) ∧ Below w.heap.size w w' := by
  obtain ⟨b0, b1, b2, b3, b4, b5⟩ := h.facts
  have hlt := (List.getElem?_eq_some_iff.1 ht).1
  have HC := hid h
  have HT := h.toks
  rcases HT with h0 | ⟨bb, off, rfl, hbb, hc⟩
  · rw [h0] at hlt; simp at hlt
  have c1 := hc i _ ht 1 _ rfl
  rw [hs] at c1
  have hii : (i : Int) < (ts.length : Int) := by omega
  have hi0 : (0 : Int) ≤ (i : Int) := by omega
  subst hy
  clear hc h ht hs HC
  have HO := hid (World.ownsMap_made (H := Unit) w Tryd.prog 9 (plainElem Tryd.prog 3))
  have HL := hid (Told.none (H := Unit))
  have HB := hid ((Below.refl _ w).alloc (Nat.le_refl _) (.map #[] 0))
  have hmm := @run_makeMap Tryd.prog
  go_enter Tryd.func51, Tryd.ntmps51
  go_wp2_with fail
  refine run_ins (G := fun r => Oper.upon _ _ _ _ _ r) _ HO.out HL.out (by omega) (by decide) (by first | exact isI_wrap _ | exact hm) ?_
  intro w1 D1 hO1 hL1 hg1
  have HO1 := hid hO1
  have HL1 := hid hL1
  have HB1 := hid (HB.out.grown hg1 HB.out.size (fun k hk => by cases hk; exact Nat.le_refl _))
  clear hO1 hL1 hg1 HO HL HB
  have hlook := run_look (⟨#[37]⟩ : ByteArray) HO1.out HL1.out (by decide)
  go_wp2_with fail
  go_ret
  refine ⟨?_, HB1.out⟩
  have hr : reckonL [37] x (-1) = 0 := by
    show x.tmod (-1) = 0
    rw [Int.tmod_neg, Int.tmod_one]
  rw [hr]
  rfl

set_option maxRecDepth 100000 in
set_option maxHeartbeats 2000000 in
theorem mod_plain (R : Nat) (a : Option Addr) (c : Nat) (ts : List Tk) (f g d q : Int) (i : Nat) (x y : Int) (t : Tk) (ht : ts[i]? = some t) (hs : t.text = ⟨#[37]⟩) (hy0 : (y == 0) = false) (hy1 : (y == -1) = false) (hx : IsI x) (w : World) (h : CAt w R a c ts 0 f g d q) :
    Calls Tryd.prog 51 #[.pointer (some ⟨R, 0, none⟩), .int .i64 (i : Int), .int .i64 x, .int .i64 y] w fun e w' => e = .returned (.int .i64 (reckonL [37] x y)) ∧ Below w.heap.size w w' := by
  obtain ⟨b0, b1, b2, b3, b4, b5⟩ := h.facts
  have hlt := (List.getElem?_eq_some_iff.1 ht).1
  have HC := hid h
  have HT := h.toks
  rcases HT with h0 | ⟨bb, off, rfl, hbb, hc⟩
  · rw [h0] at hlt; simp at hlt
  have c1 := hc i _ ht 1 _ rfl
  rw [hs] at c1
  have hii : (i : Int) < (ts.length : Int) := by omega
  have hi0 : (0 : Int) ≤ (i : Int) := by omega
  have hne : y ≠ 0 := by simpa using hy0
  have hm : IsI (x.tmod y) := by
    obtain ⟨h1, h2⟩ := hx
    have k1 : (x.tmod y).natAbs ≤ x.natAbs := by rw [Int.natAbs_tmod]; exact Nat.mod_le _ _
    unfold IsI
    by_cases hs : 0 ≤ x
    · have := Int.tmod_nonneg y hs
      omega
    · have h3 := Int.tmod_nonneg y (by omega : 0 ≤ -x)
      rw [Int.neg_tmod] at h3
      omega
  clear hc h ht hs HC
  have HO := hid (World.ownsMap_made (H := Unit) w Tryd.prog 9 (plainElem Tryd.prog 3))
  have HL := hid (Told.none (H := Unit))
  have HB := hid ((Below.refl _ w).alloc (Nat.le_refl _) (.map #[] 0))
  have hmm := @run_makeMap Tryd.prog
  go_enter Tryd.func51, Tryd.ntmps51
  go_wp2_with fail
  go_region_with (first
    | (refine run_lk (G := fun r => Oper.upon _ _ _ _ _ r) _ hO2 hL2 (by decide) ?_)
    | (refine run_lk (G := fun r => Oper.upon _ _ _ _ _ r) _ (owns_drew hO2) hL2 (by decide) ?_)
    | (refine run_ins (G := fun r => Oper.upon _ _ _ _ _ r) _ hO1 hL1 (by omega) (by decide) (by first | exact isI_kwrap _ | exact isI_wrap _ | exact hm) ?_; intro w2 D2 hO2 hL2 hg2)
    | (refine run_ins (G := fun r => Oper.upon _ _ _ _ _ r) _ (owns_drew hO1) hL1 (by omega) (by decide) (by first | exact isI_kwrap _ | exact isI_wrap _ | exact hm) ?_; intro w2 D2 hO2 hL2 hg2)
    | (refine run_ins (G := fun r => Oper.upon _ _ _ _ _ r) _ (owns_drew HO.out) HL.out (by omega) (by decide) (by first | exact isI_kwrap _ | exact isI_wrap _ | exact hm) ?_; intro w1 D1 hO1 hL1 hg1))
  all_goals (have HB2 : Hid (Below w.heap.size w w2) := ((HB.out.drew).grown hg1 (HB.out.drew).size (fun k hk => by cases hk; exact Nat.le_refl _)).grown hg2 (((HB.out.drew).grown hg1 (HB.out.drew).size (fun k hk => by cases hk; exact Nat.le_refl _))).size (fun k hk => by cases hk; exact Nat.le_refl _))
  all_goals clear hg1 hg2 hO1 hO2 hL1 hL2
  all_goals go_wp2_with fail
  all_goals go_ret
  all_goals exact ⟨by first | rfl | (show Ending.returned (.int .i64 (IntKind.i64.wrap _)) = _; rw [IntKind.wrap_i64]; rfl), HB2.out⟩

end Go.Proofs.YtienjifhkmekcaaDoor
namespace Go.Proofs.YtienjifhkmekcaaDoor
open Go.RowKit Go.Shelf

theorem wrap_twice (x : Int) (k : Nat) : wrap64 (2 * wrap64 (x * 2 ^ k)) = wrap64 (x * 2 ^ (k + 1)) := by
  rw [Int.pow_succ]
  generalize hz : x * 2 ^ k = z
  have : x * (2 ^ k * 2) = 2 * z := by rw [← hz, ← Int.mul_assoc, Int.mul_comm]
  rw [this]
  unfold wrap64
  omega
theorem wrap_in (x : Int) (h : IsI x) : wrap64 x = x := by
  obtain ⟨h1, h2⟩ := h
  unfold wrap64
  omega
theorem half_twice (x : Int) (k : Nat) : x / 2 ^ k / 2 = x / 2 ^ (k + 1) := by
  rw [Int.pow_succ, Int.ediv_ediv_of_nonneg (Int.pow_nonneg (by decide))]

set_option maxRecDepth 100000 in
set_option maxHeartbeats 2000000 in
theorem shl_wrong (R : Nat) (a : Option Addr) (c : Nat) (ts : List Tk) (f g d q : Int) (i : Nat) (x y : Int) (t : Tk) (ht : ts[i]? = some t) (hs : t.text = ⟨#[60, 60]⟩) (hl : ts.length ≤ 3000) (hy : y < 0 ∨ 63 < y) (hq : q = 0) (w : World) (h : CAt w R a c ts 0 f g d q) :
    Calls Tryd.prog 51 #[.pointer (some ⟨R, 0, none⟩), .int .i64 (i : Int), .int .i64 x, .int .i64 y] w fun e w' => e = .returned (.int .i64 0) ∧ Kept (· = R) w w' ∧ CAt w' R a c ts 3 (placeOf ts i).1 (placeOf ts i).2 d q := by
  obtain ⟨b0, b1, b2, b3, b4, b5⟩ := h.facts
  have hlt := (List.getElem?_eq_some_iff.1 ht).1
  have HC := hid h
  have HT := h.toks
  rcases HT with h0 | ⟨bb, off, rfl, hbb, hc⟩
  · rw [h0] at hlt; simp at hlt
  have c1 := hc i _ ht 1 _ rfl
  rw [hs] at c1
  have hii : (i : Int) < (ts.length : Int) := by omega
  have hi0 : (0 : Int) ≤ (i : Int) := by omega
  have HS := hid (stop_any R _ c ts f g d q i 3 w HC.out hl)
  subst hq
  clear hc h ht hs HC
  rcases hy with hy | hy
  all_goals go_enter Tryd.func51, Tryd.ntmps51
  all_goals go_wp2_with fail
  all_goals refine HS.out.mono ?_
  all_goals rintro e w1 ⟨rfl, hk1, hc1⟩
  all_goals go_wp2_with fail
  all_goals go_ret
  all_goals exact ⟨rfl, hk1, hc1⟩

set_option maxRecDepth 100000 in
set_option maxHeartbeats 2000000 in
theorem shl_idle (R : Nat) (a : Option Addr) (c : Nat) (ts : List Tk) (f g d q : Int) (i : Nat) (x y : Int) (t : Tk) (ht : ts[i]? = some t) (hs : t.text = ⟨#[60, 60]⟩) (hy : y < 0 ∨ 63 < y) (hq : (q == 0) = false) (w : World) (h : CAt w R a c ts 0 f g d q) :
    Calls Tryd.prog 51 #[.pointer (some ⟨R, 0, none⟩), .int .i64 (i : Int), .int .i64 x, .int .i64 y] w fun e w' => e = .returned (.int .i64 0) ∧ w' = w := by
  obtain ⟨b0, b1, b2, b3, b4, b5⟩ := h.facts
  have hlt := (List.getElem?_eq_some_iff.1 ht).1
  have HC := hid h
  have HT := h.toks
  rcases HT with h0 | ⟨bb, off, rfl, hbb, hc⟩
  · rw [h0] at hlt; simp at hlt
  have c1 := hc i _ ht 1 _ rfl
  rw [hs] at c1
  have hii : (i : Int) < (ts.length : Int) := by omega
  have hi0 : (0 : Int) ≤ (i : Int) := by omega
  clear hc h ht hs HC
  rcases hy with hy | hy
  all_goals go_enter Tryd.func51, Tryd.ntmps51
  all_goals go_wp2_with fail
  all_goals go_ret
  all_goals exact ⟨rfl, rfl⟩

set_option maxRecDepth 100000 in
set_option maxHeartbeats 2000000 in
theorem shl_plain (R : Nat) (a : Option Addr) (c : Nat) (ts : List Tk) (f g d q : Int) (i : Nat) (x y : Int) (t : Tk) (ht : ts[i]? = some t) (hs : t.text = ⟨#[60, 60]⟩) (hy0 : 0 ≤ y) (hy1 : y ≤ 63) (hx : IsI x) (w : World) (h : CAt w R a c ts 0 f g d q) :
    Calls Tryd.prog 51 #[.pointer (some ⟨R, 0, none⟩), .int .i64 (i : Int), .int .i64 x, .int .i64 y] w fun e w' => e = .returned (.int .i64 (reckonL [60, 60] x y)) ∧ w' = w := by
  obtain ⟨b0, b1, b2, b3, b4, b5⟩ := h.facts
  have hlt := (List.getElem?_eq_some_iff.1 ht).1
  have HC := hid h
  have HT := h.toks
  rcases HT with h0 | ⟨bb, off, rfl, hbb, hc⟩
  · rw [h0] at hlt; simp at hlt
  have c1 := hc i _ ht 1 _ rfl
  rw [hs] at c1
  have hii : (i : Int) < (ts.length : Int) := by omega
  have hi0 : (0 : Int) ≤ (i : Int) := by omega
  clear hc h ht hs HC
  obtain ⟨m, rfl⟩ : ∃ m : Nat, y = (m : Int) := ⟨y.toNat, by omega⟩
  go_enter Tryd.func51, Tryd.ntmps51
  go_wp2_with fail
  go_loop [2, 37] (fun v vi => ∃ k : Nat, v = .int .i64 (wrap64 (x * 2 ^ k)) ∧ vi = .int .i64 (k : Int) ∧ k ≤ m) (fun _ vi => m - (intOf vi).toNat)
  case atStart => exact ⟨0, by rw [Int.pow_zero, Int.mul_one]; exact congrArg (Value.int .i64) (wrap_in x hx).symm, rfl, Nat.zero_le _⟩
  case round =>
    obtain ⟨k, rfl, rfl, hk⟩ := hrel
    by_cases hkm : k < m
    · have hki : (k : Int) < (m : Int) := by omega
      have hst := wrap_twice x k
      go_wp2_with fail
      exact ⟨⟨k + 1, by rw [← hst], by go_num, by omega⟩, by simp [intOf]; omega⟩
    · obtain rfl : k = m := by omega
      go_wp2_with fail
      go_ret
      exact ⟨rfl, rfl⟩

set_option maxRecDepth 100000 in
set_option maxHeartbeats 2000000 in
theorem shr_wrong (R : Nat) (a : Option Addr) (c : Nat) (ts : List Tk) (f g d q : Int) (i : Nat) (x y : Int) (t : Tk) (ht : ts[i]? = some t) (hs : t.text = ⟨#[62, 62]⟩) (hl : ts.length ≤ 3000) (hy : y < 0 ∨ 63 < y) (hq : q = 0) (w : World) (h : CAt w R a c ts 0 f g d q) :
    Calls Tryd.prog 51 #[.pointer (some ⟨R, 0, none⟩), .int .i64 (i : Int), .int .i64 x, .int .i64 y] w fun e w' => e = .returned (.int .i64 0) ∧ Kept (· = R) w w' ∧ CAt w' R a c ts 3 (placeOf ts i).1 (placeOf ts i).2 d q := by
  obtain ⟨b0, b1, b2, b3, b4, b5⟩ := h.facts
  have hlt := (List.getElem?_eq_some_iff.1 ht).1
  have HC := hid h
  have HT := h.toks
  rcases HT with h0 | ⟨bb, off, rfl, hbb, hc⟩
  · rw [h0] at hlt; simp at hlt
  have c1 := hc i _ ht 1 _ rfl
  rw [hs] at c1
  have hii : (i : Int) < (ts.length : Int) := by omega
  have hi0 : (0 : Int) ≤ (i : Int) := by omega
  have HS := hid (stop_any R _ c ts f g d q i 3 w HC.out hl)
  subst hq
  clear hc h ht hs HC
  rcases hy with hy | hy
  all_goals go_enter Tryd.func51, Tryd.ntmps51
  all_goals go_wp2_with fail
  all_goals refine HS.out.mono ?_
  all_goals rintro e w1 ⟨rfl, hk1, hc1⟩
  all_goals go_wp2_with fail
  all_goals go_ret
  all_goals exact ⟨rfl, hk1, hc1⟩

set_option maxRecDepth 100000 in
set_option maxHeartbeats 2000000 in
theorem shr_idle (R : Nat) (a : Option Addr) (c : Nat) (ts : List Tk) (f g d q : Int) (i : Nat) (x y : Int) (t : Tk) (ht : ts[i]? = some t) (hs : t.text = ⟨#[62, 62]⟩) (hy : y < 0 ∨ 63 < y) (hq : (q == 0) = false) (w : World) (h : CAt w R a c ts 0 f g d q) :
    Calls Tryd.prog 51 #[.pointer (some ⟨R, 0, none⟩), .int .i64 (i : Int), .int .i64 x, .int .i64 y] w fun e w' => e = .returned (.int .i64 0) ∧ w' = w := by
  obtain ⟨b0, b1, b2, b3, b4, b5⟩ := h.facts
  have hlt := (List.getElem?_eq_some_iff.1 ht).1
  have HC := hid h
  have HT := h.toks
  rcases HT with h0 | ⟨bb, off, rfl, hbb, hc⟩
  · rw [h0] at hlt; simp at hlt
  have c1 := hc i _ ht 1 _ rfl
  rw [hs] at c1
  have hii : (i : Int) < (ts.length : Int) := by omega
  have hi0 : (0 : Int) ≤ (i : Int) := by omega
  clear hc h ht hs HC
  rcases hy with hy | hy
  all_goals go_enter Tryd.func51, Tryd.ntmps51
  all_goals go_wp2_with fail
  all_goals go_ret
  all_goals exact ⟨rfl, rfl⟩

set_option maxRecDepth 100000 in
set_option maxHeartbeats 2000000 in
theorem shr_plain (R : Nat) (a : Option Addr) (c : Nat) (ts : List Tk) (f g d q : Int) (i : Nat) (x y : Int) (t : Tk) (ht : ts[i]? = some t) (hs : t.text = ⟨#[62, 62]⟩) (hy0 : 0 ≤ y) (hy1 : y ≤ 63) (w : World) (h : CAt w R a c ts 0 f g d q) :
    Calls Tryd.prog 51 #[.pointer (some ⟨R, 0, none⟩), .int .i64 (i : Int), .int .i64 x, .int .i64 y] w fun e w' => e = .returned (.int .i64 (reckonL [62, 62] x y)) ∧ w' = w := by
  obtain ⟨b0, b1, b2, b3, b4, b5⟩ := h.facts
  have hlt := (List.getElem?_eq_some_iff.1 ht).1
  have HC := hid h
  have HT := h.toks
  rcases HT with h0 | ⟨bb, off, rfl, hbb, hc⟩
  · rw [h0] at hlt; simp at hlt
  have c1 := hc i _ ht 1 _ rfl
  rw [hs] at c1
  have hii : (i : Int) < (ts.length : Int) := by omega
  have hi0 : (0 : Int) ≤ (i : Int) := by omega
  clear hc h ht hs HC
  obtain ⟨m, rfl⟩ : ∃ m : Nat, y = (m : Int) := ⟨y.toNat, by omega⟩
  go_enter Tryd.func51, Tryd.ntmps51
  go_wp2_with fail
  go_loop [2, 37] (fun v vi => ∃ k : Nat, v = .int .i64 (x / 2 ^ k) ∧ vi = .int .i64 (k : Int) ∧ k ≤ m) (fun _ vi => m - (intOf vi).toNat)
  case atStart => exact ⟨0, by rw [Int.pow_zero, Int.ediv_one], rfl, Nat.zero_le _⟩
  case round =>
    obtain ⟨k, rfl, rfl, hk⟩ := hrel
    by_cases hkm : k < m
    · have hki : (k : Int) < (m : Int) := by omega
      have hst := half_twice x k
      go_wp2_with fail
      exact ⟨⟨k + 1, by rw [← hst], by go_num, by omega⟩, by simp [intOf]; omega⟩
    · obtain rfl : k = m := by omega
      go_wp2_with fail
      go_ret
      exact ⟨rfl, rfl⟩

end Go.Proofs.YtienjifhkmekcaaDoor
namespace Go.Proofs.YtienjifhkmekcaaDoor
open Go.RowKit Go.Shelf

/-- The signs that Op knows. -/
def opsR : List (List UInt8) := plainSigns ++ [[60, 60], [62, 62], [47], [37]]
theorem text_is {s : ByteArray} {l : List UInt8} (h : s.data.toList = l) : s = ⟨l.toArray⟩ := by
  apply ByteArray.ext; apply Array.ext'; rw [h]
theorem plain_right : ∀ s ∈ plainSigns, ∀ y, wrongL s y = 0 := by
  intro s hs y
  simp only [plainSigns, List.mem_cons, List.not_mem_nil, or_false] at hs
  rcases hs with rfl | rfl | rfl | rfl | rfl | rfl | rfl | rfl | rfl | rfl | rfl | rfl
  all_goals rfl
theorem plain_not : ∀ s ∈ plainSigns, (s == [60, 60]) = false ∧ (s == [62, 62]) = false ∧ (s == [47]) = false ∧ (s == [37]) = false ∧ s.length ≤ 3000 := by decide
theorem shift_wrong (y : Int) : (wrongL [60, 60] y = 0 ↔ ¬ (y < 0 ∨ 63 < y)) ∧ (wrongL [62, 62] y = 0 ↔ ¬ (y < 0 ∨ 63 < y)) := by
  have h1 : wrongL [60, 60] y = if y < 0 ∨ 63 < y then 3 else 0 := rfl
  have h2 : wrongL [62, 62] y = if y < 0 ∨ 63 < y then 3 else 0 := rfl
  rw [h1, h2]
  by_cases h : y < 0 ∨ 63 < y
  · simp [h]
  · simp [h]
theorem div_is (y : Int) : (wrongL [47] y = 0 ↔ y ≠ 0) ∧ (wrongL [37] y = 0 ↔ y ≠ 0) := by
  have h1 : wrongL [47] y = if y = 0 then 13 else 0 := rfl
  have h2 : wrongL [37] y = if y = 0 then 13 else 0 := rfl
  rw [h1, h2]
  by_cases h : y = 0
  · simp [h]
  · simp [h]

/-- Where the sign can have it, Op reckons. -/
theorem op_good (R : Nat) (a : Option Addr) (c : Nat) (ts : List Tk) (f g d q : Int) (i : Nat) (x y : Int) (t : Tk) (ht : ts[i]? = some t) (hs : t.text.data.toList ∈ opsR) (hw : wrongL t.text.data.toList y = 0) (hx : IsI x) (w : World) (h : CAt w R a c ts 0 f g d q) :
    Calls Tryd.prog 51 #[.pointer (some ⟨R, 0, none⟩), .int .i64 (i : Int), .int .i64 x, .int .i64 y] w fun e w' => e = .returned (.int .i64 (reckonL t.text.data.toList x y)) ∧ Below w.heap.size w w' := by
  rcases List.mem_append.1 hs with hp | hp
  · obtain ⟨n1, n2, n3, n4, n5⟩ := plain_not _ hp
    have := op_plain R a c ts 0 f g d q i t.text x y t ht rfl (by rw [← size_data]; exact n5) (by rw [toList_data]; exact n1) (by rw [toList_data]; exact n2) (by rw [toList_data]; exact n3) (by rw [toList_data]; exact n4) w h
    rw [look_plain x y _ hp] at this
    exact this
  · simp only [List.mem_cons, List.not_mem_nil, or_false] at hp
    rcases hp with hp | hp | hp | hp
    · rw [hp] at hw ⊢
      have hy := (shift_wrong y).1.1 hw
      refine (shl_plain R a c ts f g d q i x y t ht (text_is hp) (by omega) (by omega) hx w h).mono ?_
      rintro e w' ⟨rfl, rfl⟩
      exact ⟨rfl, Below.refl _ _⟩
    · rw [hp] at hw ⊢
      have hy := (shift_wrong y).2.1 hw
      refine (shr_plain R a c ts f g d q i x y t ht (text_is hp) (by omega) (by omega) w h).mono ?_
      rintro e w' ⟨rfl, rfl⟩
      exact ⟨rfl, Below.refl _ _⟩
    · rw [hp] at hw ⊢
      have hy := (div_is y).1.1 hw
      by_cases h1 : y = -1
      · exact div_neg R a c ts f g d q i x y t ht (text_is hp) h1 w h
      · exact div_plain R a c ts f g d q i x y t ht (text_is hp) (by simpa using hy) (by simpa using h1) hx w h
    · rw [hp] at hw ⊢
      have hy := (div_is y).2.1 hw
      by_cases h1 : y = -1
      · exact mod_neg R a c ts f g d q i x y t ht (text_is hp) h1 w h
      · exact mod_plain R a c ts f g d q i x y t ht (text_is hp) (by simpa using hy) (by simpa using h1) hx w h
/-- Where it can't, and nothing is asked, Op answers 0. -/
theorem op_idle (R : Nat) (a : Option Addr) (c : Nat) (ts : List Tk) (f g d q : Int) (i : Nat) (x y : Int) (t : Tk) (ht : ts[i]? = some t) (hs : t.text.data.toList ∈ opsR) (hw : wrongL t.text.data.toList y ≠ 0) (hq : (q == 0) = false) (w : World) (h : CAt w R a c ts 0 f g d q) :
    Calls Tryd.prog 51 #[.pointer (some ⟨R, 0, none⟩), .int .i64 (i : Int), .int .i64 x, .int .i64 y] w fun e w' => e = .returned (.int .i64 0) ∧ w' = w := by
  rcases List.mem_append.1 hs with hp | hp
  · exact absurd (plain_right _ hp y) hw
  · simp only [List.mem_cons, List.not_mem_nil, or_false] at hp
    rcases hp with hp | hp | hp | hp
    · rw [hp] at hw
      exact shl_idle R a c ts f g d q i x y t ht (text_is hp) (by by_cases h : y < 0 ∨ 63 < y; · exact h
                                                                  · exact absurd ((shift_wrong y).1.2 h) hw) hq w h
    · rw [hp] at hw
      exact shr_idle R a c ts f g d q i x y t ht (text_is hp) (by by_cases h : y < 0 ∨ 63 < y; · exact h
                                                                  · exact absurd ((shift_wrong y).2.2 h) hw) hq w h
    · rw [hp] at hw
      exact div_idle R a c ts f g d q i x y t ht (text_is hp) (by by_cases h : y = 0; · exact h
                                                                  · exact absurd ((div_is y).1.2 h) hw) hq w h
    · rw [hp] at hw
      exact mod_idle R a c ts f g d q i x y t ht (text_is hp) (by by_cases h : y = 0; · exact h
                                                                  · exact absurd ((div_is y).2.2 h) hw) hq w h
/-- Where it can't, and is asked, Op stops. -/
theorem op_wrong (R : Nat) (a : Option Addr) (c : Nat) (ts : List Tk) (f g d : Int) (i : Nat) (x y : Int) (t : Tk) (ht : ts[i]? = some t) (hs : t.text.data.toList ∈ opsR) (hw : wrongL t.text.data.toList y ≠ 0) (hl : ts.length ≤ 3000) (w : World) (h : CAt w R a c ts 0 f g d 0) :
    Calls Tryd.prog 51 #[.pointer (some ⟨R, 0, none⟩), .int .i64 (i : Int), .int .i64 x, .int .i64 y] w fun e w' => e = .returned (.int .i64 0) ∧ Kept (· = R) w w' ∧ CAt w' R a c ts (wrongL t.text.data.toList y) (placeOf ts i).1 (placeOf ts i).2 d 0 := by
  rcases List.mem_append.1 hs with hp | hp
  · exact absurd (plain_right _ hp y) hw
  · simp only [List.mem_cons, List.not_mem_nil, or_false] at hp
    rcases hp with hp | hp | hp | hp
    · rw [hp] at hw ⊢
      have hy : y < 0 ∨ 63 < y := by by_cases h : y < 0 ∨ 63 < y; · exact h
                                     · exact absurd ((shift_wrong y).1.2 h) hw
      rw [show wrongL [60, 60] y = 3 from if_pos hy]
      exact shl_wrong R a c ts f g d 0 i x y t ht (text_is hp) hl hy rfl w h
    · rw [hp] at hw ⊢
      have hy : y < 0 ∨ 63 < y := by by_cases h : y < 0 ∨ 63 < y; · exact h
                                     · exact absurd ((shift_wrong y).2.2 h) hw
      rw [show wrongL [62, 62] y = 3 from if_pos hy]
      exact shr_wrong R a c ts f g d 0 i x y t ht (text_is hp) hl hy rfl w h
    · rw [hp] at hw ⊢
      have hy : y = 0 := by by_cases h : y = 0; · exact h
                            · exact absurd ((div_is y).1.2 h) hw
      rw [show wrongL [47] y = 13 from if_pos hy]
      exact div_wrong R a c ts f g d 0 i x y t ht (text_is hp) hl hy rfl w h
    · rw [hp] at hw ⊢
      have hy : y = 0 := by by_cases h : y = 0; · exact h
                            · exact absurd ((div_is y).2.2 h) hw
      rw [show wrongL [37] y = 13 from if_pos hy]
      exact mod_wrong R a c ts f g d 0 i x y t ht (text_is hp) hl hy rfl w h
end Go.Proofs.YtienjifhkmekcaaDoor
