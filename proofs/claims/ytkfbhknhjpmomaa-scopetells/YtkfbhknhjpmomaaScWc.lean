/- The document's own resolver in memory; stop, use and make. -/
import Derived.Test.YtkfbhknhjpmomaaScWb
import Derived.Test.YtkfbhknhjpmomaaScNA
import Derived.Test.YtkfbhknhjpmomaaLater
import Derived.BigQuiet
import Derived.BigRegion
import Derived.Deep.RegionHeld3
namespace Go.Proofs.Ytkfbhknhjpmomaa
open Go.RowKit Go.Shelf Go.Maps Go.WideMaps
theorem wf_smallS {t : Int} (h0 : -1 ≤ t) (h1 : t ≤ 1000001) : (Lit.int .i64 t).wf = true := by
  simp [Lit.wf, IntKind.min, IntKind.max, IntKind.signed, IntKind.bits]
  omega
/-- What a token was bound to last. -/
def lookO (b : List (Nat × Nat)) (x : Int) : Option Nat := (b.reverse.find? (fun p => (p.1 : Int) == x)).map Prod.snd
theorem lookO_snoc (b : List (Nat × Nat)) (t d : Nat) (x : Int) : lookO (b ++ [(t, d)]) x = if (t : Int) = x then some d else lookO b x := by
  unfold lookO
  rw [List.reverse_append, List.reverse_singleton, List.singleton_append, List.find?_cons]
  by_cases h : (t : Int) = x
  · rw [if_pos h]; simp [h]
  · rw [if_neg h, show ((t : Int) == x) = false from beq_eq_false_iff_ne.2 h]
/-- What the map of what is bound holds. -/
def OutIs (D : DataW Unit) (b : List (Nat × Nat)) : Prop := Go.Maps.IsMap D ∧ ∀ (x : Int) zd, D.atKey (.int .i64 x) zd = match lookO b x with
  | some d => .lit (.int .i64 (d : Int))
  | none => zd
theorem OutIs.nil : OutIs (.map []) [] := ⟨⟨[], rfl⟩, fun _ _ => rfl⟩
theorem OutIs.put {D : DataW Unit} {b : List (Nat × Nat)} (h : OutIs D b) (t d : Nat) : OutIs (D.put (.int .i64 (t : Int)) (.lit (.int .i64 (d : Int)))) (b ++ [(t, d)]) := by
  refine ⟨h.1.put _ _, fun x zd => ?_⟩
  rw [lookO_snoc]
  by_cases hx : (t : Int) = x
  · subst hx
    rw [Go.Maps.atKey_put_same h.1 (show Go.WideAt.IsKeyLit (.int .i64 (t : Int)) from trivial), if_pos rfl]
  · rw [Go.Maps.atKey_put_other (fun e => hx (by injection e with _ e; exact e.symm)), h.2 x zd, if_neg hx]
def fltE (st : StR) : Int := match st with
  | .ok _ => 0
  | .error y => y.1
def fltF (L : List Tk) (st : StR) : Int := match st with
  | .ok _ => -1
  | .error y => (placeT L y.2).1
def fltA (L : List Tk) (st : StR) : Int := match st with
  | .ok _ => 0
  | .error y => (placeT L y.2).2
/-- The resolver. -/
structure SrAt (w : World) (r ob : Nat) (la : Option Addr) (lc : Nat) (L : List Tk) (st : StR) (M : Nat) : Prop where
  box : w.heap[r]? = some (.cells #[.slice la L.length lc, .map (some ob), .int .i64 (fltE st), .int .i64 (fltF L st), .int .i64 (fltA L st)] 70)
  out : ∃ D m, m ≤ M ∧ w.ownsMap Try.prog 3 (plainElem Try.prog 3) ob m D ∧ ∀ b, st = .ok b → OutIs D b
  err : ∀ y, st = .error y → y.1 ≠ 0
  toks : TAt w la L
  lo : ∀ b off, la = some ⟨b, off, none⟩ → L ≠ [] → b ≠ r ∧ b ≠ ob
theorem omap_same {w w' : World} {b n : Nat} {D : DataW Unit} (h : w.ownsMap Try.prog 3 (plainElem Try.prog 3) b n D) (hb : w'.heap[b]? = w.heap[b]?) : w'.ownsMap Try.prog 3 (plainElem Try.prog 3) b n D := by
  obtain ⟨es, clock, h1, h2⟩ := h
  exact ⟨es, clock, hb.trans h1, h2⟩
section
variable {w w' : World} {r ob : Nat} {la : Option Addr} {lc : Nat} {L : List Tk} {st : StR} {M : Nat}
theorem SrAt.facts (h : SrAt w r ob la lc L st M) : (w.cell? ⟨r, 0, none⟩ = some (.slice la L.length lc) ∧ w.cell? ⟨r, 1, none⟩ = some (.map (some ob)) ∧ w.cell? ⟨r, 2, none⟩ = some (.int .i64 (fltE st)) ∧ w.cell? ⟨r, 3, none⟩ = some (.int .i64 (fltF L st)) ∧ w.cell? ⟨r, 4, none⟩ = some (.int .i64 (fltA L st))) ∧ w.frozen? ⟨r, 2, none⟩ = false ∧ w.frozen? ⟨r, 3, none⟩ = false ∧ w.frozen? ⟨r, 4, none⟩ = false := by
  have := h.box
  simp [World.cell?, World.frozen?, this]
theorem SrAt.lt (h : SrAt w r ob la lc L st M) : r < w.heap.size := lt_of_block h.box
theorem SrAt.ne (h : SrAt w r ob la lc L st M) : r ≠ ob := by
  intro e
  obtain ⟨D, m, _, ⟨es, cl, hm, _⟩, _⟩ := h.out
  rw [← e, h.box] at hm
  cases hm
theorem SrAt.olt (h : SrAt w r ob la lc L st M) : ob < w.heap.size := by
  obtain ⟨D, m, _, h1, _⟩ := h.out
  exact h1.lt
theorem SrAt.mono {M' : Nat} (h : SrAt w r ob la lc L st M) (hM : M ≤ M') : SrAt w r ob la lc L st M' := ⟨h.box, by obtain ⟨D, m, h1, h2⟩ := h.out; exact ⟨D, m, Nat.le_trans h1 hM, h2⟩, h.err, h.toks, h.lo⟩
theorem toks_kept {X : Nat → Prop} (h : TAt w la L) (hk : Kept X w w') (hl : ∀ b off, la = some ⟨b, off, none⟩ → L ≠ [] → ¬ X b) : TAt w' la L := by
  by_cases hL : L = []
  · exact .inl hL
  rcases h with h0 | ⟨b, off, rfl, hlt, hc⟩
  · exact .inl h0
  · refine .inr ⟨b, off, rfl, by have := hk.size; omega, fun j x hx k v hv => ?_⟩
    have e := hk.block b hlt (hl b off rfl hL)
    have := hc j x hx k v hv
    simpa [World.cell?, e] using this
theorem SrAt.below (h : SrAt w r ob la lc L st M) (hb : Below w.heap.size w w') : SrAt w' r ob la lc L st M :=
  ⟨(hb.block r h.lt).trans h.box, by obtain ⟨D, m, h1, h2, h3⟩ := h.out; exact ⟨D, m, h1, omap_same h2 (hb.block ob h2.lt), h3⟩, h.err, h.toks.below hb, h.lo⟩
/-- Names lie there. -/
def Nm2At (w : World) (ob : Nat) (v : Value) (n : Nm2) : Prop := ∃ a i, v = .agg #[.map (some a), .map (some i)] ∧ MfAt w a n.1 ∧ MfAt w i n.2 ∧ a ≠ ob ∧ i ≠ ob
theorem Nm2At.kept {v : Value} {n : Nm2} (h : Nm2At w ob v n) (hr : CellO w r) (hk : Kept (fun b => b = r ∨ b = ob) w w') : Nm2At w' ob v n := by
  obtain ⟨a, i, h1, h2, h3, h4, h5⟩ := h
  refine ⟨a, i, h1, h2.same (hk.block a h2.lt ?_), h3.same (hk.block i h3.lt ?_), h4, h5⟩
  · rintro (rfl | h)
    · exact h2.noCell hr
    · exact h4 h
  · rintro (rfl | h)
    · exact h3.noCell hr
    · exact h5 h
theorem Nm2At.below {v : Value} {n : Nm2} (h : Nm2At w ob v n) (hb : Below w.heap.size w w') : Nm2At w' ob v n := by
  obtain ⟨a, i, h1, h2, h3, h4, h5⟩ := h
  exact ⟨a, i, h1, h2.same (hb.block a h2.lt), h3.same (hb.block i h3.lt), h4, h5⟩
theorem SrAt.cellO (h : SrAt w r ob la lc L st M) : CellO w r := ⟨_, _, _, h.box, by decide, by decide⟩
/-- A fault is written. -/
def putS (w : World) (r : Nat) (e f a : Int) : World := ((w.setCell ⟨r, 2, none⟩ (.int .i64 e)).setCell ⟨r, 3, none⟩ (.int .i64 f)).setCell ⟨r, 4, none⟩ (.int .i64 a)
theorem putS_other (w : World) (r : Nat) (e f a : Int) (b : Nat) (hb : b ≠ r) : (putS w r e f a).heap[b]? = w.heap[b]? := by
  unfold putS
  rw [Below.heap_setCell _ _ _ _ hb, Below.heap_setCell _ _ _ _ hb, Below.heap_setCell _ _ _ _ hb]
theorem putS_box {x0 x1 x2 x3 x4 : Value} {T : TypeId} (e f a : Int) (h : w.heap[r]? = some (.cells #[x0, x1, x2, x3, x4] T)) : (putS w r e f a).heap[r]? = some (.cells #[x0, x1, .int .i64 e, .int .i64 f, .int .i64 a] T) := by
  unfold putS
  have h1 := Go.Joins.block_setCell (i := 2) h (.int .i64 e)
  have h2 := Go.Joins.block_setCell (i := 3) h1 (.int .i64 f)
  have h3 := Go.Joins.block_setCell (i := 4) h2 (.int .i64 a)
  simpa using h3
theorem putS_kept (w : World) (r : Nat) (e f a : Int) : Kept (· = r) w (putS w r e f a) := by
  have hb : Below r w (putS w r e f a) := (((Below.refl r w).setCell (p := ⟨r, 2, none⟩) (Nat.le_refl _) _).setCell (p := ⟨r, 3, none⟩) (Nat.le_refl _) _).setCell (p := ⟨r, 4, none⟩) (Nat.le_refl _) _
  exact ⟨hb.os, hb.tape, hb.output, hb.size, fun b _ hx => putS_other w r e f a b hx⟩
theorem SrAt.stopped (h : SrAt w r ob la lc L st M) {tk : Nat} {e : Int} (he : e ≠ 0) (b : List (Nat × Nat)) (hs : st = .ok b) : SrAt (putS w r e (placeT L tk).1 (placeT L tk).2) r ob la lc L (stopE st e tk) M := by
  subst hs
  refine ⟨putS_box _ _ _ h.box, ?_, ?_, ?_, h.lo⟩
  · obtain ⟨D, m, h1, h2, h3⟩ := h.out
    exact ⟨D, m, h1, omap_same h2 (putS_other _ _ _ _ _ _ h.ne.symm), fun b hb => by cases hb⟩
  · intro y hy
    cases hy
    exact he
  · exact toks_kept h.toks (putS_kept w r _ _ _) fun b off e hL => (h.lo b off e hL).1
set_option maxRecDepth 100000 in
set_option maxHeartbeats 2000000 in
theorem sstop_any (tk : Nat) (e : Int) (he : e ≠ 0) (htk : tk < L.length) (h : SrAt w r ob la lc L st M) :
    Calls Try.prog 64 #[.pointer (some ⟨r, 0, none⟩), .int .i64 (tk : Int), .int .i64 e] w fun q w' => q = .returned (.tuple #[]) ∧ SrAt w' r ob la lc L (stopE st e tk) M ∧ Kept (· = r) w w' := by
  obtain ⟨⟨c0, c1, c2, c3, c4⟩, z2, z3, z4⟩ := h.facts
  have hrl := h.lt
  cases hst : st with
  | error y =>
    have hy := h.err y hst
    have hyb : (y.1 == 0) = false := beq_eq_false_iff_ne.2 hy
    rw [hst] at c2
    change w.cell? ⟨r, 2, none⟩ = some (.int .i64 y.1) at c2
    have HE : Hid (SrAt w r ob la lc L (stopE (.error y) e tk) M) := by show SrAt w r ob la lc L (.error y) M; exact hst ▸ h
    clear h hst c3 c4
    go_enter Try.func64, Try.ntmps64
    go_wp2_with fail
    go_end0
    exact ⟨rfl, HE.out, ⟨rfl, rfl, rfl, Nat.le_refl _, fun b _ _ => rfl⟩⟩
  | ok b =>
    have HE : Hid (∀ W, Below w.heap.size w W → SrAt (putS W r e (placeT L tk).1 (placeT L tk).2) r ob la lc L (stopE (.ok b) e tk) M ∧ Kept (· = r) w (putS W r e (placeT L tk).1 (placeT L tk).2)) := fun W hW => ⟨(hst ▸ h.below hW).stopped he b rfl, (kept_of_below hW).trans (putS_kept W r _ _ _)⟩
    have hpl : placeT L tk = ((L[tk]).file, (L[tk]).lo) := by unfold placeT; rw [List.getElem?_eq_getElem htk]
    rw [hpl] at HE
    rw [hst] at c2
    change w.cell? ⟨r, 2, none⟩ = some (.int .i64 0) at c2
    rcases h.toks with h0 | ⟨tb, off, hla, htl, hcx⟩
    · rw [h0] at htk; simp at htk
    have hx := hcx tk L[tk] (List.getElem?_eq_getElem htk)
    have x4 : w.cell? ⟨tb, off + tk * 11 + 4, none⟩ = some (.int .i64 (L[tk]).file) := hx 4 _ rfl
    have x5 : w.cell? ⟨tb, off + tk * 11 + 5, none⟩ = some (.int .i64 (L[tk]).lo) := hx 5 _ rfl
    have hne : tb ≠ r := (h.lo tb off hla (fun e => by rw [e] at htk; simp at htk)).1
    generalize (L[tk]).file = tf at *
    generalize (L[tk]).lo = tl at *
    subst hla
    have i0 : (0 : Int) ≤ (tk : Int) := by omega
    have i1 : (tk : Int) < (L.length : Int) := by omega
    have HC := hid (fun W (hW : Below w.heap.size w W) => And.intro ((hW.cell (p := ⟨r, 0, none⟩) hrl).trans c0) (And.intro ((hW.cell (p := ⟨tb, off + tk * 11 + 4, none⟩) htl).trans x4) ((hW.cell (p := ⟨tb, off + tk * 11 + 5, none⟩) htl).trans x5)))
    clear h hst hcx hx hpl
    go_enter Try.func64, Try.ntmps64
    go_wp2_with fail
    go_region
    all_goals go_wp2_with fail
    all_goals go_end0
    all_goals exact ⟨rfl, (HE.out w (Below.refl _ _)).1.below (Below.refl _ _).drew, (HE.out w (Below.refl _ _)).2.trans (kept_of_below (Below.refl _ _).drew)⟩
theorem SrAt.put (h : SrAt w r ob la lc L st M) {tk d : Nat} {D : DataW Unit} {b : List (Nat × Nat)} (hs : st = .ok b) (hg : w.grownBy w' (some ob)) {m : Nat} (hm : m + 1 ≤ M + 1) {D0 : DataW Unit} (hD0 : OutIs D0 b) (hD : D = D0.put (.int .i64 (tk : Int)) (.lit (.int .i64 (d : Int)))) (hO : w'.ownsMap Try.prog 3 (plainElem Try.prog 3) ob (m + 1) D) : SrAt w' r ob la lc L (putE st tk d) (M + 1) := by
  subst hs
  have hbl : ∀ k, k < w.heap.size → k ≠ ob → w'.heap[k]? = w.heap[k]? := fun k hk hn => hg.block k hk (fun e => hn (Option.some.inj e))
  refine ⟨(hbl r h.lt h.ne).trans h.box, ⟨D, m + 1, hm, hO, fun b' hb => ?_⟩, (fun y hy => by cases hy), ?_, h.lo⟩
  · cases hb
    rw [hD]
    exact hD0.put tk d
  · refine toks_kept (X := (· = ob)) h.toks ⟨hg.os, hg.tape, hg.output, hg.size, fun k hk hn => hbl k hk hn⟩ fun k off e hL => (h.lo k off e hL).2
theorem stop_flt {st : StR} (h : ∀ y, st = .error y → y.1 ≠ 0) {e : Int} (he : e ≠ 0) (tk : Nat) : (fltE (stopE st e tk) == 0) = false := by
  apply beq_eq_false_iff_ne.2
  cases st with
  | ok b => exact he
  | error y => exact h y rfl
/-- A name's value, in a block. -/
theorem mf_lookW {w1 : World} {mb : Nat} {f : Fr} (h : MfAt w mb f) (hb : Below w.heap.size w w1) (x : ByteArray) (hx : x.size ≤ maxLen) (n : Nat) :
    (Instr.lookup 61 (.map (some mb)) (.string x) true).run Try.prog (w1.drewN n) = .ok (.tuple #[.int .i64 (((lookF f x.data.toList).getD 0 : Nat) : Int), .bool (lookF f x.data.toList).isSome]) (w1.drewN n) :=
  mf_look ((h.same (hb.block mb h.lt)).same (w' := w1.drewN n) (dN_heap w1 mb n)) x hx
set_option maxRecDepth 100000 in
set_option maxHeartbeats 2000000 in
theorem suse_any {v : Value} {n : Nm2} (tk : Nat) (htk : tk < L.length) (hfew : L.length ≤ 6000) (hs : ∀ t ∈ L, t.text.size ≤ 3000) (hM : M ≤ 900000) (h : SrAt w r ob la lc L st M) (hn : Nm2At w ob v n) (hle : ∀ x d, lookF n.1 x = some d → d ≤ 1000000) :
    Calls Try.prog 45 #[.pointer (some ⟨r, 0, none⟩), v, .int .i64 (tk : Int)] w fun q w' => q = .returned (.tuple #[]) ∧ SrAt w' r ob la lc L (useE L n tk st) (M + 1) ∧ Kept (fun b => b = r ∨ b = ob) w w' := by
  obtain ⟨a, i, rfl, hA, hI, hao, hio⟩ := hn
  have hb1 := below_new w (.cells #[.map (some a), .map (some i)] 72)
  have k1 := heap_alloc_new w (.cells #[.map (some a), .map (some i)] 72)
  obtain ⟨t, ht⟩ : ∃ t, L[tk]? = some t := ⟨_, List.getElem?_eq_getElem htk⟩
  have htx : txtT L tk = t.text.data.toList := by unfold txtT; rw [ht]
  have hts := hs t (List.mem_of_getElem? ht)
  have h1 := h.below hb1
  obtain ⟨⟨c0, c1, c2, c3, c4⟩, _⟩ := h1.facts
  rcases h1.toks with h0 | ⟨tb, off, hla, htl, hcx⟩
  · rw [h0] at htk; simp at htk
  have x1 := hcx tk t ht 1 _ rfl
  have HLk := mf_lookW hA hb1 t.text (by unfold maxLen; omega)
  rw [← htx] at HLk
  subst hla
  have i0 : (0 : Int) ≤ (tk : Int) := by omega
  have i1 : (tk : Int) < (L.length : Int) := by omega
  have hpl := h1.lt
  obtain ⟨d0, d1, _, _⟩ := nm_facts k1
  have HR := hid h1
  have HK := hid (fun W (hW : Below (w.alloc (.cells #[.map (some a), .map (some i)] 72)).heap.size (w.alloc (.cells #[.map (some a), .map (some i)] 72)) W) => kept_of_below (X := fun b => b = r ∨ b = ob) (hb1.trans (hW.mono hb1.size)))
  have hwl : w.heap.size < (w.alloc (.cells #[.map (some a), .map (some i)] 72)).heap.size := by simp
  unfold useE
  have hd := hle (txtT L tk)
  generalize hlk : lookF n.1 (txtT L tk) = lk at *
  generalize t.text = X at *
  clear h hb1 k1 hA hI ht htx hts h1 hcx hlk hle c2 c3 c4
  go_enter Try.func45, Try.ntmps45
  go_upto_region 1 with fail
  change Code.wp _ _ _ _ (w.alloc (.cells #[.map (some a), .map (some i)] 72))
  generalize w.alloc (.cells #[.map (some a), .map (some i)] 72) = w1 at *
  generalize w.heap.size = N0 at *
  cases lk with
  | none =>
    simp only [Option.getD_none, Option.isSome_none] at HLk
    go_quiet (fail)
    have HS := hid (sstop_any tk 6 (by decide) htk (HR.out.below (dN_below (Below.refl _ w1) nq)))
    have HKd := hid (HK.out _ (dN_below (Below.refl _ w1) nq))
    generalize World.drewN _ nq = w2 at *
    go_wp2_with fail
    refine HS.out.mono ?_
    rintro e w3 ⟨rfl, hS3, hk3⟩
    obtain ⟨⟨_, _, e2, _, _⟩, _⟩ := hS3.facts
    have hfe := stop_flt (st := st) HR.out.err (e := 6) (by decide) tk
    have HS3 := hid (hS3.mono (Nat.le_succ M))
    have HK3 := hid (HKd.out.trans (hk3.mono (fun b hb => .inl hb)))
    have hpl3 := hS3.lt
    generalize fltE (stopE st 6 tk) = fe at *
    clear hS3 hk3 HS HKd HK HLk c0 c1 x1 d0 d1
    go_wp2_with fail
    go_end0
    exact ⟨rfl, HS3.out, HK3.out⟩
  | some d =>
    simp only [Option.getD_some, Option.isSome_some] at HLk
    go_quiet (fail)
    have HR2 := hid (HR.out.below (dN_below (Below.refl _ w1) nq))
    have HKd := hid (HK.out _ (dN_below (Below.refl _ w1) nq))
    have hdd := hd d rfl
    generalize World.drewN _ nq = w2 at *
    obtain ⟨⟨_, e1, e2, _, _⟩, _⟩ := HR2.out.facts
    have hpl2 := HR2.out.lt
    clear HK HLk c0 c1 x1 d0 d1 hd
    cases hst : st with
    | error y =>
      have hy := HR2.out.err y hst
      have hyb : (y.1 == 0) = false := beq_eq_false_iff_ne.2 hy
      have HE : Hid (SrAt w2 r ob (some ⟨tb, off, none⟩) lc L (putE st tk d) (M + 1)) := by
        have e : putE st tk d = st := by rw [hst]; rfl
        show SrAt w2 r ob _ lc L (putE st tk d) (M + 1)
        rw [e]
        exact HR2.out.mono (Nat.le_succ M)
      rw [hst] at e2
      change w2.cell? ⟨r, 2, none⟩ = some (.int .i64 y.1) at e2
      clear hst HR2
      go_wp2_with fail
      go_end0
      exact ⟨rfl, HE.out, HKd.out⟩
    | ok b =>
      obtain ⟨D, m, hm, hown, hD⟩ := HR2.out.out
      have HD := hid (hD b hst)
      have HE := hid (fun W (hg : w2.grownBy W (some ob)) hO => HR2.out.put (w' := W) (tk := tk) (d := d) hst hg (Nat.succ_le_succ hm) HD.out rfl hO)
      rw [hst] at e2
      change w2.cell? ⟨r, 2, none⟩ = some (.int .i64 0) at e2
      have hkey := Go.Maps.keyOf_int_mk (P := Try.prog) (k := 3) Try.underlying3 (wf_smallS (t := (tk : Int)) (by omega) (by omega))
      clear hst HR2 hD
      go_wp2_with (first
        | (at_mapUpdate; refine wpList_mapUpdate_own _ rfl _ _ _ 68 rfl 3 3 (Go.Maps.int_keyed Try.underlying3) Try.underlying68 _ ob m _ rfl hown (by unfold maxLen; omega) _ _ _ rfl rfl hkey _ [] (plainElem_int Try.underlying3 (WalkArith.wf_i64 (by omega))) ?_; intro w4 hO4 hg4; go_frame)
        | go_in)
      go_end0
      exact ⟨rfl, HE.out _ hg4 hO4, HKd.out.trans (⟨hg4.os, hg4.tape, hg4.output, hg4.size, fun b hb hx => hg4.block b hb (fun e => hx (.inr (Option.some.inj e)))⟩ : Kept (fun b => b = r ∨ b = ob) w2 w4)⟩
/-- Behind make's first region. -/
def makeW (w : World) (a i : Nat) : World := (w.alloc (.cells #[.map (some a), .map (some i)] 72)).alloc (.cells #[.map none, .map none] 72)
theorem makeW_facts (w : World) (a i : Nat) : Below w.heap.size w (makeW w a i) ∧ (makeW w a i).heap.size = w.heap.size + 2 ∧ (makeW w a i).heap[w.heap.size]? = some (.cells #[.map (some a), .map (some i)] 72) ∧ (makeW w a i).heap[w.heap.size + 1]? = some (.cells #[.map none, .map none] 72) := by
  have h1 := below_new w (.cells #[.map (some a), .map (some i)] 72)
  have k1 := heap_alloc_new w (.cells #[.map (some a), .map (some i)] 72)
  have s1 : (w.alloc (.cells #[.map (some a), .map (some i)] 72)).heap.size = w.heap.size + 1 := by simp
  have h2 := below_new (w.alloc (.cells #[.map (some a), .map (some i)] 72)) (.cells #[.map none, .map none] 72)
  have k2 := heap_alloc_new (w.alloc (.cells #[.map (some a), .map (some i)] 72)) (.cells #[.map none, .map none] 72)
  rw [s1] at k2
  exact ⟨h1.trans (h2.mono (by omega)), by unfold makeW; simp, (h2.block _ (by omega)).trans k1, k2⟩
theorem Kept.of_put {X : Nat → Prop} {g : Nat} {x y : Value} (h : Kept X w w') (hg : w.heap.size ≤ g) : Kept X w ((w'.setCell ⟨g, 0, none⟩ x).setCell ⟨g, 1, none⟩ y) := by
  have hb : Below g w' ((w'.setCell ⟨g, 0, none⟩ x).setCell ⟨g, 1, none⟩ y) := ((Below.refl g w').setCell (p := ⟨g, 0, none⟩) (Nat.le_refl _) _).setCell (p := ⟨g, 1, none⟩) (Nat.le_refl _) _
  exact ⟨hb.os.trans h.os, hb.tape.trans h.tape, hb.output.trans h.output, Nat.le_trans h.size hb.size, fun b hlt hx => (hb.block b (by omega)).trans (h.block b hlt hx)⟩
theorem SrAt.turn (h : SrAt w r ob la lc L st M) (hk : Kept (fun _ => False) w w') : SrAt w' r ob la lc L st M := h.below (hk.below (Nat.le_refl _) fun _ _ hx => hx.elim)
theorem SrAt.putB {g : Nat} {x y : Value} (h : SrAt w r ob la lc L st M) (hr : r ≠ g) (ho : ob ≠ g) (hl : ∀ b off, la = some ⟨b, off, none⟩ → L ≠ [] → b ≠ g) : SrAt ((w.setCell ⟨g, 0, none⟩ x).setCell ⟨g, 1, none⟩ y) r ob la lc L st M := by
  refine ⟨(nm_other _ _ _ hr).trans h.box, by obtain ⟨D, m, h1, h2, h3⟩ := h.out; exact ⟨D, m, h1, omap_same h2 (nm_other _ _ _ ho), h3⟩, h.err, ?_, h.lo⟩
  have hb : Below g w ((w.setCell ⟨g, 0, none⟩ x).setCell ⟨g, 1, none⟩ y) := ((Below.refl g w).setCell (p := ⟨g, 0, none⟩) (Nat.le_refl _) _).setCell (p := ⟨g, 1, none⟩) (Nat.le_refl _) _
  exact toks_kept (X := (· = g)) h.toks ⟨hb.os, hb.tape, hb.output, hb.size, fun b _ hx => nm_other _ _ _ hx⟩ hl
set_option maxRecDepth 100000 in
set_option maxHeartbeats 4000000 in
theorem smake_any {v : Value} {n : Nm2} (tk : Nat) (htk : tk < L.length) (hfew : L.length ≤ 6000) (hs : ∀ t ∈ L, t.text.size ≤ 3000) (hM : M ≤ 900000) (h : SrAt w r ob la lc L st M) (hn : Nm2At w ob v n) (hn1 : n.1.length < 900000) (hn2 : n.2.length < 900000) :
    Calls Try.prog 46 #[.pointer (some ⟨r, 0, none⟩), v, .int .i64 (tk : Int)] w fun q w' => ∃ v', q = .returned v' ∧ Nm2At w' ob v' (makeE L n tk st).1 ∧ SrAt w' r ob la lc L (makeE L n tk st).2 (M + 1) ∧ Kept (fun b => b = r ∨ b = ob) w w' := by
  have hn0 := hn
  obtain ⟨a, i, rfl, hA, hI, hao, hio⟩ := hn
  obtain ⟨hb1, hz1, k1, k2⟩ := makeW_facts w a i
  obtain ⟨t, ht⟩ : ∃ t, L[tk]? = some t := ⟨_, List.getElem?_eq_getElem htk⟩
  have htx : txtT L tk = t.text.data.toList := by unfold txtT; rw [ht]
  have hts := hs t (List.mem_of_getElem? ht)
  have h1 := h.below hb1
  obtain ⟨⟨c0, c1, c2, c3, c4⟩, _⟩ := h1.facts
  rcases h.toks with h0 | ⟨tb, off, hla, htl0, hcx0⟩
  · rw [h0] at htk; simp at htk
  have htl : tb < (makeW w a i).heap.size := by omega
  have x1 := (hb1.cell (p := ⟨tb, off + tk * 11 + 1, none⟩) htl0).trans (hcx0 tk t ht 1 _ rfl)
  have HLk := mf_lookW hI hb1 t.text (by unfold maxLen; omega)
  rw [← htx] at HLk
  have hrl0 := h.lt
  have hol0 := h.olt
  have hal := hA.lt
  have hil := hI.lt
  have HLo := hid h.lo
  have HN := hid (hn0.below hb1)
  subst hla
  have i0 : (0 : Int) ≤ (tk : Int) := by omega
  have i1 : (tk : Int) < (L.length : Int) := by omega
  have hpl := h1.lt
  obtain ⟨d0, d1, _, _⟩ := nm_facts k1
  have HR := hid h1
  have HB1 := hid hb1
  have HBx := hid (And.intro k1 k2)
  have HTx := hid htx
  have hwl : w.heap.size < (makeW w a i).heap.size := by omega
  have hwl1 : w.heap.size + 1 < (makeW w a i).heap.size := by omega
  unfold makeE
  generalize hlk : lookF n.2 (txtT L tk) = lk at *
  generalize t.text = X at *
  clear h hn0 hb1 k1 k2 hA hI ht htx h1 hcx0 hlk c2 c3 c4
  go_enter Try.func46, Try.ntmps46
  go_upto_region 1 with fail
  change Code.wp _ _ _ _ (makeW w a i)
  generalize makeW w a i = w1 at *
  cases lk with
  | some d =>
    simp only [Option.getD_some, Option.isSome_some] at HLk
    go_quiet (fail)
    have HS := hid (sstop_any tk 7 (by decide) htk (HR.out.below (dN_below (Below.refl _ w1) nq)))
    have hb2 := dN_below (Below.refl w1.heap.size w1) nq
    have HK2 := hid ((kept_of_below (X := fun b => b = r ∨ b = ob) HB1.out).trans (kept_of_below hb2))
    have HN2 := hid (HN.out.below hb2)
    have HX2 := hid (And.intro ((hb2.block _ (by omega)).trans HBx.out.1) ((hb2.block _ (by omega)).trans HBx.out.2))
    have hz2 := hb2.size
    have HR2 := hid (HR.out.below hb2).cellO
    clear hb2
    generalize World.drewN _ nq = w2 at *
    clear HLk c0 c1 x1 d0 d1
    go_wp2_with fail
    refine HS.out.mono ?_
    rintro e w3 ⟨rfl, hS3, hk3⟩
    have HK3 := hid (HK2.out.trans (hk3.mono (fun b hb => .inl hb)))
    have HN3 := hid (HN2.out.kept HR2.out (hk3.mono (fun b hb => .inl hb)))
    have hx0 := (hk3.block w.heap.size (by omega) (by omega)).trans HX2.out.1
    have hx1 := (hk3.block (w.heap.size + 1) (by omega) (by omega)).trans HX2.out.2
    have hz3 := hk3.size
    obtain ⟨e0, e1, _, _⟩ := nm_facts hx0
    obtain ⟨q0, q1, q2, q3⟩ := nm_facts hx1
    have HX3 := hid hx1
    have HS3 := hid hS3
    clear hS3 hk3 HS HK2 HN2 HX2 HR2 hx0 hx1
    go_wp2_with fail
    obtain ⟨a0, i0', ev, m1, m2, m3, m4⟩ := HN3.out
    cases ev
    refine bodyPost_ret (nm_ret Try.results46 (nm_put _ _ HX3.out) _ rfl) rfl ⟨_, rfl, ⟨a, i, rfl, m1.same (nm_other _ _ _ (by omega)), m2.same (nm_other _ _ _ (by omega)), m3, m4⟩, ?_, ?_⟩
    · exact (HS3.out.putB (by omega) (by omega) (fun b off e _ => by cases e; omega)).mono (Nat.le_succ M)
    · exact (HK3.out.setFar (a := ⟨w.heap.size + 1, 0, none⟩) (by simp) _).setFar (a := ⟨w.heap.size + 1, 1, none⟩) (by simp) _
  | none =>
    simp only [Option.getD_none, Option.isSome_none] at HLk
    go_quiet (fail)
    have hb2 := dN_below (Below.refl w1.heap.size w1) nq
    have HR2 := hid (HR.out.below hb2)
    have HK2 := hid ((kept_of_below (X := fun b => b = r ∨ b = ob) HB1.out).trans (kept_of_below hb2))
    have HN2 := hid (HN.out.below hb2)
    have HX2 := hid (And.intro ((hb2.block _ (by omega)).trans HBx.out.1) (And.intro ((hb2.block _ (by omega)).trans HBx.out.2) ((hb2.cell (p := ⟨tb, off + tk * 11 + 1, none⟩) htl).trans x1)))
    have hz2 := hb2.size
    clear hb2
    generalize World.drewN _ nq = w2 at *
    obtain ⟨⟨_, e1, e2, _, _⟩, _⟩ := HR2.out.facts
    have hpl2 := HR2.out.lt
    clear HLk c0 c1 x1 d0 d1
    cases hst : st with
    | error y =>
      have hy := HR2.out.err y hst
      have hyb : (y.1 == 0) = false := beq_eq_false_iff_ne.2 hy
      have HS4 : Hid (SrAt w2 r ob (some ⟨tb, off, none⟩) lc L (putE st tk tk) (M + 1)) := by
        have e : putE st tk tk = st := by rw [hst]; rfl
        show SrAt w2 r ob _ lc L (putE st tk tk) (M + 1)
        rw [e]
        exact HR2.out.mono (Nat.le_succ M)
      rw [hst] at e2
      change w2.cell? ⟨r, 2, none⟩ = some (.int .i64 y.1) at e2
      clear hst HR2
      have HN4 := HN2
      have HX4 := HX2
      have HK4 := HK2
      clear HN2 HX2 HK2
      obtain ⟨w4, hw4⟩ : ∃ w4, w4 = w2 := ⟨_, rfl⟩
      go_wp2_with fail
      subst hw4

      obtain ⟨a0, i0', ev, m1, m2, m3, m4⟩ := HN4.out
      cases ev
      have HW := hid (fun W (hW : Below w4.heap.size w4 W) => by
        obtain ⟨D1, p1, p2⟩ := m1.same (hW.block a m1.lt)
        obtain ⟨D2, q1, q2⟩ := m2.same (hW.block i m2.lt)
        have hQ : Calls Try.prog 65 #[.agg #[.map (some a), .map (some i)], .string X, .int .i64 (tk : Int)] W fun e w5 => e = .returned (.agg #[.map (some (W.heap.size + 2)), .map (some (W.heap.size + 3))]) ∧ MfAt w5 (W.heap.size + 2) ((txtT L tk, tk) :: n.1) ∧ MfAt w5 (W.heap.size + 3) ((txtT L tk, tk) :: n.2) ∧ Below W.heap.size W w5 := by
         refine (NWith_any a i n.1.length n.2.length D1 D2 X tk W (by unfold maxLen; omega) (by omega) p1 q1 (by omega) (by omega)).mono ?_
         rintro e w5 ⟨h1, h2, h3, h4⟩
         exact ⟨h1, ⟨_, h2, by rw [HTx.out]; exact p2.put _ _⟩, ⟨_, h3, by rw [HTx.out]; exact q2.put _ _⟩, h4⟩
        exact hQ)
      have HCell := hid (fun W (hW : Kept (· = w.heap.size + 1) w4 W) => by
        have hx4 := HX4.out
        obtain ⟨y0, y1, _, _⟩ := nm_facts ((hW.block w.heap.size (by omega) (by omega)).trans hx4.1)
        exact (And.intro y0 (And.intro y1 (And.intro ((hW.cell (p := ⟨r, 0, none⟩) HS4.out.lt (show ¬ r = w.heap.size + 1 by omega)).trans HS4.out.facts.1.1) ((hW.cell (p := ⟨tb, off + tk * 11 + 1, none⟩) (show tb < w4.heap.size by omega) (show ¬ tb = w.heap.size + 1 by omega)).trans hx4.2.2))) : W.cell? ⟨w.heap.size, 0, none⟩ = some (.map (some a)) ∧ W.cell? ⟨w.heap.size, 1, none⟩ = some (.map (some i)) ∧ W.cell? ⟨r, 0, none⟩ = some (.slice (some ⟨tb, off, none⟩) L.length lc) ∧ W.cell? ⟨tb, off + tk * 11 + 1, none⟩ = some (.string X)))
      obtain ⟨y0, y1, y2, y3⟩ := HCell.out w4 (Kept.refl _ _)
      have hbB : Below w4.heap.size w4 w4.drew := (Below.refl _ w4).drew
      have hkB : Kept (· = w.heap.size + 1) w4 w4.drew := kept_of_below hbB
      clear m1 m2
      go_wp2_with fail
      go_region_held3 (fun W => W.cell? ⟨w.heap.size, 0, none⟩ = some (.map (some a)) ∧ W.cell? ⟨w.heap.size, 1, none⟩ = some (.map (some i)) ∧ W.cell? ⟨r, 0, none⟩ = some (.slice (some ⟨tb, off, none⟩) L.length lc) ∧ W.cell? ⟨tb, off + tk * 11 + 1, none⟩ = some (.string X))
        ((refine HCell.out _ ?_; first | assumption | exact Kept.refl _ _ | exact (hkB5.setCell rfl _).setCell rfl _))
        ((go_at_call 65; refine (HW.out _ (by first | exact hbB | exact Below.refl _ _)).mono ?_; rintro e w5 ⟨rfl, hA5, hI5, hb5⟩; have HA5 := hid (And.intro hA5 hI5); have hbB5 := hbB.trans (hb5.mono hbB.size); have hkB5 : Kept (· = w.heap.size + 1) w4 w5 := kept_of_below hbB5; have hx5 := (hbB5.block (w.heap.size + 1) (by omega)).trans HX4.out.2.1; obtain ⟨q0, q1, q2, q3⟩ := nm_facts hx5; clear hA5 hI5 hb5))
      all_goals go_wp2_with fail
      all_goals (
        have hzd := hbB.size
        refine bodyPost_ret (nm_ret Try.results46 (nm_put _ _ hx5) _ rfl) rfl ⟨_, rfl, ⟨_, _, rfl, HA5.out.1.same (nm_other _ _ _ (by omega)), HA5.out.2.same (nm_other _ _ _ (by omega)), by omega, by omega⟩, ?_, ?_⟩
        · exact (HS4.out.below hbB5).putB (by omega) (by omega) (fun b off e _ => by cases e; omega)
        · exact ((HK4.out.trans (kept_of_below hbB5)).setFar (a := ⟨w.heap.size + 1, 0, none⟩) (by simp) _).setFar (a := ⟨w.heap.size + 1, 1, none⟩) (by simp) _)
    | ok b =>
      obtain ⟨D, m, hm, hown, hD⟩ := HR2.out.out
      have HD := hid (hD b hst)
      have HE := hid (fun W (hg : w2.grownBy W (some ob)) hO => HR2.out.put (w' := W) (tk := tk) (d := tk) hst hg (Nat.succ_le_succ hm) HD.out rfl hO)
      have hcO := HR2.out.cellO
      rw [hst] at e2
      change w2.cell? ⟨r, 2, none⟩ = some (.int .i64 0) at e2
      have hkey := Go.Maps.keyOf_int_mk (P := Try.prog) (k := 3) Try.underlying3 (wf_smallS (t := (tk : Int)) (by omega) (by omega))
      have HcO := hid hcO
      clear hst HR2 hD hcO
      go_wp2_with (first
        | (at_mapUpdate; refine wpList_mapUpdate_own _ rfl _ _ _ 68 rfl 3 3 (Go.Maps.int_keyed Try.underlying3) Try.underlying68 _ ob m _ rfl hown (by unfold maxLen; omega) _ _ _ rfl rfl hkey _ [] (plainElem_int Try.underlying3 (WalkArith.wf_i64 (by omega))) ?_; intro w4 hO4 hg4; go_frame)
        | go_in)
      have hk24 : Kept (fun b => b = r ∨ b = ob) w2 w4 := ⟨hg4.os, hg4.tape, hg4.output, hg4.size, fun b hb hx => hg4.block b hb (fun e => hx (.inr (Option.some.inj e)))⟩
      have HS4 := hid (HE.out _ hg4 hO4)
      have HK4 := hid (HK2.out.trans hk24)
      have HN4 := hid (HN2.out.kept HcO.out hk24)
      have HX4 := hid (And.intro ((hg4.block w.heap.size (by omega) (fun e => by have := Option.some.inj e; omega)).trans HX2.out.1) (And.intro ((hg4.block (w.heap.size + 1) (by omega) (fun e => by have := Option.some.inj e; omega)).trans HX2.out.2.1) ((hk24.cell (p := ⟨tb, off + tk * 11 + 1, none⟩) (show tb < w2.heap.size by omega) (fun h => by have := HLo.out tb off rfl (fun e => by rw [e] at htk; simp at htk); rcases h with h | h; exact this.1 h; exact this.2 h)).trans HX2.out.2.2)))
      have hz4 := hg4.size
      clear hO4 hg4 hk24 HE HD HN2 HK2 HX2 e1 e2 hown
      obtain ⟨a0, i0', ev, m1, m2, m3, m4⟩ := HN4.out
      cases ev
      have HW := hid (fun W (hW : Below w4.heap.size w4 W) => by
        obtain ⟨D1, p1, p2⟩ := m1.same (hW.block a m1.lt)
        obtain ⟨D2, q1, q2⟩ := m2.same (hW.block i m2.lt)
        have hQ : Calls Try.prog 65 #[.agg #[.map (some a), .map (some i)], .string X, .int .i64 (tk : Int)] W fun e w5 => e = .returned (.agg #[.map (some (W.heap.size + 2)), .map (some (W.heap.size + 3))]) ∧ MfAt w5 (W.heap.size + 2) ((txtT L tk, tk) :: n.1) ∧ MfAt w5 (W.heap.size + 3) ((txtT L tk, tk) :: n.2) ∧ Below W.heap.size W w5 := by
         refine (NWith_any a i n.1.length n.2.length D1 D2 X tk W (by unfold maxLen; omega) (by omega) p1 q1 (by omega) (by omega)).mono ?_
         rintro e w5 ⟨h1, h2, h3, h4⟩
         exact ⟨h1, ⟨_, h2, by rw [HTx.out]; exact p2.put _ _⟩, ⟨_, h3, by rw [HTx.out]; exact q2.put _ _⟩, h4⟩
        exact hQ)
      have HCell := hid (fun W (hW : Kept (· = w.heap.size + 1) w4 W) => by
        have hx4 := HX4.out
        obtain ⟨y0, y1, _, _⟩ := nm_facts ((hW.block w.heap.size (by omega) (by omega)).trans hx4.1)
        exact (And.intro y0 (And.intro y1 (And.intro ((hW.cell (p := ⟨r, 0, none⟩) HS4.out.lt (show ¬ r = w.heap.size + 1 by omega)).trans HS4.out.facts.1.1) ((hW.cell (p := ⟨tb, off + tk * 11 + 1, none⟩) (show tb < w4.heap.size by omega) (show ¬ tb = w.heap.size + 1 by omega)).trans hx4.2.2))) : W.cell? ⟨w.heap.size, 0, none⟩ = some (.map (some a)) ∧ W.cell? ⟨w.heap.size, 1, none⟩ = some (.map (some i)) ∧ W.cell? ⟨r, 0, none⟩ = some (.slice (some ⟨tb, off, none⟩) L.length lc) ∧ W.cell? ⟨tb, off + tk * 11 + 1, none⟩ = some (.string X)))
      obtain ⟨y0, y1, y2, y3⟩ := HCell.out w4 (Kept.refl _ _)
      have hbB : Below w4.heap.size w4 w4.drew := (Below.refl _ w4).drew
      have hkB : Kept (· = w.heap.size + 1) w4 w4.drew := kept_of_below hbB
      clear m1 m2
      go_wp2_with fail
      go_region_held3 (fun W => W.cell? ⟨w.heap.size, 0, none⟩ = some (.map (some a)) ∧ W.cell? ⟨w.heap.size, 1, none⟩ = some (.map (some i)) ∧ W.cell? ⟨r, 0, none⟩ = some (.slice (some ⟨tb, off, none⟩) L.length lc) ∧ W.cell? ⟨tb, off + tk * 11 + 1, none⟩ = some (.string X))
        ((refine HCell.out _ ?_; first | assumption | exact Kept.refl _ _ | exact (hkB5.setCell rfl _).setCell rfl _))
        ((go_at_call 65; refine (HW.out _ (by first | exact hbB | exact Below.refl _ _)).mono ?_; rintro e w5 ⟨rfl, hA5, hI5, hb5⟩; have HA5 := hid (And.intro hA5 hI5); have hbB5 := hbB.trans (hb5.mono hbB.size); have hkB5 : Kept (· = w.heap.size + 1) w4 w5 := kept_of_below hbB5; have hx5 := (hbB5.block (w.heap.size + 1) (by omega)).trans HX4.out.2.1; obtain ⟨q0, q1, q2, q3⟩ := nm_facts hx5; clear hA5 hI5 hb5))
      all_goals go_wp2_with fail
      all_goals (
        have hzd := hbB.size
        refine bodyPost_ret (nm_ret Try.results46 (nm_put _ _ hx5) _ rfl) rfl ⟨_, rfl, ⟨_, _, rfl, HA5.out.1.same (nm_other _ _ _ (by omega)), HA5.out.2.same (nm_other _ _ _ (by omega)), by omega, by omega⟩, ?_, ?_⟩
        · exact (HS4.out.below hbB5).putB (by omega) (by omega) (fun b off e _ => by cases e; omega)
        · exact ((HK4.out.trans (kept_of_below hbB5)).setFar (a := ⟨w.heap.size + 1, 0, none⟩) (by simp) _).setFar (a := ⟨w.heap.size + 1, 1, none⟩) (by simp) _)
end
end Go.Proofs.Ytkfbhknhjpmomaa
