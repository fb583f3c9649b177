/- Walk of the document's own Parse, where the head is wrong. · Walk of the document's own Parse, where the parameters are wrong. · The document's own Parse: the state of its loops. · The document's own Parse where its body is too long (made by wip/tools/gen/genrparse.py). · The document's own Parse: its loops. · The document's own Parse: its loops, without a call (made by wip/tools/gen/genrparsef.py word). · The document's own Parse: its loops, without a call (made by wip/tools/gen/genrparsef.py apart). · The document's own Parse of one token alone (made by wip/tools/gen/genrparseh.py). · The document's own Parse, of any tokens. -/
import Derived.Test.YtedmcefckcmheaaGreatDoorMcI
namespace Go.Proofs.YtedmcefckcmheaaGreatDoor
section
open Go.RowKit Go.Shelf

/-- The results' blocks as they are at first. -/
structure BadSt (w W : World) : Prop where
  below : Below w.heap.size w W
  box : MBox W w.heap.size ⟨⟨#[]⟩, false, none, 0, 0, false, none, 0, 0⟩
  flt : FBy W (w.heap.size + 1) 0 0 0
theorem BadSt.lower {w W W' : World} (h : BadSt w W) (hb : Below W.heap.size W W') : BadSt w W' := ⟨h.below.trans (hb.mono h.below.size), h.box.below hb, h.flt.below hb⟩
theorem BadSt.new (w : World) : BadSt w ((w.alloc (.cells #[.string ⟨#[]⟩, .bool false, .slice none 0 0, .bool false, .slice none 0 0] 26)).alloc (.cells #[.int .i64 0, .int .i64 0, .int .i64 0] 29)) := by
  have h1 : MBox (w.alloc (.cells #[.string ⟨#[]⟩, .bool false, .slice none 0 0, .bool false, .slice none 0 0] 26)) w.heap.size ⟨⟨#[]⟩, false, none, 0, 0, false, none, 0, 0⟩ := heap_alloc_new w _
  have h2 := FBy.new (w.alloc (.cells #[.string ⟨#[]⟩, .bool false, .slice none 0 0, .bool false, .slice none 0 0] 26)) 0 0 0
  rw [World.size_alloc] at h2
  exact ⟨((Below.refl _ w).alloc (Nat.le_refl _) _).alloc (by simp) _, h1.below ((Below.refl _ _).alloc (Nat.le_refl _) _), h2⟩
/-- Behind the results' stores. -/
theorem BadSt.stored {w W : World} (h : BadSt w W) (e f g : Int) :
    MBox ((((((((W.setCell ⟨w.heap.size, 0, none⟩ (.string ⟨#[]⟩)).setCell ⟨w.heap.size, 1, none⟩ (.bool false)).setCell ⟨w.heap.size, 2, none⟩ (.slice none 0 0)).setCell ⟨w.heap.size, 3, none⟩ (.bool false)).setCell ⟨w.heap.size, 4, none⟩ (.slice none 0 0)).setCell ⟨w.heap.size + 1, 0, none⟩ (.int .i64 e)).setCell ⟨w.heap.size + 1, 1, none⟩ (.int .i64 f)).setCell ⟨w.heap.size + 1, 2, none⟩ (.int .i64 g)) w.heap.size ⟨⟨#[]⟩, false, none, 0, 0, false, none, 0, 0⟩ ∧
    FBy ((((((((W.setCell ⟨w.heap.size, 0, none⟩ (.string ⟨#[]⟩)).setCell ⟨w.heap.size, 1, none⟩ (.bool false)).setCell ⟨w.heap.size, 2, none⟩ (.slice none 0 0)).setCell ⟨w.heap.size, 3, none⟩ (.bool false)).setCell ⟨w.heap.size, 4, none⟩ (.slice none 0 0)).setCell ⟨w.heap.size + 1, 0, none⟩ (.int .i64 e)).setCell ⟨w.heap.size + 1, 1, none⟩ (.int .i64 f)).setCell ⟨w.heap.size + 1, 2, none⟩ (.int .i64 g)) (w.heap.size + 1) e f g ∧
    Below w.heap.size w ((((((((W.setCell ⟨w.heap.size, 0, none⟩ (.string ⟨#[]⟩)).setCell ⟨w.heap.size, 1, none⟩ (.bool false)).setCell ⟨w.heap.size, 2, none⟩ (.slice none 0 0)).setCell ⟨w.heap.size, 3, none⟩ (.bool false)).setCell ⟨w.heap.size, 4, none⟩ (.slice none 0 0)).setCell ⟨w.heap.size + 1, 0, none⟩ (.int .i64 e)).setCell ⟨w.heap.size + 1, 1, none⟩ (.int .i64 f)).setCell ⟨w.heap.size + 1, 2, none⟩ (.int .i64 g)) := by
  have hs := same5_heap h.box
  have hb := same5_b (v0 := .string ⟨#[]⟩) (v1 := .bool false) (v2 := .slice none 0 0) (v3 := .bool false) (v4 := .slice none 0 0) h.below
  dsimp only at hs
  generalize ((((W.setCell ⟨w.heap.size, 0, none⟩ (.string ⟨#[]⟩)).setCell ⟨w.heap.size, 1, none⟩ (.bool false)).setCell ⟨w.heap.size, 2, none⟩ (.slice none 0 0)).setCell ⟨w.heap.size, 3, none⟩ (.bool false)).setCell ⟨w.heap.size, 4, none⟩ (.slice none 0 0) = W5 at hs hb ⊢
  refine ⟨?_, FBy.set (by unfold FBy; rw [hs]; exact h.flt) e f g, FBy.frame hb (Nat.le_succ _) _ _ _⟩
  unfold MBox
  rw [Below.heap_setCell _ _ _ _ (by show w.heap.size ≠ w.heap.size + 1; omega), Below.heap_setCell _ _ _ _ (by show w.heap.size ≠ w.heap.size + 1; omega), Below.heap_setCell _ _ _ _ (by show w.heap.size ≠ w.heap.size + 1; omega), hs]
  exact h.box
theorem rparse_ret {W : World} {A B : Nat} {v : Mv} {e f g : Int} (hA : MBox W A v) (hB : FBy W B e f g) (tmps : Array Value) (h1 : tmps.getD 2 undef = .pointer (some ⟨A, 0, none⟩)) (h2 : tmps.getD 3 undef = .pointer (some ⟨B, 0, none⟩)) :
    (results Tryz.f9 tmps).run Tryz.prog W = .ok (.tuple #[aggM v, .agg #[.int .i64 e, .int .i64 f, .int .i64 g]]) W := by
  obtain ⟨c0, c1, c2, c3, c4⟩ := hA.facts.1
  obtain ⟨d0, d1, d2, _⟩ := hB.facts
  simp at h1 h2
  unfold aggM
  simp [results, Tryz.results9, go_sem, h1, h2, c0, c1, c2, c3, c4, d0, d1, d2]
theorem bad_post {w W : World} {ts : List Tk} {e f g : Int} (hb : Below w.heap.size w W) (hp : parseL ts = (⟨⟨#[]⟩, false, [], false, []⟩, (e, f, g))) : ParsePost w (parseL ts) (.returned (.tuple #[aggM ⟨⟨#[]⟩, false, none, 0, 0, false, none, 0, 0⟩, .agg #[.int .i64 e, .int .i64 f, .int .i64 g]])) W := by
  rw [hp]
  exact ⟨_, rfl, ⟨rfl, rfl, rfl, .inl rfl, rfl, rfl, .inl rfl⟩, hb⟩
theorem head_bad {ts : List Tk} (h : (headL ts).err ≠ 0) : parseL ts = (⟨⟨#[]⟩, false, [], false, []⟩, ((headL ts).err, (tokAt ts (headL ts).next).file, (tokAt ts (headL ts).next).lo)) := by
  unfold parseL
  rw [if_pos h]
theorem head_kind {ts : List Tk} (h : ((tokAt ts 0).kind == 1) = false) : headL ts = ⟨⟨#[]⟩, false, [], false, 0, 2⟩ := by
  unfold headL
  rw [h]; rfl
theorem head_builtin {ts : List Tk} (h : ((tokAt ts 0).kind == 1) = true) (hb : builtinB (tokAt ts 0).text.toList = true) : headL ts = ⟨⟨#[]⟩, false, [], false, 0, 7⟩ := by
  unfold headL
  rw [if_pos h, if_pos hb]
def builtinS : List ByteArray := [⟨#[95, 95, 76, 73, 78, 69, 95, 95]⟩, ⟨#[95, 95, 70, 73, 76, 69, 95, 95]⟩, ⟨#[100, 101, 102, 105, 110, 101, 100]⟩]
theorem has_builtin (x : ByteArray) : Lib.containsS builtinS x = builtinB x.toList := by
  rw [Bool.eq_iff_iff, Lib.containsS_iff]
  unfold builtinB builtinS
  have hx : ∀ l : Array UInt8, x = ⟨l⟩ ↔ x.toList = l.toList := fun l => by
    constructor
    · rintro rfl; rw [toList_data]
    · intro h; rw [toList_data] at h; exact bytes_same (by rw [toList_data, toList_data]; exact h)
  simp [hx, or_assoc]
theorem three_new (w : World) : StAt (w.alloc (.cells #[.string ⟨#[95, 95, 76, 73, 78, 69, 95, 95]⟩, .string ⟨#[95, 95, 70, 73, 76, 69, 95, 95]⟩, .string ⟨#[100, 101, 102, 105, 110, 101, 100]⟩] 9)) (some ⟨w.heap.size, 0, none⟩) builtinS := by
  refine .inr ⟨w.heap.size, 0, rfl, by simp, fun j x hx => ?_⟩
  rw [Go.Joins.cell_of_block (heap_alloc_new w _), Nat.zero_add]
  match j, hx with
  | 0, hx => cases hx; rfl
  | 1, hx => cases hx; rfl
  | 2, hx => cases hx; rfl
set_option maxRecDepth 100000 in
set_option maxHeartbeats 1000000 in
theorem RParse_none (a : Option Addr) (c : Nat) (w : World) (hT : TAt w a []) :
    Calls Tryz.prog 9 #[.slice a 0 c] w (ParsePost w (parseL [])) := by
  have HAt := hid (fun (i : Nat) (e0 : Int) W (hW : Below w.heap.size w W) => rat_any a c [] i e0 W (hT.below hW) (by simp))
  have HS := hid (BadSt.new w)
  go_enter Tryz.func9, Tryz.ntmps9
  go_wp2_with fail
  refine (HAt.out 0 2 _ HS.out.below).mono ?_
  rintro e w1 ⟨rfl, hb1⟩
  have HS1 := hid (HS.out.lower hb1)
  clear hb1
  obtain ⟨z0, z1, z2, z3, z4, z5⟩ := HS1.out.flt.facts
  obtain ⟨⟨m0, m1, m2, m3, m4⟩, ⟨n0, n1, n2, n3, n4⟩⟩ := HS1.out.box.facts
  dsimp only at m0 m1 m2 m3 m4
  go_wp2_with fail
  have HQ := hid (HS1.out.stored 2 (tokAt [] 0).file (tokAt [] 0).lo)
  exact bodyPost_ret (rparse_ret HQ.out.1 HQ.out.2.1 _ rfl rfl) rfl (bad_post HQ.out.2.2 (by rw [head_bad (by rw [head_kind rfl]; decide), head_kind rfl]))

set_option maxRecDepth 100000 in
set_option maxHeartbeats 1000000 in
/-- The first token is no name, or one that may not be defined. -/
theorem RParse_first (a : Option Addr) (c : Nat) (ts : List Tk) (w : World) (hT : TAt w a ts) (hl : ts.length ≤ 1048576) (hlt : 0 < ts.length) (h : ((tokAt ts 0).kind == 1) = false ∨ builtinB (tokAt ts 0).text.toList = true) :
    Calls Tryz.prog 9 #[.slice a ts.length c] w (ParsePost w (parseL ts)) := by
  have HAt := hid (fun (i : Nat) (e0 : Int) W (hW : Below w.heap.size w W) => rat_any a c ts i e0 W (hT.below hW) hl)
  have HS := hid (BadSt.new w)
  have HHas := hid (fun pa pc (ps : List ByteArray) s W (h : StAt W pa ps) (hs : ps.length ≤ 1048576) => RHas_any pa pc ps s W h hs)
  rcases hT with h0 | ⟨bb, off, rfl, hbb, hc⟩
  · rw [h0] at hlt; simp at hlt
  have hx := tok_in hlt
  have c0 := hc 0 _ hx 0 _ rfl
  have c1 := hc 0 _ hx 1 _ rfl
  simp only [Nat.zero_mul, Nat.add_zero] at c0 c1
  obtain ⟨N, hN⟩ : ∃ N, ts.length = N := ⟨_, rfl⟩
  rw [hN] at HAt ⊢
  have hN0 : ((N : Int) == 0) = false := by simp; omega
  have hN1 : (0 : Int) < (N : Int) := by omega
  have hN2 : 0 < N := by omega
  have hb2 : bb < w.heap.size + 1 := by omega
  have hb3 : bb < w.heap.size + 1 + 1 := by omega
  have hb4 : bb ≠ w.heap.size + 1 + 1 := by omega
  have hb5 : bb ≠ w.heap.size + 1 := by omega
  have hb6 : bb ≠ w.heap.size := by omega
  clear hc hx hN hl hlt
  rcases hk : ((tokAt ts 0).kind == 1) with _ | _
  · have Hp := hid (show parseL ts = (⟨⟨#[]⟩, false, [], false, []⟩, (2, (tokAt ts 0).file, (tokAt ts 0).lo)) by rw [head_bad (by rw [head_kind hk]; decide), head_kind hk])
    have hk' : ((tokAt ts 0).kind != 1) = true := by simp [bne, hk]
    clear h
    go_enter Tryz.func9, Tryz.ntmps9
    go_wp2_with fail
    refine (HAt.out 0 2 _ HS.out.below).mono ?_
    rintro e w1 ⟨rfl, hb1⟩
    have HS1 := hid (HS.out.lower hb1)
    clear hb1
    obtain ⟨z0, z1, z2, z3, z4, z5⟩ := HS1.out.flt.facts
    obtain ⟨⟨m0, m1, m2, m3, m4⟩, ⟨n0, n1, n2, n3, n4⟩⟩ := HS1.out.box.facts
    dsimp only at m0 m1 m2 m3 m4
    go_wp2_with fail
    have HQ := hid (HS1.out.stored 2 (tokAt ts 0).file (tokAt ts 0).lo)
    exact bodyPost_ret (rparse_ret HQ.out.1 HQ.out.2.1 _ rfl rfl) rfl (bad_post HQ.out.2.2 Hp.out)
  · have hbu : builtinB (tokAt ts 0).text.toList = true := by
      rcases h with h | h
      · rw [hk] at h; cases h
      · exact h
    have Hp := hid (show parseL ts = (⟨⟨#[]⟩, false, [], false, []⟩, (7, (tokAt ts 0).file, (tokAt ts 0).lo)) by rw [head_bad (by rw [head_builtin hk hbu]; decide), head_builtin hk hbu])
    have hk' : ((tokAt ts 0).kind != 1) = false := by simp [bne, hk]
    have Hbu := hid hbu
    clear h hbu
    go_enter Tryz.func9, Tryz.ntmps9
    have hS := HS.out.lower ((Below.refl _ _).alloc (Nat.le_refl _) (.cells #[.string ⟨#[95, 95, 76, 73, 78, 69, 95, 95]⟩, .string ⟨#[95, 95, 70, 73, 76, 69, 95, 95]⟩, .string ⟨#[100, 101, 102, 105, 110, 101, 100]⟩] 9))
    have HSt := hid (three_new ((w.alloc (.cells #[.string ⟨#[]⟩, .bool false, .slice none 0 0, .bool false, .slice none 0 0] 26)).alloc (.cells #[.int .i64 0, .int .i64 0, .int .i64 0] 29)))
    rw [World.size_alloc, World.size_alloc] at HSt
    have HS3 := hid hS
    clear hS
    go_wp2_with fail
    refine (HHas.out _ _ builtinS _ _ HSt.out (by decide)).mono ?_
    rintro e w2 ⟨rfl, hb2⟩
    rw [has_builtin, Hbu.out]
    have HS4 := hid (HS3.out.lower hb2)
    clear hb2
    go_wp2_with fail
    refine (HAt.out 0 7 _ HS4.out.below).mono ?_
    rintro e w1 ⟨rfl, hb1⟩
    have HS1 := hid (HS4.out.lower hb1)
    clear hb1
    obtain ⟨z0, z1, z2, z3, z4, z5⟩ := HS1.out.flt.facts
    obtain ⟨⟨m0, m1, m2, m3, m4⟩, ⟨n0, n1, n2, n3, n4⟩⟩ := HS1.out.box.facts
    dsimp only at m0 m1 m2 m3 m4
    go_wp2_with fail
    have HQ := hid (HS1.out.stored 7 (tokAt ts 0).file (tokAt ts 0).lo)
    exact bodyPost_ret (rparse_ret HQ.out.1 HQ.out.2.1 _ rfl rfl) rfl (bad_post HQ.out.2.2 Hp.out)
end
section
open Go.RowKit Go.Shelf

theorem head_call {ts : List Tk} (h0 : ((tokAt ts 0).kind == 1) = true) (hb : builtinB (tokAt ts 0).text.toList = false) (h1 : ((tokAt ts 1).text.toList == [40]) = true) (h2 : (tokAt ts 1).space = false) : headL ts = ⟨(tokAt ts 0).text, true, (parA ts).1, (parA ts).2.1, (parA ts).2.2.1, (parA ts).2.2.2⟩ := by
  unfold headL
  rw [if_pos h0, if_neg (by rw [hb]; decide), if_pos (by rw [h1, h2]; rfl)]
  rfl
set_option maxRecDepth 100000 in
set_option maxHeartbeats 1000000 in
theorem RParse_params (a : Option Addr) (c : Nat) (ts : List Tk) (w : World) (hT : TAt w a ts) (hl : ts.length ≤ 1048576) (hn : ∀ t ∈ ts, (t.kind == 1) = true → (t.text.toList == [44]) = false ∧ (t.text.toList == [41]) = false) (hk : ((tokAt ts 0).kind == 1) = true) (hbu : builtinB (tokAt ts 0).text.toList = false) (h1 : ((tokAt ts 1).text.toList == [40]) = true) (h2 : (tokAt ts 1).space = false) (he : (parA ts).2.2.2 ≠ 0) :
    Calls Tryz.prog 9 #[.slice a ts.length c] w (ParsePost w (parseL ts)) := by
  have hlt1 : 1 < ts.length := tok_there h1
  have HAt := hid (fun (i : Nat) (e0 : Int) W (hW : Below w.heap.size w W) => rat_any a c ts i e0 W (hT.below hW) hl)
  have HPar := hid (fun (B : Nat) (nm : ByteArray) W0 W (hW : Below w.heap.size w W0) => RParams_any W0 B nm a c ts W (hT.below hW) hl hn)
  have HS := hid (BadSt.new w)
  have HHas := hid (fun pa pc (ps : List ByteArray) s W (h : StAt W pa ps) (hs : ps.length ≤ 1048576) => RHas_any pa pc ps s W h hs)
  rcases hT with h0 | ⟨bb, off, rfl, hbb, hc⟩
  · rw [h0] at hlt1; simp at hlt1
  have hx := tok_in (show 0 < ts.length by omega)
  have hx1 := tok_in hlt1
  have c0 := hc 0 _ hx 0 _ rfl
  have c1 := hc 0 _ hx 1 _ rfl
  have d1 := hc 1 _ hx1 1 _ rfl
  have d2 := hc 1 _ hx1 2 _ rfl
  simp only [Nat.zero_mul, Nat.add_zero, Nat.one_mul] at c0 c1 d1 d2
  obtain ⟨N, hN⟩ : ∃ N, ts.length = N := ⟨_, rfl⟩
  rw [hN] at HAt HPar ⊢
  have hN0 : ((N : Int) == 0) = false := by simp; omega
  have hN1 : (0 : Int) < (N : Int) := by omega
  have hN2 : 0 < N := by omega
  have hN3 : (1 : Int) < (N : Int) := by omega
  have hN4 : 1 < N := by omega
  have hb2 : bb < w.heap.size + 1 := by omega
  have hb3 : bb < w.heap.size + 1 + 1 := by omega
  have hb4 : bb ≠ w.heap.size + 1 + 1 := by omega
  have hb5 : bb ≠ w.heap.size + 1 := by omega
  have hb6 : bb ≠ w.heap.size := by omega
  have Hp := hid (show parseL ts = (⟨⟨#[]⟩, false, [], false, []⟩, ((parA ts).2.2.2, (tokAt ts (parA ts).2.2.1).file, (tokAt ts (parA ts).2.2.1).lo)) by rw [head_bad (by rw [head_call hk hbu h1 h2]; exact he), head_call hk hbu h1 h2])
  generalize parA ts = R at HPar Hp he
  have hk' : ((tokAt ts 0).kind != 1) = false := by simp [bne, hk]
  have Hbu := hid hbu
  have HCD : Hid (∀ W, Below w.heap.size w W → W.cell? ⟨bb, off + 1, none⟩ = some (.string (tokAt ts 0).text) ∧ W.cell? ⟨bb, off + 11 + 1, none⟩ = some (.string (tokAt ts 1).text) ∧ W.cell? ⟨bb, off + 11 + 2, none⟩ = some (.bool (tokAt ts 1).space)) := fun W hW => ⟨(hW.cell (p := ⟨bb, _, none⟩) hbb).trans c1, (hW.cell (p := ⟨bb, _, none⟩) hbb).trans d1, (hW.cell (p := ⟨bb, _, none⟩) hbb).trans d2⟩
  have He := hid he
  clear hbu hc hx hx1 hN hl hn d1 d2 he hlt1
  have HS3 := hid (HS.out.lower ((Below.refl _ _).alloc (Nat.le_refl _) (.cells #[.string ⟨#[95, 95, 76, 73, 78, 69, 95, 95]⟩, .string ⟨#[95, 95, 70, 73, 76, 69, 95, 95]⟩, .string ⟨#[100, 101, 102, 105, 110, 101, 100]⟩] 9)))
  have HSt := hid (three_new ((w.alloc (.cells #[.string ⟨#[]⟩, .bool false, .slice none 0 0, .bool false, .slice none 0 0] 26)).alloc (.cells #[.int .i64 0, .int .i64 0, .int .i64 0] 29)))
  rw [World.size_alloc, World.size_alloc] at HSt
  go_enter Tryz.func9, Tryz.ntmps9
  go_wp2_with fail
  refine (HHas.out _ _ builtinS _ _ HSt.out (by decide)).mono ?_
  rintro e w2 ⟨rfl, hb2'⟩
  rw [has_builtin, Hbu.out]
  have HS4 := hid (HS3.out.lower hb2')
  obtain ⟨e1, e2, e3⟩ := HCD.out _ HS4.out.below
  have hbw : bb < w2.heap.size := Nat.lt_of_lt_of_le hbb HS4.out.below.size
  clear hb2' c0 c1 hb2 hb3 hb4 hb5 hb6
  rw [h2] at e3
  go_wp2_with fail
  refine (HPar.out w2.heap.size (tokAt ts 0).text w2 _ HS4.out.below ((Below.refl _ w2).alloc (Nat.le_refl _) _) (Nat.le_refl _) (heap_alloc_new w2 _)).mono ?_
  rintro e w3 ⟨hb3, (⟨e0, _⟩ | ⟨_, rfl⟩)⟩
  · exact absurd e0 He.out
  · have HS5 := hid (HS4.out.lower hb3)
    have hne : (R.2.2.2 == 0) = false := by simpa using He.out
    have hne' : (R.2.2.2 != 0) = true := by simpa using He.out
    clear hb3 He
    generalize R.2.2.2 = er at Hp hne hne' ⊢
    generalize (tokAt ts R.2.2.1).file = fi at Hp ⊢
    generalize (tokAt ts R.2.2.1).lo = lo at Hp ⊢
    obtain ⟨z0, z1, z2, z3, z4, z5⟩ := HS5.out.flt.facts
    obtain ⟨⟨m0, m1, m2, m3, m4⟩, ⟨n0, n1, n2, n3, n4⟩⟩ := HS5.out.box.facts
    dsimp only at m0 m1 m2 m3 m4
    have hA5 : w.heap.size < w3.heap.size := lt_of_block HS5.out.box
    have hF5 : w.heap.size + 1 < w3.heap.size := lt_of_block HS5.out.flt
    go_wp2_with fail
    have HS6 := hid (HS5.out.lower ((Below.refl _ _).alloc (Nat.le_refl _) (.cells #[.int .i64 er, .int .i64 fi, .int .i64 lo] 29)))
    have HX := hid (FBy.new w3 er fi lo)
    have hXl : w3.heap.size < (w3.alloc (.cells #[.int .i64 er, .int .i64 fi, .int .i64 lo] 29)).heap.size := by simp
    generalize w3.alloc (.cells #[.int .i64 er, .int .i64 fi, .int .i64 lo] 29) = wX at HS6 HX hXl ⊢
    clear z0 z1 z2 z3 z4 z5 m0 m1 m2 m3 m4 n0 n1 n2 n3 n4
    obtain ⟨z0, z1, z2, z3, z4, z5⟩ := HS6.out.flt.facts
    obtain ⟨⟨m0, m1, m2, m3, m4⟩, ⟨n0, n1, n2, n3, n4⟩⟩ := HS6.out.box.facts
    obtain ⟨y0, y1, y2, y3, y4, y5⟩ := HX.out.facts
    dsimp only at m0 m1 m2 m3 m4
    have q1 : w.heap.size ≠ w3.heap.size := by omega
    have q2 : w.heap.size + 1 ≠ w3.heap.size := by omega
    have q3 : w.heap.size ≠ w.heap.size + 1 := by omega
    generalize w3.heap.size = X at *
    go_region
    all_goals go_wp2_with fail
    all_goals (have HQ := hid (HS6.out.stored er fi lo))
    all_goals exact bodyPost_ret (rparse_ret (HQ.out.1.below (Below.refl _ _).drew) (HQ.out.2.1.below (Below.refl _ _).drew) _ rfl rfl) rfl (bad_post HQ.out.2.2.drew Hp.out)
end
section
open Go.RowKit Go.Shelf

/-- The state of the body's loop: the results' blocks as they were, m's box at M, its parameters' row and its body's row. -/
structure TailSt (w : World) (M base : Nat) (nm : ByteArray) (call : Bool) (ps : List ByteArray) (more : Bool) (pa : Option Addr) (pc : Nat) (bs : List Tk) (ba : Option Addr) (bc : Nat) (W : World) : Prop where
  bad : BadSt w W
  box : MBox W M ⟨nm, call, pa, ps.length, pc, more, ba, bs.length, bc⟩
  pars : ∃ pb, W.ownsRow pb 9 1 (.slice pa ps.length pc) ps.length (txts ps)
  far : ∀ k, (Value.slice pa ps.length pc).ownBlock = some k → M < k ∧ k < base
  row : W.ownsRow base 43 11 (.slice ba bs.length bc) bs.length (cellsT bs)
  top : base ≤ W.heap.size
  lo : w.heap.size + 1 < M
  hi : M < base
theorem TailSt.lower {w : World} {M base : Nat} {nm : ByteArray} {call : Bool} {ps : List ByteArray} {more : Bool} {pa : Option Addr} {pc : Nat} {bs : List Tk} {ba : Option Addr} {bc : Nat} {W W' : World} (h : TailSt w M base nm call ps more pa pc bs ba bc W) (hb : Below W.heap.size W W') : TailSt w M base nm call ps more pa pc bs ba bc W' := by
  obtain ⟨pb, hp⟩ := h.pars
  exact ⟨h.bad.lower hb, h.box.below hb, ⟨pb, own_below hp hb⟩, h.far, own_below h.row hb, Nat.le_trans h.top hb.size, h.lo, h.hi⟩
theorem TailSt.stat {w : World} {M base : Nat} {nm : ByteArray} {call : Bool} {ps : List ByteArray} {more : Bool} {pa : Option Addr} {pc : Nat} {bs : List Tk} {ba : Option Addr} {bc : Nat} {W : World} (h : TailSt w M base nm call ps more pa pc bs ba bc W) : StAt W pa ps := by
  obtain ⟨pb, hp⟩ := h.pars
  obtain ⟨a, c, e, hs⟩ := StAt.of_row hp
  cases e
  exact hs
theorem TailSt.tat {w : World} {M base : Nat} {nm : ByteArray} {call : Bool} {ps : List ByteArray} {more : Bool} {pa : Option Addr} {pc : Nat} {bs : List Tk} {ba : Option Addr} {bc : Nat} {W : World} (h : TailSt w M base nm call ps more pa pc bs ba bc W) : TAt W ba bs := by
  obtain ⟨a, c, e, hs⟩ := TAt.of_row h.row
  cases e
  exact hs
/-- A row that lies below stays as another one grows. -/
theorem own_grown {w w' : World} {base e size n : Nat} {v : Value} {xs : List Value} (h : w.ownsRow base e size v n xs) {o : Option Nat} (hg : w.grownBy w' o) (hne : ∀ k, v.ownBlock = some k → o ≠ some k) : w'.ownsRow base e size v n xs := by
  refine ⟨h.1, ?_⟩
  rcases h.2 with h' | ⟨g, cap, cur, hv, hb, hh, r⟩
  · exact .inl h'
  · exact .inr ⟨g, cap, cur, hv, hb, (hg.block g (lt_of_block hh) (fun e => hne g (by rw [hv]; rfl) e.symm)).trans hh, r⟩
/-- Behind the append, ahead of the store. -/
theorem TailSt.after {w : World} {M base : Nat} {nm : ByteArray} {call : Bool} {ps : List ByteArray} {more : Bool} {pa : Option Addr} {pc : Nat} {bs : List Tk} {ba : Option Addr} {bc k : Nat} {W : World} (h : TailSt w M base nm call ps more pa pc bs ba bc W) {w4 : World} (hg' : W.grownBy w4 (Value.slice ba k bc).ownBlock) :
    BadSt w w4 ∧ MBox w4 M ⟨nm, call, pa, ps.length, pc, more, ba, bs.length, bc⟩ ∧ (∃ pb, w4.ownsRow pb 9 1 (.slice pa ps.length pc) ps.length (txts ps)) ∧ base ≤ w4.heap.size := by
  have hg : W.grownBy w4 (Value.slice ba bs.length bc).ownBlock := by rw [own_same ba bs.length bc k bc]; exact hg'
  have hrl : ∀ k, (Value.slice ba bs.length bc).ownBlock = some k → base ≤ k := fun k e => (h.row.lt k e).1
  have hlo := h.lo
  have hhi := h.hi
  have hM := hg.block M (lt_of_block h.box) (fun e => by have := hrl M e.symm; omega)
  have hA := hg.block w.heap.size (lt_of_block h.bad.box) (fun e => by have := hrl _ e.symm; omega)
  have hF := hg.block (w.heap.size + 1) (lt_of_block h.bad.flt) (fun e => by have := hrl _ e.symm; omega)
  obtain ⟨pb, hp⟩ := h.pars
  exact ⟨⟨h.bad.below.grown hg h.bad.below.size (fun k e => by have := hrl k e; omega), hA.trans h.bad.box, hF.trans h.bad.flt⟩, hM.trans h.box, ⟨pb, own_grown hp hg (fun k e e' => by have := hrl k e'; have := (h.far k e).2; omega)⟩, Nat.le_trans h.top hg.size⟩
theorem tail_got {w : World} {M base : Nat} {nm : ByteArray} {call : Bool} {ps : List ByteArray} {more : Bool} {pa : Option Addr} {pc : Nat} {bs : List Tk} {ba a4 : Option Addr} {bc c4 : Nat} {W w4 : World} (h : TailSt w M base nm call ps more pa pc bs ba bc W) (haf : BadSt w w4 ∧ MBox w4 M ⟨nm, call, pa, ps.length, pc, more, ba, bs.length, bc⟩ ∧ (∃ pb, w4.ownsRow pb 9 1 (.slice pa ps.length pc) ps.length (txts ps)) ∧ base ≤ w4.heap.size) {k : Nat} (hk : bs.length = k) (t : Tk) (ho : w4.ownsRow base 43 11 (.slice a4 (k + 1) c4) (k + 1) (cellsT bs ++ encT t)) :
    TailSt w M base nm call ps more pa pc (bs ++ [t]) a4 c4 (w4.setCell ⟨M, 4, none⟩ (.slice a4 (k + 1) c4)) := by
  obtain ⟨hb, hm, ⟨pb, hp⟩, hs⟩ := haf
  have hlo := h.lo
  have hbx := Go.Joins.block_setCell (i := 4) hm (.slice a4 (k + 1) c4)
  have hl : (bs ++ [t]).length = k + 1 := by rw [List.length_append, hk]; rfl
  refine ⟨⟨hb.below.setCell (p := ⟨M, 4, none⟩) (by show w.heap.size ≤ M; omega) _, ?_, ?_⟩, ?_, ⟨pb, own_set2 hp (fun k e => Nat.ne_of_gt (h.far k e).1)⟩, h.far, ?_, by simpa using hs, h.lo, h.hi⟩
  · unfold MBox
    rw [Below.heap_setCell _ _ _ _ (by show w.heap.size ≠ M; omega)]
    exact hb.box
  · unfold FBy
    rw [Below.heap_setCell _ _ _ _ (by show w.heap.size + 1 ≠ M; omega)]
    exact hb.flt
  · unfold MBox
    rw [hl]
    simpa using hbx
  · rw [hl, cellsT_snoc]
    exact own_set ho h.hi

/-- One more cell of a block that lies below m's. -/
theorem TailSt.rows_set {w : World} {M base : Nat} {nm : ByteArray} {call : Bool} {ps : List ByteArray} {more : Bool} {pa : Option Addr} {pc : Nat} {bs : List Tk} {ba : Option Addr} {bc : Nat} {W0 : World} (h : TailSt w M base nm call ps more pa pc bs ba bc W0) {W : World} (hr : (∃ pb, W.ownsRow pb 9 1 (.slice pa ps.length pc) ps.length (txts ps)) ∧ W.ownsRow base 43 11 (.slice ba bs.length bc) bs.length (cellsT bs)) {A : Nat} (hA : A < M) (o : Nat) (v : Value) :
    (∃ pb, (W.setCell ⟨A, o, none⟩ v).ownsRow pb 9 1 (.slice pa ps.length pc) ps.length (txts ps)) ∧ (W.setCell ⟨A, o, none⟩ v).ownsRow base 43 11 (.slice ba bs.length bc) bs.length (cellsT bs) := by
  obtain ⟨⟨pb, hp⟩, hb⟩ := hr
  have hhi := h.hi
  exact ⟨⟨pb, own_set2 hp (fun k e => by have := (h.far k e).1; omega)⟩, own_set hb (by omega)⟩
/-- The good end's stores. -/
theorem TailSt.good {w : World} {M base : Nat} {nm : ByteArray} {call : Bool} {ps : List ByteArray} {more : Bool} {pa : Option Addr} {pc : Nat} {bs : List Tk} {ba : Option Addr} {bc : Nat} {W : World} (h : TailSt w M base nm call ps more pa pc bs ba bc W) (Wf : World)
    (e : Wf = (((((((W.setCell ⟨w.heap.size, 0, none⟩ (.string nm)).setCell ⟨w.heap.size, 1, none⟩ (.bool call)).setCell ⟨w.heap.size, 2, none⟩ (.slice pa ps.length pc)).setCell ⟨w.heap.size, 3, none⟩ (.bool more)).setCell ⟨w.heap.size, 4, none⟩ (.slice ba bs.length bc)).setCell ⟨w.heap.size + 1, 0, none⟩ (.int .i64 0)).setCell ⟨w.heap.size + 1, 1, none⟩ (.int .i64 (-1))).setCell ⟨w.heap.size + 1, 2, none⟩ (.int .i64 0)) :
    MBox Wf w.heap.size ⟨nm, call, pa, ps.length, pc, more, ba, bs.length, bc⟩ ∧ FBy Wf (w.heap.size + 1) 0 (-1) 0 ∧ MIs Wf ⟨nm, call, pa, ps.length, pc, more, ba, bs.length, bc⟩ ⟨nm, call, ps, more, bs⟩ ∧ Below w.heap.size w Wf := by
  have hlo := h.lo
  have hrows : (∃ pb, Wf.ownsRow pb 9 1 (.slice pa ps.length pc) ps.length (txts ps)) ∧ Wf.ownsRow base 43 11 (.slice ba bs.length bc) bs.length (cellsT bs) := by
    rw [e]
    iterate 8 refine h.rows_set ?_ (by omega) _ _
    exact ⟨h.pars, h.row⟩
  have h0 := Go.Joins.block_setCell (i := 0) h.bad.box (.string nm)
  have h1 := Go.Joins.block_setCell (i := 1) h0 (.bool call)
  have h2 := Go.Joins.block_setCell (i := 2) h1 (.slice pa ps.length pc)
  have h3 := Go.Joins.block_setCell (i := 3) h2 (.bool more)
  have h4 := Go.Joins.block_setCell (i := 4) h3 (.slice ba bs.length bc)
  have hne : w.heap.size ≠ w.heap.size + 1 := by omega
  have hbx : MBox Wf w.heap.size ⟨nm, call, pa, ps.length, pc, more, ba, bs.length, bc⟩ := by
    unfold MBox
    rw [e, Below.heap_setCell _ _ _ _ hne, Below.heap_setCell _ _ _ _ hne, Below.heap_setCell _ _ _ _ hne]
    simpa using h4
  have hfl : FBy Wf (w.heap.size + 1) 0 (-1) 0 := by
    rw [e]
    refine FBy.set (e := 0) (f := 0) (g := 0) ?_ 0 (-1) 0
    unfold FBy
    rw [Below.heap_setCell _ _ _ _ hne.symm, Below.heap_setCell _ _ _ _ hne.symm, Below.heap_setCell _ _ _ _ hne.symm, Below.heap_setCell _ _ _ _ hne.symm, Below.heap_setCell _ _ _ _ hne.symm]
    exact h.bad.flt
  refine ⟨hbx, hfl, ?_, by rw [e]; exact FBy.frame (same5_b h.bad.below) (Nat.le_succ _) _ _ _⟩
  obtain ⟨⟨pb, hp⟩, hb⟩ := hrows
  obtain ⟨a1, c1, e1, hs1⟩ := StAt.of_row hp
  obtain ⟨a2, c2, e2, hs2⟩ := TAt.of_row hb
  cases e1
  cases e2
  exact ⟨rfl, rfl, rfl, hs1, rfl, rfl, hs2⟩
end
section
open Go.RowKit Go.Shelf

theorem head_plain {ts : List Tk} (h0 : ((tokAt ts 0).kind == 1) = true) (hb : builtinB (tokAt ts 0).text.toList = false) (h1 : (((tokAt ts 1).text.toList == [40]) && !(tokAt ts 1).space) = false) : headL ts = ⟨(tokAt ts 0).text, false, [], false, 1, 0⟩ := by
  unfold headL
  rw [if_pos h0, if_neg (by rw [hb]; decide), if_neg (by rw [h1]; decide)]
theorem much_bad {ts : List Tk} {k : Nat} (he : (headL ts).err = 0) (hk : (headL ts).next = k) (hm : 60 < ts.length - k) : parseL ts = (⟨⟨#[]⟩, false, [], false, []⟩, (4, (tokAt ts (k + 60)).file, (tokAt ts (k + 60)).lo)) := by
  have hA : bodyA ts = (k + 60, 4) := by
    unfold bodyA
    rw [hk, if_pos (by omega)]
    unfold bodyR
    rw [if_pos hm]
  unfold parseL
  rw [if_neg (by rw [he]; decide), hA, if_pos (by show (4 : Int) ≠ 0; decide)]
theorem tail_call {w w3 : World} {M pb : Nat} {nm : ByteArray} {ps : List ByteArray} {more : Bool} {pa : Option Addr} {pc : Nat} (h : BadSt w w3) (hlo : w.heap.size + 1 < M) (hM : MBox w3 M ⟨nm, true, pa, ps.length, pc, more, none, 0, 0⟩) (hpb : M < pb) (hr : w3.ownsRow pb 9 1 (.slice pa ps.length pc) ps.length (txts ps)) :
    TailSt w M (w3.alloc (.cells #[.int .i64 0, .int .i64 (-1), .int .i64 0] 29)).heap.size nm true ps more pa pc [] none 0 (w3.alloc (.cells #[.int .i64 0, .int .i64 (-1), .int .i64 0] 29)) := by
  have hb := (Below.refl w3.heap.size w3).alloc (Nat.le_refl _) (.cells #[.int .i64 0, .int .i64 (-1), .int .i64 0] 29)
  have hl := lt_of_block hM
  refine ⟨h.lower hb, hM.below hb, ⟨pb, own_below hr hb⟩, fun k e => ?_, World.ownsRow_nil _ _ _ _, Nat.le_refl _, hlo, by simp; omega⟩
  have := hr.lt k e
  exact ⟨by omega, by simp; omega⟩
theorem tail_plain {w w2 : World} (h : BadSt w w2) (nm : ByteArray) :
    TailSt w w2.heap.size (w2.heap.size + 1) nm false [] false none 0 [] none 0 (w2.alloc (.cells #[.string nm, .bool false, .slice none 0 0, .bool false, .slice none 0 0] 26)) := by
  have hb := (Below.refl w2.heap.size w2).alloc (Nat.le_refl _) (.cells #[.string nm, .bool false, .slice none 0 0, .bool false, .slice none 0 0] 26)
  exact ⟨h.lower hb, heap_alloc_new w2 _, ⟨0, World.ownsRow_nil _ _ _ _⟩, (fun k e => by cases e), World.ownsRow_nil _ _ _ _, by simp, lt_of_block h.flt, Nat.lt_succ_self _⟩
set_option maxRecDepth 100000 in
set_option maxHeartbeats 1000000 in
/-- The body is too long. -/
theorem RParse_much_call (a : Option Addr) (c : Nat) (ts : List Tk) (w : World) (hT : TAt w a ts) (hl : ts.length ≤ 1048576) (hn : ∀ t ∈ ts, (t.kind == 1) = true → (t.text.toList == [44]) = false ∧ (t.text.toList == [41]) = false) (hk : ((tokAt ts 0).kind == 1) = true) (hbu : builtinB (tokAt ts 0).text.toList = false) (h1 : ((tokAt ts 1).text.toList == [40]) = true) (h2 : (tokAt ts 1).space = false) (he : (parA ts).2.2.2 = 0) (hm : 60 < ts.length - (parA ts).2.2.1) :
    Calls Tryz.prog 9 #[.slice a ts.length c] w (ParsePost w (parseL ts)) := by
  have hlt1 : 1 < ts.length := tok_there h1
  have hlt0 : 0 < ts.length := by omega
  have HH := hid (head_call hk hbu h1 h2)
  have hkN : (parA ts).2.2.1 ≤ ts.length := by have := head_next ts (by rw [HH.out]; exact he); rw [HH.out] at this; exact this
  have HAt := hid (fun (i : Nat) (e0 : Int) W (hW : Below w.heap.size w W) => rat_any a c ts i e0 W (hT.below hW) hl)
  have HPar := hid (fun (B : Nat) (nm : ByteArray) W0 W (hW : Below w.heap.size w W0) => RParams_any W0 B nm a c ts W (hT.below hW) hl hn)
  have HS := hid (BadSt.new w)
  have HHas := hid (fun pa pc (ps : List ByteArray) s W (h : StAt W pa ps) (hs : ps.length ≤ 1048576) => RHas_any pa pc ps s W h hs)
  rcases hT with h0 | ⟨bb, off, rfl, hbb, hc⟩
  · rw [h0] at hlt0; simp at hlt0
  have hx := tok_in hlt0
  have c0 := hc 0 _ hx 0 _ rfl
  have c1 := hc 0 _ hx 1 _ rfl
  have hx1 := tok_in hlt1
  have d1 := hc 1 _ hx1 1 _ rfl
  have d2 := hc 1 _ hx1 2 _ rfl
  simp only [Nat.zero_mul, Nat.add_zero, Nat.one_mul] at c0 c1 d1 d2
  obtain ⟨N, hN⟩ : ∃ N, ts.length = N := ⟨_, rfl⟩
  have HN := hid hN
  rw [hN] at HAt HPar hkN hl hlt0 hlt1 hm ⊢
  have hN0 : ((N : Int) == 0) = false := by simp; omega
  have hN1 : (0 : Int) < (N : Int) := by omega
  have hN2 : 0 < N := by omega
  have hN3 : (1 : Int) < (N : Int) := by omega
  have hN4 : 1 < N := by omega
  have hb2 : bb < w.heap.size + 1 := by omega
  have hb3 : bb < w.heap.size + 1 + 1 := by omega
  have hb4 : bb ≠ w.heap.size + 1 + 1 := by omega
  have hb5 : bb ≠ w.heap.size + 1 := by omega
  have hb6 : bb ≠ w.heap.size := by omega
  have hk' : ((tokAt ts 0).kind != 1) = false := by simp [bne, hk]
  have Hbu := hid hbu
  have HCD : Hid (∀ W, Below w.heap.size w W → W.cell? ⟨bb, off + 1, none⟩ = some (.string (tokAt ts 0).text) ∧ W.cell? ⟨bb, off + 11 + 1, none⟩ = some (.string (tokAt ts 1).text) ∧ W.cell? ⟨bb, off + 11 + 2, none⟩ = some (.bool (tokAt ts 1).space)) := fun W hW => ⟨(hW.cell (p := ⟨bb, _, none⟩) hbb).trans c1, (hW.cell (p := ⟨bb, _, none⟩) hbb).trans d1, (hW.cell (p := ⟨bb, _, none⟩) hbb).trans d2⟩
  clear hx1 d1 d2 hlt1
  have HTc : Hid (∀ W, Below w.heap.size w W → ∀ (j : Nat) x, ts[j]? = some x → ∀ (i : Nat) v, (encT x)[i]? = some v → W.cell? ⟨bb, off + j * 11 + i, none⟩ = some v) := fun W hW j x hx i v hv => (hW.cell (p := ⟨bb, _, none⟩) hbb).trans (hc j x hx i v hv)
  clear hbu hc hx hN hn hlt0
  have HS3 := hid (HS.out.lower ((Below.refl _ _).alloc (Nat.le_refl _) (.cells #[.string ⟨#[95, 95, 76, 73, 78, 69, 95, 95]⟩, .string ⟨#[95, 95, 70, 73, 76, 69, 95, 95]⟩, .string ⟨#[100, 101, 102, 105, 110, 101, 100]⟩] 9)))
  have HSt := hid (three_new ((w.alloc (.cells #[.string ⟨#[]⟩, .bool false, .slice none 0 0, .bool false, .slice none 0 0] 26)).alloc (.cells #[.int .i64 0, .int .i64 0, .int .i64 0] 29)))
  rw [World.size_alloc, World.size_alloc] at HSt
  generalize parA ts = R at *
  obtain ⟨k, hkk⟩ : ∃ k, R.2.2.1 = k := ⟨_, rfl⟩
  rw [hkk] at hm hkN
  have Hp := hid (much_bad (ts := ts) (k := k) (by rw [HH.out]; exact he) (by rw [HH.out]; exact hkk) (by rw [HN.out]; exact hm))
  have hw1 : IntKind.i64.wrap ((N : Int) - (k : Int)) = (N : Int) - (k : Int) := by rw [IntKind.wrap_i64]; omega
  have hw2 : wrap64 ((N : Int) - (k : Int)) = (N : Int) - (k : Int) := by unfold wrap64; omega
  have hw3 : (60 : Int) < (N : Int) - (k : Int) := by omega
  have hw4 : IntKind.i64.wrap ((k : Int) + 60) = (k : Int) + 60 := by rw [IntKind.wrap_i64]; omega
  have hw5 : wrap64 ((k : Int) + 60) = (k : Int) + 60 := by unfold wrap64; omega
  have HAk := hid (fun (e0 : Int) W h => HAt.out (k + 60) e0 W h)
  push_cast at HAk
  go_enter Tryz.func9, Tryz.ntmps9
  go_wp2_with fail
  refine (HHas.out _ _ builtinS _ _ HSt.out (by decide)).mono ?_
  rintro e w2 ⟨rfl, hb2'⟩
  rw [has_builtin, Hbu.out]
  have HS4 := hid (HS3.out.lower hb2')
  obtain ⟨e1, e2, e3⟩ := HCD.out _ HS4.out.below
  have hbw : bb < w2.heap.size := Nat.lt_of_lt_of_le hbb HS4.out.below.size
  clear hb2' c0 c1 hb2 hb3 hb4 hb5 hb6
  rw [h2] at e3
  go_wp2_with fail
  refine (HPar.out w2.heap.size (tokAt ts 0).text w2 _ HS4.out.below ((Below.refl _ w2).alloc (Nat.le_refl _) _) (Nat.le_refl _) (heap_alloc_new w2 _)).mono ?_
  rintro e w3 ⟨hb3, (⟨_, rfl, pa, pc, pb, hM3, hpb, hrow⟩ | ⟨e0, _⟩)⟩
  rotate_left
  · exact absurd he e0
  have HT := hid (tail_call (HS4.out.lower hb3) (lt_of_block HS4.out.flt) hM3 hpb hrow)
  rw [hkk]
  clear hb3 hM3 hpb hrow
  go_wp2_with fail
  refine (HAk.out 4 _ HT.out.bad.below).mono ?_
  rintro e w1 ⟨rfl, hb1⟩
  have HS1 := hid (HT.out.bad.lower hb1)
  clear hb1
  obtain ⟨z0, z1, z2, z3, z4, z5⟩ := HS1.out.flt.facts
  obtain ⟨⟨m0, m1, m2, m3, m4⟩, ⟨n0, n1, n2, n3, n4⟩⟩ := HS1.out.box.facts
  dsimp only at m0 m1 m2 m3 m4
  go_wp2_with fail
  have HQ := hid (HS1.out.stored 4 (tokAt ts (k + 60)).file (tokAt ts (k + 60)).lo)
  exact bodyPost_ret (rparse_ret HQ.out.1 HQ.out.2.1 _ rfl rfl) rfl (bad_post HQ.out.2.2 Hp.out)

set_option maxRecDepth 100000 in
set_option maxHeartbeats 1000000 in
/-- The body is too long. -/
theorem RParse_much_word (a : Option Addr) (c : Nat) (ts : List Tk) (w : World) (hT : TAt w a ts) (hl : ts.length ≤ 1048576) (hk : ((tokAt ts 0).kind == 1) = true) (hbu : builtinB (tokAt ts 0).text.toList = false) (hlt1 : 1 < ts.length) (h1 : ((tokAt ts 1).text.toList == [40]) = false) (hm : 60 < ts.length - 1) :
    Calls Tryz.prog 9 #[.slice a ts.length c] w (ParsePost w (parseL ts)) := by
  have hlt0 : 0 < ts.length := by omega
  have HH := hid (head_plain hk hbu (by rw [h1]; rfl))
  have HAt := hid (fun (i : Nat) (e0 : Int) W (hW : Below w.heap.size w W) => rat_any a c ts i e0 W (hT.below hW) hl)
  have HS := hid (BadSt.new w)
  have HHas := hid (fun pa pc (ps : List ByteArray) s W (h : StAt W pa ps) (hs : ps.length ≤ 1048576) => RHas_any pa pc ps s W h hs)
  rcases hT with h0 | ⟨bb, off, rfl, hbb, hc⟩
  · rw [h0] at hlt0; simp at hlt0
  have hx := tok_in hlt0
  have c0 := hc 0 _ hx 0 _ rfl
  have c1 := hc 0 _ hx 1 _ rfl
  have hx1 := tok_in hlt1
  have d1 := hc 1 _ hx1 1 _ rfl
  have d2 := hc 1 _ hx1 2 _ rfl
  simp only [Nat.zero_mul, Nat.add_zero, Nat.one_mul] at c0 c1 d1 d2
  obtain ⟨N, hN⟩ : ∃ N, ts.length = N := ⟨_, rfl⟩
  have HN := hid hN
  rw [hN] at HAt hl hlt0 hlt1 hm ⊢
  have hN0 : ((N : Int) == 0) = false := by simp; omega
  have hN1 : (0 : Int) < (N : Int) := by omega
  have hN2 : 0 < N := by omega
  have hN3 : (1 : Int) < (N : Int) := by omega
  have hN4 : 1 < N := by omega
  have hb2 : bb < w.heap.size + 1 := by omega
  have hb3 : bb < w.heap.size + 1 + 1 := by omega
  have hb4 : bb ≠ w.heap.size + 1 + 1 := by omega
  have hb5 : bb ≠ w.heap.size + 1 := by omega
  have hb6 : bb ≠ w.heap.size := by omega
  have hk' : ((tokAt ts 0).kind != 1) = false := by simp [bne, hk]
  have Hbu := hid hbu
  have HCD : Hid (∀ W, Below w.heap.size w W → W.cell? ⟨bb, off + 1, none⟩ = some (.string (tokAt ts 0).text) ∧ W.cell? ⟨bb, off + 11 + 1, none⟩ = some (.string (tokAt ts 1).text) ∧ W.cell? ⟨bb, off + 11 + 2, none⟩ = some (.bool (tokAt ts 1).space)) := fun W hW => ⟨(hW.cell (p := ⟨bb, _, none⟩) hbb).trans c1, (hW.cell (p := ⟨bb, _, none⟩) hbb).trans d1, (hW.cell (p := ⟨bb, _, none⟩) hbb).trans d2⟩
  clear hx1 d1 d2 hlt1
  have HTc : Hid (∀ W, Below w.heap.size w W → ∀ (j : Nat) x, ts[j]? = some x → ∀ (i : Nat) v, (encT x)[i]? = some v → W.cell? ⟨bb, off + j * 11 + i, none⟩ = some v) := fun W hW j x hx i v hv => (hW.cell (p := ⟨bb, _, none⟩) hbb).trans (hc j x hx i v hv)
  clear hbu hc hx hN hlt0
  have HS3 := hid (HS.out.lower ((Below.refl _ _).alloc (Nat.le_refl _) (.cells #[.string ⟨#[95, 95, 76, 73, 78, 69, 95, 95]⟩, .string ⟨#[95, 95, 70, 73, 76, 69, 95, 95]⟩, .string ⟨#[100, 101, 102, 105, 110, 101, 100]⟩] 9)))
  have HSt := hid (three_new ((w.alloc (.cells #[.string ⟨#[]⟩, .bool false, .slice none 0 0, .bool false, .slice none 0 0] 26)).alloc (.cells #[.int .i64 0, .int .i64 0, .int .i64 0] 29)))
  rw [World.size_alloc, World.size_alloc] at HSt
  obtain ⟨k, hkk⟩ : ∃ k, 1 = k := ⟨_, rfl⟩
  rw [hkk] at hm
  have Hp := hid (much_bad (ts := ts) (k := k) (by rw [HH.out]) (by rw [HH.out]; exact hkk) (by rw [HN.out]; exact hm))
  have hw1 : IntKind.i64.wrap ((N : Int) - (k : Int)) = (N : Int) - (k : Int) := by rw [IntKind.wrap_i64]; omega
  have hw2 : wrap64 ((N : Int) - (k : Int)) = (N : Int) - (k : Int) := by unfold wrap64; omega
  have hw3 : (60 : Int) < (N : Int) - (k : Int) := by omega
  have hw4 : IntKind.i64.wrap ((k : Int) + 60) = (k : Int) + 60 := by rw [IntKind.wrap_i64]; omega
  have hw5 : wrap64 ((k : Int) + 60) = (k : Int) + 60 := by unfold wrap64; omega
  have HAk := hid (fun (e0 : Int) W h => HAt.out (k + 60) e0 W h)
  push_cast at HAk
  subst hkk
  simp only [Int.natCast_one] at hw1 hw2 hw3 hw4 hw5 HAk
  go_enter Tryz.func9, Tryz.ntmps9
  go_wp2_with fail
  refine (HHas.out _ _ builtinS _ _ HSt.out (by decide)).mono ?_
  rintro e w2 ⟨rfl, hb2'⟩
  rw [has_builtin, Hbu.out]
  have HS4 := hid (HS3.out.lower hb2')
  obtain ⟨e1, e2, e3⟩ := HCD.out _ HS4.out.below
  have hbw : bb < w2.heap.size := Nat.lt_of_lt_of_le hbb HS4.out.below.size
  clear hb2' c0 c1 hb2 hb3 hb4 hb5 hb6
  have HT := hid (tail_plain HS4.out (tokAt ts 0).text)
  go_wp2_with fail
  refine (HAk.out 4 _ HT.out.bad.below).mono ?_
  rintro e w1 ⟨rfl, hb1⟩
  have HS1 := hid (HT.out.bad.lower hb1)
  clear hb1
  obtain ⟨z0, z1, z2, z3, z4, z5⟩ := HS1.out.flt.facts
  obtain ⟨⟨m0, m1, m2, m3, m4⟩, ⟨n0, n1, n2, n3, n4⟩⟩ := HS1.out.box.facts
  dsimp only at m0 m1 m2 m3 m4
  go_wp2_with fail
  have HQ := hid (HS1.out.stored 4 (tokAt ts (1 + 60)).file (tokAt ts (1 + 60)).lo)
  exact bodyPost_ret (rparse_ret HQ.out.1 HQ.out.2.1 _ rfl rfl) rfl (bad_post HQ.out.2.2 Hp.out)

set_option maxRecDepth 100000 in
set_option maxHeartbeats 1000000 in
/-- The body is too long. -/
theorem RParse_much_apart (a : Option Addr) (c : Nat) (ts : List Tk) (w : World) (hT : TAt w a ts) (hl : ts.length ≤ 1048576) (hk : ((tokAt ts 0).kind == 1) = true) (hbu : builtinB (tokAt ts 0).text.toList = false) (h1 : ((tokAt ts 1).text.toList == [40]) = true) (h2 : (tokAt ts 1).space = true) (hm : 60 < ts.length - 1) :
    Calls Tryz.prog 9 #[.slice a ts.length c] w (ParsePost w (parseL ts)) := by
  have hlt1 : 1 < ts.length := tok_there h1
  have hlt0 : 0 < ts.length := by omega
  have HH := hid (head_plain hk hbu (by rw [h2]; simp))
  have HAt := hid (fun (i : Nat) (e0 : Int) W (hW : Below w.heap.size w W) => rat_any a c ts i e0 W (hT.below hW) hl)
  have HS := hid (BadSt.new w)
  have HHas := hid (fun pa pc (ps : List ByteArray) s W (h : StAt W pa ps) (hs : ps.length ≤ 1048576) => RHas_any pa pc ps s W h hs)
  rcases hT with h0 | ⟨bb, off, rfl, hbb, hc⟩
  · rw [h0] at hlt0; simp at hlt0
  have hx := tok_in hlt0
  have c0 := hc 0 _ hx 0 _ rfl
  have c1 := hc 0 _ hx 1 _ rfl
  have hx1 := tok_in hlt1
  have d1 := hc 1 _ hx1 1 _ rfl
  have d2 := hc 1 _ hx1 2 _ rfl
  simp only [Nat.zero_mul, Nat.add_zero, Nat.one_mul] at c0 c1 d1 d2
  obtain ⟨N, hN⟩ : ∃ N, ts.length = N := ⟨_, rfl⟩
  have HN := hid hN
  rw [hN] at HAt hl hlt0 hlt1 hm ⊢
  have hN0 : ((N : Int) == 0) = false := by simp; omega
  have hN1 : (0 : Int) < (N : Int) := by omega
  have hN2 : 0 < N := by omega
  have hN3 : (1 : Int) < (N : Int) := by omega
  have hN4 : 1 < N := by omega
  have hb2 : bb < w.heap.size + 1 := by omega
  have hb3 : bb < w.heap.size + 1 + 1 := by omega
  have hb4 : bb ≠ w.heap.size + 1 + 1 := by omega
  have hb5 : bb ≠ w.heap.size + 1 := by omega
  have hb6 : bb ≠ w.heap.size := by omega
  have hk' : ((tokAt ts 0).kind != 1) = false := by simp [bne, hk]
  have Hbu := hid hbu
  have HCD : Hid (∀ W, Below w.heap.size w W → W.cell? ⟨bb, off + 1, none⟩ = some (.string (tokAt ts 0).text) ∧ W.cell? ⟨bb, off + 11 + 1, none⟩ = some (.string (tokAt ts 1).text) ∧ W.cell? ⟨bb, off + 11 + 2, none⟩ = some (.bool (tokAt ts 1).space)) := fun W hW => ⟨(hW.cell (p := ⟨bb, _, none⟩) hbb).trans c1, (hW.cell (p := ⟨bb, _, none⟩) hbb).trans d1, (hW.cell (p := ⟨bb, _, none⟩) hbb).trans d2⟩
  clear hx1 d1 d2 hlt1
  have HTc : Hid (∀ W, Below w.heap.size w W → ∀ (j : Nat) x, ts[j]? = some x → ∀ (i : Nat) v, (encT x)[i]? = some v → W.cell? ⟨bb, off + j * 11 + i, none⟩ = some v) := fun W hW j x hx i v hv => (hW.cell (p := ⟨bb, _, none⟩) hbb).trans (hc j x hx i v hv)
  clear hbu hc hx hN hlt0
  have HS3 := hid (HS.out.lower ((Below.refl _ _).alloc (Nat.le_refl _) (.cells #[.string ⟨#[95, 95, 76, 73, 78, 69, 95, 95]⟩, .string ⟨#[95, 95, 70, 73, 76, 69, 95, 95]⟩, .string ⟨#[100, 101, 102, 105, 110, 101, 100]⟩] 9)))
  have HSt := hid (three_new ((w.alloc (.cells #[.string ⟨#[]⟩, .bool false, .slice none 0 0, .bool false, .slice none 0 0] 26)).alloc (.cells #[.int .i64 0, .int .i64 0, .int .i64 0] 29)))
  rw [World.size_alloc, World.size_alloc] at HSt
  obtain ⟨k, hkk⟩ : ∃ k, 1 = k := ⟨_, rfl⟩
  rw [hkk] at hm
  have Hp := hid (much_bad (ts := ts) (k := k) (by rw [HH.out]) (by rw [HH.out]; exact hkk) (by rw [HN.out]; exact hm))
  have hw1 : IntKind.i64.wrap ((N : Int) - (k : Int)) = (N : Int) - (k : Int) := by rw [IntKind.wrap_i64]; omega
  have hw2 : wrap64 ((N : Int) - (k : Int)) = (N : Int) - (k : Int) := by unfold wrap64; omega
  have hw3 : (60 : Int) < (N : Int) - (k : Int) := by omega
  have hw4 : IntKind.i64.wrap ((k : Int) + 60) = (k : Int) + 60 := by rw [IntKind.wrap_i64]; omega
  have hw5 : wrap64 ((k : Int) + 60) = (k : Int) + 60 := by unfold wrap64; omega
  have HAk := hid (fun (e0 : Int) W h => HAt.out (k + 60) e0 W h)
  push_cast at HAk
  subst hkk
  simp only [Int.natCast_one] at hw1 hw2 hw3 hw4 hw5 HAk
  go_enter Tryz.func9, Tryz.ntmps9
  go_wp2_with fail
  refine (HHas.out _ _ builtinS _ _ HSt.out (by decide)).mono ?_
  rintro e w2 ⟨rfl, hb2'⟩
  rw [has_builtin, Hbu.out]
  have HS4 := hid (HS3.out.lower hb2')
  obtain ⟨e1, e2, e3⟩ := HCD.out _ HS4.out.below
  have hbw : bb < w2.heap.size := Nat.lt_of_lt_of_le hbb HS4.out.below.size
  clear hb2' c0 c1 hb2 hb3 hb4 hb5 hb6
  rw [h2] at e3
  have HT := hid (tail_plain HS4.out (tokAt ts 0).text)
  go_wp2_with fail
  refine (HAk.out 4 _ HT.out.bad.below).mono ?_
  rintro e w1 ⟨rfl, hb1⟩
  have HS1 := hid (HT.out.bad.lower hb1)
  clear hb1
  obtain ⟨z0, z1, z2, z3, z4, z5⟩ := HS1.out.flt.facts
  obtain ⟨⟨m0, m1, m2, m3, m4⟩, ⟨n0, n1, n2, n3, n4⟩⟩ := HS1.out.box.facts
  dsimp only at m0 m1 m2 m3 m4
  go_wp2_with fail
  have HQ := hid (HS1.out.stored 4 (tokAt ts (1 + 60)).file (tokAt ts (1 + 60)).lo)
  exact bodyPost_ret (rparse_ret HQ.out.1 HQ.out.2.1 _ rfl rfl) rfl (bad_post HQ.out.2.2 Hp.out)
end
section
open Go.RowKit Go.Shelf
theorem parse_fine {ts : List Tk} {k : Nat} (he : (headL ts).err = 0) (hk : (headL ts).next = k) (hm : ts.length - k ≤ 60) (hf : (firstBad (headL ts).call (headL ts).more (headL ts).params (bodyL ts k (ts.length - k)) 61 0).2 = 0) : parseL ts = (⟨(headL ts).name, (headL ts).call, (headL ts).params, (headL ts).more, bodyL ts k (ts.length - k)⟩, (0, -1, 0)) := by
  have hA : (bodyA ts).2 = 0 := by
    unfold bodyA
    rw [hk]
    split
    · unfold bodyR
      rw [if_neg (by omega), if_pos hf]
    · rfl
  unfold parseL
  rw [if_neg (by rw [he]; decide), if_neg (by rw [hA]; decide), hk]
theorem parA_few (ts : List Tk) : (parA ts).1.length ≤ 1048576 := by
  unfold parA
  split
  · simp
  · have := par_len ts 7 2 [] false
    simp at this
    omega
theorem bodyL_at (ts : List Tk) (k n j : Nat) (hj : j < n) : tokAt (bodyL ts k n) j = bodyT j (tokAt ts (k + j)) := by
  refine tokAt_in ?_
  unfold bodyL
  rw [List.getElem?_map, List.getElem?_range hj]
  rfl
theorem parse_badb {ts : List Tk} {k j : Nat} {e : Int} (he : (headL ts).err = 0) (hk : (headL ts).next = k) (hm : ts.length - k ≤ 60) (hj : j < ts.length - k) (hf : firstBad (headL ts).call (headL ts).more (headL ts).params (bodyL ts k (ts.length - k)) 61 0 = (j, e)) (he0 : e ≠ 0) : parseL ts = (⟨⟨#[]⟩, false, [], false, []⟩, (e, (tokAt ts (k + j)).file, (tokAt ts (k + j)).lo)) := by
  have hA : bodyA ts = (k + j, e) := by
    unfold bodyA
    rw [hk, if_pos (by omega)]
    unfold bodyR
    rw [if_neg (by omega), hf, if_neg he0]
  unfold parseL
  rw [if_neg (by rw [he]; decide), hA, if_pos he0]
theorem tail_text {w : World} {M base : Nat} {nm : ByteArray} {call : Bool} {ps : List ByteArray} {more : Bool} {pa : Option Addr} {pc : Nat} {bs : List Tk} {b2 o2 : Nat} {bc : Nat} {W : World} (h : TailSt w M base nm call ps more pa pc bs (some ⟨b2, o2, none⟩) bc W) {j : Nat} {y : Tk} (hy : bs[j]? = some y) : W.cell? ⟨b2, o2 + j * 11 + 1, none⟩ = some (.string y.text) := by
  rcases h.tat with h0 | ⟨b, o, e, hb, hc⟩
  · rw [h0] at hy; cases hy
  · cases e
    exact hc j y hy 1 _ rfl
theorem quiet_facts {j q n : Nat} (hq : j + 1 = q) (hj : j ≤ 60) (hn : q < n) : IntKind.i64.wrap ((j : Int) + 1) = (q : Int) ∧ wrap64 ((j : Int) + 1) = (q : Int) ∧ ((q : Int) == (n : Int)) = false ∧ (0 : Int) ≤ (q : Int) ∧ (q : Int) < (n : Int) := by
  refine ⟨by rw [IntKind.wrap_i64]; omega, by unfold wrap64; omega, by simp; omega, by omega, by omega⟩
theorem less_n {i N : Nat} (h : i < N) {x : Value} (hx : x = .int .i64 ((i + 1 : Nat) : Int)) : N - (intOf x).toNat < N - (intOf (.int .i64 (i : Int))).toNat := by
  subst hx; simp only [intOf]; omega
set_option maxRecDepth 100000 in
set_option maxHeartbeats 1000000 in
/-- The body is not too long. -/
theorem RParse_rest_call (a : Option Addr) (c : Nat) (ts : List Tk) (w : World) (hT : TAt w a ts) (hl : ts.length ≤ 1048576) (hnm : ∀ t ∈ ts, NameIs t.kind t.text.data.toList) (hk : ((tokAt ts 0).kind == 1) = true) (hbu : builtinB (tokAt ts 0).text.toList = false) (h1 : ((tokAt ts 1).text.toList == [40]) = true) (h2 : (tokAt ts 1).space = false) (he : (parA ts).2.2.2 = 0) (hm : ts.length - (parA ts).2.2.1 ≤ 60) :
    Calls Tryz.prog 9 #[.slice a ts.length c] w (ParsePost w (parseL ts)) := by
  have hlt1 : 1 < ts.length := tok_there h1
  have hn := names_plain hnm
  have HNs := hid hnm
  have HLet : Hid (∀ p ∈ (parA ts).1, LetS p) := by have := head_let hnm; rw [head_call hk hbu h1 h2] at this; exact this
  have HPl : Hid ((parA ts).1.length ≤ 1048576) := parA_few ts
  have hlt0 : 0 < ts.length := by omega
  have HH := hid (head_call hk hbu h1 h2)
  have hkN : (parA ts).2.2.1 ≤ ts.length := by have := head_next ts (by rw [HH.out]; exact he); rw [HH.out] at this; exact this
  have HAt := hid (fun (i : Nat) (e0 : Int) W (hW : Below w.heap.size w W) => rat_any a c ts i e0 W (hT.below hW) hl)
  have HPar := hid (fun (B : Nat) (nm : ByteArray) W0 W (hW : Below w.heap.size w W0) => RParams_any W0 B nm a c ts W (hT.below hW) hl hn)
  have HS := hid (BadSt.new w)
  have HHas := hid (fun pa pc (ps : List ByteArray) s W (h : StAt W pa ps) (hs : ps.length ≤ 1048576) => RHas_any pa pc ps s W h hs)
  rcases hT with h0 | ⟨bb, off, rfl, hbb, hc⟩
  · rw [h0] at hlt0; simp at hlt0
  have hx := tok_in hlt0
  have c0 := hc 0 _ hx 0 _ rfl
  have c1 := hc 0 _ hx 1 _ rfl
  have hx1 := tok_in hlt1
  have d1 := hc 1 _ hx1 1 _ rfl
  have d2 := hc 1 _ hx1 2 _ rfl
  simp only [Nat.zero_mul, Nat.add_zero, Nat.one_mul] at c0 c1 d1 d2
  obtain ⟨N, hN⟩ : ∃ N, ts.length = N := ⟨_, rfl⟩
  have HN := hid hN
  rw [hN] at HAt HPar hkN hl hlt0 hlt1 hm ⊢
  have hN0 : ((N : Int) == 0) = false := by simp; omega
  have hN1 : (0 : Int) < (N : Int) := by omega
  have hN2 : 0 < N := by omega
  have hN3 : (1 : Int) < (N : Int) := by omega
  have hN4 : 1 < N := by omega
  have hb2 : bb < w.heap.size + 1 := by omega
  have hb3 : bb < w.heap.size + 1 + 1 := by omega
  have hb4 : bb ≠ w.heap.size + 1 + 1 := by omega
  have hb5 : bb ≠ w.heap.size + 1 := by omega
  have hb6 : bb ≠ w.heap.size := by omega
  have hk' : ((tokAt ts 0).kind != 1) = false := by simp [bne, hk]
  have Hbu := hid hbu
  have HCD : Hid (∀ W, Below w.heap.size w W → W.cell? ⟨bb, off + 1, none⟩ = some (.string (tokAt ts 0).text) ∧ W.cell? ⟨bb, off + 11 + 1, none⟩ = some (.string (tokAt ts 1).text) ∧ W.cell? ⟨bb, off + 11 + 2, none⟩ = some (.bool (tokAt ts 1).space)) := fun W hW => ⟨(hW.cell (p := ⟨bb, _, none⟩) hbb).trans c1, (hW.cell (p := ⟨bb, _, none⟩) hbb).trans d1, (hW.cell (p := ⟨bb, _, none⟩) hbb).trans d2⟩
  clear hx1 d1 d2 hlt1
  have HTc : Hid (∀ W, Below w.heap.size w W → ∀ (j : Nat) x, ts[j]? = some x → ∀ (i : Nat) v, (encT x)[i]? = some v → W.cell? ⟨bb, off + j * 11 + i, none⟩ = some v) := fun W hW j x hx i v hv => (hW.cell (p := ⟨bb, _, none⟩) hbb).trans (hc j x hx i v hv)
  clear hbu hc hx hN hn hnm hlt0
  have HS3 := hid (HS.out.lower ((Below.refl _ _).alloc (Nat.le_refl _) (.cells #[.string ⟨#[95, 95, 76, 73, 78, 69, 95, 95]⟩, .string ⟨#[95, 95, 70, 73, 76, 69, 95, 95]⟩, .string ⟨#[100, 101, 102, 105, 110, 101, 100]⟩] 9)))
  have HSt := hid (three_new ((w.alloc (.cells #[.string ⟨#[]⟩, .bool false, .slice none 0 0, .bool false, .slice none 0 0] 26)).alloc (.cells #[.int .i64 0, .int .i64 0, .int .i64 0] 29)))
  rw [World.size_alloc, World.size_alloc] at HSt
  generalize parA ts = R at *
  obtain ⟨k, hkk⟩ : ∃ k, R.2.2.1 = k := ⟨_, rfl⟩
  rw [hkk] at hm hkN
  have hw1 : IntKind.i64.wrap ((N : Int) - (k : Int)) = (N : Int) - (k : Int) := by rw [IntKind.wrap_i64]; omega
  have hw2 : wrap64 ((N : Int) - (k : Int)) = (N : Int) - (k : Int) := by unfold wrap64; omega
  have hw3 : ¬ (60 : Int) < (N : Int) - (k : Int) := by omega
  go_enter Tryz.func9, Tryz.ntmps9
  go_wp2_with fail
  refine (HHas.out _ _ builtinS _ _ HSt.out (by decide)).mono ?_
  rintro e w2 ⟨rfl, hb2'⟩
  rw [has_builtin, Hbu.out]
  have HS4 := hid (HS3.out.lower hb2')
  obtain ⟨e1, e2, e3⟩ := HCD.out _ HS4.out.below
  have hbw : bb < w2.heap.size := Nat.lt_of_lt_of_le hbb HS4.out.below.size
  clear hb2' c0 c1 hb2 hb3 hb4 hb5 hb6
  rw [h2] at e3
  go_wp2_with fail
  refine (HPar.out w2.heap.size (tokAt ts 0).text w2 _ HS4.out.below ((Below.refl _ w2).alloc (Nat.le_refl _) _) (Nat.le_refl _) (heap_alloc_new w2 _)).mono ?_
  rintro e w3 ⟨hb3, (⟨_, rfl, pa, pc, pb, hM3, hpb, hrow⟩ | ⟨e0, _⟩)⟩
  rotate_left
  · exact absurd he e0
  have HT := hid (tail_call (HS4.out.lower hb3) (lt_of_block HS4.out.flt) hM3 hpb hrow)
  rw [hkk]
  clear hb3 hM3 hpb hrow
  go_wp2_with fail
  generalize hbase : (w3.alloc (.cells #[.int .i64 0, .int .i64 (-1), .int .i64 0] 29)).heap.size = base at HT
  clear hbase
  obtain ⟨ti, hti, htz0, htz1, htz2⟩ := info_parts info_tok
  go_loopw [8] (fun si wr => ∃ (i : Nat) (ba : Option Addr) (bc : Nat), si = .int .i64 (i : Int) ∧ k ≤ i ∧ i ≤ N ∧ Hid (TailSt w w2.heap.size base (tokAt ts 0).text true R.1 R.2.1 pa pc (bodyL ts k (i - k)) ba bc wr)) (fun si _ => N - (intOf si).toNat)
  case atStart => exact ⟨k, none, 0, rfl, Nat.le_refl _, hkN, by rw [Nat.sub_self]; exact HT⟩
  case round =>
    clear HT
    obtain ⟨i, ba, bc, rfl, hki, hiN, HS⟩ := hrel
    generalize w2.heap.size = M at *
    have HK60 : Hid (i - k ≤ 60) := by show _ ≤ _; omega
    by_cases hlt : i < N
    · obtain ⟨x, hx⟩ : ∃ x, ts[i]? = some x := ⟨_, List.getElem?_eq_getElem (by rw [HN.out]; exact hlt)⟩
      obtain ⟨c0, c1, c2, c3, c4, c5, c6, c7, c8, c9, c10⟩ := tk_cellsP (HTc.out wr HS.out.bad.below i x hx)
      have HX := hid (tokAt_in hx)
      have hii : (i : Int) < (N : Int) := Int.ofNat_lt.2 hlt
      have hi0 : (0 : Int) ≤ (i : Int) := Int.natCast_nonneg _
      obtain ⟨⟨m0, m1, m2, m3, m4⟩, ⟨n0, n1, n2, n3, n4⟩⟩ := HS.out.box.facts
      have hltM := lt_of_block HS.out.box
      have hbr : bb < wr.heap.size := Nat.lt_of_lt_of_le hbb HS.out.bad.below.size
      dsimp only at m0 m1 m2 m3 m4
      rw [bodyL_length] at m4
      clear hx
      rcases hsp : x.space with _ | _
      · rw [hsp] at c2
        have HNB : Hid (bodyL ts k (i - k) ++ [⟨x.kind, x.text, false, false, x.file, x.lo, x.hi, x.line⟩] = bodyL ts k (i + 1 - k)) := by
          show _ = _
          rw [show i + 1 - k = (i - k) + 1 by omega, bodyL_succ, show k + (i - k) = i by omega, HX.out, bodyT_is (i - k) x false (by rw [hsp, Bool.false_and])]
        have HA := hid (HS.out.lower ((Below.refl _ wr).alloc (Nat.le_refl _) (.cells #[.int .i64 x.kind, .string x.text, .bool false, .bool x.first, .int .i64 x.file, .int .i64 x.lo, .int .i64 x.hi, .int .i64 x.line, .slice none 0 0, .slice none 0 0, .int .i64 0] 43)))
        have HNw := hid (eleven_new (wr.alloc (.cells #[.int .i64 x.kind, .string x.text, .bool false, .bool x.first, .int .i64 x.file, .int .i64 x.lo, .int .i64 x.hi, .int .i64 x.line, .slice none 0 0, .slice none 0 0, .int .i64 0] 43)) ⟨x.kind, x.text, false, false, x.file, x.lo, x.hi, x.line⟩ 43)
        rw [World.size_alloc] at HNw
        unfold encT at HNw
        dsimp only at HNw
        have HOW := hid (HA.out.lower ((Below.refl _ _).alloc (Nat.le_refl _) (.cells #[.int .i64 x.kind, .string x.text, .bool false, .bool false, .int .i64 x.file, .int .i64 x.lo, .int .i64 x.hi, .int .i64 x.line, .slice none 0 0, .slice none 0 0, .int .i64 0] 43)))
        have HRow := hid HOW.out.row
        rw [bodyL_length] at HRow
        clear hsp
        go_wp2_with (at_builtin; refine wpList_append_own _ rfl _ _ 24 rfl base 43 ti _ 11 120 Tryz.underlying24 hti htz0 htz1 htz2 rfl (by decide) _ _ _ rfl HRow.out ⟨wr.heap.size + 1, 0, none⟩ 1 1 (encT ⟨x.kind, x.text, false, false, x.file, x.lo, x.hi, x.line⟩) rfl rfl HNw.out (eleven_one _) (few_max HK60.out) (few_bytes HK60.out) HOW.out.top ?_)
        intro v' w' hown' hg' _
        obtain ⟨a4, c4, rfl⟩ := row_is hown'
        have haf := HOW.out.after hg'
        have s4 := haf.2.1.facts.1.2.2.2.2
        have s9 := haf.2.1.facts.2.2.2.2.2
        have HG := hid (tail_got HOW.out haf (bodyL_length _ _ _) ⟨x.kind, x.text, false, false, x.file, x.lo, x.hi, x.line⟩ hown')
        rw [HNB.out] at HG
        clear haf hown' hg'
        go_wp2_with fail
        exact ⟨⟨i + 1, a4, c4, nxt_val i, by omega, hlt, HG⟩, less_n hlt (nxt_val i)⟩
      · rw [hsp] at c2
        by_cases hgt : k < i
        · have hgi : (k : Int) < (i : Int) := Int.ofNat_lt.2 hgt
          have HNB : Hid (bodyL ts k (i - k) ++ [⟨x.kind, x.text, true, false, x.file, x.lo, x.hi, x.line⟩] = bodyL ts k (i + 1 - k)) := by
            show _ = _
            rw [show i + 1 - k = (i - k) + 1 by omega, bodyL_succ, show k + (i - k) = i by omega, HX.out, bodyT_is (i - k) x true (by rw [hsp, decide_eq_true (by omega)]; rfl)]
          have HA := hid (HS.out.lower ((Below.refl _ wr).alloc (Nat.le_refl _) (.cells #[.int .i64 x.kind, .string x.text, .bool true, .bool x.first, .int .i64 x.file, .int .i64 x.lo, .int .i64 x.hi, .int .i64 x.line, .slice none 0 0, .slice none 0 0, .int .i64 0] 43)))
          have HNw := hid (eleven_new (wr.alloc (.cells #[.int .i64 x.kind, .string x.text, .bool true, .bool x.first, .int .i64 x.file, .int .i64 x.lo, .int .i64 x.hi, .int .i64 x.line, .slice none 0 0, .slice none 0 0, .int .i64 0] 43)) ⟨x.kind, x.text, true, false, x.file, x.lo, x.hi, x.line⟩ 43)
          rw [World.size_alloc] at HNw
          unfold encT at HNw
          dsimp only at HNw
          have HOW := hid (HA.out.lower ((Below.refl _ _).alloc (Nat.le_refl _) (.cells #[.int .i64 x.kind, .string x.text, .bool true, .bool false, .int .i64 x.file, .int .i64 x.lo, .int .i64 x.hi, .int .i64 x.line, .slice none 0 0, .slice none 0 0, .int .i64 0] 43)))
          have HRow := hid HOW.out.row
          rw [bodyL_length] at HRow
          clear hsp
          go_wp2_with (at_builtin; refine wpList_append_own _ rfl _ _ 24 rfl base 43 ti _ 11 120 Tryz.underlying24 hti htz0 htz1 htz2 rfl (by decide) _ _ _ rfl HRow.out ⟨wr.heap.size + 1, 0, none⟩ 1 1 (encT ⟨x.kind, x.text, true, false, x.file, x.lo, x.hi, x.line⟩) rfl rfl HNw.out (eleven_one _) (few_max HK60.out) (few_bytes HK60.out) HOW.out.top ?_)
          intro v' w' hown' hg' _
          obtain ⟨a4, c4, rfl⟩ := row_is hown'
          have haf := HOW.out.after hg'
          have s4 := haf.2.1.facts.1.2.2.2.2
          have s9 := haf.2.1.facts.2.2.2.2.2
          have HG := hid (tail_got HOW.out haf (bodyL_length _ _ _) ⟨x.kind, x.text, true, false, x.file, x.lo, x.hi, x.line⟩ hown')
          rw [HNB.out] at HG
          clear haf hown' hg'
          go_wp2_with fail
          exact ⟨⟨i + 1, a4, c4, nxt_val i, by omega, hlt, HG⟩, less_n hlt (nxt_val i)⟩
        · have hgi : ¬ (k : Int) < (i : Int) := by omega
          have HNB : Hid (bodyL ts k (i - k) ++ [⟨x.kind, x.text, false, false, x.file, x.lo, x.hi, x.line⟩] = bodyL ts k (i + 1 - k)) := by
            show _ = _
            rw [show i + 1 - k = (i - k) + 1 by omega, bodyL_succ, show k + (i - k) = i by omega, HX.out, bodyT_is (i - k) x false (by rw [hsp, decide_eq_false (by omega)]; rfl)]
          have HA := hid (HS.out.lower ((Below.refl _ wr).alloc (Nat.le_refl _) (.cells #[.int .i64 x.kind, .string x.text, .bool true, .bool x.first, .int .i64 x.file, .int .i64 x.lo, .int .i64 x.hi, .int .i64 x.line, .slice none 0 0, .slice none 0 0, .int .i64 0] 43)))
          have HNw := hid (eleven_new (wr.alloc (.cells #[.int .i64 x.kind, .string x.text, .bool true, .bool x.first, .int .i64 x.file, .int .i64 x.lo, .int .i64 x.hi, .int .i64 x.line, .slice none 0 0, .slice none 0 0, .int .i64 0] 43)) ⟨x.kind, x.text, false, false, x.file, x.lo, x.hi, x.line⟩ 43)
          rw [World.size_alloc] at HNw
          unfold encT at HNw
          dsimp only at HNw
          have HOW := hid (HA.out.lower ((Below.refl _ _).alloc (Nat.le_refl _) (.cells #[.int .i64 x.kind, .string x.text, .bool false, .bool false, .int .i64 x.file, .int .i64 x.lo, .int .i64 x.hi, .int .i64 x.line, .slice none 0 0, .slice none 0 0, .int .i64 0] 43)))
          have HRow := hid HOW.out.row
          rw [bodyL_length] at HRow
          clear hsp
          go_wp2_with (at_builtin; refine wpList_append_own _ rfl _ _ 24 rfl base 43 ti _ 11 120 Tryz.underlying24 hti htz0 htz1 htz2 rfl (by decide) _ _ _ rfl HRow.out ⟨wr.heap.size + 1, 0, none⟩ 1 1 (encT ⟨x.kind, x.text, false, false, x.file, x.lo, x.hi, x.line⟩) rfl rfl HNw.out (eleven_one _) (few_max HK60.out) (few_bytes HK60.out) HOW.out.top ?_)
          intro v' w' hown' hg' _
          obtain ⟨a4, c4, rfl⟩ := row_is hown'
          have haf := HOW.out.after hg'
          have s4 := haf.2.1.facts.1.2.2.2.2
          have s9 := haf.2.1.facts.2.2.2.2.2
          have HG := hid (tail_got HOW.out haf (bodyL_length _ _ _) ⟨x.kind, x.text, false, false, x.file, x.lo, x.hi, x.line⟩ hown')
          rw [HNB.out] at HG
          clear haf hown' hg'
          go_wp2_with fail
          exact ⟨⟨i + 1, a4, c4, nxt_val i, by omega, hlt, HG⟩, less_n hlt (nxt_val i)⟩
    · obtain rfl : i = N := by omega
      obtain ⟨n, hnn⟩ : ∃ n, i - k = n := ⟨_, rfl⟩
      rw [hnn] at HS HK60
      have HNn := hid hnn
      obtain ⟨bs, hbs⟩ : ∃ bs, bodyL ts k n = bs := ⟨_, rfl⟩
      have HLn : Hid (bs.length = n) := by show _ = _; rw [← hbs, bodyL_length]
      rw [hbs] at HS
      have HBs := hid hbs
      have HN60 := HK60
      obtain ⟨Fb, hFb⟩ : ∃ Fb, firstBad true R.2.1 R.1 bs 61 0 = Fb := ⟨_, rfl⟩
      have HFb := hid hFb
      obtain ⟨⟨m0, m1, m2, m3, m4⟩, ⟨n0, n1, n2, n3, n4⟩⟩ := HS.out.box.facts
      have hltM := lt_of_block HS.out.box
      dsimp only at m0 m1 m2 m3 m4
      rw [HLn.out] at m4
      have HNm : Hid (∀ t ∈ bs, NameIs t.kind t.text.data.toList) := by
        intro t ht
        rw [← HBs.out, ← HNn.out, ← HN.out] at ht
        exact body_names HNs.out k t ht
      have HPb : Hid (∀ (e : Int) {j : Nat}, j < n → Fb = (j, e) → e ≠ 0 → parseL ts = (⟨⟨#[]⟩, false, [], false, []⟩, (e, (tokAt bs j).file, (tokAt bs j).lo))) := by
        intro e j hj hF he0
        rw [parse_badb (k := k) (j := j) (e := e) (by rw [HH.out]; exact he) (by rw [HH.out]; exact hkk) (by rw [HN.out, HNn.out]; exact HN60.out) (by rw [HN.out, HNn.out]; exact hj) (by rw [HN.out, HNn.out, HBs.out, HH.out]; show firstBad true R.2.1 R.1 bs 61 0 = _; rw [HFb.out, hF]) he0]
        have e1 : tokAt bs j = bodyT j (tokAt ts (k + j)) := by rw [← HBs.out]; exact bodyL_at ts k n j hj
        rw [e1]
        rfl
      have HAb := hid (fun (j : Nat) (e0 : Int) W (h : TailSt w M base (tokAt ts 0).text true R.1 R.2.1 pa pc bs ba bc W) => rat_any ba bc bs j e0 W h.tat (by rw [HLn.out]; exact Nat.le_trans HN60.out (by decide)))
      rw [HLn.out] at HAb
      clear hnn hbs hFb
      go_wp2_with fail
      go_loopw [119] (fun sj wr => ∃ (j f : Nat), sj = .int .i64 (j : Int) ∧ j ≤ n ∧ 61 ≤ f + j ∧ firstBad true R.2.1 R.1 bs f j = Fb ∧ Hid (TailSt w M base (tokAt ts 0).text true R.1 R.2.1 pa pc bs ba bc wr)) (fun sj _ => n - (intOf sj).toNat)
      case atStart => exact ⟨0, 61, rfl, Nat.zero_le _, by decide, HFb.out, HS⟩
      case round =>
        clear m0 m1 m2 m3 m4 n0 n1 n2 n3 n4 hltM HS
        obtain ⟨j, f, rfl, hjn, hf, hB, HS⟩ := hrel
        have HF := hid hf
        have HB := hid hB
        clear hf hB
        obtain ⟨⟨m0, m1, m2, m3, m4⟩, ⟨n0, n1, n2, n3, n4⟩⟩ := HS.out.box.facts
        have hltM := lt_of_block HS.out.box
        dsimp only at m0 m1 m2 m3 m4
        rw [HLn.out] at m4
        by_cases hlt : j < n
        · obtain ⟨x, hx⟩ : ∃ x, bs[j]? = some x := ⟨_, List.getElem?_eq_getElem (by rw [HLn.out]; exact hlt)⟩
          rcases HS.out.tat with h0 | ⟨b2, o2, rfl, hb2, hc2⟩
          · rw [h0] at hx; cases hx
          obtain ⟨c0, c1, c2, c3, c4, c5, c6, c7, c8, c9, c10⟩ := tk_cellsP (hc2 j x hx)
          have HX := hid (tokAt_in hx)
          have hji : (j : Int) < (n : Int) := Int.ofNat_lt.2 hlt
          have hj0 : (0 : Int) ≤ (j : Int) := Int.natCast_nonneg _
          have hjs : j ≤ 60 := Nat.le_trans hjn HN60.out
          clear hx hc2
          rcases hk5 : (x.kind == 5) with _ | _
          · have hk5' : (x.kind != 5) = true := by simp [bne, hk5]
            rcases hrs : (x.text.toList == restL) with _ | _
            · skip
              have HW : Hid (wrongBd true R.2.1 R.1 bs j = 0) := by
                show _ = _
                rw [← rchk_eq (by rw [HLn.out]; exact hlt) HLet.out HNm.out]
                unfold rchk
                rw [HX.out, HLn.out]
                simp [hk5, hrs]
              unfold restL at hrs
              have HS2 := hid (HS.out.lower ((Below.refl _ wr).alloc (Nat.le_refl _) (.cells #[.int .i64 x.kind, .string x.text, .bool x.space, .bool x.first, .int .i64 x.file, .int .i64 x.lo, .int .i64 x.hi, .int .i64 x.line, .slice none 0 0, .slice none 0 0, .int .i64 0] 43)))
              have HXB := hid (heap_alloc_new wr (.cells #[.int .i64 x.kind, .string x.text, .bool x.space, .bool x.first, .int .i64 x.file, .int .i64 x.lo, .int .i64 x.hi, .int .i64 x.line, .slice none 0 0, .slice none 0 0, .int .i64 0] 43))
              go_wp2_with fail
              generalize wr.alloc (.cells #[.int .i64 x.kind, .string x.text, .bool x.space, .bool x.first, .int .i64 x.file, .int .i64 x.lo, .int .i64 x.hi, .int .i64 x.line, .slice none 0 0, .slice none 0 0, .int .i64 0] 43) = wA at HS2 HXB ⊢
              obtain ⟨⟨x0, x1, x2, x3, x4, x5, x6, x7, x8, x9, x10⟩, _⟩ := tok_block HXB.out
              obtain ⟨⟨y0, y1, y2, y3, y4⟩, _⟩ := HS2.out.box.facts
              dsimp only at y0 y1 y2 y3 y4
              rw [HLn.out] at y4
              have hnn : Nonempty (Later wA) := ⟨⟨_, Below.refl _ _⟩⟩
              have r0 := Later.cell x0
              have r1 := Later.cell x1
              have r2 := Later.cell y1
              have r3 := Later.cell y2
              have r4 := Later.cell y4
              clear c0 c1 c2 c3 c4 c5 c6 c7 c8 c9 c10 m0 m1 m2 m3 m4 n0 n1 n2 n3 n4 x0 x1 x2 x3 x4 x5 x6 x7 x8 x9 x10 y0 y1 y2 y3 y4
              refine region_later (by kernel_rfl) (by kernel_rfl) ?_
              repeat (first | go_big_quiet_step (fail) | quiet_step (fail))
              refine wpQuiet_nil ?_
              rintro _ ⟨p, rfl⟩
              have HS3 := hid (HS2.out.lower p.hb)
              have HXC := hid ((p.hb.block _ (lt_of_block HXB.out)).trans HXB.out)
              clear r0 r1 r2 r3 r4 hnn
              generalize p.W = w1 at HS3 HXC ⊢
              obtain ⟨⟨x0, x1, x2, x3, x4, x5, x6, x7, x8, x9, x10⟩, _⟩ := tok_block HXC.out
              obtain ⟨⟨y0, y1, y2, y3, y4⟩, _⟩ := HS3.out.box.facts
              dsimp only at y0 y1 y2 y3 y4
              rw [HLn.out] at y4
              go_wp2_with fail
              exact ⟨⟨j + 1, f - 1, nxt_val j, hlt, fuel_next HF.out (fuel_one HF.out hjn HN60.out), fb_ok HB.out (fuel_one HF.out hjn HN60.out) (by rw [HLn.out]; exact hlt) HW.out, HS3⟩, less_n hlt (nxt_val j)⟩
            · rcases (show R.2.1 = false ∨ R.2.1 = true by cases R.2.1 <;> simp) with hmo | hmo
              · skip
                have HW : Hid (wrongBd true R.2.1 R.1 bs j = 7) := by
                  show _ = _
                  rw [← rchk_eq (by rw [HLn.out]; exact hlt) HLet.out HNm.out]
                  unfold rchk
                  rw [HX.out, HLn.out]
                  simp [hk5, hrs, hmo]
                unfold restL at hrs
                have HMO := hid hmo
                clear hmo
                have HS2 := hid (HS.out.lower ((Below.refl _ wr).alloc (Nat.le_refl _) (.cells #[.int .i64 x.kind, .string x.text, .bool x.space, .bool x.first, .int .i64 x.file, .int .i64 x.lo, .int .i64 x.hi, .int .i64 x.line, .slice none 0 0, .slice none 0 0, .int .i64 0] 43)))
                have HXB := hid (heap_alloc_new wr (.cells #[.int .i64 x.kind, .string x.text, .bool x.space, .bool x.first, .int .i64 x.file, .int .i64 x.lo, .int .i64 x.hi, .int .i64 x.line, .slice none 0 0, .slice none 0 0, .int .i64 0] 43))
                go_wp2_with fail
                generalize wr.alloc (.cells #[.int .i64 x.kind, .string x.text, .bool x.space, .bool x.first, .int .i64 x.file, .int .i64 x.lo, .int .i64 x.hi, .int .i64 x.line, .slice none 0 0, .slice none 0 0, .int .i64 0] 43) = wA at HS2 HXB ⊢
                obtain ⟨⟨x0, x1, x2, x3, x4, x5, x6, x7, x8, x9, x10⟩, _⟩ := tok_block HXB.out
                obtain ⟨⟨y0, y1, y2, y3, y4⟩, _⟩ := HS2.out.box.facts
                dsimp only at y0 y1 y2 y3 y4
                rw [HLn.out] at y4
                have hnn : Nonempty (Later wA) := ⟨⟨_, Below.refl _ _⟩⟩
                have r0 := Later.cell x0
                have r1 := Later.cell x1
                have r2 := Later.cell y1
                have r3 := Later.cell y2
                have r4 := Later.cell y4
                clear c0 c1 c2 c3 c4 c5 c6 c7 c8 c9 c10 m0 m1 m2 m3 m4 n0 n1 n2 n3 n4 x0 x1 x2 x3 x4 x5 x6 x7 x8 x9 x10 y0 y1 y2 y3 y4
                refine region_later (by kernel_rfl) (by kernel_rfl) ?_
                repeat (first | go_big_quiet_step (fail) | quiet_step (fail))
                refine wpQuiet_nil ?_
                rintro _ ⟨p, rfl⟩
                have HS3 := hid (HS2.out.lower p.hb)
                have HXC := hid ((p.hb.block _ (lt_of_block HXB.out)).trans HXB.out)
                clear r0 r1 r2 r3 r4 hnn
                generalize p.W = w1 at HS3 HXC ⊢
                obtain ⟨⟨x0, x1, x2, x3, x4, x5, x6, x7, x8, x9, x10⟩, _⟩ := tok_block HXC.out
                obtain ⟨⟨y0, y1, y2, y3, y4⟩, _⟩ := HS3.out.box.facts
                dsimp only at y0 y1 y2 y3 y4
                rw [HLn.out] at y4
                rw [HMO.out] at y3
                go_wp2_with fail
                refine (HAb.out j 7 _ HS3.out).mono ?_
                rintro e w5 ⟨rfl, hb5⟩
                have HS5 := hid (HS3.out.bad.lower hb5)
                clear hb5
                obtain ⟨z0, z1, z2, z3, z4, z5⟩ := HS5.out.flt.facts
                obtain ⟨⟨p0, p1, p2, p3, p4⟩, ⟨q0, q1, q2, q3, q4⟩⟩ := HS5.out.box.facts
                dsimp only at p0 p1 p2 p3 p4
                go_wp2_with fail
                all_goals (have HQ := hid (HS5.out.stored 7 (tokAt bs j).file (tokAt bs j).lo))
                all_goals exact bodyPost_ret (rparse_ret HQ.out.1 HQ.out.2.1 _ rfl rfl) rfl (bad_post HQ.out.2.2 (HPb.out _ hlt ((fb_bad HB.out (fuel_one HF.out hjn HN60.out) (by rw [HLn.out]; exact hlt) (by rw [HW.out]; decide)).trans (by rw [HW.out])) (by decide)))
              · skip
                have HW : Hid (wrongBd true R.2.1 R.1 bs j = 0) := by
                  show _ = _
                  rw [← rchk_eq (by rw [HLn.out]; exact hlt) HLet.out HNm.out]
                  unfold rchk
                  rw [HX.out, HLn.out]
                  simp [hk5, hrs, hmo]
                unfold restL at hrs
                have HMO := hid hmo
                clear hmo
                have HS2 := hid (HS.out.lower ((Below.refl _ wr).alloc (Nat.le_refl _) (.cells #[.int .i64 x.kind, .string x.text, .bool x.space, .bool x.first, .int .i64 x.file, .int .i64 x.lo, .int .i64 x.hi, .int .i64 x.line, .slice none 0 0, .slice none 0 0, .int .i64 0] 43)))
                have HXB := hid (heap_alloc_new wr (.cells #[.int .i64 x.kind, .string x.text, .bool x.space, .bool x.first, .int .i64 x.file, .int .i64 x.lo, .int .i64 x.hi, .int .i64 x.line, .slice none 0 0, .slice none 0 0, .int .i64 0] 43))
                go_wp2_with fail
                generalize wr.alloc (.cells #[.int .i64 x.kind, .string x.text, .bool x.space, .bool x.first, .int .i64 x.file, .int .i64 x.lo, .int .i64 x.hi, .int .i64 x.line, .slice none 0 0, .slice none 0 0, .int .i64 0] 43) = wA at HS2 HXB ⊢
                obtain ⟨⟨x0, x1, x2, x3, x4, x5, x6, x7, x8, x9, x10⟩, _⟩ := tok_block HXB.out
                obtain ⟨⟨y0, y1, y2, y3, y4⟩, _⟩ := HS2.out.box.facts
                dsimp only at y0 y1 y2 y3 y4
                rw [HLn.out] at y4
                have hnn : Nonempty (Later wA) := ⟨⟨_, Below.refl _ _⟩⟩
                have r0 := Later.cell x0
                have r1 := Later.cell x1
                have r2 := Later.cell y1
                have r3 := Later.cell y2
                have r4 := Later.cell y4
                clear c0 c1 c2 c3 c4 c5 c6 c7 c8 c9 c10 m0 m1 m2 m3 m4 n0 n1 n2 n3 n4 x0 x1 x2 x3 x4 x5 x6 x7 x8 x9 x10 y0 y1 y2 y3 y4
                refine region_later (by kernel_rfl) (by kernel_rfl) ?_
                repeat (first | go_big_quiet_step (fail) | quiet_step (fail))
                refine wpQuiet_nil ?_
                rintro _ ⟨p, rfl⟩
                have HS3 := hid (HS2.out.lower p.hb)
                have HXC := hid ((p.hb.block _ (lt_of_block HXB.out)).trans HXB.out)
                clear r0 r1 r2 r3 r4 hnn
                generalize p.W = w1 at HS3 HXC ⊢
                obtain ⟨⟨x0, x1, x2, x3, x4, x5, x6, x7, x8, x9, x10⟩, _⟩ := tok_block HXC.out
                obtain ⟨⟨y0, y1, y2, y3, y4⟩, _⟩ := HS3.out.box.facts
                dsimp only at y0 y1 y2 y3 y4
                rw [HLn.out] at y4
                rw [HMO.out] at y3
                go_wp2_with fail
                exact ⟨⟨j + 1, f - 1, nxt_val j, hlt, fuel_next HF.out (fuel_one HF.out hjn HN60.out), fb_ok HB.out (fuel_one HF.out hjn HN60.out) (by rw [HLn.out]; exact hlt) HW.out, HS3⟩, less_n hlt (nxt_val j)⟩
          · have hk5' : (x.kind != 5) = false := by simp [bne, hk5]
            rcases hdd : (x.text.toList == [35, 35]) with _ | _
            · rcases hd : (x.text.toList == [35]) with _ | _
              · skip
                have HW : Hid (wrongBd true R.2.1 R.1 bs j = 0) := by
                  show _ = _
                  rw [← rchk_eq (by rw [HLn.out]; exact hlt) HLet.out HNm.out]
                  unfold rchk
                  rw [HX.out, HLn.out]
                  simp [hk5, hdd, hd]
                have HS2 := hid (HS.out.lower ((Below.refl _ wr).alloc (Nat.le_refl _) (.cells #[.int .i64 x.kind, .string x.text, .bool x.space, .bool x.first, .int .i64 x.file, .int .i64 x.lo, .int .i64 x.hi, .int .i64 x.line, .slice none 0 0, .slice none 0 0, .int .i64 0] 43)))
                have HXB := hid (heap_alloc_new wr (.cells #[.int .i64 x.kind, .string x.text, .bool x.space, .bool x.first, .int .i64 x.file, .int .i64 x.lo, .int .i64 x.hi, .int .i64 x.line, .slice none 0 0, .slice none 0 0, .int .i64 0] 43))
                go_wp2_with fail
                generalize wr.alloc (.cells #[.int .i64 x.kind, .string x.text, .bool x.space, .bool x.first, .int .i64 x.file, .int .i64 x.lo, .int .i64 x.hi, .int .i64 x.line, .slice none 0 0, .slice none 0 0, .int .i64 0] 43) = wA at HS2 HXB ⊢
                obtain ⟨⟨x0, x1, x2, x3, x4, x5, x6, x7, x8, x9, x10⟩, _⟩ := tok_block HXB.out
                obtain ⟨⟨y0, y1, y2, y3, y4⟩, _⟩ := HS2.out.box.facts
                dsimp only at y0 y1 y2 y3 y4
                rw [HLn.out] at y4
                have hnn : Nonempty (Later wA) := ⟨⟨_, Below.refl _ _⟩⟩
                have r0 := Later.cell x0
                have r1 := Later.cell x1
                have r2 := Later.cell y1
                have r3 := Later.cell y2
                have r4 := Later.cell y4
                clear c0 c1 c2 c3 c4 c5 c6 c7 c8 c9 c10 m0 m1 m2 m3 m4 n0 n1 n2 n3 n4 x0 x1 x2 x3 x4 x5 x6 x7 x8 x9 x10 y0 y1 y2 y3 y4
                refine region_later (by kernel_rfl) (by kernel_rfl) ?_
                repeat (first | go_big_quiet_step (fail) | quiet_step (fail))
                refine wpQuiet_nil ?_
                rintro _ ⟨p, rfl⟩
                have HS3 := hid (HS2.out.lower p.hb)
                have HXC := hid ((p.hb.block _ (lt_of_block HXB.out)).trans HXB.out)
                clear r0 r1 r2 r3 r4 hnn
                generalize p.W = w1 at HS3 HXC ⊢
                obtain ⟨⟨x0, x1, x2, x3, x4, x5, x6, x7, x8, x9, x10⟩, _⟩ := tok_block HXC.out
                obtain ⟨⟨y0, y1, y2, y3, y4⟩, _⟩ := HS3.out.box.facts
                dsimp only at y0 y1 y2 y3 y4
                rw [HLn.out] at y4
                go_wp2_with fail
                exact ⟨⟨j + 1, f - 1, nxt_val j, hlt, fuel_next HF.out (fuel_one HF.out hjn HN60.out), fb_ok HB.out (fuel_one HF.out hjn HN60.out) (by rw [HLn.out]; exact hlt) HW.out, HS3⟩, less_n hlt (nxt_val j)⟩
              · by_cases hje : j + 1 = n
                · skip
                  have HW : Hid (wrongBd true R.2.1 R.1 bs j = 2) := by
                    show _ = _
                    rw [← rchk_eq (by rw [HLn.out]; exact hlt) HLet.out HNm.out]
                    unfold rchk
                    rw [HX.out, HLn.out]
                    simp [hk5, hdd, hd, hje]
                  have hje' : ((j : Int) + 1 == (n : Int)) = true := by simp; omega
                  clear hje
                  have HS2 := hid (HS.out.lower ((Below.refl _ wr).alloc (Nat.le_refl _) (.cells #[.int .i64 x.kind, .string x.text, .bool x.space, .bool x.first, .int .i64 x.file, .int .i64 x.lo, .int .i64 x.hi, .int .i64 x.line, .slice none 0 0, .slice none 0 0, .int .i64 0] 43)))
                  have HXB := hid (heap_alloc_new wr (.cells #[.int .i64 x.kind, .string x.text, .bool x.space, .bool x.first, .int .i64 x.file, .int .i64 x.lo, .int .i64 x.hi, .int .i64 x.line, .slice none 0 0, .slice none 0 0, .int .i64 0] 43))
                  go_wp2_with fail
                  generalize wr.alloc (.cells #[.int .i64 x.kind, .string x.text, .bool x.space, .bool x.first, .int .i64 x.file, .int .i64 x.lo, .int .i64 x.hi, .int .i64 x.line, .slice none 0 0, .slice none 0 0, .int .i64 0] 43) = wA at HS2 HXB ⊢
                  obtain ⟨⟨x0, x1, x2, x3, x4, x5, x6, x7, x8, x9, x10⟩, _⟩ := tok_block HXB.out
                  obtain ⟨⟨y0, y1, y2, y3, y4⟩, _⟩ := HS2.out.box.facts
                  dsimp only at y0 y1 y2 y3 y4
                  rw [HLn.out] at y4
                  have hnn : Nonempty (Later wA) := ⟨⟨_, Below.refl _ _⟩⟩
                  have r0 := Later.cell x0
                  have r1 := Later.cell x1
                  have r2 := Later.cell y1
                  have r3 := Later.cell y2
                  have r4 := Later.cell y4
                  clear c0 c1 c2 c3 c4 c5 c6 c7 c8 c9 c10 m0 m1 m2 m3 m4 n0 n1 n2 n3 n4 x0 x1 x2 x3 x4 x5 x6 x7 x8 x9 x10 y0 y1 y2 y3 y4
                  refine region_later (by kernel_rfl) (by kernel_rfl) ?_
                  repeat (first | go_big_quiet_step (fail) | quiet_step (fail))
                  refine wpQuiet_nil ?_
                  rintro _ ⟨p, rfl⟩
                  have HS3 := hid (HS2.out.lower p.hb)
                  have HXC := hid ((p.hb.block _ (lt_of_block HXB.out)).trans HXB.out)
                  clear r0 r1 r2 r3 r4 hnn
                  generalize p.W = w1 at HS3 HXC ⊢
                  obtain ⟨⟨x0, x1, x2, x3, x4, x5, x6, x7, x8, x9, x10⟩, _⟩ := tok_block HXC.out
                  obtain ⟨⟨y0, y1, y2, y3, y4⟩, _⟩ := HS3.out.box.facts
                  dsimp only at y0 y1 y2 y3 y4
                  rw [HLn.out] at y4
                  go_wp2_with fail
                  refine (HAb.out j 2 _ HS3.out).mono ?_
                  rintro e w5 ⟨rfl, hb5⟩
                  have HS5 := hid (HS3.out.bad.lower hb5)
                  clear hb5
                  obtain ⟨z0, z1, z2, z3, z4, z5⟩ := HS5.out.flt.facts
                  obtain ⟨⟨p0, p1, p2, p3, p4⟩, ⟨q0, q1, q2, q3, q4⟩⟩ := HS5.out.box.facts
                  dsimp only at p0 p1 p2 p3 p4
                  go_wp2_with fail
                  all_goals (have HQ := hid (HS5.out.stored 2 (tokAt bs j).file (tokAt bs j).lo))
                  all_goals exact bodyPost_ret (rparse_ret HQ.out.1 HQ.out.2.1 _ rfl rfl) rfl (bad_post HQ.out.2.2 (HPb.out _ hlt ((fb_bad HB.out (fuel_one HF.out hjn HN60.out) (by rw [HLn.out]; exact hlt) (by rw [HW.out]; decide)).trans (by rw [HW.out])) (by decide)))
                · obtain ⟨y, hy⟩ : ∃ y, bs[j + 1]? = some y := ⟨_, List.getElem?_eq_getElem (by rw [HLn.out]; omega)⟩
                  have HYx := hid (tokAt_in hy)
                  have HY := hid (fun W (h : TailSt w M base (tokAt ts 0).text true R.1 R.2.1 pa pc bs (some ⟨b2, o2, none⟩) bc W) => tail_text h hy)
                  obtain ⟨q, hq⟩ : ∃ q : Nat, j + 1 = q := ⟨_, rfl⟩
                  have HQF := hid (quiet_facts (n := n) hq hjs (by omega))
                  rw [hq] at HY
                  rcases hhv : Lib.containsS R.1 y.text with _ | _
                  · skip
                    have HW : Hid (wrongBd true R.2.1 R.1 bs j = 2) := by
                      show _ = _
                      rw [← rchk_eq (by rw [HLn.out]; exact hlt) HLet.out HNm.out]
                      unfold rchk
                      rw [HX.out, HLn.out]
                      simp [hk5, hdd, hd, HYx.out, hhv]
                    have HHv := hid hhv
                    clear hhv hy hje hjs hq
                    have HS2 := hid (HS.out.lower ((Below.refl _ wr).alloc (Nat.le_refl _) (.cells #[.int .i64 x.kind, .string x.text, .bool x.space, .bool x.first, .int .i64 x.file, .int .i64 x.lo, .int .i64 x.hi, .int .i64 x.line, .slice none 0 0, .slice none 0 0, .int .i64 0] 43)))
                    have HXB := hid (heap_alloc_new wr (.cells #[.int .i64 x.kind, .string x.text, .bool x.space, .bool x.first, .int .i64 x.file, .int .i64 x.lo, .int .i64 x.hi, .int .i64 x.line, .slice none 0 0, .slice none 0 0, .int .i64 0] 43))
                    go_wp2_with fail
                    generalize wr.alloc (.cells #[.int .i64 x.kind, .string x.text, .bool x.space, .bool x.first, .int .i64 x.file, .int .i64 x.lo, .int .i64 x.hi, .int .i64 x.line, .slice none 0 0, .slice none 0 0, .int .i64 0] 43) = wA at HS2 HXB ⊢
                    obtain ⟨⟨x0, x1, x2, x3, x4, x5, x6, x7, x8, x9, x10⟩, _⟩ := tok_block HXB.out
                    obtain ⟨⟨y0, y1, y2, y3, y4⟩, _⟩ := HS2.out.box.facts
                    dsimp only at y0 y1 y2 y3 y4
                    rw [HLn.out] at y4
                    have hnn : Nonempty (Later wA) := ⟨⟨_, Below.refl _ _⟩⟩
                    have r0 := Later.cell x0
                    have r1 := Later.cell x1
                    have r2 := Later.cell y1
                    have r3 := Later.cell y2
                    have r4 := Later.cell y4
                    have r5 := Later.cell (HY.out _ HS2.out)
                    have HSL : Hid (∀ p : Later wA, StAt p.W pa R.1) := fun p => (HS2.out.lower p.hb).stat
                    clear c0 c1 c2 c3 c4 c5 c6 c7 c8 c9 c10 m0 m1 m2 m3 m4 n0 n1 n2 n3 n4 x0 x1 x2 x3 x4 x5 x6 x7 x8 x9 x10 y0 y1 y2 y3 y4
                    refine region_later (by kernel_rfl) (by kernel_rfl) ?_
                    obtain ⟨hqw, hqw', hqe, hq0, hqn⟩ := HQF.out
                    have HHL := hid (fun p : Later wA => HHas.out pa pc R.1 y.text p.W (HSL.out p) HPl.out)
                    rw [HHv.out] at HHL
                    clear HSL HQF
                    repeat (first | go_big_quiet_step ((go_at_call 21; exact Calls.later (HHL.out _))) | quiet_step ((go_at_call 21; exact Calls.later (HHL.out _))))
                    refine wpQuiet_nil ?_
                    rintro _ ⟨p, rfl⟩
                    have HS3 := hid (HS2.out.lower p.hb)
                    have HXC := hid ((p.hb.block _ (lt_of_block HXB.out)).trans HXB.out)
                    clear r0 r1 r2 r3 r4 hnn
                    generalize p.W = w1 at HS3 HXC ⊢
                    obtain ⟨⟨x0, x1, x2, x3, x4, x5, x6, x7, x8, x9, x10⟩, _⟩ := tok_block HXC.out
                    obtain ⟨⟨y0, y1, y2, y3, y4⟩, _⟩ := HS3.out.box.facts
                    dsimp only at y0 y1 y2 y3 y4
                    rw [HLn.out] at y4
                    go_wp2_with fail
                    refine (HAb.out j 2 _ HS3.out).mono ?_
                    rintro e w5 ⟨rfl, hb5⟩
                    have HS5 := hid (HS3.out.bad.lower hb5)
                    clear hb5
                    obtain ⟨z0, z1, z2, z3, z4, z5⟩ := HS5.out.flt.facts
                    obtain ⟨⟨p0, p1, p2, p3, p4⟩, ⟨q0, q1, q2, q3, q4⟩⟩ := HS5.out.box.facts
                    dsimp only at p0 p1 p2 p3 p4
                    go_wp2_with fail
                    all_goals (have HQ := hid (HS5.out.stored 2 (tokAt bs j).file (tokAt bs j).lo))
                    all_goals exact bodyPost_ret (rparse_ret HQ.out.1 HQ.out.2.1 _ rfl rfl) rfl (bad_post HQ.out.2.2 (HPb.out _ hlt ((fb_bad HB.out (fuel_one HF.out hjn HN60.out) (by rw [HLn.out]; exact hlt) (by rw [HW.out]; decide)).trans (by rw [HW.out])) (by decide)))
                  · skip
                    have HW : Hid (wrongBd true R.2.1 R.1 bs j = 0) := by
                      show _ = _
                      rw [← rchk_eq (by rw [HLn.out]; exact hlt) HLet.out HNm.out]
                      unfold rchk
                      rw [HX.out, HLn.out]
                      simp [hk5, hdd, hd, hje, HYx.out, hhv]
                    have HHv := hid hhv
                    clear hhv hy hje hjs hq
                    have HS2 := hid (HS.out.lower ((Below.refl _ wr).alloc (Nat.le_refl _) (.cells #[.int .i64 x.kind, .string x.text, .bool x.space, .bool x.first, .int .i64 x.file, .int .i64 x.lo, .int .i64 x.hi, .int .i64 x.line, .slice none 0 0, .slice none 0 0, .int .i64 0] 43)))
                    have HXB := hid (heap_alloc_new wr (.cells #[.int .i64 x.kind, .string x.text, .bool x.space, .bool x.first, .int .i64 x.file, .int .i64 x.lo, .int .i64 x.hi, .int .i64 x.line, .slice none 0 0, .slice none 0 0, .int .i64 0] 43))
                    go_wp2_with fail
                    generalize wr.alloc (.cells #[.int .i64 x.kind, .string x.text, .bool x.space, .bool x.first, .int .i64 x.file, .int .i64 x.lo, .int .i64 x.hi, .int .i64 x.line, .slice none 0 0, .slice none 0 0, .int .i64 0] 43) = wA at HS2 HXB ⊢
                    obtain ⟨⟨x0, x1, x2, x3, x4, x5, x6, x7, x8, x9, x10⟩, _⟩ := tok_block HXB.out
                    obtain ⟨⟨y0, y1, y2, y3, y4⟩, _⟩ := HS2.out.box.facts
                    dsimp only at y0 y1 y2 y3 y4
                    rw [HLn.out] at y4
                    have hnn : Nonempty (Later wA) := ⟨⟨_, Below.refl _ _⟩⟩
                    have r0 := Later.cell x0
                    have r1 := Later.cell x1
                    have r2 := Later.cell y1
                    have r3 := Later.cell y2
                    have r4 := Later.cell y4
                    have r5 := Later.cell (HY.out _ HS2.out)
                    have HSL : Hid (∀ p : Later wA, StAt p.W pa R.1) := fun p => (HS2.out.lower p.hb).stat
                    clear c0 c1 c2 c3 c4 c5 c6 c7 c8 c9 c10 m0 m1 m2 m3 m4 n0 n1 n2 n3 n4 x0 x1 x2 x3 x4 x5 x6 x7 x8 x9 x10 y0 y1 y2 y3 y4
                    refine region_later (by kernel_rfl) (by kernel_rfl) ?_
                    obtain ⟨hqw, hqw', hqe, hq0, hqn⟩ := HQF.out
                    have HHL := hid (fun p : Later wA => HHas.out pa pc R.1 y.text p.W (HSL.out p) HPl.out)
                    rw [HHv.out] at HHL
                    clear HSL HQF
                    repeat (first | go_big_quiet_step ((go_at_call 21; exact Calls.later (HHL.out _))) | quiet_step ((go_at_call 21; exact Calls.later (HHL.out _))))
                    refine wpQuiet_nil ?_
                    rintro _ ⟨p, rfl⟩
                    have HS3 := hid (HS2.out.lower p.hb)
                    have HXC := hid ((p.hb.block _ (lt_of_block HXB.out)).trans HXB.out)
                    clear r0 r1 r2 r3 r4 hnn
                    generalize p.W = w1 at HS3 HXC ⊢
                    obtain ⟨⟨x0, x1, x2, x3, x4, x5, x6, x7, x8, x9, x10⟩, _⟩ := tok_block HXC.out
                    obtain ⟨⟨y0, y1, y2, y3, y4⟩, _⟩ := HS3.out.box.facts
                    dsimp only at y0 y1 y2 y3 y4
                    rw [HLn.out] at y4
                    clear hqw hqw' hqe hq0 hqn
                    have hjs : j ≤ 60 := Nat.le_trans hjn HN60.out
                    go_wp2_with fail
                    exact ⟨⟨j + 1, f - 1, nxt_val j, hlt, fuel_next HF.out (fuel_one HF.out hjn HN60.out), fb_ok HB.out (fuel_one HF.out hjn HN60.out) (by rw [HLn.out]; exact hlt) HW.out, HS3⟩, less_n hlt (nxt_val j)⟩
            · have hd : (x.text.toList == [35]) = false := by rw [eq_of_beq hdd]; decide
              by_cases hj00 : j = 0
              · skip
                have HW : Hid (wrongBd true R.2.1 R.1 bs j = 2) := by
                  show _ = _
                  rw [← rchk_eq (by rw [HLn.out]; exact hlt) HLet.out HNm.out]
                  unfold rchk
                  rw [HX.out, HLn.out]
                  simp [hk5, hdd, hj00]
                have hj00' : ((j : Int) == 0) = true := by simp; omega
                clear hj00
                have HS2 := hid (HS.out.lower ((Below.refl _ wr).alloc (Nat.le_refl _) (.cells #[.int .i64 x.kind, .string x.text, .bool x.space, .bool x.first, .int .i64 x.file, .int .i64 x.lo, .int .i64 x.hi, .int .i64 x.line, .slice none 0 0, .slice none 0 0, .int .i64 0] 43)))
                have HXB := hid (heap_alloc_new wr (.cells #[.int .i64 x.kind, .string x.text, .bool x.space, .bool x.first, .int .i64 x.file, .int .i64 x.lo, .int .i64 x.hi, .int .i64 x.line, .slice none 0 0, .slice none 0 0, .int .i64 0] 43))
                go_wp2_with fail
                refine (HAb.out j 2 _ HS2.out).mono ?_
                rintro e w5 ⟨rfl, hb5⟩
                have HS5 := hid (HS2.out.bad.lower hb5)
                clear hb5
                obtain ⟨z0, z1, z2, z3, z4, z5⟩ := HS5.out.flt.facts
                obtain ⟨⟨p0, p1, p2, p3, p4⟩, ⟨q0, q1, q2, q3, q4⟩⟩ := HS5.out.box.facts
                dsimp only at p0 p1 p2 p3 p4
                go_wp2_with fail
                all_goals (have HQ := hid (HS5.out.stored 2 (tokAt bs j).file (tokAt bs j).lo))
                all_goals exact bodyPost_ret (rparse_ret HQ.out.1 HQ.out.2.1 _ rfl rfl) rfl (bad_post HQ.out.2.2 (HPb.out _ hlt ((fb_bad HB.out (fuel_one HF.out hjn HN60.out) (by rw [HLn.out]; exact hlt) (by rw [HW.out]; decide)).trans (by rw [HW.out])) (by decide)))
              · have hj00' : ((j : Int) == 0) = false := by simp; omega
                by_cases hje : j + 1 = n
                · skip
                  have HW : Hid (wrongBd true R.2.1 R.1 bs j = 2) := by
                    show _ = _
                    rw [← rchk_eq (by rw [HLn.out]; exact hlt) HLet.out HNm.out]
                    unfold rchk
                    rw [HX.out, HLn.out]
                    simp [hk5, hdd, hje]
                  have hje' : ((j : Int) + 1 == (n : Int)) = true := by simp; omega
                  clear hje hj00
                  have HS2 := hid (HS.out.lower ((Below.refl _ wr).alloc (Nat.le_refl _) (.cells #[.int .i64 x.kind, .string x.text, .bool x.space, .bool x.first, .int .i64 x.file, .int .i64 x.lo, .int .i64 x.hi, .int .i64 x.line, .slice none 0 0, .slice none 0 0, .int .i64 0] 43)))
                  have HXB := hid (heap_alloc_new wr (.cells #[.int .i64 x.kind, .string x.text, .bool x.space, .bool x.first, .int .i64 x.file, .int .i64 x.lo, .int .i64 x.hi, .int .i64 x.line, .slice none 0 0, .slice none 0 0, .int .i64 0] 43))
                  go_wp2_with fail
                  refine (HAb.out j 2 _ HS2.out).mono ?_
                  rintro e w5 ⟨rfl, hb5⟩
                  have HS5 := hid (HS2.out.bad.lower hb5)
                  clear hb5
                  obtain ⟨z0, z1, z2, z3, z4, z5⟩ := HS5.out.flt.facts
                  obtain ⟨⟨p0, p1, p2, p3, p4⟩, ⟨q0, q1, q2, q3, q4⟩⟩ := HS5.out.box.facts
                  dsimp only at p0 p1 p2 p3 p4
                  go_wp2_with fail
                  all_goals (have HQ := hid (HS5.out.stored 2 (tokAt bs j).file (tokAt bs j).lo))
                  all_goals exact bodyPost_ret (rparse_ret HQ.out.1 HQ.out.2.1 _ rfl rfl) rfl (bad_post HQ.out.2.2 (HPb.out _ hlt ((fb_bad HB.out (fuel_one HF.out hjn HN60.out) (by rw [HLn.out]; exact hlt) (by rw [HW.out]; decide)).trans (by rw [HW.out])) (by decide)))
                · skip
                  have HW : Hid (wrongBd true R.2.1 R.1 bs j = 0) := by
                    show _ = _
                    rw [← rchk_eq (by rw [HLn.out]; exact hlt) HLet.out HNm.out]
                    unfold rchk
                    rw [HX.out, HLn.out]
                    simp [hk5, hdd, hd, hj00, hje]
                  have hje' : ((j : Int) + 1 == (n : Int)) = false := by simp; omega
                  clear hje hj00
                  have HS2 := hid (HS.out.lower ((Below.refl _ wr).alloc (Nat.le_refl _) (.cells #[.int .i64 x.kind, .string x.text, .bool x.space, .bool x.first, .int .i64 x.file, .int .i64 x.lo, .int .i64 x.hi, .int .i64 x.line, .slice none 0 0, .slice none 0 0, .int .i64 0] 43)))
                  have HXB := hid (heap_alloc_new wr (.cells #[.int .i64 x.kind, .string x.text, .bool x.space, .bool x.first, .int .i64 x.file, .int .i64 x.lo, .int .i64 x.hi, .int .i64 x.line, .slice none 0 0, .slice none 0 0, .int .i64 0] 43))
                  go_wp2_with fail
                  generalize wr.alloc (.cells #[.int .i64 x.kind, .string x.text, .bool x.space, .bool x.first, .int .i64 x.file, .int .i64 x.lo, .int .i64 x.hi, .int .i64 x.line, .slice none 0 0, .slice none 0 0, .int .i64 0] 43) = wA at HS2 HXB ⊢
                  obtain ⟨⟨x0, x1, x2, x3, x4, x5, x6, x7, x8, x9, x10⟩, _⟩ := tok_block HXB.out
                  obtain ⟨⟨y0, y1, y2, y3, y4⟩, _⟩ := HS2.out.box.facts
                  dsimp only at y0 y1 y2 y3 y4
                  rw [HLn.out] at y4
                  have hnn : Nonempty (Later wA) := ⟨⟨_, Below.refl _ _⟩⟩
                  have r0 := Later.cell x0
                  have r1 := Later.cell x1
                  have r2 := Later.cell y1
                  have r3 := Later.cell y2
                  have r4 := Later.cell y4
                  clear c0 c1 c2 c3 c4 c5 c6 c7 c8 c9 c10 m0 m1 m2 m3 m4 n0 n1 n2 n3 n4 x0 x1 x2 x3 x4 x5 x6 x7 x8 x9 x10 y0 y1 y2 y3 y4
                  refine region_later (by kernel_rfl) (by kernel_rfl) ?_
                  repeat (first | go_big_quiet_step (fail) | quiet_step (fail))
                  refine wpQuiet_nil ?_
                  rintro _ ⟨p, rfl⟩
                  have HS3 := hid (HS2.out.lower p.hb)
                  have HXC := hid ((p.hb.block _ (lt_of_block HXB.out)).trans HXB.out)
                  clear r0 r1 r2 r3 r4 hnn
                  generalize p.W = w1 at HS3 HXC ⊢
                  obtain ⟨⟨x0, x1, x2, x3, x4, x5, x6, x7, x8, x9, x10⟩, _⟩ := tok_block HXC.out
                  obtain ⟨⟨y0, y1, y2, y3, y4⟩, _⟩ := HS3.out.box.facts
                  dsimp only at y0 y1 y2 y3 y4
                  rw [HLn.out] at y4
                  go_wp2_with fail
                  exact ⟨⟨j + 1, f - 1, nxt_val j, hlt, fuel_next HF.out (fuel_one HF.out hjn HN60.out), fb_ok HB.out (fuel_one HF.out hjn HN60.out) (by rw [HLn.out]; exact hlt) HW.out, HS3⟩, less_n hlt (nxt_val j)⟩
        · have hlt' : ¬ (j : Int) < (n : Int) := by omega
          obtain ⟨z0, z1, z2, z3, z4, z5⟩ := HS.out.bad.flt.facts
          obtain ⟨⟨p0, p1, p2, p3, p4⟩, ⟨q0, q1, q2, q3, q4⟩⟩ := HS.out.bad.box.facts
          dsimp only at p0 p1 p2 p3 p4
          have hA1 : w.heap.size ≠ M := by have := HS.out.lo; omega
          have hA2 : w.heap.size + 1 ≠ M := by have := HS.out.lo; omega
          have HF0 := hid (fb_end HB.out (fuel_one HF.out hjn HN60.out) (by rw [HLn.out]; exact hlt))
          go_wp2_with fail
          have HQ := hid (HS.out.good _ rfl)
          rw [HLn.out] at HQ
          refine bodyPost_ret (rparse_ret HQ.out.1 HQ.out.2.1 _ rfl rfl) rfl ?_
          rw [parse_fine (k := k) (by rw [HH.out]; exact he) (by rw [HH.out]; exact hkk) (by rw [HN.out, HNn.out]; exact HN60.out) (by rw [HN.out, HNn.out, HBs.out, HH.out]; show (firstBad true R.2.1 R.1 bs 61 0).2 = 0; rw [HFb.out, HF0.out]), HH.out, HN.out, HNn.out, HBs.out]
          exact ⟨_, rfl, HQ.out.2.2.1, HQ.out.2.2.2⟩
end
section
open Go.RowKit Go.Shelf
set_option maxRecDepth 100000 in
set_option maxHeartbeats 1000000 in
/-- The body is not too long. -/
theorem RParse_rest_word (a : Option Addr) (c : Nat) (ts : List Tk) (w : World) (hT : TAt w a ts) (hl : ts.length ≤ 1048576) (hnm : ∀ t ∈ ts, NameIs t.kind t.text.data.toList) (hk : ((tokAt ts 0).kind == 1) = true) (hbu : builtinB (tokAt ts 0).text.toList = false) (hlt1 : 1 < ts.length) (h1 : ((tokAt ts 1).text.toList == [40]) = false) (hm : ts.length - 1 ≤ 60) :
    Calls Tryz.prog 9 #[.slice a ts.length c] w (ParsePost w (parseL ts)) := by
  have hlt0 : 0 < ts.length := by omega
  have HH := hid (head_plain hk hbu (by rw [h1]; rfl))
  have HNs := hid hnm
  have HLet : Hid (∀ p ∈ ([] : List ByteArray), LetS p) := fun p hp => by cases hp
  have HAt := hid (fun (i : Nat) (e0 : Int) W (hW : Below w.heap.size w W) => rat_any a c ts i e0 W (hT.below hW) hl)
  have HS := hid (BadSt.new w)
  have HHas := hid (fun pa pc (ps : List ByteArray) s W (h : StAt W pa ps) (hs : ps.length ≤ 1048576) => RHas_any pa pc ps s W h hs)
  rcases hT with h0 | ⟨bb, off, rfl, hbb, hc⟩
  · rw [h0] at hlt0; simp at hlt0
  have hx := tok_in hlt0
  have c0 := hc 0 _ hx 0 _ rfl
  have c1 := hc 0 _ hx 1 _ rfl
  have hx1 := tok_in hlt1
  have d1 := hc 1 _ hx1 1 _ rfl
  have d2 := hc 1 _ hx1 2 _ rfl
  simp only [Nat.zero_mul, Nat.add_zero, Nat.one_mul] at c0 c1 d1 d2
  obtain ⟨N, hN⟩ : ∃ N, ts.length = N := ⟨_, rfl⟩
  have HN := hid hN
  rw [hN] at HAt hl hlt0 hlt1 hm ⊢
  have hN0 : ((N : Int) == 0) = false := by simp; omega
  have hN1 : (0 : Int) < (N : Int) := by omega
  have hN2 : 0 < N := by omega
  have hN3 : (1 : Int) < (N : Int) := by omega
  have hN4 : 1 < N := by omega
  have hb2 : bb < w.heap.size + 1 := by omega
  have hb3 : bb < w.heap.size + 1 + 1 := by omega
  have hb4 : bb ≠ w.heap.size + 1 + 1 := by omega
  have hb5 : bb ≠ w.heap.size + 1 := by omega
  have hb6 : bb ≠ w.heap.size := by omega
  have hk' : ((tokAt ts 0).kind != 1) = false := by simp [bne, hk]
  have Hbu := hid hbu
  have HCD : Hid (∀ W, Below w.heap.size w W → W.cell? ⟨bb, off + 1, none⟩ = some (.string (tokAt ts 0).text) ∧ W.cell? ⟨bb, off + 11 + 1, none⟩ = some (.string (tokAt ts 1).text) ∧ W.cell? ⟨bb, off + 11 + 2, none⟩ = some (.bool (tokAt ts 1).space)) := fun W hW => ⟨(hW.cell (p := ⟨bb, _, none⟩) hbb).trans c1, (hW.cell (p := ⟨bb, _, none⟩) hbb).trans d1, (hW.cell (p := ⟨bb, _, none⟩) hbb).trans d2⟩
  clear hx1 d1 d2 hlt1
  have HTc : Hid (∀ W, Below w.heap.size w W → ∀ (j : Nat) x, ts[j]? = some x → ∀ (i : Nat) v, (encT x)[i]? = some v → W.cell? ⟨bb, off + j * 11 + i, none⟩ = some v) := fun W hW j x hx i v hv => (hW.cell (p := ⟨bb, _, none⟩) hbb).trans (hc j x hx i v hv)
  clear hbu hc hx hN hnm hlt0
  have HS3 := hid (HS.out.lower ((Below.refl _ _).alloc (Nat.le_refl _) (.cells #[.string ⟨#[95, 95, 76, 73, 78, 69, 95, 95]⟩, .string ⟨#[95, 95, 70, 73, 76, 69, 95, 95]⟩, .string ⟨#[100, 101, 102, 105, 110, 101, 100]⟩] 9)))
  have HSt := hid (three_new ((w.alloc (.cells #[.string ⟨#[]⟩, .bool false, .slice none 0 0, .bool false, .slice none 0 0] 26)).alloc (.cells #[.int .i64 0, .int .i64 0, .int .i64 0] 29)))
  rw [World.size_alloc, World.size_alloc] at HSt
  obtain ⟨k, hkk⟩ : ∃ k, 1 = k := ⟨_, rfl⟩
  rw [hkk] at hm
  have hw1 : IntKind.i64.wrap ((N : Int) - (k : Int)) = (N : Int) - (k : Int) := by rw [IntKind.wrap_i64]; omega
  have hw2 : wrap64 ((N : Int) - (k : Int)) = (N : Int) - (k : Int) := by unfold wrap64; omega
  have hw3 : ¬ (60 : Int) < (N : Int) - (k : Int) := by omega
  subst hkk
  simp only [Int.natCast_one] at hw1 hw2 hw3
  go_enter Tryz.func9, Tryz.ntmps9
  go_wp2_with fail
  refine (HHas.out _ _ builtinS _ _ HSt.out (by decide)).mono ?_
  rintro e w2 ⟨rfl, hb2'⟩
  rw [has_builtin, Hbu.out]
  have HS4 := hid (HS3.out.lower hb2')
  obtain ⟨e1, e2, e3⟩ := HCD.out _ HS4.out.below
  have hbw : bb < w2.heap.size := Nat.lt_of_lt_of_le hbb HS4.out.below.size
  clear hb2' c0 c1 hb2 hb3 hb4 hb5 hb6
  have HT := hid (tail_plain HS4.out (tokAt ts 0).text)
  go_wp2_with fail
  obtain ⟨base, hbase⟩ : ∃ base, w2.heap.size + 1 = base := ⟨_, rfl⟩
  rw [hbase] at HT
  clear hbase
  obtain ⟨ti, hti, htz0, htz1, htz2⟩ := info_parts info_tok
  go_loopw [8] (fun si wr => ∃ (i : Nat) (ba : Option Addr) (bc : Nat), si = .int .i64 (i : Int) ∧ 1 ≤ i ∧ i ≤ N ∧ Hid (TailSt w w2.heap.size base (tokAt ts 0).text false [] false none 0 (bodyL ts 1 (i - 1)) ba bc wr)) (fun si _ => N - (intOf si).toNat)
  case atStart => exact ⟨1, none, 0, rfl, Nat.le_refl _, (by omega), by rw [Nat.sub_self]; exact HT⟩
  case round =>
    clear HT
    obtain ⟨i, ba, bc, rfl, hki, hiN, HS⟩ := hrel
    generalize w2.heap.size = M at *
    have HK60 : Hid (i - 1 ≤ 60) := by show _ ≤ _; omega
    by_cases hlt : i < N
    · obtain ⟨x, hx⟩ : ∃ x, ts[i]? = some x := ⟨_, List.getElem?_eq_getElem (by rw [HN.out]; exact hlt)⟩
      obtain ⟨c0, c1, c2, c3, c4, c5, c6, c7, c8, c9, c10⟩ := tk_cellsP (HTc.out wr HS.out.bad.below i x hx)
      have HX := hid (tokAt_in hx)
      have hii : (i : Int) < (N : Int) := Int.ofNat_lt.2 hlt
      have hi0 : (0 : Int) ≤ (i : Int) := Int.natCast_nonneg _
      obtain ⟨⟨m0, m1, m2, m3, m4⟩, ⟨n0, n1, n2, n3, n4⟩⟩ := HS.out.box.facts
      have hltM := lt_of_block HS.out.box
      have hbr : bb < wr.heap.size := Nat.lt_of_lt_of_le hbb HS.out.bad.below.size
      dsimp only at m0 m1 m2 m3 m4
      rw [bodyL_length] at m4
      clear hx
      rcases hsp : x.space with _ | _
      · rw [hsp] at c2
        have HNB : Hid (bodyL ts 1 (i - 1) ++ [⟨x.kind, x.text, false, false, x.file, x.lo, x.hi, x.line⟩] = bodyL ts 1 (i + 1 - 1)) := by
          show _ = _
          rw [show i + 1 - 1 = (i - 1) + 1 by omega, bodyL_succ, show 1 + (i - 1) = i by omega, HX.out, bodyT_is (i - 1) x false (by rw [hsp, Bool.false_and])]
        have HA := hid (HS.out.lower ((Below.refl _ wr).alloc (Nat.le_refl _) (.cells #[.int .i64 x.kind, .string x.text, .bool false, .bool x.first, .int .i64 x.file, .int .i64 x.lo, .int .i64 x.hi, .int .i64 x.line, .slice none 0 0, .slice none 0 0, .int .i64 0] 43)))
        have HNw := hid (eleven_new (wr.alloc (.cells #[.int .i64 x.kind, .string x.text, .bool false, .bool x.first, .int .i64 x.file, .int .i64 x.lo, .int .i64 x.hi, .int .i64 x.line, .slice none 0 0, .slice none 0 0, .int .i64 0] 43)) ⟨x.kind, x.text, false, false, x.file, x.lo, x.hi, x.line⟩ 43)
        rw [World.size_alloc] at HNw
        unfold encT at HNw
        dsimp only at HNw
        have HOW := hid (HA.out.lower ((Below.refl _ _).alloc (Nat.le_refl _) (.cells #[.int .i64 x.kind, .string x.text, .bool false, .bool false, .int .i64 x.file, .int .i64 x.lo, .int .i64 x.hi, .int .i64 x.line, .slice none 0 0, .slice none 0 0, .int .i64 0] 43)))
        have HRow := hid HOW.out.row
        rw [bodyL_length] at HRow
        clear hsp
        go_wp2_with (at_builtin; refine wpList_append_own _ rfl _ _ 24 rfl base 43 ti _ 11 120 Tryz.underlying24 hti htz0 htz1 htz2 rfl (by decide) _ _ _ rfl HRow.out ⟨wr.heap.size + 1, 0, none⟩ 1 1 (encT ⟨x.kind, x.text, false, false, x.file, x.lo, x.hi, x.line⟩) rfl rfl HNw.out (eleven_one _) (few_max HK60.out) (few_bytes HK60.out) HOW.out.top ?_)
        intro v' w' hown' hg' _
        obtain ⟨a4, c4, rfl⟩ := row_is hown'
        have haf := HOW.out.after hg'
        have s4 := haf.2.1.facts.1.2.2.2.2
        have s9 := haf.2.1.facts.2.2.2.2.2
        have HG := hid (tail_got (k := i - 1) HOW.out haf (bodyL_length _ _ _) ⟨x.kind, x.text, false, false, x.file, x.lo, x.hi, x.line⟩ (by rw [show i - 1 + 1 = i by omega]; exact hown'))
        rw [show i - 1 + 1 = i by omega, HNB.out] at HG
        clear haf hown' hg'
        go_wp2_with fail
        exact ⟨⟨i + 1, a4, c4, nxt_val i, by omega, hlt, HG⟩, less_n hlt (nxt_val i)⟩
      · rw [hsp] at c2
        by_cases hgt : 1 < i
        · have hgi : (1 : Int) < (i : Int) := Int.ofNat_lt.2 hgt
          have HNB : Hid (bodyL ts 1 (i - 1) ++ [⟨x.kind, x.text, true, false, x.file, x.lo, x.hi, x.line⟩] = bodyL ts 1 (i + 1 - 1)) := by
            show _ = _
            rw [show i + 1 - 1 = (i - 1) + 1 by omega, bodyL_succ, show 1 + (i - 1) = i by omega, HX.out, bodyT_is (i - 1) x true (by rw [hsp, decide_eq_true (by omega)]; rfl)]
          have HA := hid (HS.out.lower ((Below.refl _ wr).alloc (Nat.le_refl _) (.cells #[.int .i64 x.kind, .string x.text, .bool true, .bool x.first, .int .i64 x.file, .int .i64 x.lo, .int .i64 x.hi, .int .i64 x.line, .slice none 0 0, .slice none 0 0, .int .i64 0] 43)))
          have HNw := hid (eleven_new (wr.alloc (.cells #[.int .i64 x.kind, .string x.text, .bool true, .bool x.first, .int .i64 x.file, .int .i64 x.lo, .int .i64 x.hi, .int .i64 x.line, .slice none 0 0, .slice none 0 0, .int .i64 0] 43)) ⟨x.kind, x.text, true, false, x.file, x.lo, x.hi, x.line⟩ 43)
          rw [World.size_alloc] at HNw
          unfold encT at HNw
          dsimp only at HNw
          have HOW := hid (HA.out.lower ((Below.refl _ _).alloc (Nat.le_refl _) (.cells #[.int .i64 x.kind, .string x.text, .bool true, .bool false, .int .i64 x.file, .int .i64 x.lo, .int .i64 x.hi, .int .i64 x.line, .slice none 0 0, .slice none 0 0, .int .i64 0] 43)))
          have HRow := hid HOW.out.row
          rw [bodyL_length] at HRow
          clear hsp
          go_wp2_with (at_builtin; refine wpList_append_own _ rfl _ _ 24 rfl base 43 ti _ 11 120 Tryz.underlying24 hti htz0 htz1 htz2 rfl (by decide) _ _ _ rfl HRow.out ⟨wr.heap.size + 1, 0, none⟩ 1 1 (encT ⟨x.kind, x.text, true, false, x.file, x.lo, x.hi, x.line⟩) rfl rfl HNw.out (eleven_one _) (few_max HK60.out) (few_bytes HK60.out) HOW.out.top ?_)
          intro v' w' hown' hg' _
          obtain ⟨a4, c4, rfl⟩ := row_is hown'
          have haf := HOW.out.after hg'
          have s4 := haf.2.1.facts.1.2.2.2.2
          have s9 := haf.2.1.facts.2.2.2.2.2
          have HG := hid (tail_got (k := i - 1) HOW.out haf (bodyL_length _ _ _) ⟨x.kind, x.text, true, false, x.file, x.lo, x.hi, x.line⟩ (by rw [show i - 1 + 1 = i by omega]; exact hown'))
          rw [show i - 1 + 1 = i by omega, HNB.out] at HG
          clear haf hown' hg'
          go_wp2_with fail
          exact ⟨⟨i + 1, a4, c4, nxt_val i, by omega, hlt, HG⟩, less_n hlt (nxt_val i)⟩
        · have hgi : ¬ (1 : Int) < (i : Int) := by omega
          have HNB : Hid (bodyL ts 1 (i - 1) ++ [⟨x.kind, x.text, false, false, x.file, x.lo, x.hi, x.line⟩] = bodyL ts 1 (i + 1 - 1)) := by
            show _ = _
            rw [show i + 1 - 1 = (i - 1) + 1 by omega, bodyL_succ, show 1 + (i - 1) = i by omega, HX.out, bodyT_is (i - 1) x false (by rw [hsp, decide_eq_false (by omega)]; rfl)]
          have HA := hid (HS.out.lower ((Below.refl _ wr).alloc (Nat.le_refl _) (.cells #[.int .i64 x.kind, .string x.text, .bool true, .bool x.first, .int .i64 x.file, .int .i64 x.lo, .int .i64 x.hi, .int .i64 x.line, .slice none 0 0, .slice none 0 0, .int .i64 0] 43)))
          have HNw := hid (eleven_new (wr.alloc (.cells #[.int .i64 x.kind, .string x.text, .bool true, .bool x.first, .int .i64 x.file, .int .i64 x.lo, .int .i64 x.hi, .int .i64 x.line, .slice none 0 0, .slice none 0 0, .int .i64 0] 43)) ⟨x.kind, x.text, false, false, x.file, x.lo, x.hi, x.line⟩ 43)
          rw [World.size_alloc] at HNw
          unfold encT at HNw
          dsimp only at HNw
          have HOW := hid (HA.out.lower ((Below.refl _ _).alloc (Nat.le_refl _) (.cells #[.int .i64 x.kind, .string x.text, .bool false, .bool false, .int .i64 x.file, .int .i64 x.lo, .int .i64 x.hi, .int .i64 x.line, .slice none 0 0, .slice none 0 0, .int .i64 0] 43)))
          have HRow := hid HOW.out.row
          rw [bodyL_length] at HRow
          clear hsp
          go_wp2_with (at_builtin; refine wpList_append_own _ rfl _ _ 24 rfl base 43 ti _ 11 120 Tryz.underlying24 hti htz0 htz1 htz2 rfl (by decide) _ _ _ rfl HRow.out ⟨wr.heap.size + 1, 0, none⟩ 1 1 (encT ⟨x.kind, x.text, false, false, x.file, x.lo, x.hi, x.line⟩) rfl rfl HNw.out (eleven_one _) (few_max HK60.out) (few_bytes HK60.out) HOW.out.top ?_)
          intro v' w' hown' hg' _
          obtain ⟨a4, c4, rfl⟩ := row_is hown'
          have haf := HOW.out.after hg'
          have s4 := haf.2.1.facts.1.2.2.2.2
          have s9 := haf.2.1.facts.2.2.2.2.2
          have HG := hid (tail_got (k := i - 1) HOW.out haf (bodyL_length _ _ _) ⟨x.kind, x.text, false, false, x.file, x.lo, x.hi, x.line⟩ (by rw [show i - 1 + 1 = i by omega]; exact hown'))
          rw [show i - 1 + 1 = i by omega, HNB.out] at HG
          clear haf hown' hg'
          go_wp2_with fail
          exact ⟨⟨i + 1, a4, c4, nxt_val i, by omega, hlt, HG⟩, less_n hlt (nxt_val i)⟩
    · obtain rfl : i = N := by omega
      obtain ⟨n, hnn⟩ : ∃ n, i - 1 = n := ⟨_, rfl⟩
      rw [hnn] at HS HK60
      have HNn := hid hnn
      obtain ⟨bs, hbs⟩ : ∃ bs, bodyL ts 1 n = bs := ⟨_, rfl⟩
      have HLn : Hid (bs.length = n) := by show _ = _; rw [← hbs, bodyL_length]
      rw [hbs] at HS
      have HBs := hid hbs
      have HN60 := HK60
      obtain ⟨Fb, hFb⟩ : ∃ Fb, firstBad false false [] bs 61 0 = Fb := ⟨_, rfl⟩
      have HFb := hid hFb
      obtain ⟨⟨m0, m1, m2, m3, m4⟩, ⟨n0, n1, n2, n3, n4⟩⟩ := HS.out.box.facts
      have hltM := lt_of_block HS.out.box
      dsimp only at m0 m1 m2 m3 m4
      rw [HLn.out] at m4
      have HNm : Hid (∀ t ∈ bs, NameIs t.kind t.text.data.toList) := by
        intro t ht
        rw [← HBs.out, ← HNn.out, ← HN.out] at ht
        exact body_names HNs.out 1 t ht
      have HPb : Hid (∀ (e : Int) {j : Nat}, j < n → Fb = (j, e) → e ≠ 0 → parseL ts = (⟨⟨#[]⟩, false, [], false, []⟩, (e, (tokAt bs j).file, (tokAt bs j).lo))) := by
        intro e j hj hF he0
        rw [parse_badb (k := 1) (j := j) (e := e) (by rw [HH.out]) (by rw [HH.out]) (by rw [HN.out, HNn.out]; exact HN60.out) (by rw [HN.out, HNn.out]; exact hj) (by rw [HN.out, HNn.out, HBs.out, HH.out]; show firstBad false false [] bs 61 0 = _; rw [HFb.out, hF]) he0]
        have e1 : tokAt bs j = bodyT j (tokAt ts (1 + j)) := by rw [← HBs.out]; exact bodyL_at ts 1 n j hj
        rw [e1]
        rfl
      have HAb := hid (fun (j : Nat) (e0 : Int) W (h : TailSt w M base (tokAt ts 0).text false [] false none 0 bs ba bc W) => rat_any ba bc bs j e0 W h.tat (by rw [HLn.out]; exact Nat.le_trans HN60.out (by decide)))
      rw [HLn.out] at HAb
      clear hnn hbs hFb
      go_wp2_with fail
      go_loopw [119] (fun sj wr => ∃ (j f : Nat), sj = .int .i64 (j : Int) ∧ j ≤ n ∧ 61 ≤ f + j ∧ firstBad false false [] bs f j = Fb ∧ Hid (TailSt w M base (tokAt ts 0).text false [] false none 0 bs ba bc wr)) (fun sj _ => n - (intOf sj).toNat)
      case atStart => exact ⟨0, 61, rfl, Nat.zero_le _, by decide, HFb.out, HS⟩
      case round =>
        clear m0 m1 m2 m3 m4 n0 n1 n2 n3 n4 hltM HS
        obtain ⟨j, f, rfl, hjn, hf, hB, HS⟩ := hrel
        have HF := hid hf
        have HB := hid hB
        clear hf hB
        obtain ⟨⟨m0, m1, m2, m3, m4⟩, ⟨n0, n1, n2, n3, n4⟩⟩ := HS.out.box.facts
        have hltM := lt_of_block HS.out.box
        dsimp only at m0 m1 m2 m3 m4
        rw [HLn.out] at m4
        by_cases hlt : j < n
        · obtain ⟨x, hx⟩ : ∃ x, bs[j]? = some x := ⟨_, List.getElem?_eq_getElem (by rw [HLn.out]; exact hlt)⟩
          rcases HS.out.tat with h0 | ⟨b2, o2, rfl, hb2, hc2⟩
          · rw [h0] at hx; cases hx
          obtain ⟨c0, c1, c2, c3, c4, c5, c6, c7, c8, c9, c10⟩ := tk_cellsP (hc2 j x hx)
          have HX := hid (tokAt_in hx)
          have hji : (j : Int) < (n : Int) := Int.ofNat_lt.2 hlt
          have hj0 : (0 : Int) ≤ (j : Int) := Int.natCast_nonneg _
          have hjs : j ≤ 60 := Nat.le_trans hjn HN60.out
          clear hx hc2
          rcases hk5 : (x.kind == 5) with _ | _
          · have hk5' : (x.kind != 5) = true := by simp [bne, hk5]
            rcases hrs : (x.text.toList == restL) with _ | _
            · skip
              have HW : Hid (wrongBd false false [] bs j = 0) := by
                show _ = _
                rw [← rchk_eq (by rw [HLn.out]; exact hlt) HLet.out HNm.out]
                unfold rchk
                rw [HX.out, HLn.out]
                simp [hk5, hrs]
              unfold restL at hrs
              have HS2 := hid (HS.out.lower ((Below.refl _ wr).alloc (Nat.le_refl _) (.cells #[.int .i64 x.kind, .string x.text, .bool x.space, .bool x.first, .int .i64 x.file, .int .i64 x.lo, .int .i64 x.hi, .int .i64 x.line, .slice none 0 0, .slice none 0 0, .int .i64 0] 43)))
              have HXB := hid (heap_alloc_new wr (.cells #[.int .i64 x.kind, .string x.text, .bool x.space, .bool x.first, .int .i64 x.file, .int .i64 x.lo, .int .i64 x.hi, .int .i64 x.line, .slice none 0 0, .slice none 0 0, .int .i64 0] 43))
              go_wp2_with fail
              generalize wr.alloc (.cells #[.int .i64 x.kind, .string x.text, .bool x.space, .bool x.first, .int .i64 x.file, .int .i64 x.lo, .int .i64 x.hi, .int .i64 x.line, .slice none 0 0, .slice none 0 0, .int .i64 0] 43) = wA at HS2 HXB ⊢
              obtain ⟨⟨x0, x1, x2, x3, x4, x5, x6, x7, x8, x9, x10⟩, _⟩ := tok_block HXB.out
              obtain ⟨⟨y0, y1, y2, y3, y4⟩, _⟩ := HS2.out.box.facts
              dsimp only at y0 y1 y2 y3 y4
              rw [HLn.out] at y4
              have hnn : Nonempty (Later wA) := ⟨⟨_, Below.refl _ _⟩⟩
              have r0 := Later.cell x0
              have r1 := Later.cell x1
              have r2 := Later.cell y1
              have r3 := Later.cell y2
              have r4 := Later.cell y4
              clear c0 c1 c2 c3 c4 c5 c6 c7 c8 c9 c10 m0 m1 m2 m3 m4 n0 n1 n2 n3 n4 x0 x1 x2 x3 x4 x5 x6 x7 x8 x9 x10 y0 y1 y2 y3 y4
              refine region_later (by kernel_rfl) (by kernel_rfl) ?_
              repeat (first | go_big_quiet_step (fail) | quiet_step (fail))
              refine wpQuiet_nil ?_
              rintro _ ⟨p, rfl⟩
              have HS3 := hid (HS2.out.lower p.hb)
              have HXC := hid ((p.hb.block _ (lt_of_block HXB.out)).trans HXB.out)
              clear r0 r1 r2 r3 r4 hnn
              generalize p.W = w1 at HS3 HXC ⊢
              obtain ⟨⟨x0, x1, x2, x3, x4, x5, x6, x7, x8, x9, x10⟩, _⟩ := tok_block HXC.out
              obtain ⟨⟨y0, y1, y2, y3, y4⟩, _⟩ := HS3.out.box.facts
              dsimp only at y0 y1 y2 y3 y4
              rw [HLn.out] at y4
              go_wp2_with fail
              exact ⟨⟨j + 1, f - 1, nxt_val j, hlt, fuel_next HF.out (fuel_one HF.out hjn HN60.out), fb_ok HB.out (fuel_one HF.out hjn HN60.out) (by rw [HLn.out]; exact hlt) HW.out, HS3⟩, less_n hlt (nxt_val j)⟩
            · skip
              have HW : Hid (wrongBd false false [] bs j = 7) := by
                show _ = _
                rw [← rchk_eq (by rw [HLn.out]; exact hlt) HLet.out HNm.out]
                unfold rchk
                rw [HX.out, HLn.out]
                simp [hk5, hrs]
              unfold restL at hrs
              have HS2 := hid (HS.out.lower ((Below.refl _ wr).alloc (Nat.le_refl _) (.cells #[.int .i64 x.kind, .string x.text, .bool x.space, .bool x.first, .int .i64 x.file, .int .i64 x.lo, .int .i64 x.hi, .int .i64 x.line, .slice none 0 0, .slice none 0 0, .int .i64 0] 43)))
              have HXB := hid (heap_alloc_new wr (.cells #[.int .i64 x.kind, .string x.text, .bool x.space, .bool x.first, .int .i64 x.file, .int .i64 x.lo, .int .i64 x.hi, .int .i64 x.line, .slice none 0 0, .slice none 0 0, .int .i64 0] 43))
              go_wp2_with fail
              generalize wr.alloc (.cells #[.int .i64 x.kind, .string x.text, .bool x.space, .bool x.first, .int .i64 x.file, .int .i64 x.lo, .int .i64 x.hi, .int .i64 x.line, .slice none 0 0, .slice none 0 0, .int .i64 0] 43) = wA at HS2 HXB ⊢
              obtain ⟨⟨x0, x1, x2, x3, x4, x5, x6, x7, x8, x9, x10⟩, _⟩ := tok_block HXB.out
              obtain ⟨⟨y0, y1, y2, y3, y4⟩, _⟩ := HS2.out.box.facts
              dsimp only at y0 y1 y2 y3 y4
              rw [HLn.out] at y4
              have hnn : Nonempty (Later wA) := ⟨⟨_, Below.refl _ _⟩⟩
              have r0 := Later.cell x0
              have r1 := Later.cell x1
              have r2 := Later.cell y1
              have r3 := Later.cell y2
              have r4 := Later.cell y4
              clear c0 c1 c2 c3 c4 c5 c6 c7 c8 c9 c10 m0 m1 m2 m3 m4 n0 n1 n2 n3 n4 x0 x1 x2 x3 x4 x5 x6 x7 x8 x9 x10 y0 y1 y2 y3 y4
              refine region_later (by kernel_rfl) (by kernel_rfl) ?_
              repeat (first | go_big_quiet_step (fail) | quiet_step (fail))
              refine wpQuiet_nil ?_
              rintro _ ⟨p, rfl⟩
              have HS3 := hid (HS2.out.lower p.hb)
              have HXC := hid ((p.hb.block _ (lt_of_block HXB.out)).trans HXB.out)
              clear r0 r1 r2 r3 r4 hnn
              generalize p.W = w1 at HS3 HXC ⊢
              obtain ⟨⟨x0, x1, x2, x3, x4, x5, x6, x7, x8, x9, x10⟩, _⟩ := tok_block HXC.out
              obtain ⟨⟨y0, y1, y2, y3, y4⟩, _⟩ := HS3.out.box.facts
              dsimp only at y0 y1 y2 y3 y4
              rw [HLn.out] at y4
              go_wp2_with fail
              refine (HAb.out j 7 _ HS3.out).mono ?_
              rintro e w5 ⟨rfl, hb5⟩
              have HS5 := hid (HS3.out.bad.lower hb5)
              clear hb5
              obtain ⟨z0, z1, z2, z3, z4, z5⟩ := HS5.out.flt.facts
              obtain ⟨⟨p0, p1, p2, p3, p4⟩, ⟨q0, q1, q2, q3, q4⟩⟩ := HS5.out.box.facts
              dsimp only at p0 p1 p2 p3 p4
              go_wp2_with fail
              all_goals (have HQ := hid (HS5.out.stored 7 (tokAt bs j).file (tokAt bs j).lo))
              all_goals exact bodyPost_ret (rparse_ret HQ.out.1 HQ.out.2.1 _ rfl rfl) rfl (bad_post HQ.out.2.2 (HPb.out _ hlt ((fb_bad HB.out (fuel_one HF.out hjn HN60.out) (by rw [HLn.out]; exact hlt) (by rw [HW.out]; decide)).trans (by rw [HW.out])) (by decide)))
          · have hk5' : (x.kind != 5) = false := by simp [bne, hk5]
            rcases hdd : (x.text.toList == [35, 35]) with _ | _
            · rcases hd : (x.text.toList == [35]) with _ | _
              · skip
                have HW : Hid (wrongBd false false [] bs j = 0) := by
                  show _ = _
                  rw [← rchk_eq (by rw [HLn.out]; exact hlt) HLet.out HNm.out]
                  unfold rchk
                  rw [HX.out, HLn.out]
                  simp [hk5, hdd, hd]
                have HS2 := hid (HS.out.lower ((Below.refl _ wr).alloc (Nat.le_refl _) (.cells #[.int .i64 x.kind, .string x.text, .bool x.space, .bool x.first, .int .i64 x.file, .int .i64 x.lo, .int .i64 x.hi, .int .i64 x.line, .slice none 0 0, .slice none 0 0, .int .i64 0] 43)))
                have HXB := hid (heap_alloc_new wr (.cells #[.int .i64 x.kind, .string x.text, .bool x.space, .bool x.first, .int .i64 x.file, .int .i64 x.lo, .int .i64 x.hi, .int .i64 x.line, .slice none 0 0, .slice none 0 0, .int .i64 0] 43))
                go_wp2_with fail
                generalize wr.alloc (.cells #[.int .i64 x.kind, .string x.text, .bool x.space, .bool x.first, .int .i64 x.file, .int .i64 x.lo, .int .i64 x.hi, .int .i64 x.line, .slice none 0 0, .slice none 0 0, .int .i64 0] 43) = wA at HS2 HXB ⊢
                obtain ⟨⟨x0, x1, x2, x3, x4, x5, x6, x7, x8, x9, x10⟩, _⟩ := tok_block HXB.out
                obtain ⟨⟨y0, y1, y2, y3, y4⟩, _⟩ := HS2.out.box.facts
                dsimp only at y0 y1 y2 y3 y4
                rw [HLn.out] at y4
                have hnn : Nonempty (Later wA) := ⟨⟨_, Below.refl _ _⟩⟩
                have r0 := Later.cell x0
                have r1 := Later.cell x1
                have r2 := Later.cell y1
                have r3 := Later.cell y2
                have r4 := Later.cell y4
                clear c0 c1 c2 c3 c4 c5 c6 c7 c8 c9 c10 m0 m1 m2 m3 m4 n0 n1 n2 n3 n4 x0 x1 x2 x3 x4 x5 x6 x7 x8 x9 x10 y0 y1 y2 y3 y4
                refine region_later (by kernel_rfl) (by kernel_rfl) ?_
                repeat (first | go_big_quiet_step (fail) | quiet_step (fail))
                refine wpQuiet_nil ?_
                rintro _ ⟨p, rfl⟩
                have HS3 := hid (HS2.out.lower p.hb)
                have HXC := hid ((p.hb.block _ (lt_of_block HXB.out)).trans HXB.out)
                clear r0 r1 r2 r3 r4 hnn
                generalize p.W = w1 at HS3 HXC ⊢
                obtain ⟨⟨x0, x1, x2, x3, x4, x5, x6, x7, x8, x9, x10⟩, _⟩ := tok_block HXC.out
                obtain ⟨⟨y0, y1, y2, y3, y4⟩, _⟩ := HS3.out.box.facts
                dsimp only at y0 y1 y2 y3 y4
                rw [HLn.out] at y4
                go_wp2_with fail
                exact ⟨⟨j + 1, f - 1, nxt_val j, hlt, fuel_next HF.out (fuel_one HF.out hjn HN60.out), fb_ok HB.out (fuel_one HF.out hjn HN60.out) (by rw [HLn.out]; exact hlt) HW.out, HS3⟩, less_n hlt (nxt_val j)⟩
              · skip
                have HW : Hid (wrongBd false false [] bs j = 0) := by
                  show _ = _
                  rw [← rchk_eq (by rw [HLn.out]; exact hlt) HLet.out HNm.out]
                  unfold rchk
                  rw [HX.out, HLn.out]
                  simp [hk5, hdd, hd]
                have HS2 := hid (HS.out.lower ((Below.refl _ wr).alloc (Nat.le_refl _) (.cells #[.int .i64 x.kind, .string x.text, .bool x.space, .bool x.first, .int .i64 x.file, .int .i64 x.lo, .int .i64 x.hi, .int .i64 x.line, .slice none 0 0, .slice none 0 0, .int .i64 0] 43)))
                have HXB := hid (heap_alloc_new wr (.cells #[.int .i64 x.kind, .string x.text, .bool x.space, .bool x.first, .int .i64 x.file, .int .i64 x.lo, .int .i64 x.hi, .int .i64 x.line, .slice none 0 0, .slice none 0 0, .int .i64 0] 43))
                go_wp2_with fail
                generalize wr.alloc (.cells #[.int .i64 x.kind, .string x.text, .bool x.space, .bool x.first, .int .i64 x.file, .int .i64 x.lo, .int .i64 x.hi, .int .i64 x.line, .slice none 0 0, .slice none 0 0, .int .i64 0] 43) = wA at HS2 HXB ⊢
                obtain ⟨⟨x0, x1, x2, x3, x4, x5, x6, x7, x8, x9, x10⟩, _⟩ := tok_block HXB.out
                obtain ⟨⟨y0, y1, y2, y3, y4⟩, _⟩ := HS2.out.box.facts
                dsimp only at y0 y1 y2 y3 y4
                rw [HLn.out] at y4
                have hnn : Nonempty (Later wA) := ⟨⟨_, Below.refl _ _⟩⟩
                have r0 := Later.cell x0
                have r1 := Later.cell x1
                have r2 := Later.cell y1
                have r3 := Later.cell y2
                have r4 := Later.cell y4
                clear c0 c1 c2 c3 c4 c5 c6 c7 c8 c9 c10 m0 m1 m2 m3 m4 n0 n1 n2 n3 n4 x0 x1 x2 x3 x4 x5 x6 x7 x8 x9 x10 y0 y1 y2 y3 y4
                refine region_later (by kernel_rfl) (by kernel_rfl) ?_
                repeat (first | go_big_quiet_step (fail) | quiet_step (fail))
                refine wpQuiet_nil ?_
                rintro _ ⟨p, rfl⟩
                have HS3 := hid (HS2.out.lower p.hb)
                have HXC := hid ((p.hb.block _ (lt_of_block HXB.out)).trans HXB.out)
                clear r0 r1 r2 r3 r4 hnn
                generalize p.W = w1 at HS3 HXC ⊢
                obtain ⟨⟨x0, x1, x2, x3, x4, x5, x6, x7, x8, x9, x10⟩, _⟩ := tok_block HXC.out
                obtain ⟨⟨y0, y1, y2, y3, y4⟩, _⟩ := HS3.out.box.facts
                dsimp only at y0 y1 y2 y3 y4
                rw [HLn.out] at y4
                go_wp2_with fail
                exact ⟨⟨j + 1, f - 1, nxt_val j, hlt, fuel_next HF.out (fuel_one HF.out hjn HN60.out), fb_ok HB.out (fuel_one HF.out hjn HN60.out) (by rw [HLn.out]; exact hlt) HW.out, HS3⟩, less_n hlt (nxt_val j)⟩
            · have hd : (x.text.toList == [35]) = false := by rw [eq_of_beq hdd]; decide
              by_cases hj00 : j = 0
              · skip
                have HW : Hid (wrongBd false false [] bs j = 2) := by
                  show _ = _
                  rw [← rchk_eq (by rw [HLn.out]; exact hlt) HLet.out HNm.out]
                  unfold rchk
                  rw [HX.out, HLn.out]
                  simp [hk5, hdd, hj00]
                have hj00' : ((j : Int) == 0) = true := by simp; omega
                clear hj00
                have HS2 := hid (HS.out.lower ((Below.refl _ wr).alloc (Nat.le_refl _) (.cells #[.int .i64 x.kind, .string x.text, .bool x.space, .bool x.first, .int .i64 x.file, .int .i64 x.lo, .int .i64 x.hi, .int .i64 x.line, .slice none 0 0, .slice none 0 0, .int .i64 0] 43)))
                have HXB := hid (heap_alloc_new wr (.cells #[.int .i64 x.kind, .string x.text, .bool x.space, .bool x.first, .int .i64 x.file, .int .i64 x.lo, .int .i64 x.hi, .int .i64 x.line, .slice none 0 0, .slice none 0 0, .int .i64 0] 43))
                go_wp2_with fail
                refine (HAb.out j 2 _ HS2.out).mono ?_
                rintro e w5 ⟨rfl, hb5⟩
                have HS5 := hid (HS2.out.bad.lower hb5)
                clear hb5
                obtain ⟨z0, z1, z2, z3, z4, z5⟩ := HS5.out.flt.facts
                obtain ⟨⟨p0, p1, p2, p3, p4⟩, ⟨q0, q1, q2, q3, q4⟩⟩ := HS5.out.box.facts
                dsimp only at p0 p1 p2 p3 p4
                go_wp2_with fail
                all_goals (have HQ := hid (HS5.out.stored 2 (tokAt bs j).file (tokAt bs j).lo))
                all_goals exact bodyPost_ret (rparse_ret HQ.out.1 HQ.out.2.1 _ rfl rfl) rfl (bad_post HQ.out.2.2 (HPb.out _ hlt ((fb_bad HB.out (fuel_one HF.out hjn HN60.out) (by rw [HLn.out]; exact hlt) (by rw [HW.out]; decide)).trans (by rw [HW.out])) (by decide)))
              · have hj00' : ((j : Int) == 0) = false := by simp; omega
                by_cases hje : j + 1 = n
                · skip
                  have HW : Hid (wrongBd false false [] bs j = 2) := by
                    show _ = _
                    rw [← rchk_eq (by rw [HLn.out]; exact hlt) HLet.out HNm.out]
                    unfold rchk
                    rw [HX.out, HLn.out]
                    simp [hk5, hdd, hje]
                  have hje' : ((j : Int) + 1 == (n : Int)) = true := by simp; omega
                  clear hje hj00
                  have HS2 := hid (HS.out.lower ((Below.refl _ wr).alloc (Nat.le_refl _) (.cells #[.int .i64 x.kind, .string x.text, .bool x.space, .bool x.first, .int .i64 x.file, .int .i64 x.lo, .int .i64 x.hi, .int .i64 x.line, .slice none 0 0, .slice none 0 0, .int .i64 0] 43)))
                  have HXB := hid (heap_alloc_new wr (.cells #[.int .i64 x.kind, .string x.text, .bool x.space, .bool x.first, .int .i64 x.file, .int .i64 x.lo, .int .i64 x.hi, .int .i64 x.line, .slice none 0 0, .slice none 0 0, .int .i64 0] 43))
                  go_wp2_with fail
                  refine (HAb.out j 2 _ HS2.out).mono ?_
                  rintro e w5 ⟨rfl, hb5⟩
                  have HS5 := hid (HS2.out.bad.lower hb5)
                  clear hb5
                  obtain ⟨z0, z1, z2, z3, z4, z5⟩ := HS5.out.flt.facts
                  obtain ⟨⟨p0, p1, p2, p3, p4⟩, ⟨q0, q1, q2, q3, q4⟩⟩ := HS5.out.box.facts
                  dsimp only at p0 p1 p2 p3 p4
                  go_wp2_with fail
                  all_goals (have HQ := hid (HS5.out.stored 2 (tokAt bs j).file (tokAt bs j).lo))
                  all_goals exact bodyPost_ret (rparse_ret HQ.out.1 HQ.out.2.1 _ rfl rfl) rfl (bad_post HQ.out.2.2 (HPb.out _ hlt ((fb_bad HB.out (fuel_one HF.out hjn HN60.out) (by rw [HLn.out]; exact hlt) (by rw [HW.out]; decide)).trans (by rw [HW.out])) (by decide)))
                · skip
                  have HW : Hid (wrongBd false false [] bs j = 0) := by
                    show _ = _
                    rw [← rchk_eq (by rw [HLn.out]; exact hlt) HLet.out HNm.out]
                    unfold rchk
                    rw [HX.out, HLn.out]
                    simp [hk5, hdd, hd, hj00, hje]
                  have hje' : ((j : Int) + 1 == (n : Int)) = false := by simp; omega
                  clear hje hj00
                  have HS2 := hid (HS.out.lower ((Below.refl _ wr).alloc (Nat.le_refl _) (.cells #[.int .i64 x.kind, .string x.text, .bool x.space, .bool x.first, .int .i64 x.file, .int .i64 x.lo, .int .i64 x.hi, .int .i64 x.line, .slice none 0 0, .slice none 0 0, .int .i64 0] 43)))
                  have HXB := hid (heap_alloc_new wr (.cells #[.int .i64 x.kind, .string x.text, .bool x.space, .bool x.first, .int .i64 x.file, .int .i64 x.lo, .int .i64 x.hi, .int .i64 x.line, .slice none 0 0, .slice none 0 0, .int .i64 0] 43))
                  go_wp2_with fail
                  generalize wr.alloc (.cells #[.int .i64 x.kind, .string x.text, .bool x.space, .bool x.first, .int .i64 x.file, .int .i64 x.lo, .int .i64 x.hi, .int .i64 x.line, .slice none 0 0, .slice none 0 0, .int .i64 0] 43) = wA at HS2 HXB ⊢
                  obtain ⟨⟨x0, x1, x2, x3, x4, x5, x6, x7, x8, x9, x10⟩, _⟩ := tok_block HXB.out
                  obtain ⟨⟨y0, y1, y2, y3, y4⟩, _⟩ := HS2.out.box.facts
                  dsimp only at y0 y1 y2 y3 y4
                  rw [HLn.out] at y4
                  have hnn : Nonempty (Later wA) := ⟨⟨_, Below.refl _ _⟩⟩
                  have r0 := Later.cell x0
                  have r1 := Later.cell x1
                  have r2 := Later.cell y1
                  have r3 := Later.cell y2
                  have r4 := Later.cell y4
                  clear c0 c1 c2 c3 c4 c5 c6 c7 c8 c9 c10 m0 m1 m2 m3 m4 n0 n1 n2 n3 n4 x0 x1 x2 x3 x4 x5 x6 x7 x8 x9 x10 y0 y1 y2 y3 y4
                  refine region_later (by kernel_rfl) (by kernel_rfl) ?_
                  repeat (first | go_big_quiet_step (fail) | quiet_step (fail))
                  refine wpQuiet_nil ?_
                  rintro _ ⟨p, rfl⟩
                  have HS3 := hid (HS2.out.lower p.hb)
                  have HXC := hid ((p.hb.block _ (lt_of_block HXB.out)).trans HXB.out)
                  clear r0 r1 r2 r3 r4 hnn
                  generalize p.W = w1 at HS3 HXC ⊢
                  obtain ⟨⟨x0, x1, x2, x3, x4, x5, x6, x7, x8, x9, x10⟩, _⟩ := tok_block HXC.out
                  obtain ⟨⟨y0, y1, y2, y3, y4⟩, _⟩ := HS3.out.box.facts
                  dsimp only at y0 y1 y2 y3 y4
                  rw [HLn.out] at y4
                  go_wp2_with fail
                  exact ⟨⟨j + 1, f - 1, nxt_val j, hlt, fuel_next HF.out (fuel_one HF.out hjn HN60.out), fb_ok HB.out (fuel_one HF.out hjn HN60.out) (by rw [HLn.out]; exact hlt) HW.out, HS3⟩, less_n hlt (nxt_val j)⟩
        · have hlt' : ¬ (j : Int) < (n : Int) := by omega
          obtain ⟨z0, z1, z2, z3, z4, z5⟩ := HS.out.bad.flt.facts
          obtain ⟨⟨p0, p1, p2, p3, p4⟩, ⟨q0, q1, q2, q3, q4⟩⟩ := HS.out.bad.box.facts
          dsimp only at p0 p1 p2 p3 p4
          have hA1 : w.heap.size ≠ M := by have := HS.out.lo; omega
          have hA2 : w.heap.size + 1 ≠ M := by have := HS.out.lo; omega
          have HF0 := hid (fb_end HB.out (fuel_one HF.out hjn HN60.out) (by rw [HLn.out]; exact hlt))
          go_wp2_with fail
          have HQ := hid (HS.out.good _ rfl)
          rw [HLn.out] at HQ
          refine bodyPost_ret (rparse_ret HQ.out.1 HQ.out.2.1 _ rfl rfl) rfl ?_
          rw [parse_fine (k := 1) (by rw [HH.out]) (by rw [HH.out]) (by rw [HN.out, HNn.out]; exact HN60.out) (by rw [HN.out, HNn.out, HBs.out, HH.out]; show (firstBad false false [] bs 61 0).2 = 0; rw [HFb.out, HF0.out]), HH.out, HN.out, HNn.out, HBs.out]
          exact ⟨_, rfl, HQ.out.2.2.1, HQ.out.2.2.2⟩
end
section
open Go.RowKit Go.Shelf
set_option maxRecDepth 100000 in
set_option maxHeartbeats 1000000 in
/-- The body is not too long. -/
theorem RParse_rest_apart (a : Option Addr) (c : Nat) (ts : List Tk) (w : World) (hT : TAt w a ts) (hl : ts.length ≤ 1048576) (hnm : ∀ t ∈ ts, NameIs t.kind t.text.data.toList) (hk : ((tokAt ts 0).kind == 1) = true) (hbu : builtinB (tokAt ts 0).text.toList = false) (h1 : ((tokAt ts 1).text.toList == [40]) = true) (h2 : (tokAt ts 1).space = true) (hm : ts.length - 1 ≤ 60) :
    Calls Tryz.prog 9 #[.slice a ts.length c] w (ParsePost w (parseL ts)) := by
  have hlt1 : 1 < ts.length := tok_there h1
  have hlt0 : 0 < ts.length := by omega
  have HH := hid (head_plain hk hbu (by rw [h2]; simp))
  have HNs := hid hnm
  have HLet : Hid (∀ p ∈ ([] : List ByteArray), LetS p) := fun p hp => by cases hp
  have HAt := hid (fun (i : Nat) (e0 : Int) W (hW : Below w.heap.size w W) => rat_any a c ts i e0 W (hT.below hW) hl)
  have HS := hid (BadSt.new w)
  have HHas := hid (fun pa pc (ps : List ByteArray) s W (h : StAt W pa ps) (hs : ps.length ≤ 1048576) => RHas_any pa pc ps s W h hs)
  rcases hT with h0 | ⟨bb, off, rfl, hbb, hc⟩
  · rw [h0] at hlt0; simp at hlt0
  have hx := tok_in hlt0
  have c0 := hc 0 _ hx 0 _ rfl
  have c1 := hc 0 _ hx 1 _ rfl
  have hx1 := tok_in hlt1
  have d1 := hc 1 _ hx1 1 _ rfl
  have d2 := hc 1 _ hx1 2 _ rfl
  simp only [Nat.zero_mul, Nat.add_zero, Nat.one_mul] at c0 c1 d1 d2
  obtain ⟨N, hN⟩ : ∃ N, ts.length = N := ⟨_, rfl⟩
  have HN := hid hN
  rw [hN] at HAt hl hlt0 hlt1 hm ⊢
  have hN0 : ((N : Int) == 0) = false := by simp; omega
  have hN1 : (0 : Int) < (N : Int) := by omega
  have hN2 : 0 < N := by omega
  have hN3 : (1 : Int) < (N : Int) := by omega
  have hN4 : 1 < N := by omega
  have hb2 : bb < w.heap.size + 1 := by omega
  have hb3 : bb < w.heap.size + 1 + 1 := by omega
  have hb4 : bb ≠ w.heap.size + 1 + 1 := by omega
  have hb5 : bb ≠ w.heap.size + 1 := by omega
  have hb6 : bb ≠ w.heap.size := by omega
  have hk' : ((tokAt ts 0).kind != 1) = false := by simp [bne, hk]
  have Hbu := hid hbu
  have HCD : Hid (∀ W, Below w.heap.size w W → W.cell? ⟨bb, off + 1, none⟩ = some (.string (tokAt ts 0).text) ∧ W.cell? ⟨bb, off + 11 + 1, none⟩ = some (.string (tokAt ts 1).text) ∧ W.cell? ⟨bb, off + 11 + 2, none⟩ = some (.bool (tokAt ts 1).space)) := fun W hW => ⟨(hW.cell (p := ⟨bb, _, none⟩) hbb).trans c1, (hW.cell (p := ⟨bb, _, none⟩) hbb).trans d1, (hW.cell (p := ⟨bb, _, none⟩) hbb).trans d2⟩
  clear hx1 d1 d2 hlt1
  have HTc : Hid (∀ W, Below w.heap.size w W → ∀ (j : Nat) x, ts[j]? = some x → ∀ (i : Nat) v, (encT x)[i]? = some v → W.cell? ⟨bb, off + j * 11 + i, none⟩ = some v) := fun W hW j x hx i v hv => (hW.cell (p := ⟨bb, _, none⟩) hbb).trans (hc j x hx i v hv)
  clear hbu hc hx hN hnm hlt0
  have HS3 := hid (HS.out.lower ((Below.refl _ _).alloc (Nat.le_refl _) (.cells #[.string ⟨#[95, 95, 76, 73, 78, 69, 95, 95]⟩, .string ⟨#[95, 95, 70, 73, 76, 69, 95, 95]⟩, .string ⟨#[100, 101, 102, 105, 110, 101, 100]⟩] 9)))
  have HSt := hid (three_new ((w.alloc (.cells #[.string ⟨#[]⟩, .bool false, .slice none 0 0, .bool false, .slice none 0 0] 26)).alloc (.cells #[.int .i64 0, .int .i64 0, .int .i64 0] 29)))
  rw [World.size_alloc, World.size_alloc] at HSt
  obtain ⟨k, hkk⟩ : ∃ k, 1 = k := ⟨_, rfl⟩
  rw [hkk] at hm
  have hw1 : IntKind.i64.wrap ((N : Int) - (k : Int)) = (N : Int) - (k : Int) := by rw [IntKind.wrap_i64]; omega
  have hw2 : wrap64 ((N : Int) - (k : Int)) = (N : Int) - (k : Int) := by unfold wrap64; omega
  have hw3 : ¬ (60 : Int) < (N : Int) - (k : Int) := by omega
  subst hkk
  simp only [Int.natCast_one] at hw1 hw2 hw3
  go_enter Tryz.func9, Tryz.ntmps9
  go_wp2_with fail
  refine (HHas.out _ _ builtinS _ _ HSt.out (by decide)).mono ?_
  rintro e w2 ⟨rfl, hb2'⟩
  rw [has_builtin, Hbu.out]
  have HS4 := hid (HS3.out.lower hb2')
  obtain ⟨e1, e2, e3⟩ := HCD.out _ HS4.out.below
  have hbw : bb < w2.heap.size := Nat.lt_of_lt_of_le hbb HS4.out.below.size
  clear hb2' c0 c1 hb2 hb3 hb4 hb5 hb6
  rw [h2] at e3
  have HT := hid (tail_plain HS4.out (tokAt ts 0).text)
  go_wp2_with fail
  obtain ⟨base, hbase⟩ : ∃ base, w2.heap.size + 1 = base := ⟨_, rfl⟩
  rw [hbase] at HT
  clear hbase
  obtain ⟨ti, hti, htz0, htz1, htz2⟩ := info_parts info_tok
  go_loopw [8] (fun si wr => ∃ (i : Nat) (ba : Option Addr) (bc : Nat), si = .int .i64 (i : Int) ∧ 1 ≤ i ∧ i ≤ N ∧ Hid (TailSt w w2.heap.size base (tokAt ts 0).text false [] false none 0 (bodyL ts 1 (i - 1)) ba bc wr)) (fun si _ => N - (intOf si).toNat)
  case atStart => exact ⟨1, none, 0, rfl, Nat.le_refl _, (by omega), by rw [Nat.sub_self]; exact HT⟩
  case round =>
    clear HT
    obtain ⟨i, ba, bc, rfl, hki, hiN, HS⟩ := hrel
    generalize w2.heap.size = M at *
    have HK60 : Hid (i - 1 ≤ 60) := by show _ ≤ _; omega
    by_cases hlt : i < N
    · obtain ⟨x, hx⟩ : ∃ x, ts[i]? = some x := ⟨_, List.getElem?_eq_getElem (by rw [HN.out]; exact hlt)⟩
      obtain ⟨c0, c1, c2, c3, c4, c5, c6, c7, c8, c9, c10⟩ := tk_cellsP (HTc.out wr HS.out.bad.below i x hx)
      have HX := hid (tokAt_in hx)
      have hii : (i : Int) < (N : Int) := Int.ofNat_lt.2 hlt
      have hi0 : (0 : Int) ≤ (i : Int) := Int.natCast_nonneg _
      obtain ⟨⟨m0, m1, m2, m3, m4⟩, ⟨n0, n1, n2, n3, n4⟩⟩ := HS.out.box.facts
      have hltM := lt_of_block HS.out.box
      have hbr : bb < wr.heap.size := Nat.lt_of_lt_of_le hbb HS.out.bad.below.size
      dsimp only at m0 m1 m2 m3 m4
      rw [bodyL_length] at m4
      clear hx
      rcases hsp : x.space with _ | _
      · rw [hsp] at c2
        have HNB : Hid (bodyL ts 1 (i - 1) ++ [⟨x.kind, x.text, false, false, x.file, x.lo, x.hi, x.line⟩] = bodyL ts 1 (i + 1 - 1)) := by
          show _ = _
          rw [show i + 1 - 1 = (i - 1) + 1 by omega, bodyL_succ, show 1 + (i - 1) = i by omega, HX.out, bodyT_is (i - 1) x false (by rw [hsp, Bool.false_and])]
        have HA := hid (HS.out.lower ((Below.refl _ wr).alloc (Nat.le_refl _) (.cells #[.int .i64 x.kind, .string x.text, .bool false, .bool x.first, .int .i64 x.file, .int .i64 x.lo, .int .i64 x.hi, .int .i64 x.line, .slice none 0 0, .slice none 0 0, .int .i64 0] 43)))
        have HNw := hid (eleven_new (wr.alloc (.cells #[.int .i64 x.kind, .string x.text, .bool false, .bool x.first, .int .i64 x.file, .int .i64 x.lo, .int .i64 x.hi, .int .i64 x.line, .slice none 0 0, .slice none 0 0, .int .i64 0] 43)) ⟨x.kind, x.text, false, false, x.file, x.lo, x.hi, x.line⟩ 43)
        rw [World.size_alloc] at HNw
        unfold encT at HNw
        dsimp only at HNw
        have HOW := hid (HA.out.lower ((Below.refl _ _).alloc (Nat.le_refl _) (.cells #[.int .i64 x.kind, .string x.text, .bool false, .bool false, .int .i64 x.file, .int .i64 x.lo, .int .i64 x.hi, .int .i64 x.line, .slice none 0 0, .slice none 0 0, .int .i64 0] 43)))
        have HRow := hid HOW.out.row
        rw [bodyL_length] at HRow
        clear hsp
        go_wp2_with (at_builtin; refine wpList_append_own _ rfl _ _ 24 rfl base 43 ti _ 11 120 Tryz.underlying24 hti htz0 htz1 htz2 rfl (by decide) _ _ _ rfl HRow.out ⟨wr.heap.size + 1, 0, none⟩ 1 1 (encT ⟨x.kind, x.text, false, false, x.file, x.lo, x.hi, x.line⟩) rfl rfl HNw.out (eleven_one _) (few_max HK60.out) (few_bytes HK60.out) HOW.out.top ?_)
        intro v' w' hown' hg' _
        obtain ⟨a4, c4, rfl⟩ := row_is hown'
        have haf := HOW.out.after hg'
        have s4 := haf.2.1.facts.1.2.2.2.2
        have s9 := haf.2.1.facts.2.2.2.2.2
        have HG := hid (tail_got (k := i - 1) HOW.out haf (bodyL_length _ _ _) ⟨x.kind, x.text, false, false, x.file, x.lo, x.hi, x.line⟩ (by rw [show i - 1 + 1 = i by omega]; exact hown'))
        rw [show i - 1 + 1 = i by omega, HNB.out] at HG
        clear haf hown' hg'
        go_wp2_with fail
        exact ⟨⟨i + 1, a4, c4, nxt_val i, by omega, hlt, HG⟩, less_n hlt (nxt_val i)⟩
      · rw [hsp] at c2
        by_cases hgt : 1 < i
        · have hgi : (1 : Int) < (i : Int) := Int.ofNat_lt.2 hgt
          have HNB : Hid (bodyL ts 1 (i - 1) ++ [⟨x.kind, x.text, true, false, x.file, x.lo, x.hi, x.line⟩] = bodyL ts 1 (i + 1 - 1)) := by
            show _ = _
            rw [show i + 1 - 1 = (i - 1) + 1 by omega, bodyL_succ, show 1 + (i - 1) = i by omega, HX.out, bodyT_is (i - 1) x true (by rw [hsp, decide_eq_true (by omega)]; rfl)]
          have HA := hid (HS.out.lower ((Below.refl _ wr).alloc (Nat.le_refl _) (.cells #[.int .i64 x.kind, .string x.text, .bool true, .bool x.first, .int .i64 x.file, .int .i64 x.lo, .int .i64 x.hi, .int .i64 x.line, .slice none 0 0, .slice none 0 0, .int .i64 0] 43)))
          have HNw := hid (eleven_new (wr.alloc (.cells #[.int .i64 x.kind, .string x.text, .bool true, .bool x.first, .int .i64 x.file, .int .i64 x.lo, .int .i64 x.hi, .int .i64 x.line, .slice none 0 0, .slice none 0 0, .int .i64 0] 43)) ⟨x.kind, x.text, true, false, x.file, x.lo, x.hi, x.line⟩ 43)
          rw [World.size_alloc] at HNw
          unfold encT at HNw
          dsimp only at HNw
          have HOW := hid (HA.out.lower ((Below.refl _ _).alloc (Nat.le_refl _) (.cells #[.int .i64 x.kind, .string x.text, .bool true, .bool false, .int .i64 x.file, .int .i64 x.lo, .int .i64 x.hi, .int .i64 x.line, .slice none 0 0, .slice none 0 0, .int .i64 0] 43)))
          have HRow := hid HOW.out.row
          rw [bodyL_length] at HRow
          clear hsp
          go_wp2_with (at_builtin; refine wpList_append_own _ rfl _ _ 24 rfl base 43 ti _ 11 120 Tryz.underlying24 hti htz0 htz1 htz2 rfl (by decide) _ _ _ rfl HRow.out ⟨wr.heap.size + 1, 0, none⟩ 1 1 (encT ⟨x.kind, x.text, true, false, x.file, x.lo, x.hi, x.line⟩) rfl rfl HNw.out (eleven_one _) (few_max HK60.out) (few_bytes HK60.out) HOW.out.top ?_)
          intro v' w' hown' hg' _
          obtain ⟨a4, c4, rfl⟩ := row_is hown'
          have haf := HOW.out.after hg'
          have s4 := haf.2.1.facts.1.2.2.2.2
          have s9 := haf.2.1.facts.2.2.2.2.2
          have HG := hid (tail_got (k := i - 1) HOW.out haf (bodyL_length _ _ _) ⟨x.kind, x.text, true, false, x.file, x.lo, x.hi, x.line⟩ (by rw [show i - 1 + 1 = i by omega]; exact hown'))
          rw [show i - 1 + 1 = i by omega, HNB.out] at HG
          clear haf hown' hg'
          go_wp2_with fail
          exact ⟨⟨i + 1, a4, c4, nxt_val i, by omega, hlt, HG⟩, less_n hlt (nxt_val i)⟩
        · have hgi : ¬ (1 : Int) < (i : Int) := by omega
          have HNB : Hid (bodyL ts 1 (i - 1) ++ [⟨x.kind, x.text, false, false, x.file, x.lo, x.hi, x.line⟩] = bodyL ts 1 (i + 1 - 1)) := by
            show _ = _
            rw [show i + 1 - 1 = (i - 1) + 1 by omega, bodyL_succ, show 1 + (i - 1) = i by omega, HX.out, bodyT_is (i - 1) x false (by rw [hsp, decide_eq_false (by omega)]; rfl)]
          have HA := hid (HS.out.lower ((Below.refl _ wr).alloc (Nat.le_refl _) (.cells #[.int .i64 x.kind, .string x.text, .bool true, .bool x.first, .int .i64 x.file, .int .i64 x.lo, .int .i64 x.hi, .int .i64 x.line, .slice none 0 0, .slice none 0 0, .int .i64 0] 43)))
          have HNw := hid (eleven_new (wr.alloc (.cells #[.int .i64 x.kind, .string x.text, .bool true, .bool x.first, .int .i64 x.file, .int .i64 x.lo, .int .i64 x.hi, .int .i64 x.line, .slice none 0 0, .slice none 0 0, .int .i64 0] 43)) ⟨x.kind, x.text, false, false, x.file, x.lo, x.hi, x.line⟩ 43)
          rw [World.size_alloc] at HNw
          unfold encT at HNw
          dsimp only at HNw
          have HOW := hid (HA.out.lower ((Below.refl _ _).alloc (Nat.le_refl _) (.cells #[.int .i64 x.kind, .string x.text, .bool false, .bool false, .int .i64 x.file, .int .i64 x.lo, .int .i64 x.hi, .int .i64 x.line, .slice none 0 0, .slice none 0 0, .int .i64 0] 43)))
          have HRow := hid HOW.out.row
          rw [bodyL_length] at HRow
          clear hsp
          go_wp2_with (at_builtin; refine wpList_append_own _ rfl _ _ 24 rfl base 43 ti _ 11 120 Tryz.underlying24 hti htz0 htz1 htz2 rfl (by decide) _ _ _ rfl HRow.out ⟨wr.heap.size + 1, 0, none⟩ 1 1 (encT ⟨x.kind, x.text, false, false, x.file, x.lo, x.hi, x.line⟩) rfl rfl HNw.out (eleven_one _) (few_max HK60.out) (few_bytes HK60.out) HOW.out.top ?_)
          intro v' w' hown' hg' _
          obtain ⟨a4, c4, rfl⟩ := row_is hown'
          have haf := HOW.out.after hg'
          have s4 := haf.2.1.facts.1.2.2.2.2
          have s9 := haf.2.1.facts.2.2.2.2.2
          have HG := hid (tail_got (k := i - 1) HOW.out haf (bodyL_length _ _ _) ⟨x.kind, x.text, false, false, x.file, x.lo, x.hi, x.line⟩ (by rw [show i - 1 + 1 = i by omega]; exact hown'))
          rw [show i - 1 + 1 = i by omega, HNB.out] at HG
          clear haf hown' hg'
          go_wp2_with fail
          exact ⟨⟨i + 1, a4, c4, nxt_val i, by omega, hlt, HG⟩, less_n hlt (nxt_val i)⟩
    · obtain rfl : i = N := by omega
      obtain ⟨n, hnn⟩ : ∃ n, i - 1 = n := ⟨_, rfl⟩
      rw [hnn] at HS HK60
      have HNn := hid hnn
      obtain ⟨bs, hbs⟩ : ∃ bs, bodyL ts 1 n = bs := ⟨_, rfl⟩
      have HLn : Hid (bs.length = n) := by show _ = _; rw [← hbs, bodyL_length]
      rw [hbs] at HS
      have HBs := hid hbs
      have HN60 := HK60
      obtain ⟨Fb, hFb⟩ : ∃ Fb, firstBad false false [] bs 61 0 = Fb := ⟨_, rfl⟩
      have HFb := hid hFb
      obtain ⟨⟨m0, m1, m2, m3, m4⟩, ⟨n0, n1, n2, n3, n4⟩⟩ := HS.out.box.facts
      have hltM := lt_of_block HS.out.box
      dsimp only at m0 m1 m2 m3 m4
      rw [HLn.out] at m4
      have HNm : Hid (∀ t ∈ bs, NameIs t.kind t.text.data.toList) := by
        intro t ht
        rw [← HBs.out, ← HNn.out, ← HN.out] at ht
        exact body_names HNs.out 1 t ht
      have HPb : Hid (∀ (e : Int) {j : Nat}, j < n → Fb = (j, e) → e ≠ 0 → parseL ts = (⟨⟨#[]⟩, false, [], false, []⟩, (e, (tokAt bs j).file, (tokAt bs j).lo))) := by
        intro e j hj hF he0
        rw [parse_badb (k := 1) (j := j) (e := e) (by rw [HH.out]) (by rw [HH.out]) (by rw [HN.out, HNn.out]; exact HN60.out) (by rw [HN.out, HNn.out]; exact hj) (by rw [HN.out, HNn.out, HBs.out, HH.out]; show firstBad false false [] bs 61 0 = _; rw [HFb.out, hF]) he0]
        have e1 : tokAt bs j = bodyT j (tokAt ts (1 + j)) := by rw [← HBs.out]; exact bodyL_at ts 1 n j hj
        rw [e1]
        rfl
      have HAb := hid (fun (j : Nat) (e0 : Int) W (h : TailSt w M base (tokAt ts 0).text false [] false none 0 bs ba bc W) => rat_any ba bc bs j e0 W h.tat (by rw [HLn.out]; exact Nat.le_trans HN60.out (by decide)))
      rw [HLn.out] at HAb
      clear hnn hbs hFb
      go_wp2_with fail
      go_loopw [119] (fun sj wr => ∃ (j f : Nat), sj = .int .i64 (j : Int) ∧ j ≤ n ∧ 61 ≤ f + j ∧ firstBad false false [] bs f j = Fb ∧ Hid (TailSt w M base (tokAt ts 0).text false [] false none 0 bs ba bc wr)) (fun sj _ => n - (intOf sj).toNat)
      case atStart => exact ⟨0, 61, rfl, Nat.zero_le _, by decide, HFb.out, HS⟩
      case round =>
        clear m0 m1 m2 m3 m4 n0 n1 n2 n3 n4 hltM HS
        obtain ⟨j, f, rfl, hjn, hf, hB, HS⟩ := hrel
        have HF := hid hf
        have HB := hid hB
        clear hf hB
        obtain ⟨⟨m0, m1, m2, m3, m4⟩, ⟨n0, n1, n2, n3, n4⟩⟩ := HS.out.box.facts
        have hltM := lt_of_block HS.out.box
        dsimp only at m0 m1 m2 m3 m4
        rw [HLn.out] at m4
        by_cases hlt : j < n
        · obtain ⟨x, hx⟩ : ∃ x, bs[j]? = some x := ⟨_, List.getElem?_eq_getElem (by rw [HLn.out]; exact hlt)⟩
          rcases HS.out.tat with h0 | ⟨b2, o2, rfl, hb2, hc2⟩
          · rw [h0] at hx; cases hx
          obtain ⟨c0, c1, c2, c3, c4, c5, c6, c7, c8, c9, c10⟩ := tk_cellsP (hc2 j x hx)
          have HX := hid (tokAt_in hx)
          have hji : (j : Int) < (n : Int) := Int.ofNat_lt.2 hlt
          have hj0 : (0 : Int) ≤ (j : Int) := Int.natCast_nonneg _
          have hjs : j ≤ 60 := Nat.le_trans hjn HN60.out
          clear hx hc2
          rcases hk5 : (x.kind == 5) with _ | _
          · have hk5' : (x.kind != 5) = true := by simp [bne, hk5]
            rcases hrs : (x.text.toList == restL) with _ | _
            · skip
              have HW : Hid (wrongBd false false [] bs j = 0) := by
                show _ = _
                rw [← rchk_eq (by rw [HLn.out]; exact hlt) HLet.out HNm.out]
                unfold rchk
                rw [HX.out, HLn.out]
                simp [hk5, hrs]
              unfold restL at hrs
              have HS2 := hid (HS.out.lower ((Below.refl _ wr).alloc (Nat.le_refl _) (.cells #[.int .i64 x.kind, .string x.text, .bool x.space, .bool x.first, .int .i64 x.file, .int .i64 x.lo, .int .i64 x.hi, .int .i64 x.line, .slice none 0 0, .slice none 0 0, .int .i64 0] 43)))
              have HXB := hid (heap_alloc_new wr (.cells #[.int .i64 x.kind, .string x.text, .bool x.space, .bool x.first, .int .i64 x.file, .int .i64 x.lo, .int .i64 x.hi, .int .i64 x.line, .slice none 0 0, .slice none 0 0, .int .i64 0] 43))
              go_wp2_with fail
              generalize wr.alloc (.cells #[.int .i64 x.kind, .string x.text, .bool x.space, .bool x.first, .int .i64 x.file, .int .i64 x.lo, .int .i64 x.hi, .int .i64 x.line, .slice none 0 0, .slice none 0 0, .int .i64 0] 43) = wA at HS2 HXB ⊢
              obtain ⟨⟨x0, x1, x2, x3, x4, x5, x6, x7, x8, x9, x10⟩, _⟩ := tok_block HXB.out
              obtain ⟨⟨y0, y1, y2, y3, y4⟩, _⟩ := HS2.out.box.facts
              dsimp only at y0 y1 y2 y3 y4
              rw [HLn.out] at y4
              have hnn : Nonempty (Later wA) := ⟨⟨_, Below.refl _ _⟩⟩
              have r0 := Later.cell x0
              have r1 := Later.cell x1
              have r2 := Later.cell y1
              have r3 := Later.cell y2
              have r4 := Later.cell y4
              clear c0 c1 c2 c3 c4 c5 c6 c7 c8 c9 c10 m0 m1 m2 m3 m4 n0 n1 n2 n3 n4 x0 x1 x2 x3 x4 x5 x6 x7 x8 x9 x10 y0 y1 y2 y3 y4
              refine region_later (by kernel_rfl) (by kernel_rfl) ?_
              repeat (first | go_big_quiet_step (fail) | quiet_step (fail))
              refine wpQuiet_nil ?_
              rintro _ ⟨p, rfl⟩
              have HS3 := hid (HS2.out.lower p.hb)
              have HXC := hid ((p.hb.block _ (lt_of_block HXB.out)).trans HXB.out)
              clear r0 r1 r2 r3 r4 hnn
              generalize p.W = w1 at HS3 HXC ⊢
              obtain ⟨⟨x0, x1, x2, x3, x4, x5, x6, x7, x8, x9, x10⟩, _⟩ := tok_block HXC.out
              obtain ⟨⟨y0, y1, y2, y3, y4⟩, _⟩ := HS3.out.box.facts
              dsimp only at y0 y1 y2 y3 y4
              rw [HLn.out] at y4
              go_wp2_with fail
              exact ⟨⟨j + 1, f - 1, nxt_val j, hlt, fuel_next HF.out (fuel_one HF.out hjn HN60.out), fb_ok HB.out (fuel_one HF.out hjn HN60.out) (by rw [HLn.out]; exact hlt) HW.out, HS3⟩, less_n hlt (nxt_val j)⟩
            · skip
              have HW : Hid (wrongBd false false [] bs j = 7) := by
                show _ = _
                rw [← rchk_eq (by rw [HLn.out]; exact hlt) HLet.out HNm.out]
                unfold rchk
                rw [HX.out, HLn.out]
                simp [hk5, hrs]
              unfold restL at hrs
              have HS2 := hid (HS.out.lower ((Below.refl _ wr).alloc (Nat.le_refl _) (.cells #[.int .i64 x.kind, .string x.text, .bool x.space, .bool x.first, .int .i64 x.file, .int .i64 x.lo, .int .i64 x.hi, .int .i64 x.line, .slice none 0 0, .slice none 0 0, .int .i64 0] 43)))
              have HXB := hid (heap_alloc_new wr (.cells #[.int .i64 x.kind, .string x.text, .bool x.space, .bool x.first, .int .i64 x.file, .int .i64 x.lo, .int .i64 x.hi, .int .i64 x.line, .slice none 0 0, .slice none 0 0, .int .i64 0] 43))
              go_wp2_with fail
              generalize wr.alloc (.cells #[.int .i64 x.kind, .string x.text, .bool x.space, .bool x.first, .int .i64 x.file, .int .i64 x.lo, .int .i64 x.hi, .int .i64 x.line, .slice none 0 0, .slice none 0 0, .int .i64 0] 43) = wA at HS2 HXB ⊢
              obtain ⟨⟨x0, x1, x2, x3, x4, x5, x6, x7, x8, x9, x10⟩, _⟩ := tok_block HXB.out
              obtain ⟨⟨y0, y1, y2, y3, y4⟩, _⟩ := HS2.out.box.facts
              dsimp only at y0 y1 y2 y3 y4
              rw [HLn.out] at y4
              have hnn : Nonempty (Later wA) := ⟨⟨_, Below.refl _ _⟩⟩
              have r0 := Later.cell x0
              have r1 := Later.cell x1
              have r2 := Later.cell y1
              have r3 := Later.cell y2
              have r4 := Later.cell y4
              clear c0 c1 c2 c3 c4 c5 c6 c7 c8 c9 c10 m0 m1 m2 m3 m4 n0 n1 n2 n3 n4 x0 x1 x2 x3 x4 x5 x6 x7 x8 x9 x10 y0 y1 y2 y3 y4
              refine region_later (by kernel_rfl) (by kernel_rfl) ?_
              repeat (first | go_big_quiet_step (fail) | quiet_step (fail))
              refine wpQuiet_nil ?_
              rintro _ ⟨p, rfl⟩
              have HS3 := hid (HS2.out.lower p.hb)
              have HXC := hid ((p.hb.block _ (lt_of_block HXB.out)).trans HXB.out)
              clear r0 r1 r2 r3 r4 hnn
              generalize p.W = w1 at HS3 HXC ⊢
              obtain ⟨⟨x0, x1, x2, x3, x4, x5, x6, x7, x8, x9, x10⟩, _⟩ := tok_block HXC.out
              obtain ⟨⟨y0, y1, y2, y3, y4⟩, _⟩ := HS3.out.box.facts
              dsimp only at y0 y1 y2 y3 y4
              rw [HLn.out] at y4
              go_wp2_with fail
              refine (HAb.out j 7 _ HS3.out).mono ?_
              rintro e w5 ⟨rfl, hb5⟩
              have HS5 := hid (HS3.out.bad.lower hb5)
              clear hb5
              obtain ⟨z0, z1, z2, z3, z4, z5⟩ := HS5.out.flt.facts
              obtain ⟨⟨p0, p1, p2, p3, p4⟩, ⟨q0, q1, q2, q3, q4⟩⟩ := HS5.out.box.facts
              dsimp only at p0 p1 p2 p3 p4
              go_wp2_with fail
              all_goals (have HQ := hid (HS5.out.stored 7 (tokAt bs j).file (tokAt bs j).lo))
              all_goals exact bodyPost_ret (rparse_ret HQ.out.1 HQ.out.2.1 _ rfl rfl) rfl (bad_post HQ.out.2.2 (HPb.out _ hlt ((fb_bad HB.out (fuel_one HF.out hjn HN60.out) (by rw [HLn.out]; exact hlt) (by rw [HW.out]; decide)).trans (by rw [HW.out])) (by decide)))
          · have hk5' : (x.kind != 5) = false := by simp [bne, hk5]
            rcases hdd : (x.text.toList == [35, 35]) with _ | _
            · rcases hd : (x.text.toList == [35]) with _ | _
              · skip
                have HW : Hid (wrongBd false false [] bs j = 0) := by
                  show _ = _
                  rw [← rchk_eq (by rw [HLn.out]; exact hlt) HLet.out HNm.out]
                  unfold rchk
                  rw [HX.out, HLn.out]
                  simp [hk5, hdd, hd]
                have HS2 := hid (HS.out.lower ((Below.refl _ wr).alloc (Nat.le_refl _) (.cells #[.int .i64 x.kind, .string x.text, .bool x.space, .bool x.first, .int .i64 x.file, .int .i64 x.lo, .int .i64 x.hi, .int .i64 x.line, .slice none 0 0, .slice none 0 0, .int .i64 0] 43)))
                have HXB := hid (heap_alloc_new wr (.cells #[.int .i64 x.kind, .string x.text, .bool x.space, .bool x.first, .int .i64 x.file, .int .i64 x.lo, .int .i64 x.hi, .int .i64 x.line, .slice none 0 0, .slice none 0 0, .int .i64 0] 43))
                go_wp2_with fail
                generalize wr.alloc (.cells #[.int .i64 x.kind, .string x.text, .bool x.space, .bool x.first, .int .i64 x.file, .int .i64 x.lo, .int .i64 x.hi, .int .i64 x.line, .slice none 0 0, .slice none 0 0, .int .i64 0] 43) = wA at HS2 HXB ⊢
                obtain ⟨⟨x0, x1, x2, x3, x4, x5, x6, x7, x8, x9, x10⟩, _⟩ := tok_block HXB.out
                obtain ⟨⟨y0, y1, y2, y3, y4⟩, _⟩ := HS2.out.box.facts
                dsimp only at y0 y1 y2 y3 y4
                rw [HLn.out] at y4
                have hnn : Nonempty (Later wA) := ⟨⟨_, Below.refl _ _⟩⟩
                have r0 := Later.cell x0
                have r1 := Later.cell x1
                have r2 := Later.cell y1
                have r3 := Later.cell y2
                have r4 := Later.cell y4
                clear c0 c1 c2 c3 c4 c5 c6 c7 c8 c9 c10 m0 m1 m2 m3 m4 n0 n1 n2 n3 n4 x0 x1 x2 x3 x4 x5 x6 x7 x8 x9 x10 y0 y1 y2 y3 y4
                refine region_later (by kernel_rfl) (by kernel_rfl) ?_
                repeat (first | go_big_quiet_step (fail) | quiet_step (fail))
                refine wpQuiet_nil ?_
                rintro _ ⟨p, rfl⟩
                have HS3 := hid (HS2.out.lower p.hb)
                have HXC := hid ((p.hb.block _ (lt_of_block HXB.out)).trans HXB.out)
                clear r0 r1 r2 r3 r4 hnn
                generalize p.W = w1 at HS3 HXC ⊢
                obtain ⟨⟨x0, x1, x2, x3, x4, x5, x6, x7, x8, x9, x10⟩, _⟩ := tok_block HXC.out
                obtain ⟨⟨y0, y1, y2, y3, y4⟩, _⟩ := HS3.out.box.facts
                dsimp only at y0 y1 y2 y3 y4
                rw [HLn.out] at y4
                go_wp2_with fail
                exact ⟨⟨j + 1, f - 1, nxt_val j, hlt, fuel_next HF.out (fuel_one HF.out hjn HN60.out), fb_ok HB.out (fuel_one HF.out hjn HN60.out) (by rw [HLn.out]; exact hlt) HW.out, HS3⟩, less_n hlt (nxt_val j)⟩
              · skip
                have HW : Hid (wrongBd false false [] bs j = 0) := by
                  show _ = _
                  rw [← rchk_eq (by rw [HLn.out]; exact hlt) HLet.out HNm.out]
                  unfold rchk
                  rw [HX.out, HLn.out]
                  simp [hk5, hdd, hd]
                have HS2 := hid (HS.out.lower ((Below.refl _ wr).alloc (Nat.le_refl _) (.cells #[.int .i64 x.kind, .string x.text, .bool x.space, .bool x.first, .int .i64 x.file, .int .i64 x.lo, .int .i64 x.hi, .int .i64 x.line, .slice none 0 0, .slice none 0 0, .int .i64 0] 43)))
                have HXB := hid (heap_alloc_new wr (.cells #[.int .i64 x.kind, .string x.text, .bool x.space, .bool x.first, .int .i64 x.file, .int .i64 x.lo, .int .i64 x.hi, .int .i64 x.line, .slice none 0 0, .slice none 0 0, .int .i64 0] 43))
                go_wp2_with fail
                generalize wr.alloc (.cells #[.int .i64 x.kind, .string x.text, .bool x.space, .bool x.first, .int .i64 x.file, .int .i64 x.lo, .int .i64 x.hi, .int .i64 x.line, .slice none 0 0, .slice none 0 0, .int .i64 0] 43) = wA at HS2 HXB ⊢
                obtain ⟨⟨x0, x1, x2, x3, x4, x5, x6, x7, x8, x9, x10⟩, _⟩ := tok_block HXB.out
                obtain ⟨⟨y0, y1, y2, y3, y4⟩, _⟩ := HS2.out.box.facts
                dsimp only at y0 y1 y2 y3 y4
                rw [HLn.out] at y4
                have hnn : Nonempty (Later wA) := ⟨⟨_, Below.refl _ _⟩⟩
                have r0 := Later.cell x0
                have r1 := Later.cell x1
                have r2 := Later.cell y1
                have r3 := Later.cell y2
                have r4 := Later.cell y4
                clear c0 c1 c2 c3 c4 c5 c6 c7 c8 c9 c10 m0 m1 m2 m3 m4 n0 n1 n2 n3 n4 x0 x1 x2 x3 x4 x5 x6 x7 x8 x9 x10 y0 y1 y2 y3 y4
                refine region_later (by kernel_rfl) (by kernel_rfl) ?_
                repeat (first | go_big_quiet_step (fail) | quiet_step (fail))
                refine wpQuiet_nil ?_
                rintro _ ⟨p, rfl⟩
                have HS3 := hid (HS2.out.lower p.hb)
                have HXC := hid ((p.hb.block _ (lt_of_block HXB.out)).trans HXB.out)
                clear r0 r1 r2 r3 r4 hnn
                generalize p.W = w1 at HS3 HXC ⊢
                obtain ⟨⟨x0, x1, x2, x3, x4, x5, x6, x7, x8, x9, x10⟩, _⟩ := tok_block HXC.out
                obtain ⟨⟨y0, y1, y2, y3, y4⟩, _⟩ := HS3.out.box.facts
                dsimp only at y0 y1 y2 y3 y4
                rw [HLn.out] at y4
                go_wp2_with fail
                exact ⟨⟨j + 1, f - 1, nxt_val j, hlt, fuel_next HF.out (fuel_one HF.out hjn HN60.out), fb_ok HB.out (fuel_one HF.out hjn HN60.out) (by rw [HLn.out]; exact hlt) HW.out, HS3⟩, less_n hlt (nxt_val j)⟩
            · have hd : (x.text.toList == [35]) = false := by rw [eq_of_beq hdd]; decide
              by_cases hj00 : j = 0
              · skip
                have HW : Hid (wrongBd false false [] bs j = 2) := by
                  show _ = _
                  rw [← rchk_eq (by rw [HLn.out]; exact hlt) HLet.out HNm.out]
                  unfold rchk
                  rw [HX.out, HLn.out]
                  simp [hk5, hdd, hj00]
                have hj00' : ((j : Int) == 0) = true := by simp; omega
                clear hj00
                have HS2 := hid (HS.out.lower ((Below.refl _ wr).alloc (Nat.le_refl _) (.cells #[.int .i64 x.kind, .string x.text, .bool x.space, .bool x.first, .int .i64 x.file, .int .i64 x.lo, .int .i64 x.hi, .int .i64 x.line, .slice none 0 0, .slice none 0 0, .int .i64 0] 43)))
                have HXB := hid (heap_alloc_new wr (.cells #[.int .i64 x.kind, .string x.text, .bool x.space, .bool x.first, .int .i64 x.file, .int .i64 x.lo, .int .i64 x.hi, .int .i64 x.line, .slice none 0 0, .slice none 0 0, .int .i64 0] 43))
                go_wp2_with fail
                refine (HAb.out j 2 _ HS2.out).mono ?_
                rintro e w5 ⟨rfl, hb5⟩
                have HS5 := hid (HS2.out.bad.lower hb5)
                clear hb5
                obtain ⟨z0, z1, z2, z3, z4, z5⟩ := HS5.out.flt.facts
                obtain ⟨⟨p0, p1, p2, p3, p4⟩, ⟨q0, q1, q2, q3, q4⟩⟩ := HS5.out.box.facts
                dsimp only at p0 p1 p2 p3 p4
                go_wp2_with fail
                all_goals (have HQ := hid (HS5.out.stored 2 (tokAt bs j).file (tokAt bs j).lo))
                all_goals exact bodyPost_ret (rparse_ret HQ.out.1 HQ.out.2.1 _ rfl rfl) rfl (bad_post HQ.out.2.2 (HPb.out _ hlt ((fb_bad HB.out (fuel_one HF.out hjn HN60.out) (by rw [HLn.out]; exact hlt) (by rw [HW.out]; decide)).trans (by rw [HW.out])) (by decide)))
              · have hj00' : ((j : Int) == 0) = false := by simp; omega
                by_cases hje : j + 1 = n
                · skip
                  have HW : Hid (wrongBd false false [] bs j = 2) := by
                    show _ = _
                    rw [← rchk_eq (by rw [HLn.out]; exact hlt) HLet.out HNm.out]
                    unfold rchk
                    rw [HX.out, HLn.out]
                    simp [hk5, hdd, hje]
                  have hje' : ((j : Int) + 1 == (n : Int)) = true := by simp; omega
                  clear hje hj00
                  have HS2 := hid (HS.out.lower ((Below.refl _ wr).alloc (Nat.le_refl _) (.cells #[.int .i64 x.kind, .string x.text, .bool x.space, .bool x.first, .int .i64 x.file, .int .i64 x.lo, .int .i64 x.hi, .int .i64 x.line, .slice none 0 0, .slice none 0 0, .int .i64 0] 43)))
                  have HXB := hid (heap_alloc_new wr (.cells #[.int .i64 x.kind, .string x.text, .bool x.space, .bool x.first, .int .i64 x.file, .int .i64 x.lo, .int .i64 x.hi, .int .i64 x.line, .slice none 0 0, .slice none 0 0, .int .i64 0] 43))
                  go_wp2_with fail
                  refine (HAb.out j 2 _ HS2.out).mono ?_
                  rintro e w5 ⟨rfl, hb5⟩
                  have HS5 := hid (HS2.out.bad.lower hb5)
                  clear hb5
                  obtain ⟨z0, z1, z2, z3, z4, z5⟩ := HS5.out.flt.facts
                  obtain ⟨⟨p0, p1, p2, p3, p4⟩, ⟨q0, q1, q2, q3, q4⟩⟩ := HS5.out.box.facts
                  dsimp only at p0 p1 p2 p3 p4
                  go_wp2_with fail
                  all_goals (have HQ := hid (HS5.out.stored 2 (tokAt bs j).file (tokAt bs j).lo))
                  all_goals exact bodyPost_ret (rparse_ret HQ.out.1 HQ.out.2.1 _ rfl rfl) rfl (bad_post HQ.out.2.2 (HPb.out _ hlt ((fb_bad HB.out (fuel_one HF.out hjn HN60.out) (by rw [HLn.out]; exact hlt) (by rw [HW.out]; decide)).trans (by rw [HW.out])) (by decide)))
                · skip
                  have HW : Hid (wrongBd false false [] bs j = 0) := by
                    show _ = _
                    rw [← rchk_eq (by rw [HLn.out]; exact hlt) HLet.out HNm.out]
                    unfold rchk
                    rw [HX.out, HLn.out]
                    simp [hk5, hdd, hd, hj00, hje]
                  have hje' : ((j : Int) + 1 == (n : Int)) = false := by simp; omega
                  clear hje hj00
                  have HS2 := hid (HS.out.lower ((Below.refl _ wr).alloc (Nat.le_refl _) (.cells #[.int .i64 x.kind, .string x.text, .bool x.space, .bool x.first, .int .i64 x.file, .int .i64 x.lo, .int .i64 x.hi, .int .i64 x.line, .slice none 0 0, .slice none 0 0, .int .i64 0] 43)))
                  have HXB := hid (heap_alloc_new wr (.cells #[.int .i64 x.kind, .string x.text, .bool x.space, .bool x.first, .int .i64 x.file, .int .i64 x.lo, .int .i64 x.hi, .int .i64 x.line, .slice none 0 0, .slice none 0 0, .int .i64 0] 43))
                  go_wp2_with fail
                  generalize wr.alloc (.cells #[.int .i64 x.kind, .string x.text, .bool x.space, .bool x.first, .int .i64 x.file, .int .i64 x.lo, .int .i64 x.hi, .int .i64 x.line, .slice none 0 0, .slice none 0 0, .int .i64 0] 43) = wA at HS2 HXB ⊢
                  obtain ⟨⟨x0, x1, x2, x3, x4, x5, x6, x7, x8, x9, x10⟩, _⟩ := tok_block HXB.out
                  obtain ⟨⟨y0, y1, y2, y3, y4⟩, _⟩ := HS2.out.box.facts
                  dsimp only at y0 y1 y2 y3 y4
                  rw [HLn.out] at y4
                  have hnn : Nonempty (Later wA) := ⟨⟨_, Below.refl _ _⟩⟩
                  have r0 := Later.cell x0
                  have r1 := Later.cell x1
                  have r2 := Later.cell y1
                  have r3 := Later.cell y2
                  have r4 := Later.cell y4
                  clear c0 c1 c2 c3 c4 c5 c6 c7 c8 c9 c10 m0 m1 m2 m3 m4 n0 n1 n2 n3 n4 x0 x1 x2 x3 x4 x5 x6 x7 x8 x9 x10 y0 y1 y2 y3 y4
                  refine region_later (by kernel_rfl) (by kernel_rfl) ?_
                  repeat (first | go_big_quiet_step (fail) | quiet_step (fail))
                  refine wpQuiet_nil ?_
                  rintro _ ⟨p, rfl⟩
                  have HS3 := hid (HS2.out.lower p.hb)
                  have HXC := hid ((p.hb.block _ (lt_of_block HXB.out)).trans HXB.out)
                  clear r0 r1 r2 r3 r4 hnn
                  generalize p.W = w1 at HS3 HXC ⊢
                  obtain ⟨⟨x0, x1, x2, x3, x4, x5, x6, x7, x8, x9, x10⟩, _⟩ := tok_block HXC.out
                  obtain ⟨⟨y0, y1, y2, y3, y4⟩, _⟩ := HS3.out.box.facts
                  dsimp only at y0 y1 y2 y3 y4
                  rw [HLn.out] at y4
                  go_wp2_with fail
                  exact ⟨⟨j + 1, f - 1, nxt_val j, hlt, fuel_next HF.out (fuel_one HF.out hjn HN60.out), fb_ok HB.out (fuel_one HF.out hjn HN60.out) (by rw [HLn.out]; exact hlt) HW.out, HS3⟩, less_n hlt (nxt_val j)⟩
        · have hlt' : ¬ (j : Int) < (n : Int) := by omega
          obtain ⟨z0, z1, z2, z3, z4, z5⟩ := HS.out.bad.flt.facts
          obtain ⟨⟨p0, p1, p2, p3, p4⟩, ⟨q0, q1, q2, q3, q4⟩⟩ := HS.out.bad.box.facts
          dsimp only at p0 p1 p2 p3 p4
          have hA1 : w.heap.size ≠ M := by have := HS.out.lo; omega
          have hA2 : w.heap.size + 1 ≠ M := by have := HS.out.lo; omega
          have HF0 := hid (fb_end HB.out (fuel_one HF.out hjn HN60.out) (by rw [HLn.out]; exact hlt))
          go_wp2_with fail
          have HQ := hid (HS.out.good _ rfl)
          rw [HLn.out] at HQ
          refine bodyPost_ret (rparse_ret HQ.out.1 HQ.out.2.1 _ rfl rfl) rfl ?_
          rw [parse_fine (k := 1) (by rw [HH.out]) (by rw [HH.out]) (by rw [HN.out, HNn.out]; exact HN60.out) (by rw [HN.out, HNn.out, HBs.out, HH.out]; show (firstBad false false [] bs 61 0).2 = 0; rw [HFb.out, HF0.out]), HH.out, HN.out, HNn.out, HBs.out]
          exact ⟨_, rfl, HQ.out.2.2.1, HQ.out.2.2.2⟩
end
section
open Go.RowKit Go.Shelf
set_option maxRecDepth 100000 in
set_option maxHeartbeats 1000000 in
/-- One token alone. -/
theorem RParse_rest_one (a : Option Addr) (c : Nat) (ts : List Tk) (w : World) (hT : TAt w a ts) (hl : ts.length ≤ 1048576) (hk : ((tokAt ts 0).kind == 1) = true) (hbu : builtinB (tokAt ts 0).text.toList = false) (h1 : ts.length = 1) :
    Calls Tryz.prog 9 #[.slice a ts.length c] w (ParsePost w (parseL ts)) := by
  have hlt0 : 0 < ts.length := by omega
  have HH := hid (head_plain hk hbu (by rw [tokAt_out (by omega), (endTk_text ts).1]; rfl))
  have HAt := hid (fun (i : Nat) (e0 : Int) W (hW : Below w.heap.size w W) => rat_any a c ts i e0 W (hT.below hW) hl)
  have HS := hid (BadSt.new w)
  have HHas := hid (fun pa pc (ps : List ByteArray) s W (h : StAt W pa ps) (hs : ps.length ≤ 1048576) => RHas_any pa pc ps s W h hs)
  rcases hT with h0 | ⟨bb, off, rfl, hbb, hc⟩
  · rw [h0] at hlt0; simp at hlt0
  have hx := tok_in hlt0
  have c0 := hc 0 _ hx 0 _ rfl
  have c1 := hc 0 _ hx 1 _ rfl
  simp only [Nat.zero_mul, Nat.add_zero] at c0 c1
  obtain ⟨N, hN⟩ : ∃ N, ts.length = N := ⟨_, rfl⟩
  have HN := hid hN
  rw [hN] at HAt hl hlt0 h1 ⊢
  subst h1
  have hb2 : bb < w.heap.size + 1 := by omega
  have hb3 : bb < w.heap.size + 1 + 1 := by omega
  have hb4 : bb ≠ w.heap.size + 1 + 1 := by omega
  have hb5 : bb ≠ w.heap.size + 1 := by omega
  have hb6 : bb ≠ w.heap.size := by omega
  have hk' : ((tokAt ts 0).kind != 1) = false := by simp [bne, hk]
  have Hbu := hid hbu
  have HCD : Hid (∀ W, Below w.heap.size w W → W.cell? ⟨bb, off + 1, none⟩ = some (.string (tokAt ts 0).text)) := fun W hW => (hW.cell (p := ⟨bb, _, none⟩) hbb).trans c1
  have HTc : Hid (∀ W, Below w.heap.size w W → ∀ (j : Nat) x, ts[j]? = some x → ∀ (i : Nat) v, (encT x)[i]? = some v → W.cell? ⟨bb, off + j * 11 + i, none⟩ = some v) := fun W hW j x hx i v hv => (hW.cell (p := ⟨bb, _, none⟩) hbb).trans (hc j x hx i v hv)
  clear hbu hc hx hN hlt0
  have HS3 := hid (HS.out.lower ((Below.refl _ _).alloc (Nat.le_refl _) (.cells #[.string ⟨#[95, 95, 76, 73, 78, 69, 95, 95]⟩, .string ⟨#[95, 95, 70, 73, 76, 69, 95, 95]⟩, .string ⟨#[100, 101, 102, 105, 110, 101, 100]⟩] 9)))
  have HSt := hid (three_new ((w.alloc (.cells #[.string ⟨#[]⟩, .bool false, .slice none 0 0, .bool false, .slice none 0 0] 26)).alloc (.cells #[.int .i64 0, .int .i64 0, .int .i64 0] 29)))
  rw [World.size_alloc, World.size_alloc] at HSt
  go_enter Tryz.func9, Tryz.ntmps9
  go_wp2_with fail
  refine (HHas.out _ _ builtinS _ _ HSt.out (by decide)).mono ?_
  rintro e w2 ⟨rfl, hb2'⟩
  rw [has_builtin, Hbu.out]
  have HS4 := hid (HS3.out.lower hb2')
  have e1 := HCD.out _ HS4.out.below
  have hbw : bb < w2.heap.size := Nat.lt_of_lt_of_le hbb HS4.out.below.size
  clear hb2' c0 c1 hb2 hb3 hb4 hb5 hb6
  have HT := hid (tail_plain HS4.out (tokAt ts 0).text)
  go_wp2_with fail
  obtain ⟨base, hbase⟩ : ∃ base, w2.heap.size + 1 = base := ⟨_, rfl⟩
  rw [hbase] at HT
  clear hbase
  go_loopw [8] (fun si wr => si = .int .i64 1 ∧ Hid (TailSt w w2.heap.size base (tokAt ts 0).text false [] false none 0 [] none 0 wr)) (fun _ _ => 0)
  case atStart => exact ⟨rfl, HT⟩
  case round =>
    clear HT
    obtain ⟨rfl, HS⟩ := hrel
    generalize w2.heap.size = M at *
    obtain ⟨⟨m0, m1, m2, m3, m4⟩, ⟨n0, n1, n2, n3, n4⟩⟩ := HS.out.box.facts
    have hltM := lt_of_block HS.out.box
    dsimp only [List.length_nil] at m0 m1 m2 m3 m4
    go_wp2_with fail
    go_loopw [119] (fun sj wr => sj = .int .i64 0 ∧ Hid (TailSt w M base (tokAt ts 0).text false [] false none 0 [] none 0 wr)) (fun _ _ => 0)
    case atStart => exact ⟨rfl, HS⟩
    case round =>
      clear m0 m1 m2 m3 m4 n0 n1 n2 n3 n4 hltM HS
      obtain ⟨rfl, HS⟩ := hrel
      obtain ⟨⟨m0, m1, m2, m3, m4⟩, ⟨n0, n1, n2, n3, n4⟩⟩ := HS.out.box.facts
      have hltM := lt_of_block HS.out.box
      dsimp only [List.length_nil] at m0 m1 m2 m3 m4
      obtain ⟨z0, z1, z2, z3, z4, z5⟩ := HS.out.bad.flt.facts
      obtain ⟨⟨p0, p1, p2, p3, p4⟩, ⟨q0, q1, q2, q3, q4⟩⟩ := HS.out.bad.box.facts
      dsimp only at p0 p1 p2 p3 p4
      have hA1 : w.heap.size ≠ M := by have := HS.out.lo; omega
      have hA2 : w.heap.size + 1 ≠ M := by have := HS.out.lo; omega
      go_wp2_with fail
      have HQ := hid (HS.out.good _ rfl)
      refine bodyPost_ret (rparse_ret HQ.out.1 HQ.out.2.1 _ rfl rfl) rfl ?_
      rw [parse_fine (k := 1) (by rw [HH.out]) (by rw [HH.out]) (by rw [HN.out]; decide) (by rw [HN.out, HH.out]; rfl), HH.out, HN.out]
      exact ⟨_, rfl, HQ.out.2.2.1, HQ.out.2.2.2⟩
end
section
open Go.RowKit Go.Shelf

theorem RParse_any (a : Option Addr) (c : Nat) (ts : List Tk) (w : World) (hT : TAt w a ts) (hl : ts.length ≤ 1048576) (hnm : ∀ t ∈ ts, NameIs t.kind t.text.data.toList) :
    Calls Tryz.prog 9 #[.slice a ts.length c] w (ParsePost w (parseL ts)) := by
  by_cases h0 : 0 < ts.length
  · by_cases hk : ((tokAt ts 0).kind == 1) = true
    · by_cases hb : builtinB (tokAt ts 0).text.toList = true
      · exact RParse_first a c ts w hT hl h0 (.inr hb)
      · have hb' : builtinB (tokAt ts 0).text.toList = false := by simpa using hb
        by_cases h1 : 1 < ts.length
        · by_cases hp : ((tokAt ts 1).text.toList == [40]) = true
          · by_cases hs : (tokAt ts 1).space = true
            · by_cases hm : 60 < ts.length - 1
              · exact RParse_much_apart a c ts w hT hl hk hb' hp hs hm
              · exact RParse_rest_apart a c ts w hT hl hnm hk hb' hp hs (by omega)
            · have hs' : (tokAt ts 1).space = false := by simpa using hs
              by_cases he : (parA ts).2.2.2 = 0
              · by_cases hm : 60 < ts.length - (parA ts).2.2.1
                · exact RParse_much_call a c ts w hT hl (names_plain hnm) hk hb' hp hs' he hm
                · exact RParse_rest_call a c ts w hT hl hnm hk hb' hp hs' he (by omega)
              · exact RParse_params a c ts w hT hl (names_plain hnm) hk hb' hp hs' he
          · have hp' : ((tokAt ts 1).text.toList == [40]) = false := by simpa using hp
            by_cases hm : 60 < ts.length - 1
            · exact RParse_much_word a c ts w hT hl hk hb' h1 hp' hm
            · exact RParse_rest_word a c ts w hT hl hnm hk hb' h1 hp' (by omega)
        · exact RParse_rest_one a c ts w hT hl hk hb' (by omega)
    · exact RParse_first a c ts w hT hl h0 (.inl (by simpa using hk))
  · have : ts = [] := List.eq_nil_of_length_eq_zero (by omega)
    subst this
    exact RParse_none a c w hT
end
end Go.Proofs.YtedmcefckcmheaaGreatDoor
