/- Walk of params. · Walk of head. · Walks of isParam and wrongBody. -/
import Derived.Test.YtedmcefckcmheaaGreatDoorMcB
import Derived.Maps.AppendAt
import Derived.OwnWalk
namespace Go.Proofs.YtedmcefckcmheaaGreatDoor
section
open Go.RowKit Go.Shelf

/-- Texts as values. -/
def txts (ps : List ByteArray) : List Value := ps.map Value.string
theorem txts_length (ps : List ByteArray) : (txts ps).length = ps.length := by simp [txts]
theorem own_below {w w' : World} {base e size n : Nat} {v : Value} {xs : List Value} (h : w.ownsRow base e size v n xs) (hb : Below w.heap.size w w') : w'.ownsRow base e size v n xs := by
  refine ⟨h.1, ?_⟩
  rcases h.2 with h' | ⟨g, cap, cur, hv, hg, hh, r⟩
  · exact .inl h'
  · exact .inr ⟨g, cap, cur, hv, hg, (hb.block g (lt_of_block hh)).trans hh, r⟩
theorem own_set {w : World} {base e size n B o : Nat} {v u : Value} {xs : List Value} (h : w.ownsRow base e size v n xs) (hB : B < base) : (w.setCell ⟨B, o, none⟩ u).ownsRow base e size v n xs := by
  refine ⟨h.1, ?_⟩
  rcases h.2 with h' | ⟨g, cap, cur, hv, hg, hh, r⟩
  · exact .inl h'
  · exact .inr ⟨g, cap, cur, hv, hg, by rw [Below.heap_setCell _ _ _ g (by show g ≠ B; omega)]; exact hh, r⟩
theorem StAt.of_row {w : World} {base : Nat} {v : Value} {ps : List ByteArray} (h : w.ownsRow base 9 1 v ps.length (txts ps)) : ∃ a c, v = .slice a ps.length c ∧ StAt w a ps := by
  rcases h.2 with ⟨rfl, h0⟩ | ⟨g, cap, cur, rfl, hb, hg, hn, hc, hs, ht⟩
  · exact ⟨none, 0, by rw [h0], .inl (List.eq_nil_of_length_eq_zero h0)⟩
  · refine ⟨_, _, rfl, .inr ⟨g, 0, rfl, (Array.getElem?_eq_some_iff.1 hg).1, fun j x hx => ?_⟩⟩
    have hj : j < ps.length := (List.getElem?_eq_some_iff.1 hx).1
    have h1 : (txts ps)[j]? = some (.string x) := by unfold txts; rw [List.getElem?_map, hx]; rfl
    rw [← ht, List.getElem?_take_of_lt (by omega), Array.getElem?_toList] at h1
    rw [Go.Joins.cell_of_block hg, Nat.zero_add]
    exact h1
/-- The state ahead of a round. -/
structure ParSt (w0 : World) (B base : Nat) (nm : ByteArray) (ts : List Tk) (R : List ByteArray × Bool × Nat × Int) (f i : Nat) (ps : List ByteArray) (more : Bool) (pa : Option Addr) (pc : Nat) (W : World) : Prop where
  below : Below w0.heap.size w0 W
  box : MBox W B ⟨nm, true, pa, ps.length, pc, more, none, 0, 0⟩
  row : W.ownsRow base 9 1 (.slice pa ps.length pc) ps.length (txts ps)
  base : base ≤ W.heap.size
  is : parL ts f i ps more = R
  fuel : 7 ≤ f + ps.length
  few : ps.length ≤ 6
  pos : i = 2 + 2 * ps.length
def ParPost (w0 : World) (B : Nat) (nm : ByteArray) (R : List ByteArray × Bool × Nat × Int) (e : Ending) (w' : World) : Prop :=
  e = .returned (.tuple #[.int .i64 (R.2.2.1 : Int), .int .i64 R.2.2.2]) ∧ Below w0.heap.size w0 w' ∧ ∃ pa pc, MBox w' B ⟨nm, true, pa, R.1.length, pc, R.2.1, none, 0, 0⟩ ∧ StAt w' pa R.1
theorem ParSt.stat {w0 : World} {B base : Nat} {nm : ByteArray} {ts : List Tk} {R : List ByteArray × Bool × Nat × Int} {f i : Nat} {ps : List ByteArray} {more : Bool} {pa : Option Addr} {pc : Nat} {W : World} (h : ParSt w0 B base nm ts R f i ps more pa pc W) : StAt W pa ps := by
  obtain ⟨a, c, e, hs⟩ := StAt.of_row h.row
  cases e
  exact hs
theorem ParSt.lower {w0 : World} {B base : Nat} {nm : ByteArray} {ts : List Tk} {R : List ByteArray × Bool × Nat × Int} {f i : Nat} {ps : List ByteArray} {more : Bool} {pa : Option Addr} {pc : Nat} {W W' : World} (h : ParSt w0 B base nm ts R f i ps more pa pc W) (hb : Below W.heap.size W W') : ParSt w0 B base nm ts R f i ps more pa pc W' :=
  ⟨h.below.trans (hb.mono h.below.size), h.box.below hb, own_below h.row hb, Nat.le_trans h.base hb.size, h.is, h.fuel, h.few, h.pos⟩

/-- A row that has one more, of another one's block. -/
theorem own_set2 {w : World} {base e size n B o : Nat} {v u : Value} {xs : List Value} (h : w.ownsRow base e size v n xs) (hB : ∀ k, v.ownBlock = some k → k ≠ B) : (w.setCell ⟨B, o, none⟩ u).ownsRow base e size v n xs := by
  refine ⟨h.1, ?_⟩
  rcases h.2 with h' | ⟨g, cap, cur, hv, hg, hh, r⟩
  · exact .inl h'
  · exact .inr ⟨g, cap, cur, hv, hg, by rw [Below.heap_setCell _ _ _ g (hB g (by rw [hv]; rfl))]; exact hh, r⟩
/-- What lies ahead of the append. -/
structure AppSt (w0 : World) (B base bx : Nat) (nm : ByteArray) (ps : List ByteArray) (more : Bool) (pa : Option Addr) (pc : Nat) (tx : ByteArray) (W : World) : Prop where
  below : Below w0.heap.size w0 W
  box : MBox W B ⟨nm, true, pa, ps.length, pc, more, none, 0, 0⟩
  row : W.ownsRow base 9 1 (.slice pa ps.length pc) ps.length (txts ps)
  base : base ≤ W.heap.size
  txt : W.cell? ⟨bx, 1, none⟩ = some (.string tx)
  blt : bx < W.heap.size
  bne : ∀ k, (Value.slice pa ps.length pc).ownBlock = some k → k ≠ bx
theorem AppSt.lower {w0 : World} {B base bx : Nat} {nm : ByteArray} {ps : List ByteArray} {more : Bool} {pa : Option Addr} {pc : Nat} {tx : ByteArray} {W W' : World} (h : AppSt w0 B base bx nm ps more pa pc tx W) (hb : Below W.heap.size W W') : AppSt w0 B base bx nm ps more pa pc tx W' :=
  ⟨h.below.trans (hb.mono h.below.size), h.box.below hb, own_below h.row hb, Nat.le_trans h.base hb.size, (hb.cell (p := ⟨bx, 1, none⟩) h.blt).trans h.txt, Nat.lt_of_lt_of_le h.blt hb.size, h.bne⟩
/-- m.More is set. -/
theorem ParSt.more {w0 : World} {B base : Nat} {nm : ByteArray} {ts : List Tk} {R : List ByteArray × Bool × Nat × Int} {f i : Nat} {ps : List ByteArray} {more : Bool} {pa : Option Addr} {pc : Nat} {W : World} (h : ParSt w0 B base nm ts R f i ps more pa pc W) (hB : w0.heap.size ≤ B) (hBb : B < base) (d : Bool) {bx : Nat} {v0 : Int} {tx : ByteArray} {v2 v3 v4 v5 v6 v7 v8 v9 v10 : Value} {T : TypeId} (hX : W.heap[bx]? = some (.cells #[.int .i64 v0, .string tx, v2, v3, v4, v5, v6, v7, v8, v9, v10] T)) (hne : bx ≠ B) (hbne : ∀ k, (Value.slice pa ps.length pc).ownBlock = some k → k ≠ bx) :
    AppSt w0 B base bx nm ps d pa pc tx (W.setCell ⟨B, 3, none⟩ (.bool d)) := by
  have hb := Go.Joins.block_setCell (i := 3) h.box (.bool d)
  refine ⟨h.below.setCell (p := ⟨B, 3, none⟩) hB _, by simpa [MBox] using hb, own_set h.row hBb, by simpa using h.base, ?_, ?_, hbne⟩
  · have hh : (W.setCell ⟨B, 3, none⟩ (.bool d)).heap[bx]? = W.heap[bx]? := Below.heap_setCell _ _ _ bx hne
    rw [Go.Joins.cell_of_block (hh.trans hX)]
    rfl
  · have := lt_of_block hX
    simpa using this
/-- The token's text is turned. -/
theorem AppSt.turn {w0 : World} {B base bx : Nat} {nm : ByteArray} {ps : List ByteArray} {more : Bool} {pa : Option Addr} {pc : Nat} {tx : ByteArray} {W : World} (h : AppSt w0 B base bx nm ps more pa pc tx W) (hne : B ≠ bx) (h0 : w0.heap.size ≤ bx) {cs : Array Value} {T : TypeId} {fr : Nat × Nat} (hX : W.heap[bx]? = some (.cells cs T fr)) (hc : 1 < cs.size) (tx' : ByteArray) :
    AppSt w0 B base bx nm ps more pa pc tx' (W.setCell ⟨bx, 1, none⟩ (.string tx')) := by
  have hb := Go.Joins.block_setCell (i := 1) hX (.string tx')
  refine ⟨h.below.setCell (p := ⟨bx, 1, none⟩) h0 _, ?_, own_set2 h.row h.bne, by simpa using h.base, ?_, by simpa using h.blt, h.bne⟩
  · unfold MBox
    rw [Below.heap_setCell _ _ _ B hne]
    exact h.box
  · rw [Go.Joins.cell_of_block hb]
    simp [hc]
theorem row_is {w : World} {base e size n : Nat} {v : Value} {xs : List Value} (h : w.ownsRow base e size v n xs) : ∃ a c, v = .slice a n c := by
  rcases h.2 with ⟨rfl, rfl⟩ | ⟨g, cap, cur, rfl, _⟩
  · exact ⟨none, 0, rfl⟩
  · exact ⟨_, _, rfl⟩
/-- Behind the append. -/
theorem AppSt.after {w0 : World} {B base bx : Nat} {nm : ByteArray} {ps : List ByteArray} {more : Bool} {pa : Option Addr} {pc : Nat} {tx : ByteArray} {W : World} (h : AppSt w0 B base bx nm ps more pa pc tx W) (hBb : B < base) (hw0 : w0.heap.size ≤ base) {w4 : World} (hg : W.grownBy w4 (Value.slice pa ps.length pc).ownBlock) :
    MBox w4 B ⟨nm, true, pa, ps.length, pc, more, none, 0, 0⟩ ∧ w4.cell? ⟨bx, 1, none⟩ = some (.string tx) ∧ Below w0.heap.size w0 w4 ∧ base ≤ w4.heap.size := by
  have hrl : ∀ k, (Value.slice pa ps.length pc).ownBlock = some k → base ≤ k := fun k e => (h.row.lt k e).1
  have hB := hg.block B (lt_of_block h.box) (fun e => by have := hrl B e.symm; omega)
  have hX := hg.block bx h.blt (fun e => h.bne bx e.symm rfl)
  refine ⟨hB.trans h.box, ?_, h.below.grown hg h.below.size (fun k e => Nat.le_trans hw0 (hrl k e)), Nat.le_trans h.base hg.size⟩
  have := h.txt
  simp only [World.cell?, hX] at this ⊢
  exact this
/-- The next parameter is in. -/
structure Got (w0 : World) (B base : Nat) (nm : ByteArray) (ps : List ByteArray) (more : Bool) (pa : Option Addr) (pc : Nat) (W : World) : Prop where
  below : Below w0.heap.size w0 W
  box : MBox W B ⟨nm, true, pa, ps.length, pc, more, none, 0, 0⟩
  row : W.ownsRow base 9 1 (.slice pa ps.length pc) ps.length (txts ps)
  base : base ≤ W.heap.size
theorem Got.lower {w0 : World} {B base : Nat} {nm : ByteArray} {ps : List ByteArray} {more : Bool} {pa : Option Addr} {pc : Nat} {W W' : World} (h : Got w0 B base nm ps more pa pc W) (hb : Below W.heap.size W W') : Got w0 B base nm ps more pa pc W' :=
  ⟨h.below.trans (hb.mono h.below.size), h.box.below hb, own_below h.row hb, Nat.le_trans h.base hb.size⟩
theorem Got.stat {w0 : World} {B base : Nat} {nm : ByteArray} {ps : List ByteArray} {more : Bool} {pa : Option Addr} {pc : Nat} {W : World} (h : Got w0 B base nm ps more pa pc W) : StAt W pa ps := by
  obtain ⟨a, c, e, hs⟩ := StAt.of_row h.row
  cases e
  exact hs
theorem got_of {w0 : World} {B base : Nat} {nm : ByteArray} {ps : List ByteArray} {more : Bool} {pa a4 : Option Addr} {pc c4 : Nat} {tx : ByteArray} {w4 : World} (hM : MBox w4 B ⟨nm, true, pa, ps.length, pc, more, none, 0, 0⟩) (hb : Below w0.heap.size w0 w4) (hs : base ≤ w4.heap.size) (hB : w0.heap.size ≤ B) (hBb : B < base) (ho : w4.ownsRow base 9 1 (.slice a4 (ps.length + 1) c4) (ps.length + 1) (txts ps ++ [.string tx])) :
    Got w0 B base nm (ps ++ [tx]) more a4 c4 (w4.setCell ⟨B, 2, none⟩ (.slice a4 (ps.length + 1) c4)) := by
  have hbx := Go.Joins.block_setCell (i := 2) hM (.slice a4 (ps.length + 1) c4)
  refine ⟨hb.setCell (p := ⟨B, 2, none⟩) hB _, ?_, ?_, by simpa using hs⟩
  · unfold MBox
    rw [List.length_append]
    simpa using hbx
  · rw [List.length_append]
    have e : txts (ps ++ [tx]) = txts ps ++ [.string tx] := by simp [txts]
    rw [e]
    exact own_set ho hBb
theorem two_val (i : Nat) : Value.int .i64 ((i : Int) + 1 + 1) = .int .i64 ((i + 2 : Nat) : Int) := by
  rw [show ((i + 2 : Nat) : Int) = (i : Int) + 1 + 1 from by omega]
theorem got_next {w0 : World} {B base : Nat} {nm : ByteArray} {ts : List Tk} {R : List ByteArray × Bool × Nat × Int} {f i : Nat} {ps : List ByteArray} {d : Bool} {pa : Option Addr} {pc : Nat} {tx : ByteArray} {W : World} (h : Got w0 B base nm (ps ++ [tx]) d pa pc W) (hR : parL ts (f - 1) (i + 2) (ps ++ [tx]) d = R) (hf : 7 ≤ f + ps.length) (hf1 : 1 ≤ f) (hlen : ps.length ≠ 6) (hfew : ps.length ≤ 6) (hpos : i = 2 + 2 * ps.length) : i + 2 ≤ 14 ∧ ParSt w0 B base nm ts R (f - 1) (i + 2) (ps ++ [tx]) d pa pc W := by
  have hl : (ps ++ [tx]).length = ps.length + 1 := by simp
  exact ⟨by omega, h.below, h.box, h.row, h.base, hR, by omega, by omega, by omega⟩
theorem less_r {i : Nat} (h : i ≤ 14) {x : Value} (hx : x = .int .i64 ((i : Int) + 1 + 1)) : 100 - (intOf x).toNat < 100 - (intOf (.int .i64 (i : Int))).toNat := by
  subst hx; simp [intOf]; omega
theorem info_str : (Tryz.prog.info? 9).map (fun i => (i.zero, i.size, i.bytes)) = some (some (.string ByteArray.empty), 1, 16) := by kernel_rfl
theorem wrongP_len {ps : List ByteArray} {more : Bool} {x : Tk} (h : wrongP ps more x = 0) : ps.length ≠ 6 := by
  intro e
  unfold wrongP at h
  rw [e] at h
  split at h
  · cases h
  · split at h
    · cases h
    · simp at h
/-- What the next parameter is called. -/
def nextP (x : Tk) : ByteArray := if x.text.toList == dotsL then restB else x.text
theorem par_wrong {ts : List Tk} {f i : Nat} {ps : List ByteArray} {more : Bool} {R : List ByteArray × Bool × Nat × Int} (h : parL ts f i ps more = R) (hf : 1 ≤ f) (hw : wrongP ps more (tokAt ts i) ≠ 0) : R = (ps, more, i, wrongP ps more (tokAt ts i)) := by
  obtain ⟨g, rfl⟩ : ∃ g, f = g + 1 := ⟨f - 1, by omega⟩
  unfold parL at h
  rw [if_pos hw] at h
  exact h.symm
theorem par_right {ts : List Tk} {f i : Nat} {ps : List ByteArray} {more : Bool} {R : List ByteArray × Bool × Nat × Int} (h : parL ts f i ps more = R) (hf : 1 ≤ f) (hw : wrongP ps more (tokAt ts i) = 0) :
    ((tokAt ts (i + 1)).text.toList == [41]) = true ∧ R = (ps ++ [nextP (tokAt ts i)], (tokAt ts i).text.toList == dotsL, i + 2, 0) ∨
    (((tokAt ts (i + 1)).text.toList == [41]) = false ∧ ((tokAt ts (i + 1)).text.toList == [44]) = true ∧ parL ts (f - 1) (i + 2) (ps ++ [nextP (tokAt ts i)]) ((tokAt ts i).text.toList == dotsL) = R) ∨
    (((tokAt ts (i + 1)).text.toList == [41]) = false ∧ ((tokAt ts (i + 1)).text.toList == [44]) = false ∧ R = (ps ++ [nextP (tokAt ts i)], (tokAt ts i).text.toList == dotsL, i + 1, 2)) := by
  obtain ⟨g, rfl⟩ : ∃ g, f = g + 1 := ⟨f - 1, by omega⟩
  unfold parL at h
  rw [if_neg (by rw [hw]; decide)] at h
  unfold nextP
  rcases h1 : ((tokAt ts (i + 1)).text.toList == [41]) with _ | _
  · rw [h1, if_neg (by decide)] at h
    rcases h2 : ((tokAt ts (i + 1)).text.toList == [44]) with _ | _
    · rw [h2, if_neg (by decide)] at h
      exact .inr (.inr ⟨rfl, rfl, h.symm⟩)
    · rw [h2, if_pos rfl] at h
      exact .inr (.inl ⟨rfl, rfl, h⟩)
  · rw [h1, if_pos rfl] at h
    exact .inl ⟨rfl, h.symm⟩
theorem field_text (k : Int) (tx : ByteArray) (s f : Bool) (fi lo hi ln : Int) (W : World) : (Instr.field 43 (.agg #[.int .i64 k, .string tx, .bool s, .bool f, .int .i64 fi, .int .i64 lo, .int .i64 hi, .int .i64 ln, .slice none 0 0, .slice none 0 0, .int .i64 0]) 1).run Tryz.prog W = .ok (.string tx) W := by kernel_rfl
set_option maxRecDepth 100000 in
set_option maxHeartbeats 2000000 in
theorem params_any (w0 : World) (B : Nat) (nm : ByteArray) (Bl Be : Nat) (a : Option Addr) (c : Nat) (ts : List Tk) (w : World) (hN : NumAt w0 Bl Be a c ts) (hb : Below w0.heap.size w0 w) (hB : w0.heap.size ≤ B) (hM : MBox w B ⟨nm, true, none, 0, 0, false, none, 0, 0⟩) :
    Calls Tryz.prog 57 #[.pointer (some ⟨B, 0, none⟩), .func (.func 56) #[] #[.pointer (some ⟨Bl, 0, none⟩), .pointer (some ⟨Be, 0, none⟩)], .int .i64 2] w (ParPost w0 B nm (if (tokAt ts 2).text.toList == [41] then ([], false, 3, 0) else parL ts 7 2 [] false)) := by
  have HT := hid (fun (i : Nat) W (hW : Below w0.heap.size w0 W) => num_at Bl Be a c ts i W (hN.below hW))
  unfold aggT at HT
  have HB := hid hb
  have HM := hid hM
  have eg : ∀ args w, (callFunc 56 args).run Tryz.prog w = .ok (.enter 56 args) w := enters_of Tryz.func56 (by kernel_rfl) rfl
  have hfd := field_text
  clear hN hb hM
  rcases h2 : ((tokAt ts 2).text.toList == [41]) with _ | _
  · rw [if_neg (by decide)]
    obtain ⟨R, hR⟩ : ∃ R, parL ts 7 2 [] false = R := ⟨_, rfl⟩
    rw [hR]
    go_enter Tryz.func57, Tryz.ntmps57
    go_wp2_with fail
    refine (HT.out 2 _ HB.out).mono ?_
    rintro e w1 ⟨rfl, hb1⟩
    have HS : Hid (ParSt w0 B w1.heap.size nm ts R 7 2 [] false none 0 w1) := ⟨HB.out.trans (hb1.mono HB.out.size), HM.out.below hb1, World.ownsRow_nil _ _ _ _, Nat.le_refl _, hR, by simp, by simp, rfl⟩
    have HBl := hid (Nat.lt_of_lt_of_le (lt_of_block HM.out) hb1.size)
    clear hb1 hR
    go_wp2_with fail
    go_loopw [2] (fun si wr => ∃ (f i : Nat) (ps : List ByteArray) (more : Bool) (pa : Option Addr) (pc : Nat), si = .int .i64 (i : Int) ∧ i ≤ 14 ∧ Hid (ParSt w0 B w1.heap.size nm ts R f i ps more pa pc wr)) (fun si _ => 100 - (intOf si).toNat)
    case atStart => exact ⟨7, 2, [], false, none, 0, rfl, by decide, HS⟩
    case round =>
      clear HS
      obtain ⟨f, i, ps, more, pa, pc, rfl, hi14, HS⟩ := hrel
      have hfew := HS.out.few
      have hf1 : 1 ≤ f := by have := HS.out.fuel; omega
      have HTi := hid (fun W hW => HT.out i W hW)
      have HTj := hid (fun W hW => HT.out (i + 1) W hW)
      push_cast at HTj
      have HWP := hid (fun W (h : ParSt w0 B w1.heap.size nm ts R f i ps more pa pc W) => wrongParam_any B _ ps (tokAt ts i) W h.box h.stat rfl (by omega))
      unfold aggT at HWP
      dsimp only at HWP
      have hip := nxt_k (k := i) (by omega)
      have hiw := nxt_w (k := i) (by omega)
      by_cases hw : wrongP ps more (tokAt ts i) = 0
      · have HPR := hid (par_right HS.out.is hf1 hw)
        have hlen := wrongP_len hw
        rw [hw] at HWP
        generalize tokAt ts i = x at HTi HWP HPR
        generalize tokAt ts (i + 1) = y at HTj HPR
        clear hw
        go_wp2_with fail
        refine (HTi.out _ HS.out.below).mono ?_
        rintro e w2 ⟨rfl, hb2⟩
        have HS2 := hid (HS.out.lower hb2)
        have HS3 := hid (HS2.out.lower ((Below.refl _ w2).alloc (Nat.le_refl _) (.cells #[.int .i64 x.kind, .string x.text, .bool x.space, .bool x.first, .int .i64 x.file, .int .i64 x.lo, .int .i64 x.hi, .int .i64 x.line, .slice none 0 0, .slice none 0 0, .int .i64 0] 43)))
        have HXB := hid (heap_alloc_new w2 (.cells #[.int .i64 x.kind, .string x.text, .bool x.space, .bool x.first, .int .i64 x.file, .int .i64 x.lo, .int .i64 x.hi, .int .i64 x.line, .slice none 0 0, .slice none 0 0, .int .i64 0] 43))
        have hsz2 := hb2.size
        clear hb2
        go_wp2_with fail
        refine (HWP.out _ HS3.out).mono ?_
        rintro e w3 ⟨rfl, hb3⟩
        have HS4 := hid (HS3.out.lower hb3)
        have hX3 := (hb3.block _ (lt_of_block HXB.out)).trans HXB.out
        obtain ⟨⟨m0, m1, m2, m3, m4⟩, ⟨n0, n1, n2, n3, n4⟩⟩ := HS4.out.box.facts
        obtain ⟨⟨x0, x1, x2, x3, x4, x5, x6, x7, x8, x9, x10⟩, ⟨z0, z1, z2, z3, z4, z5, z6, z7, z8, z9, z10⟩⟩ := tok_block hX3
        have HX3 := hid hX3
        have hBw : B < w2.heap.size := Nat.lt_of_lt_of_le HBl.out (Nat.le_trans HS.out.base hsz2)
        have hneB : B ≠ w2.heap.size := by omega
        dsimp only at m0 m1 m2 m3 m4
        clear hb3 hX3
        have hrowlt : ∀ k, (Value.slice pa ps.length pc).ownBlock = some k → k ≠ w2.heap.size := fun k e => by
          have := (HS2.out.row.lt k e).2
          omega
        have HA0 := hid (fun d => HS4.out.more hB HBl.out d HX3.out (Ne.symm hneB) hrowlt)
        have HPos := hid HS.out.pos
        have HFu := hid HS.out.fuel
        have hjp := nxt_k (k := i + 1) (by omega)
        have hjw := nxt_w (k := i + 1) (by omega)
        push_cast at hjp hjw
        clear HS4 HS3 HS2 HS HWP
        rcases hd : (x.text.toList == [46, 46, 46]) with _ | _
        · rw [show nextP x = x.text from if_neg (by show ¬ (x.text.toList == dotsL) = true; rw [show (x.text.toList == dotsL) = false from hd]; decide), show (x.text.toList == dotsL) = false from hd] at HPR
          have HA := hid (HA0.out false)
          go_wp2_with fail
          generalize w3.setCell ⟨B, 3, none⟩ (.bool false) = wS at HA ⊢
          obtain ⟨i0, hi, hz0, hz1, hz2⟩ := info_parts info_str
          have HLo := hid (fun W (h : Below wS.heap.size wS W) => HA.out.lower h)
          obtain ⟨⟨_, _, s2, _, _⟩, ⟨_, _, s7, _, _⟩⟩ := HA.out.box.facts
          have s1 := HA.out.txt
          have hBS : B < wS.heap.size := lt_of_block HA.out.box
          have hxS : w2.heap.size < wS.heap.size := HA.out.blt
          dsimp only at s2
          have HKS : Hid (∀ W, Below wS.heap.size wS W → W.cell? ⟨B, 2, none⟩ = some (.slice pa ps.length pc) ∧ W.frozen? ⟨B, 2, none⟩ = false ∧ W.cell? ⟨w2.heap.size, 1, none⟩ = some (.string x.text)) := fun W hW => by
            obtain ⟨⟨_, _, s2, _, _⟩, ⟨_, _, s7, _, _⟩⟩ := (HLo.out W hW).box.facts
            exact ⟨s2, s7, (HLo.out W hW).txt⟩
          go_region_law ((refine step_append_any (by rfl) _ _ 22 (by rfl) w1.heap.size 9 i0 _ 1 16 Tryz.underlying22 hi hz0 hz1 hz2 (by rfl) (by decide) _ _ _ (by rfl) (HLo.out _ (by repeat' (first | exact Below.refl _ _ | apply Below.drew | apply Below.alloc | (simp; done)))).row ⟨wS.heap.size, 0, none⟩ 1 1 [.string x.text] (by rfl) (by rfl) (one_new wS _ _) (by simp [Value.oneCell']) (by unfold maxLen; omega) (by omega) (HLo.out _ (by repeat' (first | exact Below.refl _ _ | apply Below.drew | apply Below.alloc | (simp; done)))).base ?_; intro v4 w4 hown4 hg4 hob4; obtain ⟨a4, c4, rfl⟩ := row_is hown4; have haf := AppSt.after (HLo.out _ (by repeat' (first | exact Below.refl _ _ | apply Below.drew | apply Below.alloc | (simp; done)))) HBl.out (Nat.le_trans hB (Nat.le_of_lt HBl.out)) hg4; have s2' := haf.1.facts.1.2.2.1; have s7' := haf.1.facts.2.2.2.1; have HGot := hid (got_of haf.1 haf.2.2.1 haf.2.2.2 hB HBl.out hown4); clear haf hown4 hg4 hob4))
          all_goals
            generalize w4.setCell ⟨B, 2, none⟩ (.slice a4 (ps.length + 1) c4) = w5 at HGot ⊢
            clear s2' s7' s1 s2 s7 hBS hxS HKS HLo
            go_wp2_with fail
            refine (HTj.out _ HGot.out.below).mono ?_
            rintro e w6 ⟨rfl, hb6⟩
            have HG6 := hid (HGot.out.lower hb6)
            clear hb6 HGot
            rcases HPR.out with ⟨h1, hR⟩ | ⟨h1, h2, hR⟩ | ⟨h1, h2, hR⟩
            · have HRR := hid hR
              clear hR
              go_wp2_with fail
              go_ret2
              rw [HRR.out]
              exact ⟨by show Ending.returned (.tuple #[_, _]) = Ending.returned (.tuple #[.int .i64 ((i + 2 : Nat) : Int), _]); rw [show ((i + 2 : Nat) : Int) = (i : Int) + 1 + 1 from by omega]; rfl, HG6.out.below, a4, c4, HG6.out.box, HG6.out.stat⟩
            · have HRR := hid hR
              clear hR
              go_wp2_with fail
              have HNx := hid (got_next HG6.out HRR.out HFu.out hf1 hlen hfew HPos.out)
              clear HRR HG6 HPR
              exact ⟨⟨f - 1, i + 2, ps ++ [x.text], false, a4, c4, two_val i, HNx.out.1, hid HNx.out.2⟩, less_r hi14 rfl⟩
            · have HRR := hid hR
              clear hR
              go_wp2_with fail
              go_ret2
              rw [HRR.out]
              exact ⟨by show Ending.returned (.tuple #[_, _]) = Ending.returned (.tuple #[.int .i64 ((i + 1 : Nat) : Int), _]); rw [show ((i + 1 : Nat) : Int) = (i : Int) + 1 from by omega]; rfl, HG6.out.below, a4, c4, HG6.out.box, HG6.out.stat⟩
        · rw [show nextP x = restB from if_pos hd, show (x.text.toList == dotsL) = true from hd] at HPR
          have HA := hid ((HA0.out true).turn hneB (Nat.le_trans hB (Nat.le_of_lt hBw)) ((show (w3.setCell ⟨B, 3, none⟩ (.bool true)).heap[w2.heap.size]? = _ by rw [Below.heap_setCell _ _ _ _ (Ne.symm hneB)]; exact HX3.out)) (by simp) restB)
          unfold restB at HA HPR
          go_wp2_with fail
          generalize (w3.setCell ⟨B, 3, none⟩ (.bool true)).setCell ⟨w2.heap.size, 1, none⟩ (.string ⟨#[95, 95, 86, 65, 95, 65, 82, 71, 83, 95, 95]⟩) = wS at HA ⊢
          obtain ⟨i0, hi, hz0, hz1, hz2⟩ := info_parts info_str
          have HLo := hid (fun W (h : Below wS.heap.size wS W) => HA.out.lower h)
          obtain ⟨⟨_, _, s2, _, _⟩, ⟨_, _, s7, _, _⟩⟩ := HA.out.box.facts
          have s1 := HA.out.txt
          have hBS : B < wS.heap.size := lt_of_block HA.out.box
          have hxS : w2.heap.size < wS.heap.size := HA.out.blt
          dsimp only at s2
          have HKS : Hid (∀ W, Below wS.heap.size wS W → W.cell? ⟨B, 2, none⟩ = some (.slice pa ps.length pc) ∧ W.frozen? ⟨B, 2, none⟩ = false ∧ W.cell? ⟨w2.heap.size, 1, none⟩ = some (.string ⟨#[95, 95, 86, 65, 95, 65, 82, 71, 83, 95, 95]⟩)) := fun W hW => by
            obtain ⟨⟨_, _, s2, _, _⟩, ⟨_, _, s7, _, _⟩⟩ := (HLo.out W hW).box.facts
            exact ⟨s2, s7, (HLo.out W hW).txt⟩
          go_region_law ((refine step_append_any (by rfl) _ _ 22 (by rfl) w1.heap.size 9 i0 _ 1 16 Tryz.underlying22 hi hz0 hz1 hz2 (by rfl) (by decide) _ _ _ (by rfl) (HLo.out _ (by repeat' (first | exact Below.refl _ _ | apply Below.drew | apply Below.alloc | (simp; done)))).row ⟨wS.heap.size, 0, none⟩ 1 1 [.string ⟨#[95, 95, 86, 65, 95, 65, 82, 71, 83, 95, 95]⟩] (by rfl) (by rfl) (one_new wS _ _) (by simp [Value.oneCell']) (by unfold maxLen; omega) (by omega) (HLo.out _ (by repeat' (first | exact Below.refl _ _ | apply Below.drew | apply Below.alloc | (simp; done)))).base ?_; intro v4 w4 hown4 hg4 hob4; obtain ⟨a4, c4, rfl⟩ := row_is hown4; have haf := AppSt.after (HLo.out _ (by repeat' (first | exact Below.refl _ _ | apply Below.drew | apply Below.alloc | (simp; done)))) HBl.out (Nat.le_trans hB (Nat.le_of_lt HBl.out)) hg4; have s2' := haf.1.facts.1.2.2.1; have s7' := haf.1.facts.2.2.2.1; have HGot := hid (got_of haf.1 haf.2.2.1 haf.2.2.2 hB HBl.out hown4); clear haf hown4 hg4 hob4))
          all_goals
            generalize w4.setCell ⟨B, 2, none⟩ (.slice a4 (ps.length + 1) c4) = w5 at HGot ⊢
            clear s2' s7' s1 s2 s7 hBS hxS HKS HLo
            go_wp2_with fail
            refine (HTj.out _ HGot.out.below).mono ?_
            rintro e w6 ⟨rfl, hb6⟩
            have HG6 := hid (HGot.out.lower hb6)
            clear hb6 HGot
            rcases HPR.out with ⟨h1, hR⟩ | ⟨h1, h2, hR⟩ | ⟨h1, h2, hR⟩
            · have HRR := hid hR
              clear hR
              go_wp2_with fail
              go_ret2
              rw [HRR.out]
              exact ⟨by show Ending.returned (.tuple #[_, _]) = Ending.returned (.tuple #[.int .i64 ((i + 2 : Nat) : Int), _]); rw [show ((i + 2 : Nat) : Int) = (i : Int) + 1 + 1 from by omega]; rfl, HG6.out.below, a4, c4, HG6.out.box, HG6.out.stat⟩
            · have HRR := hid hR
              clear hR
              go_wp2_with fail
              have HNx := hid (got_next HG6.out HRR.out HFu.out hf1 hlen hfew HPos.out)
              clear HRR HG6 HPR
              exact ⟨⟨f - 1, i + 2, ps ++ [⟨#[95, 95, 86, 65, 95, 65, 82, 71, 83, 95, 95]⟩], true, a4, c4, two_val i, HNx.out.1, hid HNx.out.2⟩, less_r hi14 rfl⟩
            · have HRR := hid hR
              clear hR
              go_wp2_with fail
              go_ret2
              rw [HRR.out]
              exact ⟨by show Ending.returned (.tuple #[_, _]) = Ending.returned (.tuple #[.int .i64 ((i + 1 : Nat) : Int), _]); rw [show ((i + 1 : Nat) : Int) = (i : Int) + 1 from by omega]; rfl, HG6.out.below, a4, c4, HG6.out.box, HG6.out.stat⟩
      · have hR := par_wrong HS.out.is hf1 hw
        have HR := hid hR
        have hwb : (wrongP ps more (tokAt ts i) == 0) = false := by simpa using hw
        have hwb' : (wrongP ps more (tokAt ts i) != 0) = true := by simpa using hw
        generalize wrongP ps more (tokAt ts i) = wp at HWP HR hwb hwb'
        generalize tokAt ts i = x at HTi HWP
        clear hw hR
        go_wp2_with fail
        refine (HTi.out _ HS.out.below).mono ?_
        rintro e w2 ⟨rfl, hb2⟩
        have HS2 := hid (HS.out.lower hb2)
        have HS3 := hid (HS2.out.lower ((Below.refl _ w2).alloc (Nat.le_refl _) (.cells #[.int .i64 x.kind, .string x.text, .bool x.space, .bool x.first, .int .i64 x.file, .int .i64 x.lo, .int .i64 x.hi, .int .i64 x.line, .slice none 0 0, .slice none 0 0, .int .i64 0] 43)))
        clear hb2
        go_wp2_with fail
        refine (HWP.out _ HS3.out).mono ?_
        rintro e w3 ⟨rfl, hb3⟩
        have HS4 := hid (HS3.out.lower hb3)
        clear hb3
        go_wp2_with fail
        go_ret2
        rw [HR.out]
        exact ⟨rfl, HS4.out.below, pa, pc, HS4.out.box, HS4.out.stat⟩
  · rw [if_pos rfl]
    go_enter Tryz.func57, Tryz.ntmps57
    go_wp2_with fail
    refine (HT.out 2 _ HB.out).mono ?_
    rintro e w1 ⟨rfl, hb1⟩
    have HB1 := hid (HB.out.trans (hb1.mono HB.out.size))
    have HM1 := hid (HM.out.below hb1)
    clear hb1
    go_wp2_with fail
    go_ret2
    exact ⟨rfl, HB1.out, none, 0, HM1.out, .inl rfl⟩
end
section
open Go.RowKit Go.Shelf

/-- What head answers: name, whether it is called, parameters, whether the last one takes all, the next token, what is wrong. -/
structure Hd where
  name : ByteArray
  call : Bool
  params : List ByteArray
  more : Bool
  next : Nat
  err : Int
def headL (ts : List Tk) : Hd :=
  if (tokAt ts 0).kind == 1 then
    if builtinB (tokAt ts 0).text.toList then ⟨⟨#[]⟩, false, [], false, 0, 7⟩
    else if ((tokAt ts 1).text.toList == [40]) && !(tokAt ts 1).space then
      (let r := (if (tokAt ts 2).text.toList == [41] then ([], false, 3, 0) else parL ts 7 2 [] false)
       ⟨(tokAt ts 0).text, true, r.1, r.2.1, r.2.2.1, r.2.2.2⟩)
    else ⟨(tokAt ts 0).text, false, [], false, 1, 0⟩
  else ⟨⟨#[]⟩, false, [], false, 0, 2⟩
def HeadPost (w : World) (h : Hd) (e : Ending) (w' : World) : Prop := ∃ pa pc, e = .returned (.tuple #[.agg #[.string h.name, .bool h.call, .slice pa h.params.length pc, .bool h.more, .slice none 0 0], .int .i64 (h.next : Int), .int .i64 h.err]) ∧ StAt w' pa h.params ∧ Below w.heap.size w w'
theorem same5_alloc {W : World} {B : Nat} {n u0 : ByteArray} {b0 b1 u1 u3 : Bool} {a1 a2 c1 c2 : Option Addr} {n1 k1 n2 k2 m1 l1 m2 l2 : Nat} {T : TypeId} (h : W.heap[B]? = some (.cells #[.string u0, .bool u1, .slice c1 m1 l1, .bool u3, .slice c2 m2 l2] T)) (o : Obj) :
    ((((((W.setCell ⟨B, 0, none⟩ (.string n)).setCell ⟨B, 1, none⟩ (.bool b0)).setCell ⟨B, 2, none⟩ (.slice a1 n1 k1)).setCell ⟨B, 3, none⟩ (.bool b1)).setCell ⟨B, 4, none⟩ (.slice a2 n2 k2)).alloc o).heap[B]? = some (.cells #[.string n, .bool b0, .slice a1 n1 k1, .bool b1, .slice a2 n2 k2] T) := by
  have g1 := Go.Joins.block_setCell (i := 0) h (.string n)
  have g2 := Go.Joins.block_setCell (i := 1) g1 (.bool b0)
  have g3 := Go.Joins.block_setCell (i := 2) g2 (.slice a1 n1 k1)
  have g4 := Go.Joins.block_setCell (i := 3) g3 (.bool b1)
  have g5 := Go.Joins.block_setCell (i := 4) g4 (.slice a2 n2 k2)
  have hb := (Below.refl _ (((((W.setCell ⟨B, 0, none⟩ (.string n)).setCell ⟨B, 1, none⟩ (.bool b0)).setCell ⟨B, 2, none⟩ (.slice a1 n1 k1)).setCell ⟨B, 3, none⟩ (.bool b1)).setCell ⟨B, 4, none⟩ (.slice a2 n2 k2))).alloc (Nat.le_refl _) o
  exact (hb.block B (lt_of_block g5)).trans (by simpa using g5)
theorem same5_below {w W : World} {v0 v1 v2 v3 v4 : Value} (h : Below w.heap.size w W) (o : Obj) :
    Below w.heap.size w ((((((W.setCell ⟨w.heap.size, 0, none⟩ v0).setCell ⟨w.heap.size, 1, none⟩ v1).setCell ⟨w.heap.size, 2, none⟩ v2).setCell ⟨w.heap.size, 3, none⟩ v3).setCell ⟨w.heap.size, 4, none⟩ v4).alloc o) :=
  (((((h.setCell (p := ⟨w.heap.size, 0, none⟩) (Nat.le_refl _) _).setCell (p := ⟨w.heap.size, 1, none⟩) (Nat.le_refl _) _).setCell (p := ⟨w.heap.size, 2, none⟩) (Nat.le_refl _) _).setCell (p := ⟨w.heap.size, 3, none⟩) (Nat.le_refl _) _).setCell (p := ⟨w.heap.size, 4, none⟩) (Nat.le_refl _) _).alloc (by have := h.size; simp; omega) o
theorem name_box {W : World} {B : Nat} {u0 : ByteArray} {u1 u3 : Bool} {c1 c2 : Option Addr} {m1 l1 m2 l2 : Nat} (h : W.heap[B]? = some (.cells #[.string u0, .bool u1, .slice c1 m1 l1, .bool u3, .slice c2 m2 l2] 26)) (n : ByteArray) (o : Obj) :
    MBox ((W.setCell ⟨B, 0, none⟩ (.string n)).alloc o) B ⟨n, u1, c1, m1, l1, u3, c2, m2, l2⟩ := by
  have g1 := Go.Joins.block_setCell (i := 0) h (.string n)
  have hb := (Below.refl _ (W.setCell ⟨B, 0, none⟩ (.string n))).alloc (Nat.le_refl _) o
  exact (hb.block B (lt_of_block g1)).trans (by simpa using g1)
theorem name_below {w W : World} (h : Below w.heap.size w W) (v0 : Value) (o : Obj) : Below w.heap.size w ((W.setCell ⟨w.heap.size, 0, none⟩ v0).alloc o) :=
  (h.setCell (p := ⟨w.heap.size, 0, none⟩) (Nat.le_refl _) _).alloc (by have := h.size; simp; omega) o
theorem call_box {W : World} {B : Nat} {n : ByteArray} {u1 : Bool} (h : MBox W B ⟨n, u1, none, 0, 0, false, none, 0, 0⟩) (o : Obj) : MBox ((W.setCell ⟨B, 1, none⟩ (.bool true)).alloc o) B ⟨n, true, none, 0, 0, false, none, 0, 0⟩ := by
  have g1 := Go.Joins.block_setCell (i := 1) h (.bool true)
  have hb := (Below.refl _ (W.setCell ⟨B, 1, none⟩ (.bool true))).alloc (Nat.le_refl _) o
  exact (hb.block B (lt_of_block g1)).trans (by simpa using g1)
theorem call_below {w W : World} (h : Below w.heap.size w W) (v0 : Value) (o : Obj) : Below w.heap.size w ((W.setCell ⟨w.heap.size, 1, none⟩ v0).alloc o) :=
  (h.setCell (p := ⟨w.heap.size, 1, none⟩) (Nat.le_refl _) _).alloc (by have := h.size; simp; omega) o
theorem same5_heap {W : World} {B : Nat} {n : ByteArray} {b0 b1 : Bool} {a1 a2 : Option Addr} {n1 k1 n2 k2 : Nat} {T : TypeId} (h : W.heap[B]? = some (.cells #[.string n, .bool b0, .slice a1 n1 k1, .bool b1, .slice a2 n2 k2] T)) (k : Nat) : (((((W.setCell ⟨B, 0, none⟩ (.string n)).setCell ⟨B, 1, none⟩ (.bool b0)).setCell ⟨B, 2, none⟩ (.slice a1 n1 k1)).setCell ⟨B, 3, none⟩ (.bool b1)).setCell ⟨B, 4, none⟩ (.slice a2 n2 k2)).heap[k]? = W.heap[k]? := by
  by_cases hk : k = B
  · subst hk
    have g1 := Go.Joins.block_setCell (i := 0) h (.string n)
    have g2 := Go.Joins.block_setCell (i := 1) g1 (.bool b0)
    have g3 := Go.Joins.block_setCell (i := 2) g2 (.slice a1 n1 k1)
    have g4 := Go.Joins.block_setCell (i := 3) g3 (.bool b1)
    have g5 := Go.Joins.block_setCell (i := 4) g4 (.slice a2 n2 k2)
    rw [h]
    simpa using g5
  · rw [Below.heap_setCell _ _ _ k hk, Below.heap_setCell _ _ _ k hk, Below.heap_setCell _ _ _ k hk, Below.heap_setCell _ _ _ k hk, Below.heap_setCell _ _ _ k hk]
theorem same5_st {W : World} {B : Nat} {n : ByteArray} {b0 b1 : Bool} {a1 a2 : Option Addr} {n1 k1 n2 k2 : Nat} {T : TypeId} (h : W.heap[B]? = some (.cells #[.string n, .bool b0, .slice a1 n1 k1, .bool b1, .slice a2 n2 k2] T)) {pa : Option Addr} {ps : List ByteArray} (hS : StAt W pa ps) : StAt (((((W.setCell ⟨B, 0, none⟩ (.string n)).setCell ⟨B, 1, none⟩ (.bool b0)).setCell ⟨B, 2, none⟩ (.slice a1 n1 k1)).setCell ⟨B, 3, none⟩ (.bool b1)).setCell ⟨B, 4, none⟩ (.slice a2 n2 k2)) pa ps := by
  rcases hS with rfl | ⟨b, off, rfl, hb, hc⟩
  · exact .inl rfl
  · refine .inr ⟨b, off, rfl, by simpa using hb, fun j x hx => ?_⟩
    have := hc j x hx
    simp only [World.cell?, same5_heap h b] at this ⊢
    exact this
theorem same5_b {w W : World} {v0 v1 v2 v3 v4 : Value} (h : Below w.heap.size w W) : Below w.heap.size w (((((W.setCell ⟨w.heap.size, 0, none⟩ v0).setCell ⟨w.heap.size, 1, none⟩ v1).setCell ⟨w.heap.size, 2, none⟩ v2).setCell ⟨w.heap.size, 3, none⟩ v3).setCell ⟨w.heap.size, 4, none⟩ v4) :=
  ((((h.setCell (p := ⟨w.heap.size, 0, none⟩) (Nat.le_refl _) _).setCell (p := ⟨w.heap.size, 1, none⟩) (Nat.le_refl _) _).setCell (p := ⟨w.heap.size, 2, none⟩) (Nat.le_refl _) _).setCell (p := ⟨w.heap.size, 3, none⟩) (Nat.le_refl _) _).setCell (p := ⟨w.heap.size, 4, none⟩) (Nat.le_refl _) _
theorem head_ret {W : World} {F : Nat} {n : ByteArray} {b0 b1 : Bool} {pa : Option Addr} {pn pc : Nat} {v2 v3 : Value} (hF : W.heap[F]? = some (.cells #[.string n, .bool b0, .slice pa pn pc, .bool b1, .slice none 0 0] 26)) (tmps : Array Value) (h1 : tmps.getD 2 undef = .pointer (some ⟨F, 0, none⟩)) (h2 : tmps.getD 3 undef = v2) (h3 : tmps.getD 4 undef = v3) :
    (results Tryz.f30 tmps).run Tryz.prog W = .ok (.tuple #[.agg #[.string n, .bool b0, .slice pa pn pc, .bool b1, .slice none 0 0], v2, v3]) W := by
  obtain ⟨c0, c1, c2, c3, c4⟩ := mac_facts hF
  simp at h1 h2 h3
  simp [results, Tryz.results30, go_sem, h1, h2, h3, c0, c1, c2, c3, c4]

set_option maxRecDepth 100000 in
set_option maxHeartbeats 2000000 in
theorem head_any (Bl Be : Nat) (a : Option Addr) (c : Nat) (ts : List Tk) (w : World) (hN : NumAt w Bl Be a c ts) :
    Calls Tryz.prog 30 #[.func (.func 56) #[] #[.pointer (some ⟨Bl, 0, none⟩), .pointer (some ⟨Be, 0, none⟩)]] w (HeadPost w (headL ts)) := by
  have HT := hid (fun (i : Nat) W (hW : Below w.heap.size w W) => num_at Bl Be a c ts i W (hN.below hW))
  have HT0 := hid (fun W hW => HT.out 0 W hW)
  have HT1 := hid (fun W hW => HT.out 1 W hW)
  rw [show (((0 : Nat)) : Int) = 0 from rfl] at HT0
  rw [show (((1 : Nat)) : Int) = 1 from rfl] at HT1
  have HP := hid (fun nm B W h1 h2 h3 => params_any w B nm Bl Be a c ts W hN h1 h2 h3)
  unfold aggT at HT0 HT1
  have hB0 : Below w.heap.size w (w.alloc (.cells #[.string ⟨#[]⟩, .bool false, .slice none 0 0, .bool false, .slice none 0 0] 26)) := (Below.refl _ w).alloc (Nat.le_refl _) _
  have HB0 := hid hB0
  have eg : ∀ args w, (callFunc 56 args).run Tryz.prog w = .ok (.enter 56 args) w := enters_of Tryz.func56 (by kernel_rfl) rfl
  have HZ := hid (heap_alloc_new w (.cells #[.string ⟨#[]⟩, .bool false, .slice none 0 0, .bool false, .slice none 0 0] 26))
  clear hN hB0 HT
  unfold headL
  generalize (if (tokAt ts 2).text.toList == [41] then ([], false, 3, 0) else parL ts 7 2 [] false) = r at HP ⊢
  generalize tokAt ts 0 = x at HT0 ⊢
  generalize tokAt ts 1 = y at HT1 ⊢
  rcases hk : (x.kind == 1) with _ | _
  · have hkn : (x.kind != 1) = true := by simpa using hk
    rw [if_neg (by decide)]
    go_enter Tryz.func30, Tryz.ntmps30
    go_wp2_with fail
    refine (HT0.out _ HB0.out).mono ?_
    rintro e w1 ⟨rfl, hb1⟩
    have HZ1 := hid ((hb1.block _ (lt_of_block HZ.out)).trans HZ.out)
    have HB1 := hid (HB0.out.trans (hb1.mono HB0.out.size))
    obtain ⟨⟨m0, m1, m2, m3, m4⟩, ⟨n0, n1, n2, n3, n4⟩⟩ := MBox.facts (v := ⟨⟨#[]⟩, false, none, 0, 0, false, none, 0, 0⟩) HZ1.out
    have hlt := lt_of_block HZ1.out
    dsimp only at m0 m1 m2 m3 m4
    clear hb1
    go_wp2_with fail
    exact bodyPost_ret (head_ret (same5_alloc HZ1.out _) _ rfl rfl rfl) rfl ⟨none, 0, rfl, .inl rfl, same5_below HB1.out _⟩
  · have hkn : (x.kind != 1) = false := by simpa using hk
    rw [if_pos rfl]
    have HBu := hid (fun W => Builtin_any x.text W)
    generalize builtinB x.text.toList = bb at HBu ⊢
    cases bb with
    | true =>
      rw [if_pos rfl]
      go_enter Tryz.func30, Tryz.ntmps30
      go_wp2_with fail
      refine (HT0.out _ HB0.out).mono ?_
      rintro e w1 ⟨rfl, hb1⟩
      have HZ1 := hid ((hb1.block _ (lt_of_block HZ.out)).trans HZ.out)
      have HB1 := hid (HB0.out.trans (hb1.mono HB0.out.size))
      obtain ⟨⟨m0, m1, m2, m3, m4⟩, ⟨n0, n1, n2, n3, n4⟩⟩ := MBox.facts (v := ⟨⟨#[]⟩, false, none, 0, 0, false, none, 0, 0⟩) HZ1.out
      have hlt := lt_of_block HZ1.out
      dsimp only at m0 m1 m2 m3 m4
      clear hb1
      go_wp2_with fail
      refine (HBu.out _).mono ?_
      rintro e w2 ⟨rfl, hw2⟩
      subst w2
      go_wp2_with fail
      exact bodyPost_ret (head_ret (same5_alloc HZ1.out _) _ rfl rfl rfl) rfl ⟨none, 0, rfl, .inl rfl, same5_below HB1.out _⟩
    | false =>
      rw [if_neg (by decide)]
      rcases hy : (y.text.toList == [40]) with _ | _
      · rw [Bool.false_and, if_neg (by decide)]
        go_enter Tryz.func30, Tryz.ntmps30
        go_wp2_with fail
        refine (HT0.out _ HB0.out).mono ?_
        rintro e w1 ⟨rfl, hb1⟩
        have HZ1 := hid ((hb1.block _ (lt_of_block HZ.out)).trans HZ.out)
        have HB1 := hid (HB0.out.trans (hb1.mono HB0.out.size))
        obtain ⟨⟨m0, m1, m2, m3, m4⟩, ⟨n0, n1, n2, n3, n4⟩⟩ := MBox.facts (v := ⟨⟨#[]⟩, false, none, 0, 0, false, none, 0, 0⟩) HZ1.out
        have hlt := lt_of_block HZ1.out
        dsimp only at m0 m1 m2 m3 m4
        have HM2 := hid (name_box HZ1.out x.text (.cells #[.int .i64 x.kind, .string x.text, .bool x.space, .bool x.first, .int .i64 x.file, .int .i64 x.lo, .int .i64 x.hi, .int .i64 x.line, .slice none 0 0, .slice none 0 0, .int .i64 0] 43))
        have HB2 := hid (name_below HB1.out (.string x.text) (.cells #[.int .i64 x.kind, .string x.text, .bool x.space, .bool x.first, .int .i64 x.file, .int .i64 x.lo, .int .i64 x.hi, .int .i64 x.line, .slice none 0 0, .slice none 0 0, .int .i64 0] 43))
        clear hb1
        go_wp2_with fail
        refine (HBu.out _).mono ?_
        rintro e w2 ⟨rfl, hw2⟩
        subst w2
        go_wp2_with fail
        generalize (w1.setCell ⟨w.heap.size, 0, none⟩ (.string x.text)).alloc (.cells #[.int .i64 x.kind, .string x.text, .bool x.space, .bool x.first, .int .i64 x.file, .int .i64 x.lo, .int .i64 x.hi, .int .i64 x.line, .slice none 0 0, .slice none 0 0, .int .i64 0] 43) = w3 at HM2 HB2 ⊢
        clear m0 m1 m2 m3 m4 n0 n1 n2 n3 n4 HZ1 HB1 hlt
        refine (HT1.out _ HB2.out).mono ?_
        rintro e w4 ⟨rfl, hb4⟩
        have HM4 := hid (HM2.out.below hb4)
        have HB4 := hid (HB2.out.trans (hb4.mono HB2.out.size))
        obtain ⟨⟨m0, m1, m2, m3, m4⟩, ⟨n0, n1, n2, n3, n4⟩⟩ := HM4.out.facts
        have hlt := lt_of_block HM4.out
        dsimp only at m0 m1 m2 m3 m4
        clear hb4
        go_wp2_with fail
        exact bodyPost_ret (head_ret (same5_alloc HM4.out _) _ rfl rfl rfl) rfl ⟨none, 0, rfl, .inl rfl, same5_below HB4.out _⟩
      · rcases hs : y.space with _ | _
        · rw [show (true && !false) = true from rfl, if_pos rfl]
          dsimp only
          go_enter Tryz.func30, Tryz.ntmps30
          go_wp2_with fail
          refine (HT0.out _ HB0.out).mono ?_
          rintro e w1 ⟨rfl, hb1⟩
          have HZ1 := hid ((hb1.block _ (lt_of_block HZ.out)).trans HZ.out)
          have HB1 := hid (HB0.out.trans (hb1.mono HB0.out.size))
          obtain ⟨⟨m0, m1, m2, m3, m4⟩, ⟨n0, n1, n2, n3, n4⟩⟩ := MBox.facts (v := ⟨⟨#[]⟩, false, none, 0, 0, false, none, 0, 0⟩) HZ1.out
          have hlt := lt_of_block HZ1.out
          dsimp only at m0 m1 m2 m3 m4
          have HM2 := hid (name_box HZ1.out x.text (.cells #[.int .i64 x.kind, .string x.text, .bool x.space, .bool x.first, .int .i64 x.file, .int .i64 x.lo, .int .i64 x.hi, .int .i64 x.line, .slice none 0 0, .slice none 0 0, .int .i64 0] 43))
          have HB2 := hid (name_below HB1.out (.string x.text) (.cells #[.int .i64 x.kind, .string x.text, .bool x.space, .bool x.first, .int .i64 x.file, .int .i64 x.lo, .int .i64 x.hi, .int .i64 x.line, .slice none 0 0, .slice none 0 0, .int .i64 0] 43))
          clear hb1
          go_wp2_with fail
          refine (HBu.out _).mono ?_
          rintro e w2 ⟨rfl, hw2⟩
          subst w2
          go_wp2_with fail
          generalize (w1.setCell ⟨w.heap.size, 0, none⟩ (.string x.text)).alloc (.cells #[.int .i64 x.kind, .string x.text, .bool x.space, .bool x.first, .int .i64 x.file, .int .i64 x.lo, .int .i64 x.hi, .int .i64 x.line, .slice none 0 0, .slice none 0 0, .int .i64 0] 43) = w3 at HM2 HB2 ⊢
          clear m0 m1 m2 m3 m4 n0 n1 n2 n3 n4 HZ1 HB1 hlt
          refine (HT1.out _ HB2.out).mono ?_
          rintro e w4 ⟨rfl, hb4⟩
          have HM4 := hid (HM2.out.below hb4)
          have HB4 := hid (HB2.out.trans (hb4.mono HB2.out.size))
          obtain ⟨⟨m0, m1, m2, m3, m4⟩, ⟨n0, n1, n2, n3, n4⟩⟩ := HM4.out.facts
          have hlt := lt_of_block HM4.out
          dsimp only at m0 m1 m2 m3 m4
          clear hb4
          have HM5 := hid (call_box HM4.out (.cells #[.int .i64 y.kind, .string y.text, .bool false, .bool y.first, .int .i64 y.file, .int .i64 y.lo, .int .i64 y.hi, .int .i64 y.line, .slice none 0 0, .slice none 0 0, .int .i64 0] 43))
          have HB5 := hid (call_below HB4.out (.bool true) (.cells #[.int .i64 y.kind, .string y.text, .bool false, .bool y.first, .int .i64 y.file, .int .i64 y.lo, .int .i64 y.hi, .int .i64 y.line, .slice none 0 0, .slice none 0 0, .int .i64 0] 43))
          go_wp2_with fail
          generalize (w4.setCell ⟨w.heap.size, 1, none⟩ (.bool true)).alloc (.cells #[.int .i64 y.kind, .string y.text, .bool false, .bool y.first, .int .i64 y.file, .int .i64 y.lo, .int .i64 y.hi, .int .i64 y.line, .slice none 0 0, .slice none 0 0, .int .i64 0] 43) = w5 at HM5 HB5 ⊢
          clear m0 m1 m2 m3 m4 n0 n1 n2 n3 n4 HM4 HB4 hlt
          refine (HP.out x.text w.heap.size _ HB5.out (Nat.le_refl _) HM5.out).mono ?_
          rintro e w6 ⟨rfl, hb6, pa, pc, hM6, hS6⟩
          obtain ⟨⟨m0, m1, m2, m3, m4⟩, ⟨n0, n1, n2, n3, n4⟩⟩ := hM6.facts
          have hlt := lt_of_block hM6
          have HM6 := hid hM6
          have HS6 := hid hS6
          have HB6 := hid hb6
          dsimp only at m0 m1 m2 m3 m4
          clear hM6 hS6 hb6 HP
          go_wp2_with fail
          exact bodyPost_ret (head_ret ((same5_heap HM6.out _).trans HM6.out) _ rfl rfl rfl) rfl ⟨pa, pc, rfl, same5_st HM6.out HS6.out, same5_b HB6.out⟩
        · rw [show (true && !true) = false from rfl, if_neg (by decide)]
          go_enter Tryz.func30, Tryz.ntmps30
          go_wp2_with fail
          refine (HT0.out _ HB0.out).mono ?_
          rintro e w1 ⟨rfl, hb1⟩
          have HZ1 := hid ((hb1.block _ (lt_of_block HZ.out)).trans HZ.out)
          have HB1 := hid (HB0.out.trans (hb1.mono HB0.out.size))
          obtain ⟨⟨m0, m1, m2, m3, m4⟩, ⟨n0, n1, n2, n3, n4⟩⟩ := MBox.facts (v := ⟨⟨#[]⟩, false, none, 0, 0, false, none, 0, 0⟩) HZ1.out
          have hlt := lt_of_block HZ1.out
          dsimp only at m0 m1 m2 m3 m4
          have HM2 := hid (name_box HZ1.out x.text (.cells #[.int .i64 x.kind, .string x.text, .bool x.space, .bool x.first, .int .i64 x.file, .int .i64 x.lo, .int .i64 x.hi, .int .i64 x.line, .slice none 0 0, .slice none 0 0, .int .i64 0] 43))
          have HB2 := hid (name_below HB1.out (.string x.text) (.cells #[.int .i64 x.kind, .string x.text, .bool x.space, .bool x.first, .int .i64 x.file, .int .i64 x.lo, .int .i64 x.hi, .int .i64 x.line, .slice none 0 0, .slice none 0 0, .int .i64 0] 43))
          clear hb1
          go_wp2_with fail
          refine (HBu.out _).mono ?_
          rintro e w2 ⟨rfl, hw2⟩
          subst w2
          go_wp2_with fail
          generalize (w1.setCell ⟨w.heap.size, 0, none⟩ (.string x.text)).alloc (.cells #[.int .i64 x.kind, .string x.text, .bool x.space, .bool x.first, .int .i64 x.file, .int .i64 x.lo, .int .i64 x.hi, .int .i64 x.line, .slice none 0 0, .slice none 0 0, .int .i64 0] 43) = w3 at HM2 HB2 ⊢
          clear m0 m1 m2 m3 m4 n0 n1 n2 n3 n4 HZ1 HB1 hlt
          refine (HT1.out _ HB2.out).mono ?_
          rintro e w4 ⟨rfl, hb4⟩
          have HM4 := hid (HM2.out.below hb4)
          have HB4 := hid (HB2.out.trans (hb4.mono HB2.out.size))
          obtain ⟨⟨m0, m1, m2, m3, m4⟩, ⟨n0, n1, n2, n3, n4⟩⟩ := HM4.out.facts
          have hlt := lt_of_block HM4.out
          dsimp only at m0 m1 m2 m3 m4
          clear hb4
          go_wp2_with fail
          exact bodyPost_ret (head_ret (same5_alloc HM4.out _) _ rfl rfl rfl) rfl ⟨none, 0, rfl, .inl rfl, same5_below HB4.out _⟩
end
section
open Go.RowKit Go.Shelf

def isPar (ps : List ByteArray) (t : Tk) : Bool := (t.kind == 1) && Lib.containsS ps t.text
set_option maxRecDepth 100000 in
set_option maxHeartbeats 2000000 in
theorem isParam_any (B : Nat) (v : Mv) (ps : List ByteArray) (t : Tk) (w : World) (hB : MBox w B v) (hS : StAt w v.pa ps) (hn : v.pn = ps.length) (hl : ps.length ≤ 1048576) :
    Calls Tryz.prog 77 #[.pointer (some ⟨B, 0, none⟩), aggT t] w fun e w' => e = .returned (.bool (isPar ps t)) ∧ Below w.heap.size w w' := by
  obtain ⟨⟨b0, b1, b2, b3, b4⟩, _⟩ := hB.facts
  have hlb := lt_of_block hB
  have HC := hid (fun W (h : Below w.heap.size w W) => contains_any v.pa v.pc ps t.text W (hS.below h) hl)
  rw [← hn] at HC
  have HB := hid ((Below.refl _ w).alloc (Nat.le_refl _) (.cells #[.int .i64 t.kind, .string t.text, .bool t.space, .bool t.first, .int .i64 t.file, .int .i64 t.lo, .int .i64 t.hi, .int .i64 t.line, .slice none 0 0, .slice none 0 0, .int .i64 0] 43))
  have HT1 := hid (show (w.alloc (.cells #[.int .i64 t.kind, .string t.text, .bool t.space, .bool t.first, .int .i64 t.file, .int .i64 t.lo, .int .i64 t.hi, .int .i64 t.line, .slice none 0 0, .slice none 0 0, .int .i64 0] 43)).cell? ⟨w.heap.size, 1, none⟩ = some (.string t.text) by rw [Go.Joins.cell_of_block (heap_alloc_new w _)]; rfl)
  have HT0 := hid (show (w.alloc (.cells #[.int .i64 t.kind, .string t.text, .bool t.space, .bool t.first, .int .i64 t.file, .int .i64 t.lo, .int .i64 t.hi, .int .i64 t.line, .slice none 0 0, .slice none 0 0, .int .i64 0] 43)).cell? ⟨w.heap.size, 0, none⟩ = some (.int .i64 t.kind) by rw [Go.Joins.cell_of_block (heap_alloc_new w _)]; rfl)
  have HP2 := hid ((HB.out.cell (p := ⟨B, 2, none⟩) hlb).trans b2)
  unfold isPar aggT
  generalize Lib.containsS ps t.text = cb at HC ⊢
  obtain ⟨vn, vc, vpa, vpn, vpc, vm, vba, vbn, vbc⟩ := v
  dsimp only at b0 b1 b2 b3 b4 HC HP2 ⊢
  clear hB hS hn hl
  rcases hk : (t.kind == 1) with _ | _
  · go_enter Tryz.func77, Tryz.ntmps77
    go_wp2_with fail
    generalize hwA : w.alloc (.cells #[.int .i64 t.kind, .string t.text, .bool t.space, .bool t.first, .int .i64 t.file, .int .i64 t.lo, .int .i64 t.hi, .int .i64 t.line, .slice none 0 0, .slice none 0 0, .int .i64 0] 43) = wA at HB HT0 HT1 HP2 ⊢
    have hnn : Nonempty (Later wA) := ⟨⟨_, Below.refl _ _⟩⟩
    have r0 := Later.cell HT0.out
    have r1 := Later.cell HT1.out
    have r2 := Later.cell HP2.out
    have HSL : Hid (∀ p : Later wA, Below w.heap.size w p.W) := fun p => HB.out.trans (p.hb.mono HB.out.size)
    clear hwA
    refine region_later (by kernel_rfl) (by kernel_rfl) ?_
    repeat (first | go_big_quiet_step (fail) | quiet_step (fail))
    refine wpQuiet_nil ?_
    rintro _ ⟨p, rfl⟩
    have HB1 := hid (HSL.out p)
    clear r0 r1 r2 hnn HSL
    generalize p.W = w1 at HB1 ⊢
    go_wp2_with fail
    go_ret
    exact ⟨rfl, HB1.out⟩
  · go_enter Tryz.func77, Tryz.ntmps77
    go_wp2_with fail
    generalize hwA : w.alloc (.cells #[.int .i64 t.kind, .string t.text, .bool t.space, .bool t.first, .int .i64 t.file, .int .i64 t.lo, .int .i64 t.hi, .int .i64 t.line, .slice none 0 0, .slice none 0 0, .int .i64 0] 43) = wA at HB HT0 HT1 HP2 ⊢
    have hnn : Nonempty (Later wA) := ⟨⟨_, Below.refl _ _⟩⟩
    have r0 := Later.cell HT0.out
    have r1 := Later.cell HT1.out
    have r2 := Later.cell HP2.out
    have HSL : Hid (∀ p : Later wA, Below w.heap.size w p.W) := fun p => HB.out.trans (p.hb.mono HB.out.size)
    clear hwA
    refine region_later (by kernel_rfl) (by kernel_rfl) ?_
    repeat (quiet_step ((go_at_call 51; exact Calls.later (HC.out _ (HSL.out _)))))
    refine wpQuiet_nil ?_
    rintro _ ⟨p, rfl⟩
    have HB1 := hid (HSL.out p)
    clear r0 r1 r2 hnn HSL
    generalize p.W = w1 at HB1 ⊢
    go_wp2_with fail
    go_ret
    exact ⟨rfl, HB1.out⟩
/-- Why a body's token can't stand where it does. -/
def wrongBd (call more : Bool) (ps : List ByteArray) (bs : List Tk) (i : Nat) : Int :=
  if ((tokAt bs i).kind == 5) && ((tokAt bs i).text.toList == [35, 35]) && (decide (i = 0) || decide (i + 1 = bs.length)) then 2
  else if ((tokAt bs i).kind == 5) && ((tokAt bs i).text.toList == [35]) && call && !isPar ps (tokAt bs (i + 1)) then 2
  else if ((tokAt bs i).kind == 1) && ((tokAt bs i).text.toList == restL) && !more then 7
  else 0
set_option maxRecDepth 100000 in
set_option maxHeartbeats 2000000 in
theorem wrongBody_any (B Bl Be : Nat) (v : Mv) (ps : List ByteArray) (a : Option Addr) (c : Nat) (bs : List Tk) (i : Nat) (w : World) (hB : MBox w B v) (hS : StAt w v.pa ps) (hn : v.pn = ps.length) (hl : ps.length ≤ 1048576) (hN : NumAt w Bl Be a c bs) (hbn : v.bn = bs.length) (hi : i < bs.length) (hbl : bs.length ≤ 60) :
    Calls Tryz.prog 58 #[.pointer (some ⟨B, 0, none⟩), .func (.func 56) #[] #[.pointer (some ⟨Bl, 0, none⟩), .pointer (some ⟨Be, 0, none⟩)], .int .i64 (i : Int)] w fun e w' => e = .returned (.int .i64 (wrongBd v.call v.more ps bs i)) ∧ Below w.heap.size w w' := by
  have HTi := hid (fun W (hW : Below w.heap.size w W) => num_at Bl Be a c bs i W (hN.below hW))
  have HTj := hid (fun W (hW : Below w.heap.size w W) => num_at Bl Be a c bs (i + 1) W (hN.below hW))
  push_cast at HTj
  have HIP := hid (fun t W (h : Below w.heap.size w W) => isParam_any B v ps t W (hB.below h) (hS.below h) hn hl)
  have HBX := hid hB
  have eg : ∀ args w, (callFunc 56 args).run Tryz.prog w = .ok (.enter 56 args) w := enters_of Tryz.func56 (by kernel_rfl) rfl
  unfold wrongBd restL
  generalize tokAt bs i = x at HTi ⊢
  generalize tokAt bs (i + 1) = y at HTj ⊢
  unfold aggT at HTi HTj HIP
  have HIY := hid (fun W h => HIP.out y W h)
  obtain ⟨p, hp⟩ : ∃ p, bs.length = p + 1 := ⟨bs.length - 1, by omega⟩
  have hdn : decide (i + 1 = bs.length) = decide (i = p) := decide_eq_decide.2 (by omega)
  rw [hdn]
  rw [hp] at hbn
  have hpw : IntKind.i64.wrap ((v.bn : Int) - 1) = (p : Int) := by rw [hbn, IntKind.wrap_i64]; omega
  have hpw2 : wrap64 ((v.bn : Int) - 1) = (p : Int) := by rw [hbn]; unfold wrap64; omega
  have hip := nxt_k (k := i) (by omega)
  have hiw := nxt_w (k := i) (by omega)
  generalize isPar ps y = pb at HIY ⊢
  obtain ⟨vn, vc, vpa, vpn, vpc, vm, vba, vbn, vbc⟩ := v
  dsimp only at HIY hpw hpw2 ⊢
  clear hB hS hn hl hN hbn hi hbl hdn hp HIP
  rcases k5 : (x.kind == 5) with _ | _
  · simp only [Bool.false_and, Bool.false_eq_true, if_false]
    rcases k1 : (x.kind == 1) with _ | _
    · simp only [Bool.false_and, Bool.false_eq_true, if_false]
      go_enter Tryz.func58, Tryz.ntmps58
      go_wp2_with fail
      refine (HTi.out _ (Below.refl _ _)).mono ?_
      rintro e w1 ⟨rfl, hb1⟩
      have HB1 := hid hb1
      have HB2 := hid (hb1.alloc hb1.size (.cells #[.int .i64 x.kind, .string x.text, .bool x.space, .bool x.first, .int .i64 x.file, .int .i64 x.lo, .int .i64 x.hi, .int .i64 x.line, .slice none 0 0, .slice none 0 0, .int .i64 0] 43))
      obtain ⟨⟨m0, m1, m2, m3, m4⟩, _⟩ := (HBX.out.below hb1).facts
      have hlt := lt_of_block (HBX.out.below hb1)
      dsimp only at m0 m1 m2 m3 m4
      clear hb1
      go_wp2_with fail
      go_ret
      exact ⟨rfl, HB2.out⟩
    · rcases tr : (x.text.toList == [95, 95, 86, 65, 95, 65, 82, 71, 83, 95, 95]) with _ | _
      · simp only [Bool.and_false, Bool.false_and, Bool.false_eq_true, if_false]
        go_enter Tryz.func58, Tryz.ntmps58
        go_wp2_with fail
        refine (HTi.out _ (Below.refl _ _)).mono ?_
        rintro e w1 ⟨rfl, hb1⟩
        have HB1 := hid hb1
        have HB2 := hid (hb1.alloc hb1.size (.cells #[.int .i64 x.kind, .string x.text, .bool x.space, .bool x.first, .int .i64 x.file, .int .i64 x.lo, .int .i64 x.hi, .int .i64 x.line, .slice none 0 0, .slice none 0 0, .int .i64 0] 43))
        obtain ⟨⟨m0, m1, m2, m3, m4⟩, _⟩ := (HBX.out.below hb1).facts
        have hlt := lt_of_block (HBX.out.below hb1)
        dsimp only at m0 m1 m2 m3 m4
        clear hb1
        go_wp2_with fail
        go_ret
        exact ⟨rfl, HB2.out⟩
      · cases vm with
        | true =>
          simp only [Bool.not_true, Bool.and_false, Bool.false_eq_true, if_false]
          go_enter Tryz.func58, Tryz.ntmps58
          go_wp2_with fail
          refine (HTi.out _ (Below.refl _ _)).mono ?_
          rintro e w1 ⟨rfl, hb1⟩
          have HB1 := hid hb1
          have HB2 := hid (hb1.alloc hb1.size (.cells #[.int .i64 x.kind, .string x.text, .bool x.space, .bool x.first, .int .i64 x.file, .int .i64 x.lo, .int .i64 x.hi, .int .i64 x.line, .slice none 0 0, .slice none 0 0, .int .i64 0] 43))
          obtain ⟨⟨m0, m1, m2, m3, m4⟩, _⟩ := (HBX.out.below hb1).facts
          have hlt := lt_of_block (HBX.out.below hb1)
          dsimp only at m0 m1 m2 m3 m4
          clear hb1
          go_wp2_with fail
          go_ret
          exact ⟨rfl, HB2.out⟩
        | false =>
          simp only [Bool.not_false, Bool.and_self, if_true]
          go_enter Tryz.func58, Tryz.ntmps58
          go_wp2_with fail
          refine (HTi.out _ (Below.refl _ _)).mono ?_
          rintro e w1 ⟨rfl, hb1⟩
          have HB1 := hid hb1
          have HB2 := hid (hb1.alloc hb1.size (.cells #[.int .i64 x.kind, .string x.text, .bool x.space, .bool x.first, .int .i64 x.file, .int .i64 x.lo, .int .i64 x.hi, .int .i64 x.line, .slice none 0 0, .slice none 0 0, .int .i64 0] 43))
          obtain ⟨⟨m0, m1, m2, m3, m4⟩, _⟩ := (HBX.out.below hb1).facts
          have hlt := lt_of_block (HBX.out.below hb1)
          dsimp only at m0 m1 m2 m3 m4
          clear hb1
          go_wp2_with fail
          go_ret
          exact ⟨rfl, HB2.out⟩
  · have k1 : (x.kind == 1) = false := by rw [beq_eq_false_iff_ne]; rw [beq_iff_eq] at k5; omega
    rw [k1]
    simp only [Bool.true_and, Bool.false_and, Bool.false_eq_true, if_false]
    rcases t2 : (x.text.toList == [35, 35]) with _ | _
    · simp only [Bool.false_and, Bool.false_eq_true, if_false]
      rcases t1 : (x.text.toList == [35]) with _ | _
      · simp only [Bool.false_and, Bool.false_eq_true, if_false]
        go_enter Tryz.func58, Tryz.ntmps58
        go_wp2_with fail
        refine (HTi.out _ (Below.refl _ _)).mono ?_
        rintro e w1 ⟨rfl, hb1⟩
        have HB1 := hid hb1
        have HB2 := hid (hb1.alloc hb1.size (.cells #[.int .i64 x.kind, .string x.text, .bool x.space, .bool x.first, .int .i64 x.file, .int .i64 x.lo, .int .i64 x.hi, .int .i64 x.line, .slice none 0 0, .slice none 0 0, .int .i64 0] 43))
        obtain ⟨⟨m0, m1, m2, m3, m4⟩, _⟩ := (HBX.out.below hb1).facts
        have hlt := lt_of_block (HBX.out.below hb1)
        dsimp only at m0 m1 m2 m3 m4
        clear hb1
        go_wp2_with fail
        go_ret
        exact ⟨rfl, HB2.out⟩
      · cases vc with
        | false =>
          simp only [Bool.and_false, Bool.false_and, Bool.false_eq_true, if_false]
          go_enter Tryz.func58, Tryz.ntmps58
          go_wp2_with fail
          refine (HTi.out _ (Below.refl _ _)).mono ?_
          rintro e w1 ⟨rfl, hb1⟩
          have HB1 := hid hb1
          have HB2 := hid (hb1.alloc hb1.size (.cells #[.int .i64 x.kind, .string x.text, .bool x.space, .bool x.first, .int .i64 x.file, .int .i64 x.lo, .int .i64 x.hi, .int .i64 x.line, .slice none 0 0, .slice none 0 0, .int .i64 0] 43))
          obtain ⟨⟨m0, m1, m2, m3, m4⟩, _⟩ := (HBX.out.below hb1).facts
          have hlt := lt_of_block (HBX.out.below hb1)
          dsimp only at m0 m1 m2 m3 m4
          clear hb1
          go_wp2_with fail
          go_ret
          exact ⟨rfl, HB2.out⟩
        | true =>
          cases pb with
          | true =>
            simp only [Bool.not_true, Bool.and_false, Bool.false_eq_true, if_false]
            go_enter Tryz.func58, Tryz.ntmps58
            go_wp2_with fail
            refine (HTi.out _ (Below.refl _ _)).mono ?_
            rintro e w1 ⟨rfl, hb1⟩
            have HB1 := hid hb1
            have HB2 := hid (hb1.alloc hb1.size (.cells #[.int .i64 x.kind, .string x.text, .bool x.space, .bool x.first, .int .i64 x.file, .int .i64 x.lo, .int .i64 x.hi, .int .i64 x.line, .slice none 0 0, .slice none 0 0, .int .i64 0] 43))
            obtain ⟨⟨m0, m1, m2, m3, m4⟩, _⟩ := (HBX.out.below hb1).facts
            have hlt := lt_of_block (HBX.out.below hb1)
            dsimp only at m0 m1 m2 m3 m4
            clear hb1
            go_wp2_with fail
            refine (HTj.out _ HB2.out).mono ?_
            rintro e w2 ⟨rfl, hb2⟩
            have HB3 := hid (HB2.out.trans (hb2.mono HB2.out.size))
            have hX2 := (hb2.block w1.heap.size (by simp)).trans (heap_alloc_new w1 _)
            have hM2 := (HBX.out.below HB3.out).facts.1
            obtain ⟨q0, q1, q2, q3, q4⟩ := hM2
            dsimp only at q0 q1 q2 q3 q4
            obtain ⟨⟨x0, x1, x2, x3, x4, x5, x6, x7, x8, x9, x10⟩, _⟩ := tok_block hX2
            clear hb2 hX2 m0 m1 m2 m3 m4
            go_wp2_with fail
            refine (HIY.out _ HB3.out).mono ?_
            rintro e w3 ⟨rfl, hb3⟩
            have HB4 := hid (HB3.out.trans (hb3.mono HB3.out.size))
            have y0 := (hb3.cell (p := ⟨w1.heap.size, 0, none⟩) (World.block_lt_of_cell? _ _ x0)).trans x0
            have y1 := (hb3.cell (p := ⟨w1.heap.size, 1, none⟩) (World.block_lt_of_cell? _ _ x1)).trans x1
            clear hb3 x0 x1 x2 x3 x4 x5 x6 x7 x8 x9 x10 q0 q1 q2 q3 q4
            go_wp2_with fail
            go_ret
            exact ⟨rfl, HB4.out⟩
          | false =>
            simp only [Bool.not_false, Bool.and_self, if_true]
            go_enter Tryz.func58, Tryz.ntmps58
            go_wp2_with fail
            refine (HTi.out _ (Below.refl _ _)).mono ?_
            rintro e w1 ⟨rfl, hb1⟩
            have HB1 := hid hb1
            have HB2 := hid (hb1.alloc hb1.size (.cells #[.int .i64 x.kind, .string x.text, .bool x.space, .bool x.first, .int .i64 x.file, .int .i64 x.lo, .int .i64 x.hi, .int .i64 x.line, .slice none 0 0, .slice none 0 0, .int .i64 0] 43))
            obtain ⟨⟨m0, m1, m2, m3, m4⟩, _⟩ := (HBX.out.below hb1).facts
            have hlt := lt_of_block (HBX.out.below hb1)
            dsimp only at m0 m1 m2 m3 m4
            clear hb1
            go_wp2_with fail
            refine (HTj.out _ HB2.out).mono ?_
            rintro e w2 ⟨rfl, hb2⟩
            have HB3 := hid (HB2.out.trans (hb2.mono HB2.out.size))
            have hX2 := (hb2.block w1.heap.size (by simp)).trans (heap_alloc_new w1 _)
            have hM2 := (HBX.out.below HB3.out).facts.1
            obtain ⟨q0, q1, q2, q3, q4⟩ := hM2
            dsimp only at q0 q1 q2 q3 q4
            obtain ⟨⟨x0, x1, x2, x3, x4, x5, x6, x7, x8, x9, x10⟩, _⟩ := tok_block hX2
            clear hb2 hX2 m0 m1 m2 m3 m4
            go_wp2_with fail
            refine (HIY.out _ HB3.out).mono ?_
            rintro e w3 ⟨rfl, hb3⟩
            have HB4 := hid (HB3.out.trans (hb3.mono HB3.out.size))
            have y0 := (hb3.cell (p := ⟨w1.heap.size, 0, none⟩) (World.block_lt_of_cell? _ _ x0)).trans x0
            have y1 := (hb3.cell (p := ⟨w1.heap.size, 1, none⟩) (World.block_lt_of_cell? _ _ x1)).trans x1
            clear hb3 x0 x1 x2 x3 x4 x5 x6 x7 x8 x9 x10 q0 q1 q2 q3 q4
            go_wp2_with fail
            go_ret
            exact ⟨rfl, HB4.out⟩
    · have t1 : (x.text.toList == [35]) = false := by rw [beq_eq_false_iff_ne]; rw [beq_iff_eq] at t2; rw [t2]; decide
      rw [t1]
      simp only [Bool.true_and, Bool.false_and, Bool.false_eq_true, if_false]
      by_cases h0 : i = 0
      · subst h0
        simp only [decide_true, Bool.true_or, if_true]
        rw [show (((0 : Nat)) : Int) = 0 from rfl] at *
        go_enter Tryz.func58, Tryz.ntmps58
        go_wp2_with fail
        refine (HTi.out _ (Below.refl _ _)).mono ?_
        rintro e w1 ⟨rfl, hb1⟩
        have HB1 := hid hb1
        have HB2 := hid (hb1.alloc hb1.size (.cells #[.int .i64 x.kind, .string x.text, .bool x.space, .bool x.first, .int .i64 x.file, .int .i64 x.lo, .int .i64 x.hi, .int .i64 x.line, .slice none 0 0, .slice none 0 0, .int .i64 0] 43))
        obtain ⟨⟨m0, m1, m2, m3, m4⟩, _⟩ := (HBX.out.below hb1).facts
        have hlt := lt_of_block (HBX.out.below hb1)
        dsimp only at m0 m1 m2 m3 m4
        clear hb1
        go_wp2_with fail
        go_ret
        exact ⟨rfl, HB2.out⟩
      · have h0i : ((i : Int) == 0) = false := by rw [beq_eq_false_iff_ne]; omega
        rw [decide_eq_false h0, Bool.false_or]
        clear h0
        by_cases hpi : i = p
        · subst hpi
          simp only [decide_true, if_true]
          go_enter Tryz.func58, Tryz.ntmps58
          go_wp2_with fail
          refine (HTi.out _ (Below.refl _ _)).mono ?_
          rintro e w1 ⟨rfl, hb1⟩
          have HB1 := hid hb1
          have HB2 := hid (hb1.alloc hb1.size (.cells #[.int .i64 x.kind, .string x.text, .bool x.space, .bool x.first, .int .i64 x.file, .int .i64 x.lo, .int .i64 x.hi, .int .i64 x.line, .slice none 0 0, .slice none 0 0, .int .i64 0] 43))
          obtain ⟨⟨m0, m1, m2, m3, m4⟩, _⟩ := (HBX.out.below hb1).facts
          have hlt := lt_of_block (HBX.out.below hb1)
          dsimp only at m0 m1 m2 m3 m4
          clear hb1
          go_wp2_with fail
          go_ret
          exact ⟨rfl, HB2.out⟩
        · have hpb : ((i : Int) == (p : Int)) = false := by rw [beq_eq_false_iff_ne]; omega
          rw [decide_eq_false hpi]
          simp only [Bool.false_eq_true, if_false]
          clear hpi
          go_enter Tryz.func58, Tryz.ntmps58
          go_wp2_with fail
          refine (HTi.out _ (Below.refl _ _)).mono ?_
          rintro e w1 ⟨rfl, hb1⟩
          have HB1 := hid hb1
          have HB2 := hid (hb1.alloc hb1.size (.cells #[.int .i64 x.kind, .string x.text, .bool x.space, .bool x.first, .int .i64 x.file, .int .i64 x.lo, .int .i64 x.hi, .int .i64 x.line, .slice none 0 0, .slice none 0 0, .int .i64 0] 43))
          obtain ⟨⟨m0, m1, m2, m3, m4⟩, _⟩ := (HBX.out.below hb1).facts
          have hlt := lt_of_block (HBX.out.below hb1)
          dsimp only at m0 m1 m2 m3 m4
          clear hb1
          go_wp2_with fail
          go_ret
          exact ⟨rfl, HB2.out⟩
end
end Go.Proofs.YtedmcefckcmheaaGreatDoor
