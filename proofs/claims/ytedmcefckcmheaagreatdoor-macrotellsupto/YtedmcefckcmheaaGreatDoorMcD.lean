/- Walk of body. · Walk of body where nothing is left. · Walk of Parse. · Walk of Parse: what is wrong, or a definition. -/
import Derived.Test.YtedmcefckcmheaaGreatDoorMcC
namespace Go.Proofs.YtedmcefckcmheaaGreatDoor
section
open Go.RowKit Go.Shelf

/-- A body's token. -/
def bodyT (k : Nat) (x : Tk) : Tk := ⟨x.kind, x.text, x.space && decide (0 < k), false, x.file, x.lo, x.hi, x.line⟩
def bodyL (ts : List Tk) (i k : Nat) : List Tk := (List.range k).map fun j => bodyT j (tokAt ts (i + j))
theorem bodyL_succ (ts : List Tk) (i k : Nat) : bodyL ts i (k + 1) = bodyL ts i k ++ [bodyT k (tokAt ts (i + k))] := by simp [bodyL, List.range_succ]
theorem bodyL_length (ts : List Tk) (i k : Nat) : (bodyL ts i k).length = k := by simp [bodyL]
/-- The state of the first loop. -/
structure BodSt (w0 : World) (B base : Nat) (nm : ByteArray) (call more : Bool) (pa : Option Addr) (pn pc : Nat) (bs : List Tk) (ba : Option Addr) (bc : Nat) (W : World) : Prop where
  below : Below w0.heap.size w0 W
  box : MBox W B ⟨nm, call, pa, pn, pc, more, ba, bs.length, bc⟩
  row : W.ownsRow base 43 11 (.slice ba bs.length bc) bs.length (cellsT bs)
  base : base ≤ W.heap.size
theorem BodSt.lower {w0 : World} {B base : Nat} {nm : ByteArray} {call more : Bool} {pa : Option Addr} {pn pc : Nat} {bs : List Tk} {ba : Option Addr} {bc : Nat} {W W' : World} (h : BodSt w0 B base nm call more pa pn pc bs ba bc W) (hb : Below W.heap.size W W') : BodSt w0 B base nm call more pa pn pc bs ba bc W' :=
  ⟨h.below.trans (hb.mono h.below.size), h.box.below hb, own_below h.row hb, Nat.le_trans h.base hb.size⟩
theorem BodSt.tat {w0 : World} {B base : Nat} {nm : ByteArray} {call more : Bool} {pa : Option Addr} {pn pc : Nat} {bs : List Tk} {ba : Option Addr} {bc : Nat} {W : World} (h : BodSt w0 B base nm call more pa pn pc bs ba bc W) : TAt W ba bs := by
  obtain ⟨a, c, e, hs⟩ := TAt.of_row h.row
  cases e
  exact hs
theorem bodyT_is (k : Nat) (x : Tk) (s : Bool) (h : (x.space && decide (0 < k)) = s) : bodyT k x = ⟨x.kind, x.text, s, false, x.file, x.lo, x.hi, x.line⟩ := by unfold bodyT; rw [h]
theorem few_max {k : Nat} (h : k ≤ 60) : k + 1 ≤ maxLen := by unfold maxLen; omega
theorem few_bytes {k : Nat} (h : k ≤ 60) : (k + 1) * 120 ≤ 140737488355328 := by omega
theorem own_same (ba : Option Addr) (n c m d : Nat) : (Value.slice ba n c).ownBlock = (Value.slice ba m d).ownBlock := by cases ba <;> rfl
theorem BodSt.after {w0 : World} {B base : Nat} {nm : ByteArray} {call more : Bool} {pa : Option Addr} {pn pc : Nat} {bs : List Tk} {ba : Option Addr} {bc k : Nat} {W : World} (h : BodSt w0 B base nm call more pa pn pc bs ba bc W) (hBb : B < base) (hw0 : w0.heap.size ≤ base) {w4 : World} (hg' : W.grownBy w4 (Value.slice ba k bc).ownBlock) :
    MBox w4 B ⟨nm, call, pa, pn, pc, more, ba, bs.length, bc⟩ ∧ Below w0.heap.size w0 w4 ∧ base ≤ w4.heap.size := by
  have hg : W.grownBy w4 (Value.slice ba bs.length bc).ownBlock := by rw [own_same ba bs.length bc k bc]; exact hg'
  have hrl : ∀ k, (Value.slice ba bs.length bc).ownBlock = some k → base ≤ k := fun k e => (h.row.lt k e).1
  have hB := hg.block B (lt_of_block h.box) (fun e => by have := hrl B e.symm; omega)
  exact ⟨hB.trans h.box, h.below.grown hg h.below.size (fun k e => Nat.le_trans hw0 (hrl k e)), Nat.le_trans h.base hg.size⟩
theorem bod_got {w0 : World} {B base : Nat} {nm : ByteArray} {call more : Bool} {pa : Option Addr} {pn pc : Nat} {bs : List Tk} {ba a4 : Option Addr} {bc c4 : Nat} {w4 : World} (hM : MBox w4 B ⟨nm, call, pa, pn, pc, more, ba, bs.length, bc⟩) (hb : Below w0.heap.size w0 w4) (hs : base ≤ w4.heap.size) (hB : w0.heap.size ≤ B) (hBb : B < base) {k : Nat} (hk : bs.length = k) (t : Tk) (ho : w4.ownsRow base 43 11 (.slice a4 (k + 1) c4) (k + 1) (cellsT bs ++ encT t)) :
    BodSt w0 B base nm call more pa pn pc (bs ++ [t]) a4 c4 (w4.setCell ⟨B, 4, none⟩ (.slice a4 (k + 1) c4)) := by
  have hbx := Go.Joins.block_setCell (i := 4) hM (.slice a4 (k + 1) c4)
  have hl : (bs ++ [t]).length = k + 1 := by rw [List.length_append, hk]; rfl
  refine ⟨hb.setCell (p := ⟨B, 4, none⟩) hB _, ?_, ?_, by simpa using hs⟩
  · unfold MBox
    rw [hl]
    simpa using hbx
  · rw [hl, cellsT_snoc]
    exact own_set ho hBb
/-- The first token that is wrong. -/
def firstBad (call more : Bool) (ps : List ByteArray) (bs : List Tk) : Nat → Nat → Nat × Int
  | 0, _ => (0, 0)
  | f + 1, k => if k < bs.length then (if wrongBd call more ps bs k ≠ 0 then (k, wrongBd call more ps bs k) else firstBad call more ps bs f (k + 1)) else (0, 0)
theorem fb_bad {call more : Bool} {ps : List ByteArray} {bs : List Tk} {f j : Nat} {F : Nat × Int} (h : firstBad call more ps bs f j = F) (hf : 1 ≤ f) (hj : j < bs.length) (hw : wrongBd call more ps bs j ≠ 0) : F = (j, wrongBd call more ps bs j) := by
  obtain ⟨g, rfl⟩ : ∃ g, f = g + 1 := ⟨f - 1, by omega⟩
  unfold firstBad at h
  rw [if_pos hj, if_pos hw] at h
  exact h.symm
theorem fb_ok {call more : Bool} {ps : List ByteArray} {bs : List Tk} {f j : Nat} {F : Nat × Int} (h : firstBad call more ps bs f j = F) (hf : 1 ≤ f) (hj : j < bs.length) (hw : wrongBd call more ps bs j = 0) : firstBad call more ps bs (f - 1) (j + 1) = F := by
  obtain ⟨g, rfl⟩ : ∃ g, f = g + 1 := ⟨f - 1, by omega⟩
  unfold firstBad at h
  rw [if_pos hj, if_neg (by rw [hw]; decide)] at h
  exact h
theorem fb_end {call more : Bool} {ps : List ByteArray} {bs : List Tk} {f j : Nat} {F : Nat × Int} (h : firstBad call more ps bs f j = F) (hf : 1 ≤ f) (hj : ¬ j < bs.length) : F = (0, 0) := by
  obtain ⟨g, rfl⟩ : ∃ g, f = g + 1 := ⟨f - 1, by omega⟩
  unfold firstBad at h
  rw [if_neg hj] at h
  exact h.symm
theorem fuel_one {f j k : Nat} (h : 61 ≤ f + j) (hj : j ≤ k) (hk : k ≤ 60) : 1 ≤ f := by omega
theorem fuel_next {f j : Nat} (h : 61 ≤ f + j) (hf : 1 ≤ f) : 61 ≤ f - 1 + (j + 1) := by omega
theorem sum_small {i n j k : Nat} (h1 : i < n) (h2 : n ≤ 1048576) (h3 : j ≤ k) (h4 : k ≤ 60) : IntKind.i64.wrap ((i : Int) + (j : Int)) = (i : Int) + (j : Int) ∧ wrap64 ((i : Int) + (j : Int)) = (i : Int) + (j : Int) := by
  constructor
  · rw [IntKind.wrap_i64]; omega
  · unfold wrap64; omega
def bodyR (call more : Bool) (ps : List ByteArray) (ts : List Tk) (i : Nat) : Nat × Int :=
  if 60 < ts.length - i then (i + 60, 4)
  else if (firstBad call more ps (bodyL ts i (ts.length - i)) 61 0).2 = 0 then (0, 0)
  else (i + (firstBad call more ps (bodyL ts i (ts.length - i)) 61 0).1, (firstBad call more ps (bodyL ts i (ts.length - i)) 61 0).2)
def BodyPost (w0 : World) (B : Nat) (nm : ByteArray) (call more : Bool) (pa : Option Addr) (pn pc : Nat) (bs : List Tk) (r : Nat × Int) (e : Ending) (w' : World) : Prop :=
  e = .returned (.tuple #[.int .i64 (r.1 : Int), .int .i64 r.2]) ∧ Below w0.heap.size w0 w' ∧ (r.2 = 0 → ∃ ba bc, MBox w' B ⟨nm, call, pa, pn, pc, more, ba, bs.length, bc⟩ ∧ TAt w' ba bs)

set_option maxRecDepth 100000 in
set_option maxHeartbeats 2000000 in
theorem body_much (w0 : World) (B : Nat) (nm : ByteArray) (call more : Bool) (pa : Option Addr) (pn pc : Nat) (bs : List Tk) (a : Option Addr) (n c i : Nat) (w : World) (hb : Below w0.heap.size w0 w) (hi : i ≤ n) (hl : n ≤ 1048576) (hm : 60 < n - i) :
    Calls Tryz.prog 31 #[.pointer (some ⟨B, 0, none⟩), .slice a n c, .int .i64 (i : Int)] w (BodyPost w0 B nm call more pa pn pc bs (i + 60, 4)) := by
  have h1 : IntKind.i64.wrap ((n : Int) - (i : Int)) = (n : Int) - (i : Int) := by rw [IntKind.wrap_i64]; omega
  have h1' : wrap64 ((n : Int) - (i : Int)) = (n : Int) - (i : Int) := by unfold wrap64; omega
  have h2 : (60 : Int) < (n : Int) - (i : Int) := by omega
  have h3 : IntKind.i64.wrap ((i : Int) + 60) = (i : Int) + 60 := by rw [IntKind.wrap_i64]; omega
  have h3' : wrap64 ((i : Int) + 60) = (i : Int) + 60 := by unfold wrap64; omega
  have HB := hid hb
  clear hb hm hl hi
  go_enter Tryz.func31, Tryz.ntmps31
  go_wp2_with fail
  go_ret2
  refine ⟨?_, HB.out, fun h => by cases h⟩
  show _ = Ending.returned (.tuple #[.int .i64 ((i + 60 : Nat) : Int), _])
  rw [show ((i + 60 : Nat) : Int) = (i : Int) + 60 from by omega]
  rfl

set_option maxRecDepth 100000 in
set_option maxHeartbeats 2000000 in
theorem body_some (w0 : World) (B : Nat) (nm : ByteArray) (call more : Bool) (pa : Option Addr) (pc : Nat) (ps : List ByteArray) (a : Option Addr) (c : Nat) (ts : List Tk) (i : Nat) (w : World) (hT : TAt w0 a ts) (hS : StAt w0 pa ps) (hpl : ps.length ≤ 1048576) (hB : w0.heap.size ≤ B) (hb : Below w0.heap.size w0 w) (hM : MBox w B ⟨nm, call, pa, ps.length, pc, more, none, 0, 0⟩) (hi : i < ts.length) (hc : ts.length ≤ c) (hl : ts.length ≤ 1048576) (hm : ts.length - i ≤ 60) (r : Nat × Int) (hr : bodyR call more ps ts i = r) :
    Calls Tryz.prog 31 #[.pointer (some ⟨B, 0, none⟩), .slice a ts.length c, .int .i64 (i : Int)] w (BodyPost w0 B nm call more pa ps.length pc (bodyL ts i (ts.length - i)) r) := by
  rcases hT with h0 | ⟨b, off, rfl, hb0, hcx⟩
  · rw [h0] at hi; exact absurd hi (Nat.not_lt_zero _)
  obtain ⟨n, hn⟩ : ∃ n, ts.length = n := ⟨_, rfl⟩
  unfold bodyR at hr
  rw [hn] at hi hc hl hm hr ⊢
  rw [if_neg (by omega)] at hr
  have HR := hid hr
  have HN := hid hn
  clear hr hn
  have h1 : IntKind.i64.wrap ((n : Int) - (i : Int)) = (n : Int) - (i : Int) := by rw [IntKind.wrap_i64]; omega
  have h1' : wrap64 ((n : Int) - (i : Int)) = (n : Int) - (i : Int) := by unfold wrap64; omega
  have h2 : ¬ ((60 : Int) < (n : Int) - (i : Int)) := by omega
  have hi0 : (0 : Int) ≤ (i : Int) := by omega
  have hin : (i : Int) ≤ (n : Int) := by omega
  have hic : i ≠ c := by omega
  have hic2 : (i : Int) ≤ (c : Int) := by omega
  have HB := hid hb
  have HM := hid hM
  clear hb hM
  go_enter Tryz.func31, Tryz.ntmps31
  have HBl := hid (lt_of_block HM.out)
  have HS0 : Hid (BodSt w0 B w.heap.size nm call more pa ps.length pc (bodyL ts i 0) none 0 w) := ⟨HB.out, HM.out, World.ownsRow_nil _ _ _ _, Nat.le_refl _⟩
  have HCX : Hid (∀ k x, i + k < n → tokAt ts (i + k) = x → ∀ W, Below w0.heap.size w0 W → ∀ (j : Nat) v, (encT x)[j]? = some v → W.cell? ⟨b, off + i * 11 + k * 11 + j, none⟩ = some v) := fun k x hk hx W hW j v hv => by
    have hlt : i + k < ts.length := by rw [HN.out]; exact hk
    obtain ⟨y, hy⟩ : ∃ y, ts[i + k]? = some y := ⟨_, List.getElem?_eq_getElem hlt⟩
    rw [tokAt_in hy] at hx
    subst hx
    have := (hW.cell (p := ⟨b, off + (i + k) * 11 + j, none⟩) hb0).trans (hcx (i + k) y hy j v hv)
    rwa [show off + (i + k) * 11 + j = off + i * 11 + k * 11 + j by omega] at this
  have hnin : ((n - i : Nat) : Int) = (n : Int) - (i : Int) := by omega
  obtain ⟨m, hmm⟩ : ∃ m, n - i = m := ⟨_, rfl⟩
  rw [hmm] at hnin hm
  have HMM := hid hmm
  clear hcx HM HB
  go_wp2_with fail
  clear hmm
  have HM60 := hid hm
  clear hm
  go_loopw [24] (fun sk wr => ∃ (k : Nat) (ba : Option Addr) (bc : Nat), sk = .int .i64 (k : Int) ∧ k ≤ m ∧ Hid (BodSt w0 B w.heap.size nm call more pa ps.length pc (bodyL ts i k) ba bc wr)) (fun sk _ => m - (intOf sk).toNat)
  case atStart => exact ⟨0, none, 0, rfl, Nat.zero_le _, HS0⟩
  case round =>
    clear HS0
    obtain ⟨k, ba, bc, rfl, hkm, HS⟩ := hrel
    have HK60 := hid (Nat.le_trans hkm HM60.out)
    by_cases hlt : k < m
    · obtain ⟨x, hx⟩ : ∃ x, tokAt ts (i + k) = x := ⟨_, rfl⟩
      obtain ⟨c0, c1, c2, c3, c4, c5, c6, c7, c8, c9, c10⟩ := tk_cells (w := wr) (off := off + i * 11) (j := k) (HCX.out k x (by omega) hx wr HS.out.below)
      have HX := hid hx
      have hki : (k : Int) < (m : Int) := Int.ofNat_lt.2 hlt
      have hk0 : (0 : Int) ≤ (k : Int) := Int.natCast_nonneg _
      obtain ⟨⟨m0, m1, m2, m3, m4⟩, ⟨n0, n1, n2, n3, n4⟩⟩ := HS.out.box.facts
      have hltB := lt_of_block HS.out.box
      dsimp only at m0 m1 m2 m3 m4
      rw [bodyL_length] at m4
      clear hx
      rcases hsp : x.space with _ | _
      · rw [hsp] at c2
        have HKP := hid (And.intro (nxt_k (Nat.le_trans HK60.out (by decide))) (nxt_w (Nat.le_trans HK60.out (by decide))))
        have HNB : Hid (bodyL ts i k ++ [⟨x.kind, x.text, false, false, x.file, x.lo, x.hi, x.line⟩] = bodyL ts i (k + 1)) := by
          show _ = _
          rw [bodyL_succ, HX.out, bodyT_is k x false (by rw [hsp, Bool.false_and])]
        have HA := hid (HS.out.lower ((Below.refl _ wr).alloc (Nat.le_refl _) (.cells #[.int .i64 x.kind, .string x.text, .bool false, .bool false, .int .i64 x.file, .int .i64 x.lo, .int .i64 x.hi, .int .i64 x.line, .slice none 0 0, .slice none 0 0, .int .i64 0] 43)))
        have HXB := hid (heap_alloc_new wr (.cells #[.int .i64 x.kind, .string x.text, .bool false, .bool false, .int .i64 x.file, .int .i64 x.lo, .int .i64 x.hi, .int .i64 x.line, .slice none 0 0, .slice none 0 0, .int .i64 0] 43))
        clear hsp
        go_wp2_with fail
        generalize wr.alloc (.cells #[.int .i64 x.kind, .string x.text, .bool false, .bool false, .int .i64 x.file, .int .i64 x.lo, .int .i64 x.hi, .int .i64 x.line, .slice none 0 0, .slice none 0 0, .int .i64 0] 43) = wA at HA HXB ⊢
        obtain ⟨ti, hti, htz0, htz1, htz2⟩ := info_parts info_tok
        have HLo := hid (fun W (h : Below wA.heap.size wA W) => HA.out.lower h)
        have HOW : Hid (∀ W, Below wA.heap.size wA W → W.ownsRow w.heap.size 43 11 (.slice ba k bc) k (cellsT (bodyL ts i k))) := fun W h => by
          have := (HLo.out W h).row
          rwa [bodyL_length] at this
        obtain ⟨⟨_, _, _, _, s4⟩, ⟨_, _, _, _, s9⟩⟩ := HA.out.box.facts
        dsimp only at s4
        rw [bodyL_length] at s4
        obtain ⟨⟨x0, x1, x2, x3, x4, x5, x6, x7, x8, x9, x10⟩, _⟩ := tok_block HXB.out
        have hBS : B < wA.heap.size := lt_of_block HA.out.box
        have hxS : wr.heap.size < wA.heap.size := lt_of_block HXB.out
        clear m0 m1 m2 m3 m4 n0 n1 n2 n3 n4 c0 c1 c2 c3 c4 c5 c6 c7 c8 c9 c10
        go_region_law ((refine step_append_any (by rfl) _ _ 24 (by rfl) w.heap.size 43 ti _ 11 120 Tryz.underlying24 hti htz0 htz1 htz2 (by rfl) (by decide) _ _ _ (by rfl) (HOW.out _ (by repeat' (first | exact Below.refl _ _ | apply Below.drew | apply Below.alloc | (simp; done)))) ⟨wA.heap.size, 0, none⟩ 1 1 (encT ⟨x.kind, x.text, false, false, x.file, x.lo, x.hi, x.line⟩) (by rfl) (by rfl) (by exact eleven_new wA ⟨x.kind, x.text, false, false, x.file, x.lo, x.hi, x.line⟩ _) (eleven_one _) (few_max HK60.out) (few_bytes HK60.out) (HLo.out _ (by repeat' (first | exact Below.refl _ _ | apply Below.drew | apply Below.alloc | (simp; done)))).base ?_; intro v4 w4 hown4 hg4 hob4; obtain ⟨a4, c4, rfl⟩ := row_is hown4; have haf := BodSt.after (HLo.out _ (by repeat' (first | exact Below.refl _ _ | apply Below.drew | apply Below.alloc | (simp; done)))) HBl.out (Nat.le_trans hB (Nat.le_of_lt HBl.out)) hg4; have s4' := haf.1.facts.1.2.2.2.2; have s9' := haf.1.facts.2.2.2.2.2; have HGot := hid (bod_got haf.1 haf.2.1 haf.2.2 hB HBl.out (bodyL_length ts i k) ⟨x.kind, x.text, false, false, x.file, x.lo, x.hi, x.line⟩ hown4); clear haf hown4 hg4 hob4; dsimp only at s4'))
        all_goals
          generalize w4.setCell ⟨B, 4, none⟩ (.slice a4 (k + 1) c4) = w5 at HGot ⊢
          rw [HNB.out] at HGot
          obtain ⟨hkp, hkw⟩ := HKP.out
          clear s4' s9' s4 s9 hBS hxS HLo HOW
          go_wp2_with fail
          exact ⟨⟨k + 1, a4, c4, by go_num, hlt, HGot⟩, less_j hlt (by go_num)⟩
      · rw [hsp] at c2
        by_cases hk0' : 0 < k
        · have hgt : (0 : Int) < (k : Int) := Int.natCast_pos.2 hk0'
          have HKP := hid (And.intro (nxt_k (Nat.le_trans HK60.out (by decide))) (nxt_w (Nat.le_trans HK60.out (by decide))))
          have HNB : Hid (bodyL ts i k ++ [⟨x.kind, x.text, true, false, x.file, x.lo, x.hi, x.line⟩] = bodyL ts i (k + 1)) := by
            show _ = _
            rw [bodyL_succ, HX.out, bodyT_is k x true (by rw [hsp, decide_eq_true hk0']; rfl)]
          have HA := hid (HS.out.lower ((Below.refl _ wr).alloc (Nat.le_refl _) (.cells #[.int .i64 x.kind, .string x.text, .bool true, .bool false, .int .i64 x.file, .int .i64 x.lo, .int .i64 x.hi, .int .i64 x.line, .slice none 0 0, .slice none 0 0, .int .i64 0] 43)))
          have HXB := hid (heap_alloc_new wr (.cells #[.int .i64 x.kind, .string x.text, .bool true, .bool false, .int .i64 x.file, .int .i64 x.lo, .int .i64 x.hi, .int .i64 x.line, .slice none 0 0, .slice none 0 0, .int .i64 0] 43))
          clear hsp
          go_wp2_with fail
          generalize wr.alloc (.cells #[.int .i64 x.kind, .string x.text, .bool true, .bool false, .int .i64 x.file, .int .i64 x.lo, .int .i64 x.hi, .int .i64 x.line, .slice none 0 0, .slice none 0 0, .int .i64 0] 43) = wA at HA HXB ⊢
          obtain ⟨ti, hti, htz0, htz1, htz2⟩ := info_parts info_tok
          have HLo := hid (fun W (h : Below wA.heap.size wA W) => HA.out.lower h)
          have HOW : Hid (∀ W, Below wA.heap.size wA W → W.ownsRow w.heap.size 43 11 (.slice ba k bc) k (cellsT (bodyL ts i k))) := fun W h => by
            have := (HLo.out W h).row
            rwa [bodyL_length] at this
          obtain ⟨⟨_, _, _, _, s4⟩, ⟨_, _, _, _, s9⟩⟩ := HA.out.box.facts
          dsimp only at s4
          rw [bodyL_length] at s4
          obtain ⟨⟨x0, x1, x2, x3, x4, x5, x6, x7, x8, x9, x10⟩, _⟩ := tok_block HXB.out
          have hBS : B < wA.heap.size := lt_of_block HA.out.box
          have hxS : wr.heap.size < wA.heap.size := lt_of_block HXB.out
          clear m0 m1 m2 m3 m4 n0 n1 n2 n3 n4 c0 c1 c2 c3 c4 c5 c6 c7 c8 c9 c10
          go_region_law ((refine step_append_any (by rfl) _ _ 24 (by rfl) w.heap.size 43 ti _ 11 120 Tryz.underlying24 hti htz0 htz1 htz2 (by rfl) (by decide) _ _ _ (by rfl) (HOW.out _ (by repeat' (first | exact Below.refl _ _ | apply Below.drew | apply Below.alloc | (simp; done)))) ⟨wA.heap.size, 0, none⟩ 1 1 (encT ⟨x.kind, x.text, true, false, x.file, x.lo, x.hi, x.line⟩) (by rfl) (by rfl) (by exact eleven_new wA ⟨x.kind, x.text, true, false, x.file, x.lo, x.hi, x.line⟩ _) (eleven_one _) (few_max HK60.out) (few_bytes HK60.out) (HLo.out _ (by repeat' (first | exact Below.refl _ _ | apply Below.drew | apply Below.alloc | (simp; done)))).base ?_; intro v4 w4 hown4 hg4 hob4; obtain ⟨a4, c4, rfl⟩ := row_is hown4; have haf := BodSt.after (HLo.out _ (by repeat' (first | exact Below.refl _ _ | apply Below.drew | apply Below.alloc | (simp; done)))) HBl.out (Nat.le_trans hB (Nat.le_of_lt HBl.out)) hg4; have s4' := haf.1.facts.1.2.2.2.2; have s9' := haf.1.facts.2.2.2.2.2; have HGot := hid (bod_got haf.1 haf.2.1 haf.2.2 hB HBl.out (bodyL_length ts i k) ⟨x.kind, x.text, true, false, x.file, x.lo, x.hi, x.line⟩ hown4); clear haf hown4 hg4 hob4; dsimp only at s4'))
          all_goals
            generalize w4.setCell ⟨B, 4, none⟩ (.slice a4 (k + 1) c4) = w5 at HGot ⊢
            rw [HNB.out] at HGot
            obtain ⟨hkp, hkw⟩ := HKP.out
            clear s4' s9' s4 s9 hBS hxS HLo HOW
            go_wp2_with fail
            exact ⟨⟨k + 1, a4, c4, by go_num, hlt, HGot⟩, less_j hlt (by go_num)⟩
        · have hng : ¬ ((0 : Int) < (k : Int)) := fun h => hk0' (Int.natCast_pos.1 h)
          have HKP := hid (And.intro (nxt_k (Nat.le_trans HK60.out (by decide))) (nxt_w (Nat.le_trans HK60.out (by decide))))
          have HNB : Hid (bodyL ts i k ++ [⟨x.kind, x.text, false, false, x.file, x.lo, x.hi, x.line⟩] = bodyL ts i (k + 1)) := by
            show _ = _
            rw [bodyL_succ, HX.out, bodyT_is k x false (by rw [hsp, decide_eq_false hk0']; rfl)]
          have HA := hid (HS.out.lower ((Below.refl _ wr).alloc (Nat.le_refl _) (.cells #[.int .i64 x.kind, .string x.text, .bool false, .bool false, .int .i64 x.file, .int .i64 x.lo, .int .i64 x.hi, .int .i64 x.line, .slice none 0 0, .slice none 0 0, .int .i64 0] 43)))
          have HXB := hid (heap_alloc_new wr (.cells #[.int .i64 x.kind, .string x.text, .bool false, .bool false, .int .i64 x.file, .int .i64 x.lo, .int .i64 x.hi, .int .i64 x.line, .slice none 0 0, .slice none 0 0, .int .i64 0] 43))
          clear hsp
          go_wp2_with fail
          generalize wr.alloc (.cells #[.int .i64 x.kind, .string x.text, .bool false, .bool false, .int .i64 x.file, .int .i64 x.lo, .int .i64 x.hi, .int .i64 x.line, .slice none 0 0, .slice none 0 0, .int .i64 0] 43) = wA at HA HXB ⊢
          obtain ⟨ti, hti, htz0, htz1, htz2⟩ := info_parts info_tok
          have HLo := hid (fun W (h : Below wA.heap.size wA W) => HA.out.lower h)
          have HOW : Hid (∀ W, Below wA.heap.size wA W → W.ownsRow w.heap.size 43 11 (.slice ba k bc) k (cellsT (bodyL ts i k))) := fun W h => by
            have := (HLo.out W h).row
            rwa [bodyL_length] at this
          obtain ⟨⟨_, _, _, _, s4⟩, ⟨_, _, _, _, s9⟩⟩ := HA.out.box.facts
          dsimp only at s4
          rw [bodyL_length] at s4
          obtain ⟨⟨x0, x1, x2, x3, x4, x5, x6, x7, x8, x9, x10⟩, _⟩ := tok_block HXB.out
          have hBS : B < wA.heap.size := lt_of_block HA.out.box
          have hxS : wr.heap.size < wA.heap.size := lt_of_block HXB.out
          clear m0 m1 m2 m3 m4 n0 n1 n2 n3 n4 c0 c1 c2 c3 c4 c5 c6 c7 c8 c9 c10
          go_region_law ((refine step_append_any (by rfl) _ _ 24 (by rfl) w.heap.size 43 ti _ 11 120 Tryz.underlying24 hti htz0 htz1 htz2 (by rfl) (by decide) _ _ _ (by rfl) (HOW.out _ (by repeat' (first | exact Below.refl _ _ | apply Below.drew | apply Below.alloc | (simp; done)))) ⟨wA.heap.size, 0, none⟩ 1 1 (encT ⟨x.kind, x.text, false, false, x.file, x.lo, x.hi, x.line⟩) (by rfl) (by rfl) (by exact eleven_new wA ⟨x.kind, x.text, false, false, x.file, x.lo, x.hi, x.line⟩ _) (eleven_one _) (few_max HK60.out) (few_bytes HK60.out) (HLo.out _ (by repeat' (first | exact Below.refl _ _ | apply Below.drew | apply Below.alloc | (simp; done)))).base ?_; intro v4 w4 hown4 hg4 hob4; obtain ⟨a4, c4, rfl⟩ := row_is hown4; have haf := BodSt.after (HLo.out _ (by repeat' (first | exact Below.refl _ _ | apply Below.drew | apply Below.alloc | (simp; done)))) HBl.out (Nat.le_trans hB (Nat.le_of_lt HBl.out)) hg4; have s4' := haf.1.facts.1.2.2.2.2; have s9' := haf.1.facts.2.2.2.2.2; have HGot := hid (bod_got haf.1 haf.2.1 haf.2.2 hB HBl.out (bodyL_length ts i k) ⟨x.kind, x.text, false, false, x.file, x.lo, x.hi, x.line⟩ hown4); clear haf hown4 hg4 hob4; dsimp only at s4'))
          all_goals
            generalize w4.setCell ⟨B, 4, none⟩ (.slice a4 (k + 1) c4) = w5 at HGot ⊢
            rw [HNB.out] at HGot
            obtain ⟨hkp, hkw⟩ := HKP.out
            clear s4' s9' s4 s9 hBS hxS HLo HOW
            go_wp2_with fail
            exact ⟨⟨k + 1, a4, c4, by go_num, hlt, HGot⟩, less_j hlt (by go_num)⟩
    · have hkm' : k = m := Nat.le_antisymm hkm (Nat.le_of_not_lt hlt)
      subst hkm'
      have hki : ¬ ((k : Int) < (k : Int)) := Int.lt_irrefl _
      obtain ⟨⟨m0, m1, m2, m3, m4⟩, ⟨n0, n1, n2, n3, n4⟩⟩ := HS.out.box.facts
      dsimp only at m0 m1 m2 m3 m4
      obtain ⟨bs, hbs⟩ : ∃ bs, bodyL ts i k = bs := ⟨_, rfl⟩
      have hbl : bs.length = k := by rw [← hbs, bodyL_length]
      have HNM := hid (numbered_any ba bc bs wr (by rw [← hbs]; exact HS.out.tat) (by rw [hbl]; exact Nat.le_trans HK60.out (by decide)))
      rw [hbs] at m4
      rw [hbl] at HNM m4
      rw [HMM.out, hbs] at HR
      rw [hbs] at HS
      have HBL := hid hbl
      have HBS := hid hbs
      clear hbs hbl HCX
      go_wp2_with fail
      refine HNM.out.mono ?_
      rintro e w2 ⟨Bl, Be, rfl, hN2, hb2⟩
      have HS2 := hid (HS.out.lower hb2)
      have HN2 := hid hN2
      obtain ⟨⟨q0, q1, q2, q3, q4⟩, _⟩ := HS2.out.box.facts
      dsimp only at q0 q1 q2 q3 q4
      rw [HBL.out] at q4
      clear m0 m1 m2 m3 m4 n0 n1 n2 n3 n4 hb2 hN2 HNM HS
      have HWB := hid (fun (j : Nat) W (hj : j < bs.length) (h : Below w2.heap.size w2 W) => wrongBody_any B Bl Be ⟨nm, call, pa, ps.length, pc, more, ba, bs.length, bc⟩ ps ba bc bs j W (HS2.out.box.below h) ((hS.below HS2.out.below).below h) rfl hpl (HN2.out.below h) rfl hj (by rw [HBL.out]; exact HK60.out))
      dsimp only at HWB
      obtain ⟨F, hF⟩ : ∃ F, firstBad call more ps bs 61 0 = F := ⟨_, rfl⟩
      rw [hF] at HR
      have HF0 := hid hF
      clear hF
      go_wp2_with fail
      go_loopw [63] (fun sj wr => ∃ (j f : Nat), sj = .int .i64 (j : Int) ∧ j ≤ k ∧ Hid (Below w2.heap.size w2 wr ∧ firstBad call more ps bs f j = F ∧ 61 ≤ f + j)) (fun sj _ => k - (intOf sj).toNat)
      case atStart => exact ⟨0, 61, rfl, Nat.zero_le _, ⟨Below.refl _ _, HF0.out, by decide⟩⟩
      case round =>
        clear HF0 q0 q1 q2 q3 q4
        obtain ⟨j, f, rfl, hjk, HJ⟩ := hrel
        have HF1 := hid (fuel_one HJ.out.2.2 hjk HK60.out)
        by_cases hjl : j < k
        · have hjb : j < bs.length := by rw [HBL.out]; exact hjl
          have HW := hid (HWB.out j wr hjb HJ.out.1)
          have hji : (j : Int) < (k : Int) := Int.ofNat_lt.2 hjl
          by_cases hw : wrongBd call more ps bs j = 0
          · have HFN := hid (fb_ok HJ.out.2.1 HF1.out hjb hw)
            rw [hw] at HW
            have HJP := hid (And.intro (nxt_k (Nat.le_trans hjk (Nat.le_trans HK60.out (by decide)))) (nxt_w (Nat.le_trans hjk (Nat.le_trans HK60.out (by decide)))))
            clear hw hjb
            go_wp2_with fail
            refine HW.out.mono ?_
            rintro e w3 ⟨rfl, hb3⟩
            have HB3 := hid (HJ.out.1.trans (hb3.mono HJ.out.1.size))
            obtain ⟨hjp, hjw⟩ := HJP.out
            clear hb3 HW
            go_wp2_with fail
            exact ⟨⟨j + 1, f - 1, by go_num, hjl, hid ⟨HB3.out, HFN.out, fuel_next HJ.out.2.2 HF1.out⟩⟩, less_j hjl (by go_num)⟩
          · have HFB := hid (fb_bad HJ.out.2.1 HF1.out hjb hw)
            have hwb : (wrongBd call more ps bs j == 0) = false := by simpa using hw
            have hwb' : (wrongBd call more ps bs j != 0) = true := by simpa using hw
            have HWN := hid hw
            generalize wrongBd call more ps bs j = wv at HW HFB hwb hwb' HWN
            have HSM := hid (sum_small hi hl hjk HK60.out)
            clear hw hjb
            go_wp2_with fail
            refine HW.out.mono ?_
            rintro e w3 ⟨rfl, hb3⟩
            have HB3 := hid (HJ.out.1.trans (hb3.mono HJ.out.1.size))
            obtain ⟨hjp, hjw⟩ := HSM.out
            clear hb3 HW
            go_wp2_with fail
            go_ret2
            have hr := HR.out
            rw [HFB.out] at hr
            rw [if_neg HWN.out] at hr
            rw [← hr]
            exact ⟨by show _ = Ending.returned (.tuple #[.int .i64 ((i + j : Nat) : Int), _]); rw [show ((i + j : Nat) : Int) = (i : Int) + (j : Int) from by omega]; rfl, HS2.out.below.trans (HB3.out.mono HS2.out.below.size), fun h => absurd h HWN.out⟩
        · have hjk' : j = k := Nat.le_antisymm hjk (Nat.le_of_not_lt hjl)
          subst hjk'
          have hji : ¬ ((j : Int) < (j : Int)) := Int.lt_irrefl _
          have HFE := hid (fb_end HJ.out.2.1 HF1.out (by rw [HBL.out]; exact Nat.lt_irrefl _))
          go_wp2_with fail
          go_ret2
          have hr := HR.out
          rw [HFE.out] at hr
          rw [if_pos rfl] at hr
          rw [← hr]
          refine ⟨rfl, HS2.out.below.trans (HJ.out.1.mono HS2.out.below.size), fun _ => ?_⟩
          rw [HMM.out, HBS.out]
          exact ⟨ba, bc, HS2.out.box.below HJ.out.1, HS2.out.tat.below HJ.out.1⟩
end
section
open Go.RowKit Go.Shelf

set_option maxRecDepth 100000 in
set_option maxHeartbeats 400000 in
theorem body_none (w0 : World) (B : Nat) (nm : ByteArray) (call more : Bool) (pa : Option Addr) (pn pc : Nat) (a : Option Addr) (n c : Nat) (w : World) (hb : Below w0.heap.size w0 w) (hM : MBox w B ⟨nm, call, pa, pn, pc, more, none, 0, 0⟩) (hc : n ≤ c) (hl : n ≤ 1048576) :
    Calls Tryz.prog 31 #[.pointer (some ⟨B, 0, none⟩), .slice a n c, .int .i64 (n : Int)] w (BodyPost w0 B nm call more pa pn pc [] (0, 0)) := by
  have h1 : IntKind.i64.wrap ((n : Int) - (n : Int)) = 0 := by rw [IntKind.wrap_i64]; omega
  have h1' : wrap64 ((n : Int) - (n : Int)) = 0 := by unfold wrap64; omega
  have h0 : (n : Int) - (n : Int) = 0 := by omega
  have hn0 : (0 : Int) ≤ (n : Int) := by omega
  have hnc : (n : Int) ≤ (c : Int) := by omega
  have hnn : n - n = 0 := by omega
  have HB := hid hb
  have HM := hid hM
  have HNM := hid (numbered_any none 0 [] w (.inl rfl) (by decide))
  obtain ⟨⟨m0, m1, m2, m3, m4⟩, _⟩ := hM.facts
  dsimp only at m0 m1 m2 m3 m4
  clear hb hM hc hl
  go_enter Tryz.func31, Tryz.ntmps31
  go_wp2_with fail
  all_goals refine wp_loop_rounds 1 ?_
  all_goals rw [rounds_succ]
  all_goals go_wp2_with fail
  all_goals refine HNM.out.mono ?_
  all_goals rintro e w2 ⟨Bl, Be, rfl, hN2, hb2⟩
  all_goals have HM2 := hid (HM.out.below hb2)
  all_goals have HB2 := hid (HB.out.trans (hb2.mono HB.out.size))
  all_goals obtain ⟨⟨q0, q1, q2, q3, q4⟩, _⟩ := HM2.out.facts
  all_goals dsimp only at q0 q1 q2 q3 q4
  all_goals clear hb2 hN2 m0 m1 m2 m3 m4
  all_goals go_wp2_with fail
  all_goals refine wp_loop_rounds 1 ?_
  all_goals rw [rounds_succ]
  all_goals go_wp2_with fail
  all_goals go_ret2
  all_goals exact ⟨rfl, HB2.out, fun _ => ⟨none, 0, HM2.out, .inl rfl⟩⟩

theorem endTk_text (ts : List Tk) : (endTk ts).text.toList = [] ∧ (endTk ts).kind = 0 := by
  unfold endTk
  split <;> exact ⟨by rw [toList_data], rfl⟩
theorem tok_there {ts : List Tk} {i : Nat} {c : UInt8} (h : ((tokAt ts i).text.toList == [c]) = true) : i < ts.length := by
  by_cases hi : i < ts.length
  · exact hi
  · rw [tokAt_out (Nat.le_of_not_lt hi), (endTk_text ts).1] at h
    cases h
theorem par_next (ts : List Tk) : ∀ (f i : Nat) (ps : List ByteArray) (more : Bool), 7 ≤ f + ps.length → ps.length ≤ 6 → (parL ts f i ps more).2.2.2 = 0 → (parL ts f i ps more).2.2.1 ≤ ts.length
  | 0, i, ps, more, h, h6, _ => by omega
  | f + 1, i, ps, more, h, h6, he => by
    by_cases hw : wrongP ps more (tokAt ts i) = 0
    · have hl := wrongP_len hw
      rcases par_right (f := f + 1) rfl (by omega) hw with ⟨h1, hR⟩ | ⟨h1, h2, hR⟩ | ⟨h1, h2, hR⟩
      · rw [hR]
        have := tok_there h1
        show i + 2 ≤ ts.length
        omega
      · rw [Nat.add_sub_cancel] at hR
        rw [← hR] at he ⊢
        exact par_next ts f (i + 2) _ _ (by rw [List.length_append]; simp; omega) (by rw [List.length_append]; simp; omega) he
      · rw [hR] at he
        cases he
    · have hR := par_wrong (f := f + 1) (ts := ts) (i := i) (ps := ps) (more := more) rfl (by omega) hw
      rw [hR] at he
      exact absurd he hw
/-- Behind a head that is right, body's tokens begin within the list. -/
theorem head_next (ts : List Tk) (h : (headL ts).err = 0) : (headL ts).next ≤ ts.length := by
  unfold headL at h ⊢
  rcases hk : ((tokAt ts 0).kind == 1) with _ | _
  · rw [hk] at h
    cases h
  · have h0 : 0 < ts.length := by
      by_cases hi : 0 < ts.length
      · exact hi
      · rw [tokAt_out (Nat.le_of_not_lt hi), (endTk_text ts).2] at hk
        cases hk
    rw [hk] at h
    rw [if_pos rfl] at h ⊢
    rcases hb : builtinB (tokAt ts 0).text.toList with _ | _
    · rw [hb] at h
      rw [if_neg (by decide)] at h ⊢
      rcases hc : (((tokAt ts 1).text.toList == [40]) && !(tokAt ts 1).space) with _ | _
      · rw [if_neg (by decide)]
        exact h0
      · rw [hc] at h
        rw [if_pos rfl] at h ⊢
        rcases h2 : ((tokAt ts 2).text.toList == [41]) with _ | _
        · rw [h2] at h
          rw [if_neg (by decide)] at h ⊢
          exact par_next ts 7 2 [] false (by decide) (by decide) h
        · rw [if_pos rfl]
          exact tok_there h2
    · rw [hb] at h
      cases h
end
section
open Go.RowKit Go.Shelf

/-- What body says, behind a head that is right. -/
def bodyA (ts : List Tk) : Nat × Int := if (headL ts).next < ts.length then bodyR (headL ts).call (headL ts).more (headL ts).params ts (headL ts).next else (0, 0)
/-- What Parse answers: a definition, or what is wrong, and where. -/
def parseL (ts : List Tk) : Mc × (Int × Int × Int) :=
  if (headL ts).err ≠ 0 then (⟨⟨#[]⟩, false, [], false, []⟩, ((headL ts).err, (tokAt ts (headL ts).next).file, (tokAt ts (headL ts).next).lo))
  else if (bodyA ts).2 ≠ 0 then (⟨⟨#[]⟩, false, [], false, []⟩, ((bodyA ts).2, (tokAt ts (bodyA ts).1).file, (tokAt ts (bodyA ts).1).lo))
  else (⟨(headL ts).name, (headL ts).call, (headL ts).params, (headL ts).more, bodyL ts (headL ts).next (ts.length - (headL ts).next)⟩, (0, -1, 0))
/-- body, wherever it begins. -/
theorem body_any (w0 : World) (B : Nat) (nm : ByteArray) (call more : Bool) (pa : Option Addr) (pc : Nat) (ps : List ByteArray) (a : Option Addr) (c : Nat) (ts : List Tk) (i : Nat) (w : World) (hT : TAt w0 a ts) (hS : StAt w0 pa ps) (hpl : ps.length ≤ 1048576) (hB : w0.heap.size ≤ B) (hb : Below w0.heap.size w0 w) (hM : MBox w B ⟨nm, call, pa, ps.length, pc, more, none, 0, 0⟩) (hi : i ≤ ts.length) (hc : ts.length ≤ c) (hl : ts.length ≤ 1048576) :
    Calls Tryz.prog 31 #[.pointer (some ⟨B, 0, none⟩), .slice a ts.length c, .int .i64 (i : Int)] w (BodyPost w0 B nm call more pa ps.length pc (bodyL ts i (ts.length - i)) (if i < ts.length then bodyR call more ps ts i else (0, 0))) := by
  by_cases hlt : i < ts.length
  · rw [if_pos hlt]
    by_cases hm : 60 < ts.length - i
    · have : bodyR call more ps ts i = (i + 60, 4) := by unfold bodyR; rw [if_pos hm]
      rw [this]
      exact body_much w0 B nm call more pa ps.length pc _ a ts.length c i w hb hi hl hm
    · exact body_some w0 B nm call more pa pc ps a c ts i w hT hS hpl hB hb hM hlt hc hl (by omega) _ rfl
  · rw [if_neg hlt]
    obtain rfl : i = ts.length := by omega
    have := body_none w0 B nm call more pa ps.length pc a ts.length c w hb hM hc hl
    rw [Nat.sub_self]
    exact this
theorem fault_block {W : World} {B : Nat} {e f g : Value} {T : TypeId} (h : W.heap[B]? = some (.cells #[e, f, g] T)) : W.cell? ⟨B, 0, none⟩ = some e ∧ W.cell? ⟨B, 1, none⟩ = some f ∧ W.cell? ⟨B, 2, none⟩ = some g ∧ W.frozen? ⟨B, 0, none⟩ = false ∧ W.frozen? ⟨B, 1, none⟩ = false ∧ W.frozen? ⟨B, 2, none⟩ = false := by
  simp [World.cell?, World.frozen?, h]
def ParsePost (w : World) (r : Mc × (Int × Int × Int)) (e : Ending) (w' : World) : Prop := ∃ v : Mv, e = .returned (.tuple #[aggM v, .agg #[.int .i64 r.2.1, .int .i64 r.2.2.1, .int .i64 r.2.2.2]]) ∧ MIs w' v r.1 ∧ Below w.heap.size w w'
end
section
open Go.RowKit Go.Shelf

theorem parse_ret {W : World} {A B : Nat} {n : ByteArray} {b0 b1 : Bool} {pa ba : Option Addr} {pn pc bn bc : Nat} {e f g : Int} (hA : W.heap[A]? = some (.cells #[.string n, .bool b0, .slice pa pn pc, .bool b1, .slice ba bn bc] 26)) (hB : W.heap[B]? = some (.cells #[.int .i64 e, .int .i64 f, .int .i64 g] 29)) (tmps : Array Value) (h1 : tmps.getD 2 undef = .pointer (some ⟨A, 0, none⟩)) (h2 : tmps.getD 3 undef = .pointer (some ⟨B, 0, none⟩)) :
    (results Tryz.f7 tmps).run Tryz.prog W = .ok (.tuple #[.agg #[.string n, .bool b0, .slice pa pn pc, .bool b1, .slice ba bn bc], .agg #[.int .i64 e, .int .i64 f, .int .i64 g]]) W := by
  obtain ⟨c0, c1, c2, c3, c4⟩ := mac_facts hA
  obtain ⟨d0, d1, d2, _⟩ := fault_block hB
  simp at h1 h2
  simp [results, Tryz.results7, go_sem, h1, h2, c0, c1, c2, c3, c4, d0, d1, d2]

theorem par_len (ts : List Tk) : ∀ (f i : Nat) (ps : List ByteArray) (more : Bool), (parL ts f i ps more).1.length ≤ f + ps.length
  | 0, i, ps, more => by unfold parL; dsimp only; omega
  | f + 1, i, ps, more => by
    unfold parL
    split
    · dsimp only; omega
    · split
      · simp; omega
      · split
        · have := par_len ts f (i + 2) (ps ++ [if (tokAt ts i).text.toList == dotsL then restB else (tokAt ts i).text]) ((tokAt ts i).text.toList == dotsL)
          simp at this ⊢
          omega
        · simp; omega
theorem head_len (ts : List Tk) : (headL ts).params.length ≤ 7 := by
  unfold headL
  split
  · split
    · exact Nat.zero_le _
    · split
      · dsimp only
        split
        · exact Nat.zero_le _
        · have := par_len ts 7 2 [] false
          simpa using this
      · exact Nat.zero_le _
  · exact Nat.zero_le _
theorem tok_full {ts : List Tk} (hf : ∀ t ∈ ts, t.text.size ≠ 0) {i : Nat} (hk : ((tokAt ts i).kind == 1) = true) : (tokAt ts i).text.size ≠ 0 := by
  by_cases hi : i < ts.length
  · rw [tokAt_in (List.getElem?_eq_getElem hi)]
    exact hf _ (List.getElem_mem hi)
  · rw [tokAt_out (Nat.le_of_not_lt hi), (endTk_text ts).2] at hk
    cases hk
theorem next_full {ts : List Tk} (hf : ∀ t ∈ ts, t.text.size ≠ 0) {i : Nat} {ps : List ByteArray} {more : Bool} (h : wrongP ps more (tokAt ts i) = 0) : (nextP (tokAt ts i)).size ≠ 0 := by
  unfold nextP
  split
  · decide
  · rename_i hd
    refine tok_full hf ?_
    unfold wrongP at h
    split at h
    · cases h
    · rename_i h1
      rcases hk : ((tokAt ts i).kind == 1) with _ | _
      · exfalso
        apply h1
        rw [hk]
        simp [hd]
      · rfl
theorem par_full {ts : List Tk} (hf : ∀ t ∈ ts, t.text.size ≠ 0) : ∀ (f i : Nat) (ps : List ByteArray) (more : Bool), (∀ p ∈ ps, p.size ≠ 0) → ∀ p ∈ (parL ts f i ps more).1, p.size ≠ 0
  | 0, i, ps, more, h => h
  | f + 1, i, ps, more, h => by
    by_cases hw : wrongP ps more (tokAt ts i) = 0
    · have hn : ∀ p ∈ ps ++ [nextP (tokAt ts i)], p.size ≠ 0 := fun p hp => by
        rcases List.mem_append.1 hp with hp | hp
        · exact h p hp
        · rw [List.mem_singleton] at hp
          subst hp
          exact next_full hf hw
      rcases par_right (f := f + 1) rfl (by omega) hw with ⟨h1, hR⟩ | ⟨h1, h2, hR⟩ | ⟨h1, h2, hR⟩
      · rw [hR]; exact hn
      · rw [Nat.add_sub_cancel] at hR
        rw [← hR]
        exact par_full hf f (i + 2) _ _ hn
      · rw [hR]; exact hn
    · rw [par_wrong (f := f + 1) (ts := ts) (i := i) (ps := ps) (more := more) rfl (by omega) hw]
      exact h
theorem head_full {ts : List Tk} (hf : ∀ t ∈ ts, t.text.size ≠ 0) : ∀ p ∈ (headL ts).params, p.size ≠ 0 := by
  unfold headL
  split
  · split
    · exact fun p hp => by cases hp
    · split
      · dsimp only
        split
        · exact fun p hp => by cases hp
        · exact par_full hf 7 2 [] false (fun p hp => by cases hp)
      · exact fun p hp => by cases hp
  · exact fun p hp => by cases hp
/-- A block of few cells is none of tokens'. -/
theorem TAt.apart {W : World} {a : Option Addr} {ts : List Tk} (h : TAt W a ts) {B : Nat} {cs : Array Value} {T : TypeId} (hB : W.heap[B]? = some (.cells cs T)) (hs : cs.size ≤ 10) : ts = [] ∨ ∃ b off, a = some ⟨b, off, none⟩ ∧ b ≠ B := by
  rcases h with rfl | ⟨b, off, rfl, hb, hc⟩
  · exact .inl rfl
  · cases ts with
    | nil => exact .inl rfl
    | cons t r =>
      refine .inr ⟨b, off, rfl, ?_⟩
      rintro rfl
      have := hc 0 t rfl 10 _ rfl
      rw [Go.Joins.cell_of_block hB] at this
      have hl := (Array.getElem?_eq_some_iff.1 this).1
      omega
theorem StAt.apart {W : World} {a : Option Addr} {ps : List ByteArray} (h : StAt W a ps) {B : Nat} {cs : Array Value} {T : TypeId} (hB : W.heap[B]? = some (.cells cs T)) (hs : ∀ (i : Nat) x, cs[i]? = some (.string x) → x.size = 0) (hf : ∀ p ∈ ps, p.size ≠ 0) : ps = [] ∨ ∃ b off, a = some ⟨b, off, none⟩ ∧ b ≠ B := by
  rcases h with rfl | ⟨b, off, rfl, hb, hc⟩
  · exact .inl rfl
  · cases ps with
    | nil => exact .inl rfl
    | cons p r =>
      refine .inr ⟨b, off, rfl, ?_⟩
      rintro rfl
      have := hc 0 p rfl
      rw [Go.Joins.cell_of_block hB] at this
      exact hf p (List.mem_cons_self ..) (hs _ _ this)
/-- Tokens and names stay where other blocks are written. -/
theorem TAt.same {W W' : World} {a : Option Addr} {ts : List Tk} (h : TAt W a ts) (hz : W.heap.size ≤ W'.heap.size) (hb : ts = [] ∨ ∃ b off, a = some ⟨b, off, none⟩ ∧ W'.heap[b]? = W.heap[b]?) : TAt W' a ts := by
  rcases h with rfl | ⟨b, off, rfl, hlt, hc⟩
  · exact .inl rfl
  · rcases hb with hb | ⟨b', off', he, hb⟩
    · exact .inl hb
    · cases he
      refine .inr ⟨b, off, rfl, by omega, fun j x hx i v hv => ?_⟩
      exact (cell_same (a := ⟨b, _, none⟩) hb).trans (hc j x hx i v hv)
theorem StAt.same {W W' : World} {a : Option Addr} {ps : List ByteArray} (h : StAt W a ps) (hz : W.heap.size ≤ W'.heap.size) (hb : ps = [] ∨ ∃ b off, a = some ⟨b, off, none⟩ ∧ W'.heap[b]? = W.heap[b]?) : StAt W' a ps := by
  rcases h with rfl | ⟨b, off, rfl, hlt, hc⟩
  · exact .inl rfl
  · rcases hb with hb | ⟨b', off', he, hb⟩
    · exact .inl hb
    · cases he
      refine .inr ⟨b, off, rfl, by omega, fun j x hx => ?_⟩
      exact (cell_same (a := ⟨b, _, none⟩) hb).trans (hc j x hx)
/-- Both results' blocks, written. -/
def put53 (W : World) (A B : Nat) (v0 v1 v2 v3 v4 e f g : Value) : World := (((((((W.setCell ⟨A, 0, none⟩ v0).setCell ⟨A, 1, none⟩ v1).setCell ⟨A, 2, none⟩ v2).setCell ⟨A, 3, none⟩ v3).setCell ⟨A, 4, none⟩ v4).setCell ⟨B, 0, none⟩ e).setCell ⟨B, 1, none⟩ f).setCell ⟨B, 2, none⟩ g
theorem put53_at {W : World} {A B : Nat} {u0 u1 u2 u3 u4 x y z : Value} {T U : TypeId} (hA : W.heap[A]? = some (.cells #[u0, u1, u2, u3, u4] T)) (hB : W.heap[B]? = some (.cells #[x, y, z] U)) (hne : A ≠ B) (v0 v1 v2 v3 v4 e f g : Value) :
    (put53 W A B v0 v1 v2 v3 v4 e f g).heap[A]? = some (.cells #[v0, v1, v2, v3, v4] T) ∧ (put53 W A B v0 v1 v2 v3 v4 e f g).heap[B]? = some (.cells #[e, f, g] U) := by
  unfold put53
  have g1 := Go.Joins.block_setCell (i := 0) hA v0
  have g2 := Go.Joins.block_setCell (i := 1) g1 v1
  have g3 := Go.Joins.block_setCell (i := 2) g2 v2
  have g4 := Go.Joins.block_setCell (i := 3) g3 v3
  have g5 := Go.Joins.block_setCell (i := 4) g4 v4
  have hB5 : (((((W.setCell ⟨A, 0, none⟩ v0).setCell ⟨A, 1, none⟩ v1).setCell ⟨A, 2, none⟩ v2).setCell ⟨A, 3, none⟩ v3).setCell ⟨A, 4, none⟩ v4).heap[B]? = some (.cells #[x, y, z] U) := by
    rw [Below.heap_setCell _ _ _ B hne.symm, Below.heap_setCell _ _ _ B hne.symm, Below.heap_setCell _ _ _ B hne.symm, Below.heap_setCell _ _ _ B hne.symm, Below.heap_setCell _ _ _ B hne.symm]
    exact hB
  have k1 := Go.Joins.block_setCell (i := 0) hB5 e
  have k2 := Go.Joins.block_setCell (i := 1) k1 f
  have k3 := Go.Joins.block_setCell (i := 2) k2 g
  refine ⟨?_, by simpa using k3⟩
  rw [Below.heap_setCell _ _ _ A hne, Below.heap_setCell _ _ _ A hne, Below.heap_setCell _ _ _ A hne]
  simpa using g5
theorem put53_other (W : World) (A B k : Nat) (v0 v1 v2 v3 v4 e f g : Value) (h1 : k ≠ A) (h2 : k ≠ B) : (put53 W A B v0 v1 v2 v3 v4 e f g).heap[k]? = W.heap[k]? := by
  unfold put53
  rw [Below.heap_setCell _ _ _ k h2, Below.heap_setCell _ _ _ k h2, Below.heap_setCell _ _ _ k h2, Below.heap_setCell _ _ _ k h1, Below.heap_setCell _ _ _ k h1, Below.heap_setCell _ _ _ k h1, Below.heap_setCell _ _ _ k h1, Below.heap_setCell _ _ _ k h1]
theorem put53_size (W : World) (A B : Nat) (v0 v1 v2 v3 v4 e f g : Value) : (put53 W A B v0 v1 v2 v3 v4 e f g).heap.size = W.heap.size := by simp [put53]
theorem put53_below {w W : World} {A B H : Nat} (h : Below H w W) (hA : H ≤ A) (hB : H ≤ B) (v0 v1 v2 v3 v4 e f g : Value) : Below H w (put53 W A B v0 v1 v2 v3 v4 e f g) :=
  (((((((h.setCell (p := ⟨A, 0, none⟩) hA _).setCell (p := ⟨A, 1, none⟩) hA _).setCell (p := ⟨A, 2, none⟩) hA _).setCell (p := ⟨A, 3, none⟩) hA _).setCell (p := ⟨A, 4, none⟩) hA _).setCell (p := ⟨B, 0, none⟩) hB _).setCell (p := ⟨B, 1, none⟩) hB _).setCell (p := ⟨B, 2, none⟩) hB _
/-- The end of Parse where something is wrong. -/
theorem parse_bad {w wX : World} {u0 u1 u2 u3 u4 y0 y1 y2 : Value} {P : Mc × (Int × Int × Int)} {er fi lo : Int} (hP : (⟨⟨#[]⟩, false, [], false, []⟩, (er, fi, lo)) = P) (hA : wX.heap[w.heap.size]? = some (.cells #[u0, u1, u2, u3, u4] 26)) (hF : wX.heap[w.heap.size + 1]? = some (.cells #[y0, y1, y2] 29)) (hb : Below w.heap.size w wX) (tmps : Array Value) (h1 : tmps.getD 2 undef = .pointer (some ⟨w.heap.size, 0, none⟩)) (h2 : tmps.getD 3 undef = .pointer (some ⟨w.heap.size + 1, 0, none⟩)) :
    bodyPost Tryz.prog Tryz.f7 (ParsePost w P) Exit.ret { tmps := tmps, defers := [] } (put53 wX w.heap.size (w.heap.size + 1) (.string ⟨#[]⟩) (.bool false) (.slice none 0 0) (.bool false) (.slice none 0 0) (.int .i64 er) (.int .i64 fi) (.int .i64 lo)).drew := by
  subst hP
  have hp := put53_at hA hF (by omega) (.string ⟨#[]⟩) (.bool false) (.slice none 0 0) (.bool false) (.slice none 0 0) (.int .i64 er) (.int .i64 fi) (.int .i64 lo)
  have hbl := put53_below hb (Nat.le_refl _) (Nat.le_succ w.heap.size) (.string ⟨#[]⟩) (.bool false) (.slice none 0 0) (.bool false) (.slice none 0 0) (.int .i64 er) (.int .i64 fi) (.int .i64 lo)
  generalize put53 wX w.heap.size (w.heap.size + 1) (.string ⟨#[]⟩) (.bool false) (.slice none 0 0) (.bool false) (.slice none 0 0) (.int .i64 er) (.int .i64 fi) (.int .i64 lo) = W' at hp hbl ⊢
  exact bodyPost_ret (parse_ret (W := W'.drew) hp.1 hp.2 tmps h1 h2) rfl ⟨⟨⟨#[]⟩, false, none, 0, 0, false, none, 0, 0⟩, rfl, ⟨rfl, rfl, rfl, .inl rfl, rfl, rfl, .inl rfl⟩, hbl.drew⟩

theorem five_strings {b0 b1 : Bool} {a1 a2 : Option Addr} {n1 k1 n2 k2 : Nat} (i : Nat) (x : ByteArray) (h : (#[.string ⟨#[]⟩, .bool b0, .slice a1 n1 k1, .bool b1, .slice a2 n2 k2] : Array Value)[i]? = some (.string x)) : x.size = 0 := by
  rcases i with _ | _ | _ | _ | _ | i
  · simp at h; subst h; rfl
  · simp at h
  · simp at h
  · simp at h
  · simp at h
  · simp at h
theorem three_strings {e f g : Int} (i : Nat) (x : ByteArray) (h : (#[.int .i64 e, .int .i64 f, .int .i64 g] : Array Value)[i]? = some (.string x)) : x.size = 0 := by
  rcases i with _ | _ | _ | i
  · simp at h
  · simp at h
  · simp at h
  · simp at h
/-- The end of Parse where all is right. -/
theorem parse_good {w w4 : World} {P : Mc × (Int × Int × Int)} {nm : ByteArray} {cl mo : Bool} {ps : List ByteArray} {bs : List Tk} {pa ba : Option Addr} {pc bc : Nat} (hP : (⟨nm, cl, ps, mo, bs⟩, (0, -1, 0)) = P) (hA : w4.heap[w.heap.size]? = some (.cells #[.string ⟨#[]⟩, .bool false, .slice none 0 0, .bool false, .slice none 0 0] 26)) (hF : w4.heap[w.heap.size + 1]? = some (.cells #[.int .i64 0, .int .i64 0, .int .i64 0] 29)) (hb : Below w.heap.size w w4) (hS : StAt w4 pa ps) (hfu : ∀ p ∈ ps, p.size ≠ 0) (hT : TAt w4 ba bs) (tmps : Array Value) (h1 : tmps.getD 2 undef = .pointer (some ⟨w.heap.size, 0, none⟩)) (h2 : tmps.getD 3 undef = .pointer (some ⟨w.heap.size + 1, 0, none⟩)) :
    bodyPost Tryz.prog Tryz.f7 (ParsePost w P) Exit.ret { tmps := tmps, defers := [] } (put53 w4 w.heap.size (w.heap.size + 1) (.string nm) (.bool cl) (.slice pa ps.length pc) (.bool mo) (.slice ba bs.length bc) (.int .i64 0) (.int .i64 (-1)) (.int .i64 0)) := by
  subst hP
  have hp := put53_at hA hF (by omega) (.string nm) (.bool cl) (.slice pa ps.length pc) (.bool mo) (.slice ba bs.length bc) (.int .i64 0) (.int .i64 (-1)) (.int .i64 0)
  have hbl := put53_below hb (Nat.le_refl _) (Nat.le_succ w.heap.size) (.string nm) (.bool cl) (.slice pa ps.length pc) (.bool mo) (.slice ba bs.length bc) (.int .i64 0) (.int .i64 (-1)) (.int .i64 0)
  have hz := put53_size w4 w.heap.size (w.heap.size + 1) (.string nm) (.bool cl) (.slice pa ps.length pc) (.bool mo) (.slice ba bs.length bc) (.int .i64 0) (.int .i64 (-1)) (.int .i64 0)
  have ho := fun k => put53_other w4 w.heap.size (w.heap.size + 1) k (.string nm) (.bool cl) (.slice pa ps.length pc) (.bool mo) (.slice ba bs.length bc) (.int .i64 0) (.int .i64 (-1)) (.int .i64 0)
  generalize put53 w4 w.heap.size (w.heap.size + 1) (.string nm) (.bool cl) (.slice pa ps.length pc) (.bool mo) (.slice ba bs.length bc) (.int .i64 0) (.int .i64 (-1)) (.int .i64 0) = W' at hp hbl hz ho ⊢
  have hS' : StAt W' pa ps := hS.same (by omega) (by
    rcases hS.apart hA five_strings hfu with h | ⟨b, off, rfl, hne⟩
    · exact .inl h
    · rcases hS.apart hF three_strings hfu with h | ⟨b', off', he, hne'⟩
      · exact .inl h
      · cases he
        exact .inr ⟨b, off, rfl, ho b hne hne'⟩)
  have hT' : TAt W' ba bs := hT.same (by omega) (by
    rcases hT.apart hA (by simp) with h | ⟨b, off, rfl, hne⟩
    · exact .inl h
    · rcases hT.apart hF (by simp) with h | ⟨b', off', he, hne'⟩
      · exact .inl h
      · cases he
        exact .inr ⟨b, off, rfl, ho b hne hne'⟩)
  exact bodyPost_ret (parse_ret (W := W') hp.1 hp.2 tmps h1 h2) rfl ⟨⟨nm, cl, pa, ps.length, pc, mo, ba, bs.length, bc⟩, rfl, ⟨rfl, rfl, rfl, hS', rfl, rfl, hT'⟩, hbl⟩

set_option maxRecDepth 100000 in
set_option maxHeartbeats 400000 in
theorem Parse_any (a : Option Addr) (c : Nat) (ts : List Tk) (w : World) (hT : TAt w a ts) (hc : ts.length ≤ c) (hl : ts.length ≤ 1048576) (hfu : ∀ t ∈ ts, t.text.size ≠ 0) :
    Calls Tryz.prog 7 #[.slice a ts.length c] w (ParsePost w (parseL ts)) := by
  have hb0 : Below w.heap.size w ((w.alloc (.cells #[.string ⟨#[]⟩, .bool false, .slice none 0 0, .bool false, .slice none 0 0] 26)).alloc (.cells #[.int .i64 0, .int .i64 0, .int .i64 0] 29)) := ((Below.refl _ w).alloc (Nat.le_refl _) _).alloc (by simp) _
  have HR := hid (two_blocks w (.cells #[.string ⟨#[]⟩, .bool false, .slice none 0 0, .bool false, .slice none 0 0] 26) (.cells #[.int .i64 0, .int .i64 0, .int .i64 0] 29))
  have HB0 := hid hb0
  have HN := hid (numbered_any a c ts _ (hT.below hb0) hl)
  have HT0 := hid (hT.below hb0)
  have eg : ∀ args w, (callFunc 56 args).run Tryz.prog w = .ok (.enter 56 args) w := enters_of Tryz.func56 (by kernel_rfl) rfl
  have HHN := hid (head_next ts)
  have HHL := hid (head_len ts)
  have HHF := hid (head_full hfu)
  have HL := hid (And.intro hc hl)
  clear hb0 hT hc hl hfu
  obtain ⟨P, hP⟩ : ∃ P, parseL ts = P := ⟨_, rfl⟩
  rw [hP]
  unfold parseL bodyA at hP
  have HP := hid hP
  clear hP
  go_enter Tryz.func7, Tryz.ntmps7
  go_wp2_with fail
  generalize ((w.alloc (.cells #[.string ⟨#[]⟩, .bool false, .slice none 0 0, .bool false, .slice none 0 0] 26)).alloc (.cells #[.int .i64 0, .int .i64 0, .int .i64 0] 29)) = w0 at HR HB0 HN HT0 ⊢
  refine HN.out.mono ?_
  rintro e w1 ⟨Bl, Be, rfl, hN1, hb1⟩
  have HHd := hid (head_any Bl Be a c ts w1 hN1)
  have HB1 := hid (HB0.out.trans (hb1.mono HB0.out.size))
  have HR1 := hid (And.intro ((hb1.block _ (lt_of_block HR.out.1)).trans HR.out.1) ((hb1.block _ (lt_of_block HR.out.2)).trans HR.out.2))
  have HTk := hid (fun (i : Nat) W (hW : Below w1.heap.size w1 W) => num_at Bl Be a c ts i W (hN1.below hW))
  have HT1 := hid (HT0.out.below hb1)
  unfold aggT at HTk
  clear hN1 hb1 HN HR HB0 HT0
  generalize headL ts = hd at HHd HHN HHL HHF HP
  obtain ⟨nm, cl, ps, mo, nx, er⟩ := hd
  unfold HeadPost at HHd
  dsimp only at HHd HHN HHL HHF HP
  go_wp2_with fail
  refine HHd.out.mono ?_
  rintro e w2 ⟨pa, pc, rfl, hS2, hb2⟩
  have HS2 := hid hS2
  have HB2 := hid hb2
  clear hS2 hb2 HHd
  by_cases he : er = 0
  · subst he
    have HNX := hid (HHN.out rfl)
    rw [if_neg (by decide)] at HP
    obtain ⟨r, hr⟩ : ∃ r, (if nx < ts.length then bodyR cl mo ps ts nx else (0, 0)) = r := ⟨_, rfl⟩
    rw [hr] at HP
    have HBD := hid (body_any w2 w2.heap.size nm cl mo pa pc ps a c ts nx (w2.alloc (.cells #[.string nm, .bool cl, .slice pa ps.length pc, .bool mo, .slice none 0 0] 26)) (HT1.out.below HB2.out) HS2.out (by have := HHL.out; omega) (Nat.le_refl _) ((Below.refl _ w2).alloc (Nat.le_refl _) _) (heap_alloc_new w2 _) HNX.out HL.out.1 HL.out.2)
    rw [hr] at HBD
    clear hr
    obtain ⟨ri, re⟩ := r
    unfold BodyPost at HBD
    dsimp only at HBD HP
    go_wp2_with fail
    refine HBD.out.mono ?_
    rintro e w4 ⟨rfl, hb4, hgood⟩
    have hb14 := HB2.out.trans (hb4.mono HB2.out.size)
    have HBM := hid hb14
    have HGD := hid hgood
    have HB42 := hid hb4
    clear hb14 hb4 hgood HBD
    by_cases hre : re = 0
    · subst hre
      rw [if_neg (by decide)] at HP
      obtain ⟨ba, bc, hMB, hTB⟩ := HGD.out rfl
      have HMB := hid hMB
      have HTB := hid hTB
      have g1 := (HBM.out.block _ (lt_of_block HR1.out.1)).trans HR1.out.1
      have g2 := (HBM.out.block _ (lt_of_block HR1.out.2)).trans HR1.out.2
      have HG := hid (And.intro g1 g2)
      obtain ⟨⟨q0, q1, q2, q3, q4⟩, _⟩ := hMB.facts
      obtain ⟨⟨m0, m1, m2, m3, m4⟩, ⟨n0, n1, n2, n3, n4⟩⟩ := MBox.facts (v := ⟨⟨#[]⟩, false, none, 0, 0, false, none, 0, 0⟩) g1
      obtain ⟨f0, f1, f2, z0, z1, z2⟩ := fault_block g2
      have hl1 := lt_of_block g1
      have hl2 := lt_of_block g2
      have hl3 := lt_of_block hMB
      have hlw : w.heap.size + 1 < w2.heap.size := lt_of_block ((HB2.out.block _ (lt_of_block HR1.out.2)).trans HR1.out.2)
      have hne1 : w2.heap.size ≠ w.heap.size := by omega
      have hne2 : w2.heap.size ≠ w.heap.size + 1 := by omega
      have hne3 : w.heap.size ≠ w.heap.size + 1 := by omega
      dsimp only at m0 m1 m2 m3 m4 q0 q1 q2 q3 q4
      clear hMB hTB g1 g2 hlw
      go_wp2_with fail
      exact parse_good HP.out HG.out.1 HG.out.2 (HB1.out.trans (HBM.out.mono HB1.out.size)) (HS2.out.below HB42.out) HHF.out HTB.out _ rfl rfl
    · rw [if_pos hre] at HP
      have heb : (re == 0) = false := by simpa using hre
      have heb' : (re != 0) = true := by simpa using hre
      have HHE := hid hre
      clear hre HGD
      go_wp2_with fail
      refine (HTk.out ri _ HBM.out).mono ?_
      rintro e w3 ⟨rfl, hb3⟩
      have hb13 := HBM.out.trans (hb3.mono HBM.out.size)
      have g1 := (hb13.block _ (lt_of_block HR1.out.1)).trans HR1.out.1
      have g2 := (hb13.block _ (lt_of_block HR1.out.2)).trans HR1.out.2
      obtain ⟨⟨m0, m1, m2, m3, m4⟩, ⟨n0, n1, n2, n3, n4⟩⟩ := MBox.facts (v := ⟨⟨#[]⟩, false, none, 0, 0, false, none, 0, 0⟩) g1
      obtain ⟨f0, f1, f2, z0, z1, z2⟩ := fault_block g2
      have hl1 := lt_of_block g1
      have hl2 := lt_of_block g2
      dsimp only at m0 m1 m2 m3 m4
      have HG := hid (And.intro g1 g2)
      have HB3 := hid (HB1.out.trans (hb13.mono HB1.out.size))
      clear hb3 hb13 g1 g2
      obtain ⟨x, hx⟩ : ∃ x, tokAt ts ri = x := ⟨_, rfl⟩
      rw [hx] at HP ⊢
      have HXB := hid (heap_alloc_new w3 (.cells #[.int .i64 x.kind, .string x.text, .bool x.space, .bool x.first, .int .i64 x.file, .int .i64 x.lo, .int .i64 x.hi, .int .i64 x.line, .slice none 0 0, .slice none 0 0, .int .i64 0] 43))
      have hbx := (Below.refl _ w3).alloc (Nat.le_refl _) (.cells #[.int .i64 x.kind, .string x.text, .bool x.space, .bool x.first, .int .i64 x.file, .int .i64 x.lo, .int .i64 x.hi, .int .i64 x.line, .slice none 0 0, .slice none 0 0, .int .i64 0] 43)
      have HGX := hid (And.intro ((hbx.block _ (lt_of_block HG.out.1)).trans HG.out.1) ((hbx.block _ (lt_of_block HG.out.2)).trans HG.out.2))
      have HB4 := hid (HB3.out.trans (hbx.mono HB3.out.size))
      clear hx hbx m0 m1 m2 m3 m4 n0 n1 n2 n3 n4 f0 f1 f2 z0 z1 z2
      go_wp2_with fail
      generalize w3.alloc (.cells #[.int .i64 x.kind, .string x.text, .bool x.space, .bool x.first, .int .i64 x.file, .int .i64 x.lo, .int .i64 x.hi, .int .i64 x.line, .slice none 0 0, .slice none 0 0, .int .i64 0] 43) = wX at HXB HGX HB4 ⊢
      obtain ⟨⟨m0, m1, m2, m3, m4⟩, ⟨n0, n1, n2, n3, n4⟩⟩ := MBox.facts (v := ⟨⟨#[]⟩, false, none, 0, 0, false, none, 0, 0⟩) HGX.out.1
      obtain ⟨f0, f1, f2, z0, z1, z2⟩ := fault_block HGX.out.2
      obtain ⟨⟨x0, x1, x2, x3, x4, x5, x6, x7, x8, x9, x10⟩, _⟩ := tok_block HXB.out
      dsimp only at m0 m1 m2 m3 m4
      have hne1 : w3.heap.size ≠ w.heap.size := Nat.ne_of_gt hl1
      have hne2 : w3.heap.size ≠ w.heap.size + 1 := Nat.ne_of_gt hl2
      have hne3 : w.heap.size ≠ w.heap.size + 1 := by omega
      have hXl : w3.heap.size < wX.heap.size := lt_of_block HXB.out
      have hl1' : w.heap.size < wX.heap.size := lt_of_block HGX.out.1
      have hl2' : w.heap.size + 1 < wX.heap.size := lt_of_block HGX.out.2
      clear x0 x1 x2 x3 x6 x7 x8 x9 x10
      go_region
      all_goals go_wp2_with fail
      exact parse_bad HP.out HGX.out.1 HGX.out.2 HB4.out _ rfl rfl
  · rw [if_pos he] at HP
    have heb : (er == 0) = false := by simpa using he
    have heb' : (er != 0) = true := by simpa using he
    have HHE := hid he
    clear he
    have hbm := HB2.out.alloc HB2.out.size (.cells #[.string nm, .bool cl, .slice pa ps.length pc, .bool mo, .slice none 0 0] 26)
    have HBM := hid hbm
    clear hbm
    go_wp2_with fail
    refine (HTk.out nx _ HBM.out).mono ?_
    rintro e w3 ⟨rfl, hb3⟩
    have hb13 := HBM.out.trans (hb3.mono HBM.out.size)
    have g1 := (hb13.block _ (lt_of_block HR1.out.1)).trans HR1.out.1
    have g2 := (hb13.block _ (lt_of_block HR1.out.2)).trans HR1.out.2
    obtain ⟨⟨m0, m1, m2, m3, m4⟩, ⟨n0, n1, n2, n3, n4⟩⟩ := MBox.facts (v := ⟨⟨#[]⟩, false, none, 0, 0, false, none, 0, 0⟩) g1
    obtain ⟨f0, f1, f2, z0, z1, z2⟩ := fault_block g2
    have hl1 := lt_of_block g1
    have hl2 := lt_of_block g2
    dsimp only at m0 m1 m2 m3 m4
    have HG := hid (And.intro g1 g2)
    have HB3 := hid (HB1.out.trans (hb13.mono HB1.out.size))
    clear hb3 hb13 g1 g2
    obtain ⟨x, hx⟩ : ∃ x, tokAt ts nx = x := ⟨_, rfl⟩
    rw [hx] at HP ⊢
    have HXB := hid (heap_alloc_new w3 (.cells #[.int .i64 x.kind, .string x.text, .bool x.space, .bool x.first, .int .i64 x.file, .int .i64 x.lo, .int .i64 x.hi, .int .i64 x.line, .slice none 0 0, .slice none 0 0, .int .i64 0] 43))
    have hbx := (Below.refl _ w3).alloc (Nat.le_refl _) (.cells #[.int .i64 x.kind, .string x.text, .bool x.space, .bool x.first, .int .i64 x.file, .int .i64 x.lo, .int .i64 x.hi, .int .i64 x.line, .slice none 0 0, .slice none 0 0, .int .i64 0] 43)
    have HGX := hid (And.intro ((hbx.block _ (lt_of_block HG.out.1)).trans HG.out.1) ((hbx.block _ (lt_of_block HG.out.2)).trans HG.out.2))
    have HB4 := hid (HB3.out.trans (hbx.mono HB3.out.size))
    clear hx hbx m0 m1 m2 m3 m4 n0 n1 n2 n3 n4 f0 f1 f2 z0 z1 z2
    go_wp2_with fail
    generalize w3.alloc (.cells #[.int .i64 x.kind, .string x.text, .bool x.space, .bool x.first, .int .i64 x.file, .int .i64 x.lo, .int .i64 x.hi, .int .i64 x.line, .slice none 0 0, .slice none 0 0, .int .i64 0] 43) = wX at HXB HGX HB4 ⊢
    obtain ⟨⟨m0, m1, m2, m3, m4⟩, ⟨n0, n1, n2, n3, n4⟩⟩ := MBox.facts (v := ⟨⟨#[]⟩, false, none, 0, 0, false, none, 0, 0⟩) HGX.out.1
    obtain ⟨f0, f1, f2, z0, z1, z2⟩ := fault_block HGX.out.2
    obtain ⟨⟨x0, x1, x2, x3, x4, x5, x6, x7, x8, x9, x10⟩, _⟩ := tok_block HXB.out
    dsimp only at m0 m1 m2 m3 m4
    have hne1 : w3.heap.size ≠ w.heap.size := Nat.ne_of_gt hl1
    have hne2 : w3.heap.size ≠ w.heap.size + 1 := Nat.ne_of_gt hl2
    have hne3 : w.heap.size ≠ w.heap.size + 1 := by omega
    have hXl : w3.heap.size < wX.heap.size := lt_of_block HXB.out
    have hl1' : w.heap.size < wX.heap.size := lt_of_block HGX.out.1
    have hl2' : w.heap.size + 1 < wX.heap.size := lt_of_block HGX.out.2
    clear x0 x1 x2 x3 x6 x7 x8 x9 x10
    go_region
    all_goals go_wp2_with fail
    exact parse_bad HP.out HGX.out.1 HGX.out.2 HB4.out _ rfl rfl
end
end Go.Proofs.YtedmcefckcmheaaGreatDoor
