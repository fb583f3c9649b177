/- Some texts in one. -/
import Derived.Test.YtkphogfmkempnacDoorCmD
import Derived.Test.YtkphogfmkempnacDoorCmG
import Derived.Test.YtkphogfmkempnacDoorCmE
import Derived.Test.YtkphogfmkempnacDoorLxRef
import Derived.Test.YtkphogfmkempnacDoorLxTokens
import Derived.Deep.RegionHeld3
import Derived.Test.YtkphogfmkempnacDoorCmF
import Derived.Laws.DeepNot64
namespace Go.Proofs.YtkphogfmkempnacDoor
open Go.RowKit Go.Shelf

/-- The document's own Tokens, as RxTokens proves it. -/
def RTok : Prop := ∀ (file : Int) (s : ByteArray) (w : World), Calls Tryd.prog 13 #[.int .i64 file, .string s] w (TokPost file s.data.toList w)
/-- What a text comes to. -/
def evS (l : List UInt8) : Int × (Int × Int × Int) := if (toksF 0 l).2.1 = 0 then evalL numL (toksF 0 l).1 else (0, (toksF 0 l).2)

/-- A block that holds a fault. -/
def FBox (w : World) (B : Nat) (e f g : Int) : Prop := w.heap[B]? = some (.cells #[.int .i64 e, .int .i64 f, .int .i64 g] 28)
theorem FBox.facts {w : World} {B : Nat} {e f g : Int} (h : FBox w B e f g) :
    w.cell? ⟨B, 0, none⟩ = some (.int .i64 e) ∧ w.cell? ⟨B, 1, none⟩ = some (.int .i64 f) ∧ w.cell? ⟨B, 2, none⟩ = some (.int .i64 g) ∧ w.frozen? ⟨B, 0, none⟩ = false ∧ w.frozen? ⟨B, 1, none⟩ = false ∧ w.frozen? ⟨B, 2, none⟩ = false := by
  unfold FBox at h
  simp [World.cell?, World.frozen?, h]
theorem FBox.new (w : World) (e f g : Int) : FBox (w.alloc (.cells #[.int .i64 e, .int .i64 f, .int .i64 g] 28)) w.heap.size e f g := heap_alloc_new w _
theorem FBox.below {w w' : World} {B : Nat} {e f g : Int} (h : FBox w B e f g) (hb : Below w.heap.size w w') : FBox w' B e f g := (hb.block B (lt_of_block h)).trans h
theorem FBox.set {w : World} {B : Nat} {e f g : Int} (h : FBox w B e f g) (e' f' g' : Int) :
    FBox (((w.setCell ⟨B, 0, none⟩ (.int .i64 e')).setCell ⟨B, 1, none⟩ (.int .i64 f')).setCell ⟨B, 2, none⟩ (.int .i64 g')) B e' f' g' := by
  have h1 := Go.Joins.block_setCell (i := 0) h (.int .i64 e')
  have h2 := Go.Joins.block_setCell (i := 1) h1 (.int .i64 f')
  have h3 := Go.Joins.block_setCell (i := 2) h2 (.int .i64 g')
  unfold FBox
  simpa using h3
theorem FBox.tat {w : World} {B : Nat} {e f g : Int} {a : Option Addr} {ts : List Tk} (h : FBox w B e f g) (hT : TAt w a ts) (e' f' g' : Int) :
    TAt (((w.setCell ⟨B, 0, none⟩ (.int .i64 e')).setCell ⟨B, 1, none⟩ (.int .i64 f')).setCell ⟨B, 2, none⟩ (.int .i64 g')) a ts := by
  have h1 := Go.Joins.block_setCell (i := 0) h (.int .i64 e')
  have h2 := Go.Joins.block_setCell (i := 1) h1 (.int .i64 f')
  exact ((hT.setBox h 0 _).setBox (by simpa using h1) 1 _).setBox (by simpa using h2) 2 _
theorem FBox.frame {w w1 : World} {base B : Nat} (hb : Below base w w1) (hB : base ≤ B) (u v x : Value) : Below base w (((w1.setCell ⟨B, 0, none⟩ u).setCell ⟨B, 1, none⟩ v).setCell ⟨B, 2, none⟩ x) :=
  ((hb.setCell (p := ⟨B, 0, none⟩) hB u).setCell (p := ⟨B, 1, none⟩) hB v).setCell (p := ⟨B, 2, none⟩) hB x
theorem FBox.other {w : World} {B C : Nat} {e f g : Int} (h : FBox w C e f g) (hne : C ≠ B) (u v x : Value) : FBox (((w.setCell ⟨B, 0, none⟩ u).setCell ⟨B, 1, none⟩ v).setCell ⟨B, 2, none⟩ x) C e f g := by
  unfold FBox
  rw [Below.heap_setCell _ _ _ C hne, Below.heap_setCell _ _ _ C hne, Below.heap_setCell _ _ _ C hne]
  exact h

theorem ask_ret {W : World} {F : Nat} {e f g : Int} {v : Value} (hF : FBox W F e f g) (tmps : Array Value) (h2 : tmps.getD 2 undef = v) (h3 : tmps.getD 3 undef = .pointer (some ⟨F, 0, none⟩)) :
    (results Tryd.f9 tmps).run Tryd.prog W = .ok (.tuple #[v, .agg #[.int .i64 e, .int .i64 f, .int .i64 g]]) W := by
  obtain ⟨c0, c1, c2, _⟩ := hF.facts
  simp at h2 h3
  simp [results, Tryd.results9, go_sem, h2, h3, c0, c1, c2]

set_option maxRecDepth 100000 in
set_option maxHeartbeats 1000000 in
theorem ask_any (HR : RTok) (s : ByteArray) (w : World) (hE : Ev w) :
    Calls Tryd.prog 9 #[.string s] w fun e w' => e = .returned (.tuple #[.int .i64 (evS s.data.toList).1, .agg #[.int .i64 (evS s.data.toList).2.1, .int .i64 (evS s.data.toList).2.2.1, .int .i64 (evS s.data.toList).2.2.2]]) ∧ Below w.heap.size w w' := by
  have hb0 := (Below.refl _ w).alloc (Nat.le_refl _) (.cells #[.int .i64 0, .int .i64 0, .int .i64 0] 28)
  have HF0 := hid (FBox.new w 0 0 0)
  have HB0 := hid hb0
  have HT := hid (HR 0 s (w.alloc (.cells #[.int .i64 0, .int .i64 0, .int .i64 0] 28)))
  unfold TokPost faultV at HT
  have HE := hid hE
  clear hE HR hb0
  have HS := hid (toks_small 0 s.data.toList)
  have HV : Hid (∀ h : (toksF 0 s.data.toList).2.1 = 0, evS s.data.toList = evalL numL (toksF 0 s.data.toList).1) := fun h => by unfold evS; rw [if_pos h]
  have HV' : Hid (∀ h : (toksF 0 s.data.toList).2.1 ≠ 0, evS s.data.toList = (0, (toksF 0 s.data.toList).2)) := fun h => by unfold evS; rw [if_neg h]
  generalize evS s.data.toList = R at HV HV' ⊢
  generalize (toksF 0 s.data.toList).1 = ts at HT HS HV ⊢
  generalize (toksF 0 s.data.toList).2 = F at HT HV HV' ⊢
  obtain ⟨f0, f1, f2⟩ := F
  dsimp only at HT HV HV' ⊢
  go_enter Tryd.func9, Tryd.ntmps9
  go_wp2_with fail
  refine HT.out.mono ?_
  rintro e w1 ⟨a, c, rfl, hT, hb1, hcap⟩
  have HF1 := hid (HF0.out.below hb1)
  have HB1 := hid (HB0.out.trans (hb1.mono HB0.out.size))
  clear HT hcap HF0 hb1 HB0
  have HN := hid ((Below.refl _ w1).alloc (Nat.le_refl _) (.cells #[.int .i64 f0, .int .i64 f1, .int .i64 f2] 28))
  have HB2 := hid (HB1.out.trans (HN.out.mono HB1.out.size))
  have HF2 := hid (HF1.out.below HN.out)
  have HT2 := hid (hT.below HN.out)
  clear HF1 HB1 hT
  by_cases hf : f0 = 0
  · have HR := hid (HV.out hf)
    have HX := hid (fun W (hW : Below w.heap.size w W) (hTW : TAt W a ts) => Eval_whole a c ts W hTW (HE.out.below hW) HS.out.1 HS.out.2)
    clear HE HS HV HV'
    subst hf
    go_wp2_with fail
    refine (HX.out _ HB2.out HT2.out).mono ?_
    rintro e w2 ⟨rfl, hb2⟩
    have HF3 := hid (HF2.out.below hb2)
    have HB3 := hid (HB2.out.trans (hb2.mono HB2.out.size))
    obtain ⟨b0, b1, b2, z0, z1, z2⟩ := HF3.out.facts
    clear hb2
    go_wp2_with fail
    refine bodyPost_ret (ask_ret (HF3.out.set _ _ _) _ rfl rfl) rfl ⟨by rw [HR.out]; rfl, FBox.frame HB3.out (Nat.le_refl _) _ _ _⟩
  · have HR := hid (HV'.out hf)
    have hfb : (f0 == 0) = false := by simpa using hf
    obtain ⟨b0, b1, b2, z0, z1, z2⟩ := HF2.out.facts
    clear HE HS HV HV' HT2
    go_wp2_with fail
    go_region
    go_wp2_with fail
    have HF3 : FBox ((((w1.alloc (.cells #[.int .i64 f0, .int .i64 f1, .int .i64 f2] 28)).setCell ⟨w.heap.size, 0, none⟩ (.int .i64 f0)).setCell ⟨w.heap.size, 1, none⟩ (.int .i64 f1)).setCell ⟨w.heap.size, 2, none⟩ (.int .i64 f2)).drew w.heap.size f0 f1 f2 := HF2.out.set f0 f1 f2
    refine bodyPost_ret (ask_ret HF3 _ rfl rfl) rfl ⟨by rw [HR.out]; rfl, (FBox.frame HB2.out (Nat.le_refl _) _ _ _).drew⟩

theorem alive_evS : evS aliveL = (16, (0, -1, 0)) := by
  unfold evS
  rw [alive_toks, if_pos rfl, alive_eval]

set_option maxRecDepth 100000 in
set_option maxHeartbeats 1000000 in
theorem cdAlive_any (HR : RTok) (w : World) (hE : Ev w) :
    Calls Tryd.prog 6 #[] w fun e w' => e = .returned (.bool true) ∧ Below w.heap.size w w' := by
  have HA : Hid (∀ W, Below w.heap.size w W → Calls Tryd.prog 9 #[.string ⟨#[49, 32, 43, 32, 50, 32, 42, 32, 51, 32, 61, 61, 32, 55, 32, 38, 38, 32, 39, 97, 39, 32, 61, 61, 32, 57, 55, 32, 63, 32, 48, 120, 49, 48, 32, 58, 32, 49, 32, 47, 32, 48]⟩] W fun e w' => e = .returned (.tuple #[.int .i64 16, .agg #[.int .i64 0, .int .i64 (-1), .int .i64 0]]) ∧ Below W.heap.size W w') := fun W h => by
    have := ask_any HR ⟨aliveL.toArray⟩ W (hE.below h)
    rw [show (ByteArray.mk aliveL.toArray).data.toList = aliveL from rfl, alive_evS] at this
    exact this
  have HN : Hid (∀ W, Below w.heap.size w W → Calls Tryd.prog 10 #[.string ⟨#[48, 49, 55, 117]⟩] W fun e w' => e = .returned (.tuple #[.int .i64 15, .bool true]) ∧ Below W.heap.size W w') := fun W h => by
    have := Num_any ⟨#[48, 49, 55, 117]⟩ W (hE.below h) (by decide)
    rw [show (ByteArray.mk #[48, 49, 55, 117]).data.toList = [48, 49, 55, 117] from rfl, alive_num] at this
    exact this
  have HC : Hid (∀ W, Calls Tryd.prog 11 #[.string ⟨#[39, 92, 110, 39]⟩] W fun e w' => e = .returned (.tuple #[.int .i64 10, .bool true]) ∧ Below W.heap.size W w') := fun W => by
    have := Char_any ⟨#[39, 92, 110, 39]⟩ W
    rw [show (ByteArray.mk #[39, 92, 110, 39]).data.toList = [39, 92, 110, 39] from rfl, alive_char] at this
    exact this
  clear hE HR
  go_enter Tryd.func6, Tryd.ntmps6
  go_wp2_with fail
  refine (HA.out _ (Below.refl _ _)).mono ?_
  rintro e w1 ⟨rfl, hb1⟩
  have hbn := (Below.refl _ w1).alloc (Nat.le_refl _) (.cells #[.int .i64 0, .int .i64 (-1), .int .i64 0] 28)
  have HB2 := hid (hb1.trans (hbn.mono hb1.size))
  have HF2 := hid (FBox.new w1 0 (-1) 0)
  clear hb1 HA hbn
  go_wp2_with fail
  refine (HN.out _ HB2.out).mono ?_
  rintro e w2 ⟨rfl, hb2⟩
  have HF3 := hid (HF2.out.below hb2)
  have HB3 := hid (HB2.out.trans (hb2.mono HB2.out.size))
  clear hb2 HN HF2 HB2
  go_wp2_with fail
  refine (HC.out _).mono ?_
  rintro e w3 ⟨rfl, hb3⟩
  obtain ⟨b0, _⟩ := (HF3.out.below hb3).facts
  have HB4 := hid (HB3.out.trans (hb3.mono HB3.out.size))
  clear hb3 HC HF3 HB3
  go_wp2_with fail
  go_ret
  exact ⟨rfl, HB4.out⟩
end Go.Proofs.YtkphogfmkempnacDoor
namespace Go.Proofs.YtkphogfmkempnacDoor
open Go.RowKit Go.Shelf

instance decOkW : (ws : List Wd) → Decidable (okW ws)
  | [] => isTrue trivial
  | w :: r =>
    have := decOkW r
    inferInstanceAs (Decidable (w.bytes ≠ [] ∧ w.bytes ≠ [35] ∧ w.kind ≠ -1 ∧ blankSz (w.bytes ++ flatW r) = 0 ∧ pick (sizes (w.bytes ++ flatW r) false) = (w.kind, (w.bytes.length : Int)) ∧ okW r))

/-- A number as words: in parentheses, and what is below 0 by its opposite, less 1. -/
def litW (g : Bool) (n : Int) : List Wd := if n < 0 then [⟨g, 5, [40]⟩, ⟨false, 5, [126]⟩, ⟨false, 2, Lib.decDigits (-1 - n).toNat⟩, ⟨false, 5, [41]⟩] else [⟨g, 5, [40]⟩, ⟨false, 2, Lib.decDigits n.toNat⟩, ⟨false, 5, [41]⟩]
def litL (n : Int) : List UInt8 := flatW (litW false n)

theorem flatW_append : ∀ (a b : List Wd), flatW (a ++ b) = flatW a ++ flatW b
  | [], _ => rfl
  | w :: r, b => by rw [List.cons_append, flatW, flatW, flatW_append r b, List.append_assoc]
theorem flat_lit (g : Bool) (n : Int) : flatW (litW g n) = (if g then [32] else []) ++ litL n := by
  unfold litL litW
  split <;> cases g <;> simp [flatW]

theorem pick_sign1 (c : UInt8) (r : List UInt8) (h : c = 40 ∨ c = 41 ∨ c = 126 ∨ c = 63 ∨ c = 58) : pick (sizes (c :: r) false) = (5, 1) ∧ blankSz (c :: r) = 0 := by
  rcases h with rfl | rfl | rfl | rfl | rfl
  all_goals
    constructor
    · have h1 : ∀ c : UInt8, letB c = false → nameSz (c :: r) = 0 := fun c h => by simp [nameSz, byteAt, h]
      simp [sizes, pick, h1 _ (show letB 40 = false by decide), h1 _ (show letB 41 = false by decide), h1 _ (show letB 126 = false by decide), h1 _ (show letB 63 = false by decide), h1 _ (show letB 58 = false by decide), numSz, startsNum, digB, quotSz, signSz, signsL, List.isPrefixOf]
    · simp [blankSz]

theorem ok_lit (g : Bool) (n : Int) (r : List Wd) (hr : okW r) : okW (litW g n ++ r) := by
  unfold litW
  split
  · have hd := dec_digits (-1 - n).toNat
    have hne := dec_ne (-1 - n).toNat
    obtain ⟨p1, p2⟩ := pick_dec (Lib.decDigits (-1 - n).toNat) (flatW r) hne hd
    refine ⟨by simp, by simp, by simp, (pick_sign1 40 _ (by simp)).2, (pick_sign1 40 _ (by simp)).1, by simp, by simp, by simp, (pick_sign1 126 _ (by simp)).2, (pick_sign1 126 _ (by simp)).1, hne, ?_, by simp, p2, p1, by simp, by simp, by simp, (pick_sign1 41 _ (by simp)).2, (pick_sign1 41 _ (by simp)).1, hr⟩
    intro e
    have := hd 35 (by rw [show Lib.decDigits (-1 - n).toNat = [35] from e]; simp)
    revert this; decide
  · have hd := dec_digits n.toNat
    have hne := dec_ne n.toNat
    obtain ⟨p1, p2⟩ := pick_dec (Lib.decDigits n.toNat) (flatW r) hne hd
    refine ⟨by simp, by simp, by simp, (pick_sign1 40 _ (by simp)).2, (pick_sign1 40 _ (by simp)).1, hne, ?_, by simp, p2, p1, by simp, by simp, by simp, (pick_sign1 41 _ (by simp)).2, (pick_sign1 41 _ (by simp)).1, hr⟩
    intro e
    have := hd 35 (by rw [show Lib.decDigits n.toNat = [35] from e]; simp)
    revert this; decide

/-- An int. -/
def IsInt (n : Int) : Prop := -9223372036854775808 ≤ n ∧ n ≤ 9223372036854775807
theorem lit_len (n : Int) (h : IsInt n) : (litL n).length ≤ 24 := by
  obtain ⟨h0, h1⟩ := h
  unfold litL litW
  split
  · have := Lib.nDigits_le20 (-1 - n).toNat (by omega)
    rw [← Lib.decDigits_length] at this
    simp [flatW]; omega
  · have := Lib.nDigits_le20 n.toNat (by omega)
    rw [← Lib.decDigits_length] at this
    simp [flatW]; omega
theorem lit_bytes (n : Int) : ∀ c ∈ litL n, c ≠ 92 ∧ c ≠ 10 := by
  have hd : ∀ u, ∀ c ∈ Lib.decDigits u, c ≠ 92 ∧ c ≠ 10 := fun u c hc => by
    have := dec_digits u c hc
    constructor <;> (intro e; subst e; revert this; decide)
  unfold litL litW
  intro c hc
  split at hc
  · simp [flatW] at hc
    rcases hc with rfl | rfl | hc | rfl
    · decide
    · decide
    · exact hd _ c hc
    · decide
  · simp [flatW] at hc
    rcases hc with rfl | hc | rfl
    · decide
    · exact hd _ c hc
    · decide

theorem at_app {α : Type} (pre post : List α) (i : Nat) : (pre ++ post)[pre.length + i]? = post[i]? := by
  rw [List.getElem?_append_right (by omega), Nat.add_sub_cancel_left]

/-- A number in parentheses is what it is. -/
theorem lit_op {ts : List Tk} {pre post : List (Int × List UInt8)} (g : Bool) (n : Int) (hn : IsInt n) (h : ts.map ktT = pre ++ ((litW g n).map ktW ++ post)) (asked : Bool) : OpAt numL ts pre.length asked (.inl (n, pre.length + (litW g n).length)) := by
  obtain ⟨h0, h1⟩ := hn
  unfold litW at h ⊢
  split
  · rename_i hneg
    rw [if_pos hneg] at h
    have e : ∀ i v, ([(5, [40]), (5, [126]), (2, Lib.decDigits (-1 - n).toNat), (5, [41])] ++ post)[i]? = some v → (pre ++ ([(5, [40]), (5, [126]), (2, Lib.decDigits (-1 - n).toNat), (5, [41])] ++ post))[pre.length + i]? = some v := fun i v hv => by rw [at_app]; exact hv
    have hv : bits .xor .i64 (-1) (((-1 - n).toNat : Nat) : Int) = n := by
      rw [i64_not _ (by omega)]; omega
    have := op_neg (num := numL) (asked := asked) (SgAt.of h (e 0 _ rfl)) (SgAt.of h (e 1 _ rfl)) (NmAt.of h (e 2 _ rfl) (num_dec (-1 - n).toNat (by omega))) (SgAt.of h (e 3 _ rfl))
    rw [hv] at this
    exact this
  · rename_i hneg
    rw [if_neg hneg] at h
    have e : ∀ i v, ([(5, [40]), (2, Lib.decDigits n.toNat), (5, [41])] ++ post)[i]? = some v → (pre ++ ([(5, [40]), (2, Lib.decDigits n.toNat), (5, [41])] ++ post))[pre.length + i]? = some v := fun i v hv => by rw [at_app]; exact hv
    have := op_lit (num := numL) (asked := asked) (SgAt.of h (e 0 _ rfl)) (NmAt.of h (e 1 _ rfl) (num_dec n.toNat (by omega))) (SgAt.of h (e 2 _ rfl))
    rw [show ((n.toNat : Nat) : Int) = n by omega] at this
    exact this

/-- What a text of words comes to. -/
theorem evS_words (ws : List Wd) (hok : okW ws) (hc : ∀ c ∈ flatW ws, c ≠ 92 ∧ c ≠ 10) (hl : (flatW ws).length ≤ 3000) :
    ∃ ts, evS (flatW ws) = evalL numL ts ∧ ts.map ktT = ws.map ktW := by
  obtain ⟨t1, t2⟩ := toks_words ws hok hc hl (flatW_length ws hok)
  refine ⟨_, ?_, t2⟩
  unfold evS
  rw [if_pos (by rw [t1])]

def tail1 : List Wd := [⟨true, 5, [58]⟩, ⟨true, 5, [40]⟩, ⟨false, 2, [49]⟩, ⟨false, 5, [47]⟩, ⟨false, 2, [48]⟩, ⟨false, 5, [41]⟩]
def tail2 : List Wd := [⟨true, 5, [38, 38]⟩, ⟨true, 5, [40]⟩, ⟨false, 2, [49]⟩, ⟨false, 5, [37]⟩, ⟨false, 2, [48]⟩, ⟨false, 5, [41]⟩, ⟨true, 5, [124, 124]⟩, ⟨true, 2, [49]⟩]
def tail3 : List Wd := [⟨true, 5, [124, 124]⟩, ⟨true, 5, [40]⟩, ⟨false, 2, [49]⟩, ⟨false, 5, [47]⟩, ⟨false, 2, [48]⟩, ⟨false, 5, [41]⟩]
theorem tail1_ok : okW tail1 := by decide +kernel
theorem tail2_ok : okW tail2 := by decide +kernel
theorem tail3_ok : okW tail3 := by decide +kernel
theorem num_1 : numL [49] = some 1 := by decide +kernel
theorem num_0 : numL [48] = some 0 := by decide +kernel

theorem idle1 (a b : Int) (ha : IsInt a) (hb : IsInt b) :
    (a ≠ 0 → evS (litL a ++ [32, 63, 32] ++ litL b ++ [32, 58, 32, 40, 49, 47, 48, 41]) = (b, (0, -1, 0))) ∧ (a = 0 → (evS (litL a ++ [32, 63, 32] ++ litL b ++ [32, 58, 32, 40, 49, 47, 48, 41])).2.1 = 13) := by
  have hf : litL a ++ [32, 63, 32] ++ litL b ++ [32, 58, 32, 40, 49, 47, 48, 41] = flatW (litW false a ++ (⟨true, 5, [63]⟩ :: (litW true b ++ tail1))) := by
    rw [flatW_append, flatW, flatW_append, flat_lit, flat_lit]
    simp [tail1, flatW]
  have hok : okW (litW false a ++ (⟨true, 5, [63]⟩ :: (litW true b ++ tail1))) :=
    ok_lit _ _ _ ⟨by simp, by simp, by simp, (pick_sign1 63 _ (by simp)).2, (pick_sign1 63 _ (by simp)).1, ok_lit _ _ _ tail1_ok⟩
  have la := lit_len a ha
  have lb := lit_len b hb
  obtain ⟨ts, he, ht⟩ := evS_words _ hok (fun c hc => by
    rw [← hf] at hc
    simp only [List.mem_append] at hc
    rcases hc with ((hc | hc) | hc) | hc
    · exact lit_bytes a c hc
    · revert c; decide
    · exact lit_bytes b c hc
    · revert c; decide) (by rw [← hf]; simp; omega)
  rw [hf, he]
  rw [List.map_append, List.map_cons, List.map_append] at ht
  have hlen : ts.length = (litW false a).length + 1 + (litW true b).length + 6 := by
    have := congrArg List.length ht
    simp [tail1] at this
    omega
  have hx := lit_op (pre := []) false a ha (h := ht) true
  rw [List.length_nil, Nat.zero_add] at hx
  have hq : SgAt ts (litW false a).length [63] := SgAt.of ht (by
    have := at_app ((litW false a).map ktW) (ktW ⟨true, 5, [63]⟩ :: ((litW true b).map ktW ++ tail1.map ktW)) 0
    rw [List.length_map, Nat.add_zero] at this
    rw [this]; rfl)
  have ht2 : ts.map ktT = ((litW false a).map ktW ++ [ktW ⟨true, 5, [63]⟩]) ++ ((litW true b).map ktW ++ tail1.map ktW) := by rw [ht]; simp
  have hy := fun q => lit_op (pre := (litW false a).map ktW ++ [ktW ⟨true, 5, [63]⟩]) true b hb (h := ht2) q
  have ht3 : ts.map ktT = ((litW false a).map ktW ++ [ktW ⟨true, 5, [63]⟩] ++ (litW true b).map ktW) ++ tail1.map ktW := by rw [ht]; simp
  have hz : ∀ i v, (tail1.map ktW)[i]? = some v → (((litW false a).map ktW ++ [ktW ⟨true, 5, [63]⟩] ++ (litW true b).map ktW) ++ tail1.map ktW)[((litW false a).length + 1 + (litW true b).length) + i]? = some v := fun i v hv => by
    have := at_app ((litW false a).map ktW ++ [ktW ⟨true, 5, [63]⟩] ++ (litW true b).map ktW) (tail1.map ktW) i
    rw [show ((litW false a).map ktW ++ [ktW ⟨true, 5, [63]⟩] ++ (litW true b).map ktW).length = (litW false a).length + 1 + (litW true b).length by simp; omega] at this
    rw [this]; exact hv
  simp only [List.length_append, List.length_map, List.length_cons, List.length_nil, Nat.zero_add] at hy
  have hc : SgAt ts ((litW false a).length + 1 + (litW true b).length) [58] := SgAt.of ht3 (hz 0 _ rfl)
  have k0 : SgAt ts ((litW false a).length + 1 + (litW true b).length + 1) [40] := SgAt.of ht3 (hz 1 _ rfl)
  have k1 : NmAt numL ts ((litW false a).length + 1 + (litW true b).length + 1 + 1) 1 := NmAt.of ht3 (hz 2 _ rfl) num_1
  have k2 : SgAt ts ((litW false a).length + 1 + (litW true b).length + 1 + 2) [47] := SgAt.of ht3 (hz 3 _ rfl)
  have k3 : NmAt numL ts ((litW false a).length + 1 + (litW true b).length + 1 + 3) 0 := NmAt.of ht3 (hz 4 _ rfl) num_0
  have k4 : SgAt ts ((litW false a).length + 1 + (litW true b).length + 1 + 4) [41] := SgAt.of ht3 (hz 5 _ rfl)
  constructor
  · intro hne
    have hb0 : (a == 0) = false := by simpa using hne
    have := (whole_choice hx hq (hy _) hc (r := .inl (1, ts.length)) (by
      rw [hb0, hlen]
      exact op_two_idle k0 k1 k2 k3 k4 (by decide))).1 1 rfl
    rw [this, hb0]
    rfl
  · intro he0
    have hb0 : (a == 0) = true := by simpa using he0
    exact ((whole_choice hx hq (hy _) hc (r := .inr (13, _)) (by
      rw [hb0]
      exact op_two_asked k0 k1 k2 k3 k4 (by decide) (by decide) (by decide))).2 13 _ rfl).2
theorem idle2 (a : Int) (ha : IsInt a) :
    (a ≠ 0 → (evS (litL a ++ [32, 38, 38, 32, 40, 49, 37, 48, 41, 32, 124, 124, 32, 49])).2.1 = 13) ∧ (a = 0 → evS (litL a ++ [32, 38, 38, 32, 40, 49, 37, 48, 41, 32, 124, 124, 32, 49]) = (1, (0, -1, 0))) := by
  have hf : litL a ++ [32, 38, 38, 32, 40, 49, 37, 48, 41, 32, 124, 124, 32, 49] = flatW (litW false a ++ tail2) := by
    rw [flatW_append, flat_lit]
    simp [tail2, flatW]
  have la := lit_len a ha
  obtain ⟨ts, he, ht⟩ := evS_words _ (ok_lit false a _ tail2_ok) (fun c hc => by
    rw [← hf] at hc
    simp only [List.mem_append] at hc
    rcases hc with hc | hc
    · exact lit_bytes a c hc
    · revert c; decide) (by rw [← hf]; simp; omega)
  rw [hf, he]
  rw [List.map_append] at ht
  have hlen : ts.length = (litW false a).length + 8 := by
    have := congrArg List.length ht
    simp [tail2] at this
    omega
  have hx := lit_op (pre := []) false a ha (h := ht) true
  rw [List.length_nil, Nat.zero_add] at hx
  have hz : ∀ i v, (tail2.map ktW)[i]? = some v → ((litW false a).map ktW ++ tail2.map ktW)[(litW false a).length + i]? = some v := fun i v hv => by
    have := at_app ((litW false a).map ktW) (tail2.map ktW) i
    rw [List.length_map] at this
    rw [this]; exact hv
  have hq : SgAt ts (litW false a).length [38, 38] := SgAt.of ht (hz 0 _ rfl)
  have k0 : SgAt ts ((litW false a).length + 1) [40] := SgAt.of ht (hz 1 _ rfl)
  have k1 : NmAt numL ts ((litW false a).length + 1 + 1) 1 := NmAt.of ht (hz 2 _ rfl) num_1
  have k2 : SgAt ts ((litW false a).length + 1 + 2) [37] := SgAt.of ht (hz 3 _ rfl)
  have k3 : NmAt numL ts ((litW false a).length + 1 + 3) 0 := NmAt.of ht (hz 4 _ rfl) num_0
  have k4 : SgAt ts ((litW false a).length + 1 + 4) [41] := SgAt.of ht (hz 5 _ rfl)
  have k5 : SgAt ts ((litW false a).length + 1 + 5) [124, 124] := SgAt.of ht (hz 6 _ rfl)
  have k6 : NmAt numL ts ((litW false a).length + 1 + 5 + 1) 1 := NmAt.of ht (hz 7 _ rfl) num_1
  have hlast : ∀ q f, rdF numL ts (f + 1) 3 0 0 ((litW false a).length + 1 + 5 + 1) 0 q = .inl (1, ts.length) := fun q f => by
    rw [op_num k6 f 0 q (by omega), hlen]
  constructor
  · intro hne
    have hb0 : (!(a == 0)) = true := by simpa using hne
    exact ((whole_three hx hq (r := .inr (13, _)) (by
      rw [hb0]
      exact op_two_asked k0 k1 k2 k3 k4 (by decide) (by decide) (by decide)) k5 hlast).2 13 _ rfl).2
  · intro he0
    have hb0 : (!(a == 0)) = false := by simpa using he0
    exact (whole_three hx hq (r := .inl (1, (litW false a).length + 1 + 5)) (by
      rw [hb0]
      exact op_two_idle k0 k1 k2 k3 k4 (by decide)) k5 hlast).1 1 rfl he0
theorem idle3 (a : Int) (ha : IsInt a) :
    (a ≠ 0 → evS (litL a ++ [32, 124, 124, 32, 40, 49, 47, 48, 41]) = (1, (0, -1, 0))) ∧ (a = 0 → (evS (litL a ++ [32, 124, 124, 32, 40, 49, 47, 48, 41])).2.1 = 13) := by
  have hf : litL a ++ [32, 124, 124, 32, 40, 49, 47, 48, 41] = flatW (litW false a ++ tail3) := by
    rw [flatW_append, flat_lit]
    simp [tail3, flatW]
  have la := lit_len a ha
  obtain ⟨ts, he, ht⟩ := evS_words _ (ok_lit false a _ tail3_ok) (fun c hc => by
    rw [← hf] at hc
    simp only [List.mem_append] at hc
    rcases hc with hc | hc
    · exact lit_bytes a c hc
    · revert c; decide) (by rw [← hf]; simp; omega)
  rw [hf, he]
  rw [List.map_append] at ht
  have hlen : ts.length = (litW false a).length + 6 := by
    have := congrArg List.length ht
    simp [tail3] at this
    omega
  have hx := lit_op (pre := []) false a ha (h := ht) true
  rw [List.length_nil, Nat.zero_add] at hx
  have hz : ∀ i v, (tail3.map ktW)[i]? = some v → ((litW false a).map ktW ++ tail3.map ktW)[(litW false a).length + i]? = some v := fun i v hv => by
    have := at_app ((litW false a).map ktW) (tail3.map ktW) i
    rw [List.length_map] at this
    rw [this]; exact hv
  have hq : SgAt ts (litW false a).length [124, 124] := SgAt.of ht (hz 0 _ rfl)
  have k0 : SgAt ts ((litW false a).length + 1) [40] := SgAt.of ht (hz 1 _ rfl)
  have k1 : NmAt numL ts ((litW false a).length + 1 + 1) 1 := NmAt.of ht (hz 2 _ rfl) num_1
  have k2 : SgAt ts ((litW false a).length + 1 + 2) [47] := SgAt.of ht (hz 3 _ rfl)
  have k3 : NmAt numL ts ((litW false a).length + 1 + 3) 0 := NmAt.of ht (hz 4 _ rfl) num_0
  have k4 : SgAt ts ((litW false a).length + 1 + 4) [41] := SgAt.of ht (hz 5 _ rfl)
  constructor
  · intro hne
    have hb0 : (a == 0) = false := by simpa using hne
    have hask : asksL [124, 124] a = false := by unfold asksL; simp [hne]
    have := (whole_two (b := 1) hx hq (by decide) (by
      rw [hask, hlen]
      exact op_two_idle k0 k1 k2 k3 k4 (by decide))).1 (by decide)
    rw [this]
    have hr : reckonL [124, 124] a 1 = 1 := by
      show truthI (!(a == 0) || !((1 : Int) == 0)) = 1
      rw [hb0]; rfl
    rw [hr]
  · intro he0
    have hask : asksL [124, 124] a = true := by subst he0; rfl
    exact (whole_two_bad (e := (13, _)) hx hq (by decide) (by
      rw [hask]
      exact op_two_asked k0 k1 k2 k3 k4 (by decide) (by decide) (by decide))).2
end Go.Proofs.YtkphogfmkempnacDoor
