/- Walk of TreeJoined. -/
import Derived.Test.YtocklchafmlfkaaTrMove
import Derived.Test.YtocklchafmlfkaaTrSame
import Derived.Test.YtocklchafmlfkaaTgJ
import Derived.Test.YtocklchafmlfkaaTrApp
namespace Go.Proofs.Ytocklchafmlfkaa
open Go.RowKit Go.Shelf

theorem tk_cellsW {w : World} {b off : Nat} {x : Tk} {j : Nat} (h : ∀ (i : Nat) v, (encT x)[i]? = some v → w.cell? ⟨b, off + j * 11 + i, none⟩ = some v) :
    w.cell? ⟨b, off + j * 11, none⟩ = some (.int .i64 x.kind) ∧ w.cell? ⟨b, off + j * 11 + 1, none⟩ = some (.string x.text) ∧ w.cell? ⟨b, off + j * 11 + 2, none⟩ = some (.bool x.space) ∧ w.cell? ⟨b, off + j * 11 + 3, none⟩ = some (.bool x.first) ∧ w.cell? ⟨b, off + j * 11 + 4, none⟩ = some (.int .i64 x.file) ∧ w.cell? ⟨b, off + j * 11 + 5, none⟩ = some (.int .i64 x.lo) ∧ w.cell? ⟨b, off + j * 11 + 6, none⟩ = some (.int .i64 x.hi) ∧ w.cell? ⟨b, off + j * 11 + 7, none⟩ = some (.int .i64 x.line) ∧ w.cell? ⟨b, off + j * 11 + 8, none⟩ = some (.slice none 0 0) ∧ w.cell? ⟨b, off + j * 11 + 9, none⟩ = some (.slice none 0 0) ∧ w.cell? ⟨b, off + j * 11 + 10, none⟩ = some (.int .i64 0) :=
  ⟨h 0 _ rfl, h 1 _ rfl, h 2 _ rfl, h 3 _ rfl, h 4 _ rfl, h 5 _ rfl, h 6 _ rfl, h 7 _ rfl, h 8 _ rfl, h 9 _ rfl, h 10 _ rfl⟩
theorem mvL_get (o : Nat) : ∀ (ks : List Nd) (j : Nat), (mvL o ks)[j]? = (ks[j]?).map (mvN o)
  | [], j => by rw [mvL_nil]; rfl
  | n :: ks, 0 => by rw [mvL_cons]; rfl
  | n :: ks, j + 1 => by rw [mvL_cons]; exact mvL_get o ks j
/-- Whatever Parse answers, it answers a node and a fault. -/
theorem pr_any {L : List Tk} {w : World} {e : Ending} {w' : World} (h : PrPost L w e w') : (∃ (y : Nv) (e1 p1 q1 : Int), e = .returned (.tuple #[.agg #[.int .i64 y.kind, .int .i64 y.tok, .slice y.a y.n y.c], .agg #[.int .i64 e1, .int .i64 p1, .int .i64 q1]])) ∧ Below w.heap.size w w' := by
  refine ⟨?_, h.1⟩
  have h2 := h.2
  cases hp : parsL L with
  | error x =>
    rw [hp] at h2
    exact ⟨zeroN, _, _, _, h2⟩
  | ok n =>
    rw [hp] at h2
    obtain ⟨x, h3, _⟩ := h2
    exact ⟨x, _, _, _, h3⟩
theorem two_new {w : World} (a b : Obj) : Below w.heap.size w ((w.alloc a).alloc b) := (below_new w _).trans ((below_new _ _).mono (by simp))
theorem two_first {w : World} (a b : Obj) : ((w.alloc a).alloc b).heap[w.heap.size]? = some a := ((below_new _ _).block _ (by simp)).trans (heap_alloc_new w _)
theorem two_second {w : World} (a b : Obj) : ((w.alloc a).alloc b).heap[w.heap.size + 1]? = some b := by
  have := heap_alloc_new (w.alloc a) b
  rwa [World.size_alloc] at this

set_option maxRecDepth 100000 in
set_option maxHeartbeats 40000000 in
theorem joined_any (HR : RToks) (s t : ByteArray) (w : World) : Calls Try.prog 4 #[.string s, .string t] w fun e w' => e = .returned (.bool true) ∧ Below w.heap.size w w' := by
  have HA := hid (aliveT_any HR w)
  have HTa := hid (fun W => toksT_any HR s W)
  have HTb := hid (fun W => toksT_any HR t W)
  have HPa := hid (fun a c W hT => Parse_any a c (toksF 0 s.data.toList).1 W hT (Nat.le_trans (toks_small 0 s.data.toList).1 (by decide)) (toks_small 0 s.data.toList).2)
  have HPb := hid (fun a c W hT => Parse_any a c (toksF 0 t.data.toList).1 W hT (Nat.le_trans (toks_small 0 t.data.toList).1 (by decide)) (toks_small 0 t.data.toList).2)
  have HLa := hid (toks_lets 0 s.data.toList)
  have HLb := hid (toks_lets 0 t.data.toList)
  have HSa := hid (toks_small 0 s.data.toList)
  have HSb := hid (toks_small 0 t.data.toList)
  have HPb0 := HPb
  unfold PrPost aggN at HPa HPb
  unfold ToksT at HTa HTb
  generalize (toksF 0 s.data.toList).1 = A at *
  generalize (toksF 0 t.data.toList).1 = B at *
  clear HR
  go_enter Try.func4, Try.ntmps4
  go_wp2_with fail
  refine HA.out.mono ?_
  rintro e w0 ⟨rfl, hb0⟩
  have HB0 := hid hb0
  clear hb0 HA
  go_wp2_with fail
  refine (HTa.out _).mono ?_
  rintro e w1 ⟨a, ca, rfl, hT1, hb1, _⟩
  have HB1 := hid (HB0.out.trans (hb1.mono HB0.out.size))
  have HT1 := hid hT1
  clear hT1 hb1 HTa HB0
  go_wp2_with fail
  refine (HTb.out _).mono ?_
  rintro e w2 ⟨b, cb, rfl, hT2, hb2, _⟩
  have HB2 := hid (HB1.out.trans (hb2.mono HB1.out.size))
  have HTA2 := hid (HT1.out.below hb2)
  have HTB2 := hid hT2
  have HPa2 := hid (HPa.out a ca w2 HTA2.out)
  clear hT2 hb2 HTb HB1 HT1 HPa
  go_wp2_with fail
  refine HPa2.out.mono ?_
  rintro e w3 ⟨hb3, hp3⟩
  have HB3 := hid (HB2.out.trans (hb3.mono HB2.out.size))
  have HB3z := hid HB3.out.size
  have HTA3 := hid (HTA2.out.below hb3)
  have HTB3 := hid (HTB2.out.below hb3)
  clear HPa2 HTA2 HTB2 HB2 hb3
  cases hpa : parsL A with
  | error x =>
    rw [hpa] at hp3
    dsimp only [zeroN] at hp3
    subst hp3
    have hx0 : (x.1 == 0) = false := beq_eq_false_iff_ne.2 (pars_ne hpa)
    have HB4 := hid (HB3.out.trans ((two_new (.cells #[.int .i64 0, .int .i64 0, .slice none 0 0] 27) (.cells #[.int .i64 x.1, .int .i64 (placeT A x.2).1, .int .i64 (placeT A x.2).2] 30)).mono HB3.out.size))
    have HTB4 := hid (HTB3.out.below (two_new (.cells #[.int .i64 0, .int .i64 0, .slice none 0 0] 27) (.cells #[.int .i64 x.1, .int .i64 (placeT A x.2).1, .int .i64 (placeT A x.2).2] 30)))
    have HF4 := hid (two_second (w := w3) (.cells #[.int .i64 0, .int .i64 0, .slice none 0 0] 27) (.cells #[.int .i64 x.1, .int .i64 (placeT A x.2).1, .int .i64 (placeT A x.2).2] 30))
    have HPb4 := hid (HPb0.out b cb _ HTB4.out)
    clear HPb HB3 HTA3 HTB3 HPb0
    go_wp2_with fail
    refine HPb4.out.mono ?_
    generalize (w3.alloc (.cells #[.int .i64 0, .int .i64 0, .slice none 0 0] 27)).alloc (.cells #[.int .i64 x.1, .int .i64 (placeT A x.2).1, .int .i64 (placeT A x.2).2] 30) = w4 at *
    intro e w5 hp5
    obtain ⟨⟨y, e1, p1, q1, rfl⟩, hb5⟩ := pr_any hp5
    have HB5 := hid (HB4.out.trans (hb5.mono HB4.out.size))
    have hF5 := (hb5.block _ (lt_of_block HF4.out)).trans HF4.out
    obtain ⟨⟨d0, d1, d2⟩, _⟩ := faultF hF5
    have hz5 := lt_of_block hF5
    have HB6 := hid (HB5.out.trans ((two_new (.cells #[.int .i64 y.kind, .int .i64 y.tok, .slice y.a y.n y.c] 27) (.cells #[.int .i64 e1, .int .i64 p1, .int .i64 q1] 30)).mono HB5.out.size))
    clear hp5 hb5 HPb4 HB4 HTB4 HF4 hF5
    generalize w3.heap.size + 1 = Bf at *
    go_wp2_with fail
    go_ret
    exact ⟨rfl, HB6.out⟩
  | ok nx =>
    rw [hpa] at hp3
    obtain ⟨x, rfl, hx3⟩ := hp3
    obtain ⟨xk, xt, xa, xn, xc⟩ := x
    have HB4 := hid (HB3.out.trans ((two_new (.cells #[.int .i64 xk, .int .i64 xt, .slice xa xn xc] 27) (.cells #[.int .i64 0, .int .i64 (-1), .int .i64 0] 30)).mono HB3.out.size))
    have HTA4 := hid (HTA3.out.below (two_new (.cells #[.int .i64 xk, .int .i64 xt, .slice xa xn xc] 27) (.cells #[.int .i64 0, .int .i64 (-1), .int .i64 0] 30)))
    have HTB4 := hid (HTB3.out.below (two_new (.cells #[.int .i64 xk, .int .i64 xt, .slice xa xn xc] 27) (.cells #[.int .i64 0, .int .i64 (-1), .int .i64 0] 30)))
    have HX4 := hid ((hx3.mono (Q := fun b => b < w3.heap.size) fun b _ hlt => hlt).kept fun b _ hlt => (two_new (.cells #[.int .i64 xk, .int .i64 xt, .slice xa xn xc] 27) (.cells #[.int .i64 0, .int .i64 (-1), .int .i64 0] 30)).block b hlt)
    have HN4 : Hid (_ = some (boxN ⟨xk, xt, xa, xn, xc⟩)) := two_first (w := w3) (.cells #[.int .i64 xk, .int .i64 xt, .slice xa xn xc] 27) (.cells #[.int .i64 0, .int .i64 (-1), .int .i64 0] 30)
    have HF4 := hid (two_second (w := w3) (.cells #[.int .i64 xk, .int .i64 xt, .slice xa xn xc] 27) (.cells #[.int .i64 0, .int .i64 (-1), .int .i64 0] 30))
    have HPb4 := hid (HPb.out b cb _ HTB4.out)
    dsimp only [boxN] at HN4
    clear HPb HB3 HTA3 HTB3 HPb0 hx3
    go_wp2_with fail
    refine HPb4.out.mono ?_
    generalize (w3.alloc (.cells #[.int .i64 xk, .int .i64 xt, .slice xa xn xc] 27)).alloc (.cells #[.int .i64 0, .int .i64 (-1), .int .i64 0] 30) = w4 at *
    rintro e w5 ⟨hb5, hp5⟩
    have HB5 := hid (HB4.out.trans (hb5.mono HB4.out.size))
    have HTA5 := hid (HTA4.out.below hb5)
    have HTB5 := hid (HTB4.out.below hb5)
    have HX5 := hid (HX4.out.kept fun b _ hlt => hb5.block b hlt)
    have HN5 := hid ((hb5.block _ (lt_of_block HN4.out)).trans HN4.out)
    have HF5 := hid ((hb5.block _ (lt_of_block HF4.out)).trans HF4.out)
    have HBfz : Hid (w.heap.size ≤ w3.heap.size + 1) := Nat.le_trans HB3z.out (by omega)
    have hz4 := lt_of_block HF4.out
    clear hb5 HPb4 HB4 HTA4 HTB4 HX4 HN4 HF4
    have hne : w3.heap.size < w3.heap.size + 1 := by omega
    generalize w3.heap.size + 1 = Bf at *
    cases hpb : parsL B with
    | error y =>
      rw [hpb] at hp5
      dsimp only [zeroN] at hp5
      subst hp5
      have hy0 : (y.1 == 0) = false := beq_eq_false_iff_ne.2 (pars_ne hpb)
      obtain ⟨⟨d0, d1, d2⟩, _⟩ := faultF HF5.out
      have hz5 := lt_of_block HF5.out
      have HB6 := hid (HB5.out.trans ((two_new (.cells #[.int .i64 0, .int .i64 0, .slice none 0 0] 27) (.cells #[.int .i64 y.1, .int .i64 (placeT B y.2).1, .int .i64 (placeT B y.2).2] 30)).mono HB5.out.size))
      go_wp2_with fail
      go_ret
      exact ⟨rfl, HB6.out⟩
    | ok ny =>
      rw [hpb] at hp5
      obtain ⟨y, rfl, hy5⟩ := hp5
      obtain ⟨yk, yt, ya, yn, yc⟩ := y
      have hzx := lt_of_block HN5.out
      have hzf := lt_of_block HF5.out
      generalize w3.heap.size = Bx at *
      have HB6 := hid (HB5.out.trans ((two_new (.cells #[.int .i64 yk, .int .i64 yt, .slice ya yn yc] 27) (.cells #[.int .i64 0, .int .i64 (-1), .int .i64 0] 30)).mono HB5.out.size))
      have HTA6 := hid (HTA5.out.below (two_new (.cells #[.int .i64 yk, .int .i64 yt, .slice ya yn yc] 27) (.cells #[.int .i64 0, .int .i64 (-1), .int .i64 0] 30)))
      have HTB6 := hid (HTB5.out.below (two_new (.cells #[.int .i64 yk, .int .i64 yt, .slice ya yn yc] 27) (.cells #[.int .i64 0, .int .i64 (-1), .int .i64 0] 30)))
      have HX6 := hid (HX5.out.kept fun b _ hlt => (two_new (.cells #[.int .i64 yk, .int .i64 yt, .slice ya yn yc] 27) (.cells #[.int .i64 0, .int .i64 (-1), .int .i64 0] 30)).block b hlt)
      have HY6 := hid ((hy5.mono (Q := fun b => Bf < b ∧ b < w5.heap.size) fun b hb hlt => ⟨by have hb' : w4.heap.size ≤ b := hb; omega, hlt⟩).kept fun b _ hlt => (two_new (.cells #[.int .i64 yk, .int .i64 yt, .slice ya yn yc] 27) (.cells #[.int .i64 0, .int .i64 (-1), .int .i64 0] 30)).block b hlt)
      have HN6 := hid (((two_new (.cells #[.int .i64 yk, .int .i64 yt, .slice ya yn yc] 27) (.cells #[.int .i64 0, .int .i64 (-1), .int .i64 0] 30)).block _ (lt_of_block HN5.out)).trans HN5.out)
      have HM6 : Hid (_ = some (boxN ⟨yk, yt, ya, yn, yc⟩)) := two_first (w := w5) (.cells #[.int .i64 yk, .int .i64 yt, .slice ya yn yc] 27) (.cells #[.int .i64 0, .int .i64 (-1), .int .i64 0] 30)
      have HF6 := hid (((two_new (.cells #[.int .i64 yk, .int .i64 yt, .slice ya yn yc] 27) (.cells #[.int .i64 0, .int .i64 (-1), .int .i64 0] 30)).block _ (lt_of_block HF5.out)).trans HF5.out)
      obtain ⟨⟨d0, d1, d2⟩, _⟩ := faultF HF5.out
      have hz6 : w5.heap.size + 1 < ((w5.alloc (.cells #[.int .i64 yk, .int .i64 yt, .slice ya yn yc] 27)).alloc (.cells #[.int .i64 0, .int .i64 (-1), .int .i64 0] 30)).heap.size := by simp
      dsimp only [boxN] at HM6 HN6
      clear HB5 HTA5 HTB5 HX5 HN5 hy5
      go_wp2_with fail
      have hAl := HSa.out.1
      generalize (w5.alloc (.cells #[.int .i64 yk, .int .i64 yt, .slice ya yn yc] 27)).alloc (.cells #[.int .i64 0, .int .i64 (-1), .int .i64 0] 30) = w6 at *
      have hyx : Bx ≠ w5.heap.size := by omega
      generalize w5.heap.size = By at *
      clear d0 d1 d2 HF5
      go_loopw [42] (fun v wr => ∃ j : Nat, j ≤ A.length ∧ v = .int .i64 (j : Int) ∧ Hid (Below w6.heap.size w6 wr ∧ ∀ i tk, i < j → A[i]? = some tk → tk.text.data.toList ≠ [116, 121, 112, 101, 100, 101, 102])) (fun v _ => A.length - (intOf v).toNat)
      case atStart => exact ⟨0, Nat.zero_le _, rfl, Below.refl _ _, fun i tk h => by omega⟩
      case round =>
        obtain ⟨j, hj, rfl, hst⟩ := hrel
        by_cases hjl : j < A.length
        · have hji : (j : Int) < (A.length : Int) := by omega
          have hj0 : (0 : Int) ≤ (j : Int) := by omega
          have hw2 : IntKind.i64.wrap ((j : Int) + 1) = (j : Int) + 1 := by rw [IntKind.wrap_i64]; omega
          obtain ⟨tk, htk'⟩ : ∃ tk, A[j]? = some tk := ⟨_, List.getElem?_eq_getElem hjl⟩
          have hTr := HTA6.out.below hst.out.1
          rcases hTr with h0 | ⟨bb, off, ea, hbl, hcx⟩
          · rw [h0] at hjl
            simp at hjl
          cases ea
          obtain ⟨c0, c1, c2, c3, c4, c5, c6, c7, c8, c9, c10⟩ := tk_cellsW (hcx j tk htk')
          have hbt := below_new wr (.cells #[.int .i64 tk.kind, .string tk.text, .bool tk.space, .bool tk.first, .int .i64 tk.file, .int .i64 tk.lo, .int .i64 tk.hi, .int .i64 tk.line, .slice none 0 0, .slice none 0 0, .int .i64 0] 38)
          have HBt := hid (hst.out.1.trans (hbt.mono hst.out.1.size))
          have HBz := hid HB6.out.size
          by_cases htd : tk.text.data.toList = [116, 121, 112, 101, 100, 101, 102]
          · have hte : (tk.text.toList == [116, 121, 112, 101, 100, 101, 102]) = true := by rw [toList_data, htd]; rfl
            have HBf := hid (HB6.out.trans (HBt.out.mono HBz.out))
            clear hcx hbt hst
            go_wp2_with fail
            go_ret
            exact ⟨rfl, HBf.out⟩
          · have hte : (tk.text.toList == [116, 121, 112, 101, 100, 101, 102]) = false := by rw [toList_data]; exact beq_eq_false_iff_ne.2 htd
            have HNx : Hid (∀ i tk, i < j + 1 → A[i]? = some tk → tk.text.data.toList ≠ [116, 121, 112, 101, 100, 101, 102]) := fun i tk2 h h2 => by
              by_cases he : i = j
              · subst he
                rw [htk'] at h2
                cases h2
                exact htd
              · exact hst.out.2 i tk2 (by omega) h2
            clear hcx hbt hst
            go_wp2_with fail
            go_roundw
            case rel => exact ⟨j + 1, by omega, rfl, HBt.out, HNx.out⟩
            case measure => simp [intOf]; omega
        · have hjk : j = A.length := by omega
          subst hjk
          have hji : ¬ ((A.length : Int) < (A.length : Int)) := by omega
          have hT : ∀ i, wordT A i ≠ [116, 121, 112, 101, 100, 101, 102] := fun i => by
            unfold wordT
            cases hi : A[i]? with
            | none => simp
            | some tk =>
              dsimp only
              split
              · exact hst.out.2 i tk (List.getElem?_eq_some_iff.1 hi).1 hi
              · simp
          obtain ⟨X, Y, rfl, rfl, hpz⟩ := pars_joined HLa.out hT hpa hpb
          have HBr := hid hst.out.1
          have hbr := hst.out.1
          have HB7 := hid (HB6.out.trans (hbr.mono HB6.out.size))
          have HBf0 : Hid (w.heap.size ≤ Bf) := HBfz.out
          have HTA7 := hid (HTA6.out.below hbr)
          have HTB7 := hid (HTB6.out.below hbr)
          have HX7 := hid (HX6.out.kept fun b _ hlt => hbr.block b hlt)
          have HY7 := hid (HY6.out.kept fun b _ hlt => hbr.block b hlt)
          have HN7 := hid ((hbr.block _ (lt_of_block HN6.out)).trans HN6.out)
          have HM7 := hid ((hbr.block _ (lt_of_block HM6.out)).trans HM6.out)
          have HF7 := hid ((hbr.block _ (lt_of_block HF6.out)).trans HF6.out)
          clear hbr hst HB6 HTA6 HTB6 HX6 HY6 HN6 HM6 HF6 hT
          have hBl := HSb.out.1
          have hown0 : (wr.alloc (.cells #[] 38)).ownsRow wr.heap.size 38 11 (.slice (some ⟨wr.heap.size, 0, none⟩) ([] : List Tk).length 0) ([] : List Tk).length (cellsT []) := ⟨rfl, .inr ⟨wr.heap.size, 0, #[], rfl, Nat.le_refl _, heap_alloc_new wr _, Nat.le_refl _, by unfold maxLen; omega, rfl, rfl⟩⟩
          have hTA0 := HTA7.out.below (below_new wr (.cells #[] 38))
          go_wp2_with (at_builtin; refine wpList_append_toks rfl _ _ rfl wr.heap.size wr.heap.size 0 [] A a ca rfl hown0 rfl hTA0 (by simp; omega) (by simp) ?_)
          intro g1 cap1 w8 ho8 hg8
          have hb8 : Below wr.heap.size wr w8 := ⟨hg8.os, hg8.tape, hg8.output, by have := hg8.size; simp at this; omega, fun k hk => (hg8.block k (by simp; omega) (by intro e; cases e; omega)).trans ((below_new wr _).block k hk)⟩
          have hTB8 := HTB7.out.below hb8
          have hz8 : wr.heap.size ≤ w8.heap.size := hb8.size
          have hg1 : wr.heap.size ≤ g1 := by
            rcases ho8.2 with ⟨e, _⟩ | ⟨g', cap', cur, e, h1, _⟩
            · cases e
            · cases e; exact h1
          clear hown0 hTA0 hg8
          go_wp2_with (at_builtin; refine wpList_append_toks rfl _ _ rfl wr.heap.size g1 cap1 A B b cb rfl ho8 rfl hTB8 (by omega) hz8 ?_)
          intro g2 cap2 w9 ho9 hg9
          have hb9 : Below wr.heap.size wr w9 := ⟨hg9.os.trans hb8.os, hg9.tape.trans hb8.tape, hg9.output.trans hb8.output, Nat.le_trans hb8.size hg9.size, fun k hk => (hg9.block k (by omega) (by intro e; cases e; omega)).trans (hb8.block k hk)⟩
          rw [← List.length_append] at ho9
          obtain ⟨a9, c9, e9, hT9⟩ := TAt.of_row ho9
          cases e9
          have HPz := hid (Parse_any (some ⟨g2, 0, none⟩) cap2 (A ++ B) w9 hT9 (by simp; omega) (fun tk htk => (List.mem_append.1 htk).elim (HSa.out.2 tk) (HSb.out.2 tk)))
          unfold PrPost aggN at HPz
          rw [hpz, List.length_append] at HPz
          dsimp only at HPz
          have HB9 := hid (HB7.out.trans (hb9.mono HB7.out.size))
          have HX9 := hid (HX7.out.kept fun b _ hlt => hb9.block b hlt)
          have HY9 := hid (HY7.out.kept fun b _ hlt => hb9.block b hlt)
          have HN9 := hid ((hb9.block _ (lt_of_block HN7.out)).trans HN7.out)
          have HM9 := hid ((hb9.block _ (lt_of_block HM7.out)).trans HM7.out)
          have HF9 := hid ((hb9.block _ (lt_of_block HF7.out)).trans HF7.out)
          clear ho8 hg9 hb8 hb9 hT9 ho9 hTB8 HB7 HTA7 HTB7 HX7 HY7 HN7 HM7 HF7
          go_wp2_with fail
          refine HPz.out.mono ?_
          rintro e wa ⟨hba, z, rfl, hza⟩
          obtain ⟨zk, zt, za, zn, zc⟩ := z
          have hXl : X.length ≤ 6001 := by have h1 := pars_sz HLa.out hpa; rw [szN_mk] at h1; have := szL_len X; omega
          have hYl : Y.length ≤ 6001 := by have h1 := pars_sz HLb.out hpb; rw [szN_mk] at h1; have := szL_len Y; omega
          have hxn : xn = X.length := HX9.out.len
          have hyn : yn = Y.length := HY9.out.len
          have hzn : zn = X.length + Y.length := hza.len.trans (by show (X ++ mvL A.length Y).length = _; rw [List.length_append, mvL_len])
          subst hxn hyn
          have hba' := lt_of_block HN9.out
          have hbb' := lt_of_block HM9.out
          have hbf' := lt_of_block HF9.out
          have hza2 : w9.heap.size ≤ wa.heap.size := hba.size
          have hNa := (hba.block _ hba').trans HN9.out
          have hMa := (hba.block _ hbb').trans HM9.out
          have hFa := (hba.block _ hbf').trans HF9.out
          have hfa := lt_of_block hFa
          have hxa := lt_of_block hNa
          have hya := lt_of_block hMa
          have hfx : Bf ≠ Bx := by omega
          have hfy : Bf ≠ By := by omega
          have hkp : ∀ k, k < wa.heap.size → k ≠ Bf → ((putF wa Bf 0 (-1) 0).alloc (.cells #[.int .i64 zk, .int .i64 zt, .slice za zn zc] 27)).heap[k]? = wa.heap[k]? := fun k hk hk2 => ((below_new _ _).block k (by rw [putF_size]; exact hk)).trans (putF_other _ _ _ _ _ k hk2)
          have HNb : Hid (((putF wa Bf 0 (-1) 0).alloc (.cells #[.int .i64 zk, .int .i64 zt, .slice za zn zc] 27)).heap[Bx]? = _) := (hkp _ hxa (Ne.symm hfx)).trans hNa
          have HMb : Hid (((putF wa Bf 0 (-1) 0).alloc (.cells #[.int .i64 zk, .int .i64 zt, .slice za zn zc] 27)).heap[By]? = _) := (hkp _ hya (Ne.symm hfy)).trans hMa
          have HZb : Hid (((putF wa Bf 0 (-1) 0).alloc (.cells #[.int .i64 zk, .int .i64 zt, .slice za zn zc] 27)).heap[wa.heap.size]? = some (boxN ⟨zk, zt, za, zn, zc⟩)) := new_at (putF_size _ _ _ _ _) _
          have HXb : Hid (KidsAt ((putF wa Bf 0 (-1) 0).alloc (.cells #[.int .i64 zk, .int .i64 zt, .slice za zn zc] 27)) (fun b => b < Bx) (.slice xa X.length xc) X) := (HX9.out.kids.kept fun b hb hlt => (hkp b (by omega) (by omega)).trans (hba.block b hlt))
          have HYb : Hid (KidsAt ((putF wa Bf 0 (-1) 0).alloc (.cells #[.int .i64 zk, .int .i64 zt, .slice za zn zc] 27)) (fun b => Bf < b ∧ b < By) (.slice ya Y.length yc) Y) := (HY9.out.kids.kept fun b hb hlt => (hkp b (by omega) (by omega)).trans (hba.block b hlt))
          have hzk : KidsAt wa (w9.heap.size ≤ ·) (.slice za zn zc) (X ++ mvL A.length Y) := hza.kids
          have HZk : Hid (KidsAt ((putF wa Bf 0 (-1) 0).alloc (.cells #[.int .i64 zk, .int .i64 zt, .slice za zn zc] 27)) (w9.heap.size ≤ ·) (.slice za zn zc) (X ++ mvL A.length Y)) := (hzk.kept fun b hb hlt => hkp b hlt (by have hb' : w9.heap.size ≤ b := hb; omega))
          have HBb : Hid (Below w.heap.size w ((putF wa Bf 0 (-1) 0).alloc (.cells #[.int .i64 zk, .int .i64 zt, .slice za zn zc] 27))) := by
            have h1 := HB9.out.trans (hba.mono HB9.out.size)
            exact (putF_below h1 HBf0.out 0 (-1) 0).alloc (putF_below h1 HBf0.out 0 (-1) 0).size _
          have hzb : wa.heap.size < ((putF wa Bf 0 (-1) 0).alloc (.cells #[.int .i64 zk, .int .i64 zt, .slice za zn zc] 27)).heap.size := lt_of_block HZb.out
          have hw3 : IntKind.i64.wrap ((zn : Int) - (X.length : Int)) = (Y.length : Int) := by rw [IntKind.wrap_i64]; omega
          have hc1 : ¬ ((zn : Int) < (X.length : Int)) := by omega
          have hc2 : decide ((zn : Int) < (X.length : Int)) = false := decide_eq_false hc1
          have hznl : zn ≤ 12002 := by omega
          have HZn := hid hzn
          obtain ⟨⟨d0, d1, d2⟩, d3, d4, d5⟩ := faultF hFa
          obtain ⟨⟨s0, s1, s2⟩, _⟩ := boxN_facts (x := ⟨xk, xt, xa, X.length, xc⟩) hNa
          obtain ⟨⟨t0, t1, t2⟩, _⟩ := boxN_facts (x := ⟨yk, yt, ya, Y.length, yc⟩) hMa
          dsimp only at s0 s1 s2 t0 t1 t2
          unfold putF at HNb HMb HZb HXb HYb HZk HBb hzb
          clear hba hza hza2 hkp hzk HX9 HY9 HN9 HM9 HF9 HB9 hNa hMa hFa HPz hzn
          go_wp2_with fail
          clear d0 d1 d2 d3 d4 d5 s0 s1 s2 t0 t1 t2 hw3 hc1 hc2
          have hBxa : Bx < wa.heap.size := hxa
          have hBya : By < wa.heap.size := hya
          have HAl := hid hAl
          have HCB := hid (fun t (h : 10000 ≤ t) => ((uni_cov HLb.out _ (by have := pars_is B; rw [hpb] at this; exact this) ((Cov.nil B 0).congr fun t => by rw [cntL_nil])).2 t).1 (.inr (by omega)))
          have HszX := hid (show szL X ≤ 6001 by have h1 := pars_sz HLa.out hpa; rw [szN_mk] at h1; omega)
          have HszY := hid (show szL Y ≤ 6001 by have h1 := pars_sz HLb.out hpb; rw [szN_mk] at h1; omega)
          generalize (((wa.setCell ⟨Bf, 0, none⟩ (.int .i64 0)).setCell ⟨Bf, 1, none⟩ (.int .i64 (-1))).setCell ⟨Bf, 2, none⟩ (.int .i64 0)).alloc (.cells #[.int .i64 zk, .int .i64 zt, .slice za zn zc] 27) = wb at *
          generalize wa.heap.size = Bz at *
          clear hfa hxa hya
          have hdz : decide (zn < X.length) = false := decide_eq_false (by have := HZn.out; omega)
          rw [hdz]
          clear hdz
          go_loopw [87] (fun v wr => ∃ j : Nat, j ≤ zn ∧ v = .int .i64 (j : Int) ∧ Hid (Below wb.heap.size wb wr)) (fun v _ => zn - (intOf v).toNat)
          case atStart => exact ⟨0, Nat.zero_le _, rfl, Below.refl _ _⟩
          case round =>
            obtain ⟨j, hj, rfl, hst⟩ := hrel
            by_cases hjl : j < zn
            · have hji : (j : Int) < (zn : Int) := by omega
              have hj0 : (0 : Int) ≤ (j : Int) := by omega
              have hw2 : IntKind.i64.wrap ((j : Int) + 1) = (j : Int) + 1 := by rw [IntKind.wrap_i64]; omega
              have hzl : (X ++ mvL A.length Y).length = zn := by rw [List.length_append, mvL_len]; exact HZn.out.symm
              obtain ⟨kd, hkd⟩ : ∃ kd, (X ++ mvL A.length Y)[j]? = some kd := ⟨_, List.getElem?_eq_getElem (by rw [hzl]; exact hjl)⟩
              obtain ⟨gz, y1, ea, -, hgl, -, hnc, hcm, hy1, e0, e1, e2⟩ := kid_cell (HZk.out.kept fun b _ hlt => hst.out.block b hlt) j kd hkd
              cases ea
              have hzr := hst.out.size
              have hbk := below_new wr (boxN y1)
              have HBk := hid (hst.out.trans (hbk.mono hzr))
              have HK1 := hid (heap_alloc_new wr (boxN y1))
              have HN1 := hid ((hbk.block _ (by omega)).trans ((hst.out.block _ (by omega)).trans HNb.out))
              have HM1 := hid ((hbk.block _ (by omega)).trans ((hst.out.block _ (by omega)).trans HMb.out))
              have HY1 := hid (hy1.kept fun b _ hlt => hbk.block b hlt)
              have hz1 : wr.heap.size < (wr.alloc (boxN y1)).heap.size := by simp
              by_cases hjx : j < X.length
              · have hjx' : (j : Int) < (X.length : Int) := by omega
                have hjd : decide ((j : Int) < (X.length : Int)) = true := decide_eq_true hjx'
                have hjg : decide ((X.length : Int) ≤ (j : Int)) = false := decide_eq_false (by omega)
                have hxj : X[j]? = some kd := by rw [← hkd, List.getElem?_append_left hjx]
                obtain ⟨gx, y2, ea, hgx, hgl2, -, hnc2, hcm2, hy2, f0, f1, f2⟩ := kid_cell ((HXb.out.kept fun b _ hlt => hst.out.block b hlt).kept fun b _ hlt => hbk.block b hlt) j kd hxj
                cases ea
                have HSm := hid (fun W (hW : Below (wr.alloc (boxN y1)).heap.size (wr.alloc (boxN y1)) W) => same_any (szN kd) kd (Nat.le_refl _) y1 y2 _ _ W (HY1.out.kept fun b _ hlt => hW.block b hlt) (hy2.kept fun b _ hlt => hW.block b hlt))
                unfold aggN at HSm
                dsimp only [boxN] at HSm HBk HK1 HN1 HM1 hz1 f0 f1 f2 hgl2
                clear hy1 hy2 HY1 hkd hbk hst hzl hxj hcm hcm2 hnc hnc2
                go_wp2_with fail
                generalize wr.alloc (.cells #[.int .i64 y1.kind, .int .i64 y1.tok, .slice y1.a y1.n y1.c] 27) = w1 at *
                generalize wr.heap.size = Bk at *
                have HSt := hid (fun W (hW : Below w1.heap.size w1 W) => (show W.cell? ⟨Bx, 2, none⟩ = some (.slice (some ⟨gx, 0, none⟩) X.length xc) ∧ (W.cell? ⟨Bk, 0, none⟩ = some (.int .i64 y1.kind) ∧ W.cell? ⟨Bk, 1, none⟩ = some (.int .i64 y1.tok) ∧ W.cell? ⟨Bk, 2, none⟩ = some (.slice y1.a y1.n y1.c)) ∧ W.cell? ⟨gx, j * 3, none⟩ = some (.int .i64 y2.kind) ∧ W.cell? ⟨gx, j * 3 + 1, none⟩ = some (.int .i64 y2.tok) ∧ W.cell? ⟨gx, j * 3 + 2, none⟩ = some (.slice y2.a y2.n y2.c) from ⟨(boxN_facts (x := ⟨xk, xt, some ⟨gx, 0, none⟩, X.length, xc⟩) ((hW.block _ (lt_of_block HN1.out)).trans HN1.out)).1.2.2, (boxN_facts (x := y1) ((hW.block _ (lt_of_block HK1.out)).trans HK1.out)).1, (hW.cell (p := ⟨gx, _, none⟩) hgl2).trans f0, (hW.cell (p := ⟨gx, _, none⟩) hgl2).trans f1, (hW.cell (p := ⟨gx, _, none⟩) hgl2).trans f2⟩))
                clear f0 f1 f2 e0 e1 e2
                refine wp_region_held_drew (S := fun W => W.cell? ⟨Bx, 2, none⟩ = some (.slice (some ⟨gx, 0, none⟩) X.length xc) ∧ (W.cell? ⟨Bk, 0, none⟩ = some (.int .i64 y1.kind) ∧ W.cell? ⟨Bk, 1, none⟩ = some (.int .i64 y1.tok) ∧ W.cell? ⟨Bk, 2, none⟩ = some (.slice y1.a y1.n y1.c)) ∧ W.cell? ⟨gx, j * 3, none⟩ = some (.int .i64 y2.kind) ∧ W.cell? ⟨gx, j * 3 + 1, none⟩ = some (.int .i64 y2.tok) ∧ W.cell? ⟨gx, j * 3 + 2, none⟩ = some (.slice y2.a y2.n y2.c)) (by kernel_rfl) (HSt.out _ (Below.refl _ _).drew) (fun hHeld => ?_)
                refine wpAnyH_take (i := 0) (v := .int .i64 (j : Int)) rfl (by kernel_rfl) (by kernel_rfl) (by kernel_rfl) (fun _ _ _ h => h) (Or.inl ⟨by first | kernel_rfl | rfl, ?_⟩) hHeld ?_
                · intro W hSw
                  try dsimp only at hSw
                  go_simp
                refine wpAnyH_take (i := 1) (v := .pointer (some ⟨Bx, 2, none⟩)) rfl (by kernel_rfl) (by kernel_rfl) (by kernel_rfl) (fun _ _ _ h => h) (Or.inl ⟨by first | kernel_rfl | rfl, ?_⟩) hHeld ?_
                · intro W hSw
                  try dsimp only at hSw
                  go_simp
                refine wpAnyH_take (i := 2) (v := .slice (some ⟨gx, 0, none⟩) X.length xc) rfl (by kernel_rfl) (by kernel_rfl) (by kernel_rfl) (fun _ _ _ h => h) (Or.inl ⟨by first | kernel_rfl | rfl, ?_⟩) hHeld ?_
                · intro W hSw
                  try dsimp only at hSw
                  go_simp
                refine wpAnyH_take (i := 3) (v := .int .i64 (X.length : Int)) rfl (by kernel_rfl) (by kernel_rfl) (by kernel_rfl) (fun _ _ _ h => h) (Or.inl ⟨by first | kernel_rfl | rfl, ?_⟩) hHeld ?_
                · intro W hSw
                  try dsimp only at hSw
                  go_simp
                refine wpAnyH_take (i := 4) (v := .bool true) rfl (by kernel_rfl) (by kernel_rfl) (by kernel_rfl) (fun _ _ _ h => h) (Or.inl ⟨by first | kernel_rfl | rfl, ?_⟩) hHeld ?_
                · intro W hSw
                  try dsimp only at hSw
                  go_simp
                refine wpAnyH_take (i := 5) (v := .bool true) rfl (by kernel_rfl) (by kernel_rfl) (by kernel_rfl) (fun _ _ _ h => h) (Or.inl ⟨by first | kernel_rfl | rfl, ?_⟩) hHeld ?_
                · intro W hSw
                  try dsimp only at hSw
                  go_simp
                refine wpAnyH_take (i := 6) (v := .agg #[.int .i64 y1.kind, .int .i64 y1.tok, .slice y1.a y1.n y1.c]) rfl (by kernel_rfl) (by kernel_rfl) (by kernel_rfl) (fun _ _ _ h => h) (Or.inl ⟨by first | kernel_rfl | rfl, ?_⟩) hHeld ?_
                · intro W hSw
                  try dsimp only at hSw
                  go_simp
                refine wpAnyH_take (i := 7) (v := .pointer (some ⟨Bx, 2, none⟩)) rfl (by kernel_rfl) (by kernel_rfl) (by kernel_rfl) (fun _ _ _ h => h) (Or.inl ⟨by first | kernel_rfl | rfl, ?_⟩) hHeld ?_
                · intro W hSw
                  try dsimp only at hSw
                  go_simp
                refine wpAnyH_take (i := 8) (v := .slice (some ⟨gx, 0, none⟩) X.length xc) rfl (by kernel_rfl) (by kernel_rfl) (by kernel_rfl) (fun _ _ _ h => h) (Or.inl ⟨by first | kernel_rfl | rfl, ?_⟩) hHeld ?_
                · intro W hSw
                  try dsimp only at hSw
                  go_simp
                refine wpAnyH_take (i := 9) (v := .int .i64 (j : Int)) rfl (by kernel_rfl) (by kernel_rfl) (by kernel_rfl) (fun _ _ _ h => h) (Or.inl ⟨by first | kernel_rfl | rfl, ?_⟩) hHeld ?_
                · intro W hSw
                  try dsimp only at hSw
                  go_simp
                refine wpAnyH_take (i := 10) (v := .pointer (some ⟨gx, j * 3, none⟩)) rfl (by kernel_rfl) (by kernel_rfl) (by kernel_rfl) (fun _ _ _ h => h) (Or.inl ⟨by first | kernel_rfl | rfl, ?_⟩) hHeld ?_
                · intro W hSw
                  try dsimp only at hSw
                  go_simp
                refine wpAnyH_take (i := 11) (v := .agg #[.int .i64 y2.kind, .int .i64 y2.tok, .slice y2.a y2.n y2.c]) rfl (by kernel_rfl) (by kernel_rfl) (by kernel_rfl) (fun _ _ _ h => h) (Or.inl ⟨by first | kernel_rfl | rfl, ?_⟩) hHeld ?_
                · intro W hSw
                  try dsimp only at hSw
                  go_simp
                refine wpAnyH_ready (rs := [12]) (by kernel_rfl) (by simp) (AllReadyH.cons rfl (fun K hK => ?_) AllReadyH.nil)
                go_simp
                go_wp2_with (go_at_call 10; refine (HSm.out _ (Below.refl _ _).drew).mono ?_; rintro e wq ⟨rfl, hbq⟩)
                have hB : Below w1.heap.size w1 wq := (Below.refl _ _).drew.trans hbq
                refine hK.out _ _ (HSt.out _ hB) (fun hHeld => ?_)
                clear hK K hbq
                refine wpAnyH_take (i := 13) (v := .bool false) rfl (by kernel_rfl) (by kernel_rfl) (by kernel_rfl) (fun _ _ _ h => h) (Or.inl ⟨by first | kernel_rfl | rfl, ?_⟩) hHeld ?_
                · intro W hSw
                  try dsimp only at hSw
                  go_simp
                refine wpAnyH_take (i := 14) (v := .bool false) rfl (by kernel_rfl) (by kernel_rfl) (by kernel_rfl) (fun _ _ _ h => h) (Or.inl ⟨by first | kernel_rfl | rfl, ?_⟩) hHeld ?_
                · intro W hSw
                  try dsimp only at hSw
                  go_simp
                refine wpAnyH_take (i := 15) (v := .bool false) rfl (by kernel_rfl) (by kernel_rfl) (by kernel_rfl) (fun _ _ _ h => h) (Or.inl ⟨by first | kernel_rfl | rfl, ?_⟩) hHeld ?_
                · intro W hSw
                  try dsimp only at hSw
                  go_simp
                refine wpAnyH_take (i := 16) (v := .int .i64 (j : Int)) rfl (by kernel_rfl) (by kernel_rfl) (by kernel_rfl) (fun _ _ _ h => h) (Or.inl ⟨by first | kernel_rfl | rfl, ?_⟩) hHeld ?_
                · intro W hSw
                  try dsimp only at hSw
                  go_simp
                refine wpAnyH_take (i := 17) (v := .pointer (some ⟨Bx, 2, none⟩)) rfl (by kernel_rfl) (by kernel_rfl) (by kernel_rfl) (fun _ _ _ h => h) (Or.inl ⟨by first | kernel_rfl | rfl, ?_⟩) hHeld ?_
                · intro W hSw
                  try dsimp only at hSw
                  go_simp
                refine wpAnyH_take (i := 18) (v := .slice (some ⟨gx, 0, none⟩) X.length xc) rfl (by kernel_rfl) (by kernel_rfl) (by kernel_rfl) (fun _ _ _ h => h) (Or.inl ⟨by first | kernel_rfl | rfl, ?_⟩) hHeld ?_
                · intro W hSw
                  try dsimp only at hSw
                  go_simp
                refine wpAnyH_take (i := 19) (v := .int .i64 (X.length : Int)) rfl (by kernel_rfl) (by kernel_rfl) (by kernel_rfl) (fun _ _ _ h => h) (Or.inl ⟨by first | kernel_rfl | rfl, ?_⟩) hHeld ?_
                · intro W hSw
                  try dsimp only at hSw
                  go_simp
                refine wpAnyH_take (i := 20) (v := .bool false) rfl (by kernel_rfl) (by kernel_rfl) (by kernel_rfl) (fun _ _ _ h => h) (Or.inl ⟨by first | kernel_rfl | rfl, ?_⟩) hHeld ?_
                · intro W hSw
                  try dsimp only at hSw
                  go_simp
                refine wpAnyH_take (i := 21) (v := .bool false) rfl (by kernel_rfl) (by kernel_rfl) (by kernel_rfl) (fun _ _ _ h => h) (Or.inl ⟨by first | kernel_rfl | rfl, ?_⟩) hHeld ?_
                · intro W hSw
                  try dsimp only at hSw
                  go_simp
                refine wpAnyH_take (i := 22) (v := undef) rfl (by kernel_rfl) (by kernel_rfl) (by kernel_rfl) (fun _ _ _ h => h) (Or.inr ⟨by first | kernel_rfl | rfl, rfl⟩) hHeld ?_
                refine wpAnyH_take (i := 23) (v := undef) rfl (by kernel_rfl) (by kernel_rfl) (by kernel_rfl) (fun _ _ _ h => h) (Or.inr ⟨by first | kernel_rfl | rfl, rfl⟩) hHeld ?_
                refine wpAnyH_take (i := 24) (v := undef) rfl (by kernel_rfl) (by kernel_rfl) (by kernel_rfl) (fun _ _ _ h => h) (Or.inr ⟨by first | kernel_rfl | rfl, rfl⟩) hHeld ?_
                refine wpAnyH_take (i := 25) (v := undef) rfl (by kernel_rfl) (by kernel_rfl) (by kernel_rfl) (fun _ _ _ h => h) (Or.inr ⟨by first | kernel_rfl | rfl, rfl⟩) hHeld ?_
                refine wpAnyH_take (i := 26) (v := undef) rfl (by kernel_rfl) (by kernel_rfl) (by kernel_rfl) (fun _ _ _ h => h) (Or.inr ⟨by first | kernel_rfl | rfl, rfl⟩) hHeld ?_
                refine wpAnyH_take (i := 27) (v := undef) rfl (by kernel_rfl) (by kernel_rfl) (by kernel_rfl) (fun _ _ _ h => h) (Or.inr ⟨by first | kernel_rfl | rfl, rfl⟩) hHeld ?_
                refine wpAnyH_take (i := 28) (v := undef) rfl (by kernel_rfl) (by kernel_rfl) (by kernel_rfl) (fun _ _ _ h => h) (Or.inr ⟨by first | kernel_rfl | rfl, rfl⟩) hHeld ?_
                refine wpAnyH_take (i := 29) (v := undef) rfl (by kernel_rfl) (by kernel_rfl) (by kernel_rfl) (fun _ _ _ h => h) (Or.inr ⟨by first | kernel_rfl | rfl, rfl⟩) hHeld ?_
                refine wpAnyH_take (i := 30) (v := undef) rfl (by kernel_rfl) (by kernel_rfl) (by kernel_rfl) (fun _ _ _ h => h) (Or.inr ⟨by first | kernel_rfl | rfl, rfl⟩) hHeld ?_
                refine wpAnyH_take (i := 31) (v := undef) rfl (by kernel_rfl) (by kernel_rfl) (by kernel_rfl) (fun _ _ _ h => h) (Or.inr ⟨by first | kernel_rfl | rfl, rfl⟩) hHeld ?_
                refine wpAnyH_take (i := 32) (v := undef) rfl (by kernel_rfl) (by kernel_rfl) (by kernel_rfl) (fun _ _ _ h => h) (Or.inr ⟨by first | kernel_rfl | rfl, rfl⟩) hHeld ?_
                refine wpAnyH_take (i := 33) (v := undef) rfl (by kernel_rfl) (by kernel_rfl) (by kernel_rfl) (fun _ _ _ h => h) (Or.inr ⟨by first | kernel_rfl | rfl, rfl⟩) hHeld ?_
                refine wpAnyH_ready (rs := [34]) (by kernel_rfl) (by simp) (AllReadyH.cons rfl (fun K hK => ?_) AllReadyH.nil)
                go_simp
                refine hK.out _ _ (HSt.out _ hB) (fun hHeld => ?_)
                clear hK K
                refine wpAnyH_ready (rs := [35]) (by kernel_rfl) (by simp) (AllReadyH.cons rfl (fun K hK => ?_) AllReadyH.nil)
                go_simp
                refine hK.out _ _ (HSt.out _ hB) (fun hHeld => ?_)
                clear hK K
                refine wpAnyH_take (i := 36) (v := undef) rfl (by kernel_rfl) (by kernel_rfl) (by kernel_rfl) (fun _ _ _ h => h) (Or.inr ⟨by first | kernel_rfl | rfl, rfl⟩) hHeld ?_
                refine wpAnyH_take (i := 37) (v := .bool false) rfl (by kernel_rfl) (by kernel_rfl) (by kernel_rfl) (fun _ _ _ h => h) (Or.inl ⟨by first | kernel_rfl | rfl, ?_⟩) hHeld ?_
                · intro W hSw
                  try dsimp only at hSw
                  go_simp
                refine wpAnyH_take (i := 38) (v := .bool false) rfl (by kernel_rfl) (by kernel_rfl) (by kernel_rfl) (fun _ _ _ h => h) (Or.inl ⟨by first | kernel_rfl | rfl, ?_⟩) hHeld ?_
                · intro W hSw
                  try dsimp only at hSw
                  go_simp
                refine wpAnyH_done (by kernel_rfl) ?_ _
                have HB8 := hid (HBk.out.trans (hB.mono HBk.out.size))
                clear hB HSt HSm
                go_wp2_with fail
                go_roundw
                case rel => exact ⟨j + 1, by omega, rfl, HB8⟩
                case measure => simp [intOf]; omega
              · have hjx' : ¬ ((j : Int) < (X.length : Int)) := by omega
                have hjd : decide ((j : Int) < (X.length : Int)) = false := decide_eq_false hjx'
                have hjg : decide ((X.length : Int) ≤ (j : Int)) = true := decide_eq_true (by omega)
                have hjh : (X.length : Int) ≤ (j : Int) := by omega
                obtain ⟨q, hq⟩ : ∃ q : Nat, j = X.length + q := ⟨j - X.length, by omega⟩
                have hqY : q < Y.length := by have := HZn.out; omega
                have hqi : (q : Int) < (Y.length : Int) := by omega
                have hq0 : (0 : Int) ≤ (q : Int) := by omega
                have hwq : IntKind.i64.wrap ((j : Int) - (X.length : Int)) = (q : Int) := by rw [IntKind.wrap_i64]; omega
                obtain ⟨kd0, hkd0⟩ : ∃ kd0, Y[q]? = some kd0 := ⟨_, List.getElem?_eq_getElem hqY⟩
                have hkm : kd = mvN A.length kd0 := by
                  rw [List.getElem?_append_right (by omega), show j - X.length = q by omega, mvL_get, hkd0] at hkd
                  injection hkd with hkd
                  exact hkd.symm
                subst hkm
                obtain ⟨gy, y2, ea, hgy, hgl2, -, hnc2, hcm2, hy2, f0, f1, f2⟩ := kid_cell ((HYb.out.kept fun b _ hlt => hst.out.block b hlt).kept fun b _ hlt => hbk.block b hlt) q kd0 hkd0
                cases ea
                have HMv := hid (fun W (hW : Below (wr.alloc (boxN y1)).heap.size (wr.alloc (boxN y1)) W) => moved_any A.length (by have := HAl.out; omega) (szN kd0) kd0 (Nat.le_refl _) (by have := szL_at Y q kd0 hkd0; have := HszY.out; omega) y2 _ W (hy2.kept fun b _ hlt => hW.block b hlt) (fun t h => by have h1 := HCB.out t h; rw [cntN_mk] at h1; have := (cntL_at t Y q kd0 hkd0).2; omega))
                have HSm := hid (fun W (hW : Below (wr.alloc (boxN y1)).heap.size (wr.alloc (boxN y1)) W) (P' : Nat → Prop) (x' : Nv) (hx' : NdIs W P' x' (mvN A.length kd0)) => same_any (szN (mvN A.length kd0)) (mvN A.length kd0) (Nat.le_refl _) y1 x' _ P' W (HY1.out.kept fun b _ hlt => hW.block b hlt) hx')
                unfold aggN at HSm HMv
                dsimp only [boxN] at HSm HMv HBk HK1 HN1 HM1 hz1 f0 f1 f2 hgl2
                have HQ := hid hq
                clear hy1 hy2 HY1 hkd hbk hst hzl hcm hcm2 hnc hnc2 hkd0 hq
                go_wp2_with fail
                generalize wr.alloc (.cells #[.int .i64 y1.kind, .int .i64 y1.tok, .slice y1.a y1.n y1.c] 27) = w1 at *
                generalize wr.heap.size = Bk at *
                have HSt := hid (fun W (hW : Below w1.heap.size w1 W) => (show W.cell? ⟨Bx, 2, none⟩ = some (.slice xa X.length xc) ∧ W.cell? ⟨By, 2, none⟩ = some (.slice (some ⟨gy, 0, none⟩) Y.length yc) ∧ (W.cell? ⟨Bk, 0, none⟩ = some (.int .i64 y1.kind) ∧ W.cell? ⟨Bk, 1, none⟩ = some (.int .i64 y1.tok) ∧ W.cell? ⟨Bk, 2, none⟩ = some (.slice y1.a y1.n y1.c)) ∧ W.cell? ⟨gy, q * 3, none⟩ = some (.int .i64 y2.kind) ∧ W.cell? ⟨gy, q * 3 + 1, none⟩ = some (.int .i64 y2.tok) ∧ W.cell? ⟨gy, q * 3 + 2, none⟩ = some (.slice y2.a y2.n y2.c) from ⟨(boxN_facts (x := ⟨xk, xt, xa, X.length, xc⟩) ((hW.block _ (lt_of_block HN1.out)).trans HN1.out)).1.2.2, (boxN_facts (x := ⟨yk, yt, some ⟨gy, 0, none⟩, Y.length, yc⟩) ((hW.block _ (lt_of_block HM1.out)).trans HM1.out)).1.2.2, (boxN_facts (x := y1) ((hW.block _ (lt_of_block HK1.out)).trans HK1.out)).1, (hW.cell (p := ⟨gy, _, none⟩) hgl2).trans f0, (hW.cell (p := ⟨gy, _, none⟩) hgl2).trans f1, (hW.cell (p := ⟨gy, _, none⟩) hgl2).trans f2⟩))
                clear f0 f1 f2 e0 e1 e2
                refine wp_region_held_drew (S := fun W => W.cell? ⟨Bx, 2, none⟩ = some (.slice xa X.length xc) ∧ W.cell? ⟨By, 2, none⟩ = some (.slice (some ⟨gy, 0, none⟩) Y.length yc) ∧ (W.cell? ⟨Bk, 0, none⟩ = some (.int .i64 y1.kind) ∧ W.cell? ⟨Bk, 1, none⟩ = some (.int .i64 y1.tok) ∧ W.cell? ⟨Bk, 2, none⟩ = some (.slice y1.a y1.n y1.c)) ∧ W.cell? ⟨gy, q * 3, none⟩ = some (.int .i64 y2.kind) ∧ W.cell? ⟨gy, q * 3 + 1, none⟩ = some (.int .i64 y2.tok) ∧ W.cell? ⟨gy, q * 3 + 2, none⟩ = some (.slice y2.a y2.n y2.c)) (by kernel_rfl) (HSt.out _ (Below.refl _ _).drew) (fun hHeld => ?_)
                refine wpAnyH_take (i := 0) (v := .int .i64 (j : Int)) rfl (by kernel_rfl) (by kernel_rfl) (by kernel_rfl) (fun _ _ _ h => h) (Or.inl ⟨by first | kernel_rfl | rfl, ?_⟩) hHeld ?_
                · intro W hSw
                  try dsimp only at hSw
                  go_simp
                refine wpAnyH_take (i := 1) (v := .pointer (some ⟨Bx, 2, none⟩)) rfl (by kernel_rfl) (by kernel_rfl) (by kernel_rfl) (fun _ _ _ h => h) (Or.inl ⟨by first | kernel_rfl | rfl, ?_⟩) hHeld ?_
                · intro W hSw
                  try dsimp only at hSw
                  go_simp
                refine wpAnyH_take (i := 2) (v := .slice xa X.length xc) rfl (by kernel_rfl) (by kernel_rfl) (by kernel_rfl) (fun _ _ _ h => h) (Or.inl ⟨by first | kernel_rfl | rfl, ?_⟩) hHeld ?_
                · intro W hSw
                  try dsimp only at hSw
                  go_simp
                refine wpAnyH_take (i := 3) (v := .int .i64 (X.length : Int)) rfl (by kernel_rfl) (by kernel_rfl) (by kernel_rfl) (fun _ _ _ h => h) (Or.inl ⟨by first | kernel_rfl | rfl, ?_⟩) hHeld ?_
                · intro W hSw
                  try dsimp only at hSw
                  go_simp
                refine wpAnyH_take (i := 4) (v := .bool false) rfl (by kernel_rfl) (by kernel_rfl) (by kernel_rfl) (fun _ _ _ h => h) (Or.inl ⟨by first | kernel_rfl | rfl, ?_⟩) hHeld ?_
                · intro W hSw
                  try dsimp only at hSw
                  go_simp
                refine wpAnyH_take (i := 5) (v := .bool false) rfl (by kernel_rfl) (by kernel_rfl) (by kernel_rfl) (fun _ _ _ h => h) (Or.inl ⟨by first | kernel_rfl | rfl, ?_⟩) hHeld ?_
                · intro W hSw
                  try dsimp only at hSw
                  go_simp
                refine wpAnyH_take (i := 6) (v := undef) rfl (by kernel_rfl) (by kernel_rfl) (by kernel_rfl) (fun _ _ _ h => h) (Or.inr ⟨by first | kernel_rfl | rfl, rfl⟩) hHeld ?_
                refine wpAnyH_take (i := 7) (v := undef) rfl (by kernel_rfl) (by kernel_rfl) (by kernel_rfl) (fun _ _ _ h => h) (Or.inr ⟨by first | kernel_rfl | rfl, rfl⟩) hHeld ?_
                refine wpAnyH_take (i := 8) (v := undef) rfl (by kernel_rfl) (by kernel_rfl) (by kernel_rfl) (fun _ _ _ h => h) (Or.inr ⟨by first | kernel_rfl | rfl, rfl⟩) hHeld ?_
                refine wpAnyH_take (i := 9) (v := undef) rfl (by kernel_rfl) (by kernel_rfl) (by kernel_rfl) (fun _ _ _ h => h) (Or.inr ⟨by first | kernel_rfl | rfl, rfl⟩) hHeld ?_
                refine wpAnyH_take (i := 10) (v := undef) rfl (by kernel_rfl) (by kernel_rfl) (by kernel_rfl) (fun _ _ _ h => h) (Or.inr ⟨by first | kernel_rfl | rfl, rfl⟩) hHeld ?_
                refine wpAnyH_take (i := 11) (v := undef) rfl (by kernel_rfl) (by kernel_rfl) (by kernel_rfl) (fun _ _ _ h => h) (Or.inr ⟨by first | kernel_rfl | rfl, rfl⟩) hHeld ?_
                refine wpAnyH_ready (rs := [12]) (by kernel_rfl) (by simp) (AllReadyH.cons rfl (fun K hK => ?_) AllReadyH.nil)
                go_simp
                refine hK.out _ _ (HSt.out _ (Below.refl _ _).drew) (fun hHeld => ?_)
                clear hK K
                refine wpAnyH_take (i := 13) (v := undef) rfl (by kernel_rfl) (by kernel_rfl) (by kernel_rfl) (fun _ _ _ h => h) (Or.inr ⟨by first | kernel_rfl | rfl, rfl⟩) hHeld ?_
                refine wpAnyH_take (i := 14) (v := .bool false) rfl (by kernel_rfl) (by kernel_rfl) (by kernel_rfl) (fun _ _ _ h => h) (Or.inl ⟨by first | kernel_rfl | rfl, ?_⟩) hHeld ?_
                · intro W hSw
                  try dsimp only at hSw
                  go_simp
                refine wpAnyH_take (i := 15) (v := .bool false) rfl (by kernel_rfl) (by kernel_rfl) (by kernel_rfl) (fun _ _ _ h => h) (Or.inl ⟨by first | kernel_rfl | rfl, ?_⟩) hHeld ?_
                · intro W hSw
                  try dsimp only at hSw
                  go_simp
                refine wpAnyH_take (i := 16) (v := .int .i64 (j : Int)) rfl (by kernel_rfl) (by kernel_rfl) (by kernel_rfl) (fun _ _ _ h => h) (Or.inl ⟨by first | kernel_rfl | rfl, ?_⟩) hHeld ?_
                · intro W hSw
                  try dsimp only at hSw
                  go_simp
                refine wpAnyH_take (i := 17) (v := .pointer (some ⟨Bx, 2, none⟩)) rfl (by kernel_rfl) (by kernel_rfl) (by kernel_rfl) (fun _ _ _ h => h) (Or.inl ⟨by first | kernel_rfl | rfl, ?_⟩) hHeld ?_
                · intro W hSw
                  try dsimp only at hSw
                  go_simp
                refine wpAnyH_take (i := 18) (v := .slice xa X.length xc) rfl (by kernel_rfl) (by kernel_rfl) (by kernel_rfl) (fun _ _ _ h => h) (Or.inl ⟨by first | kernel_rfl | rfl, ?_⟩) hHeld ?_
                · intro W hSw
                  try dsimp only at hSw
                  go_simp
                refine wpAnyH_take (i := 19) (v := .int .i64 (X.length : Int)) rfl (by kernel_rfl) (by kernel_rfl) (by kernel_rfl) (fun _ _ _ h => h) (Or.inl ⟨by first | kernel_rfl | rfl, ?_⟩) hHeld ?_
                · intro W hSw
                  try dsimp only at hSw
                  go_simp
                refine wpAnyH_take (i := 20) (v := .bool true) rfl (by kernel_rfl) (by kernel_rfl) (by kernel_rfl) (fun _ _ _ h => h) (Or.inl ⟨by first | kernel_rfl | rfl, ?_⟩) hHeld ?_
                · intro W hSw
                  try dsimp only at hSw
                  go_simp
                refine wpAnyH_take (i := 21) (v := .bool true) rfl (by kernel_rfl) (by kernel_rfl) (by kernel_rfl) (fun _ _ _ h => h) (Or.inl ⟨by first | kernel_rfl | rfl, ?_⟩) hHeld ?_
                · intro W hSw
                  try dsimp only at hSw
                  go_simp
                refine wpAnyH_take (i := 22) (v := .agg #[.int .i64 y1.kind, .int .i64 y1.tok, .slice y1.a y1.n y1.c]) rfl (by kernel_rfl) (by kernel_rfl) (by kernel_rfl) (fun _ _ _ h => h) (Or.inl ⟨by first | kernel_rfl | rfl, ?_⟩) hHeld ?_
                · intro W hSw
                  try dsimp only at hSw
                  go_simp
                refine wpAnyH_take (i := 23) (v := .pointer (some ⟨By, 2, none⟩)) rfl (by kernel_rfl) (by kernel_rfl) (by kernel_rfl) (fun _ _ _ h => h) (Or.inl ⟨by first | kernel_rfl | rfl, ?_⟩) hHeld ?_
                · intro W hSw
                  try dsimp only at hSw
                  go_simp
                refine wpAnyH_take (i := 24) (v := .slice (some ⟨gy, 0, none⟩) Y.length yc) rfl (by kernel_rfl) (by kernel_rfl) (by kernel_rfl) (fun _ _ _ h => h) (Or.inl ⟨by first | kernel_rfl | rfl, ?_⟩) hHeld ?_
                · intro W hSw
                  try dsimp only at hSw
                  go_simp
                refine wpAnyH_take (i := 25) (v := .int .i64 (j : Int)) rfl (by kernel_rfl) (by kernel_rfl) (by kernel_rfl) (fun _ _ _ h => h) (Or.inl ⟨by first | kernel_rfl | rfl, ?_⟩) hHeld ?_
                · intro W hSw
                  try dsimp only at hSw
                  go_simp
                refine wpAnyH_take (i := 26) (v := .pointer (some ⟨Bx, 2, none⟩)) rfl (by kernel_rfl) (by kernel_rfl) (by kernel_rfl) (fun _ _ _ h => h) (Or.inl ⟨by first | kernel_rfl | rfl, ?_⟩) hHeld ?_
                · intro W hSw
                  try dsimp only at hSw
                  go_simp
                refine wpAnyH_take (i := 27) (v := .slice xa X.length xc) rfl (by kernel_rfl) (by kernel_rfl) (by kernel_rfl) (fun _ _ _ h => h) (Or.inl ⟨by first | kernel_rfl | rfl, ?_⟩) hHeld ?_
                · intro W hSw
                  try dsimp only at hSw
                  go_simp
                refine wpAnyH_take (i := 28) (v := .int .i64 (X.length : Int)) rfl (by kernel_rfl) (by kernel_rfl) (by kernel_rfl) (fun _ _ _ h => h) (Or.inl ⟨by first | kernel_rfl | rfl, ?_⟩) hHeld ?_
                · intro W hSw
                  try dsimp only at hSw
                  go_simp
                refine wpAnyH_take (i := 29) (v := .int .i64 (q : Int)) rfl (by kernel_rfl) (by kernel_rfl) (by kernel_rfl) (fun _ _ _ h => h) (Or.inl ⟨by first | kernel_rfl | rfl, ?_⟩) hHeld ?_
                · intro W hSw
                  try dsimp only at hSw
                  go_simp
                refine wpAnyH_take (i := 30) (v := .pointer (some ⟨gy, q * 3, none⟩)) rfl (by kernel_rfl) (by kernel_rfl) (by kernel_rfl) (fun _ _ _ h => h) (Or.inl ⟨by first | kernel_rfl | rfl, ?_⟩) hHeld ?_
                · intro W hSw
                  try dsimp only at hSw
                  go_simp
                refine wpAnyH_take (i := 31) (v := .agg #[.int .i64 y2.kind, .int .i64 y2.tok, .slice y2.a y2.n y2.c]) rfl (by kernel_rfl) (by kernel_rfl) (by kernel_rfl) (fun _ _ _ h => h) (Or.inl ⟨by first | kernel_rfl | rfl, ?_⟩) hHeld ?_
                · intro W hSw
                  try dsimp only at hSw
                  go_simp
                refine wpAnyH_take (i := 32) (v := .slice a A.length ca) rfl (by kernel_rfl) (by kernel_rfl) (by kernel_rfl) (fun _ _ _ h => h) (Or.inl ⟨by first | kernel_rfl | rfl, ?_⟩) hHeld ?_
                · intro W hSw
                  try dsimp only at hSw
                  go_simp
                refine wpAnyH_take (i := 33) (v := .int .i64 (A.length : Int)) rfl (by kernel_rfl) (by kernel_rfl) (by kernel_rfl) (fun _ _ _ h => h) (Or.inl ⟨by first | kernel_rfl | rfl, ?_⟩) hHeld ?_
                · intro W hSw
                  try dsimp only at hSw
                  go_simp
                refine wpAnyH_ready (rs := [34]) (by kernel_rfl) (by simp) (AllReadyH.cons rfl (fun K hK => ?_) AllReadyH.nil)
                go_simp
                go_wp2_with (go_at_call 11; refine (HMv.out _ (Below.refl _ _).drew).mono ?_; rintro e wm ⟨⟨x', rfl, hx'⟩, hbm⟩)
                have hBm : Below w1.heap.size w1 wm := (Below.refl _ _).drew.trans hbm
                have HSx := hid (HSm.out wm hBm _ x' hx')
                refine hK.out _ _ (HSt.out _ hBm) (fun hHeld => ?_)
                clear hK K hbm hx'
                refine wpAnyH_ready (rs := [35]) (by kernel_rfl) (by simp) (AllReadyH.cons rfl (fun K hK => ?_) AllReadyH.nil)
                go_simp
                go_wp2_with (go_at_call 10; refine HSx.out.mono ?_; rintro e wq ⟨rfl, hbq⟩)
                have hB : Below w1.heap.size w1 wq := hBm.trans (hbq.mono hBm.size)
                refine hK.out _ _ (HSt.out _ hB) (fun hHeld => ?_)
                clear hK K hbq
                refine wpAnyH_take (i := 36) (v := .bool false) rfl (by kernel_rfl) (by kernel_rfl) (by kernel_rfl) (fun _ _ _ h => h) (Or.inl ⟨by first | kernel_rfl | rfl, ?_⟩) hHeld ?_
                · intro W hSw
                  try dsimp only at hSw
                  go_simp
                refine wpAnyH_take (i := 37) (v := .bool false) rfl (by kernel_rfl) (by kernel_rfl) (by kernel_rfl) (fun _ _ _ h => h) (Or.inl ⟨by first | kernel_rfl | rfl, ?_⟩) hHeld ?_
                · intro W hSw
                  try dsimp only at hSw
                  go_simp
                refine wpAnyH_take (i := 38) (v := .bool false) rfl (by kernel_rfl) (by kernel_rfl) (by kernel_rfl) (fun _ _ _ h => h) (Or.inl ⟨by first | kernel_rfl | rfl, ?_⟩) hHeld ?_
                · intro W hSw
                  try dsimp only at hSw
                  go_simp
                refine wpAnyH_done (by kernel_rfl) ?_ _
                have HB8 := hid (HBk.out.trans (hB.mono HBk.out.size))
                clear hB HSt HSm HMv HSx
                go_wp2_with fail
                go_roundw
                case rel => exact ⟨j + 1, by omega, rfl, HB8⟩
                case measure => simp [intOf]; omega
            · have hjk : j = zn := by omega
              subst hjk
              have hji : ¬ ((j : Int) < (j : Int)) := by omega
              have HBf := hid (HBb.out.trans (hst.out.mono HBb.out.size))
              go_wp2_with fail
              go_ret
              exact ⟨rfl, HBf.out⟩
end Go.Proofs.Ytocklchafmlfkaa
