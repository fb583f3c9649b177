/- The document's own names, all of them and those of this very scope: opened, with one more. -/
import Derived.Test.YtkfbhknhjpmomaaScWa
import Derived.Test.YtkfbhknhjpmomaaScVA
import Derived.Test.YtkfbhknhjpmomaaStepApp
import Derived.Maps.Ext
import Derived.Maps.RangeWalk
import Derived.Maps.OwnSet
import Derived.Deep.RegionHeld3
namespace Go.Proofs.Ytkfbhknhjpmomaa
open Go.RowKit Go.Shelf Go.Maps Go.WideMaps
/-- A store into a map that is owned, one step of a region that draws. -/
theorem step_put_own {H : Type} {P : Program} {w : World} {ops : Array Oper} {o : Oper} {a : Act} {K : Act → World → Prop} {Q : Exit → Act → World → Prop} {E : Prop} (hgd : o.guard = none) (m x v : Operand) (t : TypeId) (ho : o.op = Op.mapUpdate t m x v)
    (k e : TypeId) (KD : Keyed P k) (ht : P.underlying t = some (.map k e)) (R : Value → Option (DataW H × List MemPlace)) (b n : Nat) (D : DataW H)
    (hm : a.eval m = .map (some b)) (hown : w.ownsMap P k R b n D) (hn : n < maxLen) (key val : Value) (kl : Lit) (hx : a.eval x = key) (hv : a.eval v = val) (hkey : keyOf P k key = some kl)
    (d : DataW H) (ps : List MemPlace) (hval : R val = some (d, ps))
    (h : ∀ w', w'.ownsMap P k R b (n + 1) (D.put kl d) → w.grownBy w' (some b) → K (a.put o.dst undef) w') :
    if Region.wanted o (yielded ops a.tmps) = true then Oper.wp P o a w K Q else E := by
  have hw : Region.wanted o (yielded ops a.tmps) = true := by simp [Region.wanted, hgd]
  rw [if_pos hw]
  obtain ⟨w', hrun, r1, r2⟩ := hown.update KD ht hn hkey hval
  unfold Oper.wp
  simp [execOp, ho, hm, hx, hv, hrun, Result.andThen]
  exact h w' r1 r2
theorem next_si {w : World} {ops : Array Oper} {rest : List Oper} {o : Oper} {a : Act} {Q : Exit → Act → World → Prop} (hg : o.guard = none) (it : Operand) (hop : o.op = Op.next it false)
    (b r n : Nat) (D : DataW Unit) (left : Lit → Bool) (cnt : Nat) (hit : a.eval it = .pointer (some ⟨r, 0, none⟩)) (h : w.ranges Try.prog 9 (plainElem Try.prog 3) b r n D left cnt)
    (hDone : cnt = 0 → (∀ kl, left kl = false) → wpList Try.prog ops Q rest (a.put o.dst (.tuple #[.bool false])) w)
    (hMore : ∀ (x : ByteArray) (c : Int) (w' : World) (cnt' : Nat), x.size ≤ maxLen → (Lit.int .i64 c).wf = true → (∀ zd, D.atKey (.string x.data.toList) zd = .lit (.int .i64 c)) → w'.ranges Try.prog 9 (plainElem Try.prog 3) b r n D (fun z => left z && !z.sameKey (.string x.data.toList)) cnt' → cnt' < cnt →
      w.grownBy w' (some r) → w'.heap.size = w.heap.size → (Instr.entry (.pointer (some ⟨r, 0, none⟩))).run Try.prog w' = .ok (.tuple #[.string x, .int .i64 c]) w' → wpList Try.prog ops Q rest (a.put o.dst (.tuple #[.bool true, .string x, .int .i64 c])) w') :
    wpList Try.prog ops Q (o :: rest) a w :=
  wpList_next_ranges w hg it hop 9 (Go.Maps.string_keyed Try.underlying9) (plainElem Try.prog 3) Value.string (Value.int .i64) (fun key kl hkey => by obtain ⟨x, rfl, _⟩ := key_inv hkey; exact ⟨x, rfl⟩)
    (fun v y hv => by obtain ⟨c, rfl, _⟩ := plainElem_int_inv Try.underlying3 hv; exact ⟨c, rfl⟩) b r n D left cnt hit h hDone (fun x c kl y w' cnt' hkey hlk hv hat hrg hlt hgr hsz hen => by
      obtain ⟨x', ex, rfl, hx⟩ := key_inv hkey
      cases ex
      obtain ⟨c', ec, rfl, hwc⟩ := plainElem_int_inv Try.underlying3 hv
      cases ec
      exact hMore x c w' cnt' hx hwc hat hrg hlt hgr hsz hen)
/-- Ahead of the first loop. -/
def startW (w : World) (a i : Nat) : World := ((((w.alloc (.cells #[.map (some a), .map (some i)] 72)).alloc (.cells #[.map none, .map none] 72)).alloc (.map #[] 0)).alloc (.map #[] 0)).alloc (.cells #[.map (some (w.heap.size + 1 + 1)), .map (some (w.heap.size + 1 + 1 + 1))] 72)
theorem startW_facts (w : World) (a i : Nat) : Below w.heap.size w (startW w a i) ∧ (startW w a i).heap.size = w.heap.size + 5 ∧ (startW w a i).heap[w.heap.size]? = some (.cells #[.map (some a), .map (some i)] 72) ∧ (startW w a i).heap[w.heap.size + 1]? = some (.cells #[.map none, .map none] 72) ∧
    (startW w a i).ownsMap Try.prog 9 (plainElem Try.prog 3) (w.heap.size + 2) 0 (.map [] : DataW Unit) ∧ (startW w a i).ownsMap Try.prog 9 (plainElem Try.prog 3) (w.heap.size + 3) 0 (.map [] : DataW Unit) ∧ (startW w a i).heap[w.heap.size + 4]? = some (.cells #[.map (some (w.heap.size + 1 + 1)), .map (some (w.heap.size + 1 + 1 + 1))] 72) := by
  unfold startW
  have h1 := below_new w (.cells #[.map (some a), .map (some i)] 72)
  have k1 := heap_alloc_new w (.cells #[.map (some a), .map (some i)] 72)
  have s1 : (w.alloc (.cells #[.map (some a), .map (some i)] 72)).heap.size = w.heap.size + 1 := by simp
  generalize w.alloc (.cells #[.map (some a), .map (some i)] 72) = w1 at *
  have h2 := below_new w1 (.cells #[.map none, .map none] 72)
  have k2 := heap_alloc_new w1 (.cells #[.map none, .map none] 72)
  have s2 : (w1.alloc (.cells #[.map none, .map none] 72)).heap.size = w.heap.size + 2 := by simp [s1]
  rw [s1] at k2
  generalize w1.alloc (.cells #[.map none, .map none] 72) = w2 at *
  have h3 := below_new w2 (.map #[] 0)
  have k3 := World.ownsMap_made (H := Unit) w2 Try.prog 9 (plainElem Try.prog 3)
  have s3 : (w2.alloc (.map #[] 0)).heap.size = w.heap.size + 3 := by simp [s2]
  rw [s2] at k3
  generalize w2.alloc (.map #[] 0) = w3 at *
  have h4 := below_new w3 (.map #[] 0)
  have k4 := World.ownsMap_made (H := Unit) w3 Try.prog 9 (plainElem Try.prog 3)
  have s4 : (w3.alloc (.map #[] 0)).heap.size = w.heap.size + 4 := by simp [s3]
  rw [s3] at k4
  generalize w3.alloc (.map #[] 0) = w4 at *
  have h5 := below_new w4 (.cells #[.map (some (w.heap.size + 1 + 1)), .map (some (w.heap.size + 1 + 1 + 1))] 72)
  have k5 := heap_alloc_new w4 (.cells #[.map (some (w.heap.size + 1 + 1)), .map (some (w.heap.size + 1 + 1 + 1))] 72)
  have s5 : (w4.alloc (.cells #[.map (some (w.heap.size + 1 + 1)), .map (some (w.heap.size + 1 + 1 + 1))] 72)).heap.size = w.heap.size + 5 := by simp [s4]
  rw [s4] at k5
  generalize w4.alloc (.cells #[.map (some (w.heap.size + 1 + 1)), .map (some (w.heap.size + 1 + 1 + 1))] 72) = w5 at *
  have b5 : ∀ b, b < w.heap.size + 4 → w5.heap[b]? = w4.heap[b]? := fun b hb => h5.block b (by omega)
  have b4 : ∀ b, b < w.heap.size + 3 → w5.heap[b]? = w3.heap[b]? := fun b hb => (b5 b (by omega)).trans (h4.block b (by omega))
  have b3 : ∀ b, b < w.heap.size + 2 → w5.heap[b]? = w2.heap[b]? := fun b hb => (b4 b (by omega)).trans (h3.block b (by omega))
  have b2 : ∀ b, b < w.heap.size + 1 → w5.heap[b]? = w1.heap[b]? := fun b hb => (b3 b (by omega)).trans (h2.block b (by omega))
  refine ⟨(((h1.trans (h2.mono (by omega))).trans (h3.mono (by omega))).trans (h4.mono (by omega))).trans (h5.mono (by omega)), s5, (b2 _ (by omega)).trans k1, (b3 _ (by omega)).trans k2, map_same k3 (b4 _ (by omega)), map_same k4 (b5 _ (by omega)), k5⟩
/-- Two cells of names. -/
theorem nm_facts {w : World} {b : Nat} {x y : Value} (h : w.heap[b]? = some (.cells #[x, y] 72)) : w.cell? ⟨b, 0, none⟩ = some x ∧ w.cell? ⟨b, 1, none⟩ = some y ∧ w.frozen? ⟨b, 0, none⟩ = false ∧ w.frozen? ⟨b, 1, none⟩ = false := by
  simp [World.cell?, World.frozen?, h]
/-- A result that is names. -/
theorem nm_ret {f : Func} {k : Nat} (hr : f.results = #[.cell k 72]) {w : World} {g : Nat} {x y : Value} (h : w.heap[g]? = some (.cells #[x, y] 72)) (tmps : Array Value) (hp : tmps.getD k undef = .pointer (some ⟨g, 0, none⟩)) :
    (results f tmps).run Try.prog w = .ok (.agg #[x, y]) w := by
  obtain ⟨c0, c1, _⟩ := nm_facts h
  simp at hp
  simp [results, hr, go_sem, hp, c0, c1]
theorem nm_put {w : World} {g : Nat} {x0 x1 : Value} {T : TypeId} (x y : Value) (h : w.heap[g]? = some (.cells #[x0, x1] T)) : ((w.setCell ⟨g, 0, none⟩ x).setCell ⟨g, 1, none⟩ y).heap[g]? = some (.cells #[x, y] T) := by
  have h1 := Go.Joins.block_setCell (i := 0) h x
  have h2 := Go.Joins.block_setCell (i := 1) h1 y
  simpa using h2
theorem nm_other {w : World} {g : Nat} (x y : Value) (b : Nat) (hb : b ≠ g) : ((w.setCell ⟨g, 0, none⟩ x).setCell ⟨g, 1, none⟩ y).heap[b]? = w.heap[b]? := by
  rw [Below.heap_setCell _ _ _ _ hb, Below.heap_setCell _ _ _ _ hb]
set_option maxRecDepth 100000 in
set_option maxHeartbeats 4000000 in
theorem NWith_any (a i n1 n2 : Nat) (D1 D2 : DataW Unit) (x : ByteArray) (t : Nat) (w : World) (hx : x.size ≤ maxLen) (ht : t ≤ 1000000) (h1 : w.ownsMap Try.prog 9 (plainElem Try.prog 3) a n1 D1) (h2 : w.ownsMap Try.prog 9 (plainElem Try.prog 3) i n2 D2) (hn1 : n1 < 1000000) (hn2 : n2 < 1000000) :
    Calls Try.prog 65 #[.agg #[.map (some a), .map (some i)], .string x, .int .i64 (t : Int)] w fun e w' => e = .returned (.agg #[.map (some (w.heap.size + 2)), .map (some (w.heap.size + 3))]) ∧ w'.ownsMap Try.prog 9 (plainElem Try.prog 3) (w.heap.size + 2) (n1 + 1) (D1.put (.string x.data.toList) (.lit (.int .i64 (t : Int)))) ∧ w'.ownsMap Try.prog 9 (plainElem Try.prog 3) (w.heap.size + 3) (n2 + 1) (D2.put (.string x.data.toList) (.lit (.int .i64 (t : Int)))) ∧ Below w.heap.size w w' := by
  have hmm := @run_makeMap Try.prog
  have law := Go.Maps.string_keyed Try.underlying9
  have hsz1 := h1.size_le
  have hsz2 := h2.size_le
  have hcan1 := hid (h1.canon law)
  have hcan2 := hid (h2.canon law)
  have hal := h1.lt
  have hil := h2.lt
  obtain ⟨f1, f2, f3, f4, f5, f6, f7⟩ := startW_facts w a i
  have HS := hid (And.intro f1 (And.intro f3 (And.intro f4 f7)))
  have ha1 := map_same h1 (f1.block a hal)
  have hi1 := map_same h2 (f1.block i hil)
  clear h1 h2 f1 f3 f4 f7
  go_enter Try.func65, Try.ntmps65
  go_upto_region 2 with fail
  change Code.wp _ _ _ _ (startW w a i)
  generalize startW w a i = w1 at *
  obtain ⟨c0, c1, _, _⟩ := nm_facts HS.out.2.1
  go_wp2_with (first
    | (at_range; refine wpList_range_own _ rfl _ 61 rfl 9 3 law Try.underlying61 _ a n1 _ rfl ha1 ?_; intro w2 hrg2 hg2 hs2)
    | go_in)
  go_frame
  clear c0 c1 ha1
  rw [f2] at hrg2 ⊢
  have hs2' : w2.heap.size = w.heap.size + 6 := by have : w2.heap.size = w1.heap.size + 1 := by simpa using hs2
                                                   omega
  have ho2 := f5.kept hg2 (by simp)
  have hk2 : Kept (· = w.heap.size + 2) w1 w2 := ⟨hg2.os, hg2.tape, hg2.output, hg2.size, fun b hb _ => hg2.block b hb (by simp)⟩
  have HI := hid hi1
  have HO6 := hid f6
  have F2 := hid f2
  clear f5 hg2 hi1 f6 hs2 f2
  go_loopw [18] (fun _ wr => ∃ (left : Lit → Bool) (cnt : Nat) (Dout : DataW Unit), wr.ranges Try.prog 9 (plainElem Try.prog 3) a (w.heap.size + 5) n1 D1 left cnt ∧ cnt ≤ Maps.size D1 ∧
      wr.ownsMap Try.prog 9 (plainElem Try.prog 3) (w.heap.size + 2) (Maps.size D1 - cnt) Dout ∧ Agree Dout D1 left ∧ Hid (Kept (· = w.heap.size + 2) w1 wr)) (fun _ wr => wr.rangeLeft a (w.heap.size + 5))
  case atStart =>
    exact ⟨_, _, .map [], hrg2, Nat.le_refl _, ho2.mono (Nat.zero_le _), agree_start D1, hk2⟩
  case round =>
    obtain ⟨left, cnt, Dout, hrg, hcs, hout, hA, hnx⟩ := hrel
    have hzN : w.heap.size + 5 ≤ wr.heap.size := by have := hnx.out.size; have := F2.out; omega
    go_wp2_with (first
      | (at_next; refine next_si rfl _ rfl a (w.heap.size + 5) n1 _ _ _ rfl hrg ?_ ?_)
      | go_in)
    · intro hc0 hl0
      subst hc0
      have e := agree_end hA hl0 (hout.canon law) hcan1.out
      rw [e] at hout
      have hM1 := hid hout
      have hi2 := map_same HI.out (hnx.out.block i (by have := F2.out; omega) (by omega))
      obtain ⟨c0, c1, _, _⟩ := nm_facts ((hnx.out.block w.heap.size (by have := F2.out; omega) (by omega)).trans HS.out.2.1)
      clear hrg hout hA hrg2 ho2 hk2
      go_wp2_with (first
        | (at_range; refine wpList_range_own _ rfl _ 61 rfl 9 3 law Try.underlying61 _ i n2 _ rfl hi2 ?_; intro w5 hrg5 hg5 hs5)
        | go_in)
      go_frame
      have HK5 := hid (⟨hg5.os.trans hnx.out.os, hg5.tape.trans hnx.out.tape, hg5.output.trans hnx.out.output, Nat.le_trans hnx.out.size hg5.size, fun b hb hx => (hg5.block b (by have := hnx.out.size; omega) (by simp)).trans (hnx.out.block b hb (fun h => hx (.inl h)))⟩ : Kept (fun b => b = w.heap.size + 2 ∨ b = w.heap.size + 3) w1 w5)
      have HM5 := hid (by have := hM1.out.kept hg5 (by simp); rwa [Nat.sub_zero] at this : w5.ownsMap Try.prog 9 (plainElem Try.prog 3) (w.heap.size + 2) (Maps.size D1) D1)
      have ho5 : w5.ownsMap Try.prog 9 (plainElem Try.prog 3) (w.heap.size + 3) 0 (.map [] : DataW Unit) := map_same HO6.out ((hg5.block _ (by omega) (by simp)).trans (hnx.out.block _ (by have := F2.out; omega) (by omega)))
      have hs5' : w5.heap.size = wr.heap.size + 1 := by simpa using hs5
      clear c0 c1 hi2 hg5 hs5 hM1
      generalize wr.heap.size = r2 at *
      go_loopw [30] (fun _ wr => ∃ (left : Lit → Bool) (cnt : Nat) (Dout : DataW Unit), wr.ranges Try.prog 9 (plainElem Try.prog 3) i r2 n2 D2 left cnt ∧ cnt ≤ Maps.size D2 ∧
          wr.ownsMap Try.prog 9 (plainElem Try.prog 3) (w.heap.size + 3) (Maps.size D2 - cnt) Dout ∧ Agree Dout D2 left ∧ Hid (wr.ownsMap Try.prog 9 (plainElem Try.prog 3) (w.heap.size + 2) (Maps.size D1) D1) ∧ Hid (Kept (fun b => b = w.heap.size + 2 ∨ b = w.heap.size + 3) w1 wr)) (fun _ wr => wr.rangeLeft i r2)
      case atStart =>
        exact ⟨_, _, .map [], hrg5, Nat.le_refl _, ho5.mono (Nat.zero_le _), agree_start D2, HM5, HK5⟩
      case round =>
        obtain ⟨left, cnt, Dout, hrg, hcs, hout, hA, hMo, hnx⟩ := hrel
        go_wp2_with (first
          | (at_next; refine next_si rfl _ rfl i r2 n2 _ _ _ rfl hrg ?_ ?_)
          | go_in)
        · intro hc0 hl0
          subst hc0
          have e := agree_end hA hl0 (hout.canon law) hcan2.out
          rw [e] at hout
          have hM2 := hid hout
          clear hrg hout hA hrg5 ho5
          obtain ⟨c0, c1, _, _⟩ := nm_facts ((hnx.out.block (w.heap.size + 4) (by have := F2.out; omega) (by omega)).trans HS.out.2.2.2)
          have c0 : wr.cell? ⟨w.heap.size + 1 + 1 + 1 + 1, 0, none⟩ = some (.map (some (w.heap.size + 2))) := c0
          have c1 : wr.cell? ⟨w.heap.size + 1 + 1 + 1 + 1, 1, none⟩ = some (.map (some (w.heap.size + 3))) := c1
          have hM1 := hMo.out
          have hM2' := hM2.out
          rw [Nat.sub_zero] at hM2'
          have hkx := key_mk hx
          have htw : (Lit.int .i64 (t : Int)).wf = true := WalkArith.wf_i64 (by omega)
          have HC := hid (fun W (hW : Kept (fun b => b = w.heap.size + 2 ∨ b = w.heap.size + 3) w1 W) => by
            obtain ⟨q0, q1, _, _⟩ := nm_facts ((hW.block (w.heap.size + 4) (by have := F2.out; omega) (by omega)).trans HS.out.2.2.2)
            exact (And.intro q0 q1 : W.cell? ⟨w.heap.size + 1 + 1 + 1 + 1, 0, none⟩ = some (.map (some (w.heap.size + 2))) ∧ W.cell? ⟨w.heap.size + 1 + 1 + 1 + 1, 1, none⟩ = some (.map (some (w.heap.size + 3)))))
          obtain ⟨wA, hrunA, hA1, hgA⟩ := (map_same hM1 (by rfl) : wr.drew.ownsMap Try.prog 9 (plainElem Try.prog 3) (w.heap.size + 2) (Maps.size D1) D1).update law Try.underlying61 (by unfold maxLen; omega) hkx (plainElem_int Try.underlying3 htw)
          obtain ⟨wB, hrunB, hB1, hgB⟩ := ((map_same hM2' (by rfl) : wr.drew.ownsMap Try.prog 9 (plainElem Try.prog 3) (w.heap.size + 3) (Maps.size D2) D2).kept hgA (by simp)).update law Try.underlying61 (by unfold maxLen; omega) hkx (plainElem_int Try.underlying3 htw)
          have hA2 := hA1.kept hgB (by simp)
          have hzr := hnx.out.size
          have hKr : Kept (fun b => b = w.heap.size + 2 ∨ b = w.heap.size + 3) w1 wr.drew := ⟨hnx.out.os, hnx.out.tape, hnx.out.output, hnx.out.size, hnx.out.block⟩
          have hKA : Kept (fun b => b = w.heap.size + 2 ∨ b = w.heap.size + 3) w1 wA := ⟨hgA.os.trans hKr.os, hgA.tape.trans hKr.tape, hgA.output.trans hKr.output, Nat.le_trans hKr.size hgA.size, fun b hb hx => (hgA.block b (by have := hKr.size; omega) (fun e => hx (.inl (Option.some.inj e)))).trans (hKr.block b hb hx)⟩
          have hKB : Kept (fun b => b = w.heap.size + 2 ∨ b = w.heap.size + 3) w1 wB := ⟨hgB.os.trans hKA.os, hgB.tape.trans hKA.tape, hgB.output.trans hKA.output, Nat.le_trans hKA.size hgB.size, fun b hb hx => (hgB.block b (by have := hKA.size; omega) (fun e => hx (.inr (Option.some.inj e)))).trans (hKA.block b hb hx)⟩
          have HKr := hid hKr
          have HKA := hid hKA
          have HKB := hid hKB
          have HE := hid (And.intro hA2 hB1)
          clear hA1 hA2 hB1 hgA hgB hKr hKA hKB hM1 hM2' hzr
          go_wp2_with fail
          go_region_held3 (fun W => W.cell? ⟨w.heap.size + 1 + 1 + 1 + 1, 0, none⟩ = some (.map (some (w.heap.size + 2))) ∧ W.cell? ⟨w.heap.size + 1 + 1 + 1 + 1, 1, none⟩ = some (.map (some (w.heap.size + 3))))
            ((refine HC.out _ ?_; first | exact HKA.out | exact HKB.out | exact HKr.out))
            (fail)
          all_goals (
            have hq := HC.out _ HKB.out
            obtain ⟨q0, q1⟩ := hq
            obtain ⟨r0, r1, r2', r3⟩ := nm_facts ((HKB.out.block (w.heap.size + 1) (by have := F2.out; omega) (by omega)).trans HS.out.2.2.1)
            have HF : Hid (Below w.heap.size w wB) := ⟨HKB.out.os.trans HS.out.1.os, HKB.out.tape.trans HS.out.1.tape, HKB.out.output.trans HS.out.1.output, Nat.le_trans HS.out.1.size HKB.out.size, fun b hb => (HKB.out.block b (by have := HS.out.1.size; omega) (by omega)).trans (HS.out.1.block b hb)⟩
            clear HKA HKr HC
            go_wp2_with fail)
          all_goals (
            have hb1 := (HKB.out.block (w.heap.size + 1) (by have := F2.out; omega) (by omega)).trans HS.out.2.2.1
            refine bodyPost_ret (nm_ret Try.results65 (nm_put _ _ hb1) _ rfl) rfl ⟨rfl, map_same ((HE.out.1.mono (by omega))) (nm_other _ _ _ (by omega)), map_same ((HE.out.2.mono (by omega))) (nm_other _ _ _ (by omega)), (HF.out.setCell (p := ⟨w.heap.size + 1, 0, none⟩) (by simp) _).setCell (p := ⟨w.heap.size + 1, 1, none⟩) (by simp) _⟩)
        · intro y c w6 cnt6 hyl hcw hat hrg6 hlt hg6 hs6 hen
          have hout6 := hout.kept hg6 (by simp; omega)
          have hkey' := key_mk hyl
          have hzw := hnx.out.size
          have hz1 := F2.out
          have h7 := (hg6.block (w.heap.size + 4) (by omega) (by simp; omega)).trans ((hnx.out.block (w.heap.size + 4) (by omega) (by omega)).trans HS.out.2.2.2)
          obtain ⟨c0, c1, _, _⟩ := nm_facts h7
          have c1 : w6.cell? ⟨w.heap.size + 1 + 1 + 1 + 1, 1, none⟩ = some (.map (some (w.heap.size + 3))) := c1
          have hk6 := hid (⟨hg6.os.trans hnx.out.os, hg6.tape.trans hnx.out.tape, hg6.output.trans hnx.out.output, Nat.le_trans hnx.out.size hg6.size, fun b hb hx => (hg6.block b (by omega) (by simp; omega)).trans (hnx.out.block b hb hx)⟩ : Kept (fun b => b = w.heap.size + 2 ∨ b = w.heap.size + 3) w1 w6)
          have hMo6 := hid (hMo.out.kept hg6 (by simp; omega))
          clear h7 c0 hzw hz1
          go_wp2_with (first
            | (at_mapUpdate; refine wpList_mapUpdate_own _ rfl _ _ _ 61 rfl 9 3 law Try.underlying61 _ (w.heap.size + 3) _ _ rfl hout6 (by unfold maxLen; omega) _ _ _ rfl rfl hkey' _ [] (plainElem_int Try.underlying3 hcw) ?_; intro w7 hout7 hg7; go_frame)
            | go_in)
          have hrg7 := hrg6.kept hg7 (fun e => by have := Option.some.inj e; omega) (fun e => by have := Option.some.inj e; omega)
          go_roundw
          case rel =>
            exact ⟨_, cnt6, _, hrg7, by omega, hout7.mono (by omega), agree_step hA hout.isMap trivial hat, hMo6.out.kept hg7 (by simp), ⟨hg7.os.trans hk6.out.os, hg7.tape.trans hk6.out.tape, hg7.output.trans hk6.out.output, Nat.le_trans hk6.out.size hg7.size, fun b hb hx => (hg7.block b (by have := hk6.out.size; omega) (fun e => hx (.inr (Option.some.inj e)))).trans (hk6.out.block b hb hx)⟩⟩
          case measure => rw [hrg7.left_eq, hrg.left_eq]; exact hlt
    · intro y c w3 cnt3 hyl hcw hat hrg3 hlt hg3 hs3 hen
      have hout3 := hout.kept hg3 (by simp)
      have hkey' := key_mk hyl
      have h7 := (hg3.block (w.heap.size + 4) (by omega) (by simp)).trans ((hnx.out.block (w.heap.size + 4) (by have := F2.out; omega) (by omega)).trans HS.out.2.2.2)
      obtain ⟨c0, c1, _, _⟩ := nm_facts h7
      have c0 : w3.cell? ⟨w.heap.size + 1 + 1 + 1 + 1, 0, none⟩ = some (.map (some (w.heap.size + 2))) := c0
      have hk3 := hid (⟨hg3.os.trans hnx.out.os, hg3.tape.trans hnx.out.tape, hg3.output.trans hnx.out.output, Nat.le_trans hnx.out.size hg3.size, fun b hb hx => (hg3.block b (by have := hnx.out.size; omega) (by have := F2.out; simp; omega)).trans (hnx.out.block b hb hx)⟩ : Kept (· = w.heap.size + 2) w1 w3)
      clear h7 c1
      go_wp2_with (first
        | (at_mapUpdate; refine wpList_mapUpdate_own _ rfl _ _ _ 61 rfl 9 3 law Try.underlying61 _ (w.heap.size + 2) _ _ rfl hout3 (by unfold maxLen; omega) _ _ _ rfl rfl hkey' _ [] (plainElem_int Try.underlying3 hcw) ?_; intro w4 hout4 hg4; go_frame)
        | go_in)
      have hrg4 := hrg3.kept hg4 (fun e => by have := Option.some.inj e; omega) (fun e => by have := Option.some.inj e; omega)
      go_roundw
      case rel =>
        exact ⟨_, cnt3, _, hrg4, by omega, hout4.mono (by omega), agree_step hA hout.isMap trivial hat, hk3.out.trans (⟨hg4.os, hg4.tape, hg4.output, hg4.size, fun b hb hx => hg4.block b hb (by simp; omega)⟩ : Kept (· = w.heap.size + 2) w3 w4)⟩
      case measure => rw [hrg4.left_eq, hrg.left_eq]; exact hlt
set_option maxRecDepth 100000 in
set_option maxHeartbeats 1000000 in
theorem NOpen_any (a i : Nat) (w : World) :
    Calls Try.prog 47 #[.agg #[.map (some a), .map (some i)]] w fun e w' => ∃ m, e = .returned (.agg #[.map (some a), .map (some m)]) ∧ w.heap.size ≤ m ∧ w'.ownsMap Try.prog 9 (plainElem Try.prog 3) m 0 (.map [] : DataW Unit) ∧ Below w.heap.size w w' := by
  have hmm := @run_makeMap Try.prog
  have h1 := below_new w (.cells #[.map (some a), .map (some i)] 72)
  have k1 := heap_alloc_new w (.cells #[.map (some a), .map (some i)] 72)
  have s1 : (w.alloc (.cells #[.map (some a), .map (some i)] 72)).heap.size = w.heap.size + 1 := by simp
  go_enter Try.func47, Try.ntmps47
  go_upto_region 1 with fail
  change Code.wp _ _ _ _ ((w.alloc (.cells #[.map (some a), .map (some i)] 72)).alloc (.cells #[.map none, .map none] 72))
  generalize w.alloc (.cells #[.map (some a), .map (some i)] 72) = w1 at *
  have h2 := below_new w1 (.cells #[.map none, .map none] 72)
  have k2 := heap_alloc_new w1 (.cells #[.map none, .map none] 72)
  have s2 : (w1.alloc (.cells #[.map none, .map none] 72)).heap.size = w.heap.size + 2 := by simp [s1]
  rw [s1] at k2
  generalize w1.alloc (.cells #[.map none, .map none] 72) = w2 at *
  obtain ⟨c0, c1, _, _⟩ := nm_facts ((h2.block _ (by omega)).trans k1)
  obtain ⟨d0, d1, z0, z1⟩ := nm_facts k2
  have HB := hid (h1.trans (h2.mono (by omega)))
  have HR := hid k2
  clear h1 h2 k1 k2
  go_wp2_with fail
  have hb3 : Below w.heap.size w ((w2.setCell ⟨w.heap.size + 1, 0, none⟩ (.map (some a))).setCell ⟨w.heap.size + 1, 1, none⟩ (.map (some (w.heap.size + 2)))) := (HB.out.setCell (p := ⟨w.heap.size + 1, 0, none⟩) (by simp) _).setCell (p := ⟨w.heap.size + 1, 1, none⟩) (by simp) _
  have hs3 : ((w2.setCell ⟨w.heap.size + 1, 0, none⟩ (.map (some a))).setCell ⟨w.heap.size + 1, 1, none⟩ (.map (some (w.heap.size + 2)))).heap.size = w.heap.size + 2 := by simp [s2]
  have hr3 := nm_put (.map (some a)) (.map (some (w.heap.size + 2))) HR.out
  generalize (w2.setCell ⟨w.heap.size + 1, 0, none⟩ (.map (some a))).setCell ⟨w.heap.size + 1, 1, none⟩ (.map (some (w.heap.size + 2))) = w3 at *
  have h4 := below_new w3 (.map #[] 0)
  have k4 := World.ownsMap_made (H := Unit) w3 Try.prog 9 (plainElem Try.prog 3)
  rw [hs3] at k4
  exact bodyPost_ret (nm_ret Try.results47 ((h4.block _ (by omega)).trans hr3) _ rfl) rfl ⟨w.heap.size + 2, rfl, by omega, k4, hb3.trans (h4.mono (by omega))⟩
end Go.Proofs.Ytkfbhknhjpmomaa
