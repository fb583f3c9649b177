/- Walk of Wrong: a call returns the first thing that is wrong with files, and in which, and leaves all that lay in memory as it was. -/
import Derived.Test.YthklodlhbafehaaDoorData
import Derived.Lib.SmallJoins
import Derived.Deep.QuietTactic
import Derived.BigQuiet
namespace Go.Proofs.YthklodlhbafehaaDoor
open Go.RowKit

def wrongFrom (prev : Option ByteArray) (i : Nat) : List Src → Int × Int
  | [] => (0, -1)
  | x :: r => if cleanB x.1 = false then (7, i) else if 3000 < x.2.size then (4, i)
      else if (match prev with | some p => !(Op.bytesLess p.toList x.1.toList) | none => false) = true then (2, i) else wrongFrom (some x.1) (i + 1) r
def wrongF (fs : List Src) : Int × Int := if 8 < fs.length then (5, -1) else wrongFrom none 0 fs

def prevOf (fs : List Src) (k : Nat) : Option ByteArray := if k = 0 then none else (fs[k - 1]?).map (·.1)
theorem prevOf_succ (fs : List Src) (k : Nat) (x : Src) (h : fs[k]? = some x) : prevOf fs (k + 1) = some x.1 := by simp [prevOf, h]

theorem cells3 {w : World} {g : Nat} {v0 v1 v2 : Value} {t : TypeId} (h : w.heap[g]? = some (.cells #[v0, v1, v2] t (0, 0))) :
    (w.cell? ⟨g, 0, none⟩ = some v0 ∧ w.cell? ⟨g, 1, none⟩ = some v1 ∧ w.cell? ⟨g, 2, none⟩ = some v2) ∧ (∀ i, w.frozen? ⟨g, i, none⟩ = false) := by
  refine ⟨⟨?_, ?_, ?_⟩, fun i => ?_⟩ <;> simp [World.cell?, World.frozen?, h]

theorem Wrong_ret {wr : World} {g : Nat} {x y z u0 u1 u2 : Value} (hR : wr.heap[g]? = some (.cells #[u0, u1, u2] 28 (0, 0))) (tmps : Array Value) (hp : tmps.getD 2 undef = .pointer (some ⟨g, 0, none⟩)) :
    (results Tryd.f9 tmps).run Tryd.prog (((wr.setCell ⟨g, 0, none⟩ x).setCell ⟨g, 1, none⟩ y).setCell ⟨g, 2, none⟩ z) = .ok (.agg #[x, y, z]) (((wr.setCell ⟨g, 0, none⟩ x).setCell ⟨g, 1, none⟩ y).setCell ⟨g, 2, none⟩ z) := by
  have h1 := Go.Joins.block_setCell (i := 0) hR x
  have h2 := Go.Joins.block_setCell (i := 1) h1 y
  have h3 := Go.Joins.block_setCell (i := 2) h2 z
  refine results_cell_row Tryd.results9 tmps _ g 28 #[x, y, z] (0, 0) _ hp (by simpa using h3) Tryd.underlying28 rfl (by kernel_rfl)

theorem Wrong_end {wr w : World} {g : Nat} {x y z u0 u1 u2 : Value} (hR : wr.heap[g]? = some (.cells #[u0, u1, u2] 28 (0, 0))) (tmps : Array Value) (hp : tmps.getD 2 undef = .pointer (some ⟨g, 0, none⟩))
    (hw : Below w.heap.size w wr) (hg : w.heap.size ≤ g) {e1 e2 : Int} (he : Value.agg #[x, y, z] = .agg #[.int .i64 e1, .int .i64 e2, .int .i64 0]) :
    bodyPost Tryd.prog Tryd.f9 (fun e w' => e = .returned (.agg #[.int .i64 e1, .int .i64 e2, .int .i64 0]) ∧ Below w.heap.size w w') Exit.ret { tmps := tmps, defers := [] } (((wr.setCell ⟨g, 0, none⟩ x).setCell ⟨g, 1, none⟩ y).setCell ⟨g, 2, none⟩ z) :=
  bodyPost_ret (v := .agg #[x, y, z]) (Wrong_ret hR tmps hp) rfl ⟨by rw [he], ((hw.setCell (p := ⟨g, 0, none⟩) hg _).setCell (p := ⟨g, 1, none⟩) hg _).setCell (p := ⟨g, 2, none⟩) hg _⟩

theorem after_box {wr w1 : World} {u v : Value} {T : TypeId} (hb : Below (wr.alloc (.cells #[u, v] T)).heap.size (wr.alloc (.cells #[u, v] T)) w1) :
    Below wr.heap.size wr w1 ∧ w1.cell? ⟨wr.heap.size, 0, none⟩ = some u ∧ w1.cell? ⟨wr.heap.size, 1, none⟩ = some v := by
  have h0 : Below wr.heap.size wr w1 := ((Below.refl _ wr).alloc (Nat.le_refl _) _).trans (hb.mono (by simp))
  refine ⟨h0, ?_, ?_⟩
  · rw [hb.cell (p := ⟨wr.heap.size, 0, none⟩) (by simp), World.cell?_alloc_mark]; rfl
  · rw [hb.cell (p := ⟨wr.heap.size, 1, none⟩) (by simp), World.cell?_alloc_mark]; rfl

set_option maxHeartbeats 400000 in
theorem Wrong_any (a : Option Addr) (cap : Nat) (fs : List Src) (w : World) (hm : Mx w) (hF : FAt w a fs) (hz : ∀ x ∈ fs, x.1.size ≤ maxLen ∧ x.2.size ≤ maxLen) (hn : fs.length ≤ maxLen) :
    Calls Tryd.prog 9 #[.slice a fs.length cap] w fun e w' => e = .returned (.agg #[.int .i64 (wrongF fs).1, .int .i64 (wrongF fs).2, .int .i64 0]) ∧ Below w.heap.size w w' := by
  unfold maxLen at hn
  by_cases h8 : 8 < fs.length
  · have hw : wrongF fs = (5, -1) := by simp [wrongF, h8]
    rw [hw]
    clear hw
    go_enter Tryd.func9, Tryd.ntmps9
    go_wp2
    exact bodyPost_ret (v := .agg #[.int .i64 5, .int .i64 (-1), .int .i64 0]) (by simp [results, Tryd.results9, go_sem]) rfl ⟨rfl, (Below.refl _ _).alloc (Nat.le_refl _) _⟩
  · have hw : wrongF fs = wrongFrom none 0 fs := by simp [wrongF, h8]
    rw [hw]
    clear hw
    have hd : decide (8 < (fs.length : Int)) = false := by simp; omega
    go_enter Tryd.func9, Tryd.ntmps9
    go_wp2
    go_loopw [3, 4, 11] (fun _ _ i wr => ∃ k : Nat, k ≤ fs.length ∧ i = .int .i64 k ∧ Hid (Below w.heap.size w wr ∧ wr.heap[w.heap.size]? = some (.cells #[.int .i64 0, .int .i64 0, .int .i64 0] 28 (0, 0)) ∧ wrongFrom none 0 fs = wrongFrom (prevOf fs k) k (fs.drop k))) (fun _ _ i _ => fs.length - (intOf i).toNat)
    case atStart => exact ⟨0, Nat.zero_le _, rfl, (Below.refl _ _).alloc (Nat.le_refl _) _, heap_alloc_new _ _, by simp [prevOf]⟩
    case round =>
      obtain ⟨k, hk, rfl, H⟩ := hrel
      obtain ⟨hB, hR, hW⟩ := H.out
      have HW := hid hW
      have HB := hid hB
      have HR := hid hR
      have hlz : w.heap.size < wr.heap.size := (Array.getElem?_eq_some_iff.1 hR).1
      obtain ⟨⟨hr0, hr1, hr2⟩, hrf⟩ := cells3 hR
      clear H hW hB hR
      by_cases hlt : k < fs.length
      · rcases hF with hF | ⟨b, off, rfl, hb, hc⟩
        · simp [hF] at hlt
        have hgx : fs[k]? = some fs[k] := List.getElem?_eq_getElem hlt
        obtain ⟨hc0, hc1⟩ := hc k fs[k] hgx
        have hzx := hz fs[k] (List.getElem_mem hlt)
        have HX := hid hgx
        have HD : Hid (fs.drop k = fs[k] :: fs.drop (k + 1)) := (List.drop_eq_getElem_cons hlt)
        rw [← HB.out.cell (p := ⟨b, _, none⟩) hb] at hc0 hc1
        generalize fs[k] = x at hc0 hc1 hzx HX HD
        obtain ⟨px, tx⟩ := x
        dsimp only at hc0 hc1 hzx
        obtain ⟨hzp, hzt⟩ := hzx
        unfold maxLen at hzt
        have hmx := (hm.below HB.out)
        obtain ⟨m, hmx⟩ := hmx
        have hcl := Clean_any px (wr.alloc (.cells #[.string px, .string tx] 33)) m (by rw [← hmx]; exact (((Below.refl _ wr).alloc (Nat.le_refl _) _).cell (World.block_lt_of_cell? _ _ hmx))) hzp
        clear hgx hmx hm hzp
        have HC := hid hc
        clear hc
        cases hcb : cleanB px with
        | false =>
          have HF : Hid (wrongFrom none 0 fs = (7, (k : Int))) := by show _ = _; rw [HW.out, HD.out]; simp [wrongFrom, hcb]
          rw [hcb] at hcl
          clear hcb HW HD HC
          clear hr0 hr1 hr2 hrf
          go_wp2_with fail
          refine hcl.mono ?_
          rintro e w1 ⟨rfl, hb1⟩
          obtain ⟨hB1, hs0, hs1⟩ := after_box hb1
          have HR1 := hid ((hB1.block _ hlz).trans HR.out)
          obtain ⟨⟨hr0, hr1, hr2⟩, hrf⟩ := cells3 HR1.out
          have HB1 := hid (HB.out.trans (hB1.mono (by omega)))
          clear hb1 hB1 hc0 hc1 HR HB hcl HX
          go_wp2
          exact Wrong_end HR1.out _ rfl HB1.out (Nat.le_refl _) (by rw [HF.out])
        | true =>
          rw [hcb] at hcl
          have HCb := hid hcb
          clear hcb hr0 hr1 hr2 hrf
          go_wp2_with fail
          refine hcl.mono ?_
          rintro e w1 ⟨rfl, hb1⟩
          obtain ⟨hB1, hs0, hs1⟩ := after_box hb1
          have HR1 := hid ((hB1.block _ hlz).trans HR.out)
          obtain ⟨⟨hr0, hr1, hr2⟩, hrf⟩ := cells3 HR1.out
          have HB1 := hid (HB.out.trans (hB1.mono (by omega)))
          have hlz1 : w.heap.size < w1.heap.size := Nat.lt_of_lt_of_le hlz hB1.size
          clear hb1 hB1 hc0 hc1 HR HB hcl
          by_cases ht : 3000 < tx.size
          · have HF : Hid (wrongFrom none 0 fs = (4, (k : Int))) := by show _ = _; rw [HW.out, HD.out]; simp [wrongFrom, HCb.out, ht]
            clear HW HD HC HX
            go_wp2
            exact Wrong_end HR1.out _ rfl HB1.out (Nat.le_refl _) (by rw [HF.out])
          · have htd : decide (3000 < (tx.size : Int)) = false := by simp; omega
            by_cases hk0 : k = 0
            · subst hk0
              have HN : Hid (wrongFrom none 0 fs = wrongFrom (prevOf fs 1) 1 (fs.drop 1)) := by
                show _ = _; rw [HW.out, HD.out, prevOf_succ fs 0 _ HX.out]; simp [wrongFrom, HCb.out, ht, prevOf]
              clear HW HD HX HC
              go_wp2
              go_quiet (fail)
              go_wp2
              go_roundw
              case rel => exact ⟨1, by omega, by go_num, below_drewN HB1.out _, HR1.out, HN.out⟩
              case measure => simp [intOf]; omega
            · obtain ⟨q, rfl⟩ : ∃ q, k = q + 1 := ⟨k - 1, by omega⟩
              have hq : fs[q]? = some fs[q] := List.getElem?_eq_getElem (by omega)
              have hcp := (HC.out q fs[q] hq).1
              rw [← HB1.out.cell (p := ⟨b, _, none⟩) hb] at hcp
              have HP : Hid (prevOf fs (q + 1) = some fs[q].1) := prevOf_succ fs q _ hq
              generalize fs[q].1 = pp at hcp HP
              clear hq HC hk0
              cases hbl : Op.bytesLess pp.toList px.toList with
              | true =>
                have HN : Hid (wrongFrom none 0 fs = wrongFrom (prevOf fs (q + 1 + 1)) (q + 1 + 1) (fs.drop (q + 1 + 1))) := by
                  show _ = _; rw [HW.out, HD.out, prevOf_succ fs (q + 1) _ HX.out, HP.out]; simp [wrongFrom, HCb.out, ht, hbl]
                clear HW HD HX HP
                go_wp2
                go_quiet (fail)
                go_wp2
                go_roundw
                case rel => exact ⟨q + 1 + 1, by omega, by go_num, below_drewN HB1.out _, HR1.out, HN.out⟩
                case measure => simp [intOf]; omega
              | false =>
                have HF : Hid (wrongFrom none 0 fs = (2, ((q + 1 : Nat) : Int))) := by
                  show _ = _; rw [HW.out, HD.out, HP.out]; simp [wrongFrom, HCb.out, ht, hbl]
                clear HW HD HX HP
                go_wp2
                go_quiet (fail)
                go_wp2
                refine Wrong_end (wr := w1.drewN nq) HR1.out _ rfl (below_drewN HB1.out _) (Nat.le_refl _) (by rw [HF.out]; simp)
      · have hfin : wrongFrom none 0 fs = (0, -1) := by rw [HW.out, List.drop_eq_nil_of_le (by omega)]; rfl
        have HF := hid hfin
        clear hfin
        go_wp2
        exact Wrong_end HR.out _ rfl HB.out (Nat.le_refl _) (by rw [HF.out])

end Go.Proofs.YthklodlhbafehaaDoor
