/- The statement FilesMeant: at every input it returns true. -/
import Derived.Test.YthklodlhbafehaaDoorAlive
namespace Go.Proofs.YthklodlhbafehaaDoor
open Go.RowKit Go.Shelf

theorem idx_from (p : Src → Bool) : ∀ (l : List Src) (i : Nat), (Lib.idxByFrom (fun _ y => p y) default l i = -1 ∨ ∃ j : Nat, Lib.idxByFrom (fun _ y => p y) default l i = ((i + j : Nat) : Int) ∧ j < l.length) ∧
    ∀ k x, l[k]? = some x → p x = true → Lib.idxByFrom (fun _ y => p y) default l i ≤ ((i + k : Nat) : Int)
  | [], i => ⟨.inl rfl, fun k x h => by simp at h⟩
  | y :: r, i => by
    have ih := idx_from p r (i + 1)
    simp only [Lib.idxByFrom]
    by_cases hp : p y = true
    · rw [if_pos hp]
      exact ⟨.inr ⟨0, rfl, by simp⟩, fun k x _ _ => by push_cast; omega⟩
    · rw [if_neg hp]
      refine ⟨?_, fun k x hx hpx => ?_⟩
      · rcases ih.1 with h | ⟨j, h, hj⟩
        · exact .inl h
        · exact .inr ⟨j + 1, by rw [h]; push_cast; omega, by simp; omega⟩
      · cases k with
        | zero => simp at hx; subst hx; exact absurd hpx hp
        | succ k => have := ih.2 k x (by simpa using hx) hpx; push_cast at this ⊢; omega

theorem find_lt (fs : List Src) (path : ByteArray) : -1 ≤ findF fs path ∧ findF fs path < fs.length := by
  have h := (idx_from (isPath path) fs 0).1
  unfold findF Lib.idxBy
  rcases h with h | ⟨j, h, hj⟩
  · rw [h]; omega
  · rw [h]; push_cast; omega
theorem find_own (fs : List Src) (k : Nat) (x : Src) (h : fs[k]? = some x) : findF fs x.1 ≤ k := by
  have := (idx_from (isPath x.1) fs 0).2 k x h (by simp [isPath])
  unfold findF Lib.idxBy
  push_cast at this
  omega
theorem include_lt (fs : List Src) (k : Int) (path : ByteArray) (q : Bool) : includeF fs k path q < fs.length := by
  unfold includeF
  split
  · omega
  · split
    · exact (find_lt _ _).2
    · split
      · exact (find_lt _ _).2
      · exact (find_lt _ _).2
theorem beside_clean (s path : ByteArray) : besideB s path = ⟨#[]⟩ ∨ cleanB (besideB s path) = true := by
  unfold besideB
  split
  · exact .inl rfl
  · split
    · exact .inr (by assumption)
    · exact .inl rfl
theorem beside_size (s path : ByteArray) : (besideB s path).size ≤ 40 := by
  rcases beside_clean s path with h | h
  · rw [h]; decide
  · unfold cleanB at h; simp at h; exact h.1

set_option maxRecDepth 100000 in
set_option maxHeartbeats 1000000 in
theorem Meant_walk (a : Option Addr) (cap : Nat) (fs : List Src) (k : Int) (path : ByteArray) (q : Bool) (w : World) (hm : Mx w) (hF : FAt w a fs) (hn : fs.length ≤ 1048576) (hz : ∀ x ∈ fs, x.1.size ≤ 1048576) (hp : path.size ≤ 1048576) :
    Calls Tryd.prog 6 #[.slice a fs.length cap, .int .i64 k, .string path, .bool q] w fun e w' => e = .returned (.bool true) ∧ Below w.heap.size w w' := by
  have HI := hid (fun W (h : Below w.heap.size w W) => Include_any a cap fs k path q W (hm.below h) (hF.below h) (by unfold maxLen; omega) (fun x hx => by have := hz x hx; omega) (by omega))
  have hin := include_lt fs k path q
  generalize includeF fs k path q = r at HI hin
  have HAl := hid (alive_any w hm)
  go_enter Tryd.func6, Tryd.ntmps6
  go_wp2_with fail
  refine HAl.out.mono ?_
  rintro e w1 ⟨rfl, hb1⟩
  have HB1 := hid hb1
  clear hb1
  go_wp2
  go_loopw [10, 11, 17] (fun _ _ i wr => ∃ j : Nat, j ≤ fs.length ∧ i = .int .i64 j ∧ Hid (Below w.heap.size w wr)) (fun _ _ i _ => fs.length - (intOf i).toNat)
  case atStart => exact ⟨0, Nat.zero_le _, rfl, HB1.out⟩
  case round =>
    obtain ⟨j, hj, rfl, HB⟩ := hrel
    clear HB1
    by_cases hlt : j < fs.length
    · have hgx : fs[j]? = some fs[j] := List.getElem?_eq_getElem hlt
      rcases id hF with h0 | ⟨b, off, rfl, hb, hc⟩
      · rw [h0] at hlt; simp at hlt
      obtain ⟨c0, c1⟩ := hc j fs[j] hgx
      rw [← HB.out.cell (p := ⟨b, _, none⟩) hb] at c0 c1
      have hzx := hz fs[j] (List.getElem_mem hlt)
      generalize fs[j] = x at c0 c1 hzx
      obtain ⟨px, tx⟩ := x
      dsimp only at c0 c1 hzx
      have HB2 := hid (HB.out.alloc HB.out.size (.cells #[.string px, .string tx] 33))
      have hbs := Beside_any px path (wr.alloc (.cells #[.string px, .string tx] 33)) (hm.below HB2.out) (by omega)
      have hcl := beside_clean px path
      have hsz := beside_size px path
      generalize besideB px path = s at hbs hcl hsz
      have HBs := hid hbs
      clear hbs hc hgx
      go_wp2_with fail
      refine HBs.out.mono ?_
      rintro e w2 ⟨rfl, hb2⟩
      have HB3 := hid (HB2.out.trans (hb2.mono HB2.out.size))
      clear hb2 HBs
      rcases hcl with rfl | hcl
      · go_wp2_with fail
        go_roundw
        case rel => exact ⟨j + 1, by omega, by go_num, HB3.out⟩
        case measure => simp [intOf]; omega
      · obtain ⟨m, hmx⟩ := hm.below HB3.out
        have hcc := Clean_any s w2 m hmx (by unfold maxLen; omega)
        rw [hcl] at hcc
        have HCc := hid hcc
        clear hcc hmx hcl
        cases hs0 : s.toList.isEmpty with
        | true =>
          go_wp2_with fail
          go_roundw
          case rel => exact ⟨j + 1, by omega, by go_num, HB3.out⟩
          case measure => simp [intOf]; omega
        | false =>
          go_wp2_with fail
          refine HCc.out.mono ?_
          rintro e w3 ⟨rfl, hb3⟩
          have HB4 := hid (HB3.out.trans (hb3.mono HB3.out.size))
          clear hb3
          go_wp2_with fail
          go_roundw
          case rel => exact ⟨j + 1, by omega, by go_num, HB4.out⟩
          case measure => simp [intOf]; omega
    · go_wp2_with fail
      refine (HI.out wr HB.out).mono ?_
      rintro e w2 ⟨rfl, hb2⟩
      have HB2 := hid (HB.out.trans (hb2.mono HB.out.size))
      clear hb2
      by_cases hr0 : r < 0
      · go_wp2_with fail
        go_ret
        exact ⟨rfl, HB2.out⟩
      · obtain ⟨i, rfl⟩ : ∃ i : Nat, r = i := ⟨r.toNat, by omega⟩
        have hi : i < fs.length := by omega
        have hgx : fs[i]? = some fs[i] := List.getElem?_eq_getElem hi
        rcases id hF with h0 | ⟨b, off, rfl, hb, hc⟩
        · rw [h0] at hi; simp at hi
        obtain ⟨c0, _⟩ := hc i fs[i] hgx
        rw [← HB2.out.cell (p := ⟨b, _, none⟩) hb] at c0
        have hfo := find_own fs i fs[i] hgx
        have hfi := Find_any (some ⟨b, off, none⟩) cap fs fs[i].1 w2 (hF.below HB2.out) (by unfold maxLen; omega)
        generalize findF fs fs[i].1 = fr at hfo hfi
        generalize fs[i].1 = px at c0 hfi
        have HFi := hid hfi
        have hd : decide ((i : Int) < 0) = false := by simp
        clear hfi hc hgx
        go_wp2_with fail
        refine HFi.out.mono ?_
        rintro e w3 ⟨rfl, hb3⟩
        have HB3 := hid (HB2.out.trans (hb3.mono HB2.out.size))
        clear hb3
        go_wp2_with fail
        go_ret
        exact ⟨rfl, HB3.out⟩

end Go.Proofs.YthklodlhbafehaaDoor
