/- Walk of inOrder: a call returns a copy of edits, in the order of file, from, to, and leaves all that lay in memory as it was. -/
import Derived.Test.YthklodlhbafehaaDoorOrder
import Derived.Test.YthklodlhbafehaaDoorShelfB
namespace Go.Proofs.YthklodlhbafehaaDoor
open Go.RowKit Go.Shelf

/-- An address as slices that a call made have it. -/
def Std (a : Option Addr) : Prop := a = none ∨ ∃ b off, a = some ⟨b, off, none⟩

/-- The cells of a slice of edits at address a. -/
def EAt (w : World) (a : Option Addr) (es : List Ed) : Prop :=
  es = [] ∨ ∃ b off, a = some ⟨b, off, none⟩ ∧ b < w.heap.size ∧ ∀ j x, es[j]? = some x → ∀ i v, (encE x)[i]? = some v → w.cell? ⟨b, off + j * 4 + i, none⟩ = some v

theorem EAt.below {w w' : World} {a : Option Addr} {es : List Ed} (h : EAt w a es) (hb : Below w.heap.size w w') : EAt w' a es := by
  rcases h with rfl | ⟨b, off, rfl, hlt, hc⟩
  · exact .inl rfl
  · exact .inr ⟨b, off, rfl, Nat.lt_of_lt_of_le hlt hb.size, fun j x hx i v hv => (hb.cell (p := ⟨b, _, none⟩) hlt).trans (hc j x hx i v hv)⟩

theorem flat_get (es : List Ed) (t : Nat) (h : t < es.length * 4) : ∃ x, es[t / 4]? = some x ∧ (encE x)[t % 4]? = some ((Sort.flatK encE 4 es.toArray)[t]!) := by
  have hj : t / 4 < es.length := by omega
  refine ⟨es[t / 4], List.getElem?_eq_getElem hj, ?_⟩
  rw [Sort.get_flatK _ _ _ _ (by simpa using h)]
  have e1 : es.toArray[t / 4]! = es[t / 4] := by simp [hj]
  rw [e1]
  have hl : (encE es[t / 4]).length = 4 := rfl
  have hm : t % 4 < (encE es[t / 4]).length := by omega
  rw [List.getElem?_eq_getElem hm]
  rw [getElem!_pos (encE es[t / 4]) (t % 4) hm]

theorem enc_one (x : Ed) : ∀ v ∈ encE x, v.oneCell' = true := by
  intro v hv
  simp [encE] at hv
  rcases hv with rfl | rfl | rfl | rfl <;> rfl

theorem flat_list (es : List Ed) (t : Nat) (u : Value) (h : (Sort.flatK encE 4 es.toArray).toList[t]? = some u) : t < es.length * 4 ∧ u = (Sort.flatK encE 4 es.toArray)[t]! := by
  have hlt := (List.getElem?_eq_some_iff.1 h).1
  have hlt' : t < es.length * 4 := by simpa using hlt
  refine ⟨hlt', ?_⟩
  rw [Array.getElem?_toList] at h
  rw [Array.getElem!_eq_getD, Array.getD_eq_getD_getElem?, h]; rfl

/-- Edits in order, as the library's sort lays them. -/
def sortE (es : List Ed) : List Ed := if es = [] then [] else (Sort.pdq (ltOf cmpE) es.toArray 0 es.toArray.size (Lib.bitLen es.toArray.size) true true).toList

theorem pdq_facts (es : List Ed) : Sort.PermIn 0 es.toArray.size es.toArray (Sort.pdq (ltOf cmpE) es.toArray 0 es.toArray.size (Lib.bitLen es.toArray.size) true true) ∧ Sort.SortedIn (ltOf cmpE) 0 es.toArray.size (Sort.pdq (ltOf cmpE) es.toArray 0 es.toArray.size (Lib.bitLen es.toArray.size) true true) :=
  Sort.pdq_sorts (ltOf cmpE) swoE es.toArray 0 es.toArray.size (Lib.bitLen es.toArray.size) true true (Nat.zero_le _) (Nat.le_refl _) (Or.inl rfl)

theorem sortE_perm (es : List Ed) : (sortE es).Perm es := by
  unfold sortE
  split
  · rename_i h; subst h; exact List.Perm.refl _
  · have h := (pdq_facts es).1
    have h2 := h.2.2
    rw [Array.extract_eq_self_of_le (by rw [h.1]; exact Nat.le_refl _)] at h2
    simpa using h2
theorem sortE_length (es : List Ed) : (sortE es).length = es.length := (sortE_perm es).length_eq

theorem info_edit : (Tryd.prog.info? 41).map (fun i => (i.zero, i.size, i.bytes)) = some (some (.agg #[.int .i64 0, .int .i64 0, .int .i64 0, .string ByteArray.empty]), 4, 40) := by kernel_rfl

theorem below_sorted {w : World} {B blk n : Nat} (d : Array Ed) (os : Array Obj) (hb : B ≤ blk) (hB : B ≤ w.heap.size) : Below B w (sortWorldK encE 4 w blk 0 n d os) := by
  refine ⟨rfl, rfl, rfl, size_sortWorldK_c _ _ _ _ _ _ _ _, fun k hk => ?_⟩
  unfold sortWorldK
  rw [Sort.heap_grow_old _ _ (by simp [Sort.putRowK, Sort.putRow, Sort.mapBlock, Sort.ahead]; omega)]
  have : blk ≠ k := by omega
  simp [Sort.putRowK, Sort.putRow, Sort.mapBlock, Sort.ahead, Array.getElem?_modify, this]

theorem EAt.of_holds {w : World} {g : Nat} {es : List Ed} (hg : g < w.heap.size) (h : Sort.HoldsK encE 4 w g 0 es.toArray) : EAt w (some ⟨g, 0, none⟩) es := by
  refine .inr ⟨g, 0, rfl, hg, fun j x hx i v hv => ?_⟩
  have hj : j < es.length := (List.getElem?_eq_some_iff.1 hx).1
  have hi : i < 4 := by have := (List.getElem?_eq_some_iff.1 hv).1; simpa [encE] using this
  have ht : j * 4 + i < es.length * 4 := by omega
  obtain ⟨y, hy, hv'⟩ := flat_get es (j * 4 + i) ht
  have e1 : (j * 4 + i) / 4 = j := by omega
  have e2 : (j * 4 + i) % 4 = i := by omega
  rw [e1, hx] at hy
  cases hy
  rw [e2, hv] at hv'
  have := (h (j * 4 + i) (by simpa using ht)).1
  rw [Nat.zero_add] at this ⊢
  rw [this, hv']
  rfl

set_option maxHeartbeats 1000000 in
theorem clone_any (a : Option Addr) (cap : Nat) (es : List Ed) (w : World) (hE : EAt w a es) (hn : es.length * 40 ≤ 140737488355328) :
    Calls Tryd.prog 43 #[.slice a es.length cap] w fun e w' => ∃ a' c', e = .returned (.slice a' es.length c') ∧ Below w.heap.size w w' ∧ Std a' ∧ es.length ≤ c' ∧ c' ≤ maxLen ∧
      (es = [] ∨ ∃ g, a' = some ⟨g, 0, none⟩ ∧ w.heap.size ≤ g ∧ g < w'.heap.size ∧ Sort.HoldsK encE 4 w' g 0 es.toArray) := by
  obtain ⟨i0, hi, hz0, hz1, hz2⟩ := info_parts info_edit
  cases a with
  | none =>
    rcases hE with rfl | ⟨b, off, h, _⟩
    · refine (AnyE.slices_Clone_nil Tryd.layClone 0 cap w).mono ?_
      rintro e w' ⟨rfl, rfl⟩
      exact ⟨none, 0, rfl, Below.refl _ _, .inl rfl, Nat.zero_le _, Nat.zero_le _, .inl rfl⟩
    · cases h
  | some ad =>
    rcases hE with rfl | ⟨b, off, h, hb, hc⟩
    · have q24 : ∀ (w : World) (a : Option Addr) (n c n' c' : Nat), (binOp .eql 24 (.slice a n c) (.slice none n' c')).run Tryd.prog w = .ok (.bool a.isNone) w := fun w a n c n' c' => Lib.run_eql_slice_nil w _ _ a n c n' c' Tryd.underlying24
      go_enter Tryd.func43, Tryd.ntmps43
      go_wp2_with (at_builtin; refine wpList_append_own _ rfl _ _ 24 rfl w.heap.size 41 i0 _ 4 40 Tryd.underlying24 hi hz0 hz1 hz2 rfl (by decide) _ _ _ rfl (World.ownsRow_made w #[] 0 (Nat.le_refl _) (Nat.zero_le _) (by simp)) ad 0 cap [] rfl ?qc1 ?qc2 ?qc3 ?qc4 ?qc5 ?qc6 ?_)
      case qc1 => rfl
      case qc2 => intro j u hj; simp at hj
      case qc3 => intro u hu; simp at hu
      case qc4 => unfold maxLen; omega
      case qc5 => omega
      case qc6 => simp
      intro v' w1 hown hgrow hnil
      go_wp2
      go_ret
      have hsh : ∃ a' c', v' = .slice a' 0 c' ∧ Std a' ∧ c' ≤ maxLen := by
        rcases hown.2 with ⟨rfl, _⟩ | ⟨g, cap', cur, rfl, _, _, _, hcm, _⟩
        · exact ⟨_, _, rfl, .inl rfl, Nat.zero_le _⟩
        · exact ⟨_, _, rfl, .inr ⟨_, _, rfl⟩, hcm⟩
      obtain ⟨a', c', rfl, hst, hcm⟩ := hsh
      refine ⟨a', c', rfl, ?_, hst, Nat.zero_le _, hcm, by simp⟩
      exact (((Below.refl _ w).alloc (Nat.le_refl _) _).grown hgrow (by simp) (by intro k hk; simp [Value.ownBlock] at hk; omega))
    · cases h
      have hcon := AnyE.slices_Clone Tryd.layClone i0 _ 4 40 hi hz0 hz1 hz2 rfl (by decide) Tryd.sizeOf41 b off es.length cap (Sort.flatK encE 4 es.toArray).toList w (by simp) (by unfold maxLen; omega) (by omega)
        (fun t u hu => by
          obtain ⟨ht, rfl⟩ := flat_list es t u hu
          obtain ⟨x, hx, hv⟩ := flat_get es t ht
          have := hc (t / 4) x hx (t % 4) _ hv
          rwa [show off + t / 4 * 4 + t % 4 = off + t by omega] at this)
        (fun u hu => by
          obtain ⟨t, ht, rfl⟩ := List.getElem_of_mem hu
          obtain ⟨ht', he⟩ := flat_list es t _ (List.getElem?_eq_getElem ht)
          obtain ⟨x, hx, hv⟩ := flat_get es t ht'
          rw [he]
          exact enc_one x _ (List.mem_of_getElem? hv))
      refine hcon.mono ?_
      rintro e w' ⟨v', rfl, hown, hnn, hbel⟩
      rcases hown.2 with ⟨rfl, _⟩ | ⟨g, cap', cur, rfl, hbg, hg, hnc, hcm, hcs, htake⟩
      · exact absurd rfl hnn
      · refine ⟨_, _, rfl, hbel, .inr ⟨_, _, rfl⟩, hnc, hcm, .inr ⟨g, rfl, hbg, (Array.getElem?_eq_some_iff.1 hg).1, fun t ht => ?_⟩⟩
        have ht' : t < es.length * 4 := by simpa using ht
        refine ⟨?_, by simp [World.frozen?, hg]⟩
        have h1 : (cur.toList.take (es.length * 4))[t]? = (Sort.flatK encE 4 es.toArray).toList[t]? := by rw [htake]
        rw [List.getElem?_take_of_lt ht', Array.getElem?_toList, Array.getElem?_toList] at h1
        rw [Nat.zero_add, Go.Joins.cell_of_block hg, h1, Array.getElem?_eq_getElem ht, getElem!_pos _ t ht]
        rfl

set_option maxHeartbeats 1000000 in
theorem inOrder_any (a : Option Addr) (cap : Nat) (es : List Ed) (w : World) (hE : EAt w a es) (hn : es.length * 40 ≤ 140737488355328) :
    Calls Tryd.prog 33 #[.slice a es.length cap] w fun e w' => ∃ a' c', e = .returned (.slice a' es.length c') ∧ Below w.heap.size w w' ∧ Std a' ∧ es.length ≤ c' ∧ c' ≤ maxLen ∧ EAt w' a' (sortE es) := by
  have hcl := clone_any a cap es w hE hn
  have eg : ∀ args w, (callFunc 45 args).run Tryd.prog w = .ok (.enter 45 args) w := enters_of Tryd.func45 (by kernel_rfl) rfl
  have hsort : ∀ a' c' w1, Below w.heap.size w w1 → (es = [] ∨ ∃ g, a' = some ⟨g, 0, none⟩ ∧ w.heap.size ≤ g ∧ g < w1.heap.size ∧ Sort.HoldsK encE 4 w1 g 0 es.toArray) →
      Calls Tryd.prog 44 #[.slice a' es.length c', .func (.func 45) #[] #[]] w1 fun e w2 => e = .returned (.tuple #[]) ∧ Below w.heap.size w w2 ∧ EAt w2 a' (sortE es) := by
    intro a' c' w1 hb1 h
    rcases h with rfl | ⟨g, rfl, hg1, hg2, hH⟩
    · refine (AnyF.slices_SortFunc_none { Tryd.laySort with } a' c' _ w1).mono ?_
      rintro e w2 ⟨rfl, rfl⟩
      exact ⟨rfl, hb1, .inl rfl⟩
    · have hcon := AnyQ.slices_SortFunc_eq Tryd.laySort 4 Tryd.isAgg41 Tryd.sizeOf41 encE (fun _ => rfl) enc_one cmpE swoE 45 #[] g 0 c' es.toArray w1 eg (cmpLays g 0 es.toArray.size w1) hH hg2 (by simp; omega)
      simp only [List.size_toArray] at hcon
      refine hcon.mono ?_
      rintro e w2 ⟨rfl, n, os, rfl⟩
      refine ⟨rfl, hb1.trans (below_sorted _ os hg1 hb1.size), ?_⟩
      by_cases h0 : es = []
      · exact .inl (by simp [sortE, h0])
      · have hs : (Sort.pdq (ltOf cmpE) es.toArray 0 es.length (Lib.bitLen es.length) true true).size = es.toArray.size := by
          have := (pdq_facts es).1.1; simpa using this
        have := holdsK_sortWorldK_c encE 4 w1 g 0 es.toArray (Sort.pdq (ltOf cmpE) es.toArray 0 es.length (Lib.bitLen es.length) true true) n os hH hg2 hs
        refine EAt.of_holds (Nat.lt_of_lt_of_le hg2 (size_sortWorldK_c _ _ _ _ _ _ _ _)) ?_
        unfold sortE
        rw [if_neg h0]
        simpa using this
  clear hE
  go_enter Tryd.func33, Tryd.ntmps33
  go_wp2_with fail
  refine hcl.mono ?_
  rintro e w1 ⟨a', c', rfl, hb1, hst, hnc, hcm, hh⟩
  go_wp2_with fail
  refine (hsort a' c' w1 hb1 hh).mono ?_
  rintro e w2 ⟨rfl, hb2, hE2⟩
  go_wp2_with fail
  go_ret
  exact ⟨a', c', rfl, hb2, hst, hnc, hcm, hE2⟩

end Go.Proofs.YthklodlhbafehaaDoor
