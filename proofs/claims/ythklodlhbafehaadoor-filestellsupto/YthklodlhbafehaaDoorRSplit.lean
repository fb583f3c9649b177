/- Walk of the document's own Split: a call returns the pieces between slashes, in a row of its own. -/
import Derived.Test.YthklodlhbafehaaDoorPcs
import Derived.Test.YthklodlhbafehaaDoorMisfit
import Derived.Test.YthklodlhbafehaaDoorBeside
namespace Go.Proofs.YthklodlhbafehaaDoor
open Go.RowKit Go.Shelf

def strs (ps : List (List UInt8)) : List Value := ps.map fun p => .string (toB p)
theorem strs_length (ps : List (List UInt8)) : (strs ps).length = ps.length := by simp [strs]
theorem info_string : (Tryd.prog.info? 9).map (fun i => (i.zero, i.size, i.bytes)) = some (some (.string ByteArray.empty), 1, 16) := by kernel_rfl

/-- The last of a row that a call owns. -/
theorem row_last {w : World} {base : Nat} {e : TypeId} {v : Value} {xs : List Value} {u : Value} {n : Nat} (hn : n = xs.length + 1) (h : w.ownsRow base e 1 v n (xs ++ [u])) :
    ∃ g cap, v = .slice (some ⟨g, 0, none⟩) (xs.length + 1) cap ∧ base ≤ g ∧ g < w.heap.size ∧ w.cell? ⟨g, xs.length, none⟩ = some u ∧ w.frozen? ⟨g, xs.length, none⟩ = false ∧ xs.length + 1 ≤ maxLen ∧
      ∀ u', (w.setCell ⟨g, xs.length, none⟩ u').ownsRow base e 1 v n (xs ++ [u']) := by
  subst hn
  rcases h.2 with ⟨_, h0⟩ | ⟨g, cap, cur, rfl, hb, hg, hn, hc, hs, ht⟩
  · omega
  · have hlt : xs.length < cur.size := by omega
    refine ⟨g, cap, rfl, hb, (Array.getElem?_eq_some_iff.1 hg).1, ?_, by simp [World.frozen?, hg], by omega, fun u' => ⟨by simp, .inr ⟨g, cap, cur.setIfInBounds xs.length u', rfl, hb, ?_, hn, hc, by simpa using hs, ?_⟩⟩⟩
    · rw [Go.Joins.cell_of_block hg]
      have h1 : (cur.toList.take ((xs.length + 1) * 1))[xs.length]? = some u := by rw [ht]; simp
      rw [List.getElem?_take_of_lt (by omega), Array.getElem?_toList] at h1
      exact h1
    · have := Go.Joins.block_setCell (i := xs.length) hg u'; simpa using this
    · rw [Array.toList_setIfInBounds, List.take_set, ht]
      simp

theorem row_new (w : World) (u : Value) (T : TypeId) : ∀ j x, [u][j]? = some x → (w.alloc (.cells #[u] T)).cell? ((⟨w.heap.size, 0, none⟩ : Addr).add j) = some x := by
  intro j x hx
  rw [Addr.add_lit, Nat.zero_add, World.cell?_alloc_mark]
  match j, hx with
  | 0, hx => simpa using hx
  | j + 1, hx => simp at hx

theorem toB_snoc (x : List UInt8) (s : ByteArray) (k : Nat) (h : k < s.size) : toB (x ++ [s[k]]) = toB x ++ s.extract k (k + 1) := by
  rw [← toB_data (toB x ++ s.extract k (k + 1))]
  congr 1
  simp only [ByteArray.data_append, Array.toList_append, data_toB, ByteArray.data_extract, Array.toList_extract, List.extract]
  congr 1
  rw [show k + 1 - k = 1 by omega, List.drop_eq_getElem_cons (by simpa using h)]
  rfl

theorem row_slice1 {w : World} {base : Nat} {e : TypeId} {size : Nat} {v : Value} {n : Nat} {xs : List Value} (h : w.ownsRow base e size v n xs) : ∃ a m c, v = .slice a m c := by
  rcases h.2 with ⟨rfl, _⟩ | ⟨g, cap, cur, rfl, _⟩
  · exact ⟨_, _, _, rfl⟩
  · exact ⟨_, _, _, rfl⟩

theorem byte_eq {c : UInt8} (h : ((c.toNat : Nat) : Int) = 47) : c = 47 := by
  have h1 : c.toNat = 47 := by omega
  exact UInt8.toNat_inj.1 h1

/-- What holds at a round's head. -/
structure SplitAt (l : List UInt8) (k : Nat) (v : Value) (w wr : World) : Prop where
  old : Below w.heap.size w wr
  own : wr.ownsRow w.heap.size 9 1 v (pcsL (l.take k)).length (strs (pcsL (l.take k)))

theorem pcsL_len (l : List UInt8) : ∀ p ∈ pcsL l, p.length ≤ l.length := by
  induction l with
  | nil => intro p hp; simp [pcsL] at hp; subst hp; simp
  | cons c r ih =>
    intro p hp
    rw [pcsL] at hp
    by_cases h : c = 47
    · rw [if_pos h] at hp
      rcases List.mem_cons.1 hp with rfl | hp
      · simp
      · have := ih p hp; simp; omega
    · rw [if_neg h] at hp
      cases hq : pcsL r with
      | nil => exact absurd hq (pcsL_ne r)
      | cons a b =>
        rw [hq] at hp
        dsimp only at hp
        rcases List.mem_cons.1 hp with rfl | hp
        · have := ih a (by rw [hq]; simp); simp; omega
        · have := ih p (by rw [hq]; simp [hp]); simp; omega
theorem pcsL_length (l : List UInt8) : (pcsL l).length ≤ l.length + 1 := by
  induction l with
  | nil => simp [pcsL]
  | cons c r ih =>
    rw [pcsL]
    split
    · simp; omega
    · split
      · rename_i p q hq; rw [hq] at ih; simp at ih ⊢; omega
      · simp

set_option maxRecDepth 100000 in
set_option maxHeartbeats 1000000 in
theorem rsplit_any (s : ByteArray) (w : World) (hs : s.size ≤ 1073741824) :
    Calls Tryd.prog 23 #[.string s] w fun e w' => ∃ v, e = .returned v ∧ w'.ownsRow w.heap.size 9 1 v (pcsL s.data.toList).length (strs (pcsL s.data.toList)) ∧ Below w.heap.size w w' := by
  obtain ⟨i0, hi, hz0, hz1, hz2⟩ := info_parts info_string
  have hS0 : SplitAt s.data.toList 0 (.slice (some ⟨w.heap.size, 0, none⟩) 1 1) w (w.alloc (.cells #[.string { data := #[] }] 9)) :=
    ⟨(Below.refl _ w).alloc (Nat.le_refl _) _, ⟨rfl, .inr ⟨w.heap.size, 1, #[.string { data := #[] }], rfl, Nat.le_refl _, World.alloc_heap_new w _, Nat.le_refl _, by unfold maxLen; omega, rfl, rfl⟩⟩⟩
  have HS0 := hid hS0
  clear hS0
  go_enter Tryd.func23, Tryd.ntmps23
  go_wp2_with fail
  go_loopw [3, 4, 8] (fun v _ i wr => ∃ k : Nat, k ≤ s.size ∧ i = .int .i64 k ∧ Hid (SplitAt s.data.toList k v w wr)) (fun _ _ i _ => s.size - (intOf i).toNat)
  case atStart => exact ⟨0, Nat.zero_le _, rfl, HS0.out⟩
  case round =>
    clear HS0
    obtain ⟨k, hk, rfl, HR⟩ := hrel
    by_cases hlt : k < s.size
    · have hsn := take_snoc s k hlt
      have hTB := fun x => toB_snoc x s k hlt
      have hpl := pcsL_length (s.data.toList.take k)
      have hpl' : (pcsL (s.data.toList.take k)).length ≤ 1073741825 := by rw [List.length_take] at hpl; omega
      have hown := HR.out.own
      by_cases hc : s[k] = 47
      · have hci : ((s[k].toNat : Nat) : Int) = 47 := by rw [hc]; rfl
        have HN : Hid (pcsL (s.data.toList.take (k + 1)) = pcsL (s.data.toList.take k) ++ [[]]) := by show _ = _; rw [hsn, hc, pcsL_slash]
        clear hsn hTB hc
        go_wp2_with (at_builtin; refine wpList_append_own _ rfl _ _ 45 rfl w.heap.size 9 i0 _ 1 16 Tryd.underlying45 hi hz0 hz1 hz2 rfl (by decide) _ _ _ rfl (hown.alloc _) ⟨wr.heap.size, 0, none⟩ 1 1 [.string { data := #[] }] rfl rfl (row_new wr _ _) (by simp [Value.oneCell']) (by unfold maxLen; omega) (by omega) (by have := HR.out.old.size; simp; omega) ?_)
        intro v' w2 hown2 hg2 _
        have HR2 : Hid (SplitAt s.data.toList (k + 1) v' w w2) := by
          refine ⟨(HR.out.old.alloc HR.out.old.size _).grown hg2 (by have := HR.out.old.size; simp; omega) (fun j e => (hown.lt j e).1), ?_⟩
          have e1 : strs (pcsL (s.data.toList.take k) ++ [[]]) = strs (pcsL (s.data.toList.take k)) ++ [.string { data := #[] }] := by simp [strs, toB]
          rw [HN.out, e1, List.length_append]
          exact hown2
        obtain ⟨av, nv, cv, rfl⟩ := row_slice1 hown2
        clear hown2 hg2 HR HN hown
        go_wp2
        go_roundw
        case rel => exact ⟨k + 1, by omega, by go_num, HR2.out⟩
        case measure => simp [intOf]; omega
      · obtain ⟨ini, x, hix⟩ := pcsL_last (s.data.toList.take k)
        have HN : Hid (pcsL (s.data.toList.take (k + 1)) = ini ++ [x ++ [s[k]]]) := by show _ = _; rw [hsn]; exact pcsL_other _ _ hc ini x hix
        have hcn : ((s[k].toNat : Nat) : Int) ≠ 47 := fun e => hc (byte_eq e)
        have hci : (((s[k].toNat : Nat) : Int) == 47) = false := by simpa using hcn
        have e0 : strs (ini ++ [x]) = strs ini ++ [.string (toB x)] := by simp [strs]
        rw [hix, e0] at hown
        obtain ⟨g, cv, rfl, hbg, hgl, hcell, hfr, hmx, hset⟩ := row_last (by simp [strs]) hown
        rw [strs_length] at *
        rw [hix, List.length_append] at hpl'
        have hpl2 : ini.length + 1 ≤ 1073741825 := hpl'
        generalize hn : ini.length + 1 = n at *
        have hnl : ini.length < n := by omega
        have hn1 : (n : Int) - 1 = (ini.length : Int) := by omega
        have hset2 := hset (.string (toB x ++ s.extract k (k + 1)))
        have HTB : Hid (toB (x ++ [s[k]]) = toB x ++ s.extract k (k + 1)) := hTB x
        have hw1 : IntKind.i64.wrap (ini.length : Int) = (ini.length : Int) := wrap_small _ (by omega)
        obtain ⟨m, hm⟩ : ∃ m, m = k + 1 := ⟨_, rfl⟩
        have hw2 : IntKind.i64.wrap ((k : Int) + 1) = (m : Int) := by have := wrap_small (k + 1) (by omega); rw [hm]; rw [Int.natCast_add] at this ⊢; exact this
        have hkm : k ≤ m := by omega
        have hms : m ≤ s.size := by omega
        rw [← hm] at HTB hset2
        have Hm := hid hm
        have Hn := hid hn
        have hxl : x.length ≤ (s.data.toList.take k).length := pcsL_len _ x (by rw [hix]; simp)
        have hcat : ∀ W : World, (Op.stringOp .add (toB x) (s.extract k m)).run Tryd.prog W = .ok (.string (toB x ++ s.extract k m)) W := fun W =>
          run_string_add_sum W _ _ (by rw [List.length_take] at hxl; rw [size_toB, ByteArray.size_extract]; omega)
        clear hsn hc hset hown hpl hTB hn hm hxl
        go_wp2_with fail
        refine region_tail 17 (by kernel_rfl) (by kernel_rfl) ?_
        simp only [List.take_succ_cons, List.take_zero, List.drop_succ_cons, List.drop_zero]
        repeat still_step
        refine wpStill_nil ?_
        go_wp2_with fail
        have HR2 : Hid (SplitAt s.data.toList (k + 1) (.slice (some ⟨g, 0, none⟩) n cv) w (wr.drew.setCell ⟨g, ini.length, none⟩ (.string (toB x ++ s.extract k m)))) := by
          refine ⟨HR.out.old.drew.setCell (p := ⟨g, ini.length, none⟩) hbg _, ?_⟩
          have e1 : strs (ini ++ [x ++ [s[k]]]) = strs ini ++ [.string (toB (x ++ [s[k]]))] := by simp [strs]
          rw [HN.out, e1, HTB.out, List.length_append]
          have := hset2.drew
          rw [show (ini ++ [x]).length = n by rw [List.length_append]; exact Hn.out] at this
          rw [show ini.length + [x ++ [s[k]]].length = n from Hn.out]
          exact this
        have hmk := Hm.out
        go_roundw
        case rel => exact ⟨k + 1, by omega, by go_num, HR2.out⟩
        case measure => simp [intOf]; omega
    · have hke : k = s.size := by omega
      have hown := HR.out.own
      rw [hke, List.take_of_length_le (by simp)] at hown
      obtain ⟨av, nv, cv, rfl⟩ := row_slice1 hown
      have HO := hid hown
      clear hown
      go_wp2
      go_ret
      exact ⟨_, rfl, HO.out, HR.out.old⟩

end Go.Proofs.YthklodlhbafehaaDoor
