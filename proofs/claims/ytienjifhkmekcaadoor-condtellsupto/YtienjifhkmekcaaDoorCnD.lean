/- Some texts in one. -/
import Derived.Test.YtienjifhkmekcaaDoorCnB
import Derived.Laws.DeepNot64
import Derived.Test.YtienjifhkmekcaaDoorCnC
import Derived.Test.YtienjifhkmekcaaDoorCnA
namespace Go.Proofs.YtienjifhkmekcaaDoor
open Go.RowKit Go.Shelf

theorem boxed_cell (w : World) (R : Nat) (x : Value) (cs : Array Value) (i : Nat) (v : Value) (hv : cs[i]? = some v) : ((w.setCell ⟨R, 4, none⟩ x).alloc (.cells cs 40)).cell? ⟨w.heap.size, i, none⟩ = some v := by
  have h := heap_alloc_new (w.setCell ⟨R, 4, none⟩ x) (.cells cs 40)
  rw [World.size_setCell] at h
  rw [Go.Joins.cell_of_block h]
  exact hv
theorem sign_1 (x : UInt8) : (ByteArray.mk #[x]).toList = [x] := by rw [toList_data]
set_option maxRecDepth 100000 in
set_option maxHeartbeats 2000000 in
theorem atom_deep (R : Nat) (a : Option Addr) (c : Nat) (ts : List Tk) (f g : Int) (k : Nat) (hk : k ≤ ts.length) (hl : ts.length ≤ 3000) (q : Nat) (w : World) (h : CAt w R a c ts 0 f g ((30 : Nat) : Int) (q : Int)) :
    Calls Tryd.prog 49 #[.pointer (some ⟨R, 0, none⟩), .int .i64 (k : Int)] w (AnsOk R a c ts f g ((30 : Nat) : Int) (q : Int) k w (RD numL ts 3 0 0 k 30 (q == 0))) := by
  rw [RD_atom, if_pos rfl]
  have HS := hid (stop_any R a c ts f g ((30 : Nat) : Int) (q : Int) k 10 w h hl)
  obtain ⟨b0, b1, _, _, b4, _⟩ := h.facts
  rw [show ((30 : Nat) : Int) = 30 from rfl] at b4
  clear h
  go_enter Tryd.func49, Tryd.ntmps49
  go_wp2_with fail
  refine HS.out.mono ?_
  rintro e1 w1 ⟨rfl, hk1, hc1⟩
  go_wp2_with fail
  go_ret2
  exact ⟨hk1, 0, k, rfl, by omega, by decide, hc1⟩
set_option maxRecDepth 100000 in
set_option maxHeartbeats 2000000 in
theorem atom_end (R : Nat) (a : Option Addr) (c : Nat) (ts : List Tk) (f g : Int) (k : Nat) (hk : k = ts.length) (hl : ts.length ≤ 3000) (d q : Nat) (hd : d < 30) (w : World) (h : CAt w R a c ts 0 f g (d : Int) (q : Int)) :
    Calls Tryd.prog 49 #[.pointer (some ⟨R, 0, none⟩), .int .i64 (k : Int)] w (AnsOk R a c ts f g (d : Int) (q : Int) k w (RD numL ts 3 0 0 k d (q == 0))) := by
  rw [RD_atom, if_neg (by omega), List.getElem?_eq_none (by omega)]
  have HS := hid (stop_any R a c ts f g (d : Int) (q : Int) k 9 w h hl)
  obtain ⟨b0, b1, _, _, b4, _⟩ := h.facts
  have hdi : ¬ ((30 : Int) ≤ (d : Int)) := by omega
  have hki : (ts.length : Int) ≤ (k : Int) := by omega
  have HKL := hid hk
  clear h hk
  go_enter Tryd.func49, Tryd.ntmps49
  go_wp2_with fail
  refine HS.out.mono ?_
  rintro e1 w1 ⟨rfl, hk1, hc1⟩
  go_wp2_with fail
  go_ret2
  exact ⟨hk1, 0, k, rfl, by have := HKL.out; omega, by decide, hc1⟩
set_option maxRecDepth 100000 in
set_option maxHeartbeats 4000000 in
theorem atom_name (R : Nat) (a : Option Addr) (c : Nat) (ts : List Tk) (f g : Int) (k : Nat) (hl : ts.length ≤ 3000) (t : Tk) (ht : ts[k]? = some t) (hkd : t.kind = 1) (d q : Nat) (hd : d < 30) (w : World) (h : CAt w R a c ts 0 f g (d : Int) (q : Int)) :
    Calls Tryd.prog 49 #[.pointer (some ⟨R, 0, none⟩), .int .i64 (k : Int)] w (AnsOk R a c ts f g (d : Int) (q : Int) k w (RD numL ts 3 0 0 k d (q == 0))) := by
  have hlt := (List.getElem?_eq_some_iff.1 ht).1
  rw [RD_atom, if_neg (by omega), ht]
  dsimp only
  obtain ⟨b0, b1, _, _, b4, _⟩ := h.facts
  obtain ⟨_, _, _, z4, _⟩ := h.warm
  have HC0 := hid h
  have HC1 := hid (h.deep ((d : Int) + 1))
  have HK1 : Hid (Kept (· = R) w (w.setCell ⟨R, 4, none⟩ (.int .i64 ((d : Int) + 1)))) := (Kept.refl (fun j => j = R) w).setCell (a := ⟨R, 4, none⟩) rfl _
  rcases h.toks with h0 | ⟨bb, off, rfl, hbb, hc⟩
  · rw [h0] at hlt; simp at hlt
  have hcx := hc k _ ht
  have hne : bb ≠ R := fun e => by
    have h0 := hcx 10 _ rfl
    rw [e, Go.Joins.cell_of_block h.box] at h0
    simp at h0
  have hdi : ¬ ((30 : Int) ≤ (d : Int)) := by omega
  have hki : ¬ ((ts.length : Int) ≤ (k : Int)) := by omega
  have hkl : (k : Int) < (ts.length : Int) := by omega
  have hk0 : (0 : Int) ≤ (k : Int) := by omega
  have hkp : IntKind.i64.wrap ((k : Int) + 1) = (k : Int) + 1 := by rw [IntKind.wrap_i64]; omega
  have hkw : wrap64 ((k : Int) + 1) = (k : Int) + 1 := by unfold wrap64; omega
  have hd0 : (0 : Int) ≤ (d : Int) := by omega
  have hd1 : IntKind.i64.wrap ((d : Int) + 1) = (d : Int) + 1 := by rw [IntKind.wrap_i64]; omega
  have hdw : wrap64 ((d : Int) + 1) = (d : Int) + 1 := by unfold wrap64; omega
  have HTT := hid ht
  rw [if_pos hkd]
  obtain ⟨tk, tt, tsp, tfi, tf, tl, th, tn⟩ := t
  dsimp only at *
  have c0 := hcx 0 _ rfl
  have c1 := hcx 1 _ rfl
  have c2 := hcx 2 _ rfl
  have c3 := hcx 3 _ rfl
  have c4 := hcx 4 _ rfl
  have c5 := hcx 5 _ rfl
  have c6 := hcx 6 _ rfl
  have c7 := hcx 7 _ rfl
  have c8 := hcx 8 _ rfl
  have c9 := hcx 9 _ rfl
  have c10 := hcx 10 _ rfl
  simp only [Nat.add_zero] at c0
  subst hkd
  have hbA := (Below.refl _ (w.setCell ⟨R, 4, none⟩ (.int .i64 ((d : Int) + 1)))).alloc (Nat.le_refl _) (.cells #[.int .i64 1, .string tt, .bool tsp, .bool tfi, .int .i64 tf, .int .i64 tl, .int .i64 th, .int .i64 tn, .slice none 0 0, .slice none 0 0, .int .i64 0] 40)
  have HC2 := hid (HC1.out.below hbA)
  have HK2 : Hid (Kept (· = R) w ((w.setCell ⟨R, 4, none⟩ (.int .i64 ((d : Int) + 1))).alloc (.cells #[.int .i64 1, .string tt, .bool tsp, .bool tfi, .int .i64 tf, .int .i64 tl, .int .i64 th, .int .i64 tn, .slice none 0 0, .slice none 0 0, .int .i64 0] 40))) := HK1.out.trans (kept_of_below hbA)
  obtain ⟨_, y1, _, _, y4, _⟩ := HC2.out.facts
  obtain ⟨_, _, _, x4, _⟩ := HC2.out.warm
  clear hcx hc h ht hlt hd hl hbA HC1 HK1
  go_enter Tryd.func49, Tryd.ntmps49
  go_wp2_with fail
  go_ret2
  exact ⟨HK2.out.setCell (a := ⟨R, 4, none⟩) rfl _, 0, rfl, ⟨by decide, by decide⟩, fun _ => rfl, HC2.out.deep (d : Int)⟩

theorem num_isI (l : List UInt8) (v : Int) (h : numL l = some v) : IsI v := by
  have key : ∀ b m, optE (parsE b m) = some v → IsI v := by
    intro b m hm
    unfold parsE at hm
    split at hm
    · cases hm
    · rcases hp : parsU b 0 m with n | e
      · rw [hp] at hm
        have := parsU_le b m 0 n (by omega) hp
        cases hm
        unfold IsI
        omega
      · rw [hp] at hm; cases hm
  unfold numL at h
  split at h
  · cases h
  · split at h
    · exact key _ _ h
    · split at h
      · exact key _ _ h
      · exact key _ _ h
theorem char_isI (l : List UInt8) (v : Int) (h : charL l = some v) : IsI v := by
  have key : ∀ c : UInt8, IsI (c.toNat : Int) := fun c => by have := c.toNat_lt; unfold IsI; omega
  have key2 : ∀ c, escL c = some v → IsI v := fun c hc => by
    unfold escL at hc
    repeat' (split at hc)
    all_goals (first | (cases hc; first | exact key _ | (unfold IsI; decide)) | cases hc)
  unfold charL at h
  split at h
  · cases h; exact key _
  · split at h
    · exact key2 _ h
    · cases h
set_option maxRecDepth 100000 in
set_option maxHeartbeats 4000000 in
theorem atom_num (R : Nat) (a : Option Addr) (c : Nat) (ts : List Tk) (f g : Int) (k : Nat) (hl : ts.length ≤ 3000) (t : Tk) (ht : ts[k]? = some t) (hkd : t.kind = 2) (HN : RNumC) (htx : t.text.size ≠ 0 ∧ t.text.size ≤ 3000) (d q : Nat) (hd : d < 30) (w : World) (h : CAt w R a c ts 0 f g (d : Int) (q : Int)) :
    Calls Tryd.prog 49 #[.pointer (some ⟨R, 0, none⟩), .int .i64 (k : Int)] w (AnsOk R a c ts f g (d : Int) (q : Int) k w (RD numL ts 3 0 0 k d (q == 0))) := by
  have hlt := (List.getElem?_eq_some_iff.1 ht).1
  rw [RD_atom, if_neg (by omega), ht]
  dsimp only
  obtain ⟨b0, b1, _, _, b4, _⟩ := h.facts
  obtain ⟨_, _, _, z4, _⟩ := h.warm
  have HC0 := hid h
  have HC1 := hid (h.deep ((d : Int) + 1))
  have HK1 : Hid (Kept (· = R) w (w.setCell ⟨R, 4, none⟩ (.int .i64 ((d : Int) + 1)))) := (Kept.refl (fun j => j = R) w).setCell (a := ⟨R, 4, none⟩) rfl _
  rcases h.toks with h0 | ⟨bb, off, rfl, hbb, hc⟩
  · rw [h0] at hlt; simp at hlt
  have hcx := hc k _ ht
  have hne : bb ≠ R := fun e => by
    have h0 := hcx 10 _ rfl
    rw [e, Go.Joins.cell_of_block h.box] at h0
    simp at h0
  have hdi : ¬ ((30 : Int) ≤ (d : Int)) := by omega
  have hki : ¬ ((ts.length : Int) ≤ (k : Int)) := by omega
  have hkl : (k : Int) < (ts.length : Int) := by omega
  have hk0 : (0 : Int) ≤ (k : Int) := by omega
  have hkp : IntKind.i64.wrap ((k : Int) + 1) = (k : Int) + 1 := by rw [IntKind.wrap_i64]; omega
  have hkw : wrap64 ((k : Int) + 1) = (k : Int) + 1 := by unfold wrap64; omega
  have hd0 : (0 : Int) ≤ (d : Int) := by omega
  have hd1 : IntKind.i64.wrap ((d : Int) + 1) = (d : Int) + 1 := by rw [IntKind.wrap_i64]; omega
  have hdw : wrap64 ((d : Int) + 1) = (d : Int) + 1 := by unfold wrap64; omega
  have HTT := hid ht
  rw [if_neg (by omega), if_pos hkd]
  have hHL := hl
  obtain ⟨tk, tt, tsp, tfi, tf, tl, th, tn⟩ := t
  dsimp only at *
  have c0 := hcx 0 _ rfl
  have c1 := hcx 1 _ rfl
  have c2 := hcx 2 _ rfl
  have c3 := hcx 3 _ rfl
  have c4 := hcx 4 _ rfl
  have c5 := hcx 5 _ rfl
  have c6 := hcx 6 _ rfl
  have c7 := hcx 7 _ rfl
  have c8 := hcx 8 _ rfl
  have c9 := hcx 9 _ rfl
  have c10 := hcx 10 _ rfl
  simp only [Nat.add_zero] at c0
  subst hkd
  have hbA := (Below.refl _ (w.setCell ⟨R, 4, none⟩ (.int .i64 ((d : Int) + 1)))).alloc (Nat.le_refl _) (.cells #[.int .i64 2, .string tt, .bool tsp, .bool tfi, .int .i64 tf, .int .i64 tl, .int .i64 th, .int .i64 tn, .slice none 0 0, .slice none 0 0, .int .i64 0] 40)
  have HC2 := hid (HC1.out.below hbA)
  have HK2 : Hid (Kept (· = R) w ((w.setCell ⟨R, 4, none⟩ (.int .i64 ((d : Int) + 1))).alloc (.cells #[.int .i64 2, .string tt, .bool tsp, .bool tfi, .int .i64 tf, .int .i64 tl, .int .i64 th, .int .i64 tn, .slice none 0 0, .slice none 0 0, .int .i64 0] 40))) := HK1.out.trans (kept_of_below hbA)
  obtain ⟨_, y1, _, _, y4, _⟩ := HC2.out.facts
  obtain ⟨_, _, _, x4, _⟩ := HC2.out.warm
  clear hcx hc h ht hlt hd hl hbA HC1 HK1
  have HNm := hid (HN tt htx.1 htx.2 ((w.setCell ⟨R, 4, none⟩ (.int .i64 ((d : Int) + 1))).alloc (.cells #[.int .i64 2, .string tt, .bool tsp, .bool tfi, .int .i64 tf, .int .i64 tl, .int .i64 th, .int .i64 tn, .slice none 0 0, .slice none 0 0, .int .i64 0] 40)))
  unfold optV at HNm
  clear HN htx
  rcases hv : numL tt.data.toList with _ | v
  · rw [hv] at HNm
    clear hv
    dsimp only [Option.getD, Option.isSome] at HNm ⊢
    go_enter Tryd.func49, Tryd.ntmps49
    go_wp2_with fail
    refine HNm.out.mono ?_
    rintro e3 w3 ⟨rfl, hb3⟩
    have HC3 := hid (HC2.out.below hb3)
    have HK3 := hid (HK2.out.trans (kept_of_below hb3))
    obtain ⟨_, u1, _, _, u4, _⟩ := HC3.out.facts
    obtain ⟨_, _, _, v4, _⟩ := HC3.out.warm
    have tc := fun i v (h : ((w.setCell ⟨R, 4, none⟩ (.int .i64 ((d : Int) + 1))).alloc (.cells #[.int .i64 2, .string tt, .bool tsp, .bool tfi, .int .i64 tf, .int .i64 tl, .int .i64 th, .int .i64 tn, .slice none 0 0, .slice none 0 0, .int .i64 0] 40)).cell? ⟨w.heap.size, i, none⟩ = some v) => (hb3.cell (p := ⟨w.heap.size, i, none⟩) (World.block_lt_of_cell? _ _ h)).trans h
    have t0 := tc 0 _ (boxed_cell w R _ _ 0 _ rfl)
    have t1 := tc 1 _ (boxed_cell w R _ _ 1 _ rfl)
    clear hb3 HNm HC2 HK2 tc y1 y4 x4
    go_wp2_with fail
    refine (stop_any R _ c ts f g ((d : Int) + 1) (q : Int) k 3 w3 HC3.out hHL).mono ?_
    rintro e5 w5 ⟨rfl, hk5, hc5⟩
    have HC5 := hid hc5
    have HK5 := hid (HK3.out.trans hk5)
    obtain ⟨_, s1, _, _, s4, _⟩ := HC5.out.facts
    obtain ⟨_, _, _, r4, _⟩ := HC5.out.warm
    clear hk5 hc5
    go_wp2_with fail
    go_ret2
    exact ⟨HK5.out.setCell (a := ⟨R, 4, none⟩) rfl _, 0, k + 1, rfl, by omega, by decide, HC5.out.deep (d : Int)⟩
  · rw [hv] at HNm
    have hI := num_isI _ _ hv
    clear hv
    dsimp only [Option.getD, Option.isSome] at HNm ⊢
    go_enter Tryd.func49, Tryd.ntmps49
    go_wp2_with fail
    refine HNm.out.mono ?_
    rintro e3 w3 ⟨rfl, hb3⟩
    have HC3 := hid (HC2.out.below hb3)
    have HK3 := hid (HK2.out.trans (kept_of_below hb3))
    obtain ⟨_, u1, _, _, u4, _⟩ := HC3.out.facts
    obtain ⟨_, _, _, v4, _⟩ := HC3.out.warm
    have tc := fun i v (h : ((w.setCell ⟨R, 4, none⟩ (.int .i64 ((d : Int) + 1))).alloc (.cells #[.int .i64 2, .string tt, .bool tsp, .bool tfi, .int .i64 tf, .int .i64 tl, .int .i64 th, .int .i64 tn, .slice none 0 0, .slice none 0 0, .int .i64 0] 40)).cell? ⟨w.heap.size, i, none⟩ = some v) => (hb3.cell (p := ⟨w.heap.size, i, none⟩) (World.block_lt_of_cell? _ _ h)).trans h
    have t0 := tc 0 _ (boxed_cell w R _ _ 0 _ rfl)
    have t1 := tc 1 _ (boxed_cell w R _ _ 1 _ rfl)
    clear hb3 HNm HC2 HK2 tc y1 y4 x4
    go_wp2_with fail
    go_ret2
    exact ⟨HK3.out.setCell (a := ⟨R, 4, none⟩) rfl _, v, rfl, hI, fun _ => rfl, HC3.out.deep (d : Int)⟩
set_option maxRecDepth 100000 in
set_option maxHeartbeats 4000000 in
theorem atom_char (R : Nat) (a : Option Addr) (c : Nat) (ts : List Tk) (f g : Int) (k : Nat) (hl : ts.length ≤ 3000) (t : Tk) (ht : ts[k]? = some t) (hkd : t.kind = 3) (HN : RNumC) (htx : t.text.size ≠ 0 ∧ t.text.size ≤ 3000) (d q : Nat) (hd : d < 30) (w : World) (h : CAt w R a c ts 0 f g (d : Int) (q : Int)) :
    Calls Tryd.prog 49 #[.pointer (some ⟨R, 0, none⟩), .int .i64 (k : Int)] w (AnsOk R a c ts f g (d : Int) (q : Int) k w (RD numL ts 3 0 0 k d (q == 0))) := by
  have hlt := (List.getElem?_eq_some_iff.1 ht).1
  rw [RD_atom, if_neg (by omega), ht]
  dsimp only
  obtain ⟨b0, b1, _, _, b4, _⟩ := h.facts
  obtain ⟨_, _, _, z4, _⟩ := h.warm
  have HC0 := hid h
  have HC1 := hid (h.deep ((d : Int) + 1))
  have HK1 : Hid (Kept (· = R) w (w.setCell ⟨R, 4, none⟩ (.int .i64 ((d : Int) + 1)))) := (Kept.refl (fun j => j = R) w).setCell (a := ⟨R, 4, none⟩) rfl _
  rcases h.toks with h0 | ⟨bb, off, rfl, hbb, hc⟩
  · rw [h0] at hlt; simp at hlt
  have hcx := hc k _ ht
  have hne : bb ≠ R := fun e => by
    have h0 := hcx 10 _ rfl
    rw [e, Go.Joins.cell_of_block h.box] at h0
    simp at h0
  have hdi : ¬ ((30 : Int) ≤ (d : Int)) := by omega
  have hki : ¬ ((ts.length : Int) ≤ (k : Int)) := by omega
  have hkl : (k : Int) < (ts.length : Int) := by omega
  have hk0 : (0 : Int) ≤ (k : Int) := by omega
  have hkp : IntKind.i64.wrap ((k : Int) + 1) = (k : Int) + 1 := by rw [IntKind.wrap_i64]; omega
  have hkw : wrap64 ((k : Int) + 1) = (k : Int) + 1 := by unfold wrap64; omega
  have hd0 : (0 : Int) ≤ (d : Int) := by omega
  have hd1 : IntKind.i64.wrap ((d : Int) + 1) = (d : Int) + 1 := by rw [IntKind.wrap_i64]; omega
  have hdw : wrap64 ((d : Int) + 1) = (d : Int) + 1 := by unfold wrap64; omega
  have HTT := hid ht
  rw [if_neg (by omega), if_neg (by omega), if_pos hkd]
  have hHL := hl
  obtain ⟨tk, tt, tsp, tfi, tf, tl, th, tn⟩ := t
  dsimp only at *
  have c0 := hcx 0 _ rfl
  have c1 := hcx 1 _ rfl
  have c2 := hcx 2 _ rfl
  have c3 := hcx 3 _ rfl
  have c4 := hcx 4 _ rfl
  have c5 := hcx 5 _ rfl
  have c6 := hcx 6 _ rfl
  have c7 := hcx 7 _ rfl
  have c8 := hcx 8 _ rfl
  have c9 := hcx 9 _ rfl
  have c10 := hcx 10 _ rfl
  simp only [Nat.add_zero] at c0
  subst hkd
  have hbA := (Below.refl _ (w.setCell ⟨R, 4, none⟩ (.int .i64 ((d : Int) + 1)))).alloc (Nat.le_refl _) (.cells #[.int .i64 3, .string tt, .bool tsp, .bool tfi, .int .i64 tf, .int .i64 tl, .int .i64 th, .int .i64 tn, .slice none 0 0, .slice none 0 0, .int .i64 0] 40)
  have HC2 := hid (HC1.out.below hbA)
  have HK2 : Hid (Kept (· = R) w ((w.setCell ⟨R, 4, none⟩ (.int .i64 ((d : Int) + 1))).alloc (.cells #[.int .i64 3, .string tt, .bool tsp, .bool tfi, .int .i64 tf, .int .i64 tl, .int .i64 th, .int .i64 tn, .slice none 0 0, .slice none 0 0, .int .i64 0] 40))) := HK1.out.trans (kept_of_below hbA)
  obtain ⟨_, y1, _, _, y4, _⟩ := HC2.out.facts
  obtain ⟨_, _, _, x4, _⟩ := HC2.out.warm
  clear hcx hc h ht hlt hd hl hbA HC1 HK1
  have HNm := hid (HN tt htx.1 htx.2 ((w.setCell ⟨R, 4, none⟩ (.int .i64 ((d : Int) + 1))).alloc (.cells #[.int .i64 3, .string tt, .bool tsp, .bool tfi, .int .i64 tf, .int .i64 tl, .int .i64 th, .int .i64 tn, .slice none 0 0, .slice none 0 0, .int .i64 0] 40)))
  have HCh := hid (fun W => RChar_any tt W)
  unfold optV at HCh
  unfold optV at HNm
  clear HN htx
  generalize numL tt.data.toList = on at HNm
  rcases hv : charL tt.data.toList with _ | v
  · rw [hv] at HCh
    clear hv
    dsimp only [Option.getD, Option.isSome] at HCh ⊢
    go_enter Tryd.func49, Tryd.ntmps49
    go_wp2_with fail
    refine HNm.out.mono ?_
    rintro e3 w3 ⟨rfl, hb3⟩
    have HC3 := hid (HC2.out.below hb3)
    have HK3 := hid (HK2.out.trans (kept_of_below hb3))
    obtain ⟨_, u1, _, _, u4, _⟩ := HC3.out.facts
    obtain ⟨_, _, _, v4, _⟩ := HC3.out.warm
    have tc := fun i v (h : ((w.setCell ⟨R, 4, none⟩ (.int .i64 ((d : Int) + 1))).alloc (.cells #[.int .i64 3, .string tt, .bool tsp, .bool tfi, .int .i64 tf, .int .i64 tl, .int .i64 th, .int .i64 tn, .slice none 0 0, .slice none 0 0, .int .i64 0] 40)).cell? ⟨w.heap.size, i, none⟩ = some v) => (hb3.cell (p := ⟨w.heap.size, i, none⟩) (World.block_lt_of_cell? _ _ h)).trans h
    have t0 := tc 0 _ (boxed_cell w R _ _ 0 _ rfl)
    have t1 := tc 1 _ (boxed_cell w R _ _ 1 _ rfl)
    clear hb3 HNm HC2 HK2 tc y1 y4 x4
    go_wp2_with fail
    refine (HCh.out _).mono ?_
    rintro e4 w4 ⟨rfl, hw4⟩
    subst w4
    go_wp2_with fail
    refine (stop_any R _ c ts f g ((d : Int) + 1) (q : Int) k 3 w3 HC3.out hHL).mono ?_
    rintro e5 w5 ⟨rfl, hk5, hc5⟩
    have HC5 := hid hc5
    have HK5 := hid (HK3.out.trans hk5)
    obtain ⟨_, s1, _, _, s4, _⟩ := HC5.out.facts
    obtain ⟨_, _, _, r4, _⟩ := HC5.out.warm
    clear hk5 hc5
    go_wp2_with fail
    go_ret2
    exact ⟨HK5.out.setCell (a := ⟨R, 4, none⟩) rfl _, 0, k + 1, rfl, by omega, by decide, HC5.out.deep (d : Int)⟩
  · rw [hv] at HCh
    have hI := char_isI _ _ hv
    clear hv
    dsimp only [Option.getD, Option.isSome] at HCh ⊢
    go_enter Tryd.func49, Tryd.ntmps49
    go_wp2_with fail
    refine HNm.out.mono ?_
    rintro e3 w3 ⟨rfl, hb3⟩
    have HC3 := hid (HC2.out.below hb3)
    have HK3 := hid (HK2.out.trans (kept_of_below hb3))
    obtain ⟨_, u1, _, _, u4, _⟩ := HC3.out.facts
    obtain ⟨_, _, _, v4, _⟩ := HC3.out.warm
    have tc := fun i v (h : ((w.setCell ⟨R, 4, none⟩ (.int .i64 ((d : Int) + 1))).alloc (.cells #[.int .i64 3, .string tt, .bool tsp, .bool tfi, .int .i64 tf, .int .i64 tl, .int .i64 th, .int .i64 tn, .slice none 0 0, .slice none 0 0, .int .i64 0] 40)).cell? ⟨w.heap.size, i, none⟩ = some v) => (hb3.cell (p := ⟨w.heap.size, i, none⟩) (World.block_lt_of_cell? _ _ h)).trans h
    have t0 := tc 0 _ (boxed_cell w R _ _ 0 _ rfl)
    have t1 := tc 1 _ (boxed_cell w R _ _ 1 _ rfl)
    clear hb3 HNm HC2 HK2 tc y1 y4 x4
    go_wp2_with fail
    refine (HCh.out _).mono ?_
    rintro e4 w4 ⟨rfl, hw4⟩
    subst w4
    go_wp2_with fail
    go_ret2
    exact ⟨HK3.out.setCell (a := ⟨R, 4, none⟩) rfl _, v, rfl, hI, fun _ => rfl, HC3.out.deep (d : Int)⟩
end Go.Proofs.YtienjifhkmekcaaDoor
namespace Go.Proofs.YtienjifhkmekcaaDoor
open Go.RowKit Go.Shelf

theorem not_any (n : Int) (h : IsI n) : bits .xor .i64 (-1) n = -1 - n := by
  obtain ⟨a, b⟩ := h
  rcases Int.lt_or_le n 0 with h0 | h0
  · obtain ⟨m, rfl⟩ : ∃ m : Nat, n = -1 - (m : Int) := ⟨(-1 - n).toNat, by omega⟩
    have hm : m < 9223372036854775808 := by omega
    have e : (-1 - (m : Int)) = bits .xor .i64 (-1) (m : Int) := (i64_not m hm).symm
    show IntKind.i64.wrap ((BitVec.ofInt 64 (-1) ^^^ BitVec.ofInt 64 (-1 - (m : Int))).toNat : Int) = _
    have h1 : BitVec.ofInt 64 (-1) = BitVec.allOnes 64 := by decide
    rw [h1, BitVec.allOnes_xor, BitVec.toNat_not, BitVec.toNat_ofInt]
    simp [IntKind.wrap, IntKind.bits, IntKind.signed]
    omega
  · obtain ⟨m, rfl⟩ : ∃ m : Nat, n = (m : Int) := ⟨n.toNat, by omega⟩
    exact i64_not m (by omega)

end Go.Proofs.YtienjifhkmekcaaDoor
namespace Go.Proofs.YtienjifhkmekcaaDoor
open Go.RowKit Go.Shelf

theorem i64_ne {x y : Int} (h : x ≠ y) : (x == y) = false := by simpa using h
set_option maxRecDepth 100000 in
set_option maxHeartbeats 4000000 in
theorem atom_form (R : Nat) (a : Option Addr) (c : Nat) (ts : List Tk) (f g : Int) (k : Nat) (hl : ts.length ≤ 3000) (t : Tk) (ht : ts[k]? = some t) (n1 : t.kind ≠ 1) (n2 : t.kind ≠ 2) (n3 : t.kind ≠ 3) (H40 : ((signAt ts k).toList == [40]) = false) (H45 : ((signAt ts k).toList == [45]) = false) (H43 : ((signAt ts k).toList == [43]) = false) (H126 : ((signAt ts k).toList == [126]) = false) (H33 : ((signAt ts k).toList == [33]) = false) (d q : Nat) (hd : d < 30) (w : World) (h : CAt w R a c ts 0 f g (d : Int) (q : Int)) :
    Calls Tryd.prog 49 #[.pointer (some ⟨R, 0, none⟩), .int .i64 (k : Int)] w (AnsOk R a c ts f g (d : Int) (q : Int) k w (RD numL ts 3 0 0 k d (q == 0))) := by
  have hlt := (List.getElem?_eq_some_iff.1 ht).1
  rw [RD_atom, if_neg (by omega), ht]
  dsimp only
  obtain ⟨b0, b1, _, _, b4, _⟩ := h.facts
  obtain ⟨_, _, _, z4, _⟩ := h.warm
  have HC0 := hid h
  have HC1 := hid (h.deep ((d : Int) + 1))
  have HK1 : Hid (Kept (· = R) w (w.setCell ⟨R, 4, none⟩ (.int .i64 ((d : Int) + 1)))) := (Kept.refl (fun j => j = R) w).setCell (a := ⟨R, 4, none⟩) rfl _
  rcases h.toks with h0 | ⟨bb, off, rfl, hbb, hc⟩
  · rw [h0] at hlt; simp at hlt
  have hcx := hc k _ ht
  have hne : bb ≠ R := fun e => by
    have h0 := hcx 10 _ rfl
    rw [e, Go.Joins.cell_of_block h.box] at h0
    simp at h0
  have hdi : ¬ ((30 : Int) ≤ (d : Int)) := by omega
  have hki : ¬ ((ts.length : Int) ≤ (k : Int)) := by omega
  have hkl : (k : Int) < (ts.length : Int) := by omega
  have hk0 : (0 : Int) ≤ (k : Int) := by omega
  have hkp : IntKind.i64.wrap ((k : Int) + 1) = (k : Int) + 1 := by rw [IntKind.wrap_i64]; omega
  have hkw : wrap64 ((k : Int) + 1) = (k : Int) + 1 := by unfold wrap64; omega
  have hd0 : (0 : Int) ≤ (d : Int) := by omega
  have hd1 : IntKind.i64.wrap ((d : Int) + 1) = (d : Int) + 1 := by rw [IntKind.wrap_i64]; omega
  have hdw : wrap64 ((d : Int) + 1) = (d : Int) + 1 := by unfold wrap64; omega
  have HTT := hid ht
  rw [if_neg n1, if_neg n2, if_neg n3, if_neg (by rw [H40]; decide), if_neg (by rw [H45, H43, H126, H33]; decide)]
  have hHL := hl
  obtain ⟨tk, tt, tsp, tfi, tf, tl, th, tn⟩ := t
  dsimp only at *
  have c0 := hcx 0 _ rfl
  have c1 := hcx 1 _ rfl
  have c2 := hcx 2 _ rfl
  have c3 := hcx 3 _ rfl
  have c4 := hcx 4 _ rfl
  have c5 := hcx 5 _ rfl
  have c6 := hcx 6 _ rfl
  have c7 := hcx 7 _ rfl
  have c8 := hcx 8 _ rfl
  have c9 := hcx 9 _ rfl
  have c10 := hcx 10 _ rfl
  simp only [Nat.add_zero] at c0
  have hbA := (Below.refl _ (w.setCell ⟨R, 4, none⟩ (.int .i64 ((d : Int) + 1)))).alloc (Nat.le_refl _) (.cells #[.int .i64 tk, .string tt, .bool tsp, .bool tfi, .int .i64 tf, .int .i64 tl, .int .i64 th, .int .i64 tn, .slice none 0 0, .slice none 0 0, .int .i64 0] 40)
  have HC2 := hid (HC1.out.below hbA)
  have HK2 : Hid (Kept (· = R) w ((w.setCell ⟨R, 4, none⟩ (.int .i64 ((d : Int) + 1))).alloc (.cells #[.int .i64 tk, .string tt, .bool tsp, .bool tfi, .int .i64 tf, .int .i64 tl, .int .i64 th, .int .i64 tn, .slice none 0 0, .slice none 0 0, .int .i64 0] 40))) := HK1.out.trans (kept_of_below hbA)
  obtain ⟨_, y1, _, _, y4, _⟩ := HC2.out.facts
  obtain ⟨_, _, _, x4, _⟩ := HC2.out.warm
  clear hcx hc h ht hlt hd hl hbA HC1 HK1
  have m1 := i64_ne n1
  have m2 := i64_ne n2
  have m3 := i64_ne n3
  have HI40 := hid (is_any R _ c ts 0 f g ((d : Int) + 1) (q : Int) k ⟨#[40]⟩ (show (1 : Nat) ≠ 0 by decide) ((w.setCell ⟨R, 4, none⟩ (.int .i64 ((d : Int) + 1))).alloc (.cells #[.int .i64 tk, .string tt, .bool tsp, .bool tfi, .int .i64 tf, .int .i64 tl, .int .i64 th, .int .i64 tn, .slice none 0 0, .slice none 0 0, .int .i64 0] 40)) HC2.out)
  rw [sign_1, H40] at HI40
  have HI45 := hid (is_any R _ c ts 0 f g ((d : Int) + 1) (q : Int) k ⟨#[45]⟩ (show (1 : Nat) ≠ 0 by decide) ((w.setCell ⟨R, 4, none⟩ (.int .i64 ((d : Int) + 1))).alloc (.cells #[.int .i64 tk, .string tt, .bool tsp, .bool tfi, .int .i64 tf, .int .i64 tl, .int .i64 th, .int .i64 tn, .slice none 0 0, .slice none 0 0, .int .i64 0] 40)) HC2.out)
  rw [sign_1, H45] at HI45
  have HI43 := hid (is_any R _ c ts 0 f g ((d : Int) + 1) (q : Int) k ⟨#[43]⟩ (show (1 : Nat) ≠ 0 by decide) ((w.setCell ⟨R, 4, none⟩ (.int .i64 ((d : Int) + 1))).alloc (.cells #[.int .i64 tk, .string tt, .bool tsp, .bool tfi, .int .i64 tf, .int .i64 tl, .int .i64 th, .int .i64 tn, .slice none 0 0, .slice none 0 0, .int .i64 0] 40)) HC2.out)
  rw [sign_1, H43] at HI43
  have HI126 := hid (is_any R _ c ts 0 f g ((d : Int) + 1) (q : Int) k ⟨#[126]⟩ (show (1 : Nat) ≠ 0 by decide) ((w.setCell ⟨R, 4, none⟩ (.int .i64 ((d : Int) + 1))).alloc (.cells #[.int .i64 tk, .string tt, .bool tsp, .bool tfi, .int .i64 tf, .int .i64 tl, .int .i64 th, .int .i64 tn, .slice none 0 0, .slice none 0 0, .int .i64 0] 40)) HC2.out)
  rw [sign_1, H126] at HI126
  have HI33 := hid (is_any R _ c ts 0 f g ((d : Int) + 1) (q : Int) k ⟨#[33]⟩ (show (1 : Nat) ≠ 0 by decide) ((w.setCell ⟨R, 4, none⟩ (.int .i64 ((d : Int) + 1))).alloc (.cells #[.int .i64 tk, .string tt, .bool tsp, .bool tfi, .int .i64 tf, .int .i64 tl, .int .i64 th, .int .i64 tn, .slice none 0 0, .slice none 0 0, .int .i64 0] 40)) HC2.out)
  rw [sign_1, H33] at HI33
  clear n1 n2 n3 H40 H45 H43 H126 H33
  go_enter Tryd.func49, Tryd.ntmps49
  go_wp2_with fail
  refine HI40.out.mono ?_
  rintro e3 w3 ⟨rfl, hw3⟩
  subst w3
  go_wp2_with fail
  refine HI45.out.mono ?_
  rintro e3 w3 ⟨rfl, hw3⟩
  subst w3
  go_wp2_with fail
  refine HI43.out.mono ?_
  rintro e3 w3 ⟨rfl, hw3⟩
  subst w3
  go_wp2_with fail
  refine HI126.out.mono ?_
  rintro e3 w3 ⟨rfl, hw3⟩
  subst w3
  go_wp2_with fail
  refine HI33.out.mono ?_
  rintro e3 w3 ⟨rfl, hw3⟩
  subst w3
  go_wp2_with fail
  refine (stop_any R _ c ts f g ((d : Int) + 1) (q : Int) k 2 _ HC2.out hHL).mono ?_
  rintro e5 w5 ⟨rfl, hk5, hc5⟩
  have HC5 := hid hc5
  have HK5 := hid (HK2.out.trans hk5)
  obtain ⟨_, s1, _, _, s4, _⟩ := HC5.out.facts
  obtain ⟨_, _, _, r4, _⟩ := HC5.out.warm
  clear hk5 hc5
  go_wp2_with fail
  go_ret2
  exact ⟨HK5.out.setCell (a := ⟨R, 4, none⟩) rfl _, 0, k + 1, rfl, by omega, by decide, HC5.out.deep (d : Int)⟩

theorem first_isI (x : Int) : IsI (IntKind.i64.wrap x) := isI_kwrap x
theorem tilde_val (n : Int) (h : IsI n) : aheadL [126] n = wrap64 (-1 - n) := by
  show bits .xor .i64 (-1) n = _
  rw [not_any n h]
  obtain ⟨a, b⟩ := h
  unfold wrap64
  omega
theorem truth_isI (b : Bool) : IsI (truthI b) := by cases b <;> exact ⟨by decide, by decide⟩
set_option maxRecDepth 100000 in
set_option maxHeartbeats 4000000 in
theorem atom_plus (R : Nat) (a : Option Addr) (c : Nat) (ts : List Tk) (f g : Int) (k : Nat) (hl : ts.length ≤ 3000) (t : Tk) (ht : ts[k]? = some t) (n1 : t.kind ≠ 1) (n2 : t.kind ≠ 2) (n3 : t.kind ≠ 3) (H40 : ((signAt ts k).toList == [40]) = false) (H45 : ((signAt ts k).toList == [45]) = false) (H43 : ((signAt ts k).toList == [43]) = true) (hA : AtomC R a c ts f g (k + 1)) (d q : Nat) (hd : d < 30) (hq : q + (ts.length - k) ≤ 100000) (w : World) (h : CAt w R a c ts 0 f g (d : Int) (q : Int)) :
    Calls Tryd.prog 49 #[.pointer (some ⟨R, 0, none⟩), .int .i64 (k : Int)] w (AnsOk R a c ts f g (d : Int) (q : Int) k w (RD numL ts 3 0 0 k d (q == 0))) := by
  have hlt := (List.getElem?_eq_some_iff.1 ht).1
  rw [RD_atom, if_neg (by omega), ht]
  dsimp only
  obtain ⟨b0, b1, _, _, b4, _⟩ := h.facts
  obtain ⟨_, _, _, z4, _⟩ := h.warm
  have HC0 := hid h
  have HC1 := hid (h.deep ((d : Int) + 1))
  have HK1 : Hid (Kept (· = R) w (w.setCell ⟨R, 4, none⟩ (.int .i64 ((d : Int) + 1)))) := (Kept.refl (fun j => j = R) w).setCell (a := ⟨R, 4, none⟩) rfl _
  rcases h.toks with h0 | ⟨bb, off, rfl, hbb, hc⟩
  · rw [h0] at hlt; simp at hlt
  have hcx := hc k _ ht
  have hne : bb ≠ R := fun e => by
    have h0 := hcx 10 _ rfl
    rw [e, Go.Joins.cell_of_block h.box] at h0
    simp at h0
  have hdi : ¬ ((30 : Int) ≤ (d : Int)) := by omega
  have hki : ¬ ((ts.length : Int) ≤ (k : Int)) := by omega
  have hkl : (k : Int) < (ts.length : Int) := by omega
  have hk0 : (0 : Int) ≤ (k : Int) := by omega
  have hkp : IntKind.i64.wrap ((k : Int) + 1) = (k : Int) + 1 := by rw [IntKind.wrap_i64]; omega
  have hkw : wrap64 ((k : Int) + 1) = (k : Int) + 1 := by unfold wrap64; omega
  have hd0 : (0 : Int) ≤ (d : Int) := by omega
  have hd1 : IntKind.i64.wrap ((d : Int) + 1) = (d : Int) + 1 := by rw [IntKind.wrap_i64]; omega
  have hdw : wrap64 ((d : Int) + 1) = (d : Int) + 1 := by unfold wrap64; omega
  have HTT := hid ht
  rw [if_neg n1, if_neg n2, if_neg n3, if_neg (by rw [H40]; decide), if_pos (by rw [H43]; simp)]
  have hsg : (signAt ts k).toList = [43] := by simpa using H43
  have HA := hid (fun W hW => hA (d + 1) q W hd (Nat.le_trans (Nat.add_le_add_left (Nat.sub_le_sub_left (Nat.le_succ k) _) _) hq) hW)
  push_cast at HA
  have hA1 := hA
  clear hA hA1
  have hHL := hl
  obtain ⟨tk, tt, tsp, tfi, tf, tl, th, tn⟩ := t
  dsimp only at *
  have c0 := hcx 0 _ rfl
  have c1 := hcx 1 _ rfl
  have c2 := hcx 2 _ rfl
  have c3 := hcx 3 _ rfl
  have c4 := hcx 4 _ rfl
  have c5 := hcx 5 _ rfl
  have c6 := hcx 6 _ rfl
  have c7 := hcx 7 _ rfl
  have c8 := hcx 8 _ rfl
  have c9 := hcx 9 _ rfl
  have c10 := hcx 10 _ rfl
  simp only [Nat.add_zero] at c0
  have hbA := (Below.refl _ (w.setCell ⟨R, 4, none⟩ (.int .i64 ((d : Int) + 1)))).alloc (Nat.le_refl _) (.cells #[.int .i64 tk, .string tt, .bool tsp, .bool tfi, .int .i64 tf, .int .i64 tl, .int .i64 th, .int .i64 tn, .slice none 0 0, .slice none 0 0, .int .i64 0] 40)
  have HC2 := hid (HC1.out.below hbA)
  have HK2 : Hid (Kept (· = R) w ((w.setCell ⟨R, 4, none⟩ (.int .i64 ((d : Int) + 1))).alloc (.cells #[.int .i64 tk, .string tt, .bool tsp, .bool tfi, .int .i64 tf, .int .i64 tl, .int .i64 th, .int .i64 tn, .slice none 0 0, .slice none 0 0, .int .i64 0] 40))) := HK1.out.trans (kept_of_below hbA)
  obtain ⟨_, y1, _, _, y4, _⟩ := HC2.out.facts
  obtain ⟨_, _, _, x4, _⟩ := HC2.out.warm
  clear hcx hc h ht hlt hd hl hbA HC1 HK1
  have m1 := i64_ne n1
  have m2 := i64_ne n2
  have m3 := i64_ne n3
  have HI40 := hid (is_any R _ c ts 0 f g ((d : Int) + 1) (q : Int) k ⟨#[40]⟩ (show (1 : Nat) ≠ 0 by decide) ((w.setCell ⟨R, 4, none⟩ (.int .i64 ((d : Int) + 1))).alloc (.cells #[.int .i64 tk, .string tt, .bool tsp, .bool tfi, .int .i64 tf, .int .i64 tl, .int .i64 th, .int .i64 tn, .slice none 0 0, .slice none 0 0, .int .i64 0] 40)) HC2.out)
  rw [sign_1, H40] at HI40
  have HI45 := hid (is_any R _ c ts 0 f g ((d : Int) + 1) (q : Int) k ⟨#[45]⟩ (show (1 : Nat) ≠ 0 by decide) ((w.setCell ⟨R, 4, none⟩ (.int .i64 ((d : Int) + 1))).alloc (.cells #[.int .i64 tk, .string tt, .bool tsp, .bool tfi, .int .i64 tf, .int .i64 tl, .int .i64 th, .int .i64 tn, .slice none 0 0, .slice none 0 0, .int .i64 0] 40)) HC2.out)
  rw [sign_1, H45] at HI45
  have HI43 := hid (is_any R _ c ts 0 f g ((d : Int) + 1) (q : Int) k ⟨#[43]⟩ (show (1 : Nat) ≠ 0 by decide) ((w.setCell ⟨R, 4, none⟩ (.int .i64 ((d : Int) + 1))).alloc (.cells #[.int .i64 tk, .string tt, .bool tsp, .bool tfi, .int .i64 tf, .int .i64 tl, .int .i64 th, .int .i64 tn, .slice none 0 0, .slice none 0 0, .int .i64 0] 40)) HC2.out)
  rw [sign_1, H43] at HI43
  clear n1 n2 n3 H40 H45 H43 hq
  rw [hsg]
  rcases hr : RD numL ts 3 0 0 (k + 1) (d + 1) (q == 0) with ⟨v, j⟩ | ⟨e1, p1⟩
  · rw [hr] at HA
    clear hr
    dsimp only
    obtain ⟨val, hval⟩ : ∃ val, aheadL [43] v = val := ⟨_, rfl⟩
    rw [hval]
    have HV := hid hval
    clear hval
    go_enter Tryd.func49, Tryd.ntmps49
    go_wp2_with fail
    refine HI40.out.mono ?_
    rintro e3 w3 ⟨rfl, hw3⟩
    subst w3
    go_wp2_with fail
    refine HI45.out.mono ?_
    rintro e3 w3 ⟨rfl, hw3⟩
    subst w3
    go_wp2_with fail
    refine HI43.out.mono ?_
    rintro e3 w3 ⟨rfl, hw3⟩
    subst w3
    go_wp2_with fail
    refine (HA.out _ HC2.out).mono ?_
    rintro e4 w4 h4
    unfold AnsOk at h4
    dsimp only at h4
    obtain ⟨hk4, v4, rfl, hI4, hv4, hc4⟩ := h4
    have HC4 := hid hc4
    have HK4 := hid (HK2.out.trans hk4)
    obtain ⟨_, u1, _, _, u4, _⟩ := HC4.out.facts
    obtain ⟨_, _, _, x5, _⟩ := HC4.out.warm
    clear hk4 hc4 y1 y4 x4 HA
    have HI4 := hid hI4
    have HQ4 := hid hv4
    clear hv4 hI4
    go_wp2_with fail
    go_ret2
    exact ⟨HK4.out.setCell (a := ⟨R, 4, none⟩) rfl _, _, rfl, HI4.out, fun h0 => by rw [← HV.out, HQ4.out h0]; rfl, HC4.out.deep (d : Int)⟩
  · rw [hr] at HA
    clear hr
    dsimp only
    go_enter Tryd.func49, Tryd.ntmps49
    go_wp2_with fail
    refine HI40.out.mono ?_
    rintro e3 w3 ⟨rfl, hw3⟩
    subst w3
    go_wp2_with fail
    refine HI45.out.mono ?_
    rintro e3 w3 ⟨rfl, hw3⟩
    subst w3
    go_wp2_with fail
    refine HI43.out.mono ?_
    rintro e3 w3 ⟨rfl, hw3⟩
    subst w3
    go_wp2_with fail
    refine (HA.out _ HC2.out).mono ?_
    rintro e4 w4 h4
    unfold AnsOk at h4
    dsimp only at h4
    obtain ⟨hk4, v4, j4, rfl, hj4, he4, hc4⟩ := h4
    have HC4 := hid hc4
    have HK4 := hid (HK2.out.trans hk4)
    obtain ⟨_, u1, _, _, u4, _⟩ := HC4.out.facts
    obtain ⟨_, _, _, x5, _⟩ := HC4.out.warm
    clear hk4 hc4 y1 y4 x4 HA
    have HE4 := hid he4
    clear he4
    go_wp2_with fail
    go_ret2
    exact ⟨HK4.out.setCell (a := ⟨R, 4, none⟩) rfl _, _, j4, rfl, Nat.le_trans (Nat.le_succ _) hj4, HE4.out, HC4.out.deep (d : Int)⟩
set_option maxRecDepth 100000 in
set_option maxHeartbeats 4000000 in
theorem atom_minus (R : Nat) (a : Option Addr) (c : Nat) (ts : List Tk) (f g : Int) (k : Nat) (hl : ts.length ≤ 3000) (t : Tk) (ht : ts[k]? = some t) (n1 : t.kind ≠ 1) (n2 : t.kind ≠ 2) (n3 : t.kind ≠ 3) (H40 : ((signAt ts k).toList == [40]) = false) (H45 : ((signAt ts k).toList == [45]) = true) (hA : AtomC R a c ts f g (k + 1)) (d q : Nat) (hd : d < 30) (hq : q + (ts.length - k) ≤ 100000) (w : World) (h : CAt w R a c ts 0 f g (d : Int) (q : Int)) :
    Calls Tryd.prog 49 #[.pointer (some ⟨R, 0, none⟩), .int .i64 (k : Int)] w (AnsOk R a c ts f g (d : Int) (q : Int) k w (RD numL ts 3 0 0 k d (q == 0))) := by
  have hlt := (List.getElem?_eq_some_iff.1 ht).1
  rw [RD_atom, if_neg (by omega), ht]
  dsimp only
  obtain ⟨b0, b1, _, _, b4, _⟩ := h.facts
  obtain ⟨_, _, _, z4, _⟩ := h.warm
  have HC0 := hid h
  have HC1 := hid (h.deep ((d : Int) + 1))
  have HK1 : Hid (Kept (· = R) w (w.setCell ⟨R, 4, none⟩ (.int .i64 ((d : Int) + 1)))) := (Kept.refl (fun j => j = R) w).setCell (a := ⟨R, 4, none⟩) rfl _
  rcases h.toks with h0 | ⟨bb, off, rfl, hbb, hc⟩
  · rw [h0] at hlt; simp at hlt
  have hcx := hc k _ ht
  have hne : bb ≠ R := fun e => by
    have h0 := hcx 10 _ rfl
    rw [e, Go.Joins.cell_of_block h.box] at h0
    simp at h0
  have hdi : ¬ ((30 : Int) ≤ (d : Int)) := by omega
  have hki : ¬ ((ts.length : Int) ≤ (k : Int)) := by omega
  have hkl : (k : Int) < (ts.length : Int) := by omega
  have hk0 : (0 : Int) ≤ (k : Int) := by omega
  have hkp : IntKind.i64.wrap ((k : Int) + 1) = (k : Int) + 1 := by rw [IntKind.wrap_i64]; omega
  have hkw : wrap64 ((k : Int) + 1) = (k : Int) + 1 := by unfold wrap64; omega
  have hd0 : (0 : Int) ≤ (d : Int) := by omega
  have hd1 : IntKind.i64.wrap ((d : Int) + 1) = (d : Int) + 1 := by rw [IntKind.wrap_i64]; omega
  have hdw : wrap64 ((d : Int) + 1) = (d : Int) + 1 := by unfold wrap64; omega
  have HTT := hid ht
  rw [if_neg n1, if_neg n2, if_neg n3, if_neg (by rw [H40]; decide), if_pos (by rw [H45]; simp)]
  have hsg : (signAt ts k).toList = [45] := by simpa using H45
  have HA := hid (fun W hW => hA (d + 1) q W hd (Nat.le_trans (Nat.add_le_add_left (Nat.sub_le_sub_left (Nat.le_succ k) _) _) hq) hW)
  push_cast at HA
  have hA1 := hA
  clear hA hA1
  have hHL := hl
  obtain ⟨tk, tt, tsp, tfi, tf, tl, th, tn⟩ := t
  dsimp only at *
  have c0 := hcx 0 _ rfl
  have c1 := hcx 1 _ rfl
  have c2 := hcx 2 _ rfl
  have c3 := hcx 3 _ rfl
  have c4 := hcx 4 _ rfl
  have c5 := hcx 5 _ rfl
  have c6 := hcx 6 _ rfl
  have c7 := hcx 7 _ rfl
  have c8 := hcx 8 _ rfl
  have c9 := hcx 9 _ rfl
  have c10 := hcx 10 _ rfl
  simp only [Nat.add_zero] at c0
  have hbA := (Below.refl _ (w.setCell ⟨R, 4, none⟩ (.int .i64 ((d : Int) + 1)))).alloc (Nat.le_refl _) (.cells #[.int .i64 tk, .string tt, .bool tsp, .bool tfi, .int .i64 tf, .int .i64 tl, .int .i64 th, .int .i64 tn, .slice none 0 0, .slice none 0 0, .int .i64 0] 40)
  have HC2 := hid (HC1.out.below hbA)
  have HK2 : Hid (Kept (· = R) w ((w.setCell ⟨R, 4, none⟩ (.int .i64 ((d : Int) + 1))).alloc (.cells #[.int .i64 tk, .string tt, .bool tsp, .bool tfi, .int .i64 tf, .int .i64 tl, .int .i64 th, .int .i64 tn, .slice none 0 0, .slice none 0 0, .int .i64 0] 40))) := HK1.out.trans (kept_of_below hbA)
  obtain ⟨_, y1, _, _, y4, _⟩ := HC2.out.facts
  obtain ⟨_, _, _, x4, _⟩ := HC2.out.warm
  clear hcx hc h ht hlt hd hl hbA HC1 HK1
  have m1 := i64_ne n1
  have m2 := i64_ne n2
  have m3 := i64_ne n3
  have HI40 := hid (is_any R _ c ts 0 f g ((d : Int) + 1) (q : Int) k ⟨#[40]⟩ (show (1 : Nat) ≠ 0 by decide) ((w.setCell ⟨R, 4, none⟩ (.int .i64 ((d : Int) + 1))).alloc (.cells #[.int .i64 tk, .string tt, .bool tsp, .bool tfi, .int .i64 tf, .int .i64 tl, .int .i64 th, .int .i64 tn, .slice none 0 0, .slice none 0 0, .int .i64 0] 40)) HC2.out)
  rw [sign_1, H40] at HI40
  have HI45 := hid (is_any R _ c ts 0 f g ((d : Int) + 1) (q : Int) k ⟨#[45]⟩ (show (1 : Nat) ≠ 0 by decide) ((w.setCell ⟨R, 4, none⟩ (.int .i64 ((d : Int) + 1))).alloc (.cells #[.int .i64 tk, .string tt, .bool tsp, .bool tfi, .int .i64 tf, .int .i64 tl, .int .i64 th, .int .i64 tn, .slice none 0 0, .slice none 0 0, .int .i64 0] 40)) HC2.out)
  rw [sign_1, H45] at HI45
  clear n1 n2 n3 H40 H45 hq
  rw [hsg]
  rcases hr : RD numL ts 3 0 0 (k + 1) (d + 1) (q == 0) with ⟨v, j⟩ | ⟨e1, p1⟩
  · rw [hr] at HA
    clear hr
    dsimp only
    obtain ⟨val, hval⟩ : ∃ val, aheadL [45] v = val := ⟨_, rfl⟩
    rw [hval]
    have HV := hid hval
    clear hval
    go_enter Tryd.func49, Tryd.ntmps49
    go_wp2_with fail
    refine HI40.out.mono ?_
    rintro e3 w3 ⟨rfl, hw3⟩
    subst w3
    go_wp2_with fail
    refine HI45.out.mono ?_
    rintro e3 w3 ⟨rfl, hw3⟩
    subst w3
    go_wp2_with fail
    refine (HA.out _ HC2.out).mono ?_
    rintro e4 w4 h4
    unfold AnsOk at h4
    dsimp only at h4
    obtain ⟨hk4, v4, rfl, hI4, hv4, hc4⟩ := h4
    have HC4 := hid hc4
    have HK4 := hid (HK2.out.trans hk4)
    obtain ⟨_, u1, _, _, u4, _⟩ := HC4.out.facts
    obtain ⟨_, _, _, x5, _⟩ := HC4.out.warm
    clear hk4 hc4 y1 y4 x4 HA
    have HI4 := hid hI4
    have HQ4 := hid hv4
    clear hv4 hI4
    go_wp2_with fail
    go_ret2
    exact ⟨HK4.out.setCell (a := ⟨R, 4, none⟩) rfl _, _, rfl, isI_wrap _, fun h0 => by rw [← HV.out, HQ4.out h0]; rfl, HC4.out.deep (d : Int)⟩
  · rw [hr] at HA
    clear hr
    dsimp only
    go_enter Tryd.func49, Tryd.ntmps49
    go_wp2_with fail
    refine HI40.out.mono ?_
    rintro e3 w3 ⟨rfl, hw3⟩
    subst w3
    go_wp2_with fail
    refine HI45.out.mono ?_
    rintro e3 w3 ⟨rfl, hw3⟩
    subst w3
    go_wp2_with fail
    refine (HA.out _ HC2.out).mono ?_
    rintro e4 w4 h4
    unfold AnsOk at h4
    dsimp only at h4
    obtain ⟨hk4, v4, j4, rfl, hj4, he4, hc4⟩ := h4
    have HC4 := hid hc4
    have HK4 := hid (HK2.out.trans hk4)
    obtain ⟨_, u1, _, _, u4, _⟩ := HC4.out.facts
    obtain ⟨_, _, _, x5, _⟩ := HC4.out.warm
    clear hk4 hc4 y1 y4 x4 HA
    have HE4 := hid he4
    clear he4
    go_wp2_with fail
    go_ret2
    exact ⟨HK4.out.setCell (a := ⟨R, 4, none⟩) rfl _, _, j4, rfl, Nat.le_trans (Nat.le_succ _) hj4, HE4.out, HC4.out.deep (d : Int)⟩
set_option maxRecDepth 100000 in
set_option maxHeartbeats 4000000 in
theorem atom_not (R : Nat) (a : Option Addr) (c : Nat) (ts : List Tk) (f g : Int) (k : Nat) (hl : ts.length ≤ 3000) (t : Tk) (ht : ts[k]? = some t) (n1 : t.kind ≠ 1) (n2 : t.kind ≠ 2) (n3 : t.kind ≠ 3) (H40 : ((signAt ts k).toList == [40]) = false) (H45 : ((signAt ts k).toList == [45]) = false) (H43 : ((signAt ts k).toList == [43]) = false) (H126 : ((signAt ts k).toList == [126]) = false) (H33 : ((signAt ts k).toList == [33]) = true) (hA : AtomC R a c ts f g (k + 1)) (d q : Nat) (hd : d < 30) (hq : q + (ts.length - k) ≤ 100000) (w : World) (h : CAt w R a c ts 0 f g (d : Int) (q : Int)) :
    Calls Tryd.prog 49 #[.pointer (some ⟨R, 0, none⟩), .int .i64 (k : Int)] w (AnsOk R a c ts f g (d : Int) (q : Int) k w (RD numL ts 3 0 0 k d (q == 0))) := by
  have hlt := (List.getElem?_eq_some_iff.1 ht).1
  rw [RD_atom, if_neg (by omega), ht]
  dsimp only
  obtain ⟨b0, b1, _, _, b4, _⟩ := h.facts
  obtain ⟨_, _, _, z4, _⟩ := h.warm
  have HC0 := hid h
  have HC1 := hid (h.deep ((d : Int) + 1))
  have HK1 : Hid (Kept (· = R) w (w.setCell ⟨R, 4, none⟩ (.int .i64 ((d : Int) + 1)))) := (Kept.refl (fun j => j = R) w).setCell (a := ⟨R, 4, none⟩) rfl _
  rcases h.toks with h0 | ⟨bb, off, rfl, hbb, hc⟩
  · rw [h0] at hlt; simp at hlt
  have hcx := hc k _ ht
  have hne : bb ≠ R := fun e => by
    have h0 := hcx 10 _ rfl
    rw [e, Go.Joins.cell_of_block h.box] at h0
    simp at h0
  have hdi : ¬ ((30 : Int) ≤ (d : Int)) := by omega
  have hki : ¬ ((ts.length : Int) ≤ (k : Int)) := by omega
  have hkl : (k : Int) < (ts.length : Int) := by omega
  have hk0 : (0 : Int) ≤ (k : Int) := by omega
  have hkp : IntKind.i64.wrap ((k : Int) + 1) = (k : Int) + 1 := by rw [IntKind.wrap_i64]; omega
  have hkw : wrap64 ((k : Int) + 1) = (k : Int) + 1 := by unfold wrap64; omega
  have hd0 : (0 : Int) ≤ (d : Int) := by omega
  have hd1 : IntKind.i64.wrap ((d : Int) + 1) = (d : Int) + 1 := by rw [IntKind.wrap_i64]; omega
  have hdw : wrap64 ((d : Int) + 1) = (d : Int) + 1 := by unfold wrap64; omega
  have HTT := hid ht
  rw [if_neg n1, if_neg n2, if_neg n3, if_neg (by rw [H40]; decide), if_pos (by rw [H33]; simp)]
  have hsg : (signAt ts k).toList = [33] := by simpa using H33
  have HA := hid (fun W hW => hA (d + 1) q W hd (Nat.le_trans (Nat.add_le_add_left (Nat.sub_le_sub_left (Nat.le_succ k) _) _) hq) hW)
  push_cast at HA
  have hA1 := hA
  clear hA hA1
  have hHL := hl
  obtain ⟨tk, tt, tsp, tfi, tf, tl, th, tn⟩ := t
  dsimp only at *
  have c0 := hcx 0 _ rfl
  have c1 := hcx 1 _ rfl
  have c2 := hcx 2 _ rfl
  have c3 := hcx 3 _ rfl
  have c4 := hcx 4 _ rfl
  have c5 := hcx 5 _ rfl
  have c6 := hcx 6 _ rfl
  have c7 := hcx 7 _ rfl
  have c8 := hcx 8 _ rfl
  have c9 := hcx 9 _ rfl
  have c10 := hcx 10 _ rfl
  simp only [Nat.add_zero] at c0
  have hbA := (Below.refl _ (w.setCell ⟨R, 4, none⟩ (.int .i64 ((d : Int) + 1)))).alloc (Nat.le_refl _) (.cells #[.int .i64 tk, .string tt, .bool tsp, .bool tfi, .int .i64 tf, .int .i64 tl, .int .i64 th, .int .i64 tn, .slice none 0 0, .slice none 0 0, .int .i64 0] 40)
  have HC2 := hid (HC1.out.below hbA)
  have HK2 : Hid (Kept (· = R) w ((w.setCell ⟨R, 4, none⟩ (.int .i64 ((d : Int) + 1))).alloc (.cells #[.int .i64 tk, .string tt, .bool tsp, .bool tfi, .int .i64 tf, .int .i64 tl, .int .i64 th, .int .i64 tn, .slice none 0 0, .slice none 0 0, .int .i64 0] 40))) := HK1.out.trans (kept_of_below hbA)
  obtain ⟨_, y1, _, _, y4, _⟩ := HC2.out.facts
  obtain ⟨_, _, _, x4, _⟩ := HC2.out.warm
  clear hcx hc h ht hlt hd hl hbA HC1 HK1
  have m1 := i64_ne n1
  have m2 := i64_ne n2
  have m3 := i64_ne n3
  have HI40 := hid (is_any R _ c ts 0 f g ((d : Int) + 1) (q : Int) k ⟨#[40]⟩ (show (1 : Nat) ≠ 0 by decide) ((w.setCell ⟨R, 4, none⟩ (.int .i64 ((d : Int) + 1))).alloc (.cells #[.int .i64 tk, .string tt, .bool tsp, .bool tfi, .int .i64 tf, .int .i64 tl, .int .i64 th, .int .i64 tn, .slice none 0 0, .slice none 0 0, .int .i64 0] 40)) HC2.out)
  rw [sign_1, H40] at HI40
  have HI45 := hid (is_any R _ c ts 0 f g ((d : Int) + 1) (q : Int) k ⟨#[45]⟩ (show (1 : Nat) ≠ 0 by decide) ((w.setCell ⟨R, 4, none⟩ (.int .i64 ((d : Int) + 1))).alloc (.cells #[.int .i64 tk, .string tt, .bool tsp, .bool tfi, .int .i64 tf, .int .i64 tl, .int .i64 th, .int .i64 tn, .slice none 0 0, .slice none 0 0, .int .i64 0] 40)) HC2.out)
  rw [sign_1, H45] at HI45
  have HI43 := hid (is_any R _ c ts 0 f g ((d : Int) + 1) (q : Int) k ⟨#[43]⟩ (show (1 : Nat) ≠ 0 by decide) ((w.setCell ⟨R, 4, none⟩ (.int .i64 ((d : Int) + 1))).alloc (.cells #[.int .i64 tk, .string tt, .bool tsp, .bool tfi, .int .i64 tf, .int .i64 tl, .int .i64 th, .int .i64 tn, .slice none 0 0, .slice none 0 0, .int .i64 0] 40)) HC2.out)
  rw [sign_1, H43] at HI43
  have HI126 := hid (is_any R _ c ts 0 f g ((d : Int) + 1) (q : Int) k ⟨#[126]⟩ (show (1 : Nat) ≠ 0 by decide) ((w.setCell ⟨R, 4, none⟩ (.int .i64 ((d : Int) + 1))).alloc (.cells #[.int .i64 tk, .string tt, .bool tsp, .bool tfi, .int .i64 tf, .int .i64 tl, .int .i64 th, .int .i64 tn, .slice none 0 0, .slice none 0 0, .int .i64 0] 40)) HC2.out)
  rw [sign_1, H126] at HI126
  have HI33 := hid (is_any R _ c ts 0 f g ((d : Int) + 1) (q : Int) k ⟨#[33]⟩ (show (1 : Nat) ≠ 0 by decide) ((w.setCell ⟨R, 4, none⟩ (.int .i64 ((d : Int) + 1))).alloc (.cells #[.int .i64 tk, .string tt, .bool tsp, .bool tfi, .int .i64 tf, .int .i64 tl, .int .i64 th, .int .i64 tn, .slice none 0 0, .slice none 0 0, .int .i64 0] 40)) HC2.out)
  rw [sign_1, H33] at HI33
  clear n1 n2 n3 H40 H45 H43 H126 H33 hq
  rw [hsg]
  rcases hr : RD numL ts 3 0 0 (k + 1) (d + 1) (q == 0) with ⟨v, j⟩ | ⟨e1, p1⟩
  · rw [hr] at HA
    clear hr
    dsimp only
    obtain ⟨val, hval⟩ : ∃ val, aheadL [33] v = val := ⟨_, rfl⟩
    rw [hval]
    have HV := hid hval
    clear hval
    go_enter Tryd.func49, Tryd.ntmps49
    go_wp2_with fail
    refine HI40.out.mono ?_
    rintro e3 w3 ⟨rfl, hw3⟩
    subst w3
    go_wp2_with fail
    refine HI45.out.mono ?_
    rintro e3 w3 ⟨rfl, hw3⟩
    subst w3
    go_wp2_with fail
    refine HI43.out.mono ?_
    rintro e3 w3 ⟨rfl, hw3⟩
    subst w3
    go_wp2_with fail
    refine HI126.out.mono ?_
    rintro e3 w3 ⟨rfl, hw3⟩
    subst w3
    go_wp2_with fail
    refine HI33.out.mono ?_
    rintro e3 w3 ⟨rfl, hw3⟩
    subst w3
    go_wp2_with fail
    refine (HA.out _ HC2.out).mono ?_
    rintro e4 w4 h4
    unfold AnsOk at h4
    dsimp only at h4
    obtain ⟨hk4, v4, rfl, hI4, hv4, hc4⟩ := h4
    have HC4 := hid hc4
    have HK4 := hid (HK2.out.trans hk4)
    obtain ⟨_, u1, _, _, u4, _⟩ := HC4.out.facts
    obtain ⟨_, _, _, x5, _⟩ := HC4.out.warm
    clear hk4 hc4 y1 y4 x4 HA
    have HI4 := hid hI4
    have HQ4 := hid hv4
    clear hv4 hI4
    go_wp2_with fail
    refine (rone_any _ _).mono ?_
    rintro e6 w6 ⟨rfl, hw6⟩
    subst w6
    go_wp2_with fail
    go_ret2
    exact ⟨HK4.out.setCell (a := ⟨R, 4, none⟩) rfl _, _, rfl, truth_isI _, fun h0 => by rw [← HV.out, HQ4.out h0]; rfl, HC4.out.deep (d : Int)⟩
  · rw [hr] at HA
    clear hr
    dsimp only
    go_enter Tryd.func49, Tryd.ntmps49
    go_wp2_with fail
    refine HI40.out.mono ?_
    rintro e3 w3 ⟨rfl, hw3⟩
    subst w3
    go_wp2_with fail
    refine HI45.out.mono ?_
    rintro e3 w3 ⟨rfl, hw3⟩
    subst w3
    go_wp2_with fail
    refine HI43.out.mono ?_
    rintro e3 w3 ⟨rfl, hw3⟩
    subst w3
    go_wp2_with fail
    refine HI126.out.mono ?_
    rintro e3 w3 ⟨rfl, hw3⟩
    subst w3
    go_wp2_with fail
    refine HI33.out.mono ?_
    rintro e3 w3 ⟨rfl, hw3⟩
    subst w3
    go_wp2_with fail
    refine (HA.out _ HC2.out).mono ?_
    rintro e4 w4 h4
    unfold AnsOk at h4
    dsimp only at h4
    obtain ⟨hk4, v4, j4, rfl, hj4, he4, hc4⟩ := h4
    have HC4 := hid hc4
    have HK4 := hid (HK2.out.trans hk4)
    obtain ⟨_, u1, _, _, u4, _⟩ := HC4.out.facts
    obtain ⟨_, _, _, x5, _⟩ := HC4.out.warm
    clear hk4 hc4 y1 y4 x4 HA
    have HE4 := hid he4
    clear he4
    go_wp2_with fail
    refine (rone_any _ _).mono ?_
    rintro e6 w6 ⟨rfl, hw6⟩
    subst w6
    go_wp2_with fail
    go_ret2
    exact ⟨HK4.out.setCell (a := ⟨R, 4, none⟩) rfl _, _, j4, rfl, Nat.le_trans (Nat.le_succ _) hj4, HE4.out, HC4.out.deep (d : Int)⟩
set_option maxRecDepth 100000 in
set_option maxHeartbeats 4000000 in
theorem atom_tilde (R : Nat) (a : Option Addr) (c : Nat) (ts : List Tk) (f g : Int) (k : Nat) (hl : ts.length ≤ 3000) (t : Tk) (ht : ts[k]? = some t) (n1 : t.kind ≠ 1) (n2 : t.kind ≠ 2) (n3 : t.kind ≠ 3) (H40 : ((signAt ts k).toList == [40]) = false) (H45 : ((signAt ts k).toList == [45]) = false) (H43 : ((signAt ts k).toList == [43]) = false) (H126 : ((signAt ts k).toList == [126]) = true) (hA : AtomC R a c ts f g (k + 1)) (d q : Nat) (hd : d < 30) (hq : q + (ts.length - k) ≤ 100000) (w : World) (h : CAt w R a c ts 0 f g (d : Int) (q : Int)) :
    Calls Tryd.prog 49 #[.pointer (some ⟨R, 0, none⟩), .int .i64 (k : Int)] w (AnsOk R a c ts f g (d : Int) (q : Int) k w (RD numL ts 3 0 0 k d (q == 0))) := by
  have hlt := (List.getElem?_eq_some_iff.1 ht).1
  rw [RD_atom, if_neg (by omega), ht]
  dsimp only
  obtain ⟨b0, b1, _, _, b4, _⟩ := h.facts
  obtain ⟨_, _, _, z4, _⟩ := h.warm
  have HC0 := hid h
  have HC1 := hid (h.deep ((d : Int) + 1))
  have HK1 : Hid (Kept (· = R) w (w.setCell ⟨R, 4, none⟩ (.int .i64 ((d : Int) + 1)))) := (Kept.refl (fun j => j = R) w).setCell (a := ⟨R, 4, none⟩) rfl _
  rcases h.toks with h0 | ⟨bb, off, rfl, hbb, hc⟩
  · rw [h0] at hlt; simp at hlt
  have hcx := hc k _ ht
  have hne : bb ≠ R := fun e => by
    have h0 := hcx 10 _ rfl
    rw [e, Go.Joins.cell_of_block h.box] at h0
    simp at h0
  have hdi : ¬ ((30 : Int) ≤ (d : Int)) := by omega
  have hki : ¬ ((ts.length : Int) ≤ (k : Int)) := by omega
  have hkl : (k : Int) < (ts.length : Int) := by omega
  have hk0 : (0 : Int) ≤ (k : Int) := by omega
  have hkp : IntKind.i64.wrap ((k : Int) + 1) = (k : Int) + 1 := by rw [IntKind.wrap_i64]; omega
  have hkw : wrap64 ((k : Int) + 1) = (k : Int) + 1 := by unfold wrap64; omega
  have hd0 : (0 : Int) ≤ (d : Int) := by omega
  have hd1 : IntKind.i64.wrap ((d : Int) + 1) = (d : Int) + 1 := by rw [IntKind.wrap_i64]; omega
  have hdw : wrap64 ((d : Int) + 1) = (d : Int) + 1 := by unfold wrap64; omega
  have HTT := hid ht
  rw [if_neg n1, if_neg n2, if_neg n3, if_neg (by rw [H40]; decide), if_pos (by rw [H126]; simp)]
  have hsg : (signAt ts k).toList = [126] := by simpa using H126
  have HA := hid (fun W hW => hA (d + 1) q W hd (Nat.le_trans (Nat.add_le_add_left (Nat.sub_le_sub_left (Nat.le_succ k) _) _) hq) hW)
  push_cast at HA
  have hA1 := hA
  clear hA hA1
  have hHL := hl
  obtain ⟨tk, tt, tsp, tfi, tf, tl, th, tn⟩ := t
  dsimp only at *
  have c0 := hcx 0 _ rfl
  have c1 := hcx 1 _ rfl
  have c2 := hcx 2 _ rfl
  have c3 := hcx 3 _ rfl
  have c4 := hcx 4 _ rfl
  have c5 := hcx 5 _ rfl
  have c6 := hcx 6 _ rfl
  have c7 := hcx 7 _ rfl
  have c8 := hcx 8 _ rfl
  have c9 := hcx 9 _ rfl
  have c10 := hcx 10 _ rfl
  simp only [Nat.add_zero] at c0
  have hbA := (Below.refl _ (w.setCell ⟨R, 4, none⟩ (.int .i64 ((d : Int) + 1)))).alloc (Nat.le_refl _) (.cells #[.int .i64 tk, .string tt, .bool tsp, .bool tfi, .int .i64 tf, .int .i64 tl, .int .i64 th, .int .i64 tn, .slice none 0 0, .slice none 0 0, .int .i64 0] 40)
  have HC2 := hid (HC1.out.below hbA)
  have HK2 : Hid (Kept (· = R) w ((w.setCell ⟨R, 4, none⟩ (.int .i64 ((d : Int) + 1))).alloc (.cells #[.int .i64 tk, .string tt, .bool tsp, .bool tfi, .int .i64 tf, .int .i64 tl, .int .i64 th, .int .i64 tn, .slice none 0 0, .slice none 0 0, .int .i64 0] 40))) := HK1.out.trans (kept_of_below hbA)
  obtain ⟨_, y1, _, _, y4, _⟩ := HC2.out.facts
  obtain ⟨_, _, _, x4, _⟩ := HC2.out.warm
  clear hcx hc h ht hlt hd hl hbA HC1 HK1
  have m1 := i64_ne n1
  have m2 := i64_ne n2
  have m3 := i64_ne n3
  have HI40 := hid (is_any R _ c ts 0 f g ((d : Int) + 1) (q : Int) k ⟨#[40]⟩ (show (1 : Nat) ≠ 0 by decide) ((w.setCell ⟨R, 4, none⟩ (.int .i64 ((d : Int) + 1))).alloc (.cells #[.int .i64 tk, .string tt, .bool tsp, .bool tfi, .int .i64 tf, .int .i64 tl, .int .i64 th, .int .i64 tn, .slice none 0 0, .slice none 0 0, .int .i64 0] 40)) HC2.out)
  rw [sign_1, H40] at HI40
  have HI45 := hid (is_any R _ c ts 0 f g ((d : Int) + 1) (q : Int) k ⟨#[45]⟩ (show (1 : Nat) ≠ 0 by decide) ((w.setCell ⟨R, 4, none⟩ (.int .i64 ((d : Int) + 1))).alloc (.cells #[.int .i64 tk, .string tt, .bool tsp, .bool tfi, .int .i64 tf, .int .i64 tl, .int .i64 th, .int .i64 tn, .slice none 0 0, .slice none 0 0, .int .i64 0] 40)) HC2.out)
  rw [sign_1, H45] at HI45
  have HI43 := hid (is_any R _ c ts 0 f g ((d : Int) + 1) (q : Int) k ⟨#[43]⟩ (show (1 : Nat) ≠ 0 by decide) ((w.setCell ⟨R, 4, none⟩ (.int .i64 ((d : Int) + 1))).alloc (.cells #[.int .i64 tk, .string tt, .bool tsp, .bool tfi, .int .i64 tf, .int .i64 tl, .int .i64 th, .int .i64 tn, .slice none 0 0, .slice none 0 0, .int .i64 0] 40)) HC2.out)
  rw [sign_1, H43] at HI43
  have HI126 := hid (is_any R _ c ts 0 f g ((d : Int) + 1) (q : Int) k ⟨#[126]⟩ (show (1 : Nat) ≠ 0 by decide) ((w.setCell ⟨R, 4, none⟩ (.int .i64 ((d : Int) + 1))).alloc (.cells #[.int .i64 tk, .string tt, .bool tsp, .bool tfi, .int .i64 tf, .int .i64 tl, .int .i64 th, .int .i64 tn, .slice none 0 0, .slice none 0 0, .int .i64 0] 40)) HC2.out)
  rw [sign_1, H126] at HI126
  clear n1 n2 n3 H40 H45 H43 H126 hq
  rw [hsg]
  rcases hr : RD numL ts 3 0 0 (k + 1) (d + 1) (q == 0) with ⟨v, j⟩ | ⟨e1, p1⟩
  · rw [hr] at HA
    clear hr
    dsimp only
    obtain ⟨val, hval⟩ : ∃ val, aheadL [126] v = val := ⟨_, rfl⟩
    rw [hval]
    have HV := hid hval
    clear hval
    go_enter Tryd.func49, Tryd.ntmps49
    go_wp2_with fail
    refine HI40.out.mono ?_
    rintro e3 w3 ⟨rfl, hw3⟩
    subst w3
    go_wp2_with fail
    refine HI45.out.mono ?_
    rintro e3 w3 ⟨rfl, hw3⟩
    subst w3
    go_wp2_with fail
    refine HI43.out.mono ?_
    rintro e3 w3 ⟨rfl, hw3⟩
    subst w3
    go_wp2_with fail
    refine HI126.out.mono ?_
    rintro e3 w3 ⟨rfl, hw3⟩
    subst w3
    go_wp2_with fail
    refine (HA.out _ HC2.out).mono ?_
    rintro e4 w4 h4
    unfold AnsOk at h4
    dsimp only at h4
    obtain ⟨hk4, v4, rfl, hI4, hv4, hc4⟩ := h4
    have HC4 := hid hc4
    have HK4 := hid (HK2.out.trans hk4)
    obtain ⟨_, u1, _, _, u4, _⟩ := HC4.out.facts
    obtain ⟨_, _, _, x5, _⟩ := HC4.out.warm
    clear hk4 hc4 y1 y4 x4 HA
    have HI4 := hid hI4
    have HQ4 := hid hv4
    clear hv4 hI4
    go_wp2_with fail
    go_ret2
    exact ⟨HK4.out.setCell (a := ⟨R, 4, none⟩) rfl _, _, rfl, isI_wrap _, fun h0 => by rw [← HV.out, ← HQ4.out h0]; exact (tilde_val _ HI4.out).symm, HC4.out.deep (d : Int)⟩
  · rw [hr] at HA
    clear hr
    dsimp only
    go_enter Tryd.func49, Tryd.ntmps49
    go_wp2_with fail
    refine HI40.out.mono ?_
    rintro e3 w3 ⟨rfl, hw3⟩
    subst w3
    go_wp2_with fail
    refine HI45.out.mono ?_
    rintro e3 w3 ⟨rfl, hw3⟩
    subst w3
    go_wp2_with fail
    refine HI43.out.mono ?_
    rintro e3 w3 ⟨rfl, hw3⟩
    subst w3
    go_wp2_with fail
    refine HI126.out.mono ?_
    rintro e3 w3 ⟨rfl, hw3⟩
    subst w3
    go_wp2_with fail
    refine (HA.out _ HC2.out).mono ?_
    rintro e4 w4 h4
    unfold AnsOk at h4
    dsimp only at h4
    obtain ⟨hk4, v4, j4, rfl, hj4, he4, hc4⟩ := h4
    have HC4 := hid hc4
    have HK4 := hid (HK2.out.trans hk4)
    obtain ⟨_, u1, _, _, u4, _⟩ := HC4.out.facts
    obtain ⟨_, _, _, x5, _⟩ := HC4.out.warm
    clear hk4 hc4 y1 y4 x4 HA
    have HE4 := hid he4
    clear he4
    go_wp2_with fail
    go_ret2
    exact ⟨HK4.out.setCell (a := ⟨R, 4, none⟩) rfl _, _, j4, rfl, Nat.le_trans (Nat.le_succ _) hj4, HE4.out, HC4.out.deep (d : Int)⟩
end Go.Proofs.YtienjifhkmekcaaDoor
namespace Go.Proofs.YtienjifhkmekcaaDoor
open Go.RowKit Go.Shelf

theorem bound_a {j k n : Nat} (h1 : j ≤ n) (h2 : k + 1 ≤ n) : j + 1 + k ≤ 2 * n + 5 := by omega
theorem bound_b {j k n : Nat} (h : j + (k + 1) ≤ 2 * n + 5) : j + 1 + k ≤ 2 * n + 5 := by omega
theorem bound_c {j k n : Nat} (h : j + (k + 1) ≤ 2 * n + 5) (hn : n ≤ 3000) : j ≤ 10000 := by omega
theorem next_k {j : Nat} (h : j ≤ 10000) : IntKind.i64.wrap ((j : Int) + 1) = (j : Int) + 1 := by rw [IntKind.wrap_i64]; omega
theorem next_w {j : Nat} (h : j ≤ 10000) : wrap64 ((j : Int) + 1) = (j : Int) + 1 := by unfold wrap64; omega
set_option maxRecDepth 100000 in
set_option maxHeartbeats 4000000 in
theorem atom_paren (R : Nat) (a : Option Addr) (c : Nat) (ts : List Tk) (f g : Int) (k : Nat) (hl : ts.length ≤ 3000) (t : Tk) (ht : ts[k]? = some t) (n1 : t.kind ≠ 1) (n2 : t.kind ≠ 2) (n3 : t.kind ≠ 3) (H40 : ((signAt ts k).toList == [40]) = true) (hA : ChoiceRC R a c ts f g (k + 1)) (d q : Nat) (hd : d < 30) (hq : q + (ts.length - k) ≤ 100000) (w : World) (h : CAt w R a c ts 0 f g (d : Int) (q : Int)) :
    Calls Tryd.prog 49 #[.pointer (some ⟨R, 0, none⟩), .int .i64 (k : Int)] w (AnsOk R a c ts f g (d : Int) (q : Int) k w (RD numL ts 3 0 0 k d (q == 0))) := by
  have hlt := (List.getElem?_eq_some_iff.1 ht).1
  rw [RD_atom, if_neg (by omega), ht]
  dsimp only
  obtain ⟨b0, b1, _, _, b4, _⟩ := h.facts
  obtain ⟨_, _, _, z4, _⟩ := h.warm
  have HC0 := hid h
  have HC1 := hid (h.deep ((d : Int) + 1))
  have HK1 : Hid (Kept (· = R) w (w.setCell ⟨R, 4, none⟩ (.int .i64 ((d : Int) + 1)))) := (Kept.refl (fun j => j = R) w).setCell (a := ⟨R, 4, none⟩) rfl _
  rcases h.toks with h0 | ⟨bb, off, rfl, hbb, hc⟩
  · rw [h0] at hlt; simp at hlt
  have hcx := hc k _ ht
  have hne : bb ≠ R := fun e => by
    have h0 := hcx 10 _ rfl
    rw [e, Go.Joins.cell_of_block h.box] at h0
    simp at h0
  have hdi : ¬ ((30 : Int) ≤ (d : Int)) := by omega
  have hki : ¬ ((ts.length : Int) ≤ (k : Int)) := by omega
  have hkl : (k : Int) < (ts.length : Int) := by omega
  have hk0 : (0 : Int) ≤ (k : Int) := by omega
  have hkp : IntKind.i64.wrap ((k : Int) + 1) = (k : Int) + 1 := by rw [IntKind.wrap_i64]; omega
  have hkw : wrap64 ((k : Int) + 1) = (k : Int) + 1 := by unfold wrap64; omega
  have hd0 : (0 : Int) ≤ (d : Int) := by omega
  have hd1 : IntKind.i64.wrap ((d : Int) + 1) = (d : Int) + 1 := by rw [IntKind.wrap_i64]; omega
  have hdw : wrap64 ((d : Int) + 1) = (d : Int) + 1 := by unfold wrap64; omega
  have HTT := hid ht
  rw [if_neg n1, if_neg n2, if_neg n3, if_pos H40]
  have HA := hid (fun W hW => hA (d + 1) q W hd (Nat.le_trans (Nat.add_le_add_left (Nat.sub_le_sub_left (Nat.le_succ k) _) _) hq) hW)
  push_cast at HA
  clear hA
  have hHL := hl
  have hf := RD_fine numL 0 (d + 1) (q == 0) (⟨hlt, .inr (.inl rfl), by decide⟩ : Ask ts 0 0 (k + 1))
  have HIs := hid (fun (e f g d q : Int) (j : Nat) (x : UInt8) W hW => is_any R (some ⟨bb, off, none⟩) c ts e f g d q j ⟨#[x]⟩ (show (1 : Nat) ≠ 0 by decide) W hW)
  have hbnd : k + 1 ≤ ts.length := hlt
  obtain ⟨tk, tt, tsp, tfi, tf, tl, th, tn⟩ := t
  dsimp only at *
  have c0 := hcx 0 _ rfl
  have c1 := hcx 1 _ rfl
  have c2 := hcx 2 _ rfl
  have c3 := hcx 3 _ rfl
  have c4 := hcx 4 _ rfl
  have c5 := hcx 5 _ rfl
  have c6 := hcx 6 _ rfl
  have c7 := hcx 7 _ rfl
  have c8 := hcx 8 _ rfl
  have c9 := hcx 9 _ rfl
  have c10 := hcx 10 _ rfl
  simp only [Nat.add_zero] at c0
  have hbA := (Below.refl _ (w.setCell ⟨R, 4, none⟩ (.int .i64 ((d : Int) + 1)))).alloc (Nat.le_refl _) (.cells #[.int .i64 tk, .string tt, .bool tsp, .bool tfi, .int .i64 tf, .int .i64 tl, .int .i64 th, .int .i64 tn, .slice none 0 0, .slice none 0 0, .int .i64 0] 40)
  have HC2 := hid (HC1.out.below hbA)
  have HK2 : Hid (Kept (· = R) w ((w.setCell ⟨R, 4, none⟩ (.int .i64 ((d : Int) + 1))).alloc (.cells #[.int .i64 tk, .string tt, .bool tsp, .bool tfi, .int .i64 tf, .int .i64 tl, .int .i64 th, .int .i64 tn, .slice none 0 0, .slice none 0 0, .int .i64 0] 40))) := HK1.out.trans (kept_of_below hbA)
  obtain ⟨_, y1, _, _, y4, _⟩ := HC2.out.facts
  obtain ⟨_, _, _, x4, _⟩ := HC2.out.warm
  clear hcx hc h ht hlt hd hl hbA HC1 HK1
  have m1 := i64_ne n1
  have m2 := i64_ne n2
  have m3 := i64_ne n3
  have HI40 := hid (is_any R _ c ts 0 f g ((d : Int) + 1) (q : Int) k ⟨#[40]⟩ (show (1 : Nat) ≠ 0 by decide) ((w.setCell ⟨R, 4, none⟩ (.int .i64 ((d : Int) + 1))).alloc (.cells #[.int .i64 tk, .string tt, .bool tsp, .bool tfi, .int .i64 tf, .int .i64 tl, .int .i64 th, .int .i64 tn, .slice none 0 0, .slice none 0 0, .int .i64 0] 40)) HC2.out)
  rw [sign_1, H40] at HI40
  clear n1 n2 n3 H40 hq
  rcases hr : RD numL ts 0 0 0 (k + 1) (d + 1) (q == 0) with ⟨v, j⟩ | ⟨e1, p1⟩
  · rw [hr] at HA hf
    obtain ⟨_, _, hj⟩ := hf
    clear hr
    dsimp only
    have hjp := next_k (Nat.le_trans hj (Nat.le_trans hHL (by decide)))
    have hjw := next_w (Nat.le_trans hj (Nat.le_trans hHL (by decide)))
    rcases h41 : ((signAt ts j).toList == [41]) with _ | _
    · rw [if_neg (by decide)]
      go_enter Tryd.func49, Tryd.ntmps49
      go_wp2_with fail
      refine HI40.out.mono ?_
      rintro e3 w3 ⟨rfl, hw3⟩
      subst w3
      go_wp2_with fail
      refine (HA.out _ HC2.out).mono ?_
      rintro e4 w4 h4
      unfold AnsOk at h4
      dsimp only at h4
      obtain ⟨hk4, v4, rfl, hI4, hv4, hc4⟩ := h4
      have HC4 := hid hc4
      have HK4 := hid (HK2.out.trans hk4)
      obtain ⟨_, u1, _, _, u4, _⟩ := HC4.out.facts
      obtain ⟨_, _, _, x5, _⟩ := HC4.out.warm
      clear hk4 hc4 y1 y4 x4 HA
      have HI4 := hid hI4
      have HQ4 := hid hv4
      clear hv4 hI4
      have HI := hid (HIs.out 0 f g ((d : Int) + 1) (q : Int) j 41 w4 HC4.out)
      rw [sign_1, h41] at HI
      clear h41 HIs
      go_wp2_with fail
      refine HI.out.mono ?_
      rintro e6 w6 ⟨rfl, hw6⟩
      subst w6
      go_wp2_with fail
      refine (stop_any R _ c ts f g ((d : Int) + 1) (q : Int) j 2 _ HC4.out hHL).mono ?_
      rintro e5 w5 ⟨rfl, hk5, hc5⟩
      have HC5 := hid hc5
      have HK5 := hid (HK4.out.trans hk5)
      obtain ⟨_, s1, _, _, s4, _⟩ := HC5.out.facts
      obtain ⟨_, _, _, r4, _⟩ := HC5.out.warm
      clear hk5 hc5 u1 u4 x5
      go_wp2_with fail
      go_ret2
      exact ⟨HK5.out.setCell (a := ⟨R, 4, none⟩) rfl _, _, j + 1, rfl, bound_a hj hbnd, by decide, HC5.out.deep (d : Int)⟩
    · rw [if_pos rfl]
      go_enter Tryd.func49, Tryd.ntmps49
      go_wp2_with fail
      refine HI40.out.mono ?_
      rintro e3 w3 ⟨rfl, hw3⟩
      subst w3
      go_wp2_with fail
      refine (HA.out _ HC2.out).mono ?_
      rintro e4 w4 h4
      unfold AnsOk at h4
      dsimp only at h4
      obtain ⟨hk4, v4, rfl, hI4, hv4, hc4⟩ := h4
      have HC4 := hid hc4
      have HK4 := hid (HK2.out.trans hk4)
      obtain ⟨_, u1, _, _, u4, _⟩ := HC4.out.facts
      obtain ⟨_, _, _, x5, _⟩ := HC4.out.warm
      clear hk4 hc4 y1 y4 x4 HA
      have HI4 := hid hI4
      have HQ4 := hid hv4
      clear hv4 hI4
      have HI := hid (HIs.out 0 f g ((d : Int) + 1) (q : Int) j 41 w4 HC4.out)
      rw [sign_1, h41] at HI
      clear h41 HIs
      go_wp2_with fail
      refine HI.out.mono ?_
      rintro e6 w6 ⟨rfl, hw6⟩
      subst w6
      go_wp2_with fail
      go_ret2
      exact ⟨HK4.out.setCell (a := ⟨R, 4, none⟩) rfl _, _, rfl, HI4.out, HQ4.out, HC4.out.deep (d : Int)⟩
  · rw [hr] at HA
    clear hr hf
    dsimp only
    go_enter Tryd.func49, Tryd.ntmps49
    go_wp2_with fail
    refine HI40.out.mono ?_
    rintro e3 w3 ⟨rfl, hw3⟩
    subst w3
    go_wp2_with fail
    refine (HA.out _ HC2.out).mono ?_
    rintro e4 w4 h4
    unfold AnsOk at h4
    dsimp only at h4
    obtain ⟨hk4, v4, j4, rfl, hj4, he4, hc4⟩ := h4
    have HC4 := hid hc4
    have HK4 := hid (HK2.out.trans hk4)
    obtain ⟨_, u1, _, _, u4, _⟩ := HC4.out.facts
    obtain ⟨_, _, _, x5, _⟩ := HC4.out.warm
    clear hk4 hc4 y1 y4 x4 HA
    have HE4 := hid he4
    have hjp := next_k (bound_c hj4 hHL)
    have hjw := next_w (bound_c hj4 hHL)
    have HI := hid (HIs.out e1 _ _ ((d : Int) + 1) (q : Int) j4 41 w4 HC4.out)
    rw [sign_1] at HI
    clear HIs he4
    rcases h41 : ((signAt ts j4).toList == [41]) with _ | _
    · rw [h41] at HI
      clear h41
      go_wp2_with fail
      refine HI.out.mono ?_
      rintro e6 w6 ⟨rfl, hw6⟩
      subst w6
      go_wp2_with fail
      refine (stop_no R _ c ts e1 _ _ ((d : Int) + 1) (q : Int) HE4.out (j4 : Int) 2 _ HC4.out).mono ?_
      rintro e5 w5 ⟨rfl, hw5⟩
      subst w5
      go_wp2_with fail
      go_ret2
      exact ⟨HK4.out.setCell (a := ⟨R, 4, none⟩) rfl _, _, j4 + 1, rfl, bound_b hj4, HE4.out, HC4.out.deep (d : Int)⟩
    · rw [h41] at HI
      clear h41
      go_wp2_with fail
      refine HI.out.mono ?_
      rintro e6 w6 ⟨rfl, hw6⟩
      subst w6
      go_wp2_with fail
      go_ret2
      exact ⟨HK4.out.setCell (a := ⟨R, 4, none⟩) rfl _, _, j4 + 1, rfl, bound_b hj4, HE4.out, HC4.out.deep (d : Int)⟩
end Go.Proofs.YtienjifhkmekcaaDoor
namespace Go.Proofs.YtienjifhkmekcaaDoor
open Go.RowKit Go.Shelf

theorem atom_step (R : Nat) (a : Option Addr) (c : Nat) (ts : List Tk) (f g : Int) (k : Nat) (hk : k ≤ ts.length) (hl : ts.length ≤ 3000) (hT : Texts ts) (hA : k < ts.length → AtomC R a c ts f g (k + 1)) (hCh : k < ts.length → ChoiceRC R a c ts f g (k + 1)) : AtomC R a c ts f g k := by
  intro d q w hd hq h
  by_cases h30 : d = 30
  · subst h30
    exact atom_deep R a c ts f g k hk hl q w h
  have hd' : d < 30 := by omega
  rcases ht : ts[k]? with _ | t
  · exact atom_end R a c ts f g k (by have := List.getElem?_eq_none_iff.1 ht; omega) hl d q hd' w h
  have hlt := (List.getElem?_eq_some_iff.1 ht).1
  have hx := hT t (List.mem_of_getElem? ht)
  by_cases n1 : t.kind = 1
  · exact atom_name R a c ts f g k hl t ht n1 d q hd' w h
  by_cases n2 : t.kind = 2
  · exact atom_num R a c ts f g k hl t ht n2 RNum_any hx d q hd' w h
  by_cases n3 : t.kind = 3
  · exact atom_char R a c ts f g k hl t ht n3 RNum_any hx d q hd' w h
  cases H40 : ((signAt ts k).toList == [40]) with
  | true => exact atom_paren R a c ts f g k hl t ht n1 n2 n3 H40 (hCh hlt) d q hd' hq w h
  | false =>
    cases H45 : ((signAt ts k).toList == [45]) with
    | true => exact atom_minus R a c ts f g k hl t ht n1 n2 n3 H40 H45 (hA hlt) d q hd' hq w h
    | false =>
      cases H43 : ((signAt ts k).toList == [43]) with
      | true => exact atom_plus R a c ts f g k hl t ht n1 n2 n3 H40 H45 H43 (hA hlt) d q hd' hq w h
      | false =>
        cases H126 : ((signAt ts k).toList == [126]) with
        | true => exact atom_tilde R a c ts f g k hl t ht n1 n2 n3 H40 H45 H43 H126 (hA hlt) d q hd' hq w h
        | false =>
          cases H33 : ((signAt ts k).toList == [33]) with
          | true => exact atom_not R a c ts f g k hl t ht n1 n2 n3 H40 H45 H43 H126 H33 (hA hlt) d q hd' hq w h
          | false => exact atom_form R a c ts f g k hl t ht n1 n2 n3 H40 H45 H43 H126 H33 d q hd' w h

end Go.Proofs.YtienjifhkmekcaaDoor
