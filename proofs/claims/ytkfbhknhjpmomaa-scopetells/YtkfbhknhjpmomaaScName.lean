/- Walks of the document's own reader: Key, Named, IsType, Type, Levels, level. -/
import Derived.Test.YtkfbhknhjpmomaaScMA
import Derived.Test.YtkfbhknhjpmomaaTgB
namespace Go.Proofs.Ytkfbhknhjpmomaa
open Go.RowKit Go.Shelf

/-- Results of a node in a cell and a number. -/
theorem nret2 {f : Func} {k j : Nat} (hr : f.results = #[.cell k 26, .tmp j]) {w : World} {g : Nat} {x : Nv} {v : Value} (hR : w.heap[g]? = some (boxN x)) (tmps : Array Value) (hp : tmps.getD k undef = .pointer (some ⟨g, 0, none⟩)) (hv : tmps.getD j undef = v) :
    (results f tmps).run Try.prog w = .ok (.tuple #[aggN x, v]) w := by
  obtain ⟨⟨c0, c1, c2⟩, _⟩ := boxN_facts hR
  simp at hp hv
  simp [results, hr, go_sem, hp, hv, c0, c1, c2, aggN]
/-- Results of a node in a cell, a number and names. -/
theorem nret3 {f : Func} {k j l : Nat} (hr : f.results = #[.cell k 26, .tmp j, .tmp l]) {w : World} {g : Nat} {x : Nv} {v u : Value} (hR : w.heap[g]? = some (boxN x)) (tmps : Array Value) (hp : tmps.getD k undef = .pointer (some ⟨g, 0, none⟩)) (hv : tmps.getD j undef = v) (hu : tmps.getD l undef = u) :
    (results f tmps).run Try.prog w = .ok (.tuple #[aggN x, v, u]) w := by
  obtain ⟨⟨c0, c1, c2⟩, _⟩ := boxN_facts hR
  simp at hp hv hu
  simp [results, hr, go_sem, hp, hv, hu, c0, c1, c2, aggN]

set_option maxRecDepth 100000 in
set_option maxHeartbeats 1000000 in
theorem RKey_any (s : ByteArray) (w : World) :
    Calls Try.prog 14 #[.string s] w fun x w' => x = .returned (.bool (keyW s.data.toList)) ∧ Below w.heap.size w w' := by
  have HH := hid (RHas_any _ 9 [⟨#[105, 110, 116]⟩, ⟨#[99, 104, 97, 114]⟩, ⟨#[108, 111, 110, 103]⟩, ⟨#[118, 111, 105, 100]⟩, ⟨#[116, 121, 112, 101, 100, 101, 102]⟩, ⟨#[105, 102]⟩, ⟨#[101, 108, 115, 101]⟩, ⟨#[119, 104, 105, 108, 101]⟩, ⟨#[114, 101, 116, 117, 114, 110]⟩] s _ (st_lit w _ 9) (by decide))
  have HB : Hid (Lib.containsS [⟨#[105, 110, 116]⟩, ⟨#[99, 104, 97, 114]⟩, ⟨#[108, 111, 110, 103]⟩, ⟨#[118, 111, 105, 100]⟩, ⟨#[116, 121, 112, 101, 100, 101, 102]⟩, ⟨#[105, 102]⟩, ⟨#[101, 108, 115, 101]⟩, ⟨#[119, 104, 105, 108, 101]⟩, ⟨#[114, 101, 116, 117, 114, 110]⟩] s = keyW s.data.toList) := by
    show _ = _
    rw [cont_any]
    unfold keyW
    simp only [List.any_cons, List.any_nil, Bool.or_false, Bool.or_assoc]
  rw [HB.out] at HH
  go_enter Try.func14, Try.ntmps14
  go_wp2_with (go_at_call 26; refine HH.out.mono ?_; rintro e1 w1 ⟨rfl, hb1⟩)
  go_ret
  exact ⟨rfl, ((Below.refl _ w).alloc (Nat.le_refl _) _).trans (hb1.mono (by simp))⟩

section
variable {w w' : World} {r : Nat} {la : Option Addr} {lc : Nat} {L : List Tk} {e f a d : Int}
theorem kept_below {X : Nat → Prop} (h : Below w.heap.size w w') : Kept X w w' := kept_of_below h
/-- It stays where another block is written. -/
theorem PxAt.far_put (h : PxAt w r la lc L e f a d) {B : Nat} (hr : r < B) (hb : ∀ g, g ≠ B → w'.heap[g]? = w.heap[g]?) (hz : w'.heap.size = w.heap.size) (hB : ∀ b off, la = some ⟨b, off, none⟩ → L ≠ [] → b ≠ B) : PxAt w' r la lc L e f a d := by
  refine ⟨(hb r (by omega)).trans h.box, ?_, h.far, h.few⟩
  by_cases hL : L = []
  · exact .inl hL
  rcases h.toks with h0 | ⟨b, off, rfl, hlt, hc⟩
  · exact .inl h0
  · refine .inr ⟨b, off, rfl, by omega, fun j x hx k v hv => ?_⟩
    have e := hb b (hB b off rfl hL)
    have := hc j x hx k v hv
    simpa [World.cell?, e] using this
/-- Where its tokens lie. -/
theorem PxAt.under (h : PxAt w r la lc L e f a d) : ∀ b off, la = some ⟨b, off, none⟩ → L ≠ [] → b < w.heap.size := by
  intro b off e1 hL
  rcases h.toks with h0 | ⟨b', off', e2, hlt, _⟩
  · exact absurd h0 hL
  · rw [e1] at e2; cases e2; exact hlt
/-- What is looked up. -/
theorem en_look {w : World} {b n : Nat} {D : DataW Unit} {en : En} (h : w.ownsMap Try.prog 9 (plainElem Try.prog 4) b n D) (hD : EnIs D en) (x : ByteArray) (hx : x.size ≤ maxLen) :
    (Instr.lookup 52 (.map (some b)) (.string x) false).run Try.prog w = .ok (.bool (typN en x.data.toList)) w := by
  obtain ⟨es, clock, hb, F, _, rfl⟩ := h
  have zeroB : (zeroValue 4).run Try.prog w = .ok (.bool false) w := Try.zeroValue4 w
  rcases Go.Maps.fit_look false (Go.Maps.string_keyed Try.underlying9) Try.underlying52 zeroB hb F (key_mk hx) with ⟨hrun, _, hat⟩ | ⟨e0, y, _, _, hrun, hRv, hat, _⟩
  · rcases hD.2 x.data.toList with ⟨h0, _⟩ | ⟨_, h1⟩
    · rw [hrun, typN_has h0]; rfl
    · have e1 := hat (.lit (.int .i64 0))
      rw [h1] at e1
      cases e1
  · rcases hD.2 x.data.toList with ⟨_, h1⟩ | ⟨h0, h1⟩
    · have e1 := hat (.lit (.bool true))
      have e2 := hat (.lit (.bool false))
      rw [h1] at e1 e2
      rw [← e1] at e2
      cases e2
    · have e1 := hat (.lit (.bool true))
      rw [h1] at e1
      obtain ⟨a, hv, hz⟩ := bool_inv hRv
      rw [hz] at e1
      cases e1
      rw [hrun, hv]
      simp

theorem wrd_size (hs : ∀ t ∈ L, t.text.size ≤ 3000) (i : Nat) : (wrdB L i).size ≤ 3000 := by
  unfold wrdB
  split
  · rename_i t ht
    split
    · exact hs t (List.mem_of_getElem? ht)
    · exact Nat.zero_le _
  · exact Nat.zero_le _

set_option maxRecDepth 100000 in
set_option maxHeartbeats 1000000 in
theorem pistype_any (w : World) (h : PxAt w r la lc L e f a d) (hs : ∀ t ∈ L, t.text.size ≤ 3000) {v : Value} {en : En} (hv : EnAt w v en) (i : Nat) :
    Calls Try.prog 54 #[.pointer (some ⟨r, 0, none⟩), v, .int .i64 (i : Int)] w fun x w' => x = .returned (.bool (typT L en i)) ∧ Below w.heap.size w w' := by
  obtain ⟨b, D, rfl, h1, h2⟩ := hv
  have HW := hid (fun W (hb : Below w.heap.size w W) => pword_any W (h.below hb) i)
  have HB := hid (fun W => Base_any (wrdB L i) W)
  have HK := hid (fun W (hb : Below w.heap.size w W) => en_look (emap_same h1 (hb.block b h1.lt)) h2 (wrdB L i) (Nat.le_trans (wrd_size hs i) (by unfold maxLen; omega)))
  have HT : Hid (typT L en i = (baseW (wordT L i) || typN en (wordT L i))) := rfl
  rw [wrdB_is] at HB HK
  generalize baseW (wordT L i) = x1 at HB HT
  generalize typN en (wordT L i) = x2 at HK HT
  generalize typT L en i = x3 at HT ⊢
  generalize wrdB L i = wb at HW HB HK
  clear h h1 h2 hs
  go_enter Try.func54, Try.ntmps54
  cases x1 with
  | true =>
    go_wp2_with (first
      | (go_at_call 31; refine (HW.out _ (Below.refl _ _)).mono ?_; rintro e1 w1 ⟨rfl, rfl⟩)
      | (go_at_call 44; refine (HB.out _).mono ?_; rintro e1 w2 ⟨rfl, hb2⟩))
    go_ret
    exact ⟨by rw [HT.out]; rfl, hb2⟩
  | false =>
    go_wp2_with fail
    refine (HW.out _ (Below.refl _ _)).mono ?_
    rintro e1 w1 ⟨rfl, rfl⟩
    go_wp2_with fail
    refine (HB.out _).mono ?_
    rintro e1 w2 ⟨rfl, hb2⟩
    have hlk := HK.out _ hb2
    go_wp2_with fail
    refine (HW.out _ hb2).mono ?_
    rintro e1 w3 ⟨rfl, rfl⟩
    go_wp2_with fail
    go_ret
    exact ⟨by rw [HT.out]; rfl, hb2⟩

set_option maxRecDepth 100000 in
set_option maxHeartbeats 1000000 in
theorem ptype_hit (w : World) (h : PxAt w r la lc L e f a d) (hs : ∀ t ∈ L, t.text.size ≤ 3000) {v : Value} {en : En} (hv : EnAt w v en) (i : Nat) (hi : i ≤ 1000000) (ht : typT L en i = true) :
    Calls Try.prog 33 #[.pointer (some ⟨r, 0, none⟩), v, .int .i64 (i : Int)] w fun x w' => x = .returned (.tuple #[aggN ⟨16, i, none, 0, 0⟩, .int .i64 ((i + 1 : Nat) : Int)]) ∧ Below w.heap.size w w' := by
  have hB0 := (Below.refl w.heap.size w).alloc (Nat.le_refl _) (boxN zeroN)
  have HI := hid (pistype_any _ (h.below hB0) hs (hv.below hB0) i)
  rw [ht] at HI
  have HN := hid (heap_alloc_new w (boxN zeroN))
  have HB0 := hid hB0
  obtain ⟨b, D, rfl, _, _⟩ := hv
  have hw1 : IntKind.i64.wrap ((i : Int) + 1) = ((i + 1 : Nat) : Int) := by rw [IntKind.wrap_i64]; omega
  clear h hs hB0 ht
  go_enter Try.func33, Try.ntmps33
  go_wp2_with fail
  refine HI.out.mono ?_
  rintro e1 w1 ⟨rfl, hb1⟩
  have HN1 := hid ((hb1.block _ (lt_of_block HN.out)).trans HN.out)
  have HB1 := hid (HB0.out.trans (hb1.mono HB0.out.size))
  obtain ⟨⟨z0, z1, z2⟩, z3, z4, z5⟩ := boxN_facts HN1.out
  have hlt := lt_of_block HN1.out
  clear hb1
  go_wp2_with fail
  refine bodyPost_ret (nret2 Try.results33 (putN_block ⟨16, i, none, 0, 0⟩ HN1.out) _ rfl rfl) rfl ⟨by first | rfl | go_num | simp, ?_⟩
  exact ((HB1.out.setCell (p := ⟨_, 0, none⟩) (Nat.le_refl _) _).setCell (p := ⟨_, 1, none⟩) (Nat.le_refl _) _).setCell (p := ⟨_, 2, none⟩) (Nat.le_refl _) _

set_option maxRecDepth 100000 in
set_option maxHeartbeats 1000000 in
theorem ptype_miss (w : World) (h : PxAt w r la lc L 0 f a d) (hs : ∀ t ∈ L, t.text.size ≤ 3000) {v : Value} {en : En} (hv : EnAt w v en) (i : Nat) (hi : i ≤ 1000000) (ht : typT L en i = false) :
    Calls Try.prog 33 #[.pointer (some ⟨r, 0, none⟩), v, .int .i64 (i : Int)] w fun x w' => x = .returned (.tuple #[aggN ⟨16, i, none, 0, 0⟩, .int .i64 ((i + 1 : Nat) : Int)]) ∧ PxAt w' r la lc L 2 (placeT L i).1 (placeT L i).2 d ∧ Kept (· = r) w w' := by
  have hB0 := (Below.refl w.heap.size w).alloc (Nat.le_refl _) (boxN zeroN)
  have HI := hid (pistype_any _ (h.below hB0) hs (hv.below hB0) i)
  rw [ht] at HI
  have HN := hid (heap_alloc_new w (boxN zeroN))
  have HB0 := hid hB0
  have HP := hid (h.below hB0)
  have HU := hid h.under
  have hrw := h.lt
  obtain ⟨b, D, rfl, _, _⟩ := hv
  have hw1 : IntKind.i64.wrap ((i : Int) + 1) = ((i + 1 : Nat) : Int) := by rw [IntKind.wrap_i64]; omega
  clear h hs hB0 ht
  go_enter Try.func33, Try.ntmps33
  go_wp2_with fail
  refine HI.out.mono ?_
  rintro e1 w1 ⟨rfl, hb1⟩
  have HN1 := hid ((hb1.block _ (lt_of_block HN.out)).trans HN.out)
  have HB1 := hid (HB0.out.trans (hb1.mono HB0.out.size))
  have HS := hid (pstop_ok w1 (HP.out.below hb1) i 2)
  clear hb1
  go_wp2_with fail
  refine HS.out.mono ?_
  rintro e1 w2 ⟨rfl, hp2, hk2⟩
  have HN2 := hid ((hk2.block _ (lt_of_block HN1.out) (by omega)).trans HN1.out)
  have HK2 := hid ((kept_below (X := (· = r)) HB1.out).trans hk2)
  have HP2 := hid hp2
  have HF : Hid (PxAt (putN w2 w.heap.size ⟨16, i, none, 0, 0⟩) r la lc L 2 (placeT L i).1 (placeT L i).2 d) := PxAt.far_put hp2 hrw (fun g hg => putN_other w2 w.heap.size ⟨16, i, none, 0, 0⟩ g hg) (putN_size _ _ _) (fun b off e hL => by have := HU.out b off e hL; omega)
  obtain ⟨⟨z0, z1, z2⟩, z3, z4, z5⟩ := boxN_facts HN2.out
  have hlt := lt_of_block HN2.out
  clear hk2 hp2
  go_wp2_with fail
  exact bodyPost_ret (nret2 Try.results33 (putN_block ⟨16, i, none, 0, 0⟩ HN2.out) _ rfl rfl) rfl ⟨by first | rfl | go_num | simp, HF.out, putN_kept HK2.out (Nat.le_refl _) ⟨16, i, none, 0, 0⟩⟩

set_option maxRecDepth 100000 in
set_option maxHeartbeats 1000000 in
theorem pnamed_hit (w : World) (h : PxAt w r la lc L e f a d) (i : Nat) (hn : nameT L i = true) :
    Calls Try.prog 56 #[.pointer (some ⟨r, 0, none⟩), .int .i64 (i : Int)] w fun x w' => x = .returned (.tuple #[]) ∧ Below w.heap.size w w' := by
  obtain ⟨⟨b0, b1, b2, b3, b4⟩, _⟩ := h.facts
  have hR := h.lt
  have hi : i < L.length := nam_lt hn
  obtain ⟨b, off, rfl, hb, hne, hc⟩ := h.at i hi
  have c0 := hc 0 _ rfl
  have c1 := hc 1 _ rfl
  simp only [Nat.add_zero] at c0
  unfold nameT at hn
  rw [List.getElem?_eq_getElem hi] at hn
  have hk1 : L[i].kind = 1 := by have := (Bool.and_eq_true_iff.1 hn).1; exact of_decide_eq_true this
  have hk2 : keyW L[i].text.data.toList = false := by have := (Bool.and_eq_true_iff.1 hn).2; simpa using this
  have HK := hid (fun W => RKey_any L[i].text W)
  rw [hk2] at HK
  rw [hk1] at c0
  generalize L[i].text = tx at c1 HK
  clear h hc hn hk1 hk2
  have hi2 : ¬ (L.length : Int) ≤ (i : Int) := by omega
  have hi3 : decide ((L.length : Int) ≤ (i : Int)) = false := by simp; omega
  have hi4 : (i : Int) < (L.length : Int) := by omega
  have hi0 : (0 : Int) ≤ (i : Int) := by omega
  go_enter Try.func56, Try.ntmps56
  go_wp2_with (go_at_call 14; refine (HK.out _).mono ?_; rintro e1 w1 ⟨rfl, hb1⟩)
  go_end0
  exact ⟨rfl, hb1⟩

set_option maxRecDepth 100000 in
set_option maxHeartbeats 1000000 in
theorem pnamed_miss (w : World) (h : PxAt w r la lc L 0 f a d) (i : Nat) (hn : nameT L i = false) :
    Calls Try.prog 56 #[.pointer (some ⟨r, 0, none⟩), .int .i64 (i : Int)] w fun x w' => x = .returned (.tuple #[]) ∧ PxAt w' r la lc L 2 (placeT L i).1 (placeT L i).2 d ∧ Kept (· = r) w w' := by
  obtain ⟨⟨b0, b1, b2, b3, b4⟩, _⟩ := h.facts
  have hR := h.lt
  have HS := hid (fun W (hb : Below w.heap.size w W) => pstop_ok W (h.below hb) i 2)
  by_cases hi : i < L.length
  · obtain ⟨b, off, rfl, hb, hne, hc⟩ := h.at i hi
    have c0 := hc 0 _ rfl
    have c1 := hc 1 _ rfl
    simp only [Nat.add_zero] at c0
    unfold nameT at hn
    rw [List.getElem?_eq_getElem hi] at hn
    dsimp only at hn
    have HK := hid (fun W => RKey_any L[i].text W)
    generalize L[i].text = tx at c1 HK hn
    generalize L[i].kind = kk at c0 hn
    have hi2 : ¬ (L.length : Int) ≤ (i : Int) := by omega
    have hi3 : decide ((L.length : Int) ≤ (i : Int)) = false := by simp; omega
    have hi4 : (i : Int) < (L.length : Int) := by omega
    have hi0 : (0 : Int) ≤ (i : Int) := by omega
    clear h hc
    by_cases hk : kk = 1
    · subst hk
      have hk2 : keyW tx.data.toList = true := by simpa using hn
      rw [hk2] at HK
      clear hn hk2
      go_enter Try.func56, Try.ntmps56
      go_wp2_with fail
      refine (HK.out _).mono ?_
      rintro e1 w1 ⟨rfl, hb1⟩
      go_wp2_with fail
      refine (HS.out _ hb1).mono ?_
      rintro e1 w2 ⟨rfl, hp2, hk2⟩
      go_wp2_with fail
      go_end0
      exact ⟨rfl, hp2, (kept_below hb1).trans hk2⟩
    · have hkb : (kk != 1) = true := by simpa using hk
      have hkb2 : (kk == 1) = false := by simpa using hk
      clear hn hk
      go_enter Try.func56, Try.ntmps56
      go_wp2_with fail
      refine (HS.out _ (Below.refl _ _)).mono ?_
      rintro e1 w2 ⟨rfl, hp2, hk2⟩
      go_wp2_with fail
      go_end0
      exact ⟨rfl, hp2, hk2⟩
  · have hi2 : (L.length : Int) ≤ (i : Int) := by omega
    have hi3 : decide ((L.length : Int) ≤ (i : Int)) = true := by simp; omega
    clear h hn
    go_enter Try.func56, Try.ntmps56
    go_wp2_with fail
    refine (HS.out _ (Below.refl _ _)).mono ?_
    rintro e1 w2 ⟨rfl, hp2, hk2⟩
    go_wp2_with fail
    go_end0
    exact ⟨rfl, hp2, hk2⟩
end
end Go.Proofs.Ytkfbhknhjpmomaa
