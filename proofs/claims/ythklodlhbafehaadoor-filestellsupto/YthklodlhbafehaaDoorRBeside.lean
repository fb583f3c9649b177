/- Walk of the document's own Beside: a call returns what Beside's spec says. -/
import Derived.Test.YthklodlhbafehaaDoorUpFacts
import Derived.Maps.AppendAt
namespace Go.Proofs.YthklodlhbafehaaDoor
open Go.RowKit Go.Shelf

theorem strs_one (ps : List (List UInt8)) : ∀ u ∈ strs ps, u.oneCell' = true := by
  intro u hu
  simp only [strs, List.mem_map] at hu
  obtain ⟨p, _, rfl⟩ := hu
  rfl
theorem strs_append (a b : List (List UInt8)) : strs (a ++ b) = strs a ++ strs b := by simp [strs]

/-- A shorter row. -/
theorem row_short {w : World} {base : Nat} {v : Value} {u : List (List UInt8)} (h : w.ownsRow base 9 1 v u.length (strs u)) (h0 : u ≠ []) :
    ∃ g cap, v = .slice (some ⟨g, 0, none⟩) u.length cap ∧ w.ownsRow base 9 1 (.slice (some ⟨g, 0, none⟩) u.dropLast.length cap) u.dropLast.length (strs u.dropLast) := by
  rcases h.2 with ⟨_, hn⟩ | ⟨g, cap, cur, rfl, hb, hg, hn, hc, hs, ht⟩
  · exact absurd (List.eq_nil_of_length_eq_zero hn) h0
  · refine ⟨g, cap, rfl, by simp [strs], .inr ⟨g, cap, cur, rfl, hb, hg, by simp; omega, hc, hs, ?_⟩⟩
    have e : strs u.dropLast = (strs u).take (u.dropLast.length * 1) := by
      rw [strs, strs, List.dropLast_eq_take, List.map_take, List.length_take]
      congr 1
      omega
    rw [e, ← ht, List.take_take]
    congr 1
    simp

theorem row_below {w w' : World} {base : Nat} {e : TypeId} {size : Nat} {v : Value} {n : Nat} {xs : List Value} (h : w.ownsRow base e size v n xs) (hb : Below w.heap.size w w') : w'.ownsRow base e size v n xs := by
  refine ⟨h.1, ?_⟩
  rcases h.2 with h | ⟨g, cap, cur, rfl, h1, hg, h3⟩
  · exact .inl h
  · exact .inr ⟨g, cap, cur, rfl, h1, (hb.block g (Array.getElem?_eq_some_iff.1 hg).1).trans hg, h3⟩

theorem ret_str {a b : ByteArray} (h : a = b) : Ending.returned (.string a) = .returned (.string b) := by rw [h]
theorem row_len {w : World} {base : Nat} {e : TypeId} {size : Nat} {v : Value} {n : Nat} {xs : List Value} (h : w.ownsRow base e size v n xs) : ∃ a c, v = .slice a n c := by
  rcases h.2 with ⟨rfl, rfl⟩ | ⟨g, cap, cur, rfl, _⟩
  · exact ⟨_, _, rfl⟩
  · exact ⟨_, _, rfl⟩

theorem size_textUp : ∀ (u : List (List UInt8)), (∀ p ∈ u, p.length ≤ 1048576) → (textUp u).size ≤ u.length * 1048577 := by
  intro u h
  unfold textUp
  rw [size_toB, List.length_drop]
  have : (joined u).length ≤ u.length * 1048577 := by
    induction u with
    | nil => simp [joined]
    | cons a b ih =>
      have h1 := h a (by simp)
      have h2 := ih (fun p hp => h p (by simp [hp]))
      simp only [joined, List.flatMap_cons, List.length_append, List.length_cons] at h2 ⊢
      omega
  omega
theorem empty_add (p : List UInt8) : (⟨#[]⟩ : ByteArray) ++ toB p = toB p := by
  rw [← toB_data ((⟨#[]⟩ : ByteArray) ++ toB p)]
  congr 1

/-- What holds at a round's head: u, the pieces so far, lie in a row of the call's own; the path's pieces lie in block g2. -/
structure UpAt (ps2 : List (List UInt8)) (n0 : Nat) (g2 k : Nat) (u0 : List (List UInt8)) (v : Value) (w wr : World) (u : List (List UInt8)) : Prop where
  old : Below w.heap.size w wr
  fold : (ps2.take k).foldl stepUp (some u0) = some u
  own : wr.ownsRow w.heap.size 9 1 v u.length (strs u)
  apart : v.ownBlock ≠ some g2
  low : g2 < wr.heap.size
  pcs : ∀ j (hj : j < ps2.length), wr.cell? ⟨g2, j, none⟩ = some (.string (toB ps2[j]))
  few : u.length ≤ n0 + k
  small : ∀ p ∈ u, p.length ≤ 1048576

set_option maxRecDepth 100000 in
set_option maxHeartbeats 1000000 in
theorem rbeside_any (s path : ByteArray) (w : World) (hs : s.size ≤ 1048576) (hp : path.size ≤ 1048576) :
    Calls Tryd.prog 16 #[.string s, .string path] w fun e w' => e = .returned (.string (besideB s path)) ∧ Below w.heap.size w w' := by
  obtain ⟨i0, hi, hz0, hz1, hz2⟩ := info_parts info_string
  have HS1 := hid (rsplit_any s w (by omega))
  have HS2 := hid (fun W => rsplit_any path W (by omega))
  have hpl := pcsL_length s.data.toList
  have hpl2 := pcsL_length path.data.toList
  have hne2 := pcsL_ne path.data.toList
  obtain ⟨ini, x, hps⟩ := pcsL_last s.data.toList
  have HBe := hid (beside_up s path)
  unfold upOf at HBe
  rw [hps, List.dropLast_concat] at HBe
  rw [hps] at HS1 hpl
  have hss : s.data.toList.length = s.size := by simp
  have hpp : path.data.toList.length = path.size := by simp
  have hsm2 : ∀ p ∈ pcsL path.data.toList, p.length ≤ 1048576 := fun p hp' => by have := pcsL_len _ p hp'; omega
  have hsm0 : ∀ p ∈ ini, p.length ≤ 1048576 := fun p hp' => by have := pcsL_len s.data.toList p (by rw [hps]; simp [hp']); omega
  generalize pcsL path.data.toList = ps2 at HS2 hpl2 hne2 HBe hsm2
  have hnl : (ini ++ [x]).length = ini.length + 1 := by simp
  have Hini : Hid (strs (ini ++ [x]) = strs ini ++ strs [x]) := strs_append _ _
  generalize hn : (ini ++ [x]).length = n at *
  have hn1 : (n : Int) - 1 = (ini.length : Int) := by omega
  have hn2 : ini.length ≤ n := by omega
  have hn3 : n ≤ 1048577 := by omega
  have hw1 : IntKind.i64.wrap (ini.length : Int) = (ini.length : Int) := wrap_small _ (by omega)
  go_enter Tryd.func16, Tryd.ntmps16
  go_wp2_with fail
  refine HS1.out.mono ?_
  rintro e w1 ⟨v, rfl, hown, hb1⟩
  have hown' : w1.ownsRow w.heap.size 9 1 v (ini ++ [x]).length (strs (ini ++ [x])) := by rw [hn]; exact hown
  obtain ⟨g, cap, rfl, hbg, hgl, hcells⟩ := row_strs hown' (by simp)
  have hnc : n ≤ cap := by
    rcases hown.2 with ⟨h, _⟩ | ⟨g', cap', cur, h, _, _, h3, _⟩
    · cases h
    · cases h; exact h3
  have HB1 := hid hb1
  have HCe : Hid (∀ j u, (strs ini)[j]? = some u → (w1.alloc (.cells #[] 9)).cell? ((⟨g, 0, none⟩ : Addr).add j) = some u) := fun j u hu => by
    have hj : j < ini.length := by have := (List.getElem?_eq_some_iff.1 hu).1; rwa [strs_length] at this
    rw [Addr.add_lit, Nat.zero_add, ((Below.refl _ w1).alloc (Nat.le_refl _) _).cell (p := ⟨g, j, none⟩) hgl]
    have h1 := hcells j (by simp; omega)
    rw [h1]
    rw [← hu]
    simp [strs, hj]
  have hown0 : (w1.alloc (.cells #[] 9)).ownsRow w.heap.size 9 1 (.slice (some ⟨w1.heap.size, 0, none⟩) 0 0) 0 [] := ⟨rfl, .inr ⟨w1.heap.size, 0, #[], rfl, hb1.size, World.alloc_heap_new w1 _, Nat.le_refl _, by unfold maxLen; omega, rfl, rfl⟩⟩
  rw [hn] at *
  clear hown hown' hcells HS1 hb1
  go_wp2_with (at_builtin; refine wpList_append_own_at _ rfl _ _ 45 rfl w.heap.size 9 i0 _ 1 16 Tryd.underlying45 hi hz0 hz1 hz2 rfl (by decide) _ _ _ rfl hown0 ⟨g, 0, none⟩ ini.length cap (strs ini) rfl (by rw [strs_length]; omega) HCe.out (strs_one ini) (by unfold maxLen; omega) (by omega) (by have := HB1.out.size; simp; omega) ?_)
  intro v' w2 hown2 hg2 _ _
  have HB2 := hid ((HB1.out.alloc HB1.out.size _).grown hg2 (by have := HB1.out.size; simp; omega) (fun j e => by simp [Value.ownBlock] at e; have := HB1.out.size; omega))
  have HO2 := hid hown2
  have hvl := hown2.lt
  obtain ⟨av, nv, cv, rfl⟩ := row_slice1 hown2
  clear hown2 hg2 hown0 HCe
  go_wp2_with fail
  refine (HS2.out w2).mono ?_
  rintro e w3 ⟨v3, rfl, hown3, hb3⟩
  obtain ⟨g2, cap2, rfl, hbg2, hgl2, hcells2⟩ := row_strs hown3 hne2
  have hU0 : UpAt ps2 ini.length g2 0 ini (.slice av nv cv) w w3 ini :=
    ⟨HB2.out.trans (hb3.mono HB2.out.size), rfl, row_below HO2.out hb3, fun e => by have := (hvl _ e).2; omega, hgl2, hcells2, by omega, hsm0⟩
  have HU0 := hid hU0
  clear hown3 hb3 hcells2 hU0 HO2 hvl HB2 HS2 HB1
  go_wp2_with fail
  go_loopw [5, 23] (fun v i wr => ∃ k : Nat, k ≤ ps2.length ∧ i = .int .i64 k ∧ Hid (∃ u, UpAt ps2 ini.length g2 k ini v w wr u)) (fun _ i _ => ps2.length - (intOf i).toNat)
  case atStart => exact ⟨0, Nat.zero_le _, rfl, _, HU0.out⟩
  case round =>
    clear HU0
    obtain ⟨k, hk, rfl, H⟩ := hrel
    obtain ⟨u, hU⟩ := H.out
    clear H
    by_cases hlt : k < ps2.length
    · have hcl := hU.pcs k hlt
      have HT : Hid ((ps2.take (k + 1)).foldl stepUp (some ini) = stepUp (some u) ps2[k]) := by
        show _ = _
        rw [List.take_succ_eq_append_getElem hlt, List.foldl_append, hU.fold]; rfl
      have HX : stepUp (some u) ps2[k] = none → Hid (besideB s path = ⟨#[]⟩) := fun h => by
        show _ = _
        have hd : ps2 = ps2.take (k + 1) ++ ps2.drop (k + 1) := (List.take_append_drop _ _).symm
        have : ps2.foldl stepUp (some ini) = none := by rw [hd, List.foldl_append, HT.out, h]; exact fold_none _
        rw [HBe.out, this]
      have HPl := hid (hsm2 ps2[k] (List.getElem_mem hlt))
      generalize ps2[k] = p at hcl HT HX HPl
      have hfew := hU.few
      have hown := hU.own
      have HU := hid hU
      have he2 : (toB p).toList = p := toList_toB p
      have Hq : Hid (strs [p] = [.string (toB p)]) := rfl
      generalize toB p = q at hcl he2 Hq
      clear hU
      by_cases h2 : p = [46, 46]
      · have hq2 : (q.toList == [46, 46]) = true := by rw [he2, h2]; rfl
        by_cases h0 : u = []
        · have HN := HX (by subst h0; simp [stepUp, h2])
          subst h0
          obtain ⟨av', cv', rfl⟩ := row_len hown
          clear HX HT hown Hq he2 h2
          go_wp2_with fail
          go_ret
          exact ⟨ret_str HN.out.symm, HU.out.old⟩
        · obtain ⟨g', c', rfl, hsh⟩ := row_short hown h0
          have HS : Hid (stepUp (some u) p = some u.dropLast) := by show _ = _; simp [stepUp, h2, h0]
          have hul : u.dropLast.length = u.length - 1 := List.length_dropLast
          have hu0 : 0 < u.length := List.length_pos_iff.2 h0
          have HU2 : Hid (UpAt ps2 ini.length g2 (k + 1) ini (.slice (some ⟨g', 0, none⟩) u.dropLast.length c') w wr u.dropLast) := ⟨HU.out.old, by rw [HT.out, HS.out], hsh, HU.out.apart, HU.out.low, HU.out.pcs, by rw [hul]; omega, fun p hp => HU.out.small p (List.dropLast_subset _ hp)⟩
          have hcap : u.length ≤ c' := by
            rcases hown.2 with ⟨h, _⟩ | ⟨_, _, _, h, _, _, h3, _⟩
            · cases h
            · cases h; exact h3
          clear HX HT hown Hq he2 h2 hsh HS HU h0
          generalize u.dropLast.length = m at HU2 hul
          generalize hun : u.length = nu at *
          have hm1 : (nu : Int) - 1 = (m : Int) := by omega
          have hmn : m ≤ nu := by omega
          have hw2 : IntKind.i64.wrap (m : Int) = (m : Int) := wrap_small _ (by omega)
          have hd0 : ((nu : Int) == 0) = false := by simp; omega
          have Hul := hid hul
          clear hun hul
          go_wp2_with fail
          go_roundw
          case rel => exact ⟨k + 1, by omega, by go_num, _, HU2.out⟩
          case measure => simp [intOf]; omega
      · have hq2 : (q.toList == [46, 46]) = false := by rw [he2]; simpa using h2
        by_cases h1 : p = [46]
        · have hq1 : (q.toList == [46]) = true := by rw [he2, h1]; rfl
          have hq1' : (q.toList != [46]) = false := by rw [bne, hq1]; rfl
          have HU2 : Hid (UpAt ps2 ini.length g2 (k + 1) ini u5 w wr u) := ⟨HU.out.old, by rw [HT.out]; simp [stepUp, h1], hown, HU.out.apart, HU.out.low, HU.out.pcs, by omega, HU.out.small⟩
          obtain ⟨av', cv', rfl⟩ := row_len hown
          clear HX HT hown Hq he2 h2 h1 HU
          go_wp2_with fail
          go_roundw
          case rel => exact ⟨k + 1, by omega, by go_num, _, HU2.out⟩
          case measure => simp [intOf]; omega
        · have hq1 : (q.toList == [46]) = false := by rw [he2]; simpa using h1
          have hq1' : (q.toList != [46]) = true := by rw [bne, hq1]; rfl
          have HS : Hid ((ps2.take (k + 1)).foldl stepUp (some ini) = some (u ++ [p])) := by show _ = _; rw [HT.out]; simp [stepUp, h1, h2]
          clear HX HT he2 h2 h1
          go_wp2_with (at_builtin; refine wpList_append_own_at _ rfl _ _ 45 rfl w.heap.size 9 i0 _ 1 16 Tryd.underlying45 hi hz0 hz1 hz2 rfl (by decide) _ _ _ rfl (hown.alloc _) ⟨wr.heap.size, 0, none⟩ 1 1 [.string q] rfl rfl (row_new wr _ _) (by simp [Value.oneCell']) (by unfold maxLen; omega) (by omega) (by have := HU.out.old.size; simp; omega) ?_)
          intro v' w2 hown2 hg2 _ hob
          have HU2 : Hid (UpAt ps2 ini.length g2 (k + 1) ini v' w w2 (u ++ [p])) := by
            have hsz := HU.out.old.size
            have hlow := HU.out.low
            have hne : ∀ j, u5.ownBlock = some j → j ≠ g2 := fun j e h => HU.out.apart (by rw [e, h])
            refine ⟨(HU.out.old.alloc hsz _).grown hg2 (by simp; omega) (fun j e => (hown.lt j e).1), HS.out, ?_, ?_, ?_, fun j hj => ?_, by simp; omega, fun z hz => ?_⟩
            · rw [strs_append, Hq.out, List.length_append]; exact hown2
            · rcases hob with e | e
              · rw [e]; exact HU.out.apart
              · rw [e]; intro h; injection h with h; omega
            · have := hg2.size; simp at this; omega
            · have h1 := HU.out.pcs j hj
              rw [← h1]
              exact World.cell?_of_block (by rw [hg2.block g2 (by simp; omega) (fun e => hne g2 e.symm rfl)]; exact Below.heap_alloc wr _ _ hlow)
            · rcases List.mem_append.1 hz with hz | hz
              · exact HU.out.small z hz
              · simp at hz; subst hz; exact HPl.out
          obtain ⟨av', nv', cv', rfl⟩ := row_slice1 hown2
          clear hown2 hg2 hob HU HS Hq hown
          go_wp2
          go_roundw
          case rel => exact ⟨k + 1, by omega, by go_num, _, HU2.out⟩
          case measure => simp [intOf]; omega
    · have hfo := hU.fold
      rw [List.take_of_length_le (by omega)] at hfo
      rw [hfo] at HBe
      dsimp only at HBe
      have hown := hU.own
      have hfew := hU.few
      have HB3 := hid hU.old
      obtain ⟨av', cv', rfl⟩ := row_len hown
      have HO := hid hown
      have hsmu := hU.small
      clear hU hfo hown
      have hub : u.length ≤ 3000000 := by omega
      go_wp2_with fail
      go_loop [8, 46] (fun sv i => ∃ j : Nat, j ≤ u.length ∧ i = .int .i64 j ∧ sv = .string (textUp (u.take j))) (fun _ i => u.length - (intOf i).toNat)
      case atStart => exact ⟨0, Nat.zero_le _, rfl, rfl⟩
      case round =>
        obtain ⟨j, hj, rfl, rfl⟩ := hrel
        by_cases hjl : j < u.length
        · have hu0 : u ≠ [] := by rintro rfl; simp at hjl
          obtain ⟨g', c', hvv, _, _, hcs⟩ := row_strs HO.out hu0
          cases hvv
          have hcj := hcs j hjl
          have hzj := hsmu u[j] (List.getElem_mem hjl)
          have hzt := size_textUp (u.take j) (fun p hp => hsmu p (List.mem_of_mem_take hp))
          rw [List.length_take, Nat.min_eq_left hj] at hzt
          have HTk : Hid (u.take (j + 1) = u.take j ++ [u[j]]) := List.take_succ_eq_append_getElem hjl
          have hzq : (toB u[j]).size ≤ 1048576 := by rw [size_toB]; exact hzj
          have hzt2 : (textUp (u.take j)).size ≤ 4000000000000 := by omega
          have h1 : (⟨#[47]⟩ : ByteArray).size = 1 := rfl
          by_cases hj0 : j = 0
          · have HN : Hid (textUp (u.take (j + 1)) = textUp (u.take j) ++ toB u[j]) := by
              show _ = _
              rw [HTk.out]
              have e0 : u.take j = [] := by rw [hj0]; rfl
              rw [e0, textUp_nil, empty_add]; exact textUp_one _
            generalize textUp (u.take j) = S at hzt2 HN ⊢
            generalize toB u[j] = q at hcj hzq HN
            have hcat : ∀ W : World, (Op.stringOp .add S q).run Tryd.prog W = .ok (.string (S ++ q)) W := fun W => run_string_add_sum W _ _ (by omega)
            clear HTk hcs hsmu hzt hzj
            subst hj0
            go_wp2_with fail
            go_round
            case rel => exact ⟨0 + 1, by omega, by go_num, congrArg Value.string HN.out.symm⟩
            case measure => simp [intOf]; omega
          · have HN : Hid (textUp (u.take (j + 1)) = textUp (u.take j) ++ ⟨#[47]⟩ ++ toB u[j]) := by
              show _ = _; rw [HTk.out]; exact textUp_snoc _ _ (fun h => (List.take_eq_nil_iff.1 h).elim hj0 hu0)
            generalize textUp (u.take j) = S at hzt2 HN ⊢
            generalize toB u[j] = q at hcj hzq HN
            have hcat : ∀ W : World, (Op.stringOp .add S { data := #[47] }).run Tryd.prog W = .ok (.string (S ++ ⟨#[47]⟩)) W := fun W => run_string_add_sum W _ _ (by omega)
            have hcat2 : ∀ W : World, (Op.stringOp .add (S ++ ⟨#[47]⟩) q).run Tryd.prog W = .ok (.string (S ++ ⟨#[47]⟩ ++ q)) W := fun W => run_string_add_sum W _ _ (by rw [ByteArray.size_append]; omega)
            have hdj : decide (0 < (j : Int)) = true := by simp; omega
            clear HTk hcs hsmu hzt hzj
            go_wp2_with fail
            go_round
            case rel => exact ⟨j + 1, by omega, by go_num, congrArg Value.string HN.out.symm⟩
            case measure => simp [intOf]; omega
        · have htk : u.take j = u := List.take_of_length_le (by omega)
          have hzt := size_textUp u hsmu
          rw [htk]
          have HC := hid (rclean_any (textUp u) wr (by unfold maxLen; omega))
          generalize textUp u = S at *
          cases hc : cleanB S with
          | true =>
            rw [hc] at HC HBe
            simp only [if_true] at HBe
            clear hsmu
            go_wp2_with fail
            refine HC.out.mono ?_
            rintro e w9 ⟨rfl, hb9⟩
            have HB9 := hid (HB3.out.trans (hb9.mono HB3.out.size))
            clear hb9
            go_wp2_with fail
            go_ret
            exact ⟨ret_str HBe.out.symm, HB9.out⟩
          | false =>
            rw [hc] at HC HBe
            simp only [Bool.false_eq_true, if_false] at HBe
            clear hsmu
            go_wp2_with fail
            refine HC.out.mono ?_
            rintro e w9 ⟨rfl, hb9⟩
            have HB9 := hid (HB3.out.trans (hb9.mono HB3.out.size))
            clear hb9
            go_wp2_with fail
            go_ret
            exact ⟨ret_str HBe.out.symm, HB9.out⟩

end Go.Proofs.YthklodlhbafehaaDoor
