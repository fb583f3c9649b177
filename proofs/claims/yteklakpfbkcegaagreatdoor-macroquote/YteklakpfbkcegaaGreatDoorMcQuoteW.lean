/- Walk of the statement that what is quoted is a text. -/
import Derived.Test.YteklakpfbkcegaaGreatDoorMcQuoteP
import Derived.Test.YteklakpfbkcegaaGreatDoorMcToks
import Derived.Test.YteklakpfbkcegaaGreatDoorLxSmall
namespace Go.Proofs.YteklakpfbkcegaaGreatDoor
open Go.RowKit Go.Shelf

set_option maxRecDepth 100000 in
set_option maxHeartbeats 1000000 in
theorem Quote_walk (HR : RToks) (HL : McLive) (s : ByteArray) (w : World) (hE : Env w) :
    Calls Tryz.prog 5 #[.string s] w fun e w' => e = .returned (.bool true) ∧ Below w.heap.size w w' := by
  have HV := hid (HL w hE)
  have HTk := hid (fun W => toks_any HR s W)
  unfold ToksPost at HTk
  have HRT := hid (fun t W => HR 0 t W)
  unfold TokPost faultV at HRT
  have HQt := hid (fun W (hW : Below w.heap.size w W) a c ts hT hl hz => Quote_any a c ts 0 ⟨#[]⟩ false false 0 0 0 0 none 0 0 none 0 0 0 W (hE.below hW).1 hT hl hz)
  have HKS := hid (toks_says 0 s.data.toList)
  have HSm := hid (toks_small 0 s.data.toList)
  generalize (toksF 0 s.data.toList).1 = ts at HTk HKS HSm
  clear HR HL hE
  go_enter Tryz.func5, Tryz.ntmps5
  go_wp2_with fail
  refine HV.out.mono ?_
  rintro e w1 ⟨rfl, hb1⟩
  have HB1 := hid hb1
  clear hb1 HV
  go_wp2_with fail
  refine (HTk.out _).mono ?_
  rintro e w2 ⟨a, c, rfl, hT2, hb2, hcap⟩
  have HB2 := hid (HB1.out.trans (hb2.mono HB1.out.size))
  have HT2 := hid hT2
  clear hb2 hcap HTk hT2
  go_wp2_with fail
  go_loopw [18] (fun x wr => ∃ k : Nat, k ≤ ts.length ∧ x = .int .i64 k ∧ Hid (Below w2.heap.size w2 wr ∧ ∀ t ∈ ts.take k, t.kind ≠ 6 ∧ t.kind ≠ 7)) (fun x _ => ts.length - (intOf x).toNat)
  case atStart => exact ⟨0, Nat.zero_le _, rfl, Below.refl _ _, fun t ht => by simp at ht⟩
  case round =>
    obtain ⟨k, hk, rfl, HC⟩ := hrel
    have HBr := hid (HB2.out.trans (HC.out.1.mono HB2.out.size))
    by_cases hlt : k < ts.length
    · obtain ⟨x, hx⟩ : ∃ x, ts[k]? = some x := ⟨_, List.getElem?_eq_getElem hlt⟩
      have HX := hid hx
      rcases HT2.out with h0 | ⟨b0, off, rfl, hb0, hcx⟩
      · rw [h0] at hlt; exact absurd hlt (Nat.not_lt_zero _)
      obtain ⟨c0, c1, c2, c3, c4, c5, c6, c7, c8, c9, c10⟩ := tk_cells (w := wr) (fun i v hv => (HC.out.1.cell (p := ⟨b0, off + k * 11 + i, none⟩) hb0).trans (hcx k x hx i v hv))
      obtain ⟨tk, tt, tsp, tfi, tf, tl, th, tn⟩ := x
      dsimp only at c0 c1 c2 c3 c4 c5 c6 c7 c8 c9 c10
      have hki : (k : Int) < (ts.length : Int) := Int.ofNat_lt.2 hlt
      have hk0 : (0 : Int) ≤ (k : Int) := Int.natCast_nonneg _
      have hkp := nxt_k (Nat.le_trans hk (Nat.le_trans HSm.out.1 (by decide)))
      have hkw := nxt_w (Nat.le_trans hk (Nat.le_trans HSm.out.1 (by decide)))
      clear hcx hx hb0
      by_cases h6 : tk = 6
      · subst h6
        go_wp2_with fail
        go_ret
        exact ⟨rfl, HBr.out.alloc HBr.out.size _⟩
      · by_cases h7 : tk = 7
        · subst h7
          go_wp2_with fail
          go_ret
          exact ⟨rfl, HBr.out.alloc HBr.out.size _⟩
        · have e6 : (tk == 6) = false := by simpa using h6
          have e7 : (tk == 7) = false := by simpa using h7
          go_wp2_with fail
          refine ⟨⟨k + 1, hlt, by go_num, hid ⟨HC.out.1.alloc HC.out.1.size _, fun t ht => ?_⟩⟩, less_j hlt (by go_num)⟩
          rw [List.take_add_one, HX.out] at ht
          rcases List.mem_append.1 ht with ht | ht
          · exact HC.out.2 t ht
          · simp at ht
            subst ht
            exact ⟨h6, h7⟩
    · obtain rfl : k = ts.length := by omega
      have HG : Hid (∀ t ∈ ts, t.kind ≠ 6 ∧ t.kind ≠ 7) := fun t ht => HC.out.2 t (by rw [List.take_length]; exact ht)
      have HKG : Hid (∀ t ∈ ts, KindSays t.kind t.text.data.toList ∧ t.kind ≠ 6 ∧ t.kind ≠ 7) := fun t ht => ⟨HKS.out t ht, HG.out t ht⟩
      have HT3 := hid (HT2.out.below HC.out.1)
      have HQ3 := hid (HQt.out _ HBr.out a c ts HT3.out (Nat.le_trans HSm.out.1 (by decide)) (fun t ht => Nat.le_trans (HSm.out.2 t ht) (by decide)))
      have HQL := hid (fun h => toks_quoted 0 ts HKG.out h)
      have HGE := hid (quoteL_ge ts)
      clear hk HC HKS HG HKG HQt
      obtain ⟨q, hq⟩ : ∃ q : ByteArray, (⟨(quoteL ts).toArray⟩ : ByteArray) = q := ⟨_, rfl⟩
      have hql : q.data.toList = quoteL ts := by rw [← hq]
      have hqz : q.size = (quoteL ts).length := by rw [← hql, size_data]
      rw [hq] at HQ3
      have HRq := hid (fun W => HRT.out q W)
      rw [hql] at HRq
      rw [← hqz] at HQL HGE
      have HQD := hid hql
      clear HRT hq hql
      go_wp2_with fail
      refine HQ3.out.mono ?_
      rintro e w4 ⟨rfl, hb4⟩
      have HB4 := hid (HBr.out.trans (hb4.mono HBr.out.size))
      have HT4 := hid (HT3.out.below hb4)
      clear hb4 HQ3 HT3 HBr
      by_cases hmu : q.size ≤ 3000
      · obtain ⟨t, he, hk4, htx⟩ := HQL.out hmu
        rw [he] at HRq
        obtain ⟨tk, tt, tsp, tfi, tf, tl, th, tn⟩ := t
        dsimp only at hk4 htx
        subst hk4
        obtain rfl : tt = q := by
          cases tt; cases q
          congr 1
          apply Array.ext'
          exact htx.trans HQD.out.symm
        clear htx he HQL HQD hqz
        go_wp2_with fail
        refine (HRq.out _).mono ?_
        rintro e w5 ⟨a5, c5, rfl, hT5, hb5, hcap5⟩
        have hb45 := (Below.refl _ w4).alloc (Nat.le_refl _) (.cells #[.int .i64 4, .string tt, .bool false, .bool false, .int .i64 0, .int .i64 0, .int .i64 0, .int .i64 0, .slice none 0 0, .slice none 0 0, .int .i64 2] 43)
        have hb5' := hb45.trans (hb5.mono hb45.size)
        have HB5 := hid (HB4.out.trans (hb5'.mono HB4.out.size))
        have HT5 := hid (HT4.out.below hb5')
        rcases hT5 with h0 | ⟨b5, off5, rfl, hlt5, hcx5⟩
        · cases h0
        obtain ⟨d0, d1, d2, d3, d4, d5, d6, d7, d8, d9, d10⟩ := tk_cells (w := w5) (hcx5 0 _ rfl)
        dsimp only at d0 d1 d2 d3 d4 d5 d6 d7 d8 d9 d10
        have hbq := (hb5.block _ (lt_of_block (heap_alloc_new w4 _))).trans (heap_alloc_new w4 (.cells #[.int .i64 4, .string tt, .bool false, .bool false, .int .i64 0, .int .i64 0, .int .i64 0, .int .i64 0, .slice none 0 0, .slice none 0 0, .int .i64 2] 43))
        obtain ⟨⟨q0, q1, _⟩, _⟩ := tok_block hbq
        have HBQ := hid hbq
        have hltq := lt_of_block hbq
        clear hb5 hb45 hb5' hcap5 hcx5 hbq HRq
        simp only [Nat.zero_mul, Nat.add_zero] at d0 d1 d2 d3 d4 d5 d6 d7 d8 d9 d10
        dsimp only [List.length_cons, List.length_nil]
        have hb6 := (Below.refl _ w5).alloc (Nat.le_refl _) (.cells #[.int .i64 0, .int .i64 (-1), .int .i64 0] 29)
        have HB6 := hid (HB5.out.trans (hb6.mono HB5.out.size))
        have HT6 := hid (HT5.out.below hb6)
        have hf6 := heap_alloc_new w5 (.cells #[.int .i64 0, .int .i64 (-1), .int .i64 0] 29)
        have HQ6 := hid ((hb6.block _ hltq).trans HBQ.out)
        have e0 := (hb6.cell (p := ⟨b5, off5, none⟩) hlt5).trans d0
        have e1 := (hb6.cell (p := ⟨b5, off5 + 1, none⟩) hlt5).trans d1
        clear d0 d1 d2 d3 d4 d5 d6 d7 d8 d9 d10 q0 q1 HBQ HT5 HB5
        go_wp2_with fail
        generalize w5.alloc (.cells #[.int .i64 0, .int .i64 (-1), .int .i64 0] 29) = w6 at HB6 HT6 hf6 HQ6 e0 e1 hb6 ⊢
        obtain ⟨⟨q0, q1, _⟩, _⟩ := tok_block HQ6.out
        have f0 : w6.cell? ⟨w5.heap.size, 0, none⟩ = some (.int .i64 0) := by rw [Go.Joins.cell_of_block hf6]; rfl
        have hnn : Nonempty (Later w6) := ⟨⟨_, Below.refl _ _⟩⟩
        have E0 := Later.cell e0
        have E1 := Later.cell e1
        have Q1 := Later.cell q1
        have F0 := Later.cell f0
        clear e0 e1 q0 q1 f0 hf6 hb6
        refine region_later (by kernel_rfl) (by kernel_rfl) ?_
        repeat (first | go_big_quiet_step (fail) | quiet_step (fail))
        refine wpQuiet_nil ?_
        rintro _ ⟨p, rfl⟩
        have HB7 := hid (HB6.out.trans (p.hb.mono HB6.out.size))
        have HT7 := hid (HT6.out.below p.hb)
        have HQ7 := hid ((p.hb.block _ (lt_of_block HQ6.out)).trans HQ6.out)
        clear E0 E1 Q1 F0 hnn
        generalize p.W = w7 at HB7 HT7 HQ7 ⊢
        go_wp2_with fail
        clear wr
        have HTL := hid (textsN_le ts 3000 HSm.out.2)
        go_loopw [9, 69] (fun y x wr => ∃ k : Nat, k ≤ ts.length ∧ y = .int .i64 (textsN ts k : Int) ∧ x = .int .i64 k ∧ Hid (Below w7.heap.size w7 wr)) (fun _ x _ => ts.length - (intOf x).toNat)
        case atStart => exact ⟨0, Nat.zero_le _, rfl, rfl, Below.refl _ _⟩
        case round =>
          obtain ⟨k, hk, rfl, rfl, HC⟩ := hrel
          by_cases hlt : k < ts.length
          · obtain ⟨x, hx⟩ : ∃ x, ts[k]? = some x := ⟨_, List.getElem?_eq_getElem hlt⟩
            have HX := hid (textsN_succ ts k x hx)
            have hle := HTL.out (k + 1)
            rw [HX.out] at hle
            rcases HT7.out with h0 | ⟨b0, off, rfl, hb0, hcx⟩
            · rw [h0] at hlt; exact absurd hlt (Nat.not_lt_zero _)
            obtain ⟨c0, c1, c2, c3, c4, c5, c6, c7, c8, c9, c10⟩ := tk_cells (w := wr) (fun i v hv => (HC.out.cell (p := ⟨b0, off + k * 11 + i, none⟩) hb0).trans (hcx k x hx i v hv))
            obtain ⟨tk, tx, tsp, tfi, tf, tl, th, tn⟩ := x
            dsimp only at c0 c1 c2 c3 c4 c5 c6 c7 c8 c9 c10 HX hle
            have hk3 : k < 3000 := Nat.lt_of_lt_of_le hlt HSm.out.1
            have hki : (k : Int) < (ts.length : Int) := Int.ofNat_lt.2 hlt
            have hk0 : (0 : Int) ≤ (k : Int) := Int.natCast_nonneg _
            have hkp := nxt_k (Nat.le_trans hk (Nat.le_trans HSm.out.1 (by decide)))
            have hkw := nxt_w (Nat.le_trans hk (Nat.le_trans HSm.out.1 (by decide)))
            generalize textsN ts k = N at HX hle ⊢
            have hs1 : IntKind.i64.wrap ((N : Int) + (tx.size : Int)) = (N : Int) + (tx.size : Int) := by rw [IntKind.wrap_i64]; omega
            have hs2 : wrap64 ((N : Int) + (tx.size : Int)) = (N : Int) + (tx.size : Int) := by unfold wrap64; omega
            clear hcx hx hb0 hle hk3
            go_wp2_with fail
            exact ⟨⟨k + 1, hlt, by rw [HX.out]; go_num, by go_num, hid (HC.out.alloc HC.out.size _)⟩, less_j hlt (by go_num)⟩
          · obtain rfl : k = ts.length := by omega
            have HQ8 := hid ((HC.out.block _ (lt_of_block HQ7.out)).trans HQ7.out)
            have HB8 := hid (HB7.out.trans (HC.out.mono HB7.out.size))
            obtain ⟨⟨q0, q1, _⟩, _⟩ := tok_block HQ8.out
            have hge := HGE.out
            generalize textsN ts ts.length = N at hge ⊢
            have hs1 : IntKind.i64.wrap ((N : Int) + 2) = (N : Int) + 2 := by rw [IntKind.wrap_i64]; omega
            have hs2 : wrap64 ((N : Int) + 2) = (N : Int) + 2 := by unfold wrap64; omega
            have hs3 : (N : Int) + 2 ≤ (tt.size : Int) := by omega
            clear hge
            go_wp2_with fail
            go_ret
            exact ⟨ret_bool (by simp), HB8.out⟩
      · have hmuch : toksF 0 (quoteL ts) = ([], (4, 0, 0)) := by
          unfold toksF
          rw [if_pos (by omega)]
        rw [hmuch] at HRq
        clear hmuch HQL HQD hqz
        go_wp2_with fail
        refine (HRq.out _).mono ?_
        rintro e w5 ⟨a5, c5, rfl, hT5, hb5, hcap5⟩
        have hb45 := (Below.refl _ w4).alloc (Nat.le_refl _) (.cells #[.int .i64 4, .string q, .bool false, .bool false, .int .i64 0, .int .i64 0, .int .i64 0, .int .i64 0, .slice none 0 0, .slice none 0 0, .int .i64 2] 43)
        have hb5' := hb45.trans (hb5.mono hb45.size)
        have HB5 := hid (HB4.out.trans (hb5'.mono HB4.out.size))
        clear hb5 hb45 hb5' hcap5 hT5 HRq
        dsimp only [List.length_nil]
        go_wp2_with fail
        go_ret
        exact ⟨rfl, HB5.out.alloc HB5.out.size _⟩
end Go.Proofs.YteklakpfbkcegaaGreatDoor
