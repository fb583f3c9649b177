/- Walk of the document's own Line and Tokens. -/
import Derived.Test.YtkfbhknhjpmomaaRxPieces
import Derived.Test.YtkfbhknhjpmomaaLxRef
import Derived.Test.YtkfbhknhjpmomaaLxTokens
namespace Go.Proofs.Ytkfbhknhjpmomaa
open Go.RowKit Go.Shelf

theorem clamp_lt (k : Int) (n j : Nat) : j < clamp k n ↔ (j : Int) < k ∧ j < n := by unfold clamp; omega
theorem clamp_le (k : Int) (n : Nat) : clamp k n ≤ n := by unfold clamp; omega
theorem count_in (s : ByteArray) (j : Nat) (hj : j < s.size) {r : Nat} (hr : r = 1 + (s.data.toList.take j).count 10) (h : (s[j].toNat : Int) = 10) : r + 1 = 1 + (s.data.toList.take (j + 1)).count 10 := by
  rw [List.take_add_one, List.getElem?_eq_getElem (by rw [size_data]; exact hj), List.count_append, ← Nat.add_assoc, ← hr]
  have : s.data.toList[j] = 10 := by
    change s[j] = 10
    exact UInt8.toNat_inj.1 (by have : (10 : UInt8).toNat = 10 := rfl; omega)
  rw [this]; rfl
theorem count_out (s : ByteArray) (j : Nat) (hj : j < s.size) {r : Nat} (hr : r = 1 + (s.data.toList.take j).count 10) (h : ¬ (s[j].toNat : Int) = 10) : r = 1 + (s.data.toList.take (j + 1)).count 10 := by
  rw [List.take_add_one, List.getElem?_eq_getElem (by rw [size_data]; exact hj), List.count_append, ← Nat.add_assoc, ← hr]
  have : s.data.toList[j] ≠ 10 := by
    change s[j] ≠ 10
    intro h2
    exact h (by rw [h2]; rfl)
  rw [Option.toList_some, List.count_singleton, if_neg (by simpa using this)]
  rfl

set_option maxRecDepth 100000 in
set_option maxHeartbeats 1000000 in
theorem RLine_any (s : ByteArray) (k : Int) (w : World) (hs : s.size ≤ 1048576) :
    Calls Try.prog 30 #[.string s, .int .i64 k] w fun e w' => e = .returned (.int .i64 (linesI s.data.toList k)) ∧ w' = w := by
  have hcl := clamp_lt k s.size
  have hcs := clamp_le k s.size
  have HE := hid (show linesI s.data.toList k = 1 + (((s.data.toList.take (clamp k s.size)).count 10 : Nat) : Int) by rw [linesI, size_data])
  generalize clamp k s.size = m at *
  go_enter Try.func30, Try.ntmps30
  go_wp2_with fail
  go_loop [5, 6] (fun nv x => ∃ (j r : Nat), j ≤ m ∧ x = .int .i64 j ∧ nv = .int .i64 (r : Int) ∧ r ≤ j + 1 ∧ Hid (r = 1 + (s.data.toList.take j).count 10)) (fun _ x => m - (intOf x).toNat)
  case atStart => exact ⟨0, 1, Nat.zero_le _, rfl, rfl, Nat.le_refl _, rfl⟩
  case round =>
    obtain ⟨j, r, hj, rfl, rfl, hr, HN⟩ := hrel
    by_cases hlt : j < m
    · obtain ⟨h1, h2⟩ := (hcl j).1 hlt
      clear hcl
      go_wp2_with fail
      all_goals go_round
      all_goals first
        | exact ⟨j + 1, r + 1, by omega, by go_num, by go_num, by omega, count_in s j h2 HN.out (by simp only [beq_iff_eq] at *; omega)⟩
        | exact ⟨j + 1, r, by omega, by go_num, by go_num, by omega, count_out s j h2 HN.out (by simp only [beq_eq_false_iff_ne, ne_eq] at *; omega)⟩
        | (simp [intOf]; omega)
    · obtain rfl : j = m := by omega
      have HE2 := hid (show (r : Int) = linesI s.data.toList k by rw [HE.out, HN.out, Int.natCast_add]; rfl)
      by_cases h1 : (j : Int) < k
      · have h2 : s.size ≤ j := by have := (hcl j).2; omega
        clear hcl hlt
        go_wp2_with fail
        go_ret
        exact ⟨ret_int HE2.out, rfl⟩
      · clear hcl hlt
        go_wp2_with fail
        go_ret
        exact ⟨ret_int HE2.out, rfl⟩

theorem rtok_ret {W : World} {F : Nat} {x0 x1 x2 v : Value} (hF : W.heap[F]? = some (.cells #[x0, x1, x2] 29)) (h0 : ∃ k n, x0 = .int k n) (h1 : ∃ k n, x1 = .int k n) (h2 : ∃ k n, x2 = .int k n) (tmps : Array Value) (h4 : tmps.getD 4 undef = v) (h5 : tmps.getD 5 undef = .pointer (some ⟨F, 0, none⟩)) :
    (results Try.f15 tmps).run Try.prog W = .ok (.tuple #[v, .agg #[x0, x1, x2]]) W := by
  obtain ⟨k0, n0, rfl⟩ := h0
  obtain ⟨k1, n1, rfl⟩ := h1
  obtain ⟨k2, n2, rfl⟩ := h2
  have c0 := (block_facts hF 0).1
  have c1 := (block_facts hF 1).1
  have c2 := (block_facts hF 2).1
  simp at c0 c1 c2 h4 h5
  simp [results, Try.results15, go_sem, h4, h5, c0, c1, c2]

theorem rfin {w w2 W : World} (hB : Below w.heap.size w w2) (hlt : w.heap.size < w2.heap.size) (hF : w2.heap[w.heap.size]? = some (.cells #[.int .i64 0, .int .i64 0, .int .i64 0] 29)) (hW : Below w2.heap.size w2 W) (x0 x1 x2 : Value) :
    (((W.setCell ⟨w.heap.size, 0, none⟩ x0).setCell ⟨w.heap.size, 1, none⟩ x1).setCell ⟨w.heap.size, 2, none⟩ x2).heap[w.heap.size]? = some (.cells #[x0, x1, x2] 29) ∧
    Below w.heap.size w (((W.setCell ⟨w.heap.size, 0, none⟩ x0).setCell ⟨w.heap.size, 1, none⟩ x1).setCell ⟨w.heap.size, 2, none⟩ x2) ∧
    ∀ v (ts : List Tk), W.ownsRow w2.heap.size 44 11 v ts.length (cellsT ts) → ∃ a c, v = .slice a ts.length c ∧ TAt (((W.setCell ⟨w.heap.size, 0, none⟩ x0).setCell ⟨w.heap.size, 1, none⟩ x1).setCell ⟨w.heap.size, 2, none⟩ x2) a ts ∧ ts.length ≤ c := by
  have hold := hB.trans (hW.mono hB.size)
  refine ⟨three_set ((hW.block _ hlt).trans hF) x0 x1 x2, ((hold.setCell (Nat.le_refl _) x0).setCell (Nat.le_refl _) x1).setCell (Nat.le_refl _) x2, fun v ts hown => ?_⟩
  have hrow := owns_same hown (fun g hg _ => three_far W w.heap.size g x0 x1 x2 (by omega))
  obtain ⟨a, c, hv, hta⟩ := TAt.of_row hrow
  exact ⟨a, c, hv, hta, row_cap hrow hv⟩

set_option maxRecDepth 100000 in
set_option maxHeartbeats 1000000 in
theorem RTokens_much (file : Int) (s : ByteArray) (w : World) (hs : 3000 < s.size) :
    Calls Try.prog 15 #[.int .i64 file, .string s] w (TokPost file s.data.toList w) := by
  have HE : Hid (toksF file s.data.toList = ([], (4, file, 0))) := by show _ = _; unfold toksF; rw [if_pos (by rw [size_data]; exact hs)]
  have h2 : (3000 : Int) < (s.size : Int) := by omega
  go_enter Try.func15, Try.ntmps15
  go_wp2
  refine bodyPost_ret (v := .tuple #[.slice none 0 0, .agg #[.int .i64 4, .int .i64 file, .int .i64 0]]) (by simp [results, Try.results15, go_sem]) rfl ⟨none, 0, by rw [HE.out]; rfl, by rw [HE.out]; exact .inl rfl, ?_, by rw [HE.out]; exact Nat.zero_le _⟩
  exact (Below.refl _ _).alloc (Nat.le_refl _) _

theorem rskip_le (s : List UInt8) : rskipN s ≤ s.length ∧ -1 - (s.length : Int) ≤ rskipN s := by
  have := (skip_to s 0 false false (Nat.zero_le _)).2
  unfold rskipN
  split <;> omega

/-- What Piece answers, by its two ends. -/
theorem piece_ends (T : ByteArray) (p : Nat) (b : Bool) {A : Prop} (hD : (T.extract p T.size).size = T.size - p)
    (q2 : (pick (sizes (T.data.toList.drop p) b)).1 ≠ -1 → 0 < (pick (sizes (T.data.toList.drop p) b)).2.toNat ∧ p + (pick (sizes (T.data.toList.drop p) b)).2.toNat ≤ T.size ∧ A)
    (h0 : (pick (sizes (T.data.toList.drop p) b)).1 = -1 → (pick (sizes (T.data.toList.drop p) b)).2 = 0) :
    (((pick (sizes (T.data.toList.drop p) b)).1 = -1) → (T.extract p T.size).extract 0 (pick (sizes (T.data.toList.drop p) b)).2.toNat = ⟨#[]⟩) ∧ ((pick (sizes (T.data.toList.drop p) b)).1 ≠ -1 → rpieceK (T.data.toList.drop p) b = (pick (sizes (T.data.toList.drop p) b)).1 ∧ ((T.extract p T.size).extract 0 (pick (sizes (T.data.toList.drop p) b)).2.toNat).size = (pick (sizes (T.data.toList.drop p) b)).2.toNat ∧ ((T.extract p T.size).extract 0 (pick (sizes (T.data.toList.drop p) b)).2.toNat).toList.isEmpty = false ∧ (T.extract p T.size).extract 0 (pick (sizes (T.data.toList.drop p) b)).2.toNat = T.extract p (p + ((T.extract p T.size).extract 0 (pick (sizes (T.data.toList.drop p) b)).2.toNat).size)) := by
  refine ⟨fun h => by rw [h0 h, Int.toNat_zero, extract_zero], fun h => ?_⟩
  obtain ⟨h5, h6, _⟩ := q2 h
  have hK : rpieceK (T.data.toList.drop p) b = (pick (sizes (T.data.toList.drop p) b)).1 := by unfold rpieceK; rw [if_neg h]
  generalize (pick (sizes (T.data.toList.drop p) b)).2.toNat = m at h5 h6 ⊢
  have hs : ((T.extract p T.size).extract 0 m).size = m := by rw [ByteArray.size_extract, hD]; omega
  refine ⟨hK, hs, isEmpty_false (by omega), ?_⟩
  rw [hs]
  apply ByteArray.ext; apply Array.ext'; rw [extract_data, extract_data, extract_data, List.drop_zero, ← size_data T, List.take_length, List.take_drop]

/-- What holds at the head of a round. -/
structure RkSt (file : Int) (l : List UInt8) (T : ByteArray) (w2 : World) (i : Nat) (acc : List Pc) (v : Value) (wr : World) : Prop where
  at_ : PcAt T.data.toList i acc
  few : acc.length ≤ i
  old : Below w2.heap.size w2 wr
  own : wr.ownsRow w2.heap.size 44 11 v acc.length (cellsT (tksOf file l acc))

set_option maxRecDepth 100000 in
set_option maxHeartbeats 40000000 in
theorem RTokens_few (file : Int) (s : ByteArray) (w : World) (hs : s.size ≤ 3000) :
    Calls Try.prog 15 #[.int .i64 file, .string s] w (TokPost file s.data.toList w) := by
  have HSp := hid (fun W => RSplice_any s W (by omega))
  have hTs : (textB s).size ≤ 3000 := by rw [textB_size]; have := (went_kept s.data.toList).few; rw [size_data] at this; omega
  have HTl : Hid ((textB s).data.toList = bytesAt s.data.toList (kept s.data.toList)) := by show _ = _; unfold textB; simp
  have HKl : Hid ((kept s.data.toList).length = (textB s).size) := (textB_size s).symm
  have HKb := hid (kept_bd s.data.toList s.data.toList.length rfl)
  have HR : Hid (toksF file s.data.toList = match pcs (bytesAt s.data.toList (kept s.data.toList)) with
    | .inl k => ([], (9, file, whereI (kept s.data.toList ++ [s.data.toList.length]) k))
    | .inr ps => (tksOf file s.data.toList ps, (0, -1, 0))) := by show _ = _; unfold toksF; rw [if_neg (by rw [size_data]; omega)]; rfl
  rw [← HTl.out] at HR
  have HTk := hid (fun p => tk_text (textB s) _ HTl.out p)
  have HBh := hid (fun acc => behind_same file s.data.toList acc)
  rw [← HTl.out] at HBh
  unfold atL at HSp
  go_enter Try.func15, Try.ntmps15
  go_wp2_with fail
  refine (HSp.out _).mono ?_
  rintro e w1 ⟨b1, c1, rfl, hI, hb1⟩
  rw [HKl.out]
  generalize hT : textB s = T at *
  generalize hK : kept s.data.toList ++ [s.data.toList.length] = K at *
  have hKn : K.length = T.size + 1 := by rw [← hK, List.length_append, HKl.out]; rfl
  have HKK := hid hK
  clear HSp hT hK HTl HKl
  generalize hN : T.size + 1 = N at *
  obtain ⟨ti, hti, htz0, htz1, htz2⟩ := info_parts info_tok
  go_wp2_with fail
  generalize hw2 : w1.alloc (.cells #[.string T, .slice (some ⟨b1, 0, none⟩) N c1] 81) = w2
  have hX2 : w2.heap[w1.heap.size]? = some (.cells #[.string T, .slice (some ⟨b1, 0, none⟩) N c1] 81) := by rw [← hw2]; exact heap_alloc_new w1 _
  have hb2 : Below w1.heap.size w1 w2 := by rw [← hw2]; exact (Below.refl _ w1).alloc (Nat.le_refl _) _
  have hI2 : IAt w2 b1 K := hI.below hb2
  have hF1 : w1.heap[w.heap.size]? = some (.cells #[.int .i64 0, .int .i64 0, .int .i64 0] 29) := (hb1.block _ (by simp)).trans (heap_alloc_new w _)
  have hF2 := (hb2.block _ (lt_of_block hF1)).trans hF1
  have hBw : Below w.heap.size w w2 := by
    have h0 := (Below.refl w.heap.size w).alloc (Nat.le_refl _) (.cells #[.int .i64 0, .int .i64 0, .int .i64 0] 29)
    have h1 := h0.trans (hb1.mono (by simp))
    exact h1.trans (hb2.mono (by have := lt_of_block hF1; omega))
  have HX2 := hid hX2
  have HF2 := hid hF2
  have HI2 := hid hI2
  have HBw := hid hBw
  have HFin := hid (fun W hW x0 x1 x2 => rfin hBw (lt_of_block hF2) hF2 (W := W) hW x0 x1 x2)
  have hX1 := lt_of_block hX2
  have hFl := lt_of_block hF2
  generalize hXb : w1.heap.size = X at HX2 hX1 ⊢
  clear hw2 hX2 hI2 hF1 hF2 hBw hI hb1 hb2 hXb
  go_loopw [7, 8] (fun o x wr => ∃ (i : Nat) (acc : List Pc) (v : Value), i ≤ T.size ∧ o = v ∧ x = .int .i64 i ∧ Hid (RkSt file s.data.toList T w2 i acc v wr)) (fun _ x _ => T.size - (intOf x).toNat)
  case atStart => exact ⟨0, [], _, Nat.zero_le _, rfl, rfl, PcAt.start _, Nat.le_refl _, Below.refl _ _, World.ownsRow_nil _ _ _ _⟩
  case round =>
    obtain ⟨i, acc, v, hi, rfl, rfl, HS⟩ := hrel
    have HD : Hid ((T.extract i T.size).data.toList = T.data.toList.drop i) := by show _ = _; rw [extract_data, ← size_data T, List.take_length]
    have hDs : (T.extract i T.size).size = T.size - i := by rw [ByteArray.size_extract]; omega
    have HSk := hid (fun W => RSkip_any (T.extract i T.size) W (by omega))
    rw [HD.out] at HSk
    have HLk := hid HS.out.at_.lacks
    have HDn := hid HS.out.at_.done
    have HNx := hid (fun z => HS.out.at_.next (z := z))
    rw [size_data] at HLk HDn HNx
    have hfew := HS.out.few
    have HB := hid HS.out.old
    have f0 := block_facts ((HS.out.old.block _ hFl).trans HF2.out) 0
    have f1 := block_facts ((HS.out.old.block _ hFl).trans HF2.out) 1
    have f2 := block_facts ((HS.out.old.block _ hFl).trans HF2.out) 2
    have x0 := block_facts ((HS.out.old.block _ hX1).trans HX2.out) 0
    have x1 := block_facts ((HS.out.old.block _ hX1).trans HX2.out) 1
    simp at f0 f1 f2 x0 x1
    obtain ⟨f01, f02⟩ := f0
    obtain ⟨f11, f12⟩ := f1
    obtain ⟨f21, f22⟩ := f2
    obtain ⟨x01, x02⟩ := x0
    obtain ⟨x11, x12⟩ := x1
    have HIr := hid (HI2.out.below HS.out.old)
    have hl := tksOf_length file s.data.toList acc
    have hown0 := HS.out.own
    rw [← hl] at hown0
    obtain ⟨av, cv, hvv, _⟩ := TAt.of_row hown0
    rw [hl] at hvv
    clear hown0 hl
    subst hvv
    simp only [rpath, rfirst] at HNx
    obtain ⟨hn1, hn2⟩ := rskip_le (T.data.toList.drop i)
    rw [List.length_drop, size_data] at hn1 hn2
    generalize rskipN (T.data.toList.drop i) = n0 at HSk HLk HDn HNx hn1 hn2
    generalize rskipB (T.data.toList.drop i) = fd at HSk HNx
    by_cases hn0 : n0 < 0
    · obtain ⟨q1, q2, q3⟩ := HLk.out hn0
      obtain ⟨k, hk⟩ : ∃ k : Nat, (i : Int) - 1 - n0 = k := ⟨((i : Int) - 1 - n0).toNat, by omega⟩
      rw [hk, Int.toNat_natCast] at q1 q2
      have hkK : k < K.length := by omega
      have hcell := HIr.out.2 k hkK
      have HR2 : Hid (toksF file s.data.toList = ([], (9, file, whereI K k))) := by show _ = _; rw [HR.out, q1]
      have hwk := whereI_in K k hkK
      have HFn := hid (fun W hW => HFin.out W hW (.int .i64 9) (.int .i64 file) (.int .i64 (whereI K k)))
      rw [hwk] at hcell
      have hn0e : n0 = (i : Int) - 1 - k := by omega
      have hwA : IntKind.i64.wrap ((i : Int) - 1) = (i : Int) - 1 := by rw [IntKind.wrap_i64]; omega
      have hwB : IntKind.i64.wrap ((i : Int) - 1 - ((i : Int) - 1 - k)) = (k : Int) := by rw [IntKind.wrap_i64]; omega
      have hkN : (k : Int) < (N : Int) := by omega
      have hkN2 : k < N := by omega
      have hk0 : (0 : Int) ≤ (k : Int) := by omega
      clear HR HLk HDn HNx HS HIr q1 q3 hwk
      go_wp2_with fail
      refine (HSk.out _).mono ?_
      rintro e w' ⟨rfl, hww⟩
      subst w'
      clear HSk
      go_wp2_with fail
      have z1 := Later.cell x11
      have z2 := Later.cell hcell
      have hnn : Nonempty (Later wr) := ⟨⟨_, Below.refl _ _⟩⟩
      refine region_later_tail 11 (by kernel_rfl) (by kernel_rfl) ?_
      simp only [List.take_succ_cons, List.take_zero, List.drop_succ_cons, List.drop_zero]
      repeat (quiet_step (fail))
      refine wpQuiet_nil ?_
      intro p
      have HFp := hid (HFn.out p.W (HB.out.trans (p.hb.mono HB.out.size)))
      have g01 := Later.cell f01 p
      have g11 := Later.cell f11 p
      have g21 := Later.cell f21 p
      have g02 : p.W.frozen? ⟨w.heap.size, 0, none⟩ = false := by
        have := block_facts ((p.hb.block _ (World.block_lt_of_cell? _ _ f01)).trans ((HB.out.block _ hFl).trans HF2.out)) 0; exact this.2
      have g12 : p.W.frozen? ⟨w.heap.size, 1, none⟩ = false := by
        have := block_facts ((p.hb.block _ (World.block_lt_of_cell? _ _ f01)).trans ((HB.out.block _ hFl).trans HF2.out)) 1; exact this.2
      have g22 : p.W.frozen? ⟨w.heap.size, 2, none⟩ = false := by
        have := block_facts ((p.hb.block _ (World.block_lt_of_cell? _ _ f01)).trans ((HB.out.block _ hFl).trans HF2.out)) 2; exact this.2
      generalize p.W = wp at HFp g01 g11 g21 g02 g12 g22 ⊢
      clear z1 z2 hnn
      go_wp2_with fail
      obtain ⟨g1, g2, _⟩ := HFp.out
      refine bodyPost_ret (rtok_ret g1 ⟨_, _, rfl⟩ ⟨_, _, rfl⟩ ⟨_, _, rfl⟩ _ rfl rfl) rfl ⟨none, 0, ?_, by rw [HR2.out]; exact .inl rfl, g2, by rw [HR2.out]; exact Nat.zero_le _⟩
      rw [HR2.out]; rfl
    · obtain ⟨z, rfl⟩ : ∃ z : Nat, n0 = z := ⟨n0.toNat, by omega⟩
      by_cases hend : (T.size : Int) ≤ i + z
      · have q1 := HDn.out (by omega) hend
        have HR2 : Hid (toksF file s.data.toList = (tksOf file s.data.toList acc, (0, -1, 0))) := by show _ = _; rw [HR.out, q1]
        have hown := HS.out.own
        have HLT := hid (tksOf_length file s.data.toList acc)
        have HFn := hid (HFin.out wr HB.out (.int .i64 0) (.int .i64 (-1)) (.int .i64 0))
        have HOw : Hid (wr.ownsRow w2.heap.size 44 11 (.slice av acc.length cv) (tksOf file s.data.toList acc).length (cellsT (tksOf file s.data.toList acc))) := by
          show _
          rw [HLT.out]; exact hown
        clear HR HLk HDn HNx HS HIr q1 hown
        go_wp2_with fail
        refine (HSk.out _).mono ?_
        rintro e w' ⟨rfl, hww⟩
        subst w'
        clear HSk
        go_wp2_with fail
        obtain ⟨g1, g2, g3⟩ := HFn.out
        obtain ⟨a, c, hv, hta, hcap⟩ := g3 _ _ HOw.out
        rw [HLT.out] at hv
        injection hv with hv1 _ hv3
        subst hv1
        subst hv3
        refine bodyPost_ret (rtok_ret g1 ⟨_, _, rfl⟩ ⟨_, _, rfl⟩ ⟨_, _, rfl⟩ _ rfl rfl) rfl ⟨_, _, ?_, by rw [HR2.out]; exact hta, g2, by rw [HR2.out]; exact hcap⟩
        rw [HR2.out, ← HLT.out]; rfl
      · obtain ⟨q1, q2⟩ := HNx.out z rfl (by omega)
        have hown := HS.out.own
        have hfew2 := HS.out.few
        obtain ⟨p, hp⟩ : ∃ p, i + z = p := ⟨_, rfl⟩
        rw [hp] at q1 q2
        have hip : (i : Int) + (z : Int) = (p : Int) := by omega
        have hpT : p < T.size := by omega
        have HD2 : Hid ((T.extract p T.size).data.toList = T.data.toList.drop p) := by show _ = _; rw [extract_data, ← size_data T, List.take_length]
        have hD2s : (T.extract p T.size).size = T.size - p := by rw [ByteArray.size_extract]; omega
        have HRp := hid (fun b => rpiece_empty (T.data.toList.drop p) b (fun e => by have := congrArg List.length e; rw [List.length_drop, size_data] at this; simp at this; omega))
        have HPc0 := hid (fun b W => RPiece_any (T.extract p T.size) b W (by omega) (by omega))
        rw [HD2.out] at HPc0
        have HOw0 := hid hown
        have HBeh := hid (HBh.out acc)
        clear HLk HDn HNx HIr HD HD2 hown hend hn0 hDs hfew
        have hpn : ¬ ((T.size : Int) ≤ (p : Int)) := by omega
        have HEm : Hid (acc.isEmpty = decide (acc.length = 0)) := by show _ = _; cases acc <;> simp
        have HLT := hid (tksOf_length file s.data.toList acc)
        obtain ⟨n, hn⟩ : ∃ n, acc.length = n := ⟨_, rfl⟩
        have HAn := hid hn
        rw [hn] at HOw0 hfew2 HEm HLT ⊢
        clear hn HS
        -- leaves
        cases fd with
        | true =>
          have hP : (!(true || acc.isEmpty) && behind T.data.toList acc) = false := by rfl
          have hfst : (true || acc.isEmpty) = true := by rfl
          rw [hP] at q1 q2
          rw [hfst] at q2
          clear hP hfst HEm HBeh
          have HPc := hid (HPc0.out false)
          have hpk0 := (HRp.out false).2
          have HKE : Hid ((((pick (sizes (T.data.toList.drop p) false)).1 = -1) → (T.extract p T.size).extract 0 (pick (sizes (T.data.toList.drop p) false)).2.toNat = ⟨#[]⟩) ∧ ((pick (sizes (T.data.toList.drop p) false)).1 ≠ -1 → rpieceK (T.data.toList.drop p) false = (pick (sizes (T.data.toList.drop p) false)).1 ∧ ((T.extract p T.size).extract 0 (pick (sizes (T.data.toList.drop p) false)).2.toNat).size = (pick (sizes (T.data.toList.drop p) false)).2.toNat ∧ ((T.extract p T.size).extract 0 (pick (sizes (T.data.toList.drop p) false)).2.toNat).toList.isEmpty = false ∧ (T.extract p T.size).extract 0 (pick (sizes (T.data.toList.drop p) false)).2.toNat = T.extract p (p + ((T.extract p T.size).extract 0 (pick (sizes (T.data.toList.drop p) false)).2.toNat).size))) :=
            piece_ends T p false hD2s q2 hpk0
          generalize rpieceK (T.data.toList.drop p) false = kk at HPc HKE
          generalize (T.extract p T.size).extract 0 (pick (sizes (T.data.toList.drop p) false)).2.toNat = EE at HPc HKE
          generalize pick (sizes (T.data.toList.drop p) false) = pk at q1 q2 HKE hpk0
          clear HPc0 HRp hpk0
          go_wp2_with fail
          refine (HSk.out _).mono ?_
          rintro e w' ⟨rfl, hww⟩
          subst w'
          clear HSk
          go_wp2_with fail
          refine (HPc.out _).mono ?_
          rintro e w3 ⟨rfl, hb3⟩
          have HB3 := hid (HB.out.trans (hb3.mono HB.out.size))
          have y01 := (hb3.cell (World.block_lt_of_cell? _ _ x01)).trans x01
          have y11 := (hb3.cell (World.block_lt_of_cell? _ _ x11)).trans x11
          have HI3 := hid (HI2.out.below HB3.out)
          have hcp := HI3.out.2 p (by omega)
          have hpN : (p : Int) < (N : Int) := by omega
          have hpN2 : p < N := by omega
          have hp0 : (0 : Int) ≤ (p : Int) := by omega
          rw [whereI_in K p (by omega)] at hcp
          have hl3 := hb3.size
          have HOw3 := hid (fun W (h : Below w3.heap.size w3 W) => owns_same HOw0.out (fun g _ hl => ((h.block g (Nat.lt_of_lt_of_le hl hl3)).trans (hb3.block g hl))))
          clear HPc hb3 
          have z1 := Later.cell y11
          have z2 := Later.cell hcp
          have hnn : Nonempty (Later w3) := ⟨⟨_, Below.refl _ _⟩⟩
          by_cases hpk : pk.1 = -1
          · have hE0 := HKE.out.1 hpk
            subst hE0
            have q3 := q1 hpk
            have HR2 : Hid (toksF file s.data.toList = ([], (9, file, whereI K p))) := by show _ = _; rw [HR.out, q3]
            have HFn := hid (fun W hW => HFin.out W hW (.int .i64 9) (.int .i64 file) (.int .i64 (whereI K p)))
            clear q1 q2 q3 hpk HR HKE
            go_wp2_with fail
            refine region_later_tail 8 (by kernel_rfl) (by kernel_rfl) ?_
            simp only [List.take_succ_cons, List.take_zero, List.drop_succ_cons, List.drop_zero]
            repeat (quiet_step (fail))
            refine wpQuiet_nil ?_
            intro p'
            have hbp := HB3.out.trans (p'.hb.mono HB3.out.size)
            have HFp := hid (HFn.out p'.W hbp)
            have k0 := block_facts ((hbp.block _ hFl).trans HF2.out) 0
            have k1 := block_facts ((hbp.block _ hFl).trans HF2.out) 1
            have k2 := block_facts ((hbp.block _ hFl).trans HF2.out) 2
            simp at k0 k1 k2
            obtain ⟨g01, g02⟩ := k0
            obtain ⟨g11, g12⟩ := k1
            obtain ⟨g21, g22⟩ := k2
            generalize p'.W = wp at HFp g01 g11 g21 g02 g12 g22 ⊢
            clear z1 z2 hnn hbp
            go_wp2_with fail
            obtain ⟨g1, g2, _⟩ := HFp.out
            refine bodyPost_ret (rtok_ret g1 ⟨_, _, rfl⟩ ⟨_, _, rfl⟩ ⟨_, _, rfl⟩ _ rfl rfl) rfl ⟨none, 0, ?_, by rw [HR2.out]; exact .inl rfl, g2, by rw [HR2.out]; exact Nat.zero_le _⟩
            rw [HR2.out]; rfl
          · obtain ⟨h5, h6, h7⟩ := q2 hpk
            obtain ⟨hkk, hEs, hEe, hEx⟩ := HKE.out.2 hpk
            rw [← hEs] at h5 h6 h7
            rw [← hkk] at h7
            have HEx := hid hEx
            obtain ⟨q, hq⟩ : ∃ q, p + EE.size = q + 1 := ⟨p + EE.size - 1, by omega⟩
            have H7 := hid h7
            obtain ⟨hwq1, hwq2⟩ := whereI_bd K s.data.toList.length HKb.out q
            rw [size_data] at hwq2
            have hwA : IntKind.i64.wrap ((p : Int) + (EE.size : Int)) = (p : Int) + (EE.size : Int) := by rw [IntKind.wrap_i64]; omega
            have hwB : IntKind.i64.wrap ((p : Int) + (EE.size : Int) - 1) = (q : Int) := by rw [IntKind.wrap_i64]; omega
            have hwC : IntKind.i64.wrap (whereI K q + 1) = whereI K q + 1 := by rw [IntKind.wrap_i64]; omega
            have hqN : (q : Int) < (N : Int) := by omega
            have hqN2 : q < N := by omega
            have hq0 : (0 : Int) ≤ (q : Int) := by omega
            have HLn := hid (fun (k : Int) W => RLine_any s k W (by omega))
            clear q1 q2 hpk HR hkk h7 hEs hEx HKE
            go_wp2_with fail
            have hcq := HI3.out.2 q (by omega)
            rw [whereI_in K q (by omega)] at hcq
            have z3 := Later.cell hcq
            have HL3 : Hid (∀ (k : Int) (p' : Later w3), Calls Try.prog 30 #[.string s, .int .i64 k] p'.W fun e w' => e = .returned (.int .i64 (linesI s.data.toList k)) ∧ Below p'.W.heap.size p'.W w') := fun k p' =>
              (HLn.out k p'.W).mono fun e w' ⟨he, hw⟩ => ⟨he, by rw [hw]; exact Below.refl _ _⟩
            refine region_load_tail 29 (.slice av n cv) _ (by kernel_rfl) (by kernel_rfl) rfl (by kernel_rfl) (fun p' => by simp [execOp, go_sem]) ?_
            simp only [List.take_succ_cons, List.take_zero, List.drop_succ_cons, List.drop_zero]
            repeat (quiet_step (first | (go_at_call 30; exact Calls.later (HL3.out _ _))))
            refine wpQuiet_nil ?_
            intro p'
            have hbp := p'.hb
            obtain ⟨wB, hwB⟩ : ∃ wB, p'.W = wB := ⟨_, rfl⟩
            rw [hwB] at hbp ⊢
            have hown := HOw3.out wB hbp
            have hszB := hbp.size
            have hl2 := HB3.out.size
            have HBB := hid (HB3.out.trans (hbp.mono HB3.out.size))
            have HBP := hid hbp
            clear z1 z2 z3 hnn hbp hwB HL3
            go_wp2_with fail
            refine ⟨⟨⟨_, HBP.out.alloc HBP.out.size _⟩, rfl⟩, ?_⟩
            go_wp2_with (at_builtin; refine wpList_append_own _ rfl _ _ 22 rfl w2.heap.size 44 ti _ 11 120 Try.underlying22 hti htz0 htz1 htz2 rfl (by decide) _ _ _ rfl (hown.alloc _) ⟨wB.heap.size, 0, none⟩ 1 1 (encT ⟨kk, EE, decide (0 < z), true, file, whereI K p, whereI K q + 1, linesI s.data.toList (whereI K p)⟩) rfl rfl (eleven_new wB _ _) (eleven_one _) (by unfold maxLen; omega) (by omega) (by simp; omega) ?_)
            intro v' w4 hown2 hg2 _
            have HTk2 : Hid (tkOf file s.data.toList ⟨kk, p, p + EE.size, decide (0 < z), true⟩ = ⟨kk, EE, decide (0 < z), true, file, whereI K p, whereI K q + 1, linesI s.data.toList (whereI K p)⟩) := by
              show _ = _
              unfold tkOf
              rw [HTk.out, HKK.out, ← HEx.out, show (((p + EE.size : Nat) : Int) - 1) = (q : Int) by omega]
            rw [← HTk2.out, ← cellsT_snoc, ← tksOf_snoc] at hown2
            have HN : Hid (RkSt file s.data.toList T w2 (p + EE.size) (acc ++ [⟨kk, p, p + EE.size, decide (0 < z), true⟩]) v' w4) := by
              have hal := HBB.out.alloc HBB.out.size (.cells (encT ⟨kk, EE, decide (0 < z), true, file, whereI K p, whereI K q + 1, linesI s.data.toList (whereI K p)⟩).toArray 44)
              refine ⟨H7.out, by rw [List.length_append, HAn.out]; simp; omega, hal.grown hg2 (by simp; omega) (fun j e => (HOw0.out.lt j e).1), ?_⟩
              rw [List.length_append, HAn.out]
              exact hown2
            obtain ⟨g4, c4, rfl⟩ := some_row hown2 (pos_row hown2)
            clear hown2 hg2 hown HTk2
            go_wp2_with fail
            refine NoPanic.normal ?_
            go_wp2_with fail
            exact ⟨⟨p + EE.size, _, _, by omega, rfl, by go_num, HN.out⟩, by simp [intOf]; omega⟩
        | false =>
          by_cases hn0' : n = 0
          · subst hn0'
            have hP : (!(false || acc.isEmpty) && behind T.data.toList acc) = false := by rw [HEm.out]; rfl
            have hfst : (false || acc.isEmpty) = true := by rw [HEm.out]; rfl
            rw [hP] at q1 q2
            rw [hfst] at q2
            clear hP hfst HEm HBeh
            have HPc := hid (HPc0.out false)
            have hpk0 := (HRp.out false).2
            have HKE : Hid ((((pick (sizes (T.data.toList.drop p) false)).1 = -1) → (T.extract p T.size).extract 0 (pick (sizes (T.data.toList.drop p) false)).2.toNat = ⟨#[]⟩) ∧ ((pick (sizes (T.data.toList.drop p) false)).1 ≠ -1 → rpieceK (T.data.toList.drop p) false = (pick (sizes (T.data.toList.drop p) false)).1 ∧ ((T.extract p T.size).extract 0 (pick (sizes (T.data.toList.drop p) false)).2.toNat).size = (pick (sizes (T.data.toList.drop p) false)).2.toNat ∧ ((T.extract p T.size).extract 0 (pick (sizes (T.data.toList.drop p) false)).2.toNat).toList.isEmpty = false ∧ (T.extract p T.size).extract 0 (pick (sizes (T.data.toList.drop p) false)).2.toNat = T.extract p (p + ((T.extract p T.size).extract 0 (pick (sizes (T.data.toList.drop p) false)).2.toNat).size))) :=
              piece_ends T p false hD2s q2 hpk0
            generalize rpieceK (T.data.toList.drop p) false = kk at HPc HKE
            generalize (T.extract p T.size).extract 0 (pick (sizes (T.data.toList.drop p) false)).2.toNat = EE at HPc HKE
            generalize pick (sizes (T.data.toList.drop p) false) = pk at q1 q2 HKE hpk0
            clear HPc0 HRp hpk0
            go_wp2_with fail
            refine (HSk.out _).mono ?_
            rintro e w' ⟨rfl, hww⟩
            subst w'
            clear HSk
            go_wp2_with fail
            refine (HPc.out _).mono ?_
            rintro e w3 ⟨rfl, hb3⟩
            have HB3 := hid (HB.out.trans (hb3.mono HB.out.size))
            have y01 := (hb3.cell (World.block_lt_of_cell? _ _ x01)).trans x01
            have y11 := (hb3.cell (World.block_lt_of_cell? _ _ x11)).trans x11
            have HI3 := hid (HI2.out.below HB3.out)
            have hcp := HI3.out.2 p (by omega)
            have hpN : (p : Int) < (N : Int) := by omega
            have hpN2 : p < N := by omega
            have hp0 : (0 : Int) ≤ (p : Int) := by omega
            rw [whereI_in K p (by omega)] at hcp
            have hl3 := hb3.size
            have HOw3 := hid (fun W (h : Below w3.heap.size w3 W) => owns_same HOw0.out (fun g _ hl => ((h.block g (Nat.lt_of_lt_of_le hl hl3)).trans (hb3.block g hl))))
            clear HPc hb3 
            have z1 := Later.cell y11
            have z2 := Later.cell hcp
            have hnn : Nonempty (Later w3) := ⟨⟨_, Below.refl _ _⟩⟩
            by_cases hpk : pk.1 = -1
            · have hE0 := HKE.out.1 hpk
              subst hE0
              have q3 := q1 hpk
              have HR2 : Hid (toksF file s.data.toList = ([], (9, file, whereI K p))) := by show _ = _; rw [HR.out, q3]
              have HFn := hid (fun W hW => HFin.out W hW (.int .i64 9) (.int .i64 file) (.int .i64 (whereI K p)))
              clear q1 q2 q3 hpk HR HKE
              go_wp2_with fail
              refine region_later_tail 8 (by kernel_rfl) (by kernel_rfl) ?_
              simp only [List.take_succ_cons, List.take_zero, List.drop_succ_cons, List.drop_zero]
              repeat (quiet_step (fail))
              refine wpQuiet_nil ?_
              intro p'
              have hbp := HB3.out.trans (p'.hb.mono HB3.out.size)
              have HFp := hid (HFn.out p'.W hbp)
              have k0 := block_facts ((hbp.block _ hFl).trans HF2.out) 0
              have k1 := block_facts ((hbp.block _ hFl).trans HF2.out) 1
              have k2 := block_facts ((hbp.block _ hFl).trans HF2.out) 2
              simp at k0 k1 k2
              obtain ⟨g01, g02⟩ := k0
              obtain ⟨g11, g12⟩ := k1
              obtain ⟨g21, g22⟩ := k2
              generalize p'.W = wp at HFp g01 g11 g21 g02 g12 g22 ⊢
              clear z1 z2 hnn hbp
              go_wp2_with fail
              obtain ⟨g1, g2, _⟩ := HFp.out
              refine bodyPost_ret (rtok_ret g1 ⟨_, _, rfl⟩ ⟨_, _, rfl⟩ ⟨_, _, rfl⟩ _ rfl rfl) rfl ⟨none, 0, ?_, by rw [HR2.out]; exact .inl rfl, g2, by rw [HR2.out]; exact Nat.zero_le _⟩
              rw [HR2.out]; rfl
            · obtain ⟨h5, h6, h7⟩ := q2 hpk
              obtain ⟨hkk, hEs, hEe, hEx⟩ := HKE.out.2 hpk
              rw [← hEs] at h5 h6 h7
              rw [← hkk] at h7
              have HEx := hid hEx
              obtain ⟨q, hq⟩ : ∃ q, p + EE.size = q + 1 := ⟨p + EE.size - 1, by omega⟩
              have H7 := hid h7
              obtain ⟨hwq1, hwq2⟩ := whereI_bd K s.data.toList.length HKb.out q
              rw [size_data] at hwq2
              have hwA : IntKind.i64.wrap ((p : Int) + (EE.size : Int)) = (p : Int) + (EE.size : Int) := by rw [IntKind.wrap_i64]; omega
              have hwB : IntKind.i64.wrap ((p : Int) + (EE.size : Int) - 1) = (q : Int) := by rw [IntKind.wrap_i64]; omega
              have hwC : IntKind.i64.wrap (whereI K q + 1) = whereI K q + 1 := by rw [IntKind.wrap_i64]; omega
              have hqN : (q : Int) < (N : Int) := by omega
              have hqN2 : q < N := by omega
              have hq0 : (0 : Int) ≤ (q : Int) := by omega
              have HLn := hid (fun (k : Int) W => RLine_any s k W (by omega))
              clear q1 q2 hpk HR hkk h7 hEs hEx HKE
              go_wp2_with fail
              have hcq := HI3.out.2 q (by omega)
              rw [whereI_in K q (by omega)] at hcq
              have z3 := Later.cell hcq
              have HL3 : Hid (∀ (k : Int) (p' : Later w3), Calls Try.prog 30 #[.string s, .int .i64 k] p'.W fun e w' => e = .returned (.int .i64 (linesI s.data.toList k)) ∧ Below p'.W.heap.size p'.W w') := fun k p' =>
                (HLn.out k p'.W).mono fun e w' ⟨he, hw⟩ => ⟨he, by rw [hw]; exact Below.refl _ _⟩
              refine region_load_tail 29 (.slice av 0 cv) _ (by kernel_rfl) (by kernel_rfl) rfl (by kernel_rfl) (fun p' => by simp [execOp, go_sem]) ?_
              simp only [List.take_succ_cons, List.take_zero, List.drop_succ_cons, List.drop_zero]
              repeat (quiet_step (first | (go_at_call 30; exact Calls.later (HL3.out _ _))))
              refine wpQuiet_nil ?_
              intro p'
              have hbp := p'.hb
              obtain ⟨wB, hwB⟩ : ∃ wB, p'.W = wB := ⟨_, rfl⟩
              rw [hwB] at hbp ⊢
              have hown := HOw3.out wB hbp
              have hszB := hbp.size
              have hl2 := HB3.out.size
              have HBB := hid (HB3.out.trans (hbp.mono HB3.out.size))
              have HBP := hid hbp
              clear z1 z2 z3 hnn hbp hwB HL3
              go_wp2_with fail
              refine ⟨⟨⟨_, HBP.out.alloc HBP.out.size _⟩, rfl⟩, ?_⟩
              go_wp2_with (at_builtin; refine wpList_append_own _ rfl _ _ 22 rfl w2.heap.size 44 ti _ 11 120 Try.underlying22 hti htz0 htz1 htz2 rfl (by decide) _ _ _ rfl (hown.alloc _) ⟨wB.heap.size, 0, none⟩ 1 1 (encT ⟨kk, EE, decide (0 < z), true, file, whereI K p, whereI K q + 1, linesI s.data.toList (whereI K p)⟩) rfl rfl (eleven_new wB _ _) (eleven_one _) (by unfold maxLen; omega) (by omega) (by simp; omega) ?_)
              intro v' w4 hown2 hg2 _
              have HTk2 : Hid (tkOf file s.data.toList ⟨kk, p, p + EE.size, decide (0 < z), true⟩ = ⟨kk, EE, decide (0 < z), true, file, whereI K p, whereI K q + 1, linesI s.data.toList (whereI K p)⟩) := by
                show _ = _
                unfold tkOf
                rw [HTk.out, HKK.out, ← HEx.out, show (((p + EE.size : Nat) : Int) - 1) = (q : Int) by omega]
              rw [← HTk2.out, ← cellsT_snoc, ← tksOf_snoc] at hown2
              have HN : Hid (RkSt file s.data.toList T w2 (p + EE.size) (acc ++ [⟨kk, p, p + EE.size, decide (0 < z), true⟩]) v' w4) := by
                have hal := HBB.out.alloc HBB.out.size (.cells (encT ⟨kk, EE, decide (0 < z), true, file, whereI K p, whereI K q + 1, linesI s.data.toList (whereI K p)⟩).toArray 44)
                refine ⟨H7.out, by rw [List.length_append, HAn.out]; simp; omega, hal.grown hg2 (by simp; omega) (fun j e => (HOw0.out.lt j e).1), ?_⟩
                rw [List.length_append, HAn.out]
                exact hown2
              obtain ⟨g4, c4, rfl⟩ := some_row hown2 (pos_row hown2)
              clear hown2 hg2 hown HTk2
              go_wp2_with fail
              refine NoPanic.normal ?_
              go_wp2_with fail
              exact ⟨⟨p + EE.size, _, _, by omega, rfl, by go_num, HN.out⟩, by simp [intOf]; omega⟩
          · have hnb : ((n : Int) == 0) = false := by simpa using hn0'
            by_cases hn1 : n = 1
            · subst hn1
              have hP : (!(false || acc.isEmpty) && behind T.data.toList acc) = false := by rw [HEm.out, ← HBeh.out]; unfold behindT; rw [HLT.out]; rfl
              have hfst : (false || acc.isEmpty) = false := by rw [HEm.out]; rfl
              rw [hP] at q1 q2
              rw [hfst] at q2
              clear hP hfst HEm HBeh
              have HPc := hid (HPc0.out false)
              have hpk0 := (HRp.out false).2
              have HKE : Hid ((((pick (sizes (T.data.toList.drop p) false)).1 = -1) → (T.extract p T.size).extract 0 (pick (sizes (T.data.toList.drop p) false)).2.toNat = ⟨#[]⟩) ∧ ((pick (sizes (T.data.toList.drop p) false)).1 ≠ -1 → rpieceK (T.data.toList.drop p) false = (pick (sizes (T.data.toList.drop p) false)).1 ∧ ((T.extract p T.size).extract 0 (pick (sizes (T.data.toList.drop p) false)).2.toNat).size = (pick (sizes (T.data.toList.drop p) false)).2.toNat ∧ ((T.extract p T.size).extract 0 (pick (sizes (T.data.toList.drop p) false)).2.toNat).toList.isEmpty = false ∧ (T.extract p T.size).extract 0 (pick (sizes (T.data.toList.drop p) false)).2.toNat = T.extract p (p + ((T.extract p T.size).extract 0 (pick (sizes (T.data.toList.drop p) false)).2.toNat).size))) :=
                piece_ends T p false hD2s q2 hpk0
              generalize rpieceK (T.data.toList.drop p) false = kk at HPc HKE
              generalize (T.extract p T.size).extract 0 (pick (sizes (T.data.toList.drop p) false)).2.toNat = EE at HPc HKE
              generalize pick (sizes (T.data.toList.drop p) false) = pk at q1 q2 HKE hpk0
              clear HPc0 HRp hpk0
              go_wp2_with fail
              refine (HSk.out _).mono ?_
              rintro e w' ⟨rfl, hww⟩
              subst w'
              clear HSk
              go_wp2_with fail
              refine (HPc.out _).mono ?_
              rintro e w3 ⟨rfl, hb3⟩
              have HB3 := hid (HB.out.trans (hb3.mono HB.out.size))
              have y01 := (hb3.cell (World.block_lt_of_cell? _ _ x01)).trans x01
              have y11 := (hb3.cell (World.block_lt_of_cell? _ _ x11)).trans x11
              have HI3 := hid (HI2.out.below HB3.out)
              have hcp := HI3.out.2 p (by omega)
              have hpN : (p : Int) < (N : Int) := by omega
              have hpN2 : p < N := by omega
              have hp0 : (0 : Int) ≤ (p : Int) := by omega
              rw [whereI_in K p (by omega)] at hcp
              have hl3 := hb3.size
              have HOw3 := hid (fun W (h : Below w3.heap.size w3 W) => owns_same HOw0.out (fun g _ hl => ((h.block g (Nat.lt_of_lt_of_le hl hl3)).trans (hb3.block g hl))))
              clear HPc hb3 
              have z1 := Later.cell y11
              have z2 := Later.cell hcp
              have hnn : Nonempty (Later w3) := ⟨⟨_, Below.refl _ _⟩⟩
              by_cases hpk : pk.1 = -1
              · have hE0 := HKE.out.1 hpk
                subst hE0
                have q3 := q1 hpk
                have HR2 : Hid (toksF file s.data.toList = ([], (9, file, whereI K p))) := by show _ = _; rw [HR.out, q3]
                have HFn := hid (fun W hW => HFin.out W hW (.int .i64 9) (.int .i64 file) (.int .i64 (whereI K p)))
                clear q1 q2 q3 hpk HR HKE
                go_wp2_with fail
                refine region_later_tail 8 (by kernel_rfl) (by kernel_rfl) ?_
                simp only [List.take_succ_cons, List.take_zero, List.drop_succ_cons, List.drop_zero]
                repeat (quiet_step (fail))
                refine wpQuiet_nil ?_
                intro p'
                have hbp := HB3.out.trans (p'.hb.mono HB3.out.size)
                have HFp := hid (HFn.out p'.W hbp)
                have k0 := block_facts ((hbp.block _ hFl).trans HF2.out) 0
                have k1 := block_facts ((hbp.block _ hFl).trans HF2.out) 1
                have k2 := block_facts ((hbp.block _ hFl).trans HF2.out) 2
                simp at k0 k1 k2
                obtain ⟨g01, g02⟩ := k0
                obtain ⟨g11, g12⟩ := k1
                obtain ⟨g21, g22⟩ := k2
                generalize p'.W = wp at HFp g01 g11 g21 g02 g12 g22 ⊢
                clear z1 z2 hnn hbp
                go_wp2_with fail
                obtain ⟨g1, g2, _⟩ := HFp.out
                refine bodyPost_ret (rtok_ret g1 ⟨_, _, rfl⟩ ⟨_, _, rfl⟩ ⟨_, _, rfl⟩ _ rfl rfl) rfl ⟨none, 0, ?_, by rw [HR2.out]; exact .inl rfl, g2, by rw [HR2.out]; exact Nat.zero_le _⟩
                rw [HR2.out]; rfl
              · obtain ⟨h5, h6, h7⟩ := q2 hpk
                obtain ⟨hkk, hEs, hEe, hEx⟩ := HKE.out.2 hpk
                rw [← hEs] at h5 h6 h7
                rw [← hkk] at h7
                have HEx := hid hEx
                obtain ⟨q, hq⟩ : ∃ q, p + EE.size = q + 1 := ⟨p + EE.size - 1, by omega⟩
                have H7 := hid h7
                obtain ⟨hwq1, hwq2⟩ := whereI_bd K s.data.toList.length HKb.out q
                rw [size_data] at hwq2
                have hwA : IntKind.i64.wrap ((p : Int) + (EE.size : Int)) = (p : Int) + (EE.size : Int) := by rw [IntKind.wrap_i64]; omega
                have hwB : IntKind.i64.wrap ((p : Int) + (EE.size : Int) - 1) = (q : Int) := by rw [IntKind.wrap_i64]; omega
                have hwC : IntKind.i64.wrap (whereI K q + 1) = whereI K q + 1 := by rw [IntKind.wrap_i64]; omega
                have hqN : (q : Int) < (N : Int) := by omega
                have hqN2 : q < N := by omega
                have hq0 : (0 : Int) ≤ (q : Int) := by omega
                have HLn := hid (fun (k : Int) W => RLine_any s k W (by omega))
                clear q1 q2 hpk HR hkk h7 hEs hEx HKE
                go_wp2_with fail
                have hcq := HI3.out.2 q (by omega)
                rw [whereI_in K q (by omega)] at hcq
                have z3 := Later.cell hcq
                have HL3 : Hid (∀ (k : Int) (p' : Later w3), Calls Try.prog 30 #[.string s, .int .i64 k] p'.W fun e w' => e = .returned (.int .i64 (linesI s.data.toList k)) ∧ Below p'.W.heap.size p'.W w') := fun k p' =>
                  (HLn.out k p'.W).mono fun e w' ⟨he, hw⟩ => ⟨he, by rw [hw]; exact Below.refl _ _⟩
                refine region_load_tail 29 (.slice av 1 cv) _ (by kernel_rfl) (by kernel_rfl) rfl (by kernel_rfl) (fun p' => by simp [execOp, go_sem]) ?_
                simp only [List.take_succ_cons, List.take_zero, List.drop_succ_cons, List.drop_zero]
                repeat (quiet_step (first | (go_at_call 30; exact Calls.later (HL3.out _ _))))
                refine wpQuiet_nil ?_
                intro p'
                have hbp := p'.hb
                obtain ⟨wB, hwB⟩ : ∃ wB, p'.W = wB := ⟨_, rfl⟩
                rw [hwB] at hbp ⊢
                have hown := HOw3.out wB hbp
                have hszB := hbp.size
                have hl2 := HB3.out.size
                have HBB := hid (HB3.out.trans (hbp.mono HB3.out.size))
                have HBP := hid hbp
                clear z1 z2 z3 hnn hbp hwB HL3
                go_wp2_with fail
                refine ⟨⟨⟨_, HBP.out.alloc HBP.out.size _⟩, rfl⟩, ?_⟩
                go_wp2_with (at_builtin; refine wpList_append_own _ rfl _ _ 22 rfl w2.heap.size 44 ti _ 11 120 Try.underlying22 hti htz0 htz1 htz2 rfl (by decide) _ _ _ rfl (hown.alloc _) ⟨wB.heap.size, 0, none⟩ 1 1 (encT ⟨kk, EE, decide (0 < z), false, file, whereI K p, whereI K q + 1, linesI s.data.toList (whereI K p)⟩) rfl rfl (eleven_new wB _ _) (eleven_one _) (by unfold maxLen; omega) (by omega) (by simp; omega) ?_)
                intro v' w4 hown2 hg2 _
                have HTk2 : Hid (tkOf file s.data.toList ⟨kk, p, p + EE.size, decide (0 < z), false⟩ = ⟨kk, EE, decide (0 < z), false, file, whereI K p, whereI K q + 1, linesI s.data.toList (whereI K p)⟩) := by
                  show _ = _
                  unfold tkOf
                  rw [HTk.out, HKK.out, ← HEx.out, show (((p + EE.size : Nat) : Int) - 1) = (q : Int) by omega]
                rw [← HTk2.out, ← cellsT_snoc, ← tksOf_snoc] at hown2
                have HN : Hid (RkSt file s.data.toList T w2 (p + EE.size) (acc ++ [⟨kk, p, p + EE.size, decide (0 < z), false⟩]) v' w4) := by
                  have hal := HBB.out.alloc HBB.out.size (.cells (encT ⟨kk, EE, decide (0 < z), false, file, whereI K p, whereI K q + 1, linesI s.data.toList (whereI K p)⟩).toArray 44)
                  refine ⟨H7.out, by rw [List.length_append, HAn.out]; simp; omega, hal.grown hg2 (by simp; omega) (fun j e => (HOw0.out.lt j e).1), ?_⟩
                  rw [List.length_append, HAn.out]
                  exact hown2
                obtain ⟨g4, c4, rfl⟩ := some_row hown2 (pos_row hown2)
                clear hown2 hg2 hown HTk2
                go_wp2_with fail
                refine NoPanic.normal ?_
                go_wp2_with fail
                exact ⟨⟨p + EE.size, _, _, by omega, rfl, by go_num, HN.out⟩, by simp [intOf]; omega⟩
            · obtain ⟨m2, rfl⟩ : ∃ m2, n = m2 + 2 := ⟨n - 2, by omega⟩
              have hTA : TAt wr av (tksOf file s.data.toList acc) := by
                have h := HOw0.out
                rw [← HLT.out] at h
                obtain ⟨a, c, h1, h2⟩ := TAt.of_row h
                rw [HLT.out] at h1
                injection h1 with h1 _ _
                first | done | (rw [h1]; exact h2)
              rcases hTA with h | ⟨bb, off, hav, hbb, hc⟩
              · exact absurd HLT.out (by rw [h]; simp)
              subst hav
              have hx0 : (tksOf file s.data.toList acc)[m2]? = some ((tksOf file s.data.toList acc)[m2]'(by rw [HLT.out]; omega)) := List.getElem?_eq_getElem _
              have hx1 : (tksOf file s.data.toList acc)[m2 + 1]? = some ((tksOf file s.data.toList acc)[m2 + 1]'(by rw [HLT.out]; omega)) := List.getElem?_eq_getElem _
              have hc0 := hc m2 _ hx0
              have hc1 := hc (m2 + 1) _ hx1
              have HBe2 : Hid (behind T.data.toList acc = (isHash ((tksOf file s.data.toList acc)[m2]'(by rw [HLT.out]; omega)) && isIncl ((tksOf file s.data.toList acc)[m2 + 1]'(by rw [HLT.out]; omega)))) := by
                show _ = _
                rw [← HBeh.out]
                have key : ∀ (L : List Tk) (x y : Tk), L.length = m2 + 2 → L[m2]? = some x → L[m2 + 1]? = some y → behindT L = (isHash x && isIncl y) := fun L x y h h1 h2 => by
                  unfold behindT
                  rw [h, show m2 + 2 - 2 = m2 by omega, show m2 + 2 - 1 = m2 + 1 by omega]
                  simp [List.getD, h1, h2]
                exact key _ _ _ HLT.out hx0 hx1
              generalize (tksOf file s.data.toList acc)[m2]'(by rw [HLT.out]; omega) = x at hc0 HBe2
              generalize (tksOf file s.data.toList acc)[m2 + 1]'(by rw [HLT.out]; omega) = y at hc1 HBe2
              clear hc hx0 hx1
              obtain ⟨xk, xt, xs, xf, xi, xl, xr, xn⟩ := x
              obtain ⟨yk, yt, ys, yf, yi, yl, yr, yn⟩ := y
              have a1 := hc0 1 _ rfl
              have a3 := hc0 3 _ rfl
              have b1' := hc1 1 _ rfl
              have b3 := hc1 3 _ rfl
              clear hc0 hc1
              unfold isHash isIncl at HBe2
              dsimp only at HBe2
              have hm0 : (0 : Int) ≤ (m2 : Int) := by omega
              have hw0 : IntKind.i64.wrap ((m2 : Int) + 2 - 2) = (m2 : Int) := by rw [IntKind.wrap_i64]; omega
              have hw1 : IntKind.i64.wrap ((m2 : Int) + 2 - 1) = (m2 : Int) + 1 := by rw [IntKind.wrap_i64]; omega
              cases hyt : (yt.toList == [105, 110, 99, 108, 117, 100, 101]) with
              | false =>
                have hP : (!(false || acc.isEmpty) && behind T.data.toList acc) = false := by rw [HEm.out, HBe2.out, hyt]; simp
                have hfst : (false || acc.isEmpty) = false := by rw [HEm.out]; simp
                rw [hP] at q1 q2
                rw [hfst] at q2
                clear hP hfst HEm HBeh HBe2
                have HPc := hid (HPc0.out false)
                have hpk0 := (HRp.out false).2
                have HKE : Hid ((((pick (sizes (T.data.toList.drop p) false)).1 = -1) → (T.extract p T.size).extract 0 (pick (sizes (T.data.toList.drop p) false)).2.toNat = ⟨#[]⟩) ∧ ((pick (sizes (T.data.toList.drop p) false)).1 ≠ -1 → rpieceK (T.data.toList.drop p) false = (pick (sizes (T.data.toList.drop p) false)).1 ∧ ((T.extract p T.size).extract 0 (pick (sizes (T.data.toList.drop p) false)).2.toNat).size = (pick (sizes (T.data.toList.drop p) false)).2.toNat ∧ ((T.extract p T.size).extract 0 (pick (sizes (T.data.toList.drop p) false)).2.toNat).toList.isEmpty = false ∧ (T.extract p T.size).extract 0 (pick (sizes (T.data.toList.drop p) false)).2.toNat = T.extract p (p + ((T.extract p T.size).extract 0 (pick (sizes (T.data.toList.drop p) false)).2.toNat).size))) :=
                  piece_ends T p false hD2s q2 hpk0
                generalize rpieceK (T.data.toList.drop p) false = kk at HPc HKE
                generalize (T.extract p T.size).extract 0 (pick (sizes (T.data.toList.drop p) false)).2.toNat = EE at HPc HKE
                generalize pick (sizes (T.data.toList.drop p) false) = pk at q1 q2 HKE hpk0
                clear HPc0 HRp hpk0
                go_wp2_with fail
                refine (HSk.out _).mono ?_
                rintro e w' ⟨rfl, hww⟩
                subst w'
                clear HSk
                go_wp2_with fail
                first | (go_quiet (fail); go_wp2_with fail) | skip
                refine (HPc.out _).mono ?_
                rintro e w3 ⟨rfl, hb3⟩
                have HB3 := hid (HB.out.trans (hb3.mono HB.out.size))
                have y01 := (hb3.cell (World.block_lt_of_cell? _ _ x01)).trans x01
                have y11 := (hb3.cell (World.block_lt_of_cell? _ _ x11)).trans x11
                have HI3 := hid (HI2.out.below HB3.out)
                have hcp := HI3.out.2 p (by omega)
                have hpN : (p : Int) < (N : Int) := by omega
                have hpN2 : p < N := by omega
                have hp0 : (0 : Int) ≤ (p : Int) := by omega
                rw [whereI_in K p (by omega)] at hcp
                have hl3 := hb3.size
                have HOw3 := hid (fun W (h : Below w3.heap.size w3 W) => owns_same HOw0.out (fun g _ hl => ((h.block g (Nat.lt_of_lt_of_le hl hl3)).trans (hb3.block g hl))))
                clear HPc hb3 a1 a3 b1' b3
                have z1 := Later.cell y11
                have z2 := Later.cell hcp
                have hnn : Nonempty (Later w3) := ⟨⟨_, Below.refl _ _⟩⟩
                by_cases hpk : pk.1 = -1
                · have hE0 := HKE.out.1 hpk
                  subst hE0
                  have q3 := q1 hpk
                  have HR2 : Hid (toksF file s.data.toList = ([], (9, file, whereI K p))) := by show _ = _; rw [HR.out, q3]
                  have HFn := hid (fun W hW => HFin.out W hW (.int .i64 9) (.int .i64 file) (.int .i64 (whereI K p)))
                  clear q1 q2 q3 hpk HR HKE
                  go_wp2_with fail
                  refine region_later_tail 8 (by kernel_rfl) (by kernel_rfl) ?_
                  simp only [List.take_succ_cons, List.take_zero, List.drop_succ_cons, List.drop_zero]
                  repeat (quiet_step (fail))
                  refine wpQuiet_nil ?_
                  intro p'
                  have hbp := HB3.out.trans (p'.hb.mono HB3.out.size)
                  have HFp := hid (HFn.out p'.W hbp)
                  have k0 := block_facts ((hbp.block _ hFl).trans HF2.out) 0
                  have k1 := block_facts ((hbp.block _ hFl).trans HF2.out) 1
                  have k2 := block_facts ((hbp.block _ hFl).trans HF2.out) 2
                  simp at k0 k1 k2
                  obtain ⟨g01, g02⟩ := k0
                  obtain ⟨g11, g12⟩ := k1
                  obtain ⟨g21, g22⟩ := k2
                  generalize p'.W = wp at HFp g01 g11 g21 g02 g12 g22 ⊢
                  clear z1 z2 hnn hbp
                  go_wp2_with fail
                  obtain ⟨g1, g2, _⟩ := HFp.out
                  refine bodyPost_ret (rtok_ret g1 ⟨_, _, rfl⟩ ⟨_, _, rfl⟩ ⟨_, _, rfl⟩ _ rfl rfl) rfl ⟨none, 0, ?_, by rw [HR2.out]; exact .inl rfl, g2, by rw [HR2.out]; exact Nat.zero_le _⟩
                  rw [HR2.out]; rfl
                · obtain ⟨h5, h6, h7⟩ := q2 hpk
                  obtain ⟨hkk, hEs, hEe, hEx⟩ := HKE.out.2 hpk
                  rw [← hEs] at h5 h6 h7
                  rw [← hkk] at h7
                  have HEx := hid hEx
                  obtain ⟨q, hq⟩ : ∃ q, p + EE.size = q + 1 := ⟨p + EE.size - 1, by omega⟩
                  have H7 := hid h7
                  obtain ⟨hwq1, hwq2⟩ := whereI_bd K s.data.toList.length HKb.out q
                  rw [size_data] at hwq2
                  have hwA : IntKind.i64.wrap ((p : Int) + (EE.size : Int)) = (p : Int) + (EE.size : Int) := by rw [IntKind.wrap_i64]; omega
                  have hwB : IntKind.i64.wrap ((p : Int) + (EE.size : Int) - 1) = (q : Int) := by rw [IntKind.wrap_i64]; omega
                  have hwC : IntKind.i64.wrap (whereI K q + 1) = whereI K q + 1 := by rw [IntKind.wrap_i64]; omega
                  have hqN : (q : Int) < (N : Int) := by omega
                  have hqN2 : q < N := by omega
                  have hq0 : (0 : Int) ≤ (q : Int) := by omega
                  have HLn := hid (fun (k : Int) W => RLine_any s k W (by omega))
                  clear q1 q2 hpk HR hkk h7 hEs hEx HKE
                  go_wp2_with fail
                  have hcq := HI3.out.2 q (by omega)
                  rw [whereI_in K q (by omega)] at hcq
                  have z3 := Later.cell hcq
                  have HL3 : Hid (∀ (k : Int) (p' : Later w3), Calls Try.prog 30 #[.string s, .int .i64 k] p'.W fun e w' => e = .returned (.int .i64 (linesI s.data.toList k)) ∧ Below p'.W.heap.size p'.W w') := fun k p' =>
                    (HLn.out k p'.W).mono fun e w' ⟨he, hw⟩ => ⟨he, by rw [hw]; exact Below.refl _ _⟩
                  refine region_load_tail 29 (.slice (some ⟨bb, off, none⟩) (m2 + 2) cv) _ (by kernel_rfl) (by kernel_rfl) rfl (by kernel_rfl) (fun p' => by simp [execOp, go_sem]) ?_
                  simp only [List.take_succ_cons, List.take_zero, List.drop_succ_cons, List.drop_zero]
                  repeat (quiet_step (first | (go_at_call 30; exact Calls.later (HL3.out _ _))))
                  refine wpQuiet_nil ?_
                  intro p'
                  have hbp := p'.hb
                  obtain ⟨wB, hwB⟩ : ∃ wB, p'.W = wB := ⟨_, rfl⟩
                  rw [hwB] at hbp ⊢
                  have hown := HOw3.out wB hbp
                  have hszB := hbp.size
                  have hl2 := HB3.out.size
                  have HBB := hid (HB3.out.trans (hbp.mono HB3.out.size))
                  have HBP := hid hbp
                  clear z1 z2 z3 hnn hbp hwB HL3
                  go_wp2_with fail
                  refine ⟨⟨⟨_, HBP.out.alloc HBP.out.size _⟩, rfl⟩, ?_⟩
                  go_wp2_with (at_builtin; refine wpList_append_own _ rfl _ _ 22 rfl w2.heap.size 44 ti _ 11 120 Try.underlying22 hti htz0 htz1 htz2 rfl (by decide) _ _ _ rfl (hown.alloc _) ⟨wB.heap.size, 0, none⟩ 1 1 (encT ⟨kk, EE, decide (0 < z), false, file, whereI K p, whereI K q + 1, linesI s.data.toList (whereI K p)⟩) rfl rfl (eleven_new wB _ _) (eleven_one _) (by unfold maxLen; omega) (by omega) (by simp; omega) ?_)
                  intro v' w4 hown2 hg2 _
                  have HTk2 : Hid (tkOf file s.data.toList ⟨kk, p, p + EE.size, decide (0 < z), false⟩ = ⟨kk, EE, decide (0 < z), false, file, whereI K p, whereI K q + 1, linesI s.data.toList (whereI K p)⟩) := by
                    show _ = _
                    unfold tkOf
                    rw [HTk.out, HKK.out, ← HEx.out, show (((p + EE.size : Nat) : Int) - 1) = (q : Int) by omega]
                  rw [← HTk2.out, ← cellsT_snoc, ← tksOf_snoc] at hown2
                  have HN : Hid (RkSt file s.data.toList T w2 (p + EE.size) (acc ++ [⟨kk, p, p + EE.size, decide (0 < z), false⟩]) v' w4) := by
                    have hal := HBB.out.alloc HBB.out.size (.cells (encT ⟨kk, EE, decide (0 < z), false, file, whereI K p, whereI K q + 1, linesI s.data.toList (whereI K p)⟩).toArray 44)
                    refine ⟨H7.out, by rw [List.length_append, HAn.out]; simp; omega, hal.grown hg2 (by simp; omega) (fun j e => (HOw0.out.lt j e).1), ?_⟩
                    rw [List.length_append, HAn.out]
                    exact hown2
                  obtain ⟨g4, c4, rfl⟩ := some_row hown2 (pos_row hown2)
                  clear hown2 hg2 hown HTk2
                  go_wp2_with fail
                  refine NoPanic.normal ?_
                  go_wp2_with fail
                  exact ⟨⟨p + EE.size, _, _, by omega, rfl, by go_num, HN.out⟩, by simp [intOf]; omega⟩
              | true =>
                cases yf with
                | true =>
                  have hP : (!(false || acc.isEmpty) && behind T.data.toList acc) = false := by rw [HEm.out, HBe2.out, hyt]; simp
                  have hfst : (false || acc.isEmpty) = false := by rw [HEm.out]; simp
                  rw [hP] at q1 q2
                  rw [hfst] at q2
                  clear hP hfst HEm HBeh HBe2
                  have HPc := hid (HPc0.out false)
                  have hpk0 := (HRp.out false).2
                  have HKE : Hid ((((pick (sizes (T.data.toList.drop p) false)).1 = -1) → (T.extract p T.size).extract 0 (pick (sizes (T.data.toList.drop p) false)).2.toNat = ⟨#[]⟩) ∧ ((pick (sizes (T.data.toList.drop p) false)).1 ≠ -1 → rpieceK (T.data.toList.drop p) false = (pick (sizes (T.data.toList.drop p) false)).1 ∧ ((T.extract p T.size).extract 0 (pick (sizes (T.data.toList.drop p) false)).2.toNat).size = (pick (sizes (T.data.toList.drop p) false)).2.toNat ∧ ((T.extract p T.size).extract 0 (pick (sizes (T.data.toList.drop p) false)).2.toNat).toList.isEmpty = false ∧ (T.extract p T.size).extract 0 (pick (sizes (T.data.toList.drop p) false)).2.toNat = T.extract p (p + ((T.extract p T.size).extract 0 (pick (sizes (T.data.toList.drop p) false)).2.toNat).size))) :=
                    piece_ends T p false hD2s q2 hpk0
                  generalize rpieceK (T.data.toList.drop p) false = kk at HPc HKE
                  generalize (T.extract p T.size).extract 0 (pick (sizes (T.data.toList.drop p) false)).2.toNat = EE at HPc HKE
                  generalize pick (sizes (T.data.toList.drop p) false) = pk at q1 q2 HKE hpk0
                  clear HPc0 HRp hpk0
                  go_wp2_with fail
                  refine (HSk.out _).mono ?_
                  rintro e w' ⟨rfl, hww⟩
                  subst w'
                  clear HSk
                  go_wp2_with fail
                  first | (go_quiet (fail); go_wp2_with fail) | skip
                  refine (HPc.out _).mono ?_
                  rintro e w3 ⟨rfl, hb3⟩
                  have HB3 := hid (HB.out.trans (hb3.mono HB.out.size))
                  have y01 := (hb3.cell (World.block_lt_of_cell? _ _ x01)).trans x01
                  have y11 := (hb3.cell (World.block_lt_of_cell? _ _ x11)).trans x11
                  have HI3 := hid (HI2.out.below HB3.out)
                  have hcp := HI3.out.2 p (by omega)
                  have hpN : (p : Int) < (N : Int) := by omega
                  have hpN2 : p < N := by omega
                  have hp0 : (0 : Int) ≤ (p : Int) := by omega
                  rw [whereI_in K p (by omega)] at hcp
                  have hl3 := hb3.size
                  have HOw3 := hid (fun W (h : Below w3.heap.size w3 W) => owns_same HOw0.out (fun g _ hl => ((h.block g (Nat.lt_of_lt_of_le hl hl3)).trans (hb3.block g hl))))
                  clear HPc hb3 a1 a3 b1' b3
                  have z1 := Later.cell y11
                  have z2 := Later.cell hcp
                  have hnn : Nonempty (Later w3) := ⟨⟨_, Below.refl _ _⟩⟩
                  by_cases hpk : pk.1 = -1
                  · have hE0 := HKE.out.1 hpk
                    subst hE0
                    have q3 := q1 hpk
                    have HR2 : Hid (toksF file s.data.toList = ([], (9, file, whereI K p))) := by show _ = _; rw [HR.out, q3]
                    have HFn := hid (fun W hW => HFin.out W hW (.int .i64 9) (.int .i64 file) (.int .i64 (whereI K p)))
                    clear q1 q2 q3 hpk HR HKE
                    go_wp2_with fail
                    refine region_later_tail 8 (by kernel_rfl) (by kernel_rfl) ?_
                    simp only [List.take_succ_cons, List.take_zero, List.drop_succ_cons, List.drop_zero]
                    repeat (quiet_step (fail))
                    refine wpQuiet_nil ?_
                    intro p'
                    have hbp := HB3.out.trans (p'.hb.mono HB3.out.size)
                    have HFp := hid (HFn.out p'.W hbp)
                    have k0 := block_facts ((hbp.block _ hFl).trans HF2.out) 0
                    have k1 := block_facts ((hbp.block _ hFl).trans HF2.out) 1
                    have k2 := block_facts ((hbp.block _ hFl).trans HF2.out) 2
                    simp at k0 k1 k2
                    obtain ⟨g01, g02⟩ := k0
                    obtain ⟨g11, g12⟩ := k1
                    obtain ⟨g21, g22⟩ := k2
                    generalize p'.W = wp at HFp g01 g11 g21 g02 g12 g22 ⊢
                    clear z1 z2 hnn hbp
                    go_wp2_with fail
                    obtain ⟨g1, g2, _⟩ := HFp.out
                    refine bodyPost_ret (rtok_ret g1 ⟨_, _, rfl⟩ ⟨_, _, rfl⟩ ⟨_, _, rfl⟩ _ rfl rfl) rfl ⟨none, 0, ?_, by rw [HR2.out]; exact .inl rfl, g2, by rw [HR2.out]; exact Nat.zero_le _⟩
                    rw [HR2.out]; rfl
                  · obtain ⟨h5, h6, h7⟩ := q2 hpk
                    obtain ⟨hkk, hEs, hEe, hEx⟩ := HKE.out.2 hpk
                    rw [← hEs] at h5 h6 h7
                    rw [← hkk] at h7
                    have HEx := hid hEx
                    obtain ⟨q, hq⟩ : ∃ q, p + EE.size = q + 1 := ⟨p + EE.size - 1, by omega⟩
                    have H7 := hid h7
                    obtain ⟨hwq1, hwq2⟩ := whereI_bd K s.data.toList.length HKb.out q
                    rw [size_data] at hwq2
                    have hwA : IntKind.i64.wrap ((p : Int) + (EE.size : Int)) = (p : Int) + (EE.size : Int) := by rw [IntKind.wrap_i64]; omega
                    have hwB : IntKind.i64.wrap ((p : Int) + (EE.size : Int) - 1) = (q : Int) := by rw [IntKind.wrap_i64]; omega
                    have hwC : IntKind.i64.wrap (whereI K q + 1) = whereI K q + 1 := by rw [IntKind.wrap_i64]; omega
                    have hqN : (q : Int) < (N : Int) := by omega
                    have hqN2 : q < N := by omega
                    have hq0 : (0 : Int) ≤ (q : Int) := by omega
                    have HLn := hid (fun (k : Int) W => RLine_any s k W (by omega))
                    clear q1 q2 hpk HR hkk h7 hEs hEx HKE
                    go_wp2_with fail
                    have hcq := HI3.out.2 q (by omega)
                    rw [whereI_in K q (by omega)] at hcq
                    have z3 := Later.cell hcq
                    have HL3 : Hid (∀ (k : Int) (p' : Later w3), Calls Try.prog 30 #[.string s, .int .i64 k] p'.W fun e w' => e = .returned (.int .i64 (linesI s.data.toList k)) ∧ Below p'.W.heap.size p'.W w') := fun k p' =>
                      (HLn.out k p'.W).mono fun e w' ⟨he, hw⟩ => ⟨he, by rw [hw]; exact Below.refl _ _⟩
                    refine region_load_tail 29 (.slice (some ⟨bb, off, none⟩) (m2 + 2) cv) _ (by kernel_rfl) (by kernel_rfl) rfl (by kernel_rfl) (fun p' => by simp [execOp, go_sem]) ?_
                    simp only [List.take_succ_cons, List.take_zero, List.drop_succ_cons, List.drop_zero]
                    repeat (quiet_step (first | (go_at_call 30; exact Calls.later (HL3.out _ _))))
                    refine wpQuiet_nil ?_
                    intro p'
                    have hbp := p'.hb
                    obtain ⟨wB, hwB⟩ : ∃ wB, p'.W = wB := ⟨_, rfl⟩
                    rw [hwB] at hbp ⊢
                    have hown := HOw3.out wB hbp
                    have hszB := hbp.size
                    have hl2 := HB3.out.size
                    have HBB := hid (HB3.out.trans (hbp.mono HB3.out.size))
                    have HBP := hid hbp
                    clear z1 z2 z3 hnn hbp hwB HL3
                    go_wp2_with fail
                    refine ⟨⟨⟨_, HBP.out.alloc HBP.out.size _⟩, rfl⟩, ?_⟩
                    go_wp2_with (at_builtin; refine wpList_append_own _ rfl _ _ 22 rfl w2.heap.size 44 ti _ 11 120 Try.underlying22 hti htz0 htz1 htz2 rfl (by decide) _ _ _ rfl (hown.alloc _) ⟨wB.heap.size, 0, none⟩ 1 1 (encT ⟨kk, EE, decide (0 < z), false, file, whereI K p, whereI K q + 1, linesI s.data.toList (whereI K p)⟩) rfl rfl (eleven_new wB _ _) (eleven_one _) (by unfold maxLen; omega) (by omega) (by simp; omega) ?_)
                    intro v' w4 hown2 hg2 _
                    have HTk2 : Hid (tkOf file s.data.toList ⟨kk, p, p + EE.size, decide (0 < z), false⟩ = ⟨kk, EE, decide (0 < z), false, file, whereI K p, whereI K q + 1, linesI s.data.toList (whereI K p)⟩) := by
                      show _ = _
                      unfold tkOf
                      rw [HTk.out, HKK.out, ← HEx.out, show (((p + EE.size : Nat) : Int) - 1) = (q : Int) by omega]
                    rw [← HTk2.out, ← cellsT_snoc, ← tksOf_snoc] at hown2
                    have HN : Hid (RkSt file s.data.toList T w2 (p + EE.size) (acc ++ [⟨kk, p, p + EE.size, decide (0 < z), false⟩]) v' w4) := by
                      have hal := HBB.out.alloc HBB.out.size (.cells (encT ⟨kk, EE, decide (0 < z), false, file, whereI K p, whereI K q + 1, linesI s.data.toList (whereI K p)⟩).toArray 44)
                      refine ⟨H7.out, by rw [List.length_append, HAn.out]; simp; omega, hal.grown hg2 (by simp; omega) (fun j e => (HOw0.out.lt j e).1), ?_⟩
                      rw [List.length_append, HAn.out]
                      exact hown2
                    obtain ⟨g4, c4, rfl⟩ := some_row hown2 (pos_row hown2)
                    clear hown2 hg2 hown HTk2
                    go_wp2_with fail
                    refine NoPanic.normal ?_
                    go_wp2_with fail
                    exact ⟨⟨p + EE.size, _, _, by omega, rfl, by go_num, HN.out⟩, by simp [intOf]; omega⟩
                | false =>
                  cases hxt : (xt.toList == [35]) with
                  | false =>
                    have hP : (!(false || acc.isEmpty) && behind T.data.toList acc) = false := by rw [HEm.out, HBe2.out, hyt, hxt]; simp
                    have hfst : (false || acc.isEmpty) = false := by rw [HEm.out]; simp
                    rw [hP] at q1 q2
                    rw [hfst] at q2
                    clear hP hfst HEm HBeh HBe2
                    have HPc := hid (HPc0.out false)
                    have hpk0 := (HRp.out false).2
                    have HKE : Hid ((((pick (sizes (T.data.toList.drop p) false)).1 = -1) → (T.extract p T.size).extract 0 (pick (sizes (T.data.toList.drop p) false)).2.toNat = ⟨#[]⟩) ∧ ((pick (sizes (T.data.toList.drop p) false)).1 ≠ -1 → rpieceK (T.data.toList.drop p) false = (pick (sizes (T.data.toList.drop p) false)).1 ∧ ((T.extract p T.size).extract 0 (pick (sizes (T.data.toList.drop p) false)).2.toNat).size = (pick (sizes (T.data.toList.drop p) false)).2.toNat ∧ ((T.extract p T.size).extract 0 (pick (sizes (T.data.toList.drop p) false)).2.toNat).toList.isEmpty = false ∧ (T.extract p T.size).extract 0 (pick (sizes (T.data.toList.drop p) false)).2.toNat = T.extract p (p + ((T.extract p T.size).extract 0 (pick (sizes (T.data.toList.drop p) false)).2.toNat).size))) :=
                      piece_ends T p false hD2s q2 hpk0
                    generalize rpieceK (T.data.toList.drop p) false = kk at HPc HKE
                    generalize (T.extract p T.size).extract 0 (pick (sizes (T.data.toList.drop p) false)).2.toNat = EE at HPc HKE
                    generalize pick (sizes (T.data.toList.drop p) false) = pk at q1 q2 HKE hpk0
                    clear HPc0 HRp hpk0
                    go_wp2_with fail
                    refine (HSk.out _).mono ?_
                    rintro e w' ⟨rfl, hww⟩
                    subst w'
                    clear HSk
                    go_wp2_with fail
                    first | (go_quiet (fail); go_wp2_with fail) | skip
                    refine (HPc.out _).mono ?_
                    rintro e w3 ⟨rfl, hb3⟩
                    have HB3 := hid (HB.out.trans (hb3.mono HB.out.size))
                    have y01 := (hb3.cell (World.block_lt_of_cell? _ _ x01)).trans x01
                    have y11 := (hb3.cell (World.block_lt_of_cell? _ _ x11)).trans x11
                    have HI3 := hid (HI2.out.below HB3.out)
                    have hcp := HI3.out.2 p (by omega)
                    have hpN : (p : Int) < (N : Int) := by omega
                    have hpN2 : p < N := by omega
                    have hp0 : (0 : Int) ≤ (p : Int) := by omega
                    rw [whereI_in K p (by omega)] at hcp
                    have hl3 := hb3.size
                    have HOw3 := hid (fun W (h : Below w3.heap.size w3 W) => owns_same HOw0.out (fun g _ hl => ((h.block g (Nat.lt_of_lt_of_le hl hl3)).trans (hb3.block g hl))))
                    clear HPc hb3 a1 a3 b1' b3
                    have z1 := Later.cell y11
                    have z2 := Later.cell hcp
                    have hnn : Nonempty (Later w3) := ⟨⟨_, Below.refl _ _⟩⟩
                    by_cases hpk : pk.1 = -1
                    · have hE0 := HKE.out.1 hpk
                      subst hE0
                      have q3 := q1 hpk
                      have HR2 : Hid (toksF file s.data.toList = ([], (9, file, whereI K p))) := by show _ = _; rw [HR.out, q3]
                      have HFn := hid (fun W hW => HFin.out W hW (.int .i64 9) (.int .i64 file) (.int .i64 (whereI K p)))
                      clear q1 q2 q3 hpk HR HKE
                      go_wp2_with fail
                      refine region_later_tail 8 (by kernel_rfl) (by kernel_rfl) ?_
                      simp only [List.take_succ_cons, List.take_zero, List.drop_succ_cons, List.drop_zero]
                      repeat (quiet_step (fail))
                      refine wpQuiet_nil ?_
                      intro p'
                      have hbp := HB3.out.trans (p'.hb.mono HB3.out.size)
                      have HFp := hid (HFn.out p'.W hbp)
                      have k0 := block_facts ((hbp.block _ hFl).trans HF2.out) 0
                      have k1 := block_facts ((hbp.block _ hFl).trans HF2.out) 1
                      have k2 := block_facts ((hbp.block _ hFl).trans HF2.out) 2
                      simp at k0 k1 k2
                      obtain ⟨g01, g02⟩ := k0
                      obtain ⟨g11, g12⟩ := k1
                      obtain ⟨g21, g22⟩ := k2
                      generalize p'.W = wp at HFp g01 g11 g21 g02 g12 g22 ⊢
                      clear z1 z2 hnn hbp
                      go_wp2_with fail
                      obtain ⟨g1, g2, _⟩ := HFp.out
                      refine bodyPost_ret (rtok_ret g1 ⟨_, _, rfl⟩ ⟨_, _, rfl⟩ ⟨_, _, rfl⟩ _ rfl rfl) rfl ⟨none, 0, ?_, by rw [HR2.out]; exact .inl rfl, g2, by rw [HR2.out]; exact Nat.zero_le _⟩
                      rw [HR2.out]; rfl
                    · obtain ⟨h5, h6, h7⟩ := q2 hpk
                      obtain ⟨hkk, hEs, hEe, hEx⟩ := HKE.out.2 hpk
                      rw [← hEs] at h5 h6 h7
                      rw [← hkk] at h7
                      have HEx := hid hEx
                      obtain ⟨q, hq⟩ : ∃ q, p + EE.size = q + 1 := ⟨p + EE.size - 1, by omega⟩
                      have H7 := hid h7
                      obtain ⟨hwq1, hwq2⟩ := whereI_bd K s.data.toList.length HKb.out q
                      rw [size_data] at hwq2
                      have hwA : IntKind.i64.wrap ((p : Int) + (EE.size : Int)) = (p : Int) + (EE.size : Int) := by rw [IntKind.wrap_i64]; omega
                      have hwB : IntKind.i64.wrap ((p : Int) + (EE.size : Int) - 1) = (q : Int) := by rw [IntKind.wrap_i64]; omega
                      have hwC : IntKind.i64.wrap (whereI K q + 1) = whereI K q + 1 := by rw [IntKind.wrap_i64]; omega
                      have hqN : (q : Int) < (N : Int) := by omega
                      have hqN2 : q < N := by omega
                      have hq0 : (0 : Int) ≤ (q : Int) := by omega
                      have HLn := hid (fun (k : Int) W => RLine_any s k W (by omega))
                      clear q1 q2 hpk HR hkk h7 hEs hEx HKE
                      go_wp2_with fail
                      have hcq := HI3.out.2 q (by omega)
                      rw [whereI_in K q (by omega)] at hcq
                      have z3 := Later.cell hcq
                      have HL3 : Hid (∀ (k : Int) (p' : Later w3), Calls Try.prog 30 #[.string s, .int .i64 k] p'.W fun e w' => e = .returned (.int .i64 (linesI s.data.toList k)) ∧ Below p'.W.heap.size p'.W w') := fun k p' =>
                        (HLn.out k p'.W).mono fun e w' ⟨he, hw⟩ => ⟨he, by rw [hw]; exact Below.refl _ _⟩
                      refine region_load_tail 29 (.slice (some ⟨bb, off, none⟩) (m2 + 2) cv) _ (by kernel_rfl) (by kernel_rfl) rfl (by kernel_rfl) (fun p' => by simp [execOp, go_sem]) ?_
                      simp only [List.take_succ_cons, List.take_zero, List.drop_succ_cons, List.drop_zero]
                      repeat (quiet_step (first | (go_at_call 30; exact Calls.later (HL3.out _ _))))
                      refine wpQuiet_nil ?_
                      intro p'
                      have hbp := p'.hb
                      obtain ⟨wB, hwB⟩ : ∃ wB, p'.W = wB := ⟨_, rfl⟩
                      rw [hwB] at hbp ⊢
                      have hown := HOw3.out wB hbp
                      have hszB := hbp.size
                      have hl2 := HB3.out.size
                      have HBB := hid (HB3.out.trans (hbp.mono HB3.out.size))
                      have HBP := hid hbp
                      clear z1 z2 z3 hnn hbp hwB HL3
                      go_wp2_with fail
                      refine ⟨⟨⟨_, HBP.out.alloc HBP.out.size _⟩, rfl⟩, ?_⟩
                      go_wp2_with (at_builtin; refine wpList_append_own _ rfl _ _ 22 rfl w2.heap.size 44 ti _ 11 120 Try.underlying22 hti htz0 htz1 htz2 rfl (by decide) _ _ _ rfl (hown.alloc _) ⟨wB.heap.size, 0, none⟩ 1 1 (encT ⟨kk, EE, decide (0 < z), false, file, whereI K p, whereI K q + 1, linesI s.data.toList (whereI K p)⟩) rfl rfl (eleven_new wB _ _) (eleven_one _) (by unfold maxLen; omega) (by omega) (by simp; omega) ?_)
                      intro v' w4 hown2 hg2 _
                      have HTk2 : Hid (tkOf file s.data.toList ⟨kk, p, p + EE.size, decide (0 < z), false⟩ = ⟨kk, EE, decide (0 < z), false, file, whereI K p, whereI K q + 1, linesI s.data.toList (whereI K p)⟩) := by
                        show _ = _
                        unfold tkOf
                        rw [HTk.out, HKK.out, ← HEx.out, show (((p + EE.size : Nat) : Int) - 1) = (q : Int) by omega]
                      rw [← HTk2.out, ← cellsT_snoc, ← tksOf_snoc] at hown2
                      have HN : Hid (RkSt file s.data.toList T w2 (p + EE.size) (acc ++ [⟨kk, p, p + EE.size, decide (0 < z), false⟩]) v' w4) := by
                        have hal := HBB.out.alloc HBB.out.size (.cells (encT ⟨kk, EE, decide (0 < z), false, file, whereI K p, whereI K q + 1, linesI s.data.toList (whereI K p)⟩).toArray 44)
                        refine ⟨H7.out, by rw [List.length_append, HAn.out]; simp; omega, hal.grown hg2 (by simp; omega) (fun j e => (HOw0.out.lt j e).1), ?_⟩
                        rw [List.length_append, HAn.out]
                        exact hown2
                      obtain ⟨g4, c4, rfl⟩ := some_row hown2 (pos_row hown2)
                      clear hown2 hg2 hown HTk2
                      go_wp2_with fail
                      refine NoPanic.normal ?_
                      go_wp2_with fail
                      exact ⟨⟨p + EE.size, _, _, by omega, rfl, by go_num, HN.out⟩, by simp [intOf]; omega⟩
                  | true =>
                    cases xf with
                    | false =>
                      have hP : (!(false || acc.isEmpty) && behind T.data.toList acc) = false := by rw [HEm.out, HBe2.out, hyt, hxt]; simp
                      have hfst : (false || acc.isEmpty) = false := by rw [HEm.out]; simp
                      rw [hP] at q1 q2
                      rw [hfst] at q2
                      clear hP hfst HEm HBeh HBe2
                      have HPc := hid (HPc0.out false)
                      have hpk0 := (HRp.out false).2
                      have HKE : Hid ((((pick (sizes (T.data.toList.drop p) false)).1 = -1) → (T.extract p T.size).extract 0 (pick (sizes (T.data.toList.drop p) false)).2.toNat = ⟨#[]⟩) ∧ ((pick (sizes (T.data.toList.drop p) false)).1 ≠ -1 → rpieceK (T.data.toList.drop p) false = (pick (sizes (T.data.toList.drop p) false)).1 ∧ ((T.extract p T.size).extract 0 (pick (sizes (T.data.toList.drop p) false)).2.toNat).size = (pick (sizes (T.data.toList.drop p) false)).2.toNat ∧ ((T.extract p T.size).extract 0 (pick (sizes (T.data.toList.drop p) false)).2.toNat).toList.isEmpty = false ∧ (T.extract p T.size).extract 0 (pick (sizes (T.data.toList.drop p) false)).2.toNat = T.extract p (p + ((T.extract p T.size).extract 0 (pick (sizes (T.data.toList.drop p) false)).2.toNat).size))) :=
                        piece_ends T p false hD2s q2 hpk0
                      generalize rpieceK (T.data.toList.drop p) false = kk at HPc HKE
                      generalize (T.extract p T.size).extract 0 (pick (sizes (T.data.toList.drop p) false)).2.toNat = EE at HPc HKE
                      generalize pick (sizes (T.data.toList.drop p) false) = pk at q1 q2 HKE hpk0
                      clear HPc0 HRp hpk0
                      go_wp2_with fail
                      refine (HSk.out _).mono ?_
                      rintro e w' ⟨rfl, hww⟩
                      subst w'
                      clear HSk
                      go_wp2_with fail
                      first | (go_quiet (fail); go_wp2_with fail) | skip
                      refine (HPc.out _).mono ?_
                      rintro e w3 ⟨rfl, hb3⟩
                      have HB3 := hid (HB.out.trans (hb3.mono HB.out.size))
                      have y01 := (hb3.cell (World.block_lt_of_cell? _ _ x01)).trans x01
                      have y11 := (hb3.cell (World.block_lt_of_cell? _ _ x11)).trans x11
                      have HI3 := hid (HI2.out.below HB3.out)
                      have hcp := HI3.out.2 p (by omega)
                      have hpN : (p : Int) < (N : Int) := by omega
                      have hpN2 : p < N := by omega
                      have hp0 : (0 : Int) ≤ (p : Int) := by omega
                      rw [whereI_in K p (by omega)] at hcp
                      have hl3 := hb3.size
                      have HOw3 := hid (fun W (h : Below w3.heap.size w3 W) => owns_same HOw0.out (fun g _ hl => ((h.block g (Nat.lt_of_lt_of_le hl hl3)).trans (hb3.block g hl))))
                      clear HPc hb3 a1 a3 b1' b3
                      have z1 := Later.cell y11
                      have z2 := Later.cell hcp
                      have hnn : Nonempty (Later w3) := ⟨⟨_, Below.refl _ _⟩⟩
                      by_cases hpk : pk.1 = -1
                      · have hE0 := HKE.out.1 hpk
                        subst hE0
                        have q3 := q1 hpk
                        have HR2 : Hid (toksF file s.data.toList = ([], (9, file, whereI K p))) := by show _ = _; rw [HR.out, q3]
                        have HFn := hid (fun W hW => HFin.out W hW (.int .i64 9) (.int .i64 file) (.int .i64 (whereI K p)))
                        clear q1 q2 q3 hpk HR HKE
                        go_wp2_with fail
                        refine region_later_tail 8 (by kernel_rfl) (by kernel_rfl) ?_
                        simp only [List.take_succ_cons, List.take_zero, List.drop_succ_cons, List.drop_zero]
                        repeat (quiet_step (fail))
                        refine wpQuiet_nil ?_
                        intro p'
                        have hbp := HB3.out.trans (p'.hb.mono HB3.out.size)
                        have HFp := hid (HFn.out p'.W hbp)
                        have k0 := block_facts ((hbp.block _ hFl).trans HF2.out) 0
                        have k1 := block_facts ((hbp.block _ hFl).trans HF2.out) 1
                        have k2 := block_facts ((hbp.block _ hFl).trans HF2.out) 2
                        simp at k0 k1 k2
                        obtain ⟨g01, g02⟩ := k0
                        obtain ⟨g11, g12⟩ := k1
                        obtain ⟨g21, g22⟩ := k2
                        generalize p'.W = wp at HFp g01 g11 g21 g02 g12 g22 ⊢
                        clear z1 z2 hnn hbp
                        go_wp2_with fail
                        obtain ⟨g1, g2, _⟩ := HFp.out
                        refine bodyPost_ret (rtok_ret g1 ⟨_, _, rfl⟩ ⟨_, _, rfl⟩ ⟨_, _, rfl⟩ _ rfl rfl) rfl ⟨none, 0, ?_, by rw [HR2.out]; exact .inl rfl, g2, by rw [HR2.out]; exact Nat.zero_le _⟩
                        rw [HR2.out]; rfl
                      · obtain ⟨h5, h6, h7⟩ := q2 hpk
                        obtain ⟨hkk, hEs, hEe, hEx⟩ := HKE.out.2 hpk
                        rw [← hEs] at h5 h6 h7
                        rw [← hkk] at h7
                        have HEx := hid hEx
                        obtain ⟨q, hq⟩ : ∃ q, p + EE.size = q + 1 := ⟨p + EE.size - 1, by omega⟩
                        have H7 := hid h7
                        obtain ⟨hwq1, hwq2⟩ := whereI_bd K s.data.toList.length HKb.out q
                        rw [size_data] at hwq2
                        have hwA : IntKind.i64.wrap ((p : Int) + (EE.size : Int)) = (p : Int) + (EE.size : Int) := by rw [IntKind.wrap_i64]; omega
                        have hwB : IntKind.i64.wrap ((p : Int) + (EE.size : Int) - 1) = (q : Int) := by rw [IntKind.wrap_i64]; omega
                        have hwC : IntKind.i64.wrap (whereI K q + 1) = whereI K q + 1 := by rw [IntKind.wrap_i64]; omega
                        have hqN : (q : Int) < (N : Int) := by omega
                        have hqN2 : q < N := by omega
                        have hq0 : (0 : Int) ≤ (q : Int) := by omega
                        have HLn := hid (fun (k : Int) W => RLine_any s k W (by omega))
                        clear q1 q2 hpk HR hkk h7 hEs hEx HKE
                        go_wp2_with fail
                        have hcq := HI3.out.2 q (by omega)
                        rw [whereI_in K q (by omega)] at hcq
                        have z3 := Later.cell hcq
                        have HL3 : Hid (∀ (k : Int) (p' : Later w3), Calls Try.prog 30 #[.string s, .int .i64 k] p'.W fun e w' => e = .returned (.int .i64 (linesI s.data.toList k)) ∧ Below p'.W.heap.size p'.W w') := fun k p' =>
                          (HLn.out k p'.W).mono fun e w' ⟨he, hw⟩ => ⟨he, by rw [hw]; exact Below.refl _ _⟩
                        refine region_load_tail 29 (.slice (some ⟨bb, off, none⟩) (m2 + 2) cv) _ (by kernel_rfl) (by kernel_rfl) rfl (by kernel_rfl) (fun p' => by simp [execOp, go_sem]) ?_
                        simp only [List.take_succ_cons, List.take_zero, List.drop_succ_cons, List.drop_zero]
                        repeat (quiet_step (first | (go_at_call 30; exact Calls.later (HL3.out _ _))))
                        refine wpQuiet_nil ?_
                        intro p'
                        have hbp := p'.hb
                        obtain ⟨wB, hwB⟩ : ∃ wB, p'.W = wB := ⟨_, rfl⟩
                        rw [hwB] at hbp ⊢
                        have hown := HOw3.out wB hbp
                        have hszB := hbp.size
                        have hl2 := HB3.out.size
                        have HBB := hid (HB3.out.trans (hbp.mono HB3.out.size))
                        have HBP := hid hbp
                        clear z1 z2 z3 hnn hbp hwB HL3
                        go_wp2_with fail
                        refine ⟨⟨⟨_, HBP.out.alloc HBP.out.size _⟩, rfl⟩, ?_⟩
                        go_wp2_with (at_builtin; refine wpList_append_own _ rfl _ _ 22 rfl w2.heap.size 44 ti _ 11 120 Try.underlying22 hti htz0 htz1 htz2 rfl (by decide) _ _ _ rfl (hown.alloc _) ⟨wB.heap.size, 0, none⟩ 1 1 (encT ⟨kk, EE, decide (0 < z), false, file, whereI K p, whereI K q + 1, linesI s.data.toList (whereI K p)⟩) rfl rfl (eleven_new wB _ _) (eleven_one _) (by unfold maxLen; omega) (by omega) (by simp; omega) ?_)
                        intro v' w4 hown2 hg2 _
                        have HTk2 : Hid (tkOf file s.data.toList ⟨kk, p, p + EE.size, decide (0 < z), false⟩ = ⟨kk, EE, decide (0 < z), false, file, whereI K p, whereI K q + 1, linesI s.data.toList (whereI K p)⟩) := by
                          show _ = _
                          unfold tkOf
                          rw [HTk.out, HKK.out, ← HEx.out, show (((p + EE.size : Nat) : Int) - 1) = (q : Int) by omega]
                        rw [← HTk2.out, ← cellsT_snoc, ← tksOf_snoc] at hown2
                        have HN : Hid (RkSt file s.data.toList T w2 (p + EE.size) (acc ++ [⟨kk, p, p + EE.size, decide (0 < z), false⟩]) v' w4) := by
                          have hal := HBB.out.alloc HBB.out.size (.cells (encT ⟨kk, EE, decide (0 < z), false, file, whereI K p, whereI K q + 1, linesI s.data.toList (whereI K p)⟩).toArray 44)
                          refine ⟨H7.out, by rw [List.length_append, HAn.out]; simp; omega, hal.grown hg2 (by simp; omega) (fun j e => (HOw0.out.lt j e).1), ?_⟩
                          rw [List.length_append, HAn.out]
                          exact hown2
                        obtain ⟨g4, c4, rfl⟩ := some_row hown2 (pos_row hown2)
                        clear hown2 hg2 hown HTk2
                        go_wp2_with fail
                        refine NoPanic.normal ?_
                        go_wp2_with fail
                        exact ⟨⟨p + EE.size, _, _, by omega, rfl, by go_num, HN.out⟩, by simp [intOf]; omega⟩
                    | true =>
                      have hP : (!(false || acc.isEmpty) && behind T.data.toList acc) = true := by rw [HEm.out, HBe2.out, hyt, hxt]; simp
                      have hfst : (false || acc.isEmpty) = false := by rw [HEm.out]; simp
                      rw [hP] at q1 q2
                      rw [hfst] at q2
                      clear hP hfst HEm HBeh HBe2
                      have HPc := hid (HPc0.out true)
                      have hpk0 := (HRp.out true).2
                      have HKE : Hid ((((pick (sizes (T.data.toList.drop p) true)).1 = -1) → (T.extract p T.size).extract 0 (pick (sizes (T.data.toList.drop p) true)).2.toNat = ⟨#[]⟩) ∧ ((pick (sizes (T.data.toList.drop p) true)).1 ≠ -1 → rpieceK (T.data.toList.drop p) true = (pick (sizes (T.data.toList.drop p) true)).1 ∧ ((T.extract p T.size).extract 0 (pick (sizes (T.data.toList.drop p) true)).2.toNat).size = (pick (sizes (T.data.toList.drop p) true)).2.toNat ∧ ((T.extract p T.size).extract 0 (pick (sizes (T.data.toList.drop p) true)).2.toNat).toList.isEmpty = false ∧ (T.extract p T.size).extract 0 (pick (sizes (T.data.toList.drop p) true)).2.toNat = T.extract p (p + ((T.extract p T.size).extract 0 (pick (sizes (T.data.toList.drop p) true)).2.toNat).size))) :=
                        piece_ends T p true hD2s q2 hpk0
                      generalize rpieceK (T.data.toList.drop p) true = kk at HPc HKE
                      generalize (T.extract p T.size).extract 0 (pick (sizes (T.data.toList.drop p) true)).2.toNat = EE at HPc HKE
                      generalize pick (sizes (T.data.toList.drop p) true) = pk at q1 q2 HKE hpk0
                      clear HPc0 HRp hpk0
                      go_wp2_with fail
                      refine (HSk.out _).mono ?_
                      rintro e w' ⟨rfl, hww⟩
                      subst w'
                      clear HSk
                      go_wp2_with fail
                      first | (go_quiet (fail); go_wp2_with fail) | skip
                      refine (HPc.out _).mono ?_
                      rintro e w3 ⟨rfl, hb3⟩
                      have HB3 := hid (HB.out.trans (hb3.mono HB.out.size))
                      have y01 := (hb3.cell (World.block_lt_of_cell? _ _ x01)).trans x01
                      have y11 := (hb3.cell (World.block_lt_of_cell? _ _ x11)).trans x11
                      have HI3 := hid (HI2.out.below HB3.out)
                      have hcp := HI3.out.2 p (by omega)
                      have hpN : (p : Int) < (N : Int) := by omega
                      have hpN2 : p < N := by omega
                      have hp0 : (0 : Int) ≤ (p : Int) := by omega
                      rw [whereI_in K p (by omega)] at hcp
                      have hl3 := hb3.size
                      have HOw3 := hid (fun W (h : Below w3.heap.size w3 W) => owns_same HOw0.out (fun g _ hl => ((h.block g (Nat.lt_of_lt_of_le hl hl3)).trans (hb3.block g hl))))
                      clear HPc hb3 a1 a3 b1' b3
                      have z1 := Later.cell y11
                      have z2 := Later.cell hcp
                      have hnn : Nonempty (Later w3) := ⟨⟨_, Below.refl _ _⟩⟩
                      by_cases hpk : pk.1 = -1
                      · have hE0 := HKE.out.1 hpk
                        subst hE0
                        have q3 := q1 hpk
                        have HR2 : Hid (toksF file s.data.toList = ([], (9, file, whereI K p))) := by show _ = _; rw [HR.out, q3]
                        have HFn := hid (fun W hW => HFin.out W hW (.int .i64 9) (.int .i64 file) (.int .i64 (whereI K p)))
                        clear q1 q2 q3 hpk HR HKE
                        go_wp2_with fail
                        refine region_later_tail 8 (by kernel_rfl) (by kernel_rfl) ?_
                        simp only [List.take_succ_cons, List.take_zero, List.drop_succ_cons, List.drop_zero]
                        repeat (quiet_step (fail))
                        refine wpQuiet_nil ?_
                        intro p'
                        have hbp := HB3.out.trans (p'.hb.mono HB3.out.size)
                        have HFp := hid (HFn.out p'.W hbp)
                        have k0 := block_facts ((hbp.block _ hFl).trans HF2.out) 0
                        have k1 := block_facts ((hbp.block _ hFl).trans HF2.out) 1
                        have k2 := block_facts ((hbp.block _ hFl).trans HF2.out) 2
                        simp at k0 k1 k2
                        obtain ⟨g01, g02⟩ := k0
                        obtain ⟨g11, g12⟩ := k1
                        obtain ⟨g21, g22⟩ := k2
                        generalize p'.W = wp at HFp g01 g11 g21 g02 g12 g22 ⊢
                        clear z1 z2 hnn hbp
                        go_wp2_with fail
                        obtain ⟨g1, g2, _⟩ := HFp.out
                        refine bodyPost_ret (rtok_ret g1 ⟨_, _, rfl⟩ ⟨_, _, rfl⟩ ⟨_, _, rfl⟩ _ rfl rfl) rfl ⟨none, 0, ?_, by rw [HR2.out]; exact .inl rfl, g2, by rw [HR2.out]; exact Nat.zero_le _⟩
                        rw [HR2.out]; rfl
                      · obtain ⟨h5, h6, h7⟩ := q2 hpk
                        obtain ⟨hkk, hEs, hEe, hEx⟩ := HKE.out.2 hpk
                        rw [← hEs] at h5 h6 h7
                        rw [← hkk] at h7
                        have HEx := hid hEx
                        obtain ⟨q, hq⟩ : ∃ q, p + EE.size = q + 1 := ⟨p + EE.size - 1, by omega⟩
                        have H7 := hid h7
                        obtain ⟨hwq1, hwq2⟩ := whereI_bd K s.data.toList.length HKb.out q
                        rw [size_data] at hwq2
                        have hwA : IntKind.i64.wrap ((p : Int) + (EE.size : Int)) = (p : Int) + (EE.size : Int) := by rw [IntKind.wrap_i64]; omega
                        have hwB : IntKind.i64.wrap ((p : Int) + (EE.size : Int) - 1) = (q : Int) := by rw [IntKind.wrap_i64]; omega
                        have hwC : IntKind.i64.wrap (whereI K q + 1) = whereI K q + 1 := by rw [IntKind.wrap_i64]; omega
                        have hqN : (q : Int) < (N : Int) := by omega
                        have hqN2 : q < N := by omega
                        have hq0 : (0 : Int) ≤ (q : Int) := by omega
                        have HLn := hid (fun (k : Int) W => RLine_any s k W (by omega))
                        clear q1 q2 hpk HR hkk h7 hEs hEx HKE
                        go_wp2_with fail
                        have hcq := HI3.out.2 q (by omega)
                        rw [whereI_in K q (by omega)] at hcq
                        have z3 := Later.cell hcq
                        have HL3 : Hid (∀ (k : Int) (p' : Later w3), Calls Try.prog 30 #[.string s, .int .i64 k] p'.W fun e w' => e = .returned (.int .i64 (linesI s.data.toList k)) ∧ Below p'.W.heap.size p'.W w') := fun k p' =>
                          (HLn.out k p'.W).mono fun e w' ⟨he, hw⟩ => ⟨he, by rw [hw]; exact Below.refl _ _⟩
                        refine region_load_tail 29 (.slice (some ⟨bb, off, none⟩) (m2 + 2) cv) _ (by kernel_rfl) (by kernel_rfl) rfl (by kernel_rfl) (fun p' => by simp [execOp, go_sem]) ?_
                        simp only [List.take_succ_cons, List.take_zero, List.drop_succ_cons, List.drop_zero]
                        repeat (quiet_step (first | (go_at_call 30; exact Calls.later (HL3.out _ _))))
                        refine wpQuiet_nil ?_
                        intro p'
                        have hbp := p'.hb
                        obtain ⟨wB, hwB⟩ : ∃ wB, p'.W = wB := ⟨_, rfl⟩
                        rw [hwB] at hbp ⊢
                        have hown := HOw3.out wB hbp
                        have hszB := hbp.size
                        have hl2 := HB3.out.size
                        have HBB := hid (HB3.out.trans (hbp.mono HB3.out.size))
                        have HBP := hid hbp
                        clear z1 z2 z3 hnn hbp hwB HL3
                        go_wp2_with fail
                        refine ⟨⟨⟨_, HBP.out.alloc HBP.out.size _⟩, rfl⟩, ?_⟩
                        go_wp2_with (at_builtin; refine wpList_append_own _ rfl _ _ 22 rfl w2.heap.size 44 ti _ 11 120 Try.underlying22 hti htz0 htz1 htz2 rfl (by decide) _ _ _ rfl (hown.alloc _) ⟨wB.heap.size, 0, none⟩ 1 1 (encT ⟨kk, EE, decide (0 < z), false, file, whereI K p, whereI K q + 1, linesI s.data.toList (whereI K p)⟩) rfl rfl (eleven_new wB _ _) (eleven_one _) (by unfold maxLen; omega) (by omega) (by simp; omega) ?_)
                        intro v' w4 hown2 hg2 _
                        have HTk2 : Hid (tkOf file s.data.toList ⟨kk, p, p + EE.size, decide (0 < z), false⟩ = ⟨kk, EE, decide (0 < z), false, file, whereI K p, whereI K q + 1, linesI s.data.toList (whereI K p)⟩) := by
                          show _ = _
                          unfold tkOf
                          rw [HTk.out, HKK.out, ← HEx.out, show (((p + EE.size : Nat) : Int) - 1) = (q : Int) by omega]
                        rw [← HTk2.out, ← cellsT_snoc, ← tksOf_snoc] at hown2
                        have HN : Hid (RkSt file s.data.toList T w2 (p + EE.size) (acc ++ [⟨kk, p, p + EE.size, decide (0 < z), false⟩]) v' w4) := by
                          have hal := HBB.out.alloc HBB.out.size (.cells (encT ⟨kk, EE, decide (0 < z), false, file, whereI K p, whereI K q + 1, linesI s.data.toList (whereI K p)⟩).toArray 44)
                          refine ⟨H7.out, by rw [List.length_append, HAn.out]; simp; omega, hal.grown hg2 (by simp; omega) (fun j e => (HOw0.out.lt j e).1), ?_⟩
                          rw [List.length_append, HAn.out]
                          exact hown2
                        obtain ⟨g4, c4, rfl⟩ := some_row hown2 (pos_row hown2)
                        clear hown2 hg2 hown HTk2
                        go_wp2_with fail
                        refine NoPanic.normal ?_
                        go_wp2_with fail
                        exact ⟨⟨p + EE.size, _, _, by omega, rfl, by go_num, HN.out⟩, by simp [intOf]; omega⟩

/-- The document's own Tokens, of any text. -/
theorem RTokens_any (file : Int) (s : ByteArray) (w : World) : Calls Try.prog 15 #[.int .i64 file, .string s] w (TokPost file s.data.toList w) := by
  by_cases hs : s.size ≤ 3000
  · exact RTokens_few file s w hs
  · exact RTokens_much file s w (by omega)
end Go.Proofs.Ytkfbhknhjpmomaa
