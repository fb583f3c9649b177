/- The statement SpliceJoined: at every text it returns true. -/
import Derived.Test.YtmonjikjgchloabSpAlive
namespace Go.Proofs.Ytmonjikjgchloab
open Go.RowKit Go.Shelf

/-- No line's end is joined at place i. -/
def okAt (l : List UInt8) (i : Nat) : Prop := ∀ c d, l[i]? = some c → l[i + 1]? = some d → ¬ (c = 92 ∧ (d = 10 ∨ d = 13)) ∧ ¬ (c = 13 ∧ d = 10)

theorem ok_gone (l : List UInt8) (i : Nat) (h : okAt l i) : goneAt l i = 0 := by
  unfold goneAt
  split
  · rename_i h1; exact absurd ⟨rfl, .inl rfl⟩ (h _ _ h1.1 h1.2).1
  · split
    · rename_i h1 h2; exact absurd ⟨rfl, .inr rfl⟩ (h _ _ h2.1 h2.2.1).1
    · split
      · rename_i h1 h2 h3; exact absurd ⟨rfl, rfl⟩ (h _ _ h3.1 h3.2).2
      · rfl

theorem ok_last (l : List UInt8) (i : Nat) (h : l.length ≤ i + 1) : okAt l i := by
  intro c d _ hd
  have := (List.getElem?_eq_some_iff.1 hd).1
  omega

theorem plain_kept (l : List UInt8) (h : ∀ i, i + 1 < l.length → okAt l i) : bytesAt l (kept l) = l := by
  have H : ∀ i ps, Went l i ps → bytesAt l ps = l.take i := by
    intro i ps hw
    induction hw using Went.rounds with
    | start => simp [bytesAt]
    | @gone i ps hw hg ih =>
      exfalso
      apply hg
      by_cases hi : i + 1 < l.length
      · exact ok_gone l i (h i hi)
      · exact ok_gone l i (ok_last l i (by omega))
    | @keep i ps hw hi hg ih =>
      rw [bytesAt_snoc l ps i l[i] (List.getElem?_eq_getElem hi), ih, List.take_add_one, List.getElem?_eq_getElem hi]
      rfl
  rw [H _ _ (went_kept l), List.take_length]

/-- A byte that is never left out. -/
def other (c : UInt8) : Bool := c != 92 && c != 13 && c != 10

theorem gone_others (l : List UInt8) (i : Nat) (h : goneAt l i ≠ 0) : (l.take (i + goneAt l i)).countP other = (l.take i).countP other := by
  have S : ∀ (k : Nat) (c : UInt8), l[k]? = some c → other c = false → (l.take (k + 1)).countP other = (l.take k).countP other := by
    intro k c hk hc
    rw [List.take_add_one, hk, List.countP_append]
    simp [hc]
  unfold goneAt at *
  split at h
  · rename_i h1; rw [if_pos h1, S (i + 1) 10 h1.2 (by decide), S i 92 h1.1 (by decide)]
  · split at h
    · rename_i h1 h2; rw [if_neg h1, if_pos h2, S (i + 2) 10 h2.2.2 (by decide), S (i + 1) 13 h2.2.1 (by decide), S i 92 h2.1 (by decide)]
    · split at h
      · rename_i h1 h2 h3; rw [if_neg h1, if_neg h2, if_pos h3, S i 13 h3.1 (by decide)]
      · exact absurd rfl h

theorem kept_others (l : List UInt8) : (bytesAt l (kept l)).countP other = l.countP other := by
  have H : ∀ i ps, Went l i ps → (bytesAt l ps).countP other = (l.take i).countP other := by
    intro i ps hw
    induction hw using Went.rounds with
    | start => simp [bytesAt]
    | @gone i ps hw hg ih => rw [ih, gone_others l i hg]
    | @keep i ps hw hi hg ih =>
      rw [bytesAt_snoc l ps i l[i] (List.getElem?_eq_getElem hi), List.take_add_one, List.getElem?_eq_getElem hi, List.countP_append, List.countP_append, ih]
      rfl
  rw [H _ _ (went_kept l), List.take_length]

/-- What is joined, as a string. -/
def textB (s : ByteArray) : ByteArray := ⟨(bytesAt s.data.toList (kept s.data.toList)).toArray⟩
theorem textB_size (s : ByteArray) : (textB s).size ≤ s.size := by
  show (bytesAt s.data.toList (kept s.data.toList)).toArray.size ≤ _
  have := (went_kept s.data.toList).few
  rw [size_data] at this
  simpa using this

theorem ok_next {l : List UInt8} {j : Nat} (h : ∀ i, i < j → okAt l i) (hj : okAt l j) : ∀ i, i < j + 1 → okAt l i := fun i hi => by
  by_cases hij : i = j
  · subst hij; exact hj
  · exact h i (by omega)
theorem ok_of (s : ByteArray) (j : Nat) (hj : j + 1 < s.size) (h1 : (s[j].toNat : Int) = 92 → (s[j + 1].toNat : Int) ≠ 10 ∧ (s[j + 1].toNat : Int) ≠ 13) (h2 : (s[j].toNat : Int) = 13 → (s[j + 1].toNat : Int) ≠ 10) : okAt s.data.toList j := by
  intro c d hc hd
  rw [List.getElem?_eq_getElem (by rw [size_data]; omega)] at hc hd
  have hc' : s[j] = c := by injection hc
  have hd' : s[j + 1] = d := by injection hd
  rw [hc', hd'] at h1
  rw [hc', hd'] at h2
  refine ⟨fun ⟨e1, e2⟩ => ?_, fun ⟨e1, e2⟩ => ?_⟩
  · have := h1 (by rw [e1]; rfl)
    rcases e2 with rfl | rfl
    · exact this.1 rfl
    · exact this.2 rfl
  · exact h2 (by rw [e1]; rfl) (by rw [e2]; rfl)

theorem cnt_in (s : ByteArray) (j : Nat) (hj : j < s.size) {r : Nat} (hr : r = (s.data.toList.take j).countP other) (h1 : (s[j].toNat : Int) ≠ 92) (h2 : (s[j].toNat : Int) ≠ 13) (h3 : (s[j].toNat : Int) ≠ 10) : r + 1 = (s.data.toList.take (j + 1)).countP other := by
  rw [List.take_add_one, List.getElem?_eq_getElem (by rw [size_data]; exact hj), List.countP_append, ← hr]
  have : other s.data.toList[j] = true := by
    change other s[j] = true
    simp only [other, Bool.and_eq_true, bne_iff_ne]
    refine ⟨⟨fun h => h1 (by rw [h]; rfl), fun h => h2 (by rw [h]; rfl)⟩, fun h => h3 (by rw [h]; rfl)⟩
  simp only [Option.toList_some, List.countP_singleton, this, if_true]
theorem cnt_out (s : ByteArray) (j : Nat) (hj : j < s.size) {r : Nat} (hr : r = (s.data.toList.take j).countP other) (h : (s[j].toNat : Int) = 92 ∨ (s[j].toNat : Int) = 13 ∨ (s[j].toNat : Int) = 10) : r = (s.data.toList.take (j + 1)).countP other := by
  rw [List.take_add_one, List.getElem?_eq_getElem (by rw [size_data]; exact hj), List.countP_append, ← hr]
  have : other s.data.toList[j] = false := by
    change other s[j] = false
    have H : ∀ k : UInt8, (s[j].toNat : Int) = k.toNat → s[j] = k := fun k hk => UInt8.toNat_inj.1 (by omega)
    rcases h with h | h | h
    · rw [H 92 h]; rfl
    · rw [H 13 h]; rfl
    · rw [H 10 h]; rfl
  rw [Option.toList_some, List.countP_singleton, this]
  rfl

set_option maxRecDepth 100000 in
set_option maxHeartbeats 1000000 in
theorem Joined_walk (s : ByteArray) (w : World) (hs : s.size ≤ 1048576) :
    Calls Try.prog 3 #[.string s] w fun e w' => e = .returned (.bool true) ∧ Below w.heap.size w w' := by
  have HAl := hid (alive_any w)
  have hfew := textB_size s
  have HT := hid (fun w => Text_any s w hs)
  change Hid (∀ w, Calls Try.prog 5 #[.string s] w fun e w' => ∃ b c, e = .returned (.agg #[.string (textB s), .slice (some ⟨b, 0, none⟩) ((kept s.data.toList).length + 1) c]) ∧ IAt w' b (kept s.data.toList ++ [s.size]) ∧ Below w.heap.size w w') at HT
  have HP := hid (fun h => show textB s = s from by rw [textB, plain_kept s.data.toList h])
  have HO := hid (show (textB s).data.toList.countP other = s.data.toList.countP other from kept_others s.data.toList)
  generalize textB s = T at *
  generalize kept s.data.toList ++ [s.size] = A at *
  generalize (kept s.data.toList).length = n at *
  go_enter Try.func3, Try.ntmps3
  go_wp2_with fail
  refine HAl.out.mono ?_
  rintro e w1 ⟨rfl, hb1⟩
  have HB1 := hid hb1
  clear hb1
  go_wp2_with fail
  refine (HT.out w1).mono ?_
  rintro e w2 ⟨b, c, rfl, hI, hb2⟩
  have HB2 := hid (HB1.out.trans (hb2.mono HB1.out.size))
  clear hI hb2 HB1
  go_wp2_with fail
  obtain ⟨q, hq⟩ : ∃ q : Nat, max ((s.size : Int) - 1) 0 = (q : Int) := ⟨s.size - 1, by omega⟩
  have HQ := hid hq
  rw [hq]
  clear hq
  go_loop [4, 18] (fun pv x => ∃ (j : Nat) (pb : Bool), j ≤ q ∧ x = .int .i64 j ∧ pv = .bool pb ∧ Hid (pb = true → ∀ i, i < j → okAt s.data.toList i)) (fun _ x => q - (intOf x).toNat)
  case atStart => exact ⟨0, true, Nat.zero_le _, rfl, rfl, fun _ i h => by omega⟩
  case round =>
    obtain ⟨j, pb, hj, rfl, rfl, HN⟩ := hrel
    by_cases hlt : j < q
    · have hj1 : j + 1 < s.size := by have := HQ.out; omega
      cases pb
      · go_wp2_with fail
        go_round
        case rel => exact ⟨j + 1, false, by omega, by go_num, rfl, fun h => by cases h⟩
        case measure => simp [intOf]; omega
      · have HN' := hid (HN.out rfl)
        clear HN
        go_wp2_with fail
        all_goals go_round
        all_goals first
          | exact ⟨j + 1, false, by omega, by go_num, rfl, fun h => by cases h⟩
          | exact ⟨j + 1, true, by omega, by go_num, rfl, fun _ => ok_next HN'.out (ok_of s j hj1 (by intro h; constructor <;> omega) (by intro h; omega))⟩
          | exact ⟨j + 1, _, by omega, by go_num, rfl, fun hh => ok_next HN'.out (ok_of s j hj1 (by simp only [Bool.and_eq_true, Bool.not_eq_true', beq_eq_false_iff_ne, ne_eq] at hh; intro h; constructor <;> omega) (by simp only [Bool.and_eq_true, Bool.not_eq_true', beq_eq_false_iff_ne, ne_eq] at hh; intro h; omega))⟩
          | (simp [intOf]; omega)
    · have HN2 : Hid (pb = true → T = s) := fun h => HP.out (fun i hi => HN.out h i (by have := HQ.out; rw [size_data] at hi; omega))
      clear HN HP
      cases pb
      · clear HN2
        go_wp2_with fail
        go_loop [6, 67] (fun nv x => ∃ (j r : Nat), j ≤ s.size ∧ x = .int .i64 j ∧ nv = .int .i64 r ∧ r ≤ j ∧ Hid (r = (s.data.toList.take j).countP other)) (fun _ x => s.size - (intOf x).toNat)
        case atStart => exact ⟨0, 0, Nat.zero_le _, rfl, rfl, Nat.le_refl _, rfl⟩
        case round =>
          clear hlt
          obtain ⟨j, r, hj, rfl, rfl, hr, HN⟩ := hrel
          by_cases hlt : j < s.size
          · go_wp2_with fail
            all_goals go_round
            all_goals first
              | exact ⟨j + 1, r + 1, by omega, by go_num, by go_num, by omega, cnt_in s j hlt HN.out (by (try simp only [bne_iff_ne, ne_eq] at *); omega) (by (try simp only [bne_iff_ne, ne_eq] at *); omega) (by (try simp only [bne_iff_ne, ne_eq] at *); omega)⟩
              | exact ⟨j + 1, r, by omega, by go_num, by go_num, by omega, cnt_out s j hlt HN.out (by (try simp only [bne_eq_false_iff_eq] at *); omega)⟩
              | (simp [intOf]; omega)
          · obtain rfl : j = s.size := by omega
            rw [← size_data s, List.take_length] at HN
            go_wp2_with fail
            go_loop [7, 92] (fun nv x => ∃ (j r : Nat), j ≤ T.size ∧ x = .int .i64 j ∧ nv = .int .i64 r ∧ r ≤ j ∧ Hid (r = (T.data.toList.take j).countP other)) (fun _ x => T.size - (intOf x).toNat)
            case atStart => exact ⟨0, 0, Nat.zero_le _, rfl, rfl, Nat.le_refl _, rfl⟩
            case round =>
              clear hlt
              obtain ⟨j, r', hj, rfl, rfl, hr, HM⟩ := hrel
              by_cases hlt : j < T.size
              · go_wp2_with fail
                all_goals go_round
                all_goals first
                  | exact ⟨j + 1, r' + 1, by omega, by go_num, by go_num, by omega, cnt_in T j hlt HM.out (by (try simp only [bne_iff_ne, ne_eq] at *); omega) (by (try simp only [bne_iff_ne, ne_eq] at *); omega) (by (try simp only [bne_iff_ne, ne_eq] at *); omega)⟩
                  | exact ⟨j + 1, r', by omega, by go_num, by go_num, by omega, cnt_out T j hlt HM.out (by (try simp only [bne_eq_false_iff_eq] at *); omega)⟩
                  | (simp [intOf]; omega)
              · obtain rfl : j = T.size := by omega
                rw [← size_data T, List.take_length] at HM
                obtain rfl : r = r' := by rw [HN.out, HM.out, HO.out]
                go_wp2_with fail
                go_ret
                exact ⟨by simp, HB2.out.alloc HB2.out.size _⟩
      · have hts : (T.toList == s.toList) = true := by rw [HN2.out rfl]; simp
        clear HN2
        go_wp2_with fail
        go_loop [6, 67] (fun nv x => ∃ (j r : Nat), j ≤ s.size ∧ x = .int .i64 j ∧ nv = .int .i64 r ∧ r ≤ j ∧ Hid (r = (s.data.toList.take j).countP other)) (fun _ x => s.size - (intOf x).toNat)
        case atStart => exact ⟨0, 0, Nat.zero_le _, rfl, rfl, Nat.le_refl _, rfl⟩
        case round =>
          clear hlt
          obtain ⟨j, r, hj, rfl, rfl, hr, HN⟩ := hrel
          by_cases hlt : j < s.size
          · go_wp2_with fail
            all_goals go_round
            all_goals first
              | exact ⟨j + 1, r + 1, by omega, by go_num, by go_num, by omega, cnt_in s j hlt HN.out (by (try simp only [bne_iff_ne, ne_eq] at *); omega) (by (try simp only [bne_iff_ne, ne_eq] at *); omega) (by (try simp only [bne_iff_ne, ne_eq] at *); omega)⟩
              | exact ⟨j + 1, r, by omega, by go_num, by go_num, by omega, cnt_out s j hlt HN.out (by (try simp only [bne_eq_false_iff_eq] at *); omega)⟩
              | (simp [intOf]; omega)
          · obtain rfl : j = s.size := by omega
            rw [← size_data s, List.take_length] at HN
            go_wp2_with fail
            go_loop [7, 92] (fun nv x => ∃ (j r : Nat), j ≤ T.size ∧ x = .int .i64 j ∧ nv = .int .i64 r ∧ r ≤ j ∧ Hid (r = (T.data.toList.take j).countP other)) (fun _ x => T.size - (intOf x).toNat)
            case atStart => exact ⟨0, 0, Nat.zero_le _, rfl, rfl, Nat.le_refl _, rfl⟩
            case round =>
              clear hlt
              obtain ⟨j, r', hj, rfl, rfl, hr, HM⟩ := hrel
              by_cases hlt : j < T.size
              · go_wp2_with fail
                all_goals go_round
                all_goals first
                  | exact ⟨j + 1, r' + 1, by omega, by go_num, by go_num, by omega, cnt_in T j hlt HM.out (by (try simp only [bne_iff_ne, ne_eq] at *); omega) (by (try simp only [bne_iff_ne, ne_eq] at *); omega) (by (try simp only [bne_iff_ne, ne_eq] at *); omega)⟩
                  | exact ⟨j + 1, r', by omega, by go_num, by go_num, by omega, cnt_out T j hlt HM.out (by (try simp only [bne_eq_false_iff_eq] at *); omega)⟩
                  | (simp [intOf]; omega)
              · obtain rfl : j = T.size := by omega
                rw [← size_data T, List.take_length] at HM
                obtain rfl : r = r' := by rw [HN.out, HM.out, HO.out]
                go_wp2_with fail
                go_ret
                exact ⟨by simp, HB2.out.alloc HB2.out.size _⟩
end Go.Proofs.Ytmonjikjgchloab
