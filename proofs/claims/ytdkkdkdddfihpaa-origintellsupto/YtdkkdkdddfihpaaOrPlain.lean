/- What stays of a text, told from its head: what the rounds of Begins keep. -/
import Derived.Test.YtdkkdkdddfihpaaLxRef
namespace Go.Proofs.Ytdkkdkdddfihpaa
open Go.RowKit

/-- What stays of a text, from its head, in at most so many steps. -/
def textF : Nat → List UInt8 → List UInt8
  | 0, _ => []
  | f + 1, l => if 0 < l.length then (if goneAt l 0 = 0 then l.getD 0 0 :: textF f (l.drop 1) else textF f (l.drop (goneAt l 0))) else []
def textL (l : List UInt8) : List UInt8 := bytesAt l (kept l)

theorem kept_text (l : List UInt8) : ∀ f i, bytesAt l (keptF l f i) = textF f (l.drop i)
  | 0, i => by simp [keptF, textF, bytesAt]
  | f + 1, i => by
    rw [keptF, textF]
    by_cases hi : i < l.length
    · have hd : 0 < (l.drop i).length := by rw [List.length_drop]; omega
      rw [if_pos hi, if_pos hd, goneAt_drop]
      by_cases hg : goneAt l i = 0
      · rw [if_pos hg, if_pos hg]
        have := kept_text l f (i + 1)
        rw [bytesAt, List.map_cons]
        rw [bytesAt] at this
        rw [this, List.drop_drop]
        congr 1
        simp [List.getD]
      · rw [if_neg hg, if_neg hg, kept_text l f, List.drop_drop]
    · have hd : ¬ 0 < (l.drop i).length := by rw [List.length_drop]; omega
      rw [if_neg hi, if_neg hd]; rfl

theorem textF_more : ∀ f g l, l.length ≤ f → l.length ≤ g → textF f l = textF g l
  | 0, 0, _, _, _ => rfl
  | 0, g + 1, l, h, _ => by rw [textF, textF, if_neg (by omega)]
  | f + 1, 0, l, _, h => by rw [textF, textF, if_neg (by omega)]
  | f + 1, g + 1, l, h1, h2 => by
    rw [textF, textF]
    by_cases hl : 0 < l.length
    · rw [if_pos hl, if_pos hl]
      by_cases hg : goneAt l 0 = 0
      · rw [if_pos hg, if_pos hg, textF_more f g (l.drop 1) (by simp; omega) (by simp; omega)]
      · have := Nat.pos_of_ne_zero hg
        rw [if_neg hg, if_neg hg, textF_more f g (l.drop (goneAt l 0)) (by simp; omega) (by simp; omega)]
    · rw [if_neg hl, if_neg hl]

theorem textL_eq (l : List UInt8) : textL l = textF l.length l := by
  have := kept_text l l.length 0
  rw [List.drop_zero] at this
  exact this
theorem textL_nil : textL [] = [] := rfl
theorem textL_gone (l : List UInt8) (hg : goneAt l 0 ≠ 0) : textL l = textL (l.drop (goneAt l 0)) := by
  have h1 := goneAt_le l 0 hg
  have h2 := Nat.pos_of_ne_zero hg
  obtain ⟨n, hn⟩ : ∃ n, l.length = n + 1 := ⟨l.length - 1, by omega⟩
  rw [textL_eq, textL_eq, hn, textF, if_pos (by omega), if_neg hg]
  exact textF_more _ _ _ (by simp; omega) (by omega)
theorem textL_keep (c : UInt8) (l : List UInt8) (hg : goneAt (c :: l) 0 = 0) : textL (c :: l) = c :: textL l := by
  rw [textL_eq, textL_eq, List.length_cons, textF, if_pos (by simp), if_pos hg]
  rfl

/-- What the rounds of Begins keep. -/
theorem beg_gone (l n : List UInt8) (hg : goneAt l 0 ≠ 0) : n.isPrefixOf (textL (l.drop (goneAt l 0))) = n.isPrefixOf (textL l) := by rw [← textL_gone l hg]
theorem beg_keep (c : UInt8) (l n : List UInt8) (hg : goneAt (c :: l) 0 = 0) : n.isPrefixOf (textL l) = (c :: n).isPrefixOf (textL (c :: l)) := by
  rw [textL_keep c l hg]; simp [List.isPrefixOf]
theorem beg_other (c d : UInt8) (l n : List UInt8) (hg : goneAt (c :: l) 0 = 0) (h : c ≠ d) : (d :: n).isPrefixOf (textL (c :: l)) = false := by
  rw [textL_keep c l hg]; simp [List.isPrefixOf]; intro h2; exact absurd h2.symm h
theorem beg_none (d : UInt8) (n : List UInt8) : (d :: n).isPrefixOf (textL []) = false := rfl
theorem textB_list (s : ByteArray) : (textB s).data.toList = textL s.data.toList := by simp [textB, textL]
theorem size_list (s : ByteArray) : s.data.toList.length = s.size := by simp

theorem list_of (s : ByteArray) (h : 0 < s.size) : s.data.toList = s[0] :: (s.extract 1 s.size).data.toList := by
  rw [extract_data, ← size_list, List.take_length]
  rcases hs : s.data.toList with _ | ⟨c, r⟩
  · rw [← size_list, hs] at h; simp at h
  · have : s.data.toList[0]? = some s[0] := List.getElem?_eq_getElem (by rw [size_list]; exact h)
    rw [hs] at this
    simp at this
    simp [this]
theorem beg_next (s n : ByteArray) (hs : 0 < s.size) (hn : 0 < n.size) (hg : goneAt s.data.toList 0 = 0) : n.data.toList.isPrefixOf (textL s.data.toList) = if s[0] = n[0] then (n.extract 1 n.size).data.toList.isPrefixOf (textL (s.extract 1 s.size).data.toList) else false := by
  rw [list_of s hs] at hg ⊢
  rw [list_of n hn]
  split
  · rename_i h; rw [← h]; exact (beg_keep _ _ _ hg).symm
  · rename_i h; exact beg_other _ _ _ _ hg h
theorem bel_drewN {k : Nat} {w w' : World} (h : Below k w w') : ∀ n, Below k w (w'.drewN n)
  | 0 => h
  | n + 1 => by exact (bel_drewN h n).drew
def strSz : Value → Nat
  | .string s => s.size
  | _ => 0

set_option maxHeartbeats 1000000 in
/-- splice.Begins: whether a text, joined, begins with a name. -/
theorem Begins_any (s n : ByteArray) (w : World) :
    Calls Try.prog 21 #[.string s, .string n] w fun e w' => e = .returned (.bool (n.data.toList.isPrefixOf (textL s.data.toList))) ∧ Below w.heap.size w w' := by
  generalize hB : n.data.toList.isPrefixOf (textL s.data.toList) = B
  have HB := hid hB
  clear hB
  have HG := fun s w => gone_any s w
  go_enter Try.func21, Try.ntmps21
  go_wp2_with fail
  go_loopw [0, 1] (fun x y wr => ∃ (s n : ByteArray), x = .string s ∧ y = .string n ∧ Hid (n.data.toList.isPrefixOf (textL s.data.toList) = B) ∧ Hid (Below w.heap.size w wr)) (fun x _ _ => strSz x)
  case atStart => exact ⟨s, n, rfl, rfl, HB, Below.refl _ _⟩
  case round =>
    obtain ⟨s1, n1, rfl, rfl, HP, HW⟩ := hrel
    have HG1 := HG s1
    by_cases hn : n1.size = 0
    · obtain rfl : n1 = ⟨#[]⟩ := ByteArray.ext (Array.eq_empty_of_size_eq_zero hn)
      have HE := hid (show true = B from HP.out)
      clear hn HP HG
      go_wp2_with fail
      go_ret
      exact ⟨ret_bool HE.out, HW.out⟩
    · have hne : (n1.toList == []) = false := by rw [toList_data]; rw [beq_eq_false_iff_ne]; intro h; exact hn (by rw [← size_list, h]; rfl)
      by_cases hg : goneAt s1.data.toList 0 = 0
      · rw [hg] at HG1
        by_cases hs : s1.size = 0
        · obtain rfl : s1 = ⟨#[]⟩ := ByteArray.ext (Array.eq_empty_of_size_eq_zero hs)
          have HE := hid (show false = B by rw [← HP.out]; rcases h : n1.data.toList with _ | ⟨d, r⟩; (exact absurd (by rw [← size_list, h]; rfl) hn); rfl)
          clear hn HP HG hs hg
          go_wp2_with (go_at_call 20; refine (HG1 _).mono ?_; rintro e w' ⟨rfl, hww⟩; subst w')
          go_quiet (fail)
          go_wp2
          go_ret
          exact ⟨ret_bool HE.out, bel_drewN HW.out _⟩
        · have hse : (s1.toList == []) = false := by rw [toList_data]; rw [beq_eq_false_iff_ne]; intro h; exact hs (by rw [← size_list, h]; rfl)
          have h0 : 0 < s1.size := by omega
          have h1 : 0 < n1.size := by omega
          have HK := hid (beg_next s1 n1 h0 h1 hg)
          rw [HP.out] at HK
          clear hn HP HG hs hg
          by_cases hc : s1[0] = n1[0]
          · go_wp2_with (go_at_call 20; refine (HG1 _).mono ?_; rintro e w' ⟨rfl, hww⟩; subst w')
            rw [if_pos hc] at HK
            go_quiet (fail)
            go_wp2
            go_quiet (fail)
            go_wp2
            go_roundw
            case rel => exact ⟨_, _, rfl, rfl, HK.out.symm, bel_drewN (bel_drewN HW.out _) _⟩
            case measure => simp [strSz, ByteArray.size_extract]; omega
          · rw [if_neg hc] at HK
            have hc1 : ((s1[0].toNat : Int) == (n1[0].toNat : Int)) = false := by rw [beq_eq_false_iff_ne]; intro h; exact hc (UInt8.toNat_inj.1 (by omega))
            have hc2 : ¬ (s1[0].toNat : Int) = (n1[0].toNat : Int) := by intro h; exact hc (UInt8.toNat_inj.1 (by omega))
            go_wp2_with (go_at_call 20; refine (HG1 _).mono ?_; rintro e w' ⟨rfl, hww⟩; subst w')
            go_quiet (fail)
            go_wp2
            go_ret
            exact ⟨ret_bool HK.out.symm, bel_drewN HW.out _⟩
      · have hpos : (0 : Int) < (goneAt s1.data.toList 0 : Int) := by have := Nat.pos_of_ne_zero hg; omega
        have hle := goneAt_le s1.data.toList 0 hg
        rw [size_list, Nat.zero_add] at hle
        have HK := hid (beg_gone s1.data.toList n1.data.toList hg)
        rw [HP.out] at HK
        generalize goneAt s1.data.toList 0 = k at *
        clear hn HP HG hg
        go_wp2_with (go_at_call 20; refine (HG1 _).mono ?_; rintro e w' ⟨rfl, hww⟩; subst w')
        go_roundw
        case rel => exact ⟨_, n1, rfl, rfl, by show _ = _; rw [extract_data, ← size_list, List.take_length]; exact HK.out, HW⟩
        case measure => simp [strSz, ByteArray.size_extract]; omega
end Go.Proofs.Ytdkkdkdddfihpaa
